/-
  How the cells of an element of a slice are kinded, by its type; the program.
-/
import Derived.Orders
import Derived.Calls
import Derived.Test.YtomodncooiddaaaDoorProg
import Derived.Lib.LaidTab
import Derived.Lib.ItoaNum
namespace Go.Proofs.YtomodncooiddaaaDoor.Sx
inductive K | int (k : IntKind) | bool | str | slice (e : TypeId) | other
def eksOf : List (Nat × List K) → Nat → List K
  | [], _ => []
  | (j, x) :: r, k => if Nat.beq j k then x else eksOf r k
def eks (t : TypeId) : List K := eksOf [(9, [.str]),
  (39, [.int .i64, .str, .str, .int .i64, .int .i64, .str, .slice 34, .int .i64, .int .i64, .int .i64, .str, .slice 34, .int .i64, .int .i64, .str, .slice 34, .slice 39, .slice 39, .slice 60]),
  (26, [.str, .slice 9, .slice 39]),
  (53, [.str, .int .i64, .int .i64, .str, .str, .slice 9]),
  (58, [.str, .slice 55]),
  (34, [.int .i64, .int .i64, .str, .slice 34]),
  (60, [.str, .str, .slice 39]),
  (108, [.str, .int .i64, .int .i64, .str, .str, .slice 9]),
  (111, [.str, .slice 112]),
  (116, [.str, .slice 9, .slice 156]),
  (55, [.int .i64, .str, .int .i64]),
  (65, [.int .i64, .str, .int .i64, .int .i64]),
  (70, [.int .i64, .int .i64]),
  (72, [.int .i64, .int .i64, .int .i64]),
  (75, [.int .i64, .int .i64]),
  (212, [.int .u8]),
  (93, [.bool, .slice 75, .int .i64, .bool] ++ List.replicate 49 (.int .i64) ++ [.slice 75, .slice 212]),
  (97, [.slice 93]),
  (96, [.int .i64, .int .i64, .slice 75]),
  (112, [.int .i64, .str, .int .i64]),
  (156, [.int .i64, .str, .str, .int .i64, .int .i64, .str, .slice 149, .int .i64, .int .i64, .int .i64, .str, .slice 149, .int .i64, .int .i64, .str, .slice 149, .slice 156, .slice 156, .slice 158]),
  (5, [.int .u8]),
  (149, [.int .i64, .int .i64, .str, .slice 149]),
  (158, [.str, .str, .slice 156]),
  (3, [.int .i64])] t
noncomputable def PG : Program := Tryd.prog
/-- The table of the powers of ten: where it lies, and what. -/
def Tabs (g : Nat) (cs : Array Value) : Prop := PG.globalNamed "internal/strconv.uint64pow10" = some g ∧ cs = (Lib.pow10Tab.map fun z => Value.int .u64 z).toArray
/-- Slices of these, written out, of so many elements at least, are known cell by cell. -/
def litTs : List (Nat × Nat) := [(26, 1), (53, 1), (58, 1), (39, 2), (60, 1)]
end Go.Proofs.YtomodncooiddaaaDoor.Sx
