/-
  How the cells of an element of a slice are kinded, by its type; the program.
-/
import Derived.Orders
import Derived.Calls
import Derived.Test.YtbhbjhejkamlnaaProg
import Derived.Lib.LaidTab
import Derived.Lib.ItoaNum
namespace Go.Proofs.Ytbhbjhejkamlnaa.Sx
inductive K | int (k : IntKind) | bool | str | slice (e : TypeId) | other
def eksOf : List (Nat × List K) → Nat → List K
  | [], _ => []
  | (j, x) :: r, k => if Nat.beq j k then x else eksOf r k
def eks (t : TypeId) : List K := eksOf [(97, [.str, .int .i64, .int .i64, .str, .str, .slice 9]),
  (102, [.str, .slice 106]),
  (87, [.str, .slice 9, .slice 95]),
  (73, [.str, .int .i64, .int .i64, .str, .str, .slice 9]),
  (78, [.str, .slice 81]),
  (54, [.str, .slice 9, .slice 52]),
  (5, [.int .u8]),
  (45, [.int .i64, .int .i64, .str, .slice 45]),
  (9, [.str]),
  (52, [.int .i64, .str, .str, .int .i64, .int .i64, .str, .slice 45, .int .i64, .int .i64, .int .i64, .str, .slice 45, .int .i64, .int .i64, .str, .slice 45, .slice 52, .slice 52, .slice 128]),
  (128, [.str, .str, .slice 52]),
  (115, [.int .i64, .str, .int .i64, .int .i64]),
  (123, [.int .i64, .str, .int .i64, .int .i64]),
  (81, [.int .i64, .str, .int .i64]),
  (95, [.int .i64, .str, .str, .int .i64, .int .i64, .str, .slice 90, .int .i64, .int .i64, .int .i64, .str, .slice 90, .int .i64, .int .i64, .str, .slice 90, .slice 95, .slice 95, .slice 135]),
  (90, [.int .i64, .int .i64, .str, .slice 90]),
  (135, [.str, .str, .slice 95]),
  (106, [.int .i64, .str, .int .i64]),
  (49, [.slice 52])] t
noncomputable def PG : Program := Try.prog
def Tabs (_ : Nat) (_ : Array Value) : Prop := False
/-- Slices of these, written out, of so many elements at least, are known cell by cell. -/
def litTs : List (Nat × Nat) := []
end Go.Proofs.Ytbhbjhejkamlnaa.Sx
