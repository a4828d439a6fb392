/-
  How the cells of an element of a slice are kinded, by its type; the program.
-/
import Derived.Orders
import Derived.Calls
import Derived.Test.YtehblppfclpojaaDoorProg
namespace Go.Proofs.YtehblppfclpojaaDoor.Sx
inductive K | int (k : IntKind) | bool | str | slice (e : TypeId) | other
def eksOf : List (Nat × List K) → Nat → List K
  | [], _ => []
  | (j, x) :: r, k => if Nat.beq j k then x else eksOf r k
def eks (t : TypeId) : List K := eksOf [(25, [.int .i64, .int .i64, .str, .slice 25]),
  (31, [.int .i64, .str, .str, .int .i64, .int .i64, .str, .slice 25, .int .i64, .int .i64, .int .i64, .str, .slice 25, .int .i64, .int .i64, .str, .slice 25, .slice 31, .slice 31, .slice 64]),
  (64, [.str, .str, .slice 31]),
  (81, [.str, .int .i64, .int .i64, .str, .str, .slice 9]),
  (84, [.str, .slice 85]),
  (89, [.str, .slice 9, .slice 108]),
  (9, [.str]),
  (43, [.str, .slice 9, .slice 31]),
  (55, [.str, .int .i64, .int .i64, .str, .str, .slice 9]),
  (60, [.str, .slice 57]),
  (57, [.int .i64, .str, .int .i64]),
  (69, [.int .i64, .str, .int .i64, .int .i64]),
  (5, [.int .u8]),
  (85, [.int .i64, .str, .int .i64]),
  (108, [.int .i64, .str, .str, .int .i64, .int .i64, .str, .slice 101, .int .i64, .int .i64, .int .i64, .str, .slice 101, .int .i64, .int .i64, .str, .slice 101, .slice 108, .slice 108, .slice 110]),
  (101, [.int .i64, .int .i64, .str, .slice 101]),
  (110, [.str, .str, .slice 108])] t
noncomputable def PG : Program := Tryd.prog
end Go.Proofs.YtehblppfclpojaaDoor.Sx
