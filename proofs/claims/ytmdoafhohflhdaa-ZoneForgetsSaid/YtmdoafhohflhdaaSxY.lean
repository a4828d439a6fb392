/-
  How the cells of an element of a slice are kinded, by its type.
-/
import Derived.Orders
namespace Go.Proofs.Ytmdoafhohflhdaa.Sx
inductive K | int (k : IntKind) | bool | str | slice (e : TypeId) | other
def eksOf : List (Nat × List K) → Nat → List K
  | [], _ => []
  | (j, x) :: r, k => if Nat.beq j k then x else eksOf r k
def eks (t : TypeId) : List K := eksOf [(44, [.int .i64, .int .i64, .int .i64, .int .i64]),
  (3, [.int .i64]),
  (22, [.slice 44]),
  (21, [.int .i32])] t
end Go.Proofs.Ytmdoafhohflhdaa.Sx
