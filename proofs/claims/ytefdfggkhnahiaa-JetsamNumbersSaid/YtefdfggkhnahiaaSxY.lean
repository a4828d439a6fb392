/-
  How the cells of an element of a slice are kinded, by its type.
-/
import Derived.Orders
namespace Go.Proofs.Ytefdfggkhnahiaa.Sx
inductive K | int (k : IntKind) | bool | str | slice (e : TypeId) | other
def eksOf : List (Nat × List K) → Nat → List K
  | [], _ => []
  | (j, x) :: r, k => if Nat.beq j k then x else eksOf r k
def eks (t : TypeId) : List K := eksOf [(50, [.int .i64, .int .i64, .int .i64, .int .i64, .int .i64, .int .i64]),
  (53, [.int .i64, .int .i64]),
  (3, [.int .i64]),
  (5, [.int .u8])] t
end Go.Proofs.Ytefdfggkhnahiaa.Sx
