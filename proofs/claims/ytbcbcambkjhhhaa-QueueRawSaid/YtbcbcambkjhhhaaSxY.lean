/-
  How the cells of an element of a slice are kinded, by its type.
-/
import Derived.Orders
namespace Go.Proofs.Ytbcbcambkjhhhaa.Sx
inductive K | int (k : IntKind) | bool | str | slice (e : TypeId) | other
def eksOf : List (Nat × List K) → Nat → List K
  | [], _ => []
  | (j, x) :: r, k => if Nat.beq j k then x else eksOf r k
def eks (t : TypeId) : List K := eksOf [(24, [.int .i64, .int .i64, .int .i64, .slice 24]),
  (3, [.int .i64]),
  (32, [.int .i64, .int .i64, .int .i64, .slice 32]),
  (149, [.int .i64, .int .i64, .int .i64]),
  (60, [.int .i64, .int .i64]),
  (48, [.int .i64, .int .i64]),
  (52, [.int .i64, .int .i64]),
  (61, [.int .i64, .int .i64]),
  (26, [.slice 3]),
  (21, [.int .i32]),
  (71, [.int .i64, .int .i64, .int .i64, .int .i64, .int .i64, .slice 26]),
  (58, [.slice 61]),
  (5, [.int .u8])] t
end Go.Proofs.Ytbcbcambkjhhhaa.Sx
