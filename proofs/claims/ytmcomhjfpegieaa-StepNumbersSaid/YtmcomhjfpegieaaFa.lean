/-
  check's small tests: a place, a variable, nothing, of an expression and of a statement.
-/
import Derived.Test.YtmcomhjfpegieaaChecked
import Derived.WalkKit
import Derived.ProofKit
import Derived.Below
import Derived.Handy
import Derived.Lib.Hide
import Derived.IntWalk
namespace Go.Proofs.Ytmcomhjfpegieaa
open Go.RowKit

theorem place_yes (x n : Int) (w : World) (h0 : 0 ≤ x) (h1 : x < n) :
    Calls Try.prog 68 #[.int .i64 x, .int .i64 n] w fun e w' => e = .returned (.bool true) ∧ w = w' := by
  go_enter Try.func68, Try.ntmps68
  go_wp2
  go_ret
  exact ⟨by simp [h1], rfl⟩

theorem var_yes (A : Option Addr) (n c : Nat) (p v x : Int) (w : World) (h0 : 0 ≤ x) (h1 : x < v) :
    Calls Try.prog 76 #[.agg #[.slice A n c, .int .i64 p, .int .i64 v], .int .i64 x] w fun e w' => e = .returned (.bool true) ∧ Below w.heap.size w w' := by
  go_enter Try.func76, Try.ntmps76
  go_wp2_with (go_at_call 68; refine (place_yes _ _ _ h0 h1).mono ?_; rintro e w' ⟨rfl, rfl⟩)
  go_ret
  exact ⟨rfl, by go_grown⟩

theorem exprNothing_any (w : World) :
    Calls Try.prog 84 #[.agg #[.int .i64 0, .int .i64 0, .int .i64 0, .slice none 0 0]] w fun e w' => e = .returned (.bool true) ∧ Below w.heap.size w w' := by
  go_enter Try.func84, Try.ntmps84
  go_wp2
  go_ret
  exact ⟨rfl, by go_grown⟩

theorem noExpr_any (w : World) :
    Calls Try.prog 53 #[.agg #[.int .i64 0, .int .i64 0, .int .i64 0, .slice none 0 0]] w fun e w' => e = .returned (.bool true) ∧ Below w.heap.size w w' := by
  go_enter Try.func53, Try.ntmps53
  go_wp2
  go_ret
  exact ⟨rfl, by go_grown⟩

theorem exprNum_any (A : Option Addr) (n c : Nat) (p v x : Int) (w : World) (h0 : 0 ≤ x) (h1 : x ≤ 2147483647) :
    Calls Try.prog 77 #[.agg #[.slice A n c, .int .i64 p, .int .i64 v], .agg #[.int .i64 1, .int .i64 x, .int .i64 0, .slice none 0 0]] w fun e w' => e = .returned (.bool true) ∧ Below w.heap.size w w' := by
  go_enter Try.func77, Try.ntmps77
  go_wp2
  go_ret
  exact ⟨by simp [h1], by go_grown⟩
end Go.Proofs.Ytmcomhjfpegieaa
