/-
  queue's smallest calls.
-/
import Derived.Test.YtbcbcambkjhhhaaId
namespace Go.Proofs.Ytbcbcambkjhhhaa
open Go.RowKit
theorem isPlace_any (at' count : Int) (w : World) : Calls Try.prog 75 #[.int .i64 at', .int .i64 count] w fun e w' => e = .returned (.bool (decide (0 ≤ at' ∧ at' < count))) ∧ w = w' := by
  by_cases h : 0 ≤ at'
  · have hd := decide_eq_true h
    go_enter Try.func75, Try.ntmps75
    go_wp2
    go_ret
    exact ⟨by simp [h], rfl⟩
  · have hd := decide_eq_false h
    go_enter Try.func75, Try.ntmps75
    go_wp2
    go_ret
    exact ⟨by simp, rfl⟩
/-- One more, as long as there is one. -/
def moreP (n most : Int) : Int := if n < most then n + 1 else most
theorem oneMore_any (n most : Int) (w : World) (h1 : -9223372036854775808 ≤ n) (h2 : most ≤ 9223372036854775807) : Calls Try.prog 81 #[.int .i64 n, .int .i64 most] w fun e w' => e = .returned (.int .i64 (moreP n most)) ∧ w = w' := by
  unfold moreP
  by_cases h : n < most
  · have hd := decide_eq_true h
    have b1 : n + 1 ≤ 9223372036854775807 := by omega
    rw [if_pos h]
    go_enter Try.func81, Try.ntmps81
    go_wp2
    go_ret
    exact ⟨by first | rfl | (simp; done) | (simp [wrap64]; omega), rfl⟩
  · have hd := decide_eq_false h
    rw [if_neg h]
    go_enter Try.func81, Try.ntmps81
    go_wp2
    go_ret
    exact ⟨rfl, rfl⟩
end Go.Proofs.Ytbcbcambkjhhhaa
