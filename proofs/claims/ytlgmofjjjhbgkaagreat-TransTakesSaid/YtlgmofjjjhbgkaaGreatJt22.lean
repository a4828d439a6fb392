/-
  Either, widening, narrowing, plainly: what they have.
-/
import Derived.Test.YtlgmofjjjhbgkaaGreatJt17
namespace Go.Proofs.YtlgmofjjjhbgkaaGreat
open Go.RowKit
theorem mxs_eq {x y z : Int} (h : (x < y ∧ z = y) ∨ (y ≤ x ∧ z = x)) : mx x y = z := by unfold mx; split <;> omega
theorem mns_eq {x y z : Int} (h : (y < x ∧ z = y) ∨ (x ≤ y ∧ z = x)) : mn x y = z := by unfold mn; split <;> omega
theorem mxs (x y : Int) : (x < y ∧ mx x y = y) ∨ (y ≤ x ∧ mx x y = x) := by unfold mx; split <;> omega
theorem mns (x y : Int) : (y < x ∧ mn x y = y) ∨ (x ≤ y ∧ mn x y = x) := by unfold mn; split <;> omega
theorem nrms (l h : Int) : (h < l ∧ (nrm l h).1 = 1 ∧ (nrm l h).2 = 0) ∨ (l ≤ h ∧ (nrm l h).1 = l ∧ (nrm l h).2 = h) := by
  unfold nrm
  by_cases hc : h < l
  · rw [if_pos hc]; exact .inl ⟨hc, rfl, rfl⟩
  · rw [if_neg hc]; exact .inr ⟨by omega, rfl, rfl⟩
theorem ofP_nrm {l h : Int} (l1 : -2147483648 ≤ l) (h2 : h ≤ 2147483647) : ofP l h = nrm l h := by
  unfold ofP
  rw [mxs_eq (z := l) (by omega), mns_eq (z := h) (by omega)]
theorem join_eq {a0 a1 b0 b1 : Int} (r1 : -2147483648 ≤ a0) (r2 : a1 ≤ 2147483647) (r3 : -2147483648 ≤ b0) (r4 : b1 ≤ 2147483647) : joinP a0 a1 b0 b1 = rjoinP a0 a1 b0 b1 := by
  unfold joinP rjoinP
  by_cases h : a1 < a0
  · rw [if_pos h, if_pos h]; exact ofP_nrm r3 r4
  · rw [if_neg h, if_neg h]
    by_cases h2 : b1 < b0
    · rw [if_pos h2, if_pos h2]; exact ofP_in _ _ r1 r2 (by omega)
    · rw [if_neg h2, if_neg h2]
      have := mns a0 b0
      have := mxs a1 b1
      exact ofP_in _ _ (by omega) (by omega) (by omega)
theorem join_specs (a0 a1 b0 b1 : Int) : (a1 < a0 ∧ b1 < b0 ∧ (rjoinP a0 a1 b0 b1).1 = 1 ∧ (rjoinP a0 a1 b0 b1).2 = 0) ∨ (a1 < a0 ∧ b0 ≤ b1 ∧ (rjoinP a0 a1 b0 b1).1 = b0 ∧ (rjoinP a0 a1 b0 b1).2 = b1) ∨ (a0 ≤ a1 ∧ b1 < b0 ∧ (rjoinP a0 a1 b0 b1).1 = a0 ∧ (rjoinP a0 a1 b0 b1).2 = a1) ∨ (a0 ≤ a1 ∧ b0 ≤ b1 ∧ (rjoinP a0 a1 b0 b1).1 = mn a0 b0 ∧ (rjoinP a0 a1 b0 b1).2 = mx a1 b1) := by
  unfold rjoinP
  by_cases h : a1 < a0
  · rw [if_pos h]
    have := nrms b0 b1
    omega
  · rw [if_neg h]
    by_cases h2 : b1 < b0
    · rw [if_pos h2]; exact .inr (.inr (.inl ⟨by omega, h2, rfl, rfl⟩))
    · rw [if_neg h2]; exact .inr (.inr (.inr ⟨by omega, by omega, rfl, rfl⟩))
end Go.Proofs.YtlgmofjjjhbgkaaGreat
