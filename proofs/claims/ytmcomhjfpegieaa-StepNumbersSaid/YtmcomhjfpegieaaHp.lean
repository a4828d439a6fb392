/-
  Of two numbers of 32 bits: what quotient, rest and product are, plainly.
-/
import Derived.Test.YtmcomhjfpegieaaSc
namespace Go.Proofs.Ytmcomhjfpegieaa

/-- The product's part. -/
def Prd (x y p g : Int) : Prop := (p = x * y ∧ g = 0 ∧ x * y ≤ 2147483647) ∨ (p = 0 ∧ g = 2 ∧ x * y < -2147483648) ∨ (p = 0 ∧ g = 2 ∧ 2147483647 < x * y)
/-- The rest's part: its sign. -/
def Sgn (x r : Int) : Prop := r = 0 ∨ (r < 0 ∧ x < 0) ∨ (0 < r ∧ 0 < x)
def Quo (x y q e r f : Int) : Prop := (x ≠ -2147483648 ∨ y ≠ -1) ∧ y ≠ 0 ∧ e = 0 ∧ f = 0 ∧ q * y + r = x ∧ r * r < y * y ∧ Sgn x r ∧ -2147483648 ≤ q ∧ q ≤ 2147483647 ∧ -2147483648 ≤ r ∧ r ≤ 2147483647
theorem prd_of (x y p g : Int) (h6 : opI 6 x y = (p, g)) : Prd x y p g := by
  have e : opI 6 x y = cutI (x * y) := by simp [opI]
  rw [e] at h6
  unfold cutI at h6
  unfold Prd
  split at h6 <;> (injection h6 with a b; subst a; subst b)
  · rename_i hn
    exact .inl ⟨rfl, rfl, hn.2⟩
  · rename_i hn
    by_cases h : x * y < -2147483648
    · exact .inr (.inl ⟨rfl, rfl, h⟩)
    · exact .inr (.inr ⟨rfl, rfl, by omega⟩)
theorem quo_of (x y q e r f : Int) (x1 : -2147483648 ≤ x) (x2 : x ≤ 2147483647) (y1 : -2147483648 ≤ y) (y2 : y ≤ 2147483647) (hy : y ≠ 0) (hn : x ≠ -2147483648 ∨ y ≠ -1) (h7 : opI 7 x y = (q, e)) (h8 : opI 8 x y = (r, f)) : Quo x y q e r f := by
  have e7 : opI 7 x y = cutI (x.tdiv y) := by simp [opI, hy]
  have e8 : opI 8 x y = cutI (x.tmod y) := by simp [opI, hy]
  have hr : (x.tmod y).natAbs < y.natAbs := by
    rw [Int.natAbs_tmod]
    exact Nat.mod_lt _ (by omega)
  have hq : (x.tdiv y).natAbs = x.natAbs / y.natAbs := Int.natAbs_tdiv x y
  have hsum : y * x.tdiv y + x.tmod y = x := Int.mul_tdiv_add_tmod x y
  have hq2 : -2147483648 ≤ x.tdiv y ∧ x.tdiv y ≤ 2147483647 := by
    by_cases h1 : y.natAbs = 1
    · have : y = 1 ∨ y = -1 := by omega
      rcases this with rfl | rfl
      · rw [Int.tdiv_one]; omega
      · rw [show (-1 : Int) = -(1 : Int) from rfl, Int.tdiv_neg, Int.tdiv_one]
        omega
    · have h2 : 2 ≤ y.natAbs := by omega
      have h3 : x.natAbs / y.natAbs ≤ x.natAbs / 2 := Nat.div_le_div_left h2 (by decide)
      omega
  have hs : Sgn x (x.tmod y) := by
    unfold Sgn
    by_cases hx : 0 ≤ x
    · have := Int.tmod_nonneg y hx
      by_cases h0 : x.tmod y = 0
      · exact .inl h0
      · refine .inr (.inr ⟨by omega, ?_⟩)
        by_cases hx0 : x = 0
        · subst hx0; simp at h0
        · omega
    · have := Int.tmod_nonneg y (show 0 ≤ -x by omega)
      rw [Int.neg_tmod] at this
      by_cases h0 : x.tmod y = 0
      · exact .inl h0
      · exact .inr (.inl ⟨by omega, by omega⟩)
  have hsq : x.tmod y * x.tmod y < y * y := by
    rw [← Int.natAbs_mul_self, ← Int.natAbs_mul_self (a := y)]
    exact_mod_cast Nat.mul_lt_mul'' hr hr
  rw [e7] at h7
  rw [e8] at h8
  unfold cutI at h7 h8
  rw [if_pos hq2] at h7
  rw [if_pos ⟨by omega, by omega⟩] at h8
  injection h7 with a b
  injection h8 with c d
  subst a; subst b; subst c; subst d
  exact ⟨hn, hy, rfl, rfl, by rw [Int.mul_comm]; exact hsum, hsq, hs, hq2.1, hq2.2, by omega, by omega⟩
end Go.Proofs.Ytmcomhjfpegieaa
