/-
  ItvTests: plain mathematics: where a comparison holds, told by its ends.
-/
import Derived.Test.YtkicilkegeckeaaIu
import Derived.Test.YtkicilkegeckeaaEd
namespace Go.Proofs.Ytkicilkegeckeaa
open Go.RowKit

theorem ofP_or (l h L H : Int) (e : ofP l h = (L, H)) : (L = 1 ∧ H = 0 ∧ (h < l ∨ h < -2147483648 ∨ 2147483647 < l)) ∨ (L ≤ H ∧ (L = l ∧ -2147483648 ≤ l ∨ L = -2147483648 ∧ l < -2147483648) ∧ (H = h ∧ h ≤ 2147483647 ∨ H = 2147483647 ∧ 2147483647 < h)) := by
  unfold ofP nrm mx mn at e
  by_cases h1 : l < -2147483648 <;> by_cases h2 : 2147483647 < h <;> simp only [h1, h2, if_true, if_false] at e <;> split at e <;> (injection e with e1 e2; omega)
theorem mn_or (x y : Int) : (mn x y = x ∧ x ≤ y) ∨ (mn x y = y ∧ y ≤ x) := by unfold mn; split <;> omega
theorem mx_or (x y : Int) : (mx x y = x ∧ y ≤ x) ∨ (mx x y = y ∧ x ≤ y) := by unfold mx; split <;> omega
/-- What edges wants of what Test told. -/
def Edg (ok : Int → Bool) (a0 a1 x0 x1 : Int) : Prop := (∀ n, a0 ≤ n → n ≤ a1 → ok n = true → x0 ≤ n ∧ n ≤ x1) ∧ (∀ n, a0 ≤ n → n ≤ a1 → (n = x0 ∨ n = x1) → x0 ≤ n ∧ n ≤ x1 → ok n = true) ∧ ((x0 = 1 ∧ x1 = 0) ∨ (x0 ≤ x1 ∧ a0 ≤ x0 ∧ x1 ≤ a1))
/-- Does a comparison of a number hold with some number from b0 to b1? -/
def okP (k b0 b1 n : Int) : Bool := if k = 1 then decide (b0 ≤ n ∧ n ≤ b1) else if k = 2 then (b0 != n || b1 != n) else if k = 3 then decide (n < b1) else if k = 4 then decide (n ≤ b1) else if k = 5 then decide (b0 < n) else decide (b0 ≤ n)
/-- What Test makes of the first one. -/
def testP (k a0 a1 b0 b1 : Int) : Int × Int := if k = 1 then meetP a0 a1 b0 b1 else if k = 2 then unlikeP a0 a1 b0 b1 else if k = 3 then underA a0 a1 b0 b1 1 else if k = 4 then underA a0 a1 b0 b1 0 else if k = 5 then underB b0 b1 a0 a1 1 else underB b0 b1 a0 a1 0
theorem edg_any (k a0 a1 b0 b1 : Int) (hk1 : 1 ≤ k) (hk6 : k ≤ 6) (ha : a0 ≤ a1) (hb : b0 ≤ b1) (r1 : -2147483648 ≤ a0) (r2 : a1 ≤ 2147483647) (r3 : -2147483648 ≤ b0) (r4 : b1 ≤ 2147483647) :
    Edg (okP k b0 b1) a0 a1 (testP k a0 a1 b0 b1).1 (testP k a0 a1 b0 b1).2 := by
  have hk : k = 1 ∨ k = 2 ∨ k = 3 ∨ k = 4 ∨ k = 5 ∨ k = 6 := by omega
  have key : ∀ (ok : Int → Prop) (l h x0 x1 : Int), ofP l h = (x0, x1) → (∀ n, a0 ≤ n → n ≤ a1 → (ok n ↔ l ≤ n ∧ n ≤ h)) → (a0 ≤ l) → (h ≤ a1) → 
      (∀ n, a0 ≤ n → n ≤ a1 → ok n → x0 ≤ n ∧ n ≤ x1) ∧ (∀ n, a0 ≤ n → n ≤ a1 → (n = x0 ∨ n = x1) → x0 ≤ n ∧ n ≤ x1 → ok n) ∧ ((x0 = 1 ∧ x1 = 0) ∨ (x0 ≤ x1 ∧ a0 ≤ x0 ∧ x1 ≤ a1)) := by
    intro ok l h x0 x1 e hok hl hh
    have t := ofP_or l h x0 x1 e
    refine ⟨fun n h1 h2 h3 => ?_, fun n h1 h2 h3 h4 => ?_, by omega⟩
    · have := (hok n h1 h2).1 h3; omega
    · exact (hok n h1 h2).2 (by omega)
  rcases hk with rfl | rfl | rfl | rfl | rfl | rfl
  · have := mx_or a0 b0
    have := mn_or a1 b1
    have t := key (fun n => okP 1 b0 b1 n = true) (mx a0 b0) (mn a1 b1) _ _ rfl (fun n h1 h2 => by simp [okP, -Int.sub_zero, -Int.add_zero]; omega) (by omega) (by omega)
    exact t
  · -- unlike
    unfold Edg testP unlikeP okP
    simp only [show (2 : Int) ≠ 1 from by decide, if_true, if_false]
    by_cases hbb : b0 = b1
    · subst hbb
      simp only [if_true]
      by_cases h0 : b0 = a0
      · subst h0
        simp only [if_true]
        exact key (fun n => (b0 != n || b0 != n) = true) (b0 + 1) a1 _ _ rfl (fun n h1 h2 => by simp; omega) (by omega) (by omega)
      · simp only [h0, if_false]
        by_cases h1 : b0 = a1
        · subst h1
          simp only [if_true]
          exact key (fun n => (b0 != n || b0 != n) = true) a0 (b0 - 1) _ _ rfl (fun n h1 h2 => by simp; omega) (by omega) (by omega)
        · simp only [h1, if_false]
          have t := ofP_or a0 a1 (ofP a0 a1).1 (ofP a0 a1).2 rfl
          refine ⟨fun n h1 h2 h3 => by omega, fun n h1 h2 h3 h4 => ?_, by omega⟩
          simp
          omega
    · simp only [hbb, if_false]
      have t := ofP_or a0 a1 (ofP a0 a1).1 (ofP a0 a1).2 rfl
      refine ⟨fun n h1 h2 h3 => by omega, fun n h1 h2 h3 h4 => ?_, by omega⟩
      simp
      omega
  · have := mn_or a1 (b1 - 1)
    exact key (fun n => okP 3 b0 b1 n = true) a0 (mn a1 (b1 - 1)) _ _ rfl (fun n h1 h2 => by simp [okP, -Int.sub_zero, -Int.add_zero]; omega) (by omega) (by omega)
  · have := mn_or a1 (b1 - 0)
    exact key (fun n => okP 4 b0 b1 n = true) a0 (mn a1 (b1 - 0)) _ _ rfl (fun n h1 h2 => by simp [okP, -Int.sub_zero, -Int.add_zero]; omega) (by omega) (by omega)
  · have := mx_or a0 (b0 + 1)
    exact key (fun n => okP 5 b0 b1 n = true) (mx a0 (b0 + 1)) a1 _ _ rfl (fun n h1 h2 => by simp [okP, -Int.sub_zero, -Int.add_zero]; omega) (by omega) (by omega)
  · have := mx_or a0 (b0 + 0)
    exact key (fun n => okP 6 b0 b1 n = true) (mx a0 (b0 + 0)) a1 _ _ rfl (fun n h1 h2 => by simp [okP, -Int.sub_zero, -Int.add_zero]; omega) (by omega) (by omega)
end Go.Proofs.Ytkicilkegeckeaa
