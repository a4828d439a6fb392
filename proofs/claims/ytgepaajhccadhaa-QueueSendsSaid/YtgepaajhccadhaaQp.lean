/-
  QueueHas: what is told behind a send has what was had, and the message more.
-/
import Derived.Test.YtgepaajhccadhaaQn
import Derived.Test.YtgepaajhccadhaaIy
namespace Go.Proofs.Ytgepaajhccadhaa
open Go.RowKit
/-- An Itv that can be: none, or numbers that can be. -/
def ItvIn (p : Int × Int) : Prop := p = (1, 0) ∨ (-2147483648 ≤ p.1 ∧ p.1 ≤ p.2 ∧ p.2 ≤ 2147483647)
theorem join_one {x0 x1 v : Int} (hx : ItvIn (x0, x1)) (h1 : -2147483648 ≤ v) (h2 : v ≤ 2147483647) : ∃ y0 y1, joinP x0 x1 v v = (y0, y1) ∧ ItvIn (y0, y1) ∧ y0 ≤ v ∧ v ≤ y1 ∧ (x1 < x0 ∨ (y0 ≤ x0 ∧ x1 ≤ y1)) := by
  refine ⟨(joinP x0 x1 v v).1, (joinP x0 x1 v v).2, rfl, ?_⟩
  rcases hx with h | ⟨r1, r2, r3⟩
  · cases h
    rw [join_eq (by omega) (by omega) h1 h2]
    have sj := join_specs 1 0 v v
    unfold ItvIn
    simp only
    omega
  · simp only at r1 r2 r3
    rw [join_eq r1 r3 h1 h2]
    have sj := join_specs x0 x1 v v
    have s4 := mns x0 v
    have s5 := mxs x1 v
    unfold ItvIn
    simp only
    omega
/-- What stands in a channel of so much room: the Elem, and messages that may be there. -/
def QInv (K h : Int) (xs ms : List (Int × Int)) : Prop := xs.length = 4 ∧ (ms.length : Int) = h ∧ h ≤ K ∧ (∀ p ∈ xs, ItvIn p) ∧ ∀ p ∈ ms, okM xs p = true
theorem okM_iff {xs : List (Int × Int)} {p : Int × Int} : okM xs p = true ↔ ∃ (k : Nat) (a b : Int), p.1 = k ∧ xs[k]? = some (a, b) ∧ a ≤ p.2 ∧ p.2 ≤ b := by
  unfold okM
  simp only [Bool.and_eq_true, decide_eq_true_eq]
  constructor
  · rintro ⟨⟨h1, h2⟩, h3, h4⟩
    obtain ⟨k, hk⟩ : ∃ k : Nat, p.1 = (k : Int) := ⟨p.1.toNat, by omega⟩
    obtain ⟨a, b, hx⟩ := pair_at rfl (show k < xs.length by omega)
    rw [hk, Int.toNat_natCast, getD_of hx] at h3 h4
    exact ⟨k, a, b, hk, hx, h3, h4⟩
  · rintro ⟨k, a, b, hk, hx, h3, h4⟩
    have hl : k < xs.length := by rcases Nat.lt_or_ge k xs.length with h | h; exact h; rw [List.getElem?_eq_none h] at hx; cases hx
    rw [hk, Int.toNat_natCast, getD_of hx]
    exact ⟨⟨by omega, by omega⟩, h3, h4⟩
theorem withinB_of {a0 a1 b0 b1 : Int} (h : a1 < a0 ∨ (b0 ≤ a0 ∧ a1 ≤ b1)) : withinB a0 a1 b0 b1 = true := by
  unfold withinB
  by_cases hc : a1 < a0
  · simp [hc]
  · rcases h with h | ⟨h1, h2⟩
    · exact absurd h hc
    · simp [h1, h2]
theorem qstep {K h v : Int} {xs ms : List (Int × Int)} {t : Nat} (hI : QInv K h xs ms) (hK : 1 ≤ K) (hK2 : K ≤ 16) (ht : t < 4) (v1 : -2147483648 ≤ v) (v2 : v ≤ 2147483647) :
    ∃ h' ys, sendP K 0 h xs (t : Int) v v = ((0, h'), ys) ∧ ys.length = 4 ∧ h' = (if h < K then h + 1 else K) ∧ (∀ p ∈ ys, ItvIn p) ∧ (∀ p ∈ ms, okM ys p = true) ∧ okM ys ((t : Int), v) = true ∧ inP 0 h xs 0 h' ys = true := by
  obtain ⟨hl, hml, hhK, hin, hok⟩ := hI
  obtain ⟨x0, x1, hx⟩ := pair_at hl ht
  obtain ⟨y0, y1, hj, hyin, hv0, hv1, hsub⟩ := join_one (hin _ (List.mem_of_getElem? hx)) v1 v2
  have hh' : moreP h K = if h < K then h + 1 else K := rfl
  have hr : 0 ≤ (if h < K then h + 1 else K) ∧ (if h < K then h + 1 else K) ≤ 16 ∧ h ≤ (if h < K then h + 1 else K) := by split <;> omega
  refine ⟨if h < K then h + 1 else K, xs.set t (y0, y1), ?_, by simp [hl], rfl, fun p hp => ?_, fun p hp => ?_, ?_, ?_⟩
  · rw [sendP_yes (Int.le_refl v) (by omega) hx, hj, hh', ofP_in _ _ (by omega) (by omega) hr.1]
  · rcases List.mem_or_eq_of_mem_set hp with h | rfl
    · exact hin p h
    · exact hyin
  · obtain ⟨k, a, b, hk, hkx, ha, hb⟩ := okM_iff.mp (hok p hp)
    rw [okM_iff]
    by_cases hkt : k = t
    · subst hkt
      rw [hx] at hkx
      cases hkx
      exact ⟨k, y0, y1, hk, by rw [List.getElem?_set_self (by omega)], by omega, by omega⟩
    · exact ⟨k, a, b, hk, by rw [List.getElem?_set_ne (by omega)]; exact hkx, ha, hb⟩
  · rw [okM_iff]
    exact ⟨t, y0, y1, rfl, by rw [List.getElem?_set_self (by omega)], hv0, hv1⟩
  · unfold inP
    rw [decide_eq_true (by simp), Bool.true_and, Bool.and_eq_true]
    refine ⟨rowsIn_yes (n := 4) hl fun j hj' a b c d hjx hjy => withinB_of ?_, withinB_of (.inr ⟨by omega, hr.2.2⟩)⟩
    by_cases hkt : j = t
    · subst hkt
      rw [hx] at hjx
      cases hjx
      rw [List.getElem?_set_self (by omega)] at hjy
      cases hjy
      exact hsub
    · rw [List.getElem?_set_ne (by omega), hjx] at hjy
      cases hjy
      exact .inr ⟨Int.le_refl _, Int.le_refl _⟩
theorem has_of {h : Int} {ys ms : List (Int × Int)} (hok : ∀ p ∈ ms, okM ys p = true) (hl : (ms.length : Int) ≤ h) : hasP 0 h ys ms = true := by
  unfold hasP
  rw [List.all_eq_true.mpr hok, Bool.true_and]
  exact decide_eq_true ⟨by omega, hl⟩
/-- What behind the round stands there: the message more; the first one less, if there are too many. -/
def pushP (K : Int) (ms : List (Int × Int)) (p : Int × Int) : List (Int × Int) := if (ms.length : Int) < K then ms ++ [p] else (ms ++ [p]).tail
theorem push_ok {K h v : Int} {xs ms ys : List (Int × Int)} {t : Nat} (hI : QInv K h xs ms) (_hK : 1 ≤ K) (hy : ys.length = 4) (hin : ∀ p ∈ ys, ItvIn p) (hok : ∀ p ∈ ms, okM ys p = true) (hp : okM ys ((t : Int), v) = true) :
    QInv K (if h < K then h + 1 else K) ys (pushP K ms ((t : Int), v)) := by
  obtain ⟨hl, hml, hhK, _, _⟩ := hI
  have hall : ∀ p ∈ ms ++ [((t : Int), v)], okM ys p = true := by
    intro p hm
    rw [List.mem_append, List.mem_singleton] at hm
    rcases hm with h | rfl
    · exact hok p h
    · exact hp
  unfold pushP
  rw [hml]
  refine ⟨hy, ?_, by split <;> omega, hin, fun p hm => ?_⟩
  · split
    · simp [hml]
    · simp; omega
  · split at hm
    · exact hall p hm
    · exact hall p (List.mem_of_mem_tail hm)
theorem starts_ok (K : Int) (hK : 1 ≤ K) : QInv K 0 (List.replicate 4 (1, 0)) [] := ⟨by simp, by simp, by omega, fun p hp => .inl (List.eq_of_mem_replicate hp), fun p hp => by cases hp⟩
theorem sixteenth (n : Int) : 1 ≤ wrap64 (1 + wrap64 ((IntKind.u64.wrap n).tmod 16)) ∧ wrap64 (1 + wrap64 ((IntKind.u64.wrap n).tmod 16)) ≤ 16 := by
  have h0 : 0 ≤ IntKind.u64.wrap n := by simp [IntKind.wrap, IntKind.bits, IntKind.signed]; omega
  generalize IntKind.u64.wrap n = u at *
  have h1 := Int.tmod_nonneg 16 h0
  have h2 : u.tmod 16 < 16 := by rw [Int.tmod_eq_emod_of_nonneg h0]; omega
  unfold wrap64
  omega
theorem fourth (n : Int) : ∃ t : Nat, t < 4 ∧ wrap64 ((IntKind.u64.wrap n).tmod 4) = (t : Int) := by
  have h0 : 0 ≤ IntKind.u64.wrap n := by simp [IntKind.wrap, IntKind.bits, IntKind.signed]; omega
  generalize IntKind.u64.wrap n = u at *
  have h1 := Int.tmod_nonneg 4 h0
  have h2 : u.tmod 4 < 4 := by rw [Int.tmod_eq_emod_of_nonneg h0]; omega
  refine ⟨(u.tmod 4).toNat, by omega, ?_⟩
  unfold wrap64
  omega
end Go.Proofs.Ytgepaajhccadhaa
