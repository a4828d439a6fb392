/-
  Zones within one another, joined, widened.
-/
import Derived.Test.YtefdfggkhnahiaaNp
namespace Go.Proofs.Ytefdfggkhnahiaa.Sx.Z
open Go.RowKit
/-- All of the first one is in the second one. -/
def Wi (n : Int) (z w : Zs) : Prop := z.1 = true ∨ (w.1 = false ∧ z.1 = false ∧ ∀ i j, i < R n → j < R n → z.2 (i * 7 + j) ≤ w.2 (i * 7 + j))
theorem wi_iff {n : Int} {z w : Zs} : withinP n z.1 z.2 n w.1 w.2 = true ↔ Wi n z w := by
  have hR := R_le n
  unfold withinP Wi
  cases hz : z.1 with
  | true => simp
  | false =>
    cases hw : w.1 with
    | true => simp
    | false =>
      rw [if_neg (by simp), allB_iff]
      constructor
      · intro h
        refine .inr ⟨rfl, rfl, fun i j hi hj => ?_⟩
        have h7 := dm7 (k := i) (m := j) (by omega)
        exact of_decide_eq_true (h (i * 7 + j) (by omega) (by rw [h7.1, h7.2]; exact ⟨hi, hj⟩))
      · rintro (h | ⟨_, _, h⟩)
        · cases h
        · intro o ho hr
          have := h (o / 7) (o % 7) hr.1 hr.2
          rw [show o / 7 * 7 + o % 7 = o by omega] at this
          exact decide_eq_true this
theorem wi_refl (n : Int) (z : Zs) : Wi n z z := by
  cases h : z.1 with
  | true => exact .inl h
  | false => exact .inr ⟨h, h, fun _ _ _ _ => Int.le_refl _⟩
theorem wi_trans {n : Int} {a b c : Zs} (h : Wi n a b) (k : Wi n b c) : Wi n a c := by
  rcases h with h | ⟨h1, h2, h3⟩
  · exact .inl h
  · rcases k with k | ⟨k1, _, k3⟩
    · rw [h1] at k; cases k
    · exact .inr ⟨k1, h2, fun i j hi hj => Int.le_trans (h3 i j hi hj) (k3 i j hi hj)⟩
def jnZ (n : Int) (a b : Zs) : Zs := (jnC n a.1 n b.1, jnF n a.1 a.2 n b.1 b.2)
def wdZ (n : Int) (a b : Zs) : Zs := (widC n a.1 a.2 n b.1 b.2, widF n a.1 a.2 n b.1 b.2)
theorem jn_none {n : Int} {a b : Zs} (h : b.1 = true) : jnZ n a b = a := by
  unfold jnZ jnC jnF
  rw [h]
  refine Prod.ext (if_pos (by simp)) (funext fun o => if_pos (by simp))
theorem jn_nought {n : Int} {a b : Zs} (h : b.1 = false) (k : a.1 = true) : jnZ n a b = b := by
  unfold jnZ jnC jnF
  rw [h, k]
  refine Prod.ext ?_ (funext fun o => ?_)
  · exact (if_neg (by simp)).trans ((if_pos rfl).trans h.symm)
  · exact (if_neg (by simp)).trans (if_pos rfl)
theorem jn_both {n : Int} {a b : Zs} (h : b.1 = false) (k : a.1 = false) : (jnZ n a b).1 = false ∧ ∀ i j, i < R n → j < R n → (jnZ n a b).2 (i * 7 + j) = max (a.2 (i * 7 + j)) (b.2 (i * 7 + j)) := by
  have hR := R_le n
  unfold jnZ jnC jnF
  rw [h, k]
  refine ⟨(if_neg (by simp)).trans (if_neg (by simp)), fun i j hi hj => ?_⟩
  have h7 := dm7 (k := i) (m := j) (by omega)
  refine (if_neg (by simp)).trans ((if_neg (by simp)).trans ?_)
  show jnTo a.2 b.2 (R n) (R n) 0 (i * 7 + j) = _
  unfold jnTo
  rw [h7.1, h7.2, if_pos ⟨.inl hi, hj⟩]
theorem jn_out {n : Int} {a b : Zs} (h : b.1 = false) (k : a.1 = false) {o : Nat} (ho : ¬ (o / 7 < R n ∧ o % 7 < R n)) : (jnZ n a b).2 o = a.2 o := by
  have hR := R_le n
  unfold jnZ jnF
  rw [h, k]
  refine (if_neg (by simp)).trans ((if_neg (by simp)).trans ?_)
  show jnTo a.2 b.2 (R n) (R n) 0 o = _
  unfold jnTo
  rw [if_neg (by omega)]
theorem good_jn {n : Int} {a b : Zs} (ga : Good n a) (gb : Good n b) : Good n (jnZ n a b) := by
  have hR := R_le n
  cases hb : b.1 with
  | true => rw [jn_none hb]; exact ga
  | false =>
    cases ha : a.1 with
    | true => rw [jn_nought hb ha]; exact gb
    | false =>
      obtain ⟨e1, e2⟩ := jn_both (n := n) hb ha
      refine ⟨ga.n0, fun i j hi hj ho => ?_, fun i hi => ?_, fun i j k hi hj hk => ?_, fun i hi => ?_, fun i hi => ?_, fun h => by rw [e1] at h; cases h⟩
      · have h7 := dm7 (k := i) (m := j) hj
        rw [jn_out hb ha (by rw [h7.1, h7.2]; omega)]
        exact ga.out i j hi hj ho
      · rw [e2 i i hi hi, ga.diag i hi, gb.diag i hi]; rfl
      · unfold Z.tri
        rw [e2 i j hi hj, e2 i k hi hk, e2 k j hk hj]
        have t1 := ga.tri i j k hi hj hk
        have t2 := gb.tri i j k hi hj hk
        unfold Z.tri at t1 t2
        omega
      · have := e2 i 0 hi (by omega)
        rw [Nat.add_zero] at this
        rw [this]
        have := ga.hi0 i hi
        have := gb.hi0 i hi
        omega
      · have := e2 0 i (by omega) hi
        rw [Nat.zero_mul, Nat.zero_add] at this
        rw [this]
        have := ga.hi1 i hi
        have := gb.hi1 i hi
        omega
theorem wi_jl {n : Int} (a b : Zs) : Wi n a (jnZ n a b) := by
  cases hb : b.1 with
  | true => rw [jn_none hb]; exact wi_refl n a
  | false =>
    cases ha : a.1 with
    | true => exact .inl ha
    | false =>
      obtain ⟨e1, e2⟩ := jn_both (n := n) hb ha
      exact .inr ⟨e1, ha, fun i j hi hj => by rw [e2 i j hi hj]; omega⟩
theorem wi_jr {n : Int} (a b : Zs) : Wi n b (jnZ n a b) := by
  cases hb : b.1 with
  | true => exact .inl hb
  | false =>
    cases ha : a.1 with
    | true => rw [jn_nought hb ha]; exact wi_refl n b
    | false =>
      obtain ⟨e1, e2⟩ := jn_both (n := n) hb ha
      exact .inr ⟨e1, hb, fun i j hi hj => by rw [e2 i j hi hj]; omega⟩
theorem wi_j {n : Int} {a b w : Zs} (h : Wi n a w) (k : Wi n b w) : Wi n (jnZ n a b) w := by
  cases hb : b.1 with
  | true => rw [jn_none hb]; exact h
  | false =>
    cases ha : a.1 with
    | true => rw [jn_nought hb ha]; exact k
    | false =>
      obtain ⟨e1, e2⟩ := jn_both (n := n) hb ha
      rcases h with h | ⟨h1, _, h3⟩
      · rw [ha] at h; cases h
      · rcases k with k | ⟨_, _, k3⟩
        · rw [hb] at k; cases k
        · refine .inr ⟨h1, e1, fun i j hi hj => ?_⟩
          rw [e2 i j hi hj]
          have := h3 i j hi hj
          have := k3 i j hi hj
          omega
/-! ### Widening -/
/-- How far a variable may be above nought, and below. -/
def wH (f g : Nat → Int) (i : Nat) : Int := if i = 0 then 0 else if g (i * 7) > f (i * 7) then 2147483647 else f (i * 7)
def wL (f g : Nat → Int) (i : Nat) : Int := if i = 0 then 0 else if g i > f i then 2147483648 else f i
theorem wid_at {n : Int} {f g : Nat → Int} (h0 : ∀ i, i < R n → f (i * 7 + i) = 0) {i j : Nat} (hi : i < R n) (hj : j < R n) : apF n (widTo f g (R n)) (i * 7 + j) = if i = j then 0 else wH f g i + wL f g j := by
  have hR := R_le n
  have h7 := dm7 (k := i) (m := j) (by omega)
  have f0 := h0 0 (by omega)
  rw [Nat.zero_mul, Nat.zero_add] at f0
  have c0 : ∀ i, i < R n → widTo f g (R n) (i * 7) = wH f g i := fun i hi => by
    unfold widTo wH
    by_cases h : i = 0
    · subst h; rw [if_pos rfl, Nat.zero_mul, if_neg (by omega), if_neg (by omega)]; exact f0
    · rw [if_neg h]
      by_cases h2 : g (i * 7) > f (i * 7)
      · rw [if_pos h2, if_pos (by omega)]
      · rw [if_neg h2, if_neg (by omega), if_neg (by omega)]
  have c1 : ∀ j, j < R n → widTo f g (R n) j = wL f g j := fun j hj => by
    unfold widTo wL
    by_cases h : j = 0
    · subst h; rw [if_pos rfl, if_neg (by omega), if_neg (by omega)]; exact f0
    · rw [if_neg h, if_neg (by omega)]
      by_cases h2 : g j > f j
      · rw [if_pos h2, if_pos (by omega)]
      · rw [if_neg h2, if_neg (by omega)]
  have z0 : wH f g 0 = 0 := if_pos rfl
  have z1 : wL f g 0 = 0 := if_pos rfl
  show apTo (widTo f g (R n)) (R n) (R n) 0 (i * 7 + j) = _
  unfold apTo
  rw [h7.1, h7.2]
  by_cases e : i = j
  · rw [if_pos e, if_neg (by omega)]
    subst e
    by_cases hz : i = 0
    · subst hz; rw [Nat.zero_mul, Nat.zero_add]; have := c1 0 hi; rw [this, z1]
    · unfold widTo
      rw [if_neg (by omega), if_neg (by omega)]
      exact h0 i hi
  · rw [if_neg e]
    by_cases h1 : i = 0
    · subst h1
      rw [if_neg (by omega), Nat.zero_mul, Nat.zero_add, c1 j hj, z0]; omega
    · by_cases h2 : j = 0
      · subst h2
        rw [if_neg (by omega), Nat.add_zero, c0 i hi, z1]; omega
      · rw [if_pos (by omega), c0 i hi, c1 j hj]
theorem wid_out {n : Int} {f g : Nat → Int} {o : Nat} (ho : ¬ (o / 7 < R n ∧ o % 7 < R n)) (hf : f o = 0) (hg : g o = 0) : apF n (widTo f g (R n)) o = 0 := by
  have hR := R_le n
  show apTo (widTo f g (R n)) (R n) (R n) 0 o = 0
  unfold apTo
  rw [if_neg (by omega)]
  unfold widTo
  rw [if_neg (by omega), if_neg (by omega)]
  exact hf
theorem good_wid {n : Int} {f g : Nat → Int} (gf : Good n (false, f)) (gg : Good n (false, g)) : Good n (false, apF n (widTo f g (R n))) := by
  have hR := R_le n
  have hd := gf.diag
  have h0 := gf.hi0
  have h1 := gf.hi1
  have g0 := gg.hi0
  have g1 := gg.hi1
  have ht := gf.tri
  dsimp only at hd h0 h1 g0 g1 ht
  have at' := fun {i j : Nat} (hi : i < R n) (hj : j < R n) => wid_at (g := g) hd hi hj
  have hl : ∀ i, i < R n → wH f g i ≤ 2147483647 ∧ wL f g i ≤ 2147483648 ∧ 0 ≤ wH f g i + wL f g i := fun i hi => by
    have a := h0 i hi
    have b := h1 i hi
    have t := ht 0 0 i (by omega) (by omega) hi
    have d := hd 0 (by omega)
    unfold Z.tri at t
    simp only [Nat.zero_mul, Nat.zero_add, Nat.add_zero] at t d
    unfold wH wL
    (repeat' split) <;> omega
  have z0 : wH f g 0 = 0 := if_pos rfl
  have z1 : wL f g 0 = 0 := if_pos rfl
  refine ⟨gf.n0, fun i j hi hj ho => ?_, fun i hi => ?_, fun i j k hi hj hk => ?_, fun i hi => ?_, fun i hi => ?_, fun h => by cases h⟩
  · have h7 := dm7 (k := i) (m := j) hj
    exact wid_out (by rw [h7.1, h7.2]; omega) (gf.out i j hi hj ho) (gg.out i j hi hj ho)
  · exact (at' hi hi).trans (if_pos rfl)
  · show apF n _ _ ≤ apF n _ _ + apF n _ _
    rw [at' hi hj, at' hi hk, at' hk hj]
    have l := hl k hk
    by_cases e1 : i = j
    · subst e1
      have l2 := hl i hi
      rw [if_pos rfl]
      (repeat' split) <;> omega
    · rw [if_neg e1]
      by_cases e2 : i = k
      · subst e2; rw [if_pos rfl, if_neg e1]; omega
      · rw [if_neg e2]
        by_cases e3 : k = j
        · subst e3; rw [if_pos rfl]; omega
        · rw [if_neg e3]; omega
  · have := at' hi (show 0 < R n by omega)
    rw [Nat.add_zero] at this
    show apF n _ (i * 7) ≤ _
    rw [this, z1]
    have := hl i hi
    split <;> omega
  · have := at' (show 0 < R n by omega) hi
    rw [Nat.zero_mul, Nat.zero_add] at this
    show apF n _ i ≤ _
    rw [this, z0]
    have := hl i hi
    split <;> omega
theorem wid_pt {n : Int} {f g : Nat → Int} (gf : Good n (false, f)) (v : Nat → Int) : Pt n (false, apF n (widTo f g (R n))) v ↔ v 0 = 0 ∧ ∀ i, i < R n → v i ≤ wH f g i ∧ 0 - v i ≤ wL f g i := by
  have hR := R_le n
  have hd := gf.diag
  dsimp only at hd
  have at' := fun {i j : Nat} (hi : i < R n) (hj : j < R n) => wid_at (g := g) hd hi hj
  have z0 : wH f g 0 = 0 := if_pos rfl
  have z1 : wL f g 0 = 0 := if_pos rfl
  constructor
  · rintro ⟨_, v0, hp⟩
    refine ⟨v0, fun i hi => ?_⟩
    have a := hp i 0 hi (by omega)
    have b := hp 0 i (by omega) hi
    dsimp only at a b
    rw [at' hi (show 0 < R n by omega), z1] at a
    rw [at' (show 0 < R n by omega) hi, z0] at b
    by_cases h : i = 0
    · subst h; rw [z0, z1]; omega
    · rw [if_neg h] at a; rw [if_neg (Ne.symm h)] at b; omega
  · rintro ⟨v0, hp⟩
    refine ⟨rfl, v0, fun i j hi hj => ?_⟩
    dsimp only
    rw [at' hi hj]
    have a := hp i hi
    have b := hp j hj
    split
    · rename_i h; subst h; omega
    · omega
theorem wd_same {n : Int} {a b : Zs} (h : Wi n b a) : wdZ n a b = a := by
  have e := wi_iff.2 h
  unfold wdZ widC widF
  refine Prod.ext (if_pos (by rw [e]; simp)) (funext fun o => if_pos (by rw [e]; simp))
theorem wd_nought {n : Int} {a b : Zs} (h : ¬ Wi n b a) (k : a.1 = true) : wdZ n a b = b := by
  have e : withinP n b.1 b.2 n a.1 a.2 = false := by cases hh : withinP n b.1 b.2 n a.1 a.2 with | false => rfl | true => exact absurd (wi_iff.1 hh) h
  unfold wdZ widC widF
  refine Prod.ext ((if_neg (by rw [e]; simp)).trans (if_pos k)) (funext fun o => (if_neg (by rw [e]; simp)).trans (if_pos k))
theorem wd_both {n : Int} {a b : Zs} (h : ¬ Wi n b a) (k : a.1 = false) : b.1 = false ∧ wdZ n a b = (false, apF n (widTo a.2 b.2 (R n))) := by
  have e : withinP n b.1 b.2 n a.1 a.2 = false := by cases hh : withinP n b.1 b.2 n a.1 a.2 with | false => rfl | true => exact absurd (wi_iff.1 hh) h
  have hb : b.1 = false := by cases hh : b.1 with | false => rfl | true => exact absurd (.inl hh) h
  refine ⟨hb, ?_⟩
  unfold wdZ widC widF
  refine Prod.ext ((if_neg (by rw [e]; simp)).trans ((if_neg (by rw [k]; simp)).trans k)) (funext fun o => (if_neg (by rw [e]; simp)).trans (if_neg (by rw [k]; simp)))
theorem good_wd {n : Int} {a b : Zs} (ga : Good n a) (gb : Good n b) : Good n (wdZ n a b) := by
  by_cases h : Wi n b a
  · rw [wd_same h]; exact ga
  · cases k : a.1 with
    | true => rw [wd_nought h k]; exact gb
    | false =>
      obtain ⟨hb, e⟩ := wd_both h k
      rw [e]
      obtain ⟨c, f⟩ := a
      obtain ⟨c', g⟩ := b
      dsimp only at k hb
      subst k hb
      exact good_wid ga gb
theorem wi_wl {n : Int} {a b : Zs} (ga : Good n a) (gb : Good n b) : Wi n a (wdZ n a b) ∧ Wi n b (wdZ n a b) := by
  have hR := R_le n
  by_cases h : Wi n b a
  · rw [wd_same h]; exact ⟨wi_refl n a, h⟩
  · cases k : a.1 with
    | true => rw [wd_nought h k]; exact ⟨.inl k, wi_refl n b⟩
    | false =>
      obtain ⟨hb, e⟩ := wd_both h k
      rw [e]
      obtain ⟨c, f⟩ := a
      obtain ⟨c', g⟩ := b
      dsimp only at k hb
      subst k hb
      have hd := ga.diag
      have gd := gb.diag
      have h0 := ga.hi0
      have h1 := ga.hi1
      have g0 := gb.hi0
      have g1 := gb.hi1
      have ht := ga.tri
      have gt := gb.tri
      dsimp only at hd gd h0 h1 g0 g1 ht gt
      have key : ∀ i, i < R n → f (i * 7) ≤ wH f g i ∧ g (i * 7) ≤ wH f g i ∧ f i ≤ wL f g i ∧ g i ≤ wL f g i := fun i hi => by
        have a1 := h0 i hi
        have a2 := h1 i hi
        have a3 := g0 i hi
        have a4 := g1 i hi
        have d1 := hd 0 (by omega)
        have d2 := gd 0 (by omega)
        rw [Nat.zero_mul, Nat.zero_add] at d1 d2
        unfold wH wL
        by_cases hz : i = 0
        · subst hz; rw [if_pos rfl, if_pos rfl, Nat.zero_mul]; omega
        · rw [if_neg hz, if_neg hz]; (repeat' split) <;> omega
      refine ⟨.inr ⟨rfl, rfl, fun i j hi hj => ?_⟩, .inr ⟨rfl, rfl, fun i j hi hj => ?_⟩⟩
      · dsimp only
        rw [wid_at hd hi hj]
        have t := ht i j 0 hi hj (by omega)
        unfold Z.tri at t
        rw [Nat.add_zero, Nat.zero_mul, Nat.zero_add] at t
        have k1 := key i hi
        have k2 := key j hj
        split
        · rename_i e; subst e; rw [hd i hi]; exact Int.le_refl _
        · omega
      · dsimp only
        rw [wid_at hd hi hj]
        have t := gt i j 0 hi hj (by omega)
        unfold Z.tri at t
        rw [Nat.add_zero, Nat.zero_mul, Nat.zero_add] at t
        have k1 := key i hi
        have k2 := key j hj
        split
        · rename_i e; subst e; rw [gd i hi]; exact Int.le_refl _
        · omega
end Go.Proofs.Ytefdfggkhnahiaa.Sx.Z
