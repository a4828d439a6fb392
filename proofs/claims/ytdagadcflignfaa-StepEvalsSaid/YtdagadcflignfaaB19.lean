/-
  Zones within one another, joined, widened.; The reference's Within, Join, Widen: what the program's tell.; The Nums' small calls: what they tell.; The Nums' calls: what they tell.; num.Has, num.Right; the references' calls.; The laws' small calls: meets, like, zeros.; itv.Test; eval.Eval, Assign, Assume.; eval.Eval, Assign, Assume.
-/
import Derived.Test.YtdagadcflignfaaB18
import Derived.Test.YtdagadcflignfaaB16
namespace Go.Proofs.Ytdagadcflignfaa.Sx.Z
open Go.RowKit
/-- All of the first one is in the second one. -/
def Wi (n : Int) (z w : Zs) : Prop := z.1 = true ∨ (w.1 = false ∧ z.1 = false ∧ ∀ i j, i < R n → j < R n → z.2 (i * 7 + j) ≤ w.2 (i * 7 + j))
theorem wi_iff {n : Int} {z w : Zs} : withinP n z.1 z.2 n w.1 w.2 = true ↔ Wi n z w := by
  have hR := R_le n
  unfold withinP Wi
  cases hz : z.1 with
  | true => simp
  | false =>
    cases hw : w.1 with
    | true => simp
    | false =>
      rw [if_neg (by simp), allB_iff]
      constructor
      · intro h
        refine .inr ⟨rfl, rfl, fun i j hi hj => ?_⟩
        have h7 := dm7 (k := i) (m := j) (by omega)
        exact of_decide_eq_true (h (i * 7 + j) (by omega) (by rw [h7.1, h7.2]; exact ⟨hi, hj⟩))
      · rintro (h | ⟨_, _, h⟩)
        · cases h
        · intro o ho hr
          have := h (o / 7) (o % 7) hr.1 hr.2
          rw [show o / 7 * 7 + o % 7 = o by omega] at this
          exact decide_eq_true this
theorem wi_refl (n : Int) (z : Zs) : Wi n z z := by
  cases h : z.1 with
  | true => exact .inl h
  | false => exact .inr ⟨h, h, fun _ _ _ _ => Int.le_refl _⟩
theorem wi_trans {n : Int} {a b c : Zs} (h : Wi n a b) (k : Wi n b c) : Wi n a c := by
  rcases h with h | ⟨h1, h2, h3⟩
  · exact .inl h
  · rcases k with k | ⟨k1, _, k3⟩
    · rw [h1] at k; cases k
    · exact .inr ⟨k1, h2, fun i j hi hj => Int.le_trans (h3 i j hi hj) (k3 i j hi hj)⟩
def jnZ (n : Int) (a b : Zs) : Zs := (jnC n a.1 n b.1, jnF n a.1 a.2 n b.1 b.2)
def wdZ (n : Int) (a b : Zs) : Zs := (widC n a.1 a.2 n b.1 b.2, widF n a.1 a.2 n b.1 b.2)
theorem jn_none {n : Int} {a b : Zs} (h : b.1 = true) : jnZ n a b = a := by
  unfold jnZ jnC jnF
  rw [h]
  refine Prod.ext (if_pos (by simp)) (funext fun o => if_pos (by simp))
theorem jn_nought {n : Int} {a b : Zs} (h : b.1 = false) (k : a.1 = true) : jnZ n a b = b := by
  unfold jnZ jnC jnF
  rw [h, k]
  refine Prod.ext ?_ (funext fun o => ?_)
  · exact (if_neg (by simp)).trans ((if_pos rfl).trans h.symm)
  · exact (if_neg (by simp)).trans (if_pos rfl)
theorem jn_both {n : Int} {a b : Zs} (h : b.1 = false) (k : a.1 = false) : (jnZ n a b).1 = false ∧ ∀ i j, i < R n → j < R n → (jnZ n a b).2 (i * 7 + j) = max (a.2 (i * 7 + j)) (b.2 (i * 7 + j)) := by
  have hR := R_le n
  unfold jnZ jnC jnF
  rw [h, k]
  refine ⟨(if_neg (by simp)).trans (if_neg (by simp)), fun i j hi hj => ?_⟩
  have h7 := dm7 (k := i) (m := j) (by omega)
  refine (if_neg (by simp)).trans ((if_neg (by simp)).trans ?_)
  show jnTo a.2 b.2 (R n) (R n) 0 (i * 7 + j) = _
  unfold jnTo
  rw [h7.1, h7.2, if_pos ⟨.inl hi, hj⟩]
theorem jn_out {n : Int} {a b : Zs} (h : b.1 = false) (k : a.1 = false) {o : Nat} (ho : ¬ (o / 7 < R n ∧ o % 7 < R n)) : (jnZ n a b).2 o = a.2 o := by
  have hR := R_le n
  unfold jnZ jnF
  rw [h, k]
  refine (if_neg (by simp)).trans ((if_neg (by simp)).trans ?_)
  show jnTo a.2 b.2 (R n) (R n) 0 o = _
  unfold jnTo
  rw [if_neg (by omega)]
theorem good_jn {n : Int} {a b : Zs} (ga : Good n a) (gb : Good n b) : Good n (jnZ n a b) := by
  have hR := R_le n
  cases hb : b.1 with
  | true => rw [jn_none hb]; exact ga
  | false =>
    cases ha : a.1 with
    | true => rw [jn_nought hb ha]; exact gb
    | false =>
      obtain ⟨e1, e2⟩ := jn_both (n := n) hb ha
      refine ⟨ga.n0, fun i j hi hj ho => ?_, fun i hi => ?_, fun i j k hi hj hk => ?_, fun i hi => ?_, fun i hi => ?_, fun h => by rw [e1] at h; cases h⟩
      · have h7 := dm7 (k := i) (m := j) hj
        rw [jn_out hb ha (by rw [h7.1, h7.2]; omega)]
        exact ga.out i j hi hj ho
      · rw [e2 i i hi hi, ga.diag i hi, gb.diag i hi]; rfl
      · unfold Z.tri
        rw [e2 i j hi hj, e2 i k hi hk, e2 k j hk hj]
        have t1 := ga.tri i j k hi hj hk
        have t2 := gb.tri i j k hi hj hk
        unfold Z.tri at t1 t2
        omega
      · have := e2 i 0 hi (by omega)
        rw [Nat.add_zero] at this
        rw [this]
        have := ga.hi0 i hi
        have := gb.hi0 i hi
        omega
      · have := e2 0 i (by omega) hi
        rw [Nat.zero_mul, Nat.zero_add] at this
        rw [this]
        have := ga.hi1 i hi
        have := gb.hi1 i hi
        omega
theorem wi_jl {n : Int} (a b : Zs) : Wi n a (jnZ n a b) := by
  cases hb : b.1 with
  | true => rw [jn_none hb]; exact wi_refl n a
  | false =>
    cases ha : a.1 with
    | true => exact .inl ha
    | false =>
      obtain ⟨e1, e2⟩ := jn_both (n := n) hb ha
      exact .inr ⟨e1, ha, fun i j hi hj => by rw [e2 i j hi hj]; omega⟩
theorem wi_jr {n : Int} (a b : Zs) : Wi n b (jnZ n a b) := by
  cases hb : b.1 with
  | true => exact .inl hb
  | false =>
    cases ha : a.1 with
    | true => rw [jn_nought hb ha]; exact wi_refl n b
    | false =>
      obtain ⟨e1, e2⟩ := jn_both (n := n) hb ha
      exact .inr ⟨e1, hb, fun i j hi hj => by rw [e2 i j hi hj]; omega⟩
theorem wi_j {n : Int} {a b w : Zs} (h : Wi n a w) (k : Wi n b w) : Wi n (jnZ n a b) w := by
  cases hb : b.1 with
  | true => rw [jn_none hb]; exact h
  | false =>
    cases ha : a.1 with
    | true => rw [jn_nought hb ha]; exact k
    | false =>
      obtain ⟨e1, e2⟩ := jn_both (n := n) hb ha
      rcases h with h | ⟨h1, _, h3⟩
      · rw [ha] at h; cases h
      · rcases k with k | ⟨_, _, k3⟩
        · rw [hb] at k; cases k
        · refine .inr ⟨h1, e1, fun i j hi hj => ?_⟩
          rw [e2 i j hi hj]
          have := h3 i j hi hj
          have := k3 i j hi hj
          omega
/-! ### Widening -/
/-- How far a variable may be above nought, and below. -/
def wH (f g : Nat → Int) (i : Nat) : Int := if i = 0 then 0 else if g (i * 7) > f (i * 7) then 2147483647 else f (i * 7)
def wL (f g : Nat → Int) (i : Nat) : Int := if i = 0 then 0 else if g i > f i then 2147483648 else f i
theorem wid_at {n : Int} {f g : Nat → Int} (h0 : ∀ i, i < R n → f (i * 7 + i) = 0) {i j : Nat} (hi : i < R n) (hj : j < R n) : apF n (widTo f g (R n)) (i * 7 + j) = if i = j then 0 else wH f g i + wL f g j := by
  have hR := R_le n
  have h7 := dm7 (k := i) (m := j) (by omega)
  have f0 := h0 0 (by omega)
  rw [Nat.zero_mul, Nat.zero_add] at f0
  have c0 : ∀ i, i < R n → widTo f g (R n) (i * 7) = wH f g i := fun i hi => by
    unfold widTo wH
    by_cases h : i = 0
    · subst h; rw [if_pos rfl, Nat.zero_mul, if_neg (by omega), if_neg (by omega)]; exact f0
    · rw [if_neg h]
      by_cases h2 : g (i * 7) > f (i * 7)
      · rw [if_pos h2, if_pos (by omega)]
      · rw [if_neg h2, if_neg (by omega), if_neg (by omega)]
  have c1 : ∀ j, j < R n → widTo f g (R n) j = wL f g j := fun j hj => by
    unfold widTo wL
    by_cases h : j = 0
    · subst h; rw [if_pos rfl, if_neg (by omega), if_neg (by omega)]; exact f0
    · rw [if_neg h, if_neg (by omega)]
      by_cases h2 : g j > f j
      · rw [if_pos h2, if_pos (by omega)]
      · rw [if_neg h2, if_neg (by omega)]
  have z0 : wH f g 0 = 0 := if_pos rfl
  have z1 : wL f g 0 = 0 := if_pos rfl
  show apTo (widTo f g (R n)) (R n) (R n) 0 (i * 7 + j) = _
  unfold apTo
  rw [h7.1, h7.2]
  by_cases e : i = j
  · rw [if_pos e, if_neg (by omega)]
    subst e
    by_cases hz : i = 0
    · subst hz; rw [Nat.zero_mul, Nat.zero_add]; have := c1 0 hi; rw [this, z1]
    · unfold widTo
      rw [if_neg (by omega), if_neg (by omega)]
      exact h0 i hi
  · rw [if_neg e]
    by_cases h1 : i = 0
    · subst h1
      rw [if_neg (by omega), Nat.zero_mul, Nat.zero_add, c1 j hj, z0]; omega
    · by_cases h2 : j = 0
      · subst h2
        rw [if_neg (by omega), Nat.add_zero, c0 i hi, z1]; omega
      · rw [if_pos (by omega), c0 i hi, c1 j hj]
theorem wid_out {n : Int} {f g : Nat → Int} {o : Nat} (ho : ¬ (o / 7 < R n ∧ o % 7 < R n)) (hf : f o = 0) (hg : g o = 0) : apF n (widTo f g (R n)) o = 0 := by
  have hR := R_le n
  show apTo (widTo f g (R n)) (R n) (R n) 0 o = 0
  unfold apTo
  rw [if_neg (by omega)]
  unfold widTo
  rw [if_neg (by omega), if_neg (by omega)]
  exact hf
theorem good_wid {n : Int} {f g : Nat → Int} (gf : Good n (false, f)) (gg : Good n (false, g)) : Good n (false, apF n (widTo f g (R n))) := by
  have hR := R_le n
  have hd := gf.diag
  have h0 := gf.hi0
  have h1 := gf.hi1
  have g0 := gg.hi0
  have g1 := gg.hi1
  have ht := gf.tri
  dsimp only at hd h0 h1 g0 g1 ht
  have at' := fun {i j : Nat} (hi : i < R n) (hj : j < R n) => wid_at (g := g) hd hi hj
  have hl : ∀ i, i < R n → wH f g i ≤ 2147483647 ∧ wL f g i ≤ 2147483648 ∧ 0 ≤ wH f g i + wL f g i := fun i hi => by
    have a := h0 i hi
    have b := h1 i hi
    have t := ht 0 0 i (by omega) (by omega) hi
    have d := hd 0 (by omega)
    unfold Z.tri at t
    simp only [Nat.zero_mul, Nat.zero_add, Nat.add_zero] at t d
    unfold wH wL
    (repeat' split) <;> omega
  have z0 : wH f g 0 = 0 := if_pos rfl
  have z1 : wL f g 0 = 0 := if_pos rfl
  refine ⟨gf.n0, fun i j hi hj ho => ?_, fun i hi => ?_, fun i j k hi hj hk => ?_, fun i hi => ?_, fun i hi => ?_, fun h => by cases h⟩
  · have h7 := dm7 (k := i) (m := j) hj
    exact wid_out (by rw [h7.1, h7.2]; omega) (gf.out i j hi hj ho) (gg.out i j hi hj ho)
  · exact (at' hi hi).trans (if_pos rfl)
  · show apF n _ _ ≤ apF n _ _ + apF n _ _
    rw [at' hi hj, at' hi hk, at' hk hj]
    have l := hl k hk
    by_cases e1 : i = j
    · subst e1
      have l2 := hl i hi
      rw [if_pos rfl]
      (repeat' split) <;> omega
    · rw [if_neg e1]
      by_cases e2 : i = k
      · subst e2; rw [if_pos rfl, if_neg e1]; omega
      · rw [if_neg e2]
        by_cases e3 : k = j
        · subst e3; rw [if_pos rfl]; omega
        · rw [if_neg e3]; omega
  · have := at' hi (show 0 < R n by omega)
    rw [Nat.add_zero] at this
    show apF n _ (i * 7) ≤ _
    rw [this, z1]
    have := hl i hi
    split <;> omega
  · have := at' (show 0 < R n by omega) hi
    rw [Nat.zero_mul, Nat.zero_add] at this
    show apF n _ i ≤ _
    rw [this, z0]
    have := hl i hi
    split <;> omega
theorem wid_pt {n : Int} {f g : Nat → Int} (gf : Good n (false, f)) (v : Nat → Int) : Pt n (false, apF n (widTo f g (R n))) v ↔ v 0 = 0 ∧ ∀ i, i < R n → v i ≤ wH f g i ∧ 0 - v i ≤ wL f g i := by
  have hR := R_le n
  have hd := gf.diag
  dsimp only at hd
  have at' := fun {i j : Nat} (hi : i < R n) (hj : j < R n) => wid_at (g := g) hd hi hj
  have z0 : wH f g 0 = 0 := if_pos rfl
  have z1 : wL f g 0 = 0 := if_pos rfl
  constructor
  · rintro ⟨_, v0, hp⟩
    refine ⟨v0, fun i hi => ?_⟩
    have a := hp i 0 hi (by omega)
    have b := hp 0 i (by omega) hi
    dsimp only at a b
    rw [at' hi (show 0 < R n by omega), z1] at a
    rw [at' (show 0 < R n by omega) hi, z0] at b
    by_cases h : i = 0
    · subst h; rw [z0, z1]; omega
    · rw [if_neg h] at a; rw [if_neg (Ne.symm h)] at b; omega
  · rintro ⟨v0, hp⟩
    refine ⟨rfl, v0, fun i j hi hj => ?_⟩
    dsimp only
    rw [at' hi hj]
    have a := hp i hi
    have b := hp j hj
    split
    · rename_i h; subst h; omega
    · omega
theorem wd_same {n : Int} {a b : Zs} (h : Wi n b a) : wdZ n a b = a := by
  have e := wi_iff.2 h
  unfold wdZ widC widF
  refine Prod.ext (if_pos (by rw [e]; simp)) (funext fun o => if_pos (by rw [e]; simp))
theorem wd_nought {n : Int} {a b : Zs} (h : ¬ Wi n b a) (k : a.1 = true) : wdZ n a b = b := by
  have e : withinP n b.1 b.2 n a.1 a.2 = false := by cases hh : withinP n b.1 b.2 n a.1 a.2 with | false => rfl | true => exact absurd (wi_iff.1 hh) h
  unfold wdZ widC widF
  refine Prod.ext ((if_neg (by rw [e]; simp)).trans (if_pos k)) (funext fun o => (if_neg (by rw [e]; simp)).trans (if_pos k))
theorem wd_both {n : Int} {a b : Zs} (h : ¬ Wi n b a) (k : a.1 = false) : b.1 = false ∧ wdZ n a b = (false, apF n (widTo a.2 b.2 (R n))) := by
  have e : withinP n b.1 b.2 n a.1 a.2 = false := by cases hh : withinP n b.1 b.2 n a.1 a.2 with | false => rfl | true => exact absurd (wi_iff.1 hh) h
  have hb : b.1 = false := by cases hh : b.1 with | false => rfl | true => exact absurd (.inl hh) h
  refine ⟨hb, ?_⟩
  unfold wdZ widC widF
  refine Prod.ext ((if_neg (by rw [e]; simp)).trans ((if_neg (by rw [k]; simp)).trans k)) (funext fun o => (if_neg (by rw [e]; simp)).trans (if_neg (by rw [k]; simp)))
theorem good_wd {n : Int} {a b : Zs} (ga : Good n a) (gb : Good n b) : Good n (wdZ n a b) := by
  by_cases h : Wi n b a
  · rw [wd_same h]; exact ga
  · cases k : a.1 with
    | true => rw [wd_nought h k]; exact gb
    | false =>
      obtain ⟨hb, e⟩ := wd_both h k
      rw [e]
      obtain ⟨c, f⟩ := a
      obtain ⟨c', g⟩ := b
      dsimp only at k hb
      subst k hb
      exact good_wid ga gb
theorem wi_wl {n : Int} {a b : Zs} (ga : Good n a) (gb : Good n b) : Wi n a (wdZ n a b) ∧ Wi n b (wdZ n a b) := by
  have hR := R_le n
  by_cases h : Wi n b a
  · rw [wd_same h]; exact ⟨wi_refl n a, h⟩
  · cases k : a.1 with
    | true => rw [wd_nought h k]; exact ⟨.inl k, wi_refl n b⟩
    | false =>
      obtain ⟨hb, e⟩ := wd_both h k
      rw [e]
      obtain ⟨c, f⟩ := a
      obtain ⟨c', g⟩ := b
      dsimp only at k hb
      subst k hb
      have hd := ga.diag
      have gd := gb.diag
      have h0 := ga.hi0
      have h1 := ga.hi1
      have g0 := gb.hi0
      have g1 := gb.hi1
      have ht := ga.tri
      have gt := gb.tri
      dsimp only at hd gd h0 h1 g0 g1 ht gt
      have key : ∀ i, i < R n → f (i * 7) ≤ wH f g i ∧ g (i * 7) ≤ wH f g i ∧ f i ≤ wL f g i ∧ g i ≤ wL f g i := fun i hi => by
        have a1 := h0 i hi
        have a2 := h1 i hi
        have a3 := g0 i hi
        have a4 := g1 i hi
        have d1 := hd 0 (by omega)
        have d2 := gd 0 (by omega)
        rw [Nat.zero_mul, Nat.zero_add] at d1 d2
        unfold wH wL
        by_cases hz : i = 0
        · subst hz; rw [if_pos rfl, if_pos rfl, Nat.zero_mul]; omega
        · rw [if_neg hz, if_neg hz]; (repeat' split) <;> omega
      refine ⟨.inr ⟨rfl, rfl, fun i j hi hj => ?_⟩, .inr ⟨rfl, rfl, fun i j hi hj => ?_⟩⟩
      · dsimp only
        rw [wid_at hd hi hj]
        have t := ht i j 0 hi hj (by omega)
        unfold Z.tri at t
        rw [Nat.add_zero, Nat.zero_mul, Nat.zero_add] at t
        have k1 := key i hi
        have k2 := key j hj
        split
        · rename_i e; subst e; rw [hd i hi]; exact Int.le_refl _
        · omega
      · dsimp only
        rw [wid_at hd hi hj]
        have t := gt i j 0 hi hj (by omega)
        unfold Z.tri at t
        rw [Nat.add_zero, Nat.zero_mul, Nat.zero_add] at t
        have k1 := key i hi
        have k2 := key j hj
        split
        · rename_i e; subst e; rw [gd i hi]; exact Int.le_refl _
        · omega
end Go.Proofs.Ytdagadcflignfaa.Sx.Z
namespace Go.Proofs.Ytdagadcflignfaa.Sx.Z
open Go.RowKit
def wdP (n : Int) (f g : Nat → Int) : Nat → Zs
  | 0 => (false, topF n)
  | x + 1 =>
    let z := if g ((x + 1) * 7) ≤ f ((x + 1) * 7) then bndZ n x (-1) (f ((x + 1) * 7)) (wdP n f g x) else wdP n f g x
    if g (x + 1) ≤ f (x + 1) then bndZ n (-1) x (f (x + 1)) z else z
def wdM (n : Int) (f g : Nat → Int) (x : Nat) : Zs := if g ((x + 1) * 7) ≤ f ((x + 1) * 7) then bndZ n x (-1) (f ((x + 1) * 7)) (wdP n f g x) else wdP n f g x
theorem wdP_good {n : Int} (hn : 0 ≤ n ∧ n ≤ 6) (f g : Nat → Int) : ∀ k, Good n (wdP n f g k)
  | 0 => by have := good_top n; rwa [show topN n = n by unfold topN; omega] at this
  | k + 1 => by
    have h := wdP_good hn f g k
    unfold wdP
    dsimp only
    split
    · split
      · exact good_bnd (good_bnd h _ _ _) _ _ _
      · exact good_bnd h _ _ _
    · split
      · exact good_bnd h _ _ _
      · exact h
theorem wdM_good {n : Int} (hn : 0 ≤ n ∧ n ≤ 6) (f g : Nat → Int) (k : Nat) : Good n (wdM n f g k) := by
  have h := wdP_good hn f g k
  unfold wdM
  split
  · exact good_bnd h _ _ _
  · exact h
theorem wdP_pt {n : Int} (hn : 0 ≤ n ∧ n ≤ 6) (f g v : Nat → Int) : ∀ k : Nat, (k : Int) ≤ n → (Pt n (wdP n f g k) v ↔ Pt n (false, topF n) v ∧ ∀ i, i < k → (g ((i + 1) * 7) ≤ f ((i + 1) * 7) → v (i + 1) ≤ f ((i + 1) * 7)) ∧ (g (i + 1) ≤ f (i + 1) → 0 - v (i + 1) ≤ f (i + 1)))
  | 0, _ => ⟨fun h => ⟨h, fun i hi => absurd hi (Nat.not_lt_zero i)⟩, fun h => h.1⟩
  | k + 1, hk => by
    have h := wdP_good hn f g k
    have hM := wdM_good hn f g k
    have ex := isEnd_of (x := (k : Int)) hn (by omega)
    have ih := wdP_pt hn f g v k (by omega)
    have e1 : ((k : Int) + 1).toNat = k + 1 := by omega
    have e0 : ((-1 : Int) + 1).toNat = 0 := rfl
    have m : Pt n (wdM n f g k) v ↔ Pt n (wdP n f g k) v ∧ (g ((k + 1) * 7) ≤ f ((k + 1) * 7) → v (k + 1) - v 0 ≤ f ((k + 1) * 7)) := by
      unfold wdM
      split
      · rename_i hh
        rw [bnd_pt h ex (isEnd_nought n), e1, e0]
        exact ⟨fun q => ⟨q.1, fun _ => q.2⟩, fun q => ⟨q.1, q.2 hh⟩⟩
      · rename_i hh
        exact ⟨fun q => ⟨q, fun q' => absurd q' hh⟩, fun q => q.1⟩
    have l : Pt n (wdP n f g (k + 1)) v ↔ Pt n (wdM n f g k) v ∧ (g (k + 1) ≤ f (k + 1) → v 0 - v (k + 1) ≤ f (k + 1)) := by
      show Pt n (if g (k + 1) ≤ f (k + 1) then bndZ n (-1) k (f (k + 1)) (wdM n f g k) else wdM n f g k) v ↔ _
      split
      · rename_i hh
        rw [bnd_pt hM (isEnd_nought n) ex, e1, e0]
        exact ⟨fun q => ⟨q.1, fun _ => q.2⟩, fun q => ⟨q.1, q.2 hh⟩⟩
      · rename_i hh
        exact ⟨fun q => ⟨q, fun q' => absurd q' hh⟩, fun q => q.1⟩
    rw [l, m, ih]
    constructor
    · rintro ⟨⟨⟨h1, h2⟩, h3⟩, h4⟩
      have v0 := h1.2.1
      refine ⟨h1, fun i hi => ?_⟩
      by_cases hik : i < k
      · exact h2 i hik
      · obtain rfl : i = k := by omega
        exact ⟨fun q => by have := h3 q; omega, fun q => by have := h4 q; omega⟩
    · rintro ⟨h1, h2⟩
      have v0 := h1.2.1
      refine ⟨⟨⟨h1, fun i hi => h2 i (by omega)⟩, fun q => ?_⟩, fun q => ?_⟩
      · have := (h2 k (by omega)).1 q; omega
      · have := (h2 k (by omega)).2 q; omega
theorem wd_same_ref {n : Int} {f g : Nat → Int} (gf : Good n (false, f)) (gg : Good n (false, g)) : Same (wdP n f g n.toNat) (false, apF n (widTo f g (R n))) := by
  have hn := gf.n0
  have hR := R_le n
  have hRn := R_n hn
  have ht : topN n = n := by unfold topN; omega
  have h0 := gf.hi0
  have h1 := gf.hi1
  dsimp only at h0 h1
  refine good_ext (wdP_good hn f g _) (good_wid gf gg) fun v => ?_
  rw [wdP_pt hn f g v _ (by omega), wid_pt gf]
  have top : Pt n (false, topF n) v ↔ v 0 = 0 ∧ ∀ i, i < R n → -2147483648 ≤ v i ∧ v i ≤ 2147483647 := by
    constructor
    · intro h
      have g := good_top n
      rw [ht] at g
      exact ⟨h.2.1, fun i hi => pt_range g h hi⟩
    · rintro ⟨v0, h⟩
      have := pt_top (n := n) (v := v) v0 (fun i hi => by rw [ht] at hi; exact h i hi)
      rwa [ht] at this
  rw [top]
  constructor
  · rintro ⟨⟨v0, h⟩, k⟩
    refine ⟨v0, fun i hi => ?_⟩
    have hv := h i hi
    unfold wH wL
    by_cases hz : i = 0
    · subst hz; rw [if_pos rfl, if_pos rfl]; omega
    · have := k (i - 1) (by omega)
      rw [show i - 1 + 1 = i by omega] at this
      rw [if_neg hz, if_neg hz]
      refine ⟨?_, ?_⟩
      · split
        · omega
        · exact this.1 (by omega)
      · split
        · omega
        · exact this.2 (by omega)
  · rintro ⟨v0, h⟩
    refine ⟨⟨v0, fun i hi => ?_⟩, fun i hi => ?_⟩
    · have hv := h i hi
      have a := h0 i hi
      have b := h1 i hi
      unfold wH wL at hv
      by_cases hz : i = 0
      · subst hz; omega
      · rw [if_neg hz, if_neg hz] at hv
        obtain ⟨v1, v2⟩ := hv
        refine ⟨?_, ?_⟩
        · split at v2 <;> omega
        · split at v1 <;> omega
    · have hv := h (i + 1) (by omega)
      unfold wH wL at hv
      simp only [if_neg (show ¬ i + 1 = 0 by omega)] at hv
      obtain ⟨v1, v2⟩ := hv
      refine ⟨fun q => ?_, fun q => ?_⟩
      · rw [if_neg (by omega)] at v1; exact v1
      · rw [if_neg (by omega)] at v2; exact v2
def rwithinS : FSpec := fun ds _ => match ds with
  | [.i n, .b c, .f f, .i m, .b e, .f g] => some { val := .one (.sc (.bool (.sym (withinP n c f m e g)))), vc := [0 ≤ n ∧ n ≤ 6, m = n] }
  | _ => none
def rwithinC : Con := con [zA, zA] rwithinS
def rjoinS : FSpec := fun ds _ => match ds with
  | [.i n, .b c, .f f, .i m, .b e, .f g] => some { val := .one (.agg [.c (.int .i64 (.sym (n))), .c (.bool (.sym ((jnZ n (c, f) (e, g)).1))), .ints .i64 (.lit 49) ((jnZ n (c, f) (e, g)).2)]), vc := [m = n, Good n (c, f), Good n (e, g)] }
  | _ => none
def rjoinC : Con := con [zA, zA] rjoinS
def rwidenS : FSpec := fun ds _ => match ds with
  | [.i n, .b c, .f f, .i m, .b e, .f g] => some { val := .one (.agg [.c (.int .i64 (.sym (n))), .c (.bool (.sym ((wdZ n (c, f) (e, g)).1))), .ints .i64 (.lit 49) ((wdZ n (c, f) (e, g)).2)]), vc := [m = n, Good n (c, f), Good n (e, g)] }
  | _ => none
def rwidenC : Con := con [zA, zA] rwidenS
end Go.Proofs.Ytdagadcflignfaa.Sx.Z
namespace Go.Proofs.Ytdagadcflignfaa.Sx.Z
open Go.RowKit
def numA : AP := .agg [.c .bool, .c (.rows 82), .c (.int .i64), .c .bool, .ints .i64 49]
/-- What a zone tells of each variable. -/
def itD (m : Nat) (n : Int) (z : Zs) : D := .l ((List.range m).map fun (j : Nat) => [.i (itvLo n z.1 z.2 j), .i (itvHi n z.1 z.2 j)])
def ofD (m : Nat) (n : Int) (z : Zs) (k : Nat) : D := .l ((List.range m).map fun (j : Nat) => if j < k then [.i (itvLo n z.1 z.2 j), .i (itvHi n z.1 z.2 j)] else [.i 0, .i 0])
theorem itD_len (m : Nat) (n : Int) (z : Zs) : (itD m n z).len = m := by show ((List.range m).map _).length = m; simp
theorem ofD_len (m : Nat) (n : Int) (z : Zs) (k : Nat) : (ofD m n z k).len = m := by show ((List.range m).map _).length = m; simp
theorem itD_el {m j : Nat} (h : j < m) (n : Int) (z : Zs) : ((itD m n z).el j 0).toI = itvLo n z.1 z.2 j ∧ ((itD m n z).el j 1).toI = itvHi n z.1 z.2 j := by
  have : (itD m n z).rows.getD j [] = [.i (itvLo n z.1 z.2 j), .i (itvHi n z.1 z.2 j)] := by
    show ((List.range m).map fun (j : Nat) => [D.i (itvLo n z.1 z.2 j), D.i (itvHi n z.1 z.2 j)]).getD j [] = _
    rw [List.getD_eq_getElem?_getD, List.getElem?_map, List.getElem?_range h]; rfl
  unfold D.el
  rw [this]
  exact ⟨rfl, rfl⟩
theorem ofD_all (m : Nat) (n : Int) (z : Zs) : (ofD m n z m).rows = (itD m n z).rows := by
  show (List.range m).map _ = (List.range m).map _
  refine List.map_congr_left fun j hj => ?_
  rw [if_pos (List.mem_range.1 hj)]
theorem ofD_none (m : Nat) (n : Int) (z : Zs) : (ofD m n z 0).rows = List.replicate m [.i 0, .i 0] := by
  show (List.range m).map _ = _
  rw [List.map_congr_left (g := fun (_ : Nat) => [D.i 0, D.i 0]) fun j _ => if_neg (Nat.not_lt_zero j)]
  simp [List.map_const']
theorem ofD_set {m k : Nat} (h : k < m) (n : Int) (z : Zs) : (ofD m n z k).rows.set k [.i (itvLo n z.1 z.2 k), .i (itvHi n z.1 z.2 k)] = (ofD m n z (k + 1)).rows := by
  show ((List.range m).map fun (j : Nat) => if j < k then [D.i (itvLo n z.1 z.2 j), D.i (itvHi n z.1 z.2 j)] else [.i 0, .i 0]).set k _ = (List.range m).map fun (j : Nat) => if j < k + 1 then [D.i (itvLo n z.1 z.2 j), D.i (itvHi n z.1 z.2 j)] else [.i 0, .i 0]
  apply List.ext_getElem?
  intro q
  rw [List.getElem?_set, List.getElem?_map, List.getElem?_map]
  by_cases hq : q < m
  · rw [List.getElem?_range hq]
    by_cases h1 : k = q
    · subst h1; rw [if_pos rfl, if_pos (by simpa using h)]; simp
    · rw [if_neg h1]
      simp only [Option.map_some, Option.some.injEq]
      by_cases h2 : q < k
      · rw [if_pos h2, if_pos (by omega)]
      · rw [if_neg h2, if_neg (by omega)]
  · rw [List.getElem?_eq_none (by simpa using hq), if_neg (by omega)]; rfl
def nofS : FSpec := fun ds _ => match ds with
  | [.i n, .b c, .f f, .i m] => some { val := .one (.agg [.c (.bool (.sym ((c, f)).1)), .c (.rows 82 (itD (m.toNat) (n) ((c, f)))), .c (.int .i64 (.sym (n))), .c (.bool (.sym ((c, f)).1)), .ints .i64 (.lit 49) ((c, f)).2]), vc := [Sm f, 0 ≤ m ∧ m ≤ 1000] }
  | _ => none
def nofC : Con := con [zA, iA] nofS
end Go.Proofs.Ytdagadcflignfaa.Sx.Z
namespace Go.Proofs.Ytdagadcflignfaa.Sx.Z
open Go.RowKit
def metZ (n x lo hi : Int) (z : Zs) : Zs := if x < 0 then z else bndZ n (-1) x (0 - ofLo lo hi) (bndZ n x (-1) (ofHi lo hi) z)
theorem good_met {n : Int} {z : Zs} (h : Good n z) (x lo hi : Int) : Good n (metZ n x lo hi z) := by
  unfold metZ
  split
  · exact h
  · exact good_bnd (good_bnd h _ _ _) _ _ _
theorem of_in (a b : Int) : -2147483648 ≤ ofLo a b ∧ ofLo a b ≤ 2147483647 ∧ -2147483648 ≤ ofHi a b ∧ ofHi a b ≤ 2147483647 := by
  unfold ofLo ofHi
  (repeat' split) <;> omega
theorem none_bnd (n : Int) : bndC n false (fun _ => 0) (-1) (-1) (-1) = true ∧ bndF n false (fun _ => 0) (-1) (-1) (-1) = fun _ => 0 := by
  have e : bndZ n (-1) (-1) (-1) (false, fun _ => 0) = (true, fun _ => 0) := by
    have q0 : ((-1 : Int) + 1).toNat = 0 := rfl
    rcases bnd_cases n (-1) (-1) (-1) (false, fun _ => 0) with ⟨_, h⟩ | ⟨_, _, _, h, ⟨_, e⟩ | ⟨h2, _⟩⟩
    · have := h (isEnd_nought n) (isEnd_nought n) rfl
      dsimp only at this; omega
    · exact e
    · dsimp only at h2; omega
  exact ⟨congrArg Prod.fst e, congrArg Prod.snd e⟩
/-- Zones of whatever count, joined, widened. -/
theorem sm_jn {n m : Int} {e e2 : Bool} {f g : Nat → Int} (gf : Good n (e, f)) (gg : Good m (e2, g)) : Sm (jnF n e f m e2 g) := by
  by_cases h : n = m
  · subst h; exact (good_jn gf gg).sm
  · have : jnF n e f m e2 g = f := funext fun o => if_pos (by simp [h])
    rw [this]; exact gf.sm
theorem sm_wd {n m : Int} {e e2 : Bool} {f g : Nat → Int} (gf : Good n (e, f)) (gg : Good m (e2, g)) : Sm (widF n e f m e2 g) := by
  by_cases h : n = m
  · subst h; exact (good_wd gf gg).sm
  · have : widF n e f m e2 g = f := funext fun o => if_pos (by simp [h])
    rw [this]; exact gf.sm
def metS : FSpec := fun ds _ => match ds with
  | [.i n, .b c, .f f, .i x, .i lo, .i hi] => some { val := .one (.agg [.c (.int .i64 (.sym (n))), .c (.bool (.sym ((metZ n x lo hi (c, f)).1))), .ints .i64 (.lit 49) ((metZ n x lo hi (c, f)).2)]), vc := [Good n (c, f)] }
  | _ => none
def metC : Con := con [zA, iA, itvA] metS
def ntopS : FSpec := fun ds _ => match ds with
  | [.i n] => some { val := .one (.agg [.c (.bool (.sym ((false, topF n) : Zs).1)), .c (.rows 82 (itD ((topN n).toNat) (topN n) ((false, topF n)))), .c (.int .i64 (.sym (topN n))), .c (.bool (.sym ((false, topF n) : Zs).1)), .ints .i64 (.lit 49) ((false, topF n) : Zs).2]), vc := [] }
  | _ => none
def ntopC : Con := con [iA] ntopS
def nzerosS : FSpec := fun ds _ => match ds with
  | [.i n] => some { val := .one (.agg [.c (.bool (.sym ((false, fun _ => 0) : Zs).1)), .c (.rows 82 (itD ((topN n).toNat) (topN n) ((false, fun _ => 0)))), .c (.int .i64 (.sym (topN n))), .c (.bool (.sym ((false, fun _ => 0) : Zs).1)), .ints .i64 (.lit 49) ((false, fun _ => 0) : Zs).2]), vc := [] }
  | _ => none
def nzerosC : Con := con [iA] nzerosS
def nnoneS : FSpec := fun ds _ => match ds with
  | [.i n] => some { val := .one (.agg [.c (.bool (.sym ((true, fun _ => 0) : Zs).1)), .c (.rows 82 (itD ((topN n).toNat) (topN n) ((true, fun _ => 0)))), .c (.int .i64 (.sym (topN n))), .c (.bool (.sym ((true, fun _ => 0) : Zs).1)), .ints .i64 (.lit 49) ((true, fun _ => 0) : Zs).2]), vc := [] }
  | _ => none
def nnoneC : Con := con [iA] nnoneS
def nsetS : FSpec := fun ds _ => match ds with
  | [.b _c, .d I, .i n, .b e, .f f, .i x, .i lo, .i hi] => some { val := .one (.agg [.c (.bool (.sym (metZ n x lo hi (fgZ n x (e, f)) : Zs).1)), .c (.rows 82 (itD (I.len) (n) (metZ n x lo hi (fgZ n x (e, f))))), .c (.int .i64 (.sym (n))), .c (.bool (.sym (metZ n x lo hi (fgZ n x (e, f)) : Zs).1)), .ints .i64 (.lit 49) (metZ n x lo hi (fgZ n x (e, f)) : Zs).2]), vc := [Good n (e, f), I.len ≤ 1000] }
  | _ => none
def nsetC : Con := con [numA, iA, itvA] nsetS
def nmeetS : FSpec := fun ds _ => match ds with
  | [.b _c, .d I, .i n, .b e, .f f, .i x, .i lo, .i hi] => some { val := .one (.agg [.c (.bool (.sym (metZ n x lo hi (e, f) : Zs).1)), .c (.rows 82 (itD (I.len) (n) (metZ n x lo hi (e, f)))), .c (.int .i64 (.sym (n))), .c (.bool (.sym (metZ n x lo hi (e, f) : Zs).1)), .ints .i64 (.lit 49) (metZ n x lo hi (e, f) : Zs).2]), vc := [Good n (e, f), I.len ≤ 1000] }
  | _ => none
def nmeetC : Con := con [numA, iA, itvA] nmeetS
def ncopyS : FSpec := fun ds _ => match ds with
  | [.b _c, .d I, .i n, .b e, .f f, .i x, .i y, .i b] => some { val := .one (.agg [.c (.bool (.sym (copyZ n x y b (e, f) : Zs).1)), .c (.rows 82 (itD (I.len) (n) (copyZ n x y b (e, f)))), .c (.int .i64 (.sym (n))), .c (.bool (.sym (copyZ n x y b (e, f) : Zs).1)), .ints .i64 (.lit 49) (copyZ n x y b (e, f) : Zs).2]), vc := [Good n (e, f), I.len ≤ 1000] }
  | _ => none
def ncopyC : Con := con [numA, iA, iA, iA] ncopyS
def nboundS : FSpec := fun ds _ => match ds with
  | [.b _c, .d I, .i n, .b e, .f f, .i x, .i y, .i b] => some { val := .one (.agg [.c (.bool (.sym (bndZ n x y b (e, f) : Zs).1)), .c (.rows 82 (itD (I.len) (n) (bndZ n x y b (e, f)))), .c (.int .i64 (.sym (n))), .c (.bool (.sym (bndZ n x y b (e, f) : Zs).1)), .ints .i64 (.lit 49) (bndZ n x y b (e, f) : Zs).2]), vc := [Good n (e, f), I.len ≤ 1000] }
  | _ => none
def nboundC : Con := con [numA, iA, iA, iA] nboundS
def njoinS : FSpec := fun ds _ => match ds with
  | [.b _c, .d I, .i n, .b e, .f f, .b _c2, .d _I2, .i m, .b e2, .f g] => some { val := .one (.agg [.c (.bool (.sym ((jnC n e m e2, jnF n e f m e2 g) : Zs).1)), .c (.rows 82 (itD (I.len) (n) ((jnC n e m e2, jnF n e f m e2 g)))), .c (.int .i64 (.sym (n))), .c (.bool (.sym ((jnC n e m e2, jnF n e f m e2 g) : Zs).1)), .ints .i64 (.lit 49) ((jnC n e m e2, jnF n e f m e2 g) : Zs).2]), vc := [Good n (e, f), Good m (e2, g), I.len ≤ 1000] }
  | _ => none
def njoinC : Con := con [numA, numA] njoinS
def nwidenS : FSpec := fun ds _ => match ds with
  | [.b _c, .d I, .i n, .b e, .f f, .b _c2, .d _I2, .i m, .b e2, .f g] => some { val := .one (.agg [.c (.bool (.sym ((widC n e f m e2 g, widF n e f m e2 g) : Zs).1)), .c (.rows 82 (itD (I.len) (n) ((widC n e f m e2 g, widF n e f m e2 g)))), .c (.int .i64 (.sym (n))), .c (.bool (.sym ((widC n e f m e2 g, widF n e f m e2 g) : Zs).1)), .ints .i64 (.lit 49) ((widC n e f m e2 g, widF n e f m e2 g) : Zs).2]), vc := [Good n (e, f), Good m (e2, g), I.len ≤ 1000] }
  | _ => none
def nwidenC : Con := con [numA, numA] nwidenS
def nwithinS : FSpec := fun ds _ => match ds with
  | [.b _c, .d _I, .i n, .b e, .f f, .b _c2, .d _I2, .i m, .b e2, .f g] => some { val := .one (.sc (.bool (.sym (withinP n e f m e2 g)))), vc := [] }
  | _ => none
def nwithinC : Con := con [numA, numA] nwithinS
end Go.Proofs.Ytdagadcflignfaa.Sx.Z
namespace Go.Proofs.Ytdagadcflignfaa.Sx.Z
open Go.RowKit
def hasJ (I v : D) (j : Nat) : Bool := decide ((I.el j 0).toI ≤ (v.el j 0).toI) && decide ((v.el j 0).toI ≤ (I.el j 1).toI)
def allJ (p : Nat → Bool) (m : Nat) : Bool := (List.range m).all p
theorem allJ_iff {p : Nat → Bool} {m : Nat} : allJ p m = true ↔ ∀ j, j < m → p j = true := by
  unfold allJ
  rw [List.all_eq_true]
  exact ⟨fun h j hj => h j (List.mem_range.2 hj), fun h j hj => h j (List.mem_range.1 hj)⟩
theorem allJ_no {p : Nat → Bool} {m j : Nat} (hj : j < m) (h : p j = false) : allJ p m = false := by
  cases e : allJ p m with
  | false => rfl
  | true => have := allJ_iff.1 e j hj; rw [h] at this; cases this
def nhasP (c : Bool) (I : D) (n : Int) (e : Bool) (f : Nat → Int) (v : D) : Bool := if (c || (v.len : Int) != I.len) = true then false else allJ (hasJ I v) I.len && hasP n e f v.len (ig v)
def rightJ (I : D) (n : Int) (e : Bool) (f : Nat → Int) (j : Nat) : Bool := ((I.el j 0).toI == itvLo n e f j) && ((I.el j 1).toI == itvHi n e f j)
def nrightP (c : Bool) (I : D) (n : Int) (e : Bool) (f : Nat → Int) : Bool := if (!rightP n e f || (e != c) || n != (I.len : Int)) = true then false else allJ (rightJ I n e f) I.len
def normLo (a b : Int) : Int := if a > b then 1 else a
def normHi (a b : Int) : Int := if a > b then 0 else b
def bend (a : Int) : Int := IntKind.i64.wrap (IntKind.i32.wrap a)
theorem bend_in (a : Int) : -2147483648 ≤ bend a ∧ bend a ≤ 2147483647 := by
  unfold bend
  have : -2147483648 ≤ IntKind.i32.wrap a ∧ IntKind.i32.wrap a ≤ 2147483647 := by
    rw [IntKind.wrap_i32]; omega
  rw [wr _ (by omega)]
  exact this
theorem of_norm {a b : Int} (ha : -2147483648 ≤ a ∧ a ≤ 2147483647) (hb : -2147483648 ≤ b ∧ b ≤ 2147483647) : ofLo a b = normLo a b ∧ ofHi a b = normHi a b := by
  unfold ofLo ofHi normLo normHi
  (repeat' split) <;> omega
theorem norm_in {a b : Int} (ha : -2147483648 ≤ a ∧ a ≤ 2147483647) (hb : -2147483648 ≤ b ∧ b ≤ 2147483647) : -2147483648 ≤ normLo a b ∧ normLo a b ≤ 2147483647 ∧ -2147483648 ≤ normHi a b ∧ normHi a b ≤ 2147483647 := by
  unfold normLo normHi
  (repeat' split) <;> omega
/-- Of nothing that a variable may be nothing is left. -/
theorem met_none {n x : Int} {z : Zs} (h : Good n z) (hx : isVarP n x = true) {lo hi : Int} (hl : lo > hi) : Same (metZ n x lo hi z) (true, fun _ => 0) := by
  have hv := isVarP_lt hx
  have e1 : ofLo lo hi = 1 := if_pos (by omega)
  have e2 : ofHi lo hi = 0 := if_pos (by omega)
  have g := good_met h x lo hi
  have e : metZ n x lo hi z = bndZ n (-1) x (0 - 1) (bndZ n x (-1) 0 z) := by unfold metZ; rw [if_neg (by omega), e1, e2]
  rw [e] at g ⊢
  have g1 := good_bnd h x (-1) 0
  cases hc : (bndZ n (-1) x (0 - 1) (bndZ n x (-1) 0 z)).1 with
  | true => exact ⟨hc, fun o ho => g.none hc o ho⟩
  | false =>
    exfalso
    have hR := R_le n
    have p := pt_at g hc (j := 0) (by omega)
    have p1 := (bnd_pt g1 (isEnd_nought n) (isVar_end hx) _).1 p
    have p2 := (bnd_pt h (isVar_end hx) (isEnd_nought n) _).1 p1.1
    have := p1.2
    have := p2.2
    omega
def nhasS : FSpec := fun ds _ => match ds with
  | [.b c, .d I, .i n, .b e, .f f, .d v] => some { val := .one (.sc (.bool (.sym (nhasP c I n e f v)))), vc := [I.len ≤ 1000] }
  | _ => none
def nhasC : Con := con [numA, .sc (.rows 3)] nhasS
def nrightS : FSpec := fun ds _ => match ds with
  | [.b c, .d I, .i n, .b e, .f f] => some { val := .one (.sc (.bool (.sym (nrightP c I n e f)))), vc := [Sm f, I.len ≤ 1000] }
  | _ => none
def nrightC : Con := con [numA] nrightS
def normS : FSpec := fun ds _ => match ds with
  | [.i a, .i b] => some { val := .one (.agg [.c (.int .i64 (.sym (normLo a b))), .c (.int .i64 (.sym (normHi a b)))]), vc := [] }
  | _ => none
def normC : Con := con [itvA] normS
def bendS : FSpec := fun ds _ => match ds with
  | [.i a, .i b] => some { val := .one (.agg [.c (.int .i64 (.sym (bend a))), .c (.int .i64 (.sym (bend b)))]), vc := [] }
  | _ => none
def bendC : Con := con [itvA] bendS
def ritvS : FSpec := fun ds _ => match ds with
  | [.i n, .b c, .f f, .i x] => some { val := .one (.agg [.c (.int .i64 (.sym (itvLo n c f x))), .c (.int .i64 (.sym (itvHi n c f x)))]), vc := [Good n (c, f), isVarP n x = true] }
  | _ => none
def ritvC : Con := con [zA, iA] ritvS
def rmeetS : FSpec := fun ds _ => match ds with
  | [.i n, .b c, .f f, .i x, .i lo, .i hi] => some { val := .one (.agg [.c (.int .i64 (.sym (n))), .c (.bool (.sym ((metZ n x lo hi (c, f)).1))), .ints .i64 (.lit 49) ((metZ n x lo hi (c, f)).2)]), vc := [Good n (c, f), isVarP n x = true, -2147483648 ≤ lo ∧ lo ≤ 2147483647, -2147483648 ≤ hi ∧ hi ≤ 2147483647] }
  | _ => none
def rmeetC : Con := con [zA, iA, itvA] rmeetS
def rsetS : FSpec := fun ds _ => match ds with
  | [.i n, .b c, .f f, .i x, .i lo, .i hi] => some { val := .one (.agg [.c (.int .i64 (.sym (n))), .c (.bool (.sym ((metZ n x lo hi (fgZ n x (c, f))).1))), .ints .i64 (.lit 49) ((metZ n x lo hi (fgZ n x (c, f))).2)]), vc := [Good n (c, f), isVarP n x = true, -2147483648 ≤ lo ∧ lo ≤ 2147483647, -2147483648 ≤ hi ∧ hi ≤ 2147483647] }
  | _ => none
def rsetC : Con := con [zA, iA, itvA] rsetS
end Go.Proofs.Ytdagadcflignfaa.Sx.Z
namespace Go.Proofs.Ytdagadcflignfaa.Sx.Z
open Go.RowKit
theorem itD_right {n : Int} {z : Zs} (g : Good n z) : nrightP z.1 (itD n.toNat n z) n z.1 z.2 = true := by
  have h := good_right g
  have h0 := g.n0
  unfold nrightP
  rw [if_neg (by rw [h, itD_len]; simp; omega)]
  refine allJ_iff.2 fun j hj => ?_
  rw [itD_len] at hj
  obtain ⟨e1, e2⟩ := itD_el hj n z
  unfold rightJ
  rw [e1, e2]; simp
theorem len_of {I : D} {m : Nat} {n : Int} {z : Zs} (h : I.rows = (itD m n z).rows) : I.len = m := by
  rw [show I.len = (itD m n z).len by unfold D.len; rw [h], itD_len]
theorem el_of {I : D} {m : Nat} {n : Int} {z : Zs} (h : I.rows = (itD m n z).rows) (i j : Nat) : I.el i j = (itD m n z).el i j := by unfold D.el; rw [h]
theorem right_rows {I J : D} (h : I.rows = J.rows) (c : Bool) (n : Int) (e : Bool) (f : Nat → Int) : nrightP c I n e f = nrightP c J n e f := by
  have hl : I.len = J.len := by unfold D.len; rw [h]
  have he : ∀ i j, I.el i j = J.el i j := fun i j => by unfold D.el; rw [h]
  unfold nrightP
  rw [hl]
  have : rightJ I n e f = rightJ J n e f := by funext j; unfold rightJ; rw [he, he]
  rw [this]
theorem good_congr {n : Int} {c : Bool} {f g : Nat → Int} (h : Good n (c, f)) (e : ∀ o, o < 49 → g o = f o) : Good n (c, g) := by
  have hR := R_le n
  refine ⟨h.n0, fun i j hi hj ho => (e _ (by omega)).trans (h.out i j hi hj ho), fun i hi => (e _ (by omega)).trans (h.diag i hi), fun i j k hi hj hk => ?_, fun i hi => ?_, fun i hi => ?_, fun hc o ho => (e o ho).trans (h.none hc o ho)⟩
  · have t := h.tri i j k hi hj hk
    unfold Z.tri at t ⊢
    dsimp only at t ⊢
    rw [e _ (by omega), e _ (by omega), e _ (by omega)]; exact t
  · have t := h.hi0 i hi
    dsimp only at t ⊢
    rw [e _ (by omega)]; exact t
  · have t := h.hi1 i hi
    dsimp only at t ⊢
    rw [e _ (by omega)]; exact t
theorem itv_congr {n : Int} {c : Bool} {f g : Nat → Int} (e : ∀ o, o < 49 → g o = f o) {x : Int} (hx : isVarP n x = true) : itvLo n c g x = itvLo n c f x ∧ itvHi n c g x = itvHi n c f x := by
  have hv := isVarP_lt hx
  unfold itvLo itvHi
  rw [e _ (by omega), e _ (by omega)]
  exact ⟨rfl, rfl⟩
theorem met_nought {n x : Int} (hx : ¬ x < 0) (z : Zs) : metZ n x 0 0 z = bndZ n (-1) x 0 (bndZ n x (-1) 0 z) := by
  have e1 : ofLo 0 0 = 0 := rfl
  have e2 : ofHi 0 0 = 0 := rfl
  unfold metZ
  rw [if_neg hx, e1, e2]; rfl
def meetsZ : Zs := metZ 1 0 (ofLo 4 9) (ofHi 4 9) (metZ 1 0 (ofLo 2 5) (ofHi 2 5) (fgZ 1 0 (false, fun _ => 0)))
theorem meetsZ_good : Good 1 meetsZ := good_met (good_met (good_fg (good_none (by omega) false) 0) _ _ _) _ _ _
def meetsS : FSpec := fun ds _ => match ds with
  | [] => some { val := .one (.sc (.bool (.sym (true)))), vc := [] }
  | _ => none
def meetsC : Con := con [] meetsS
def likeS : FSpec := fun ds _ => match ds with
  | [.b c, .d I, .i n, .b e, .f f, .i m, .b e2, .f g] => some { val := .one (.sc (.bool (.sym (true)))), vc := [Good n (e, f), c = e, I.rows = (itD n.toNat n (e, f)).rows, m = n, e2 = e, ∀ o, o < 49 → g o = f o] }
  | _ => none
def likeC : Con := con [numA, zA] likeS
def zerosNS : FSpec := fun ds _ => match ds with
  | [.i n] => some { val := .one (.agg [.c (.int .i64 (.sym (n))), .c (.bool (.sym (false))), .ints .i64 (.lit 49) (fun _ => 0)]), vc := [0 ≤ n ∧ n ≤ 6] }
  | _ => none
def zerosNC : Con := con [iA] zerosNS
end Go.Proofs.Ytdagadcflignfaa.Sx.Z
namespace Go.Proofs.Ytdagadcflignfaa.Sx.Z
open Go.RowKit
def meetI (a b : Int × Int) : Int × Int := ofI (max a.1 b.1) (min a.2 b.2)
def unlI (a b : Int × Int) : Int × Int := if b.1 = b.2 ∧ b.1 = a.1 then ofI (a.1 + 1) a.2 else if b.1 = b.2 ∧ b.1 = a.2 then ofI a.1 (a.2 - 1) else ofI a.1 a.2
def undI (a b : Int × Int) (n : Int) : (Int × Int) × (Int × Int) := (ofI a.1 (min a.2 (b.2 - n)), ofI (max b.1 (a.1 + n)) b.2)
def tstI (op : Int) (a b : Int × Int) : (Int × Int) × (Int × Int) :=
  if a.2 < a.1 ∨ b.2 < b.1 then ((1, 0), (1, 0)) else if op = 1 then (meetI a b, meetI a b) else if op = 2 then (unlI a b, unlI b a) else if op = 3 then undI a b 1 else if op = 4 then undI a b 0
  else if op = 5 then ((undI b a 1).2, (undI b a 1).1) else if op = 6 then ((undI b a 0).2, (undI b a 0).1) else ((1, 0), (1, 0))
/-- Numbers that may be, from one to another one. -/
def Rz (p : Int × Int) : Prop := -2147483648 ≤ p.1 ∧ p.1 ≤ p.2 ∧ p.2 ≤ 2147483647
noncomputable def imeetS : FSpec := fun ds _ => match ds with
  | [.i a, .i b, .i c, .i d] => some { val := .one (.agg [.c (.int .i64 (.sym ((meetI (a, b) (c, d)).1))), .c (.int .i64 (.sym ((meetI (a, b) (c, d)).2)))]), vc := [] }
  | _ => none
noncomputable def imeetC : Con := con [itvA, itvA] imeetS
noncomputable def iunlS : FSpec := fun ds _ => match ds with
  | [.i a, .i b, .i c, .i d] => some { val := .one (.agg [.c (.int .i64 (.sym ((unlI (a, b) (c, d)).1))), .c (.int .i64 (.sym ((unlI (a, b) (c, d)).2)))]), vc := [Rz (a, b), Rz (c, d)] }
  | _ => none
noncomputable def iunlC : Con := con [itvA, itvA] iunlS
noncomputable def iundS : FSpec := fun ds _ => match ds with
  | [.i a, .i b, .i c, .i d, .i n] => some { val := .tup [.agg [.c (.int .i64 (.sym (((undI (a, b) (c, d) n).1).1))), .c (.int .i64 (.sym (((undI (a, b) (c, d) n).1).2)))], .agg [.c (.int .i64 (.sym (((undI (a, b) (c, d) n).2).1))), .c (.int .i64 (.sym (((undI (a, b) (c, d) n).2).2)))]], vc := [Rz (a, b), Rz (c, d), 0 ≤ n ∧ n ≤ 1] }
  | _ => none
noncomputable def iundC : Con := con [itvA, itvA, iA] iundS
noncomputable def itestS : FSpec := fun ds _ => match ds with
  | [.i op, .i a, .i b, .i c, .i d] => some { val := .tup [.agg [.c (.int .i64 (.sym (((tstI op (a, b) (c, d)).1).1))), .c (.int .i64 (.sym (((tstI op (a, b) (c, d)).1).2)))], .agg [.c (.int .i64 (.sym (((tstI op (a, b) (c, d)).2).1))), .c (.int .i64 (.sym (((tstI op (a, b) (c, d)).2).2)))]], vc := [Rg (a, b), Rg (c, d)] }
  | _ => none
noncomputable def itestC : Con := con [iA, itvA, itvA] itestS
noncomputable def icloneS : FSpec := fun ds _ => match ds with
  | [.d I] => some { val := .one (.sc (.rows 82 I)), vc := [0 < I.len ∧ I.len ≤ 1000] }
  | _ => none
noncomputable def icloneC : Con := con [.sc (.rows 82)] icloneS
noncomputable def elessS : FSpec := fun ds _ => match ds with
  | [.i a, .i b, .i n] => some { val := .one (.agg [.c (.int .i64 (.sym (a - n))), .c (.int .i64 (.sym (b - n)))]), vc := [Rz (a, b), -1099511627776 ≤ n ∧ n ≤ 1099511627776] }
  | _ => none
noncomputable def elessC : Con := con [itvA, iA] elessS
end Go.Proofs.Ytdagadcflignfaa.Sx.Z
namespace Go.Proofs.Ytdagadcflignfaa.Sx.Z
open Go.RowKit
theorem lin_in : ∀ {e : Xp} {x n : Int}, linP e = some (x, n) → -1099511627776 ≤ n ∧ n ≤ 1099511627776 := by
  have am : ∀ {a b x n : Int}, amtP a b = some (x, n) → -1099511627776 ≤ n ∧ n ≤ 1099511627776 := fun {a b x n} h => by
    unfold amtP at h
    split at h
    · cases h
    · obtain ⟨rfl, rfl⟩ := Prod.mk.inj (Option.some.inj h); omega
  have cm : ∀ {k x n : Int} {l r}, combP k l r = some (x, n) → -1099511627776 ≤ n ∧ n ≤ 1099511627776 := fun {k x n l r} h => by
    rcases l with _ | ⟨u, a⟩
    · cases h
    · rcases r with _ | ⟨v, b⟩
      · cases h
      · rw [comb_some] at h
        split at h
        · exact am h
        · split at h
          · exact am h
          · split at h
            · exact am h
            · cases h
  have vr : ∀ {v x n : Int}, some (v, (0 : Int)) = some (x, n) → -1099511627776 ≤ n ∧ n ≤ 1099511627776 := fun h => by
    obtain ⟨rfl, rfl⟩ := Prod.mk.inj (Option.some.inj h); omega
  intro e x n h
  match e with
  | .mk k m v [a, b] =>
    rw [linP] at h
    split at h
    · exact am h
    · split at h
      · exact vr h
      · split at h
        · exact cm h
        · cases h
  | .mk k m v [] =>
    rw [linP.eq_2 _ _ _ _ (fun a b h => by cases h)] at h
    split at h
    · exact am h
    · split at h
      · exact vr h
      · split at h <;> cases h
  | .mk k m v [a] =>
    rw [linP.eq_2 _ _ _ _ (fun a b h => by cases h)] at h
    split at h
    · exact am h
    · split at h
      · exact vr h
      · split at h <;> cases h
  | .mk k m v (a :: b :: c :: r) =>
    rw [linP.eq_2 _ _ _ _ (fun a b h => by cases h)] at h
    split at h
    · exact am h
    · split at h
      · exact vr h
      · split at h <;> cases h
def asgR (n x : Int) (l : Option (Int × Int)) (i : Int × Int) (z : Zs) : Zs := if i.2 < i.1 then (true, fun _ => 0) else match l with
  | some (y, b) => metZ n x i.1 i.2 (copyZ n x y b z)
  | none => metZ n x i.1 i.2 (fgZ n x z)
def bdZ (n op x y b : Int) (z : Zs) : Zs := if op = 1 then bndZ n y x (0 - b) (bndZ n x y b z) else if op = 3 then bndZ n x y (b - 1) z else if op = 4 then bndZ n x y b z else if op = 5 then bndZ n y x (0 - b - 1) z else if op = 6 then bndZ n y x (0 - b) z else z
def hldZ (n op : Int) (L R : Xp) (s t : Int × Int) (z : Zs) : Zs :=
  let z1 := match linP L with | some (x, m) => metZ n x (s.1 - m) (s.2 - m) z | none => z
  let z2 := match linP R with | some (y, b) => metZ n y (t.1 - b) (t.2 - b) z1 | none => z1
  match linP L, linP R with
  | some (x, m), some (y, b) => if x ≠ y then bdZ n op x y (b - m) z2 else z2
  | _, _ => z2
def asmT (n op : Int) (L R : Xp) (T : (Int × Int) × (Int × Int)) (er : Bool × Bool) (z : Zs) : Zs × (Bool × Bool) := if T.1.2 < T.1.1 ∨ T.2.2 < T.2.1 then ((true, fun _ => 0), er) else (hldZ n op L R T.1 T.2 z, er)
def asmB (n op : Int) (L R : Xp) (B : (Int × Int) × (Int × Int) × (Bool × Bool)) (z : Zs) : Zs × (Bool × Bool) := asmT n op L R (tstI op B.1 B.2.1) B.2.2 z
theorem nm_none : Nm (1, 0) := .inl rfl
theorem tst_nm (op : Int) (a b : Int × Int) : Nm (tstI op a b).1 ∧ Nm (tstI op a b).2 := by
  have u : ∀ a b, Nm (unlI a b) := fun a b => by
    unfold unlI
    (repeat' split) <;> exact nm_of _ _
  unfold tstI
  (repeat' split) <;> first | exact ⟨nm_none, nm_none⟩ | exact ⟨nm_of _ _, nm_of _ _⟩ | exact ⟨u _ _, u _ _⟩
theorem nm_rz {p : Int × Int} (h : Nm p) (hp : ¬ p.2 < p.1) : Rz p := by
  rcases h with rfl | h
  · exact absurd (by decide) hp
  · exact h
/-- What a Num of so many variables tells. -/
structure NumOK (n : Int) (c : Bool) (I : D) (e : Bool) (f : Nat → Int) : Prop where
  good : Good n (e, f)
  c : c = e
  rows : I.rows = (itD n.toNat n (e, f)).rows
theorem rows_eq {d d' : D} (h : d.rows = d'.rows) : d.len = d'.len ∧ ∀ i j, d.el i j = d'.el i j := by
  unfold D.len D.el
  rw [h]
  exact ⟨rfl, fun _ _ => rfl⟩
theorem itv_nm (n : Int) (c : Bool) (f : Nat → Int) (x : Int) : Nm (itvLo n c f x, itvHi n c f x) := by
  unfold itvLo itvHi
  split
  · exact .inl rfl
  · exact nm_of _ _
theorem itD_pr {m : Nat} {v : Int} (h : 0 ≤ v ∧ v < m) (n : Int) (z : Zs) : prI (itD m n z) v = (itvLo n z.1 z.2 v, itvHi n z.1 z.2 v) := by
  obtain ⟨h1, h2⟩ := itD_el (m := m) (j := v.toNat) (by omega) n z
  unfold prI
  rw [h1, h2, Int.toNat_of_nonneg h.1]
theorem itD_rg {n : Int} (h : 0 ≤ n ∧ n ≤ 6) (z : Zs) : RgI (itD n.toNat n z) := by
  refine ⟨by rw [itD_len]; omega, fun v h0 h1 => ?_⟩
  rw [itD_len] at h1
  rw [itD_pr ⟨h0, h1⟩]
  exact (itv_nm _ _ _ _).rg
section
variable {n : Int} {c : Bool} {I : D} {e : Bool} {f : Nat → Int} (h : NumOK n c I e f)
include h
theorem NumOK.n0 : 0 ≤ n ∧ n ≤ 6 := h.good.n0
theorem NumOK.len : I.len = n.toNat := (rows_eq h.rows).1.trans (itD_len _ _ _)
theorem NumOK.rg : RgI I := by
  obtain ⟨h1, h2⟩ := rows_eq h.rows
  have := itD_rg h.n0 (e, f)
  refine ⟨by rw [h1]; exact this.1, fun v h0 hv => ?_⟩
  have hp : prI I v = prI (itD n.toNat n (e, f)) v := by unfold prI; rw [h2, h2]
  rw [hp]
  exact this.2 v h0 (by rw [← h1]; exact hv)
theorem NumOK.top : topN (I.len : Int) = n := by have := h.n0; rw [h.len]; unfold topN; omega
theorem NumOK.le : I.len ≤ 1000 := h.rg.1
end
theorem numOK_of {n : Int} {z : Zs} (h : Good n z) : NumOK n z.1 (itD n.toNat n z) z.1 z.2 := ⟨h, rfl, rfl⟩
noncomputable def eboundedS : FSpec := fun ds _ => match ds with
  | [.b c, .d I, .i n, .b e, .f f, .i op, .i x, .i y, .i b] => some { val := .one (.agg [.c (.bool (.sym (bdZ n op x y b (e, f) : Zs).1)), .c (.rows 82 (itD (I.len) (n) (bdZ n op x y b (e, f)))), .c (.int .i64 (.sym (n))), .c (.bool (.sym (bdZ n op x y b (e, f) : Zs).1)), .ints .i64 (.lit 49) (bdZ n op x y b (e, f) : Zs).2]), vc := [NumOK n c I e f, -2199023255552 ≤ b ∧ b ≤ 2199023255552] }
  | _ => none
noncomputable def eboundedC : Con := con [numA, iA, iA, iA, iA] eboundedS
noncomputable def heldS : FSpec := fun ds _ => match ds with
  | [.b c, .d I, .i n, .b e, .f f, .i op, .i k, .i m, .i v, .d d, .i k2, .i m2, .i v2, .d d2, .i s1, .i s2, .i t1, .i t2] => some { val := .one (.agg [.c (.bool (.sym (hldZ n op (ex k m v d) (ex k2 m2 v2 d2) (s1, s2) (t1, t2) (e, f) : Zs).1)), .c (.rows 82 (itD (I.len) (n) (hldZ n op (ex k m v d) (ex k2 m2 v2 d2) (s1, s2) (t1, t2) (e, f)))), .c (.int .i64 (.sym (n))), .c (.bool (.sym (hldZ n op (ex k m v d) (ex k2 m2 v2 d2) (s1, s2) (t1, t2) (e, f) : Zs).1)), .ints .i64 (.lit 49) (hldZ n op (ex k m v d) (ex k2 m2 v2 d2) (s1, s2) (t1, t2) (e, f) : Zs).2]), vc := [NumOK n c I e f, 0 < n, Rz (s1, s2), Rz (t1, t2)] }
  | _ => none
noncomputable def heldC : Con := con [numA, .agg [.c (.int .i64), .c (.int .i64), .c (.int .i64), .c (.int .i64), .c (.rows 25), .c (.int .i64), .c (.int .i64), .c (.int .i64), .c (.rows 25)], itvA, itvA] heldS
end Go.Proofs.Ytdagadcflignfaa.Sx.Z
