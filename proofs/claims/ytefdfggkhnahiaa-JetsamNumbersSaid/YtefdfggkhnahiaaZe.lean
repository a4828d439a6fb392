/-
  Zones that calls tell: closed bounds, their points; zone.Copy.
-/
import Derived.Test.YtefdfggkhnahiaaZd
namespace Go.Proofs.Ytefdfggkhnahiaa.Sx.Z
open Go.RowKit
abbrev Zs := Bool × (Nat → Int)
def R (n : Int) : Nat := (rowsP n).toNat
def bndZ (n x y b : Int) (z : Zs) : Zs := (bndC n z.1 z.2 x y b, bndF n z.1 z.2 x y b)
def fgZ (n x : Int) (z : Zs) : Zs := (z.1, forgetF n z.1 z.2 x)
def shZ (n : Int) (i : Nat) (b : Int) (z : Zs) : Zs := (z.1, shiftF n z.1 z.2 i b)
def cp2 (n y b : Int) (z : Zs) : Zs := bndZ n (-1) y (b + 2147483648) (bndZ n y (-1) (2147483647 - b) z)
def copyZ (n x y b : Int) (z : Zs) : Zs := if (z.1 || !isVarP n x || !isEndP n y) = true then z else if (decide (b > 1099511627776) || decide (b < -1099511627776)) = true then (true, fun _ => 0) else if (x == y) = true then shZ n (x + 1).toNat b (cp2 n y b z) else bndZ n y x (0 - b) (bndZ n x y b (fgZ n x (cp2 n y b z)))
structure Good (n : Int) (z : Zs) : Prop where
  n0 : 0 ≤ n ∧ n ≤ 6
  out : ∀ i j, i < 7 → j < 7 → (R n ≤ i ∨ R n ≤ j) → z.2 (i * 7 + j) = 0
  diag : ∀ i, i < R n → z.2 (i * 7 + i) = 0
  tri : ∀ i j k, i < R n → j < R n → k < R n → tri z.2 i j k
  hi0 : ∀ i, i < R n → z.2 (i * 7) ≤ 2147483647
  hi1 : ∀ i, i < R n → z.2 i ≤ 2147483648
  none : z.1 = true → ∀ o, o < 49 → z.2 o = 0
theorem R_le (n : Int) : 1 ≤ R n ∧ R n ≤ 7 ∧ (R n : Int) = rowsP n := by have := rowsP_le n; unfold R; omega
theorem at7 {i j : Nat} {o : Nat} (h : o < 49) (hi : i = o / 7) (hj : j = o % 7) : o = i * 7 + j ∧ i < 7 ∧ j < 7 := by omega
theorem Good.low {n : Int} {z : Zs} (h : Good n z) {i j : Nat} (hi : i < R n) (hj : j < R n) : -4294967295 ≤ z.2 (i * 7 + j) ∧ z.2 (i * 7 + j) ≤ 4294967295 := by
  have hR := R_le n
  have t1 := h.tri i j 0 hi hj (by omega)
  have t2 := h.tri j i 0 hj hi (by omega)
  have t3 := h.tri i i j hi hi hj
  have d := h.diag i hi
  have a1 := h.hi0 i hi
  have a2 := h.hi0 j hj
  have a3 := h.hi1 i hi
  have a4 := h.hi1 j hj
  unfold Z.tri at t1 t2 t3
  rw [show 0 * 7 + j = j by omega] at t1
  rw [show 0 * 7 + i = i by omega] at t2
  rw [Nat.add_zero] at t1 t2
  omega
theorem Good.sm {n : Int} {z : Zs} (h : Good n z) : Sm z.2 := fun o ho => by
  obtain ⟨e, hi, hj⟩ := at7 ho rfl rfl
  rw [e]
  by_cases hr : o / 7 < R n ∧ o % 7 < R n
  · have := h.low hr.1 hr.2; omega
  · rw [h.out _ _ hi hj (by omega)]; omega
theorem near_at {f : Nat → Int} {a b : Nat} {by' : Int} {i j : Nat} (hj : j < 7) : near f a b by' (i * 7 + j) = min (f (i * 7 + j)) (f (i * 7 + a) + by' + f (b * 7 + j)) := by
  unfold near
  rw [(dm7 (k := i) (m := j) hj).1, (dm7 (k := i) (m := j) hj).2]
theorem isEnd_R {n x : Int} (h : isEndP n x = true) : (x + 1).toNat < R n ∧ ((x + 1).toNat : Int) = x + 1 := by
  have := isEndP_lt h
  have := R_le n
  omega
/-- Bound: the same, nothing, or nearer. -/
theorem bnd_cases (n x y b : Int) (z : Zs) : (bndZ n x y b z = z ∧ (isEndP n x = true → isEndP n y = true → z.1 = false → z.2 ((x + 1).toNat * 7 + (y + 1).toNat) ≤ b)) ∨
    (z.1 = false ∧ isEndP n x = true ∧ isEndP n y = true ∧ b < z.2 ((x + 1).toNat * 7 + (y + 1).toNat) ∧
      ((b < 0 - z.2 ((y + 1).toNat * 7 + (x + 1).toNat) ∧ bndZ n x y b z = (true, fun _ => 0)) ∨
      (0 - z.2 ((y + 1).toNat * 7 + (x + 1).toNat) ≤ b ∧ bndZ n x y b z = (false, fun o => if o / 7 < R n ∧ o % 7 < R n then near z.2 (x + 1).toNat (y + 1).toNat b o else z.2 o)))) := by
  obtain ⟨c, f⟩ := z
  unfold bndZ bndC bndF
  by_cases h : (c || !isEndP n x || !isEndP n y) = true
  · left
    simp only [h, if_true]
    refine ⟨trivial, fun h1 h2 h3 => ?_⟩
    rw [h1, h2, h3] at h; cases h
  · have hc : c = false ∧ isEndP n x = true ∧ isEndP n y = true := by
      revert h; cases c <;> cases isEndP n x <;> cases isEndP n y <;> simp
    simp only [if_neg h]
    unfold bdC bdF
    by_cases h1 : b ≥ f ((x + 1).toNat * 7 + (y + 1).toNat)
    · left
      simp only [if_pos h1]
      exact ⟨trivial, fun _ _ _ => h1⟩
    · right
      refine ⟨hc.1, hc.2.1, hc.2.2, by omega, ?_⟩
      simp only [if_neg h1]
      by_cases h2 : b < 0 - f ((y + 1).toNat * 7 + (x + 1).toNat)
      · left; simp only [if_pos h2]; exact ⟨h2, trivial⟩
      · right; simp only [if_neg h2, hc.1]; exact ⟨by omega, rfl⟩
theorem good_none {n : Int} (h : 0 ≤ n ∧ n ≤ 6) (c : Bool) : Good n (c, fun _ => 0) := ⟨h, fun _ _ _ _ _ => rfl, fun _ _ => rfl, fun _ _ _ _ _ _ => by show (0 : Int) ≤ 0 + 0; omega, fun _ _ => by show (0 : Int) ≤ _; omega, fun _ _ => by show (0 : Int) ≤ _; omega, fun _ _ _ => rfl⟩
theorem near_val {n : Int} {f : Nat → Int} {a b : Nat} {q : Int} {i j : Nat} (hi : i < R n) (hj : j < R n) : (if (i * 7 + j) / 7 < R n ∧ (i * 7 + j) % 7 < R n then near f a b q (i * 7 + j) else f (i * 7 + j)) = min (f (i * 7 + j)) (f (i * 7 + a) + q + f (b * 7 + j)) := by
  have hR := R_le n
  have h7 := dm7 (k := i) (m := j) (by omega)
  rw [if_pos (by omega), near_at (by omega)]
theorem good_bnd {n : Int} {z : Zs} (h : Good n z) (x y b : Int) : Good n (bndZ n x y b z) := by
  have hR := R_le n
  rcases bnd_cases n x y b z with ⟨e, _⟩ | ⟨hc, hx, hy, hlt, ⟨_, e⟩ | ⟨hge, e⟩⟩
  · rw [e]; exact h
  · rw [e]; exact good_none h.n0 true
  · rw [e]
    obtain ⟨ha, _⟩ := isEnd_R hx
    obtain ⟨hb, _⟩ := isEnd_R hy
    generalize (x + 1).toNat = a at *
    generalize (y + 1).toNat = d at *
    obtain ⟨c, f⟩ := z
    dsimp only at hlt hge hc ⊢
    refine ⟨h.n0, fun i j hi hj ho => ?_, fun i hi => ?_, fun i j k hi hj hk => ?_, fun i hi => ?_, fun i hi => ?_, fun h => by cases h⟩
    · dsimp only
      have h7 := dm7 (k := i) (m := j) hj
      rw [if_neg (by omega)]
      exact h.out i j hi hj ho
    · dsimp only
      rw [near_val hi hi]
      have t := h.tri d a i hb ha hi
      have dg := h.diag i hi
      unfold Z.tri at t
      dsimp only at t dg
      omega
    · unfold Z.tri
      dsimp only
      rw [near_val hi hj, near_val hi hk, near_val hk hj]
      have t1 := h.tri i j k hi hj hk
      have t2 := h.tri i a k hi ha hk
      have t3 := h.tri d j k hb hj hk
      have t4 := h.tri d a k hb ha hk
      unfold Z.tri at t1 t2 t3 t4
      dsimp only at t1 t2 t3 t4
      omega
    · dsimp only
      have := near_val (n := n) (f := f) (a := a) (b := d) (q := b) hi (show 0 < R n by omega)
      rw [Nat.add_zero] at this
      rw [this]
      have := h.hi0 i hi
      dsimp only at this
      omega
    · dsimp only
      have := near_val (n := n) (f := f) (a := a) (b := d) (q := b) (show 0 < R n by omega) hi
      rw [show 0 * 7 + i = i by omega] at this
      rw [this]
      have := h.hi1 i hi
      dsimp only at this
      omega
/-- The numbers of a zone. -/
def Pt (n : Int) (z : Zs) (v : Nat → Int) : Prop := z.1 = false ∧ v 0 = 0 ∧ ∀ i j, i < R n → j < R n → v i - v j ≤ z.2 (i * 7 + j)
theorem bnd_pt {n : Int} {z : Zs} (h : Good n z) {x y b : Int} (hx : isEndP n x = true) (hy : isEndP n y = true) (v : Nat → Int) : Pt n (bndZ n x y b z) v ↔ Pt n z v ∧ v (x + 1).toNat - v (y + 1).toNat ≤ b := by
  obtain ⟨ha, _⟩ := isEnd_R hx
  obtain ⟨hb, _⟩ := isEnd_R hy
  rcases bnd_cases n x y b z with ⟨e, h1⟩ | ⟨hc, _, _, hlt, ⟨h2, e⟩ | ⟨hge, e⟩⟩
  · rw [e]
    refine ⟨fun hp => ⟨hp, ?_⟩, fun hp => hp.1⟩
    have := h1 hx hy hp.1
    have := hp.2.2 _ _ ha hb
    omega
  · rw [e]
    refine ⟨fun hp => (by cases hp.1), fun hp => ?_⟩
    have := hp.1.2.2 _ _ hb ha
    omega
  · rw [e]
    generalize (x + 1).toNat = a at *
    generalize (y + 1).toNat = d at *
    constructor
    · rintro ⟨_, h0, hp⟩
      refine ⟨⟨hc, h0, fun i j hi hj => ?_⟩, ?_⟩
      · have := hp i j hi hj
        dsimp only at this
        rw [near_val hi hj] at this
        omega
      · have := hp a d ha hb
        dsimp only at this
        rw [near_val ha hb] at this
        have d1 := h.diag a ha
        have d2 := h.diag d hb
        omega
    · rintro ⟨⟨_, h0, hp⟩, hq⟩
      refine ⟨rfl, h0, fun i j hi hj => ?_⟩
      dsimp only
      rw [near_val hi hj]
      have p1 := hp i j hi hj
      have p2 := hp i a hi ha
      have p3 := hp d j hb hj
      omega
/-- A bound is reached. -/
theorem pt_at {n : Int} {z : Zs} (h : Good n z) (hc : z.1 = false) {j : Nat} (hj : j < R n) : Pt n z (fun k => z.2 (k * 7 + j) - z.2 (0 * 7 + j)) := by
  have hR := R_le n
  refine ⟨hc, by dsimp only; omega, fun i l hi hl => ?_⟩
  have t := h.tri i j l hi hj hl
  unfold Z.tri at t
  dsimp only
  omega
theorem good_le {n : Int} {z w : Zs} (h : Good n z) (hp : ∀ v, Pt n z v → Pt n w v) (hc : z.1 = false) : w.1 = false ∧ ∀ i j, i < R n → j < R n → z.2 (i * 7 + j) ≤ w.2 (i * 7 + j) := by
  have hR := R_le n
  refine ⟨(hp _ (pt_at h hc (show 0 < R n by omega))).1, fun i j hi hj => ?_⟩
  have := (hp _ (pt_at h hc hj)).2.2 i j hi hj
  have d := h.diag j hj
  dsimp only at this
  omega
theorem good_ext {n : Int} {z w : Zs} (h : Good n z) (k : Good n w) (hp : ∀ v, Pt n z v ↔ Pt n w v) : z.1 = w.1 ∧ ∀ o, o < 49 → z.2 o = w.2 o := by
  cases hz : z.1 with
  | false =>
    obtain ⟨hw, h1⟩ := good_le h (fun v => (hp v).1) hz
    obtain ⟨_, h2⟩ := good_le k (fun v => (hp v).2) hw
    refine ⟨hw.symm, fun o ho => ?_⟩
    obtain ⟨e, hi, hj⟩ := at7 ho rfl rfl
    rw [e]
    by_cases hr : o / 7 < R n ∧ o % 7 < R n
    · exact Int.le_antisymm (h1 _ _ hr.1 hr.2) (h2 _ _ hr.1 hr.2)
    · rw [h.out _ _ hi hj (by omega), k.out _ _ hi hj (by omega)]
  | true =>
    cases hw : w.1 with
    | true => exact ⟨rfl, fun o ho => by rw [h.none hz o ho, k.none hw o ho]⟩
    | false =>
      obtain ⟨hz2, _⟩ := good_le k (fun v => (hp v).2) hw
      rw [hz] at hz2; cases hz2
theorem fg_at {f : Nat → Int} {a r i j : Nat} (hi : i < r) (hj : j < r) (hr : r ≤ 7) : fgTo f a r (i * 7 + j) = if i = a ∧ j ≠ a then 2147483647 + f j else if j = a ∧ i ≠ a then f (i * 7) + 2147483648 else f (i * 7 + j) := by
  have h7 := dm7 (k := i) (m := j) (by omega)
  unfold fgTo
  rw [h7.1, h7.2]
  exact icg (by omega) rfl (icg (by omega) rfl rfl)
theorem good_fg {n : Int} {z : Zs} (h : Good n z) (x : Int) : Good n (fgZ n x z) := by
  have hR := R_le n
  obtain ⟨c, f⟩ := z
  unfold fgZ forgetF
  by_cases hb : (c || !isVarP n x) = true
  · simp only [if_pos hb]; exact h
  · have hv := isVarP_lt (show isVarP n x = true by revert hb; cases c <;> cases isVarP n x <;> simp)
    have hc : c = false := by revert hb; cases c <;> simp
    simp only [if_neg hb]
    show Good n (c, fun o => fgTo f (x + 1).toNat (R n) o)
    have ha : (x + 1).toNat < R n ∧ 1 ≤ (x + 1).toNat := by omega
    generalize (x + 1).toNat = a at *
    refine ⟨h.n0, fun i j hi hj ho => ?_, fun i hi => ?_, fun i j k hi hj hk => ?_, fun i hi => ?_, fun i hi => ?_, fun h => by rw [hc] at h; cases h⟩
    · have h7 := dm7 (k := i) (m := j) hj
      show fgTo f a (R n) (i * 7 + j) = 0
      unfold fgTo
      rw [if_neg (by omega), if_neg (by omega)]
      exact h.out i j hi hj ho
    · show fgTo f a (R n) (i * 7 + i) = 0
      rw [fg_at hi hi hR.2.1, if_neg (by omega), if_neg (by omega)]
      exact h.diag i hi
    · show fgTo f a (R n) (i * 7 + j) ≤ fgTo f a (R n) (i * 7 + k) + fgTo f a (R n) (k * 7 + j)
      rw [fg_at hi hj hR.2.1, fg_at hi hk hR.2.1, fg_at hk hj hR.2.1]
      have t0 := h.tri i j k hi hj hk
      have t1 := h.tri 0 j k (by omega) hj hk
      have t2 := h.tri i 0 k hi (by omega) hk
      have t3 := h.tri i j 0 hi hj (by omega)
      have t4 := h.tri 0 0 k (by omega) (by omega) hk
      have dg := h.diag 0 (by omega)
      unfold Z.tri at t0 t1 t2 t3 t4
      simp only [Nat.zero_mul, Nat.zero_add, Nat.add_zero] at t0 t1 t2 t3 t4 dg
      have di := h.diag i hi
      have dj := h.diag j hj
      dsimp only at di dj
      by_cases e1 : i = a
      · by_cases e2 : j = a
        · by_cases e3 : k = a
          · rw [if_neg (by omega), if_neg (by omega), if_neg (by omega), if_neg (by omega), if_neg (by omega), if_neg (by omega)]; subst e1 e2 e3; omega
          · rw [if_neg (by omega), if_neg (by omega), if_pos (by omega), if_neg (by omega), if_pos (by omega)]; subst e1 e2; omega
        · by_cases e3 : k = a
          · rw [if_pos (by omega), if_neg (by omega), if_neg (by omega), if_pos (by omega)]; subst e1 e3; omega
          · rw [if_pos (by omega), if_pos (by omega), if_neg (by omega), if_neg (by omega)]; omega
      · by_cases e2 : j = a
        · by_cases e3 : k = a
          · rw [if_neg (by omega), if_pos (by omega), if_neg (by omega), if_pos (by omega), if_neg (by omega), if_neg (by omega)]; subst e2 e3; omega
          · rw [if_neg (by omega), if_pos (by omega), if_neg (by omega), if_neg (by omega), if_neg (by omega), if_pos (by omega)]; omega
        · by_cases e3 : k = a
          · rw [if_neg (by omega), if_neg (by omega), if_neg (by omega), if_pos (by omega), if_pos (by omega)]; omega
          · rw [if_neg (by omega), if_neg (by omega), if_neg (by omega), if_neg (by omega), if_neg (by omega), if_neg (by omega)]; omega
    · have e := fg_at (f := f) (a := a) hi (show 0 < R n by omega) hR.2.1
      rw [Nat.add_zero] at e
      show fgTo f a (R n) (i * 7) ≤ _
      rw [e]
      have := h.hi0 i hi
      have dg := h.diag 0 (by omega)
      dsimp only at this dg
      simp only [Nat.zero_mul, Nat.zero_add] at dg
      (repeat' split) <;> omega
    · have e := fg_at (f := f) (a := a) (show 0 < R n by omega) hi hR.2.1
      rw [Nat.zero_mul, Nat.zero_add] at e
      show fgTo f a (R n) i ≤ _
      rw [e]
      have := h.hi1 i hi
      have dg := h.diag 0 (by omega)
      dsimp only at this dg
      simp only [Nat.zero_mul, Nat.zero_add] at dg
      (repeat' split) <;> omega
end Go.Proofs.Ytefdfggkhnahiaa.Sx.Z
