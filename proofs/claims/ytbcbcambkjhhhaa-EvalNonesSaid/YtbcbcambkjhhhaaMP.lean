/-
  Zones that calls tell: closed bounds, their points; zone.Copy.
-/
import Derived.Test.YtbcbcambkjhhhaaProg
import Derived.IntWalk
import Derived.ChangeArms
import Derived.OpenShut
import Derived.WideShapes
import Derived.ChangeShapes
import Derived.Carry
import Derived.DataReads
import Derived.KernelRfl
import Derived.Deep.LoopGhost
import Derived.Laws.Append
import Derived.Laws.AppendOwn
import Derived.Laws.MakeOwn
import Derived.Laws.StructEq
import Derived.Laws.Cells
import Derived.Laws.CopyRow
import Derived.Laws.Rows
import Derived.Below
import Derived.Orders
import Derived.ChangeKeysEq
import Derived.Test.YtbcbcambkjhhhaaMA
import Derived.Test.YtbcbcambkjhhhaaMB
import Derived.Test.YtbcbcambkjhhhaaMC
import Derived.Test.YtbcbcambkjhhhaaMD
import Derived.Test.YtbcbcambkjhhhaaME
import Derived.Test.YtbcbcambkjhhhaaMF
import Derived.Test.YtbcbcambkjhhhaaMG
import Derived.Test.YtbcbcambkjhhhaaMH
import Derived.Test.YtbcbcambkjhhhaaMI
import Derived.Test.YtbcbcambkjhhhaaMJ
import Derived.Test.YtbcbcambkjhhhaaMK
import Derived.Test.YtbcbcambkjhhhaaML
import Derived.Test.YtbcbcambkjhhhaaMM
import Derived.Test.YtbcbcambkjhhhaaMj1
import Derived.Test.YtbcbcambkjhhhaaMN
import Derived.Test.YtbcbcambkjhhhaaMO
namespace Go.Proofs.Ytbcbcambkjhhhaa.Sx.Z
open Go.RowKit
abbrev Zs := Bool × (Nat → Int)
def R (n : Int) : Nat := (rowsP n).toNat
def bndZ (n x y b : Int) (z : Zs) : Zs := (bndC n z.1 z.2 x y b, bndF n z.1 z.2 x y b)
def fgZ (n x : Int) (z : Zs) : Zs := (z.1, forgetF n z.1 z.2 x)
def shZ (n : Int) (i : Nat) (b : Int) (z : Zs) : Zs := (z.1, shiftF n z.1 z.2 i b)
def cp2 (n y b : Int) (z : Zs) : Zs := bndZ n (-1) y (b + 2147483648) (bndZ n y (-1) (2147483647 - b) z)
def copyZ (n x y b : Int) (z : Zs) : Zs := if (z.1 || !isVarP n x || !isEndP n y) = true then z else if (decide (b > 1099511627776) || decide (b < -1099511627776)) = true then (true, fun _ => 0) else if (x == y) = true then shZ n (x + 1).toNat b (cp2 n y b z) else bndZ n y x (0 - b) (bndZ n x y b (fgZ n x (cp2 n y b z)))
structure Good (n : Int) (z : Zs) : Prop where
  n0 : 0 ≤ n ∧ n ≤ 6
  out : ∀ i j, i < 7 → j < 7 → (R n ≤ i ∨ R n ≤ j) → z.2 (i * 7 + j) = 0
  diag : ∀ i, i < R n → z.2 (i * 7 + i) = 0
  tri : ∀ i j k, i < R n → j < R n → k < R n → tri z.2 i j k
  hi0 : ∀ i, i < R n → z.2 (i * 7) ≤ 2147483647
  hi1 : ∀ i, i < R n → z.2 i ≤ 2147483648
  none : z.1 = true → ∀ o, o < 49 → z.2 o = 0
theorem R_le (n : Int) : 1 ≤ R n ∧ R n ≤ 7 ∧ (R n : Int) = rowsP n := by have := rowsP_le n; unfold R; omega
theorem at7 {i j : Nat} {o : Nat} (h : o < 49) (hi : i = o / 7) (hj : j = o % 7) : o = i * 7 + j ∧ i < 7 ∧ j < 7 := by omega
theorem Good.low {n : Int} {z : Zs} (h : Good n z) {i j : Nat} (hi : i < R n) (hj : j < R n) : -4294967295 ≤ z.2 (i * 7 + j) ∧ z.2 (i * 7 + j) ≤ 4294967295 := by
  have hR := R_le n
  have t1 := h.tri i j 0 hi hj (by omega)
  have t2 := h.tri j i 0 hj hi (by omega)
  have t3 := h.tri i i j hi hi hj
  have d := h.diag i hi
  have a1 := h.hi0 i hi
  have a2 := h.hi0 j hj
  have a3 := h.hi1 i hi
  have a4 := h.hi1 j hj
  unfold Z.tri at t1 t2 t3
  rw [show 0 * 7 + j = j by omega] at t1
  rw [show 0 * 7 + i = i by omega] at t2
  rw [Nat.add_zero] at t1 t2
  omega
theorem Good.sm {n : Int} {z : Zs} (h : Good n z) : Sm z.2 := fun o ho => by
  obtain ⟨e, hi, hj⟩ := at7 ho rfl rfl
  rw [e]
  by_cases hr : o / 7 < R n ∧ o % 7 < R n
  · have := h.low hr.1 hr.2; omega
  · rw [h.out _ _ hi hj (by omega)]; omega
theorem near_at {f : Nat → Int} {a b : Nat} {by' : Int} {i j : Nat} (hj : j < 7) : near f a b by' (i * 7 + j) = min (f (i * 7 + j)) (f (i * 7 + a) + by' + f (b * 7 + j)) := by
  unfold near
  rw [(dm7 (k := i) (m := j) hj).1, (dm7 (k := i) (m := j) hj).2]
theorem isEnd_R {n x : Int} (h : isEndP n x = true) : (x + 1).toNat < R n ∧ ((x + 1).toNat : Int) = x + 1 := by
  have := isEndP_lt h
  have := R_le n
  omega
/-- Bound: the same, nothing, or nearer. -/
theorem bnd_cases (n x y b : Int) (z : Zs) : (bndZ n x y b z = z ∧ (isEndP n x = true → isEndP n y = true → z.1 = false → z.2 ((x + 1).toNat * 7 + (y + 1).toNat) ≤ b)) ∨
    (z.1 = false ∧ isEndP n x = true ∧ isEndP n y = true ∧ b < z.2 ((x + 1).toNat * 7 + (y + 1).toNat) ∧
      ((b < 0 - z.2 ((y + 1).toNat * 7 + (x + 1).toNat) ∧ bndZ n x y b z = (true, fun _ => 0)) ∨
      (0 - z.2 ((y + 1).toNat * 7 + (x + 1).toNat) ≤ b ∧ bndZ n x y b z = (false, fun o => if o / 7 < R n ∧ o % 7 < R n then near z.2 (x + 1).toNat (y + 1).toNat b o else z.2 o)))) := by
  obtain ⟨c, f⟩ := z
  unfold bndZ bndC bndF
  by_cases h : (c || !isEndP n x || !isEndP n y) = true
  · left
    simp only [h, if_true]
    refine ⟨trivial, fun h1 h2 h3 => ?_⟩
    rw [h1, h2, h3] at h; cases h
  · have hc : c = false ∧ isEndP n x = true ∧ isEndP n y = true := by
      revert h; cases c <;> cases isEndP n x <;> cases isEndP n y <;> simp
    simp only [if_neg h]
    unfold bdC bdF
    by_cases h1 : b ≥ f ((x + 1).toNat * 7 + (y + 1).toNat)
    · left
      simp only [if_pos h1]
      exact ⟨trivial, fun _ _ _ => h1⟩
    · right
      refine ⟨hc.1, hc.2.1, hc.2.2, by omega, ?_⟩
      simp only [if_neg h1]
      by_cases h2 : b < 0 - f ((y + 1).toNat * 7 + (x + 1).toNat)
      · left; simp only [if_pos h2]; exact ⟨h2, trivial⟩
      · right; simp only [if_neg h2, hc.1]; exact ⟨by omega, rfl⟩
theorem good_none {n : Int} (h : 0 ≤ n ∧ n ≤ 6) (c : Bool) : Good n (c, fun _ => 0) := ⟨h, fun _ _ _ _ _ => rfl, fun _ _ => rfl, fun _ _ _ _ _ _ => by show (0 : Int) ≤ 0 + 0; omega, fun _ _ => by show (0 : Int) ≤ _; omega, fun _ _ => by show (0 : Int) ≤ _; omega, fun _ _ _ => rfl⟩
theorem near_val {n : Int} {f : Nat → Int} {a b : Nat} {q : Int} {i j : Nat} (hi : i < R n) (hj : j < R n) : (if (i * 7 + j) / 7 < R n ∧ (i * 7 + j) % 7 < R n then near f a b q (i * 7 + j) else f (i * 7 + j)) = min (f (i * 7 + j)) (f (i * 7 + a) + q + f (b * 7 + j)) := by
  have hR := R_le n
  have h7 := dm7 (k := i) (m := j) (by omega)
  rw [if_pos (by omega), near_at (by omega)]
theorem good_bnd {n : Int} {z : Zs} (h : Good n z) (x y b : Int) : Good n (bndZ n x y b z) := by
  have hR := R_le n
  rcases bnd_cases n x y b z with ⟨e, _⟩ | ⟨hc, hx, hy, hlt, ⟨_, e⟩ | ⟨hge, e⟩⟩
  · rw [e]; exact h
  · rw [e]; exact good_none h.n0 true
  · rw [e]
    obtain ⟨ha, _⟩ := isEnd_R hx
    obtain ⟨hb, _⟩ := isEnd_R hy
    generalize (x + 1).toNat = a at *
    generalize (y + 1).toNat = d at *
    obtain ⟨c, f⟩ := z
    dsimp only at hlt hge hc ⊢
    refine ⟨h.n0, fun i j hi hj ho => ?_, fun i hi => ?_, fun i j k hi hj hk => ?_, fun i hi => ?_, fun i hi => ?_, fun h => by cases h⟩
    · dsimp only
      have h7 := dm7 (k := i) (m := j) hj
      rw [if_neg (by omega)]
      exact h.out i j hi hj ho
    · dsimp only
      rw [near_val hi hi]
      have t := h.tri d a i hb ha hi
      have dg := h.diag i hi
      unfold Z.tri at t
      dsimp only at t dg
      omega
    · unfold Z.tri
      dsimp only
      rw [near_val hi hj, near_val hi hk, near_val hk hj]
      have t1 := h.tri i j k hi hj hk
      have t2 := h.tri i a k hi ha hk
      have t3 := h.tri d j k hb hj hk
      have t4 := h.tri d a k hb ha hk
      unfold Z.tri at t1 t2 t3 t4
      dsimp only at t1 t2 t3 t4
      omega
    · dsimp only
      have := near_val (n := n) (f := f) (a := a) (b := d) (q := b) hi (show 0 < R n by omega)
      rw [Nat.add_zero] at this
      rw [this]
      have := h.hi0 i hi
      dsimp only at this
      omega
    · dsimp only
      have := near_val (n := n) (f := f) (a := a) (b := d) (q := b) (show 0 < R n by omega) hi
      rw [show 0 * 7 + i = i by omega] at this
      rw [this]
      have := h.hi1 i hi
      dsimp only at this
      omega
/-- The numbers of a zone. -/
def Pt (n : Int) (z : Zs) (v : Nat → Int) : Prop := z.1 = false ∧ v 0 = 0 ∧ ∀ i j, i < R n → j < R n → v i - v j ≤ z.2 (i * 7 + j)
theorem bnd_pt {n : Int} {z : Zs} (h : Good n z) {x y b : Int} (hx : isEndP n x = true) (hy : isEndP n y = true) (v : Nat → Int) : Pt n (bndZ n x y b z) v ↔ Pt n z v ∧ v (x + 1).toNat - v (y + 1).toNat ≤ b := by
  obtain ⟨ha, _⟩ := isEnd_R hx
  obtain ⟨hb, _⟩ := isEnd_R hy
  rcases bnd_cases n x y b z with ⟨e, h1⟩ | ⟨hc, _, _, hlt, ⟨h2, e⟩ | ⟨hge, e⟩⟩
  · rw [e]
    refine ⟨fun hp => ⟨hp, ?_⟩, fun hp => hp.1⟩
    have := h1 hx hy hp.1
    have := hp.2.2 _ _ ha hb
    omega
  · rw [e]
    refine ⟨fun hp => (by cases hp.1), fun hp => ?_⟩
    have := hp.1.2.2 _ _ hb ha
    omega
  · rw [e]
    generalize (x + 1).toNat = a at *
    generalize (y + 1).toNat = d at *
    constructor
    · rintro ⟨_, h0, hp⟩
      refine ⟨⟨hc, h0, fun i j hi hj => ?_⟩, ?_⟩
      · have := hp i j hi hj
        dsimp only at this
        rw [near_val hi hj] at this
        omega
      · have := hp a d ha hb
        dsimp only at this
        rw [near_val ha hb] at this
        have d1 := h.diag a ha
        have d2 := h.diag d hb
        omega
    · rintro ⟨⟨_, h0, hp⟩, hq⟩
      refine ⟨rfl, h0, fun i j hi hj => ?_⟩
      dsimp only
      rw [near_val hi hj]
      have p1 := hp i j hi hj
      have p2 := hp i a hi ha
      have p3 := hp d j hb hj
      omega
/-- A bound is reached. -/
theorem pt_at {n : Int} {z : Zs} (h : Good n z) (hc : z.1 = false) {j : Nat} (hj : j < R n) : Pt n z (fun k => z.2 (k * 7 + j) - z.2 (0 * 7 + j)) := by
  have hR := R_le n
  refine ⟨hc, by dsimp only; omega, fun i l hi hl => ?_⟩
  have t := h.tri i j l hi hj hl
  unfold Z.tri at t
  dsimp only
  omega
theorem good_le {n : Int} {z w : Zs} (h : Good n z) (hp : ∀ v, Pt n z v → Pt n w v) (hc : z.1 = false) : w.1 = false ∧ ∀ i j, i < R n → j < R n → z.2 (i * 7 + j) ≤ w.2 (i * 7 + j) := by
  have hR := R_le n
  refine ⟨(hp _ (pt_at h hc (show 0 < R n by omega))).1, fun i j hi hj => ?_⟩
  have := (hp _ (pt_at h hc hj)).2.2 i j hi hj
  have d := h.diag j hj
  dsimp only at this
  omega
theorem fg_at {f : Nat → Int} {a r i j : Nat} (hi : i < r) (hj : j < r) (hr : r ≤ 7) : fgTo f a r (i * 7 + j) = if i = a ∧ j ≠ a then 2147483647 + f j else if j = a ∧ i ≠ a then f (i * 7) + 2147483648 else f (i * 7 + j) := by
  have h7 := dm7 (k := i) (m := j) (by omega)
  unfold fgTo
  rw [h7.1, h7.2]
  exact icg (by omega) rfl (icg (by omega) rfl rfl)
theorem good_fg {n : Int} {z : Zs} (h : Good n z) (x : Int) : Good n (fgZ n x z) := by
  have hR := R_le n
  obtain ⟨c, f⟩ := z
  unfold fgZ forgetF
  by_cases hb : (c || !isVarP n x) = true
  · simp only [if_pos hb]; exact h
  · have hv := isVarP_lt (show isVarP n x = true by revert hb; cases c <;> cases isVarP n x <;> simp)
    have hc : c = false := by revert hb; cases c <;> simp
    simp only [if_neg hb]
    show Good n (c, fun o => fgTo f (x + 1).toNat (R n) o)
    have ha : (x + 1).toNat < R n ∧ 1 ≤ (x + 1).toNat := by omega
    generalize (x + 1).toNat = a at *
    refine ⟨h.n0, fun i j hi hj ho => ?_, fun i hi => ?_, fun i j k hi hj hk => ?_, fun i hi => ?_, fun i hi => ?_, fun h => by rw [hc] at h; cases h⟩
    · have h7 := dm7 (k := i) (m := j) hj
      show fgTo f a (R n) (i * 7 + j) = 0
      unfold fgTo
      rw [if_neg (by omega), if_neg (by omega)]
      exact h.out i j hi hj ho
    · show fgTo f a (R n) (i * 7 + i) = 0
      rw [fg_at hi hi hR.2.1, if_neg (by omega), if_neg (by omega)]
      exact h.diag i hi
    · show fgTo f a (R n) (i * 7 + j) ≤ fgTo f a (R n) (i * 7 + k) + fgTo f a (R n) (k * 7 + j)
      rw [fg_at hi hj hR.2.1, fg_at hi hk hR.2.1, fg_at hk hj hR.2.1]
      have t0 := h.tri i j k hi hj hk
      have t1 := h.tri 0 j k (by omega) hj hk
      have t2 := h.tri i 0 k hi (by omega) hk
      have t3 := h.tri i j 0 hi hj (by omega)
      have t4 := h.tri 0 0 k (by omega) (by omega) hk
      have dg := h.diag 0 (by omega)
      unfold Z.tri at t0 t1 t2 t3 t4
      simp only [Nat.zero_mul, Nat.zero_add, Nat.add_zero] at t0 t1 t2 t3 t4 dg
      have di := h.diag i hi
      have dj := h.diag j hj
      dsimp only at di dj
      by_cases e1 : i = a
      · by_cases e2 : j = a
        · by_cases e3 : k = a
          · rw [if_neg (by omega), if_neg (by omega), if_neg (by omega), if_neg (by omega), if_neg (by omega), if_neg (by omega)]; subst e1 e2 e3; omega
          · rw [if_neg (by omega), if_neg (by omega), if_pos (by omega), if_neg (by omega), if_pos (by omega)]; subst e1 e2; omega
        · by_cases e3 : k = a
          · rw [if_pos (by omega), if_neg (by omega), if_neg (by omega), if_pos (by omega)]; subst e1 e3; omega
          · rw [if_pos (by omega), if_pos (by omega), if_neg (by omega), if_neg (by omega)]; omega
      · by_cases e2 : j = a
        · by_cases e3 : k = a
          · rw [if_neg (by omega), if_pos (by omega), if_neg (by omega), if_pos (by omega), if_neg (by omega), if_neg (by omega)]; subst e2 e3; omega
          · rw [if_neg (by omega), if_pos (by omega), if_neg (by omega), if_neg (by omega), if_neg (by omega), if_pos (by omega)]; omega
        · by_cases e3 : k = a
          · rw [if_neg (by omega), if_neg (by omega), if_neg (by omega), if_pos (by omega), if_pos (by omega)]; omega
          · rw [if_neg (by omega), if_neg (by omega), if_neg (by omega), if_neg (by omega), if_neg (by omega), if_neg (by omega)]; omega
    · have e := fg_at (f := f) (a := a) hi (show 0 < R n by omega) hR.2.1
      rw [Nat.add_zero] at e
      show fgTo f a (R n) (i * 7) ≤ _
      rw [e]
      have := h.hi0 i hi
      have dg := h.diag 0 (by omega)
      dsimp only at this dg
      simp only [Nat.zero_mul, Nat.zero_add] at dg
      (repeat' split) <;> omega
    · have e := fg_at (f := f) (a := a) (show 0 < R n by omega) hi hR.2.1
      rw [Nat.zero_mul, Nat.zero_add] at e
      show fgTo f a (R n) i ≤ _
      rw [e]
      have := h.hi1 i hi
      have dg := h.diag 0 (by omega)
      dsimp only at this dg
      simp only [Nat.zero_mul, Nat.zero_add] at dg
      (repeat' split) <;> omega
end Go.Proofs.Ytbcbcambkjhhhaa.Sx.Z
namespace Go.Proofs.Ytbcbcambkjhhhaa.Sx.Z
open Go.RowKit
theorem sh_at {f : Nat → Int} {a r i j : Nat} {b : Int} (hi : i < r) (hj : j < r) (hr : r ≤ 7) : shTo f a b r (i * 7 + j) = if i = a ∧ j ≠ a then f (i * 7 + j) + b else if j = a ∧ i ≠ a then f (i * 7 + j) - b else f (i * 7 + j) := by
  have h7 := dm7 (k := i) (m := j) (by omega)
  unfold shTo
  rw [h7.1, h7.2]
  exact icg (by omega) rfl (icg (by omega) rfl rfl)
theorem good_sh {n : Int} {z : Zs} (h : Good n z) {a : Nat} (ha : a < R n) (ha1 : 1 ≤ a) {b : Int} (hb : z.1 = false → z.2 (a * 7) + b ≤ 2147483647 ∧ z.2 a - b ≤ 2147483648) : Good n (shZ n a b z) := by
  have hR := R_le n
  obtain ⟨c, f⟩ := z
  unfold shZ shiftF
  by_cases hc : c = true
  · simp only [if_pos hc]; exact h
  · have hc : c = false := by revert hc; cases c <;> simp
    subst hc
    obtain ⟨b1, b2⟩ := hb rfl
    simp only [Bool.false_eq_true, if_false]
    show Good n (false, fun o => shTo f a b (R n) o)
    dsimp only at b1 b2
    refine ⟨h.n0, fun i j hi hj ho => ?_, fun i hi => ?_, fun i j k hi hj hk => ?_, fun i hi => ?_, fun i hi => ?_, fun h => by cases h⟩
    · have h7 := dm7 (k := i) (m := j) hj
      show shTo f a b (R n) (i * 7 + j) = 0
      unfold shTo
      rw [if_neg (by omega), if_neg (by omega)]
      exact h.out i j hi hj ho
    · show shTo f a b (R n) (i * 7 + i) = 0
      rw [sh_at hi hi hR.2.1, if_neg (by omega), if_neg (by omega)]
      exact h.diag i hi
    · show shTo f a b (R n) (i * 7 + j) ≤ shTo f a b (R n) (i * 7 + k) + shTo f a b (R n) (k * 7 + j)
      rw [sh_at hi hj hR.2.1, sh_at hi hk hR.2.1, sh_at hk hj hR.2.1]
      have t0 := h.tri i j k hi hj hk
      unfold Z.tri at t0
      dsimp only at t0
      (repeat' split) <;> omega
    · have e := sh_at (f := f) (a := a) (b := b) hi (show 0 < R n by omega) hR.2.1
      rw [Nat.add_zero] at e
      show shTo f a b (R n) (i * 7) ≤ _
      rw [e]
      have := h.hi0 i hi
      dsimp only at this
      split
      · rename_i h1; rw [h1.1]; omega
      · rw [if_neg (by omega)]; exact this
    · have e := sh_at (f := f) (a := a) (b := b) (show 0 < R n by omega) hi hR.2.1
      rw [Nat.zero_mul, Nat.zero_add] at e
      show shTo f a b (R n) i ≤ _
      rw [e]
      have := h.hi1 i hi
      dsimp only at this
      rw [if_neg (by omega)]
      split
      · rename_i h1; rw [h1.1]; omega
      · exact this
theorem bnd_le {n : Int} {z : Zs} (h : Good n z) {x y b : Int} (hx : isEndP n x = true) (hy : isEndP n y = true) (hc : (bndZ n x y b z).1 = false) : (bndZ n x y b z).2 ((x + 1).toNat * 7 + (y + 1).toNat) ≤ b := by
  have g := good_bnd h x y b
  obtain ⟨hb, _⟩ := isEnd_R hy
  have := ((bnd_pt h hx hy _).1 (pt_at g hc hb)).2
  have d := g.diag _ hb
  omega
theorem bnd_mono {n : Int} {z : Zs} (h : Good n z) {x y b : Int} (hx : isEndP n x = true) (hy : isEndP n y = true) (hc : (bndZ n x y b z).1 = false) {i j : Nat} (hi : i < R n) (hj : j < R n) : (bndZ n x y b z).2 (i * 7 + j) ≤ z.2 (i * 7 + j) :=
  (good_le (good_bnd h x y b) (fun v hv => ((bnd_pt h hx hy v).1 hv).1) hc).2 i j hi hj
theorem bnd_some {n : Int} {z : Zs} {x y b : Int} (hc : (bndZ n x y b z).1 = false) : z.1 = false := by
  rcases bnd_cases n x y b z with ⟨e, _⟩ | ⟨h, _⟩
  · rw [e] at hc; exact hc
  · exact h
theorem isEnd_nought (n : Int) : isEndP n (-1) = true := rfl
theorem isVar_end {n x : Int} (h : isVarP n x = true) : isEndP n x = true := by unfold isEndP; rw [h, Bool.or_true]
theorem cp2_good {n : Int} {z : Zs} (h : Good n z) (y b : Int) : Good n (cp2 n y b z) := good_bnd (good_bnd h _ _ _) _ _ _
theorem cp2_le {n : Int} {z : Zs} (h : Good n z) {y b : Int} (hy : isEndP n y = true) (hc : (cp2 n y b z).1 = false) : (cp2 n y b z).2 ((y + 1).toNat * 7) + b ≤ 2147483647 ∧ (cp2 n y b z).2 (y + 1).toNat - b ≤ 2147483648 := by
  unfold cp2 at hc ⊢
  have g1 := good_bnd h y (-1) (2147483647 - b)
  have c1 := bnd_some hc
  have l1 := bnd_le h hy (isEnd_nought n) c1
  have l2 := bnd_le g1 (isEnd_nought n) hy hc
  obtain ⟨ha, _⟩ := isEnd_R hy
  have m := bnd_mono g1 (isEnd_nought n) hy hc ha (show 0 < R n by have := R_le n; omega)
  rw [show ((-1 : Int) + 1).toNat = 0 from rfl] at l1 l2
  rw [Nat.add_zero] at l1 m
  rw [Nat.zero_mul, Nat.zero_add] at l2
  omega
theorem good_copy {n : Int} {z : Zs} (h : Good n z) (x y b : Int) : Good n (copyZ n x y b z) := by
  unfold copyZ
  by_cases h1 : (z.1 || !isVarP n x || !isEndP n y) = true
  · rw [if_pos h1]; exact h
  · rw [if_neg h1]
    have hx : isVarP n x = true := by revert h1; cases z.1 <;> cases isVarP n x <;> simp
    by_cases h2 : (decide (b > 1099511627776) || decide (b < -1099511627776)) = true
    · rw [if_pos h2]; exact good_none h.n0 true
    · rw [if_neg h2]
      have g := cp2_good h y b
      by_cases h3 : (x == y) = true
      · rw [if_pos h3]
        obtain rfl : x = y := by simpa using h3
        have hv := isVarP_lt hx
        have hR := R_le n
        exact good_sh g (by omega) (by omega) (cp2_le h (isVar_end hx))
      · rw [if_neg h3]
        exact good_bnd (good_bnd (good_fg g x) _ _ _) _ _ _
theorem rows_n {n : Int} (h : 0 ≤ n ∧ n ≤ 6) : rowsP n = n + 1 := by unfold rowsP; omega
theorem topN_le (n : Int) : 0 ≤ topN n ∧ topN n ≤ 6 := by unfold topN; omega
theorem good_right {n : Int} {z : Zs} (h : Good n z) : rightP n z.1 z.2 = true := by
  have hR := R_le n
  have h0 := h.n0
  obtain ⟨c, f⟩ := z
  unfold rightP
  rw [if_neg (by simp only [Bool.or_eq_true, decide_eq_true_eq]; omega)]
  by_cases hc : c = true
  · rw [if_pos hc]
    exact decide_eq_true (h.none hc)
  · rw [if_neg hc, Bool.and_eq_true]
    refine ⟨allB_iff.2 fun o ho _ => ?_, closedB_iff.2 h.tri⟩
    obtain ⟨e, hi, hj⟩ := at7 ho rfl rfl
    unfold bQ bRight
    have hr := hR.2.2
    by_cases h1 : o / 7 = o % 7 ∨ R n ≤ o / 7 ∨ R n ≤ o % 7
    · rw [if_pos (by simp only [Bool.or_eq_true, decide_eq_true_eq, beq_iff_eq]; omega)]
      have : f o = 0 := by
        rw [e]
        by_cases h2 : R n ≤ o / 7 ∨ R n ≤ o % 7
        · exact h.out _ _ hi hj h2
        · have h3 : o / 7 = o % 7 := by omega
          rw [h3]
          exact h.diag _ (by omega)
      exact beq_iff_eq.2 this
    · rw [if_neg (by simp only [Bool.or_eq_true, decide_eq_true_eq, beq_iff_eq]; omega)]
      have hl := h.low (i := o / 7) (j := o % 7) (by omega) (by omega)
      rw [← e] at hl
      dsimp only at hl
      have g0 := h.hi0 (o / 7) (by omega)
      have g1 := h.hi1 (o % 7) (by omega)
      dsimp only at g0 g1
      rw [if_neg]
      · simp only [Bool.and_eq_true, decide_eq_true_eq]; omega
      · simp only [Bool.or_eq_true, Bool.and_eq_true, decide_eq_true_eq, beq_iff_eq]
        rintro (⟨h2, h3⟩ | ⟨h2, h3⟩)
        · rw [show o / 7 * 7 = o by omega] at g0; omega
        · rw [show o % 7 = o by omega] at g1; omega
def copyS : FSpec := fun ds _ => match ds with
  | [.i n, .b c, .f f, .i x, .i y, .i b] => some { val := .one (.agg [.c (.int .i64 (.sym (n))), .c (.bool (.sym ((copyZ n x y b (c, f)).1))), .ints .i64 (.lit 49) ((copyZ n x y b (c, f)).2)]), vc := [Good n (c, f)] }
  | _ => none
def copyC : Con := con [zA, iA, iA, iA] copyS
theorem copy_ok : ConOK Try.prog 113 copyC := by
  refine fn_ob tt_ok mixed Try.func113 rfl (fun _ _ => by kernel_rfl) (A := fun ds => ⟨fun _ => Cons.of [(118, isVarC), (126, isEndC), (97, boundC), (100, forgetC), (143, shiftedC)], fun _ => none, fun _ => none⟩) (fun _ _ => (cons_cons isVar_ok (cons_cons isEnd_ok (cons_cons bound_ok (cons_cons forget_ok (cons_cons shifted_ok cons_nil)))))) (by kernel_rfl) ?_
  intro ds fr
  unfold copyS
  split
  · rename_i n c f x y b
    refine kmp (q := Good n (c, f) →
 ((c || !isVarP n x || !isEndP n y) = true → n = n ∧ c = (copyZ n x y b (c, f)).fst ∧ ∀ (o : Nat), o < (49 : Nat) → f o = (copyZ n x y b (c, f)).snd o) ∧
 ((c || !isVarP n x || !isEndP n y) = false →
 ((decide (b > (1099511627776 : Int)) || decide (b < (-1099511627776 : Int))) = true →
 n = n ∧ true = (copyZ n x y b (c, f)).fst ∧ ∀ (o : Nat), o < (49 : Nat) → (0 : Int) = (copyZ n x y b (c, f)).snd o) ∧
 ((decide (b > (1099511627776 : Int)) || decide (b < (-1099511627776 : Int))) = false →
 Sm f ∧
 Sm (bndF n c f y (-1 : Int) (IntKind.i64.wrap ((2147483647 : Int) - b))) ∧
 ((x == y) = true →
 Sm
 (bndF n (bndC n c f y (-1 : Int) (IntKind.i64.wrap ((2147483647 : Int) - b)))
 (bndF n c f y (-1 : Int) (IntKind.i64.wrap ((2147483647 : Int) - b))) (-1 : Int) y (IntKind.i64.wrap (b - (-2147483648 : Int)))) ∧
 ((0 : Int) ≤ IntKind.i64.wrap (x + (1 : Int)) ∧ IntKind.i64.wrap (x + (1 : Int)) < (7 : Int)) ∧
 ((-2199023255552 : Int) ≤ b ∧ b ≤ (2199023255552 : Int)) ∧
 n = n ∧
 bndC n (bndC n c f y (-1 : Int) (IntKind.i64.wrap ((2147483647 : Int) - b)))
 (bndF n c f y (-1 : Int) (IntKind.i64.wrap ((2147483647 : Int) - b))) (-1 : Int) y
 (IntKind.i64.wrap (b - (-2147483648 : Int))) =
 (copyZ n x y b (c, f)).fst ∧
 ∀ (o : Nat),
 o < (49 : Nat) →
 shiftF n
 (bndC n (bndC n c f y (-1 : Int) (IntKind.i64.wrap ((2147483647 : Int) - b)))
 (bndF n c f y (-1 : Int) (IntKind.i64.wrap ((2147483647 : Int) - b))) (-1 : Int) y
 (IntKind.i64.wrap (b - (-2147483648 : Int))))
 (bndF n (bndC n c f y (-1 : Int) (IntKind.i64.wrap ((2147483647 : Int) - b)))
 (bndF n c f y (-1 : Int) (IntKind.i64.wrap ((2147483647 : Int) - b))) (-1 : Int) y
 (IntKind.i64.wrap (b - (-2147483648 : Int))))
 (IntKind.i64.wrap (x + (1 : Int))).toNat b o =
 (copyZ n x y b (c, f)).snd o) ∧
 ((x == y) = false →
 Sm
 (bndF n (bndC n c f y (-1 : Int) (IntKind.i64.wrap ((2147483647 : Int) - b)))
 (bndF n c f y (-1 : Int) (IntKind.i64.wrap ((2147483647 : Int) - b))) (-1 : Int) y (IntKind.i64.wrap (b - (-2147483648 : Int)))) ∧
 Sm
 (forgetF n
 (bndC n (bndC n c f y (-1 : Int) (IntKind.i64.wrap ((2147483647 : Int) - b)))
 (bndF n c f y (-1 : Int) (IntKind.i64.wrap ((2147483647 : Int) - b))) (-1 : Int) y (IntKind.i64.wrap (b - (-2147483648 : Int))))
 (bndF n (bndC n c f y (-1 : Int) (IntKind.i64.wrap ((2147483647 : Int) - b)))
 (bndF n c f y (-1 : Int) (IntKind.i64.wrap ((2147483647 : Int) - b))) (-1 : Int) y (IntKind.i64.wrap (b - (-2147483648 : Int))))
 x) ∧
 Sm
 (bndF n
 (bndC n (bndC n c f y (-1 : Int) (IntKind.i64.wrap ((2147483647 : Int) - b)))
 (bndF n c f y (-1 : Int) (IntKind.i64.wrap ((2147483647 : Int) - b))) (-1 : Int) y (IntKind.i64.wrap (b - (-2147483648 : Int))))
 (forgetF n
 (bndC n (bndC n c f y (-1 : Int) (IntKind.i64.wrap ((2147483647 : Int) - b)))
 (bndF n c f y (-1 : Int) (IntKind.i64.wrap ((2147483647 : Int) - b))) (-1 : Int) y (IntKind.i64.wrap (b - (-2147483648 : Int))))
 (bndF n (bndC n c f y (-1 : Int) (IntKind.i64.wrap ((2147483647 : Int) - b)))
 (bndF n c f y (-1 : Int) (IntKind.i64.wrap ((2147483647 : Int) - b))) (-1 : Int) y (IntKind.i64.wrap (b - (-2147483648 : Int))))
 x)
 x y b) ∧
 n = n ∧
 bndC n
 (bndC n
 (bndC n (bndC n c f y (-1 : Int) (IntKind.i64.wrap ((2147483647 : Int) - b)))
 (bndF n c f y (-1 : Int) (IntKind.i64.wrap ((2147483647 : Int) - b))) (-1 : Int) y
 (IntKind.i64.wrap (b - (-2147483648 : Int))))
 (forgetF n
 (bndC n (bndC n c f y (-1 : Int) (IntKind.i64.wrap ((2147483647 : Int) - b)))
 (bndF n c f y (-1 : Int) (IntKind.i64.wrap ((2147483647 : Int) - b))) (-1 : Int) y
 (IntKind.i64.wrap (b - (-2147483648 : Int))))
 (bndF n (bndC n c f y (-1 : Int) (IntKind.i64.wrap ((2147483647 : Int) - b)))
 (bndF n c f y (-1 : Int) (IntKind.i64.wrap ((2147483647 : Int) - b))) (-1 : Int) y
 (IntKind.i64.wrap (b - (-2147483648 : Int))))
 x)
 x y b)
 (bndF n
 (bndC n (bndC n c f y (-1 : Int) (IntKind.i64.wrap ((2147483647 : Int) - b)))
 (bndF n c f y (-1 : Int) (IntKind.i64.wrap ((2147483647 : Int) - b))) (-1 : Int) y
 (IntKind.i64.wrap (b - (-2147483648 : Int))))
 (forgetF n
 (bndC n (bndC n c f y (-1 : Int) (IntKind.i64.wrap ((2147483647 : Int) - b)))
 (bndF n c f y (-1 : Int) (IntKind.i64.wrap ((2147483647 : Int) - b))) (-1 : Int) y
 (IntKind.i64.wrap (b - (-2147483648 : Int))))
 (bndF n (bndC n c f y (-1 : Int) (IntKind.i64.wrap ((2147483647 : Int) - b)))
 (bndF n c f y (-1 : Int) (IntKind.i64.wrap ((2147483647 : Int) - b))) (-1 : Int) y
 (IntKind.i64.wrap (b - (-2147483648 : Int))))
 x)
 x y b)
 y x (IntKind.i64.wrap ((0 : Int) - b)) =
 (copyZ n x y b (c, f)).fst ∧
 ∀ (o : Nat),
 o < (49 : Nat) →
 bndF n
 (bndC n
 (bndC n (bndC n c f y (-1 : Int) (IntKind.i64.wrap ((2147483647 : Int) - b)))
 (bndF n c f y (-1 : Int) (IntKind.i64.wrap ((2147483647 : Int) - b))) (-1 : Int) y
 (IntKind.i64.wrap (b - (-2147483648 : Int))))
 (forgetF n
 (bndC n (bndC n c f y (-1 : Int) (IntKind.i64.wrap ((2147483647 : Int) - b)))
 (bndF n c f y (-1 : Int) (IntKind.i64.wrap ((2147483647 : Int) - b))) (-1 : Int) y
 (IntKind.i64.wrap (b - (-2147483648 : Int))))
 (bndF n (bndC n c f y (-1 : Int) (IntKind.i64.wrap ((2147483647 : Int) - b)))
 (bndF n c f y (-1 : Int) (IntKind.i64.wrap ((2147483647 : Int) - b))) (-1 : Int) y
 (IntKind.i64.wrap (b - (-2147483648 : Int))))
 x)
 x y b)
 (bndF n
 (bndC n (bndC n c f y (-1 : Int) (IntKind.i64.wrap ((2147483647 : Int) - b)))
 (bndF n c f y (-1 : Int) (IntKind.i64.wrap ((2147483647 : Int) - b))) (-1 : Int) y
 (IntKind.i64.wrap (b - (-2147483648 : Int))))
 (forgetF n
 (bndC n (bndC n c f y (-1 : Int) (IntKind.i64.wrap ((2147483647 : Int) - b)))
 (bndF n c f y (-1 : Int) (IntKind.i64.wrap ((2147483647 : Int) - b))) (-1 : Int) y
 (IntKind.i64.wrap (b - (-2147483648 : Int))))
 (bndF n (bndC n c f y (-1 : Int) (IntKind.i64.wrap ((2147483647 : Int) - b)))
 (bndF n c f y (-1 : Int) (IntKind.i64.wrap ((2147483647 : Int) - b))) (-1 : Int) y
 (IntKind.i64.wrap (b - (-2147483648 : Int))))
 x)
 x y b)
 y x (IntKind.i64.wrap ((0 : Int) - b)) o =
 (copyZ n x y b (c, f)).snd o)))) (by kernel_rfl) ?_
    intro h
    refine ⟨fun h1 => ?_, fun h1 => ⟨fun h2 => ?_, fun h2 => ?_⟩⟩
    · have e : copyZ n x y b (c, f) = (c, f) := if_pos h1
      rw [e]; exact ⟨rfl, rfl, fun _ _ => rfl⟩
    · have e : copyZ n x y b (c, f) = (true, fun _ => 0) := (if_neg (by rw [h1]; simp)).trans (if_pos h2)
      rw [e]; exact ⟨rfl, rfl, fun _ _ => rfl⟩
    · have hb : -1099511627776 ≤ b ∧ b ≤ 1099511627776 := by
        simp only [Bool.or_eq_false_iff, decide_eq_false_iff_not] at h2
        omega
      have hv := isVarP_lt (show isVarP n x = true by revert h1; cases c <;> cases isVarP n x <;> simp)
      rw [wr (2147483647 - b) (by omega), wr (b - -2147483648) (by omega), show b - -2147483648 = b + 2147483648 by omega, wr (x + 1) (by omega), wr (0 - b) (by omega)]
      have g1 := good_bnd h y (-1) (2147483647 - b)
      have g2 := cp2_good h y b
      have g3 := good_fg g2 x
      have g4 := good_bnd g3 x y b
      refine ⟨h.sm, g1.sm, fun h3 => ?_, fun h3 => ?_⟩
      · have e : copyZ n x y b (c, f) = shZ n (x + 1).toNat b (cp2 n y b (c, f)) := (if_neg (by rw [h1]; simp)).trans ((if_neg (by rw [h2]; simp)).trans (if_pos h3))
        rw [e]
        exact ⟨g2.sm, by omega, by omega, rfl, rfl, fun _ _ => rfl⟩
      · have e : copyZ n x y b (c, f) = bndZ n y x (0 - b) (bndZ n x y b (fgZ n x (cp2 n y b (c, f)))) := (if_neg (by rw [h1]; simp)).trans ((if_neg (by rw [h2]; simp)).trans (if_neg (by rw [h3]; simp)))
        rw [e]
        exact ⟨g2.sm, g3.sm, g4.sm, rfl, rfl, fun _ _ => rfl⟩
  · trivial
end Go.Proofs.Ytbcbcambkjhhhaa.Sx.Z
namespace Go.Proofs.Ytbcbcambkjhhhaa.Sx.Z
open Go.RowKit
theorem pt_range {n : Int} {z : Zs} (h : Good n z) {v : Nat → Int} (p : Pt n z v) {i : Nat} (hi : i < R n) : -2147483648 ≤ v i ∧ v i ≤ 2147483647 := by
  obtain ⟨_, h0, hp⟩ := p
  have hR := R_le n
  have h1 := hp i 0 hi (by omega)
  have h2 := hp 0 i (by omega) hi
  have h3 := h.hi0 i hi
  have h4 := h.hi1 i hi
  simp only [Nat.add_zero, Nat.zero_mul, Nat.zero_add] at h1 h2
  omega
def upd (v : Nat → Int) (a : Nat) (b : Int) : Nat → Int := fun q => if q = a then b else v q
theorem upd_at (v : Nat → Int) (a : Nat) (b : Int) : upd v a b a = b := by simp [upd]
theorem upd_ne {v : Nat → Int} {a q : Nat} {b : Int} (h : q ≠ a) : upd v a b q = v q := by simp [upd, h]
theorem isVar_R {n x : Int} (h : isVarP n x = true) : (x + 1).toNat < R n ∧ ((x + 1).toNat : Int) = x + 1 ∧ 1 ≤ (x + 1).toNat := by
  have h1 := isVarP_lt h
  have h2 := isEnd_R (isVar_end h)
  exact ⟨h2.1, h2.2, by omega⟩
theorem pt_fg {n : Int} {z : Zs} (h : Good n z) {x : Int} (hx : isVarP n x = true) {v : Nat → Int} (p : Pt n z v) {b : Int} (hb : -2147483648 ≤ b ∧ b ≤ 2147483647) : Pt n (fgZ n x z) (upd v (x + 1).toNat b) := by
  have hR := R_le n
  obtain ⟨ha, _, ha1⟩ := isVar_R hx
  have hr := fun {i : Nat} (hi : i < R n) => pt_range h p hi
  obtain ⟨hc, h0, hp⟩ := p
  refine ⟨hc, by rw [upd_ne (by omega)]; exact h0, fun i j hi hj => ?_⟩
  have e : (fgZ n x z).2 (i * 7 + j) = fgTo z.2 (x + 1).toNat (R n) (i * 7 + j) := by
    show forgetF n z.1 z.2 x _ = _
    unfold forgetF
    rw [if_neg (by rw [hc, hx]; simp)]; rfl
  rw [e, fg_at hi hj hR.2.1]
  by_cases h1 : i = (x + 1).toNat
  · by_cases h2 : j = (x + 1).toNat
    · rw [if_neg (by omega), if_neg (by omega), h1, h2]
      have := h.diag (x + 1).toNat ha
      omega
    · rw [if_pos ⟨h1, h2⟩, h1, upd_at, upd_ne h2]
      have := hp 0 j (by omega) hj
      simp only [Nat.zero_mul, Nat.zero_add] at this
      omega
  · by_cases h2 : j = (x + 1).toNat
    · rw [if_neg (by omega), if_pos ⟨h2, h1⟩, h2, upd_at, upd_ne h1]
      have := hp i 0 hi (by omega)
      simp only [Nat.add_zero] at this
      omega
    · rw [if_neg (by omega), if_neg (by omega), upd_ne h1, upd_ne h2]
      exact hp i j hi hj
theorem pt_sh {n : Int} {z : Zs} (h : Good n z) {a : Nat} (ha : a < R n) (ha1 : 1 ≤ a) {v : Nat → Int} (p : Pt n z v) (b : Int) : Pt n (shZ n a b z) (upd v a (v a + b)) := by
  have hR := R_le n
  obtain ⟨hc, h0, hp⟩ := p
  refine ⟨hc, by rw [upd_ne (by omega)]; exact h0, fun i j hi hj => ?_⟩
  have e : (shZ n a b z).2 (i * 7 + j) = shTo z.2 a b (R n) (i * 7 + j) := by
    show shiftF n z.1 z.2 a b _ = _
    unfold shiftF
    rw [if_neg (by rw [hc]; simp)]; rfl
  rw [e, sh_at hi hj hR.2.1]
  have hpij := hp i j hi hj
  by_cases h1 : i = a
  · by_cases h2 : j = a
    · rw [if_neg (by omega), if_neg (by omega), h1, h2]
      have := h.diag a ha
      omega
    · rw [if_pos ⟨h1, h2⟩, h1, upd_at, upd_ne h2]
      subst h1; omega
  · by_cases h2 : j = a
    · rw [if_neg (by omega), if_pos ⟨h2, h1⟩, h2, upd_at, upd_ne h1]
      subst h2; omega
    · rw [if_neg (by omega), if_neg (by omega), upd_ne h1, upd_ne h2]
      exact hpij
theorem pt_bnd {n : Int} {z : Zs} (h : Good n z) {x y b : Int} (hx : isEndP n x = true) (hy : isEndP n y = true) {v : Nat → Int} (p : Pt n z v) (hb : v (x + 1).toNat - v (y + 1).toNat ≤ b) : Pt n (bndZ n x y b z) v := (bnd_pt h hx hy v).2 ⟨p, hb⟩
theorem pt_cp2 {n : Int} {z : Zs} (h : Good n z) {y b : Int} (hy : isEndP n y = true) {v : Nat → Int} (p : Pt n z v) (hb : -2147483648 ≤ v (y + 1).toNat + b ∧ v (y + 1).toNat + b ≤ 2147483647) : Pt n (cp2 n y b z) v := by
  have h0 := p.2.1
  have e0 : ((-1 : Int) + 1).toNat = 0 := rfl
  refine pt_bnd (good_bnd h _ _ _) (isEnd_nought n) hy (pt_bnd h hy (isEnd_nought n) p ?_) ?_ <;> rw [e0, h0] <;> omega
theorem pt_copy {n : Int} {z : Zs} (h : Good n z) {x y b : Int} (hx : isVarP n x = true) (hy : isEndP n y = true) (hf : -1099511627776 ≤ b ∧ b ≤ 1099511627776) {v : Nat → Int} (p : Pt n z v) (hb : -2147483648 ≤ v (y + 1).toNat + b ∧ v (y + 1).toNat + b ≤ 2147483647) :
    Pt n (copyZ n x y b z) (upd v (x + 1).toNat (v (y + 1).toNat + b)) := by
  unfold copyZ
  rw [if_neg (by rw [p.1, hx, hy]; simp), if_neg (by
    have h1 : decide (b > 1099511627776) = false := decide_eq_false (by omega)
    have h2 : decide (b < -1099511627776) = false := decide_eq_false (by omega)
    rw [h1, h2]; simp)]
  have p2 := pt_cp2 h hy p hb
  have g2 := cp2_good h y b
  obtain ⟨ha, hac, ha1⟩ := isVar_R hx
  by_cases hxy : x = y
  · subst hxy
    rw [if_pos (by simp)]
    exact pt_sh g2 ha ha1 p2 b
  · rw [if_neg (by simpa using hxy)]
    have hyc := isEnd_R hy
    have hne : (y + 1).toNat ≠ (x + 1).toNat := fun e => hxy (by omega)
    have g3 := good_fg g2 x
    have p3 := pt_fg g2 hx p2 hb
    have p4 := pt_bnd g3 (isVar_end hx) hy p3 (b := b) (by rw [upd_at, upd_ne hne]; omega)
    exact pt_bnd (good_bnd g3 x y b) hy (isVar_end hx) p4 (b := 0 - b) (by rw [upd_at, upd_ne hne]; omega)
/-- Numbers of variables, with nought ahead. -/
def vz (g : Nat → Int) : Nat → Int := fun q => if q = 0 then 0 else g (q - 1)
theorem vz_upd (g : Nat → Int) {a : Nat} (ha : 1 ≤ a) (b : Int) : upd (vz g) a b = vz (upd g (a - 1) b) := by
  funext q
  show (if q = a then b else (if q = 0 then 0 else g (q - 1))) = if q = 0 then 0 else (if q - 1 = a - 1 then b else g (q - 1))
  by_cases h1 : q = a
  · rw [if_pos h1, if_neg (by omega), if_pos (by omega)]
  · rw [if_neg h1]
    by_cases h2 : q = 0
    · rw [if_pos h2, if_pos h2]
    · rw [if_neg h2, if_neg h2, if_neg (by omega)]
theorem has_pt {n : Int} {z : Zs} (h : Good n z) {l : Nat} (hl : (l : Int) = n) {g : Nat → Int} (p : Pt n z (vz g)) : hasP n z.1 z.2 l g = true := by
  have hR := R_le n
  have hrn := rows_n h.n0
  unfold hasP
  rw [if_neg (by
    have h1 : ((l : Int) != n) = false := by simp [hl]
    have h2 : decide (n > 6) = false := decide_eq_false (by have := h.n0; omega)
    rw [p.1, h1, h2]; simp)]
  refine allB_iff.2 fun o ho hr => ?_
  have hR' : (rowsP n).toNat = R n := rfl
  rw [hR'] at hr
  have hv : ∀ q, q < R n → hv l g q = vz g q := fun q hq => by
    unfold hv cpF vz
    have hm : Nat.min l 6 = l := Nat.min_eq_left (by have := h.n0; omega)
    rw [hm]
    by_cases h0 : q = 0
    · rw [if_pos h0, if_neg (by simp only [Bool.and_eq_true, Nat.ble_eq, Nat.blt_eq]; omega)]
    · rw [if_neg h0, if_pos (by simp only [Bool.and_eq_true, Nat.ble_eq, Nat.blt_eq]; omega)]
  unfold hasQ
  rw [hv _ hr.1, hv _ hr.2]
  have r1 := pt_range h p hr.1
  have r2 := pt_range h p hr.2
  have hp := p.2.2 _ _ hr.1 hr.2
  have eo : o / 7 * 7 + o % 7 = o := by omega
  rw [eo] at hp
  rw [wr _ (by omega)]
  simp only [Bool.and_eq_true, decide_eq_true_eq]
  exact ⟨⟨r1.1, r1.2⟩, hp⟩
theorem has_congr {n : Int} {c : Bool} {f g g' : Nat → Int} {l : Nat} (h : ∀ q, q < l → g q = g' q) : hasP n c f l g = hasP n c f l g' := by
  have : hv l g = hv l g' := by
    funext q
    unfold hv cpF
    split
    · rename_i hq
      simp only [Bool.and_eq_true, Nat.ble_eq, Nat.blt_eq] at hq
      have := show Nat.min l 6 ≤ l from Nat.min_le_left l 6
      exact h _ (by omega)
    · rfl
  unfold hasP
  rw [this]
/-! ### Rows of numbers -/
def rowI (n : Nat) (f : Nat → Int) : D := .l ((List.range n).map fun j => [.i (f j)])
theorem rowI_len (n : Nat) (f : Nat → Int) : (rowI n f).len = n := by
  show ((List.range n).map _).length = n
  simp
theorem rowI_el {n i : Nat} (h : i < n) (f : Nat → Int) : ((rowI n f).el i 0).toI = f i := by
  show (((((List.range n).map fun j => [D.i (f j)])).getD i []).getD 0 (.i 0)).toI = f i
  rw [List.getD_eq_getElem?_getD (l := List.map _ _), List.getElem?_map, List.getElem?_range h]
  rfl
theorem ig_rows {d d' : D} (h : d.rows = d'.rows) : ig d = ig d' := by
  funext j
  unfold ig D.el
  rw [h]
theorem len_rows {d d' : D} (h : d.rows = d'.rows) : d.len = d'.len := by unfold D.len; rw [h]
theorem ig_rowI (n : Nat) (f : Nat → Int) {q : Nat} (h : q < n) : ig (rowI n f) q = f q := rowI_el h f
end Go.Proofs.Ytbcbcambkjhhhaa.Sx.Z
