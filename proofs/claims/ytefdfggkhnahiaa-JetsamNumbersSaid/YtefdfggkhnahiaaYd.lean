/-
  Close behind a copy: what the program's Copy tells.
-/
import Derived.Test.YtefdfggkhnahiaaYc
namespace Go.Proofs.Ytefdfggkhnahiaa.Sx.Z
open Go.RowKit
section
variable {n : Int} {f G : Nat → Int}
theorem cp2_val (hf : Good n (false, f)) {y q : Int} (hy : isEndP n y = true) :
    ((cp2 n y q (false, f)).1 = true ∧ (f (y + 1).toNat < q - 2147483647 ∨ f ((y + 1).toNat * 7) + q + 2147483648 < 0)) ∨
    ((cp2 n y q (false, f)).1 = false ∧ ∀ i j, i < R n → j < R n → (f (i * 7 + j) ≤ (cp2 n y q (false, f)).2 (i * 7 + j) ∨ f (i * 7 + (y + 1).toNat) + (2147483647 - q) + f j ≤ (cp2 n y q (false, f)).2 (i * 7 + j) ∨ f (i * 7) + (q + 2147483648) + f ((y + 1).toNat * 7 + j) ≤ (cp2 n y q (false, f)).2 (i * 7 + j))) := by
  have hR := R_le n
  have e0 : ((-1 : Int) + 1).toNat = 0 := rfl
  obtain ⟨hb, _⟩ := isEnd_R hy
  have ht := hf.tri
  have hd := hf.diag
  dsimp only at ht hd
  unfold cp2
  have c1 := bnd_cases n y (-1) (2147483647 - q) (false, f)
  rw [e0] at c1
  generalize hbe : (y + 1).toNat = b at *
  rcases c1 with ⟨e1, _⟩ | ⟨_, _, _, hlt, ⟨hno, e1⟩ | ⟨hge, e1⟩⟩ <;> rw [e1]
  · have c2 := bnd_cases n (-1) y (q + 2147483648) (false, f)
    rw [e0, hbe] at c2
    rcases c2 with ⟨e2, _⟩ | ⟨_, _, _, hlt2, ⟨hno2, e2⟩ | ⟨hge2, e2⟩⟩ <;> rw [e2]
    · exact .inr ⟨rfl, fun i j hi hj => .inl (Int.le_refl _)⟩
    · refine .inl ⟨rfl, .inr ?_⟩
      dsimp only at hno2
      rw [Nat.add_zero] at hno2
      omega
    · refine .inr ⟨rfl, fun i j hi hj => ?_⟩
      dsimp only
      rw [near_val hi hj]
      rw [Nat.add_zero]
      omega
  · rcases bnd_cases n (-1) y (q + 2147483648) (true, fun _ => 0) with ⟨e2, _⟩ | ⟨h, _⟩
    · rw [e2]
      refine .inl ⟨rfl, .inl ?_⟩
      dsimp only at hno
      rw [Nat.zero_mul, Nat.zero_add] at hno
      omega
    · cases h
  · have nv := fun {i j : Nat} (hi : i < R n) (hj : j < R n) => near_val (n := n) (f := f) (a := b) (b := 0) (q := 2147483647 - q) hi hj
    have c2 := bnd_cases n (-1) y (q + 2147483648) (false, fun o => if o / 7 < R n ∧ o % 7 < R n then near f b 0 (2147483647 - q) o else f o)
    rw [e0, hbe] at c2
    dsimp only at c2
    have z0 : 0 < R n := by omega
    rcases c2 with ⟨e2, _⟩ | ⟨_, _, _, hlt2, ⟨hno2, e2⟩ | ⟨hge2, e2⟩⟩ <;> rw [e2]
    · refine .inr ⟨rfl, fun i j hi hj => ?_⟩
      dsimp only
      rw [nv hi hj]
      simp only [Nat.zero_mul, Nat.zero_add]
      omega
    · refine .inl ⟨rfl, .inr ?_⟩
      rw [nv hb z0] at hno2
      have d1 := hd b hb
      have d2 := hd 0 z0
      simp only [Nat.zero_mul, Nat.zero_add, Nat.add_zero] at hno2 d2
      omega
    · refine .inr ⟨rfl, fun i j hi hj => ?_⟩
      dsimp only
      rw [near_val hi hj, nv hi hj, nv hi z0, nv hb hj]
      have t1 := ht i j b hi hj hb
      have t2 := ht i j 0 hi hj z0
      have d1 := hd b hb
      have d2 := hd 0 z0
      unfold Z.tri at t1 t2
      simp only [Nat.zero_mul, Nat.zero_add, Nat.add_zero] at t2 d2 ⊢
      omega
/-- A copy's bounds: those of the others, and the copy's at a distance. -/
def cpC (g : Nat → Int) (a b : Nat) (q : Int) (r : Nat) (o : Nat) : Int := if o / 7 < r ∧ o % 7 < r then (if o / 7 = a then (if o % 7 = a then 0 else q + g (b * 7 + o % 7)) else if o % 7 = a then g (o / 7 * 7 + b) - q else g o) else 0
theorem cpC_at {g : Nat → Int} {a b r i j : Nat} {q : Int} (hi : i < r) (hj : j < r) (hr : r ≤ 7) : cpC g a b q r (i * 7 + j) = if i = a then (if j = a then 0 else q + g (b * 7 + j)) else if j = a then g (i * 7 + b) - q else g (i * 7 + j) := by
  have h7 := dm7 (k := i) (m := j) (by omega)
  unfold cpC
  rw [h7.1, h7.2, if_pos ⟨hi, hj⟩]
theorem cp_same (hf : Good n (false, f)) {x y q : Int} (hx : isVarP n x = true) (hy : isEndP n y = true) (hxy : x ≠ y) (hq : -2147483648 ≤ q ∧ q ≤ 2147483647) (hc : (cp2 n y q (false, f)).1 = false) :
    Good n (false, cpC (cp2 n y q (false, f)).2 (x + 1).toNat (y + 1).toNat q (R n)) ∧ Same (false, cpC (cp2 n y q (false, f)).2 (x + 1).toNat (y + 1).toNat q (R n)) (copyZ n x y q (false, f)) := by
  have hR := R_le n
  obtain ⟨ha, hax, ha1⟩ := isVar_R hx
  obtain ⟨hb, hbx⟩ := isEnd_R hy
  have hab : (x + 1).toNat ≠ (y + 1).toNat := by omega
  have g2 := cp2_good hf y q
  have l2 := cp2_le hf hy hc
  have g3 := good_fg g2 x
  have hcp := good_copy hf x y q
  have ecp : copyZ n x y q (false, f) = bndZ n y x (0 - q) (bndZ n x y q (fgZ n x (cp2 n y q (false, f)))) := by
    unfold copyZ
    rw [if_neg (by rw [hx, hy]; simp), if_neg (by
      have h1 : decide (q > 1099511627776) = false := decide_eq_false (by omega)
      have h2 : decide (q < -1099511627776) = false := decide_eq_false (by omega)
      rw [h1, h2]; simp), if_neg (by simpa using hxy)]
  have efg : ∀ i j, i < R n → j < R n → (fgZ n x (cp2 n y q (false, f))).2 (i * 7 + j) = fgTo (cp2 n y q (false, f)).2 (x + 1).toNat (R n) (i * 7 + j) := fun i j hi hj => by
    show forgetF n _ _ x _ = _
    unfold forgetF
    rw [if_neg (by rw [hc, hx]; simp)]; rfl
  have hpt : ∀ v, Pt n (copyZ n x y q (false, f)) v ↔ Pt n (fgZ n x (cp2 n y q (false, f))) v ∧ v (x + 1).toNat - v (y + 1).toNat ≤ q ∧ v (y + 1).toNat - v (x + 1).toNat ≤ 0 - q := fun v => by
    rw [ecp, bnd_pt (good_bnd g3 x y q) hy (isVar_end hx), bnd_pt g3 (isVar_end hx) hy]
    exact ⟨fun h => ⟨h.1.1, h.1.2, h.2⟩, fun h => ⟨⟨h.1, h.2.1⟩, h.2.2⟩⟩
  have ffst : (fgZ n x (cp2 n y q (false, f))).1 = false := hc
  generalize cp2 n y q (false, f) = z at *
  generalize fgZ n x z = w at *
  obtain ⟨c, g⟩ := z
  dsimp only at hc l2 efg
  subst hc
  generalize (x + 1).toNat = a at *
  generalize (y + 1).toNat = b at *
  have ht := g2.tri
  have hd := g2.diag
  have h0 := g2.hi0
  have h1 := g2.hi1
  dsimp only at ht hd h0 h1
  have z0 : 0 < R n := by omega
  have G : Good n (false, cpC g a b q (R n)) := by
    refine ⟨g2.n0, fun i j hi hj ho => ?_, fun i hi => ?_, fun i j k hi hj hk => ?_, fun i hi => ?_, fun i hi => ?_, fun h => by cases h⟩
    · have h7 := dm7 (k := i) (m := j) hj
      show cpC g a b q (R n) (i * 7 + j) = 0
      unfold cpC
      rw [h7.1, h7.2, if_neg (by omega)]
    · show cpC g a b q (R n) (i * 7 + i) = 0
      rw [cpC_at hi hi hR.2.1]
      split
      · rfl
      · exact hd i hi
    · show cpC g a b q (R n) (i * 7 + j) ≤ cpC g a b q (R n) (i * 7 + k) + cpC g a b q (R n) (k * 7 + j)
      rw [cpC_at hi hj hR.2.1, cpC_at hi hk hR.2.1, cpC_at hk hj hR.2.1]
      have t0 := ht i j k hi hj hk
      have t1 := ht b j k hb hj hk
      have t2 := ht i b k hi hb hk
      have t3 := ht i j b hi hj hb
      have t4 := ht b b k hb hb hk
      have d1 := hd b hb
      unfold Z.tri at t0 t1 t2 t3 t4
      (repeat' split) <;> omega
    · have e := cpC_at (g := g) (a := a) (b := b) (q := q) hi z0 hR.2.1
      rw [Nat.add_zero] at e
      show cpC g a b q (R n) (i * 7) ≤ _
      rw [e]
      have := h0 i hi
      have := l2.1
      rw [Nat.add_zero]
      (repeat' split) <;> omega
    · have e := cpC_at (g := g) (a := a) (b := b) (q := q) z0 hi hR.2.1
      rw [Nat.zero_mul, Nat.zero_add] at e
      show cpC g a b q (R n) i ≤ _
      rw [e]
      have := h1 i hi
      have := l2.2
      simp only [Nat.zero_add]
      (repeat' split) <;> omega
  refine ⟨G, good_ext G hcp fun v => ?_⟩
  rw [hpt v]
  have fv : ∀ i j, i < R n → j < R n → w.2 (i * 7 + j) = if i = a ∧ j ≠ a then 2147483647 + g j else if j = a ∧ i ≠ a then g (i * 7) + 2147483648 else g (i * 7 + j) := fun i j hi hj => (efg i j hi hj).trans (fg_at hi hj hR.2.1)
  constructor
  · rintro ⟨_, v0, hp⟩
    have hp' : ∀ i j, i < R n → j < R n → v i - v j ≤ if i = a then (if j = a then 0 else q + g (b * 7 + j)) else if j = a then g (i * 7 + b) - q else g (i * 7 + j) := fun i j hi hj => by
      have := hp i j hi hj
      dsimp only at this
      rwa [cpC_at hi hj hR.2.1] at this
    have pab := hp' a b ha hb
    have pba := hp' b a hb ha
    have db := hd b hb
    rw [if_pos rfl, if_neg (Ne.symm hab), db] at pab
    rw [if_neg (Ne.symm hab), if_pos rfl, db] at pba
    refine ⟨⟨ffst, v0, fun i j hi hj => ?_⟩, by omega, by omega⟩
    rw [fv i j hi hj]
    have pij := hp' i j hi hj
    by_cases c1 : i = a ∧ j ≠ a
    · rw [if_pos c1]
      have p1 := hp' b 0 hb z0
      have p2 := hp' 0 j z0 hj
      rw [if_neg (Ne.symm hab), if_neg (by omega)] at p1
      rw [if_neg (by omega), if_neg c1.2] at p2
      rw [Nat.add_zero] at p1
      rw [Nat.zero_mul, Nat.zero_add] at p2
      rw [c1.1]
      have := l2.1
      omega
    · rw [if_neg c1]
      by_cases c2 : j = a ∧ i ≠ a
      · rw [if_pos c2]
        have p1 := hp' 0 b z0 hb
        have p2 := hp' i 0 hi z0
        rw [if_neg (by omega), if_neg (Ne.symm hab)] at p1
        rw [if_neg c2.2, if_neg (by omega)] at p2
        rw [Nat.add_zero] at p2
        rw [Nat.zero_mul, Nat.zero_add] at p1
        rw [c2.1]
        have := l2.2
        omega
      · rw [if_neg c2]
        by_cases c3 : i = a
        · have c4 : j = a := by omega
          rw [c3, c4, hd a ha]; omega
        · rw [if_neg c3, if_neg (by omega)] at pij
          exact pij
  · rintro ⟨⟨_, v0, hp⟩, q1, q2⟩
    have hp' : ∀ i j, i < R n → j < R n → v i - v j ≤ if i = a ∧ j ≠ a then 2147483647 + g j else if j = a ∧ i ≠ a then g (i * 7) + 2147483648 else g (i * 7 + j) := fun i j hi hj => by
      have := hp i j hi hj
      rwa [fv i j hi hj] at this
    refine ⟨rfl, v0, fun i j hi hj => ?_⟩
    dsimp only
    rw [cpC_at hi hj hR.2.1]
    by_cases c1 : i = a
    · rw [if_pos c1]
      by_cases c2 : j = a
      · rw [if_pos c2, c1, c2]; omega
      · rw [if_neg c2]
        have p := hp' b j hb hj
        rw [if_neg (by omega), if_neg (by omega)] at p
        rw [c1]; omega
    · rw [if_neg c1]
      by_cases c2 : j = a
      · rw [if_pos c2]
        have p := hp' i b hi hb
        rw [if_neg (by omega), if_neg (by omega)] at p
        rw [c2]; omega
      · rw [if_neg c2]
        have p := hp' i j hi hj
        rw [if_neg (by omega), if_neg (by omega)] at p
        exact p
end
end Go.Proofs.Ytefdfggkhnahiaa.Sx.Z
