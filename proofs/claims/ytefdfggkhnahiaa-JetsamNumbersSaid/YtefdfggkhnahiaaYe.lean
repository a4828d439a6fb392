/-
  Close behind a copy, or a shift: what the program's Copy tells.
-/
import Derived.Test.YtefdfggkhnahiaaYd
namespace Go.Proofs.Ytefdfggkhnahiaa.Sx.Z
open Go.RowKit
theorem bnd_none {n x y b : Int} {z : Zs} (h : z.1 = true) : bndZ n x y b z = z := by
  rcases bnd_cases n x y b z with ⟨e, _⟩ | ⟨hc, _⟩
  · exact e
  · rw [h] at hc; cases hc
theorem cp2_mono {n : Int} {z : Zs} (h : Good n z) {y b : Int} (hy : isEndP n y = true) (hc : (cp2 n y b z).1 = false) {i j : Nat} (hi : i < R n) (hj : j < R n) : (cp2 n y b z).2 (i * 7 + j) ≤ z.2 (i * 7 + j) :=
  Int.le_trans (bnd_mono (good_bnd h _ _ _) (isEnd_nought n) hy hc hi hj) (bnd_mono h hy (isEnd_nought n) (bnd_some hc) hi hj)
section
variable {n : Int} {f G : Nat → Int}
theorem cl_cp (hf : Good n (false, f)) {x y q : Int} (hx : isVarP n x = true) (hy : isEndP n y = true) (hxy : x ≠ y) (hq : -2147483648 ≤ q ∧ q ≤ 2147483647)
    (hG : ∀ o, o < 49 → G o = if o = (x + 1).toNat * 7 + (y + 1).toNat then q else if o = (y + 1).toNat * 7 + (x + 1).toNat then 0 - q else (fgZ n x (false, f)).2 o) : Same (clZ n (false, G)) (copyZ n x y q (false, f)) := by
  have hR := R_le n
  obtain ⟨ha, hax, ha1⟩ := isVar_R hx
  obtain ⟨hb, hbx⟩ := isEnd_R hy
  have hab : (x + 1).toNat ≠ (y + 1).toNat := by omega
  have hcp := good_copy hf x y q
  have hcv := cp2_val hf (q := q) hy
  have hcs := cp_same hf hx hy hxy hq
  have g2 := cp2_good hf y q
  have l2 := cp2_le (b := q) hf hy
  have mo := fun hc => fun {i j : Nat} (hi : i < R n) (hj : j < R n) => cp2_mono (b := q) hf hy hc hi hj
  have gfg := good_fg hf x
  have ecp : copyZ n x y q (false, f) = bndZ n y x (0 - q) (bndZ n x y q (fgZ n x (cp2 n y q (false, f)))) := by
    unfold copyZ
    rw [if_neg (by rw [hx, hy]; simp), if_neg (by
      have h1 : decide (q > 1099511627776) = false := decide_eq_false (by omega)
      have h2 : decide (q < -1099511627776) = false := decide_eq_false (by omega)
      rw [h1, h2]; simp), if_neg (by simpa using hxy)]
  have ev : ∀ o, (fgZ n x (false, f)).2 o = fgTo f (x + 1).toNat (R n) o := fun o => by
    show forgetF n false f x o = _
    unfold forgetF
    rw [if_neg (by rw [hx]; simp)]; rfl
  have efg : fgZ n x (false, f) = (false, fgTo f (x + 1).toNat (R n)) := Prod.ext rfl (funext ev)
  rw [efg] at hG gfg
  dsimp only at hG
  clear ev efg
  generalize cp2 n y q (false, f) = z at *
  generalize (x + 1).toNat = a at *
  generalize (y + 1).toNat = b at *
  have z0 : 0 < R n := by omega
  have lo := fun {i j : Nat} (hi : i < R n) (hj : j < R n) => hf.low hi hj
  have h0 := hf.hi0
  have h1 := hf.hi1
  have hd := hf.diag
  have ht := hf.tri
  have fout := gfg.out
  have flo := fun {i j : Nat} (hi : i < R n) (hj : j < R n) => gfg.low hi hj
  dsimp only at lo h0 h1 hd ht fout flo
  have gv : ∀ i j, i < R n → j < R n → G (i * 7 + j) = if i = a ∧ j = b then q else if i = b ∧ j = a then 0 - q else if i = a ∧ j ≠ a then 2147483647 + f j else if j = a ∧ i ≠ a then f (i * 7) + 2147483648 else f (i * 7 + j) := fun i j hi hj => by
    rw [hG _ (by omega), fg_at hi hj hR.2.1]
    exact icg (by omega) rfl (icg (by omega) rfl rfl)
  have hB : Bd G := fun o ho => by
    obtain ⟨e, hi, hj⟩ := at7 ho rfl rfl
    rw [hG o ho]
    by_cases hr : o / 7 < R n ∧ o % 7 < R n
    · have := flo hr.1 hr.2; rw [← e] at this; (repeat' split) <;> omega
    · have := fout _ _ hi hj (by omega); rw [← e] at this; (repeat' split) <;> omega
  have ci := clamp_id (G := G) (r := R n) (fun i hi => by
      have := gv i 0 hi z0
      rw [Nat.add_zero] at this
      have := h0 i hi
      have := hd 0 z0
      rw [Nat.zero_mul, Nat.zero_add] at this
      (repeat' split at *) <;> omega) (fun i hi => by
      have := gv 0 i z0 hi
      rw [Nat.zero_mul, Nat.zero_add] at this
      have := h1 i hi
      have := hd 0 z0
      rw [Nat.zero_mul, Nat.zero_add] at this
      (repeat' split at *) <;> omega)
  have cB := bd_clamp hB (R n)
  have P := fun m {i j k : Nat} (hi : i < R n) (hj : j < R n) (hk : k < R n) => rUp_path cB (m := m) hR.2.1 hi hj hk
  have M := fun {m m' : Nat} (h : m ≤ m') => rUp_le' cB (R n) h
  have F0 : ∀ o, rUp (clampTo G (R n)) (R n) 0 o = G o := fun o => ci o
  have gab : G (a * 7 + b) = q := by rw [gv a b ha hb, if_pos ⟨rfl, rfl⟩]
  have gba : G (b * 7 + a) = 0 - q := by rw [gv b a hb ha, if_neg (by omega), if_pos ⟨rfl, rfl⟩]
  have d00 := hd 0 z0
  have dbb := hd b hb
  rw [Nat.zero_mul, Nat.zero_add] at d00
  have ga0 : G (a * 7 + 0) ≤ 2147483647 := by
    rw [gv a 0 ha z0]
    (repeat' split) <;> omega
  have g0a : G (0 * 7 + a) ≤ 2147483648 := by
    rw [gv 0 a z0 ha]
    have := h1 a ha
    simp only [Nat.zero_mul, Nat.zero_add, d00]
    (repeat' split) <;> omega
  have gin : ∀ i j, i < R n → j < R n → i ≠ a → j ≠ a → G (i * 7 + j) = f (i * 7 + j) := fun i j hi hj h2 h3 => by
    rw [gv i j hi hj, if_neg (by omega), if_neg (by omega), if_neg (by omega), if_neg (by omega)]
  -- rounds
  have A1 : ∀ i, i < R n → i ≠ a → rUp (clampTo G (R n)) (R n) 1 (i * 7 + a) ≤ max (f (i * 7 + b) - q) (-35184372088832) ∧ rUp (clampTo G (R n)) (R n) 1 (i * 7 + a) ≤ max (f (i * 7) + 2147483648) (-35184372088832) := fun i hi hia => by
    have p1 := P 0 hi ha hb
    have p2 := P 0 hi ha z0
    rw [F0, F0, gin i b hi hb hia (Ne.symm hab), gba] at p1
    rw [F0, F0, gin i 0 hi z0 hia (by omega)] at p2
    simp only [Nat.zero_add] at p1 p2
    rw [Nat.add_zero] at p2
    rw [Nat.zero_mul, Nat.zero_add] at p2
    rw [Nat.zero_mul, Nat.zero_add] at g0a
    omega
  have A2 : ∀ j, j < R n → j ≠ a → rUp (clampTo G (R n)) (R n) 1 (a * 7 + j) ≤ max (2147483647 + f j) (-35184372088832) ∧ rUp (clampTo G (R n)) (R n) 1 (a * 7 + j) ≤ max (q + f (b * 7 + j)) (-35184372088832) := fun j hj hja => by
    have p1 := P 0 ha hj z0
    have p2 := P 0 ha hj hb
    rw [F0, F0, gin 0 j z0 hj (by omega) hja] at p1
    rw [F0, F0, gab, gin b j hb hj (Ne.symm hab) hja] at p2
    simp only [Nat.zero_add] at p1 p2
    rw [Nat.zero_mul, Nat.zero_add] at p1
    omega
  have A3 : ∀ i j, i < R n → j < R n → i ≠ a → j ≠ a → rUp (clampTo G (R n)) (R n) 2 (i * 7 + j) ≤ max (rUp (clampTo G (R n)) (R n) 1 (i * 7 + a) + rUp (clampTo G (R n)) (R n) 1 (a * 7 + j)) (-35184372088832) ∧ rUp (clampTo G (R n)) (R n) 2 (i * 7 + j) ≤ f (i * 7 + j) := fun i j hi hj h2 h3 => by
    have p1 := P 1 hi hj ha
    have m := M (Nat.zero_le 2) (i * 7 + j) (by omega)
    rw [F0, gin i j hi hj h2 h3] at m
    exact ⟨p1, m⟩
  rcases hcv with ⟨hn, hw⟩ | ⟨hs, hv⟩
  · -- nothing is left
    have e1 : (copyZ n x y q (false, f)).1 = true := by
      rw [ecp]
      have e3 : (fgZ n x z).1 = true := hn
      rw [bnd_none (z := fgZ n x z) e3, bnd_none e3]; exact e3
    refine same_none ?_ hcp e1
    rcases hw with hw | hw
    · by_cases hb0 : b = 0
      · exfalso; rw [hb0, d00] at hw; omega
      · have a1 := A3 b b hb hb (Ne.symm hab) (Ne.symm hab)
        have a2 := A1 b hb (Ne.symm hab)
        have a3 := A2 b hb (Ne.symm hab)
        refine cl_none hB hb (m := 2) (by omega) ?_
        omega
    · by_cases hb0 : b = 0
      · exfalso; rw [hb0, Nat.zero_mul, d00] at hw; omega
      · have a1 := A3 0 0 z0 z0 (by omega) (by omega)
        have a2 := A1 0 z0 (by omega)
        have a3 := A2 0 z0 (by omega)
        rw [Nat.zero_mul, Nat.zero_add, d00] at a2
        rw [Nat.add_zero] at a3
        rw [Nat.add_zero] at a3
        simp only [Nat.zero_mul, Nat.zero_add, Nat.add_zero] at a1 a2 a3
        refine cl_none hB z0 (m := 2) (by omega) ?_
        simp only [Nat.zero_mul, Nat.zero_add]
        omega
  · obtain ⟨c, g⟩ := z
    dsimp only at hs hv l2 hcs
    subst hs
    obtain ⟨gC, sC⟩ := hcs rfl
    obtain ⟨q1, q2⟩ := l2 rfl
    have gt := g2.tri
    have gd := g2.diag
    have gl := fun {i j : Nat} (hi : i < R n) (hj : j < R n) => g2.low hi hj
    dsimp only at gt gd gl
    have gf : ∀ i j, i < R n → j < R n → i ≠ a → j ≠ a → rUp (clampTo G (R n)) (R n) 2 (i * 7 + j) ≤ g (i * 7 + j) := fun i j hi hj h2 h3 => by
      have a1 := A3 i j hi hj h2 h3
      have a2 := A1 i hi h2
      have a3 := A2 j hj h3
      have b1 := gl hi hj
      have b2 := lo hi hb
      have b3 := lo hb hj
      have b4 := lo hi z0
      have b5 := lo z0 hj
      rw [Nat.add_zero] at b4
      rw [Nat.zero_mul, Nat.zero_add] at b5
      rcases hv i j hi hj with h | h | h <;> omega
    refine Same.tr (y := (false, cpC g a b q (R n))) (cl_eq (C := cpC g a b q (R n)) gC hB (fun o ho h => ?_) (fun i j hi hj => ?_) (fun i j hi hj => ?_)) sC
    · obtain ⟨e, hi, hj⟩ := at7 ho rfl rfl
      rw [ci, hG o ho, if_neg (by omega), if_neg (by omega), e]
      exact fout _ _ hi hj (by omega)
    · rw [ci, cpC_at hi hj hR.2.1, gv i j hi hj]
      have gle : ∀ i j, i < R n → j < R n → g (i * 7 + j) ≤ f (i * 7 + j) := fun i j hi hj => mo rfl hi hj
      have t1 := gt b j 0 hb hj z0
      have t2 := gt i b 0 hi hb z0
      have e1 := gle i j hi hj
      have e2 := gle 0 j z0 hj
      have e3 := gle i 0 hi z0
      have db := gd b hb
      unfold Z.tri at t1 t2
      simp only [Nat.zero_mul, Nat.zero_add, Nat.add_zero] at t1 t2 e2 e3
      by_cases c1 : i = a
      · rw [if_pos c1]
        by_cases c2 : j = a
        · rw [if_pos c2, if_neg (by omega), if_neg (by omega), if_neg (by omega), if_neg (by omega), c1, c2, hd a ha]; exact Int.le_refl _
        · rw [if_neg c2]
          by_cases c3 : j = b
          · rw [if_pos ⟨c1, c3⟩, c3, db]; omega
          · rw [if_neg (by omega), if_neg (by omega), if_pos ⟨c1, c2⟩]; omega
      · rw [if_neg c1]
        by_cases c2 : j = a
        · rw [if_pos c2]
          by_cases c3 : i = b
          · rw [if_neg (by omega), if_pos ⟨c3, c2⟩, c3, db]; omega
          · rw [if_neg (by omega), if_neg (by omega), if_neg (by omega), if_pos ⟨c2, c1⟩]; omega
        · rw [if_neg c2, if_neg (by omega), if_neg (by omega), if_neg (by omega), if_neg (by omega)]; exact e1
    · rw [cpC_at hi hj hR.2.1]
      have m3 := M (show 3 ≤ R n + 1 by omega) (i * 7 + j) (by omega)
      have m2 := M (show 2 ≤ 3 by omega) (i * 7 + j) (by omega)
      have m0 := M (Nat.zero_le 3) (i * 7 + j) (by omega)
      rw [F0] at m0
      by_cases c1 : i = a
      · rw [if_pos c1]
        by_cases c2 : j = a
        · rw [if_pos c2]
          have := gv i j hi hj
          rw [if_neg (by omega), if_neg (by omega), if_neg (by omega), if_neg (by omega), c1, c2, hd a ha] at this
          rw [c1, c2] at m0 m3 ⊢
          omega
        · rw [if_neg c2]
          have p := P 2 hi hj hb
          have m := M (Nat.zero_le 2) (a * 7 + b) (by omega)
          rw [F0, gab] at m
          have e := gf b j hb hj (Ne.symm hab) c2
          have b1 := gl hb hj
          rw [c1] at p m3 ⊢
          simp only [Nat.reduceAdd] at p
          omega
      · rw [if_neg c1]
        by_cases c2 : j = a
        · rw [if_pos c2]
          have p := P 2 hi hj hb
          have m := M (Nat.zero_le 2) (b * 7 + a) (by omega)
          rw [F0, gba] at m
          have e := gf i b hi hb c1 (Ne.symm hab)
          have b1 := gl hi hb
          rw [c2] at p m3 ⊢
          simp only [Nat.reduceAdd] at p
          omega
        · rw [if_neg c2]
          have e := gf i j hi hj c1 c2
          omega
theorem cl_sh (hf : Good n (false, f)) {x q : Int} (hx : isVarP n x = true) (hq : -2147483648 ≤ q ∧ q ≤ 2147483647)
    (hG : ∀ o, o < 49 → G o = shTo f (x + 1).toNat q (R n) o) : Same (clZ n (false, G)) (copyZ n x x q (false, f)) := by
  have hR := R_le n
  obtain ⟨ha, hax, ha1⟩ := isVar_R hx
  have hcp := good_copy hf x x q
  have hcv := cp2_val hf (q := q) (isVar_end hx)
  have g2 := cp2_good hf x q
  have l2 := cp2_le (b := q) hf (isVar_end hx)
  have mo := fun hc => fun {i j : Nat} (hi : i < R n) (hj : j < R n) => cp2_mono (b := q) hf (isVar_end hx) hc hi hj
  have ecp : copyZ n x x q (false, f) = shZ n (x + 1).toNat q (cp2 n x q (false, f)) := by
    unfold copyZ
    rw [if_neg (by rw [hx, isVar_end hx]; simp), if_neg (by
      have h1 : decide (q > 1099511627776) = false := decide_eq_false (by omega)
      have h2 : decide (q < -1099511627776) = false := decide_eq_false (by omega)
      rw [h1, h2]; simp), if_pos (by simp)]
  generalize cp2 n x q (false, f) = z at *
  generalize (x + 1).toNat = a at *
  have z0 : 0 < R n := by omega
  have lo := fun {i j : Nat} (hi : i < R n) (hj : j < R n) => hf.low hi hj
  have h0 := hf.hi0
  have h1 := hf.hi1
  have hd := hf.diag
  have ht := hf.tri
  have fout := hf.out
  dsimp only at lo h0 h1 hd ht fout
  have gv : ∀ i j, i < R n → j < R n → G (i * 7 + j) = if i = a ∧ j ≠ a then f (i * 7 + j) + q else if j = a ∧ i ≠ a then f (i * 7 + j) - q else f (i * 7 + j) := fun i j hi hj => by
    rw [hG _ (by omega), sh_at hi hj hR.2.1]
  have gout : ∀ o, o < 49 → ¬ (o / 7 < R n ∧ o % 7 < R n) → G o = 0 := fun o ho h => by
    obtain ⟨e, hi, hj⟩ := at7 ho rfl rfl
    rw [hG o ho]
    unfold shTo
    rw [if_neg (by omega), if_neg (by omega), e]
    exact fout _ _ hi hj (by omega)
  have hB : Bd G := fun o ho => by
    obtain ⟨e, hi, hj⟩ := at7 ho rfl rfl
    by_cases hr : o / 7 < R n ∧ o % 7 < R n
    · have e2 := gv _ _ hr.1 hr.2
      have := lo hr.1 hr.2
      rw [← e] at this e2
      rw [e2]; (repeat' split) <;> omega
    · rw [gout o ho hr]; omega
  have cB := bd_clamp hB (R n)
  have P := fun m {i j k : Nat} (hi : i < R n) (hj : j < R n) (hk : k < R n) => rUp_path cB (m := m) hR.2.1 hi hj hk
  have M := fun {m m' : Nat} (h : m ≤ m') => rUp_le' cB (R n) h
  have F0 : ∀ o, rUp (clampTo G (R n)) (R n) 0 o = clampTo G (R n) o := fun o => rfl
  have cle : ∀ i j, i < R n → j < R n → clampTo G (R n) (i * 7 + j) ≤ G (i * 7 + j) := fun i j hi hj => by
    rw [clamp_at hi hj hR.2.1]; (repeat' split) <;> omega
  have ca0 : clampTo G (R n) (a * 7 + 0) ≤ 2147483647 := by rw [clamp_at ha z0 hR.2.1, if_neg (by omega), if_pos ⟨ha1, rfl⟩]; omega
  have c0a : clampTo G (R n) (0 * 7 + a) ≤ 2147483648 := by rw [clamp_at z0 ha hR.2.1, if_pos ⟨rfl, ha1⟩]; omega
  have k1 : ∀ i, i < R n → i ≠ a → clampTo G (R n) (i * 7 + a) ≤ f (i * 7 + a) - q := fun i hi h => by
    have := cle i a hi ha
    rw [gv i a hi ha, if_neg (by omega), if_pos ⟨rfl, h⟩] at this; exact this
  have k2 : ∀ j, j < R n → j ≠ a → clampTo G (R n) (a * 7 + j) ≤ f (a * 7 + j) + q := fun j hj h => by
    have := cle a j ha hj
    rw [gv a j ha hj, if_pos ⟨rfl, h⟩] at this; exact this
  have k3 : ∀ i j, i < R n → j < R n → i ≠ a → j ≠ a → clampTo G (R n) (i * 7 + j) ≤ f (i * 7 + j) := fun i j hi hj h h' => by
    have := cle i j hi hj
    rw [gv i j hi hj, if_neg (by omega), if_neg (by omega)] at this; exact this
  have kaa : clampTo G (R n) (a * 7 + a) ≤ 0 := by
    have := cle a a ha ha
    rw [gv a a ha ha, if_neg (by omega), if_neg (by omega), hd a ha] at this; exact this
  have paa := P 0 ha ha z0
  rw [F0, F0] at paa
  simp only [Nat.zero_add] at paa
  have q0 := k2 0 z0 (by omega)
  have q1 := k1 0 z0 (by omega)
  rcases hcv with ⟨hn, hw⟩ | ⟨hs, hv⟩
  · have e1 : (copyZ n x x q (false, f)).1 = true := by rw [ecp]; exact hn
    refine same_none (cl_none hB ha (m := 1) (by omega) ?_) hcp e1
    simp only [Nat.zero_mul, Nat.zero_add, Nat.add_zero] at paa q0 q1 ca0 c0a
    rcases hw with hw | hw <;> omega
  · obtain ⟨c, g⟩ := z
    dsimp only at hs hv l2
    subst hs
    have gC := good_sh g2 ha ha1 (b := q) (fun _ => l2 rfl)
    have esh : shZ n a q (false, g) = (false, shTo g a q (R n)) := by
      refine Prod.ext rfl (funext fun o => ?_)
      show shiftF n false g a q o = _
      unfold shiftF
      rw [if_neg (by simp)]; rfl
    rw [ecp]
    rw [esh] at gC ⊢
    have gl := fun {i j : Nat} (hi : i < R n) (hj : j < R n) => g2.low hi hj
    have gd := g2.diag
    have c0 := gC.hi0
    have c1 := gC.hi1
    dsimp only at gl gd c0 c1
    refine cl_eq (C := shTo g a q (R n)) gC hB (fun o ho h => ?_) (fun i j hi hj => ?_) (fun i j hi hj => ?_)
    · unfold clampTo
      rw [gout o ho h]
      (repeat' split) <;> omega
    · have e1 : g (i * 7 + j) ≤ f (i * 7 + j) := mo rfl hi hj
      have e2 : shTo g a q (R n) (i * 7 + j) ≤ G (i * 7 + j) := by
        rw [sh_at hi hj hR.2.1, gv i j hi hj]; (repeat' split) <;> omega
      rw [clamp_at hi hj hR.2.1]
      split
      · rename_i h; have := c1 j hj; rw [h.1, Nat.zero_mul, Nat.zero_add] at e2 ⊢; omega
      · split
        · rename_i h; have := c0 i hi; rw [h.2, Nat.add_zero] at e2 ⊢; omega
        · exact e2
    · rw [sh_at hi hj hR.2.1]
      have m2 := M (show 2 ≤ R n + 1 by omega) (i * 7 + j) (by omega)
      have m1 := M (show 1 ≤ 2 by omega) (i * 7 + j) (by omega)
      have m0 := M (Nat.zero_le 1) (i * 7 + j) (by omega)
      have n1 := M (Nat.zero_le 1) (i * 7 + a) (by omega)
      have n2 := M (Nat.zero_le 1) (a * 7 + j) (by omega)
      have p1 := P 0 hi ha z0
      have p2 := P 0 ha hj z0
      have p3 := P 1 hi hj ha
      rw [F0, F0] at p1 p2
      rw [F0] at m0 n1 n2
      simp only [Nat.zero_add, Nat.reduceAdd] at p1 p2 p3
      have b1 := gl hi hj
      have b2 := lo hi ha
      have b3 := lo ha hj
      have b4 := lo hi z0
      have b5 := lo z0 hj
      have hvv := hv i j hi hj
      have faa := hd a ha
      by_cases e1 : i = a
      · by_cases e2 : j = a
        · rw [if_neg (by omega), if_neg (by omega), e1, e2, gd a ha]
          rw [e1, e2] at m2 m1 m0
          omega
        · rw [if_pos ⟨e1, e2⟩]
          have k := k2 j hj e2
          have k' := k3 0 j z0 hj (by omega) e2
          subst e1
          simp only [Nat.zero_mul, Nat.zero_add, Nat.add_zero] at *
          rcases hvv with h | h | h <;> omega
      · by_cases e2 : j = a
        · rw [if_neg (by omega), if_pos ⟨e2, e1⟩]
          have k := k1 i hi e1
          have k' := k3 i 0 hi z0 e1 (by omega)
          subst e2
          simp only [Nat.zero_mul, Nat.zero_add, Nat.add_zero] at *
          rcases hvv with h | h | h <;> omega
        · rw [if_neg (by omega), if_neg (by omega)]
          have ka := k1 i hi e1
          have kb := k2 j hj e2
          have kc := k3 i j hi hj e1 e2
          have kd := k3 i 0 hi z0 e1 (by omega)
          have ke := k3 0 j z0 hj (by omega) e2
          simp only [Nat.zero_mul, Nat.zero_add, Nat.add_zero] at *
          rcases hvv with h | h | h <;> omega
end
end Go.Proofs.Ytefdfggkhnahiaa.Sx.Z
