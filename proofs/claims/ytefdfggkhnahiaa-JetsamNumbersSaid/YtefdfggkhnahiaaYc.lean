/-
  Close behind a bound more, a variable that is forgotten, a copy: what the program's calls tell.
-/
import Derived.Test.YtefdfggkhnahiaaYb
namespace Go.Proofs.Ytefdfggkhnahiaa.Sx.Z
open Go.RowKit
def Same (z w : Zs) : Prop := z.1 = w.1 ∧ ∀ o, o < 49 → z.2 o = w.2 o
theorem Same.tr {x y z : Zs} (h : Same x y) (k : Same y z) : Same x z := ⟨h.1.trans k.1, fun o ho => (h.2 o ho).trans (k.2 o ho)⟩
theorem Same.sy {x y : Zs} (h : Same x y) : Same y x := ⟨h.1.symm, fun o ho => (h.2 o ho).symm⟩
theorem clamp_id {G : Nat → Int} {r : Nat} (h0 : ∀ i, i < r → G (i * 7) ≤ 2147483647) (h1 : ∀ i, i < r → G i ≤ 2147483648) (o : Nat) : clampTo G r o = G o := by
  unfold clampTo
  split
  · rename_i h; have := h1 o h.2; omega
  · split
    · rename_i h; have := h0 (o / 7) h.2.1; rw [show o / 7 * 7 = o by omega] at this; omega
    · rfl
theorem clamp_at {G : Nat → Int} {r i j : Nat} (hi : i < r) (hj : j < r) (hr : r ≤ 7) : clampTo G r (i * 7 + j) = if i = 0 ∧ 1 ≤ j then min (G (i * 7 + j)) 2147483648 else if 1 ≤ i ∧ j = 0 then min (G (i * 7 + j)) 2147483647 else G (i * 7 + j) := by
  have h7 := dm7 (k := i) (m := j) (by omega)
  unfold clampTo
  rw [h7.1, h7.2]
  exact icg (by omega) rfl (icg (by omega) rfl rfl)
theorem same_none {n : Int} {z w : Zs} (hz : z = (true, fun _ => 0)) (g : Good n w) (h : w.1 = true) : Same z w := by
  rw [hz]; exact ⟨h.symm, fun o ho => (g.none h o ho).symm⟩
section
variable {n : Int} {f G : Nat → Int}
theorem cl_bnd (hf : Good n (false, f)) {x y q : Int} (hx : isEndP n x = true) (hy : isEndP n y = true) (hxy : x ≠ y) (hq : -4294967296 ≤ q)
    (hG : ∀ o, o < 49 → G o = if o = (x + 1).toNat * 7 + (y + 1).toNat then min (f o) q else f o) : Same (clZ n (false, G)) (bndZ n x y q (false, f)) := by
  have hR := R_le n
  obtain ⟨ha, hax⟩ := isEnd_R hx
  obtain ⟨hb, hbx⟩ := isEnd_R hy
  have hab : (x + 1).toNat ≠ (y + 1).toNat := by omega
  have hg := good_bnd hf x y q
  have hcs := bnd_cases n x y q (false, f)
  generalize (x + 1).toNat = a at *
  generalize (y + 1).toNat = b at *
  have lo := fun {i j : Nat} (hi : i < R n) (hj : j < R n) => hf.low hi hj
  have h0 := hf.hi0
  have h1 := hf.hi1
  have hd := hf.diag
  have hout := hf.out
  dsimp only at lo h0 h1 hd hcs hout
  have Gle : ∀ o, o < 49 → G o ≤ f o := fun o ho => by rw [hG o ho]; split <;> omega
  have Gab : G (a * 7 + b) ≤ q := by rw [hG _ (by omega), if_pos rfl]; omega
  have Gge : ∀ i j, i < R n → j < R n → -4294967296 ≤ G (i * 7 + j) := fun i j hi hj => by
    have := (lo hi hj).1
    rw [hG _ (by omega)]; split <;> omega
  have Gne : ∀ i j, i < R n → j < R n → ¬ (i = a ∧ j = b) → G (i * 7 + j) = f (i * 7 + j) := fun i j hi hj h => by
    rw [hG _ (by omega), if_neg (by omega)]
  have Gout : ∀ o, o < 49 → ¬ (o / 7 < R n ∧ o % 7 < R n) → G o = 0 := fun o ho h => by
    obtain ⟨e, hi, hj⟩ := at7 ho rfl rfl
    rw [hG o ho, if_neg (by omega), e]
    exact hout _ _ hi hj (by omega)
  have hB : Bd G := fun o ho => by
    by_cases hr : o / 7 < R n ∧ o % 7 < R n
    · have h2 := Gge _ _ hr.1 hr.2
      have h3 := (lo hr.1 hr.2).2
      have h4 := Gle o ho
      rw [show o / 7 * 7 + o % 7 = o by omega] at h2 h3
      omega
    · rw [Gout o ho hr]; omega
  have ci := clamp_id (G := G) (r := R n) (fun i hi => by have := Gle (i * 7) (by omega); have := h0 i hi; omega) (fun i hi => by have := Gle i (by omega); have := h1 i hi; omega)
  have cB := bd_clamp hB (R n)
  have P := fun m {i j k : Nat} (hi : i < R n) (hj : j < R n) (hk : k < R n) => rUp_path cB (m := m) hR.2.1 hi hj hk
  have M := fun {m m' : Nat} (h : m ≤ m') => rUp_le' cB (R n) h
  have F0 : ∀ o, rUp (clampTo G (R n)) (R n) 0 o = G o := fun o => ci o
  rcases hcs with ⟨e, hle⟩ | ⟨_, _, _, hlt, ⟨hno, e⟩ | ⟨hge, e⟩⟩
  · have hqa := hle hx hy rfl
    rw [e]
    refine cl_eq (C := f) hf hB (fun o ho h => by rw [ci]; exact Gout o ho h) (fun i j hi hj => ?_) (fun i j hi hj => ?_)
    · rw [ci]
      by_cases h : i = a ∧ j = b
      · obtain ⟨rfl, rfl⟩ := h; rw [hG _ (by omega), if_pos rfl]; omega
      · rw [Gne i j hi hj h]; exact Int.le_refl _
    · have h2 := M (Nat.zero_le (R n + 1)) (i * 7 + j) (by omega)
      rw [F0] at h2
      have := Gle (i * 7 + j) (by omega)
      omega
  · refine same_none ?_ hg (by rw [e])
    refine cl_none hB hb (m := 1) (by omega) ?_
    have p := P 0 hb hb ha
    rw [F0, F0] at p
    simp only [Nat.zero_add] at p
    have := Gle (b * 7 + a) (by omega)
    omega
  · rw [e] at hg ⊢
    refine cl_eq (C := fun o => if o / 7 < R n ∧ o % 7 < R n then near f a b q o else f o) hg hB (fun o ho h => by rw [ci]; exact Gout o ho h) (fun i j hi hj => ?_) (fun i j hi hj => ?_)
    · rw [ci, near_val hi hj]
      by_cases h : i = a ∧ j = b
      · obtain ⟨rfl, rfl⟩ := h
        have d1 := hd i ha
        have d2 := hd j hb
        rw [hG _ (by omega), if_pos rfl, d1, d2]; omega
      · rw [Gne i j hi hj h]; omega
    · rw [near_val hi hj]
      have p1 := P 0 hi hb ha
      have p2 := P 1 hi hj hb
      have m0 := M (show 2 ≤ R n + 1 by omega) (i * 7 + j) (by omega)
      have m1 := M (Nat.zero_le 2) (i * 7 + j) (by omega)
      have m2 := M (Nat.zero_le 1) (b * 7 + j) (by omega)
      rw [F0] at m1 m2
      rw [F0, F0] at p1
      simp only [Nat.zero_add, Nat.reduceAdd] at p1 p2
      have g1 := Gle (i * 7 + j) (by omega)
      have g2 := Gle (i * 7 + a) (by omega)
      have g3 := Gle (b * 7 + j) (by omega)
      have l1 := lo hi ha
      have l2 := lo hb hj
      have l3 := lo hi hj
      have l4 := lo ha hb
      omega
theorem cl_top (hn : 0 ≤ n ∧ n ≤ 6) (hG : ∀ o, o < 49 → G o = if o / 7 < R n ∧ o % 7 < R n ∧ o / 7 ≠ o % 7 then 1099511627776 else 0) : Same (clZ n (false, G)) (false, topF n) := by
  have hR := R_le n
  have ht : topN n = n := by unfold topN; omega
  have hg := good_top n
  have tv : ∀ i j, i < R n → j < R n → topF n (i * 7 + j) = if i = j then 0 else if j = 0 then 2147483647 else if i = 0 then 2147483648 else 4294967295 := fun i j hi hj => top_at (by rw [ht]; exact hi) (by rw [ht]; exact hj)
  rw [ht] at hg
  have hB : Bd G := fun o ho => by rw [hG o ho]; split <;> omega
  have cv : ∀ i j, i < R n → j < R n → clampTo G (R n) (i * 7 + j) = if i = j then 0 else if j = 0 then 2147483647 else if i = 0 then 2147483648 else 1099511627776 := fun i j hi hj => by
    have h7 := dm7 (k := i) (m := j) (by omega)
    rw [clamp_at hi hj hR.2.1, hG _ (by omega), h7.1, h7.2]
    (repeat' split) <;> omega
  have cB := bd_clamp hB (R n)
  refine cl_eq (C := topF n) hg hB (fun o ho h => ?_) (fun i j hi hj => ?_) (fun i j hi hj => ?_)
  · unfold clampTo
    rw [hG o ho, if_neg (show ¬ (o / 7 < R n ∧ o % 7 < R n ∧ o / 7 ≠ o % 7) by omega)]
    split
    · omega
    · split <;> omega
  · rw [cv i j hi hj, tv i j hi hj]; (repeat' split) <;> omega
  · rw [tv i j hi hj]
    have p := rUp_path cB (m := 0) hR.2.1 hi hj (show 0 < R n by omega)
    have m1 := rUp_le' cB (R n) (show 1 ≤ R n + 1 by omega) (i * 7 + j) (by omega)
    have m0 := rUp_le' cB (R n) (Nat.zero_le 1) (i * 7 + j) (by omega)
    have e0 : ∀ i j, i < R n → j < R n → rUp (clampTo G (R n)) (R n) 0 (i * 7 + j) = if i = j then 0 else if j = 0 then 2147483647 else if i = 0 then 2147483648 else 1099511627776 := cv
    rw [e0 i 0 hi (by omega), e0 0 j (by omega) hj] at p
    simp only [Nat.zero_add] at p
    rw [e0 i j hi hj] at m0
    by_cases h1 : i = j
    · rw [if_pos h1] at m0 ⊢; omega
    · rw [if_neg h1] at m0 ⊢
      by_cases h2 : j = 0
      · rw [if_pos h2] at m0 ⊢; omega
      · rw [if_neg h2] at m0 ⊢
        by_cases h3 : i = 0
        · rw [if_pos h3] at m0 ⊢; omega
        · rw [if_neg h3]
          rw [if_neg h3, if_neg (Ne.symm h2), if_neg h2] at p
          simp only [if_true] at p
          omega
theorem cl_fg (hf : Good n (false, f)) {x : Int} (hx : isVarP n x = true)
    (hG : ∀ o, o < 49 → G o = if o / 7 < R n ∧ o % 7 < R n ∧ ((o / 7 = (x + 1).toNat ∧ o % 7 ≠ (x + 1).toNat) ∨ (o % 7 = (x + 1).toNat ∧ o / 7 ≠ (x + 1).toNat)) then 1099511627776 else f o) : Same (clZ n (false, G)) (fgZ n x (false, f)) := by
  have hR := R_le n
  obtain ⟨ha, hax, ha1⟩ := isVar_R hx
  have hg := good_fg hf x
  have ev : ∀ o, (fgZ n x (false, f)).2 o = fgTo f (x + 1).toNat (R n) o := fun o => by
    show forgetF n false f x o = _
    unfold forgetF
    rw [if_neg (by rw [hx]; simp)]; rfl
  have e : fgZ n x (false, f) = (false, fgTo f (x + 1).toNat (R n)) := Prod.ext rfl (funext ev)
  rw [e] at hg ⊢
  generalize (x + 1).toNat = a at *
  have lo := fun {i j : Nat} (hi : i < R n) (hj : j < R n) => hf.low hi hj
  have h0 := hf.hi0
  have h1 := hf.hi1
  have hd := hf.diag
  have hout := hf.out
  dsimp only at lo h0 h1 hd hout
  have gv : ∀ i j, i < R n → j < R n → G (i * 7 + j) = if i = a ∧ j ≠ a ∨ j = a ∧ i ≠ a then 1099511627776 else f (i * 7 + j) := fun i j hi hj => by
    have h7 := dm7 (k := i) (m := j) (by omega)
    rw [hG _ (by omega), h7.1, h7.2]
    exact icg (by omega) rfl rfl
  have hB : Bd G := fun o ho => by
    obtain ⟨e, hi, hj⟩ := at7 ho rfl rfl
    rw [hG o ho]
    split
    · omega
    · by_cases hr : o / 7 < R n ∧ o % 7 < R n
      · have := lo hr.1 hr.2; rw [← e] at this; omega
      · rw [e, hout _ _ hi hj (by omega)]; omega
  have cB := bd_clamp hB (R n)
  have cv : ∀ i j, i < R n → j < R n → clampTo G (R n) (i * 7 + j) = if i = a ∧ j ≠ a then (if j = 0 then 2147483647 else 1099511627776) else if j = a ∧ i ≠ a then (if i = 0 then 2147483648 else 1099511627776) else f (i * 7 + j) := fun i j hi hj => by
    have b1 := h1 j hj
    have b0 := h0 i hi
    rw [clamp_at hi hj hR.2.1, gv i j hi hj]
    by_cases e1 : i = 0
    · subst e1
      rw [Nat.zero_mul, Nat.zero_add] at *
      (repeat' split) <;> omega
    · by_cases e2 : j = 0
      · subst e2
        rw [Nat.add_zero] at *
        (repeat' split) <;> omega
      · (repeat' split) <;> omega
  refine cl_eq (C := fgTo f a (R n)) hg hB (fun o ho h => ?_) (fun i j hi hj => ?_) (fun i j hi hj => ?_)
  · obtain ⟨e, hi, hj⟩ := at7 ho rfl rfl
    unfold clampTo
    rw [hG o ho, if_neg (show ¬ (o / 7 < R n ∧ o % 7 < R n ∧ ((o / 7 = a ∧ o % 7 ≠ a) ∨ (o % 7 = a ∧ o / 7 ≠ a))) by omega)]
    have z := hout _ _ hi hj (by omega)
    rw [← e] at z
    rw [z]
    split
    · omega
    · split <;> omega
  · rw [cv i j hi hj, fg_at hi hj hR.2.1]
    by_cases c1 : i = a ∧ j ≠ a
    · rw [if_pos c1, if_pos c1]
      have := h1 j hj
      split
      · rename_i h; have := hd 0 (by omega); rw [h]; simp only [Nat.zero_mul, Nat.add_zero] at this; omega
      · omega
    · rw [if_neg c1, if_neg c1]
      split
      · have := h0 i hi
        split
        · rename_i h; have := hd 0 (by omega); rw [h]; simp only [Nat.zero_mul, Nat.add_zero] at this ⊢; omega
        · omega
      · exact Int.le_refl _
  · rw [fg_at hi hj hR.2.1]
    have p := rUp_path cB (m := 0) hR.2.1 hi hj (show 0 < R n by omega)
    have m1 := rUp_le' cB (R n) (show 1 ≤ R n + 1 by omega) (i * 7 + j) (by omega)
    have m0 := rUp_le' cB (R n) (Nat.zero_le 1) (i * 7 + j) (by omega)
    have e0 : ∀ o, rUp (clampTo G (R n)) (R n) 0 o = clampTo G (R n) o := fun _ => rfl
    rw [e0, e0, cv i 0 hi (by omega), cv 0 j (by omega) hj] at p
    rw [e0, cv i j hi hj] at m0
    simp only [Nat.add_zero, Nat.zero_mul, Nat.zero_add, if_true] at p
    have l0 := lo hi (show 0 < R n by omega)
    have l1 := lo (show 0 < R n by omega) hj
    simp only [Nat.add_zero, Nat.zero_mul, Nat.zero_add] at l0 l1
    by_cases c1 : i = a ∧ j ≠ a
    · rw [if_pos c1]
      rw [if_pos ⟨c1.1, by omega⟩, if_neg (by omega), if_neg (by omega)] at p
      omega
    · rw [if_neg c1] at m0 ⊢
      by_cases c2 : j = a ∧ i ≠ a
      · rw [if_pos c2]
        rw [if_neg (by omega), if_neg (by omega), if_neg (by omega), if_pos ⟨c2.1, by omega⟩] at p
        omega
      · rw [if_neg c2] at m0 ⊢
        omega
end
end Go.Proofs.Ytefdfggkhnahiaa.Sx.Z
