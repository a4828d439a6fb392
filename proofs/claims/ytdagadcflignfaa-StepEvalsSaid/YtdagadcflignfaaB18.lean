/-
  Close behind a bound more, a variable that is forgotten, a copy: what the program's calls tell.; Close behind a copy: what the program's Copy tells.; Close behind a copy, or a shift: what the program's Copy tells.; The reference's Top, Bound, Forget, Copy: what the program's tell.; Numbers of variables, Zones: what the laws want of them.
-/
import Derived.Test.YtdagadcflignfaaB17
import Derived.Laws.Bits64
namespace Go.Proofs.Ytdagadcflignfaa.Sx.Z
open Go.RowKit
def Same (z w : Zs) : Prop := z.1 = w.1 ∧ ∀ o, o < 49 → z.2 o = w.2 o
theorem Same.tr {x y z : Zs} (h : Same x y) (k : Same y z) : Same x z := ⟨h.1.trans k.1, fun o ho => (h.2 o ho).trans (k.2 o ho)⟩
theorem Same.sy {x y : Zs} (h : Same x y) : Same y x := ⟨h.1.symm, fun o ho => (h.2 o ho).symm⟩
theorem clamp_id {G : Nat → Int} {r : Nat} (h0 : ∀ i, i < r → G (i * 7) ≤ 2147483647) (h1 : ∀ i, i < r → G i ≤ 2147483648) (o : Nat) : clampTo G r o = G o := by
  unfold clampTo
  split
  · rename_i h; have := h1 o h.2; omega
  · split
    · rename_i h; have := h0 (o / 7) h.2.1; rw [show o / 7 * 7 = o by omega] at this; omega
    · rfl
theorem clamp_at {G : Nat → Int} {r i j : Nat} (hi : i < r) (hj : j < r) (hr : r ≤ 7) : clampTo G r (i * 7 + j) = if i = 0 ∧ 1 ≤ j then min (G (i * 7 + j)) 2147483648 else if 1 ≤ i ∧ j = 0 then min (G (i * 7 + j)) 2147483647 else G (i * 7 + j) := by
  have h7 := dm7 (k := i) (m := j) (by omega)
  unfold clampTo
  rw [h7.1, h7.2]
  exact icg (by omega) rfl (icg (by omega) rfl rfl)
theorem same_none {n : Int} {z w : Zs} (hz : z = (true, fun _ => 0)) (g : Good n w) (h : w.1 = true) : Same z w := by
  rw [hz]; exact ⟨h.symm, fun o ho => (g.none h o ho).symm⟩
section
variable {n : Int} {f G : Nat → Int}
theorem cl_bnd (hf : Good n (false, f)) {x y q : Int} (hx : isEndP n x = true) (hy : isEndP n y = true) (hxy : x ≠ y) (hq : -4294967296 ≤ q)
    (hG : ∀ o, o < 49 → G o = if o = (x + 1).toNat * 7 + (y + 1).toNat then min (f o) q else f o) : Same (clZ n (false, G)) (bndZ n x y q (false, f)) := by
  have hR := R_le n
  obtain ⟨ha, hax⟩ := isEnd_R hx
  obtain ⟨hb, hbx⟩ := isEnd_R hy
  have hab : (x + 1).toNat ≠ (y + 1).toNat := by omega
  have hg := good_bnd hf x y q
  have hcs := bnd_cases n x y q (false, f)
  generalize (x + 1).toNat = a at *
  generalize (y + 1).toNat = b at *
  have lo := fun {i j : Nat} (hi : i < R n) (hj : j < R n) => hf.low hi hj
  have h0 := hf.hi0
  have h1 := hf.hi1
  have hd := hf.diag
  have hout := hf.out
  dsimp only at lo h0 h1 hd hcs hout
  have Gle : ∀ o, o < 49 → G o ≤ f o := fun o ho => by rw [hG o ho]; split <;> omega
  have Gab : G (a * 7 + b) ≤ q := by rw [hG _ (by omega), if_pos rfl]; omega
  have Gge : ∀ i j, i < R n → j < R n → -4294967296 ≤ G (i * 7 + j) := fun i j hi hj => by
    have := (lo hi hj).1
    rw [hG _ (by omega)]; split <;> omega
  have Gne : ∀ i j, i < R n → j < R n → ¬ (i = a ∧ j = b) → G (i * 7 + j) = f (i * 7 + j) := fun i j hi hj h => by
    rw [hG _ (by omega), if_neg (by omega)]
  have Gout : ∀ o, o < 49 → ¬ (o / 7 < R n ∧ o % 7 < R n) → G o = 0 := fun o ho h => by
    obtain ⟨e, hi, hj⟩ := at7 ho rfl rfl
    rw [hG o ho, if_neg (by omega), e]
    exact hout _ _ hi hj (by omega)
  have hB : Bd G := fun o ho => by
    by_cases hr : o / 7 < R n ∧ o % 7 < R n
    · have h2 := Gge _ _ hr.1 hr.2
      have h3 := (lo hr.1 hr.2).2
      have h4 := Gle o ho
      rw [show o / 7 * 7 + o % 7 = o by omega] at h2 h3
      omega
    · rw [Gout o ho hr]; omega
  have ci := clamp_id (G := G) (r := R n) (fun i hi => by have := Gle (i * 7) (by omega); have := h0 i hi; omega) (fun i hi => by have := Gle i (by omega); have := h1 i hi; omega)
  have cB := bd_clamp hB (R n)
  have P := fun m {i j k : Nat} (hi : i < R n) (hj : j < R n) (hk : k < R n) => rUp_path cB (m := m) hR.2.1 hi hj hk
  have M := fun {m m' : Nat} (h : m ≤ m') => rUp_le' cB (R n) h
  have F0 : ∀ o, rUp (clampTo G (R n)) (R n) 0 o = G o := fun o => ci o
  rcases hcs with ⟨e, hle⟩ | ⟨_, _, _, hlt, ⟨hno, e⟩ | ⟨hge, e⟩⟩
  · have hqa := hle hx hy rfl
    rw [e]
    refine cl_eq (C := f) hf hB (fun o ho h => by rw [ci]; exact Gout o ho h) (fun i j hi hj => ?_) (fun i j hi hj => ?_)
    · rw [ci]
      by_cases h : i = a ∧ j = b
      · obtain ⟨rfl, rfl⟩ := h; rw [hG _ (by omega), if_pos rfl]; omega
      · rw [Gne i j hi hj h]; exact Int.le_refl _
    · have h2 := M (Nat.zero_le (R n + 1)) (i * 7 + j) (by omega)
      rw [F0] at h2
      have := Gle (i * 7 + j) (by omega)
      omega
  · refine same_none ?_ hg (by rw [e])
    refine cl_none hB hb (m := 1) (by omega) ?_
    have p := P 0 hb hb ha
    rw [F0, F0] at p
    simp only [Nat.zero_add] at p
    have := Gle (b * 7 + a) (by omega)
    omega
  · rw [e] at hg ⊢
    refine cl_eq (C := fun o => if o / 7 < R n ∧ o % 7 < R n then near f a b q o else f o) hg hB (fun o ho h => by rw [ci]; exact Gout o ho h) (fun i j hi hj => ?_) (fun i j hi hj => ?_)
    · rw [ci, near_val hi hj]
      by_cases h : i = a ∧ j = b
      · obtain ⟨rfl, rfl⟩ := h
        have d1 := hd i ha
        have d2 := hd j hb
        rw [hG _ (by omega), if_pos rfl, d1, d2]; omega
      · rw [Gne i j hi hj h]; omega
    · rw [near_val hi hj]
      have p1 := P 0 hi hb ha
      have p2 := P 1 hi hj hb
      have m0 := M (show 2 ≤ R n + 1 by omega) (i * 7 + j) (by omega)
      have m1 := M (Nat.zero_le 2) (i * 7 + j) (by omega)
      have m2 := M (Nat.zero_le 1) (b * 7 + j) (by omega)
      rw [F0] at m1 m2
      rw [F0, F0] at p1
      simp only [Nat.zero_add, Nat.reduceAdd] at p1 p2
      have g1 := Gle (i * 7 + j) (by omega)
      have g2 := Gle (i * 7 + a) (by omega)
      have g3 := Gle (b * 7 + j) (by omega)
      have l1 := lo hi ha
      have l2 := lo hb hj
      have l3 := lo hi hj
      have l4 := lo ha hb
      omega
theorem cl_top (hn : 0 ≤ n ∧ n ≤ 6) (hG : ∀ o, o < 49 → G o = if o / 7 < R n ∧ o % 7 < R n ∧ o / 7 ≠ o % 7 then 1099511627776 else 0) : Same (clZ n (false, G)) (false, topF n) := by
  have hR := R_le n
  have ht : topN n = n := by unfold topN; omega
  have hg := good_top n
  have tv : ∀ i j, i < R n → j < R n → topF n (i * 7 + j) = if i = j then 0 else if j = 0 then 2147483647 else if i = 0 then 2147483648 else 4294967295 := fun i j hi hj => top_at (by rw [ht]; exact hi) (by rw [ht]; exact hj)
  rw [ht] at hg
  have hB : Bd G := fun o ho => by rw [hG o ho]; split <;> omega
  have cv : ∀ i j, i < R n → j < R n → clampTo G (R n) (i * 7 + j) = if i = j then 0 else if j = 0 then 2147483647 else if i = 0 then 2147483648 else 1099511627776 := fun i j hi hj => by
    have h7 := dm7 (k := i) (m := j) (by omega)
    rw [clamp_at hi hj hR.2.1, hG _ (by omega), h7.1, h7.2]
    (repeat' split) <;> omega
  have cB := bd_clamp hB (R n)
  refine cl_eq (C := topF n) hg hB (fun o ho h => ?_) (fun i j hi hj => ?_) (fun i j hi hj => ?_)
  · unfold clampTo
    rw [hG o ho, if_neg (show ¬ (o / 7 < R n ∧ o % 7 < R n ∧ o / 7 ≠ o % 7) by omega)]
    split
    · omega
    · split <;> omega
  · rw [cv i j hi hj, tv i j hi hj]; (repeat' split) <;> omega
  · rw [tv i j hi hj]
    have p := rUp_path cB (m := 0) hR.2.1 hi hj (show 0 < R n by omega)
    have m1 := rUp_le' cB (R n) (show 1 ≤ R n + 1 by omega) (i * 7 + j) (by omega)
    have m0 := rUp_le' cB (R n) (Nat.zero_le 1) (i * 7 + j) (by omega)
    have e0 : ∀ i j, i < R n → j < R n → rUp (clampTo G (R n)) (R n) 0 (i * 7 + j) = if i = j then 0 else if j = 0 then 2147483647 else if i = 0 then 2147483648 else 1099511627776 := cv
    rw [e0 i 0 hi (by omega), e0 0 j (by omega) hj] at p
    simp only [Nat.zero_add] at p
    rw [e0 i j hi hj] at m0
    by_cases h1 : i = j
    · rw [if_pos h1] at m0 ⊢; omega
    · rw [if_neg h1] at m0 ⊢
      by_cases h2 : j = 0
      · rw [if_pos h2] at m0 ⊢; omega
      · rw [if_neg h2] at m0 ⊢
        by_cases h3 : i = 0
        · rw [if_pos h3] at m0 ⊢; omega
        · rw [if_neg h3]
          rw [if_neg h3, if_neg (Ne.symm h2), if_neg h2] at p
          simp only [if_true] at p
          omega
theorem cl_fg (hf : Good n (false, f)) {x : Int} (hx : isVarP n x = true)
    (hG : ∀ o, o < 49 → G o = if o / 7 < R n ∧ o % 7 < R n ∧ ((o / 7 = (x + 1).toNat ∧ o % 7 ≠ (x + 1).toNat) ∨ (o % 7 = (x + 1).toNat ∧ o / 7 ≠ (x + 1).toNat)) then 1099511627776 else f o) : Same (clZ n (false, G)) (fgZ n x (false, f)) := by
  have hR := R_le n
  obtain ⟨ha, hax, ha1⟩ := isVar_R hx
  have hg := good_fg hf x
  have ev : ∀ o, (fgZ n x (false, f)).2 o = fgTo f (x + 1).toNat (R n) o := fun o => by
    show forgetF n false f x o = _
    unfold forgetF
    rw [if_neg (by rw [hx]; simp)]; rfl
  have e : fgZ n x (false, f) = (false, fgTo f (x + 1).toNat (R n)) := Prod.ext rfl (funext ev)
  rw [e] at hg ⊢
  generalize (x + 1).toNat = a at *
  have lo := fun {i j : Nat} (hi : i < R n) (hj : j < R n) => hf.low hi hj
  have h0 := hf.hi0
  have h1 := hf.hi1
  have hd := hf.diag
  have hout := hf.out
  dsimp only at lo h0 h1 hd hout
  have gv : ∀ i j, i < R n → j < R n → G (i * 7 + j) = if i = a ∧ j ≠ a ∨ j = a ∧ i ≠ a then 1099511627776 else f (i * 7 + j) := fun i j hi hj => by
    have h7 := dm7 (k := i) (m := j) (by omega)
    rw [hG _ (by omega), h7.1, h7.2]
    exact icg (by omega) rfl rfl
  have hB : Bd G := fun o ho => by
    obtain ⟨e, hi, hj⟩ := at7 ho rfl rfl
    rw [hG o ho]
    split
    · omega
    · by_cases hr : o / 7 < R n ∧ o % 7 < R n
      · have := lo hr.1 hr.2; rw [← e] at this; omega
      · rw [e, hout _ _ hi hj (by omega)]; omega
  have cB := bd_clamp hB (R n)
  have cv : ∀ i j, i < R n → j < R n → clampTo G (R n) (i * 7 + j) = if i = a ∧ j ≠ a then (if j = 0 then 2147483647 else 1099511627776) else if j = a ∧ i ≠ a then (if i = 0 then 2147483648 else 1099511627776) else f (i * 7 + j) := fun i j hi hj => by
    have b1 := h1 j hj
    have b0 := h0 i hi
    rw [clamp_at hi hj hR.2.1, gv i j hi hj]
    by_cases e1 : i = 0
    · subst e1
      rw [Nat.zero_mul, Nat.zero_add] at *
      (repeat' split) <;> omega
    · by_cases e2 : j = 0
      · subst e2
        rw [Nat.add_zero] at *
        (repeat' split) <;> omega
      · (repeat' split) <;> omega
  refine cl_eq (C := fgTo f a (R n)) hg hB (fun o ho h => ?_) (fun i j hi hj => ?_) (fun i j hi hj => ?_)
  · obtain ⟨e, hi, hj⟩ := at7 ho rfl rfl
    unfold clampTo
    rw [hG o ho, if_neg (show ¬ (o / 7 < R n ∧ o % 7 < R n ∧ ((o / 7 = a ∧ o % 7 ≠ a) ∨ (o % 7 = a ∧ o / 7 ≠ a))) by omega)]
    have z := hout _ _ hi hj (by omega)
    rw [← e] at z
    rw [z]
    split
    · omega
    · split <;> omega
  · rw [cv i j hi hj, fg_at hi hj hR.2.1]
    by_cases c1 : i = a ∧ j ≠ a
    · rw [if_pos c1, if_pos c1]
      have := h1 j hj
      split
      · rename_i h; have := hd 0 (by omega); rw [h]; simp only [Nat.zero_mul, Nat.add_zero] at this; omega
      · omega
    · rw [if_neg c1, if_neg c1]
      split
      · have := h0 i hi
        split
        · rename_i h; have := hd 0 (by omega); rw [h]; simp only [Nat.zero_mul, Nat.add_zero] at this ⊢; omega
        · omega
      · exact Int.le_refl _
  · rw [fg_at hi hj hR.2.1]
    have p := rUp_path cB (m := 0) hR.2.1 hi hj (show 0 < R n by omega)
    have m1 := rUp_le' cB (R n) (show 1 ≤ R n + 1 by omega) (i * 7 + j) (by omega)
    have m0 := rUp_le' cB (R n) (Nat.zero_le 1) (i * 7 + j) (by omega)
    have e0 : ∀ o, rUp (clampTo G (R n)) (R n) 0 o = clampTo G (R n) o := fun _ => rfl
    rw [e0, e0, cv i 0 hi (by omega), cv 0 j (by omega) hj] at p
    rw [e0, cv i j hi hj] at m0
    simp only [Nat.add_zero, Nat.zero_mul, Nat.zero_add, if_true] at p
    have l0 := lo hi (show 0 < R n by omega)
    have l1 := lo (show 0 < R n by omega) hj
    simp only [Nat.add_zero, Nat.zero_mul, Nat.zero_add] at l0 l1
    by_cases c1 : i = a ∧ j ≠ a
    · rw [if_pos c1]
      rw [if_pos ⟨c1.1, by omega⟩, if_neg (by omega), if_neg (by omega)] at p
      omega
    · rw [if_neg c1] at m0 ⊢
      by_cases c2 : j = a ∧ i ≠ a
      · rw [if_pos c2]
        rw [if_neg (by omega), if_neg (by omega), if_neg (by omega), if_pos ⟨c2.1, by omega⟩] at p
        omega
      · rw [if_neg c2] at m0 ⊢
        omega
end
end Go.Proofs.Ytdagadcflignfaa.Sx.Z
namespace Go.Proofs.Ytdagadcflignfaa.Sx.Z
open Go.RowKit
section
variable {n : Int} {f G : Nat → Int}
theorem cp2_val (hf : Good n (false, f)) {y q : Int} (hy : isEndP n y = true) :
    ((cp2 n y q (false, f)).1 = true ∧ (f (y + 1).toNat < q - 2147483647 ∨ f ((y + 1).toNat * 7) + q + 2147483648 < 0)) ∨
    ((cp2 n y q (false, f)).1 = false ∧ ∀ i j, i < R n → j < R n → (f (i * 7 + j) ≤ (cp2 n y q (false, f)).2 (i * 7 + j) ∨ f (i * 7 + (y + 1).toNat) + (2147483647 - q) + f j ≤ (cp2 n y q (false, f)).2 (i * 7 + j) ∨ f (i * 7) + (q + 2147483648) + f ((y + 1).toNat * 7 + j) ≤ (cp2 n y q (false, f)).2 (i * 7 + j))) := by
  have hR := R_le n
  have e0 : ((-1 : Int) + 1).toNat = 0 := rfl
  obtain ⟨hb, _⟩ := isEnd_R hy
  have ht := hf.tri
  have hd := hf.diag
  dsimp only at ht hd
  unfold cp2
  have c1 := bnd_cases n y (-1) (2147483647 - q) (false, f)
  rw [e0] at c1
  generalize hbe : (y + 1).toNat = b at *
  rcases c1 with ⟨e1, _⟩ | ⟨_, _, _, hlt, ⟨hno, e1⟩ | ⟨hge, e1⟩⟩ <;> rw [e1]
  · have c2 := bnd_cases n (-1) y (q + 2147483648) (false, f)
    rw [e0, hbe] at c2
    rcases c2 with ⟨e2, _⟩ | ⟨_, _, _, hlt2, ⟨hno2, e2⟩ | ⟨hge2, e2⟩⟩ <;> rw [e2]
    · exact .inr ⟨rfl, fun i j hi hj => .inl (Int.le_refl _)⟩
    · refine .inl ⟨rfl, .inr ?_⟩
      dsimp only at hno2
      rw [Nat.add_zero] at hno2
      omega
    · refine .inr ⟨rfl, fun i j hi hj => ?_⟩
      dsimp only
      rw [near_val hi hj]
      rw [Nat.add_zero]
      omega
  · rcases bnd_cases n (-1) y (q + 2147483648) (true, fun _ => 0) with ⟨e2, _⟩ | ⟨h, _⟩
    · rw [e2]
      refine .inl ⟨rfl, .inl ?_⟩
      dsimp only at hno
      rw [Nat.zero_mul, Nat.zero_add] at hno
      omega
    · cases h
  · have nv := fun {i j : Nat} (hi : i < R n) (hj : j < R n) => near_val (n := n) (f := f) (a := b) (b := 0) (q := 2147483647 - q) hi hj
    have c2 := bnd_cases n (-1) y (q + 2147483648) (false, fun o => if o / 7 < R n ∧ o % 7 < R n then near f b 0 (2147483647 - q) o else f o)
    rw [e0, hbe] at c2
    dsimp only at c2
    have z0 : 0 < R n := by omega
    rcases c2 with ⟨e2, _⟩ | ⟨_, _, _, hlt2, ⟨hno2, e2⟩ | ⟨hge2, e2⟩⟩ <;> rw [e2]
    · refine .inr ⟨rfl, fun i j hi hj => ?_⟩
      dsimp only
      rw [nv hi hj]
      simp only [Nat.zero_mul, Nat.zero_add]
      omega
    · refine .inl ⟨rfl, .inr ?_⟩
      rw [nv hb z0] at hno2
      have d1 := hd b hb
      have d2 := hd 0 z0
      simp only [Nat.zero_mul, Nat.zero_add, Nat.add_zero] at hno2 d2
      omega
    · refine .inr ⟨rfl, fun i j hi hj => ?_⟩
      dsimp only
      rw [near_val hi hj, nv hi hj, nv hi z0, nv hb hj]
      have t1 := ht i j b hi hj hb
      have t2 := ht i j 0 hi hj z0
      have d1 := hd b hb
      have d2 := hd 0 z0
      unfold Z.tri at t1 t2
      simp only [Nat.zero_mul, Nat.zero_add, Nat.add_zero] at t2 d2 ⊢
      omega
/-- A copy's bounds: those of the others, and the copy's at a distance. -/
def cpC (g : Nat → Int) (a b : Nat) (q : Int) (r : Nat) (o : Nat) : Int := if o / 7 < r ∧ o % 7 < r then (if o / 7 = a then (if o % 7 = a then 0 else q + g (b * 7 + o % 7)) else if o % 7 = a then g (o / 7 * 7 + b) - q else g o) else 0
theorem cpC_at {g : Nat → Int} {a b r i j : Nat} {q : Int} (hi : i < r) (hj : j < r) (hr : r ≤ 7) : cpC g a b q r (i * 7 + j) = if i = a then (if j = a then 0 else q + g (b * 7 + j)) else if j = a then g (i * 7 + b) - q else g (i * 7 + j) := by
  have h7 := dm7 (k := i) (m := j) (by omega)
  unfold cpC
  rw [h7.1, h7.2, if_pos ⟨hi, hj⟩]
theorem cp_same (hf : Good n (false, f)) {x y q : Int} (hx : isVarP n x = true) (hy : isEndP n y = true) (hxy : x ≠ y) (hq : -2147483648 ≤ q ∧ q ≤ 2147483647) (hc : (cp2 n y q (false, f)).1 = false) :
    Good n (false, cpC (cp2 n y q (false, f)).2 (x + 1).toNat (y + 1).toNat q (R n)) ∧ Same (false, cpC (cp2 n y q (false, f)).2 (x + 1).toNat (y + 1).toNat q (R n)) (copyZ n x y q (false, f)) := by
  have hR := R_le n
  obtain ⟨ha, hax, ha1⟩ := isVar_R hx
  obtain ⟨hb, hbx⟩ := isEnd_R hy
  have hab : (x + 1).toNat ≠ (y + 1).toNat := by omega
  have g2 := cp2_good hf y q
  have l2 := cp2_le hf hy hc
  have g3 := good_fg g2 x
  have hcp := good_copy hf x y q
  have ecp : copyZ n x y q (false, f) = bndZ n y x (0 - q) (bndZ n x y q (fgZ n x (cp2 n y q (false, f)))) := by
    unfold copyZ
    rw [if_neg (by rw [hx, hy]; simp), if_neg (by
      have h1 : decide (q > 1099511627776) = false := decide_eq_false (by omega)
      have h2 : decide (q < -1099511627776) = false := decide_eq_false (by omega)
      rw [h1, h2]; simp), if_neg (by simpa using hxy)]
  have efg : ∀ i j, i < R n → j < R n → (fgZ n x (cp2 n y q (false, f))).2 (i * 7 + j) = fgTo (cp2 n y q (false, f)).2 (x + 1).toNat (R n) (i * 7 + j) := fun i j hi hj => by
    show forgetF n _ _ x _ = _
    unfold forgetF
    rw [if_neg (by rw [hc, hx]; simp)]; rfl
  have hpt : ∀ v, Pt n (copyZ n x y q (false, f)) v ↔ Pt n (fgZ n x (cp2 n y q (false, f))) v ∧ v (x + 1).toNat - v (y + 1).toNat ≤ q ∧ v (y + 1).toNat - v (x + 1).toNat ≤ 0 - q := fun v => by
    rw [ecp, bnd_pt (good_bnd g3 x y q) hy (isVar_end hx), bnd_pt g3 (isVar_end hx) hy]
    exact ⟨fun h => ⟨h.1.1, h.1.2, h.2⟩, fun h => ⟨⟨h.1, h.2.1⟩, h.2.2⟩⟩
  have ffst : (fgZ n x (cp2 n y q (false, f))).1 = false := hc
  generalize cp2 n y q (false, f) = z at *
  generalize fgZ n x z = w at *
  obtain ⟨c, g⟩ := z
  dsimp only at hc l2 efg
  subst hc
  generalize (x + 1).toNat = a at *
  generalize (y + 1).toNat = b at *
  have ht := g2.tri
  have hd := g2.diag
  have h0 := g2.hi0
  have h1 := g2.hi1
  dsimp only at ht hd h0 h1
  have z0 : 0 < R n := by omega
  have G : Good n (false, cpC g a b q (R n)) := by
    refine ⟨g2.n0, fun i j hi hj ho => ?_, fun i hi => ?_, fun i j k hi hj hk => ?_, fun i hi => ?_, fun i hi => ?_, fun h => by cases h⟩
    · have h7 := dm7 (k := i) (m := j) hj
      show cpC g a b q (R n) (i * 7 + j) = 0
      unfold cpC
      rw [h7.1, h7.2, if_neg (by omega)]
    · show cpC g a b q (R n) (i * 7 + i) = 0
      rw [cpC_at hi hi hR.2.1]
      split
      · rfl
      · exact hd i hi
    · show cpC g a b q (R n) (i * 7 + j) ≤ cpC g a b q (R n) (i * 7 + k) + cpC g a b q (R n) (k * 7 + j)
      rw [cpC_at hi hj hR.2.1, cpC_at hi hk hR.2.1, cpC_at hk hj hR.2.1]
      have t0 := ht i j k hi hj hk
      have t1 := ht b j k hb hj hk
      have t2 := ht i b k hi hb hk
      have t3 := ht i j b hi hj hb
      have t4 := ht b b k hb hb hk
      have d1 := hd b hb
      unfold Z.tri at t0 t1 t2 t3 t4
      (repeat' split) <;> omega
    · have e := cpC_at (g := g) (a := a) (b := b) (q := q) hi z0 hR.2.1
      rw [Nat.add_zero] at e
      show cpC g a b q (R n) (i * 7) ≤ _
      rw [e]
      have := h0 i hi
      have := l2.1
      rw [Nat.add_zero]
      (repeat' split) <;> omega
    · have e := cpC_at (g := g) (a := a) (b := b) (q := q) z0 hi hR.2.1
      rw [Nat.zero_mul, Nat.zero_add] at e
      show cpC g a b q (R n) i ≤ _
      rw [e]
      have := h1 i hi
      have := l2.2
      simp only [Nat.zero_add]
      (repeat' split) <;> omega
  refine ⟨G, good_ext G hcp fun v => ?_⟩
  rw [hpt v]
  have fv : ∀ i j, i < R n → j < R n → w.2 (i * 7 + j) = if i = a ∧ j ≠ a then 2147483647 + g j else if j = a ∧ i ≠ a then g (i * 7) + 2147483648 else g (i * 7 + j) := fun i j hi hj => (efg i j hi hj).trans (fg_at hi hj hR.2.1)
  constructor
  · rintro ⟨_, v0, hp⟩
    have hp' : ∀ i j, i < R n → j < R n → v i - v j ≤ if i = a then (if j = a then 0 else q + g (b * 7 + j)) else if j = a then g (i * 7 + b) - q else g (i * 7 + j) := fun i j hi hj => by
      have := hp i j hi hj
      dsimp only at this
      rwa [cpC_at hi hj hR.2.1] at this
    have pab := hp' a b ha hb
    have pba := hp' b a hb ha
    have db := hd b hb
    rw [if_pos rfl, if_neg (Ne.symm hab), db] at pab
    rw [if_neg (Ne.symm hab), if_pos rfl, db] at pba
    refine ⟨⟨ffst, v0, fun i j hi hj => ?_⟩, by omega, by omega⟩
    rw [fv i j hi hj]
    have pij := hp' i j hi hj
    by_cases c1 : i = a ∧ j ≠ a
    · rw [if_pos c1]
      have p1 := hp' b 0 hb z0
      have p2 := hp' 0 j z0 hj
      rw [if_neg (Ne.symm hab), if_neg (by omega)] at p1
      rw [if_neg (by omega), if_neg c1.2] at p2
      rw [Nat.add_zero] at p1
      rw [Nat.zero_mul, Nat.zero_add] at p2
      rw [c1.1]
      have := l2.1
      omega
    · rw [if_neg c1]
      by_cases c2 : j = a ∧ i ≠ a
      · rw [if_pos c2]
        have p1 := hp' 0 b z0 hb
        have p2 := hp' i 0 hi z0
        rw [if_neg (by omega), if_neg (Ne.symm hab)] at p1
        rw [if_neg c2.2, if_neg (by omega)] at p2
        rw [Nat.add_zero] at p2
        rw [Nat.zero_mul, Nat.zero_add] at p1
        rw [c2.1]
        have := l2.2
        omega
      · rw [if_neg c2]
        by_cases c3 : i = a
        · have c4 : j = a := by omega
          rw [c3, c4, hd a ha]; omega
        · rw [if_neg c3, if_neg (by omega)] at pij
          exact pij
  · rintro ⟨⟨_, v0, hp⟩, q1, q2⟩
    have hp' : ∀ i j, i < R n → j < R n → v i - v j ≤ if i = a ∧ j ≠ a then 2147483647 + g j else if j = a ∧ i ≠ a then g (i * 7) + 2147483648 else g (i * 7 + j) := fun i j hi hj => by
      have := hp i j hi hj
      rwa [fv i j hi hj] at this
    refine ⟨rfl, v0, fun i j hi hj => ?_⟩
    dsimp only
    rw [cpC_at hi hj hR.2.1]
    by_cases c1 : i = a
    · rw [if_pos c1]
      by_cases c2 : j = a
      · rw [if_pos c2, c1, c2]; omega
      · rw [if_neg c2]
        have p := hp' b j hb hj
        rw [if_neg (by omega), if_neg (by omega)] at p
        rw [c1]; omega
    · rw [if_neg c1]
      by_cases c2 : j = a
      · rw [if_pos c2]
        have p := hp' i b hi hb
        rw [if_neg (by omega), if_neg (by omega)] at p
        rw [c2]; omega
      · rw [if_neg c2]
        have p := hp' i j hi hj
        rw [if_neg (by omega), if_neg (by omega)] at p
        exact p
end
end Go.Proofs.Ytdagadcflignfaa.Sx.Z
namespace Go.Proofs.Ytdagadcflignfaa.Sx.Z
open Go.RowKit
theorem bnd_none {n x y b : Int} {z : Zs} (h : z.1 = true) : bndZ n x y b z = z := by
  rcases bnd_cases n x y b z with ⟨e, _⟩ | ⟨hc, _⟩
  · exact e
  · rw [h] at hc; cases hc
theorem cp2_mono {n : Int} {z : Zs} (h : Good n z) {y b : Int} (hy : isEndP n y = true) (hc : (cp2 n y b z).1 = false) {i j : Nat} (hi : i < R n) (hj : j < R n) : (cp2 n y b z).2 (i * 7 + j) ≤ z.2 (i * 7 + j) :=
  Int.le_trans (bnd_mono (good_bnd h _ _ _) (isEnd_nought n) hy hc hi hj) (bnd_mono h hy (isEnd_nought n) (bnd_some hc) hi hj)
section
variable {n : Int} {f G : Nat → Int}
theorem cl_cp (hf : Good n (false, f)) {x y q : Int} (hx : isVarP n x = true) (hy : isEndP n y = true) (hxy : x ≠ y) (hq : -2147483648 ≤ q ∧ q ≤ 2147483647)
    (hG : ∀ o, o < 49 → G o = if o = (x + 1).toNat * 7 + (y + 1).toNat then q else if o = (y + 1).toNat * 7 + (x + 1).toNat then 0 - q else (fgZ n x (false, f)).2 o) : Same (clZ n (false, G)) (copyZ n x y q (false, f)) := by
  have hR := R_le n
  obtain ⟨ha, hax, ha1⟩ := isVar_R hx
  obtain ⟨hb, hbx⟩ := isEnd_R hy
  have hab : (x + 1).toNat ≠ (y + 1).toNat := by omega
  have hcp := good_copy hf x y q
  have hcv := cp2_val hf (q := q) hy
  have hcs := cp_same hf hx hy hxy hq
  have g2 := cp2_good hf y q
  have l2 := cp2_le (b := q) hf hy
  have mo := fun hc => fun {i j : Nat} (hi : i < R n) (hj : j < R n) => cp2_mono (b := q) hf hy hc hi hj
  have gfg := good_fg hf x
  have ecp : copyZ n x y q (false, f) = bndZ n y x (0 - q) (bndZ n x y q (fgZ n x (cp2 n y q (false, f)))) := by
    unfold copyZ
    rw [if_neg (by rw [hx, hy]; simp), if_neg (by
      have h1 : decide (q > 1099511627776) = false := decide_eq_false (by omega)
      have h2 : decide (q < -1099511627776) = false := decide_eq_false (by omega)
      rw [h1, h2]; simp), if_neg (by simpa using hxy)]
  have ev : ∀ o, (fgZ n x (false, f)).2 o = fgTo f (x + 1).toNat (R n) o := fun o => by
    show forgetF n false f x o = _
    unfold forgetF
    rw [if_neg (by rw [hx]; simp)]; rfl
  have efg : fgZ n x (false, f) = (false, fgTo f (x + 1).toNat (R n)) := Prod.ext rfl (funext ev)
  rw [efg] at hG gfg
  dsimp only at hG
  clear ev efg
  generalize cp2 n y q (false, f) = z at *
  generalize (x + 1).toNat = a at *
  generalize (y + 1).toNat = b at *
  have z0 : 0 < R n := by omega
  have lo := fun {i j : Nat} (hi : i < R n) (hj : j < R n) => hf.low hi hj
  have h0 := hf.hi0
  have h1 := hf.hi1
  have hd := hf.diag
  have ht := hf.tri
  have fout := gfg.out
  have flo := fun {i j : Nat} (hi : i < R n) (hj : j < R n) => gfg.low hi hj
  dsimp only at lo h0 h1 hd ht fout flo
  have gv : ∀ i j, i < R n → j < R n → G (i * 7 + j) = if i = a ∧ j = b then q else if i = b ∧ j = a then 0 - q else if i = a ∧ j ≠ a then 2147483647 + f j else if j = a ∧ i ≠ a then f (i * 7) + 2147483648 else f (i * 7 + j) := fun i j hi hj => by
    rw [hG _ (by omega), fg_at hi hj hR.2.1]
    exact icg (by omega) rfl (icg (by omega) rfl rfl)
  have hB : Bd G := fun o ho => by
    obtain ⟨e, hi, hj⟩ := at7 ho rfl rfl
    rw [hG o ho]
    by_cases hr : o / 7 < R n ∧ o % 7 < R n
    · have := flo hr.1 hr.2; rw [← e] at this; (repeat' split) <;> omega
    · have := fout _ _ hi hj (by omega); rw [← e] at this; (repeat' split) <;> omega
  have ci := clamp_id (G := G) (r := R n) (fun i hi => by
      have := gv i 0 hi z0
      rw [Nat.add_zero] at this
      have := h0 i hi
      have := hd 0 z0
      rw [Nat.zero_mul, Nat.zero_add] at this
      (repeat' split at *) <;> omega) (fun i hi => by
      have := gv 0 i z0 hi
      rw [Nat.zero_mul, Nat.zero_add] at this
      have := h1 i hi
      have := hd 0 z0
      rw [Nat.zero_mul, Nat.zero_add] at this
      (repeat' split at *) <;> omega)
  have cB := bd_clamp hB (R n)
  have P := fun m {i j k : Nat} (hi : i < R n) (hj : j < R n) (hk : k < R n) => rUp_path cB (m := m) hR.2.1 hi hj hk
  have M := fun {m m' : Nat} (h : m ≤ m') => rUp_le' cB (R n) h
  have F0 : ∀ o, rUp (clampTo G (R n)) (R n) 0 o = G o := fun o => ci o
  have gab : G (a * 7 + b) = q := by rw [gv a b ha hb, if_pos ⟨rfl, rfl⟩]
  have gba : G (b * 7 + a) = 0 - q := by rw [gv b a hb ha, if_neg (by omega), if_pos ⟨rfl, rfl⟩]
  have d00 := hd 0 z0
  have dbb := hd b hb
  rw [Nat.zero_mul, Nat.zero_add] at d00
  have ga0 : G (a * 7 + 0) ≤ 2147483647 := by
    rw [gv a 0 ha z0]
    (repeat' split) <;> omega
  have g0a : G (0 * 7 + a) ≤ 2147483648 := by
    rw [gv 0 a z0 ha]
    have := h1 a ha
    simp only [Nat.zero_mul, Nat.zero_add, d00]
    (repeat' split) <;> omega
  have gin : ∀ i j, i < R n → j < R n → i ≠ a → j ≠ a → G (i * 7 + j) = f (i * 7 + j) := fun i j hi hj h2 h3 => by
    rw [gv i j hi hj, if_neg (by omega), if_neg (by omega), if_neg (by omega), if_neg (by omega)]
  -- rounds
  have A1 : ∀ i, i < R n → i ≠ a → rUp (clampTo G (R n)) (R n) 1 (i * 7 + a) ≤ max (f (i * 7 + b) - q) (-35184372088832) ∧ rUp (clampTo G (R n)) (R n) 1 (i * 7 + a) ≤ max (f (i * 7) + 2147483648) (-35184372088832) := fun i hi hia => by
    have p1 := P 0 hi ha hb
    have p2 := P 0 hi ha z0
    rw [F0, F0, gin i b hi hb hia (Ne.symm hab), gba] at p1
    rw [F0, F0, gin i 0 hi z0 hia (by omega)] at p2
    simp only [Nat.zero_add] at p1 p2
    rw [Nat.add_zero] at p2
    rw [Nat.zero_mul, Nat.zero_add] at p2
    rw [Nat.zero_mul, Nat.zero_add] at g0a
    omega
  have A2 : ∀ j, j < R n → j ≠ a → rUp (clampTo G (R n)) (R n) 1 (a * 7 + j) ≤ max (2147483647 + f j) (-35184372088832) ∧ rUp (clampTo G (R n)) (R n) 1 (a * 7 + j) ≤ max (q + f (b * 7 + j)) (-35184372088832) := fun j hj hja => by
    have p1 := P 0 ha hj z0
    have p2 := P 0 ha hj hb
    rw [F0, F0, gin 0 j z0 hj (by omega) hja] at p1
    rw [F0, F0, gab, gin b j hb hj (Ne.symm hab) hja] at p2
    simp only [Nat.zero_add] at p1 p2
    rw [Nat.zero_mul, Nat.zero_add] at p1
    omega
  have A3 : ∀ i j, i < R n → j < R n → i ≠ a → j ≠ a → rUp (clampTo G (R n)) (R n) 2 (i * 7 + j) ≤ max (rUp (clampTo G (R n)) (R n) 1 (i * 7 + a) + rUp (clampTo G (R n)) (R n) 1 (a * 7 + j)) (-35184372088832) ∧ rUp (clampTo G (R n)) (R n) 2 (i * 7 + j) ≤ f (i * 7 + j) := fun i j hi hj h2 h3 => by
    have p1 := P 1 hi hj ha
    have m := M (Nat.zero_le 2) (i * 7 + j) (by omega)
    rw [F0, gin i j hi hj h2 h3] at m
    exact ⟨p1, m⟩
  rcases hcv with ⟨hn, hw⟩ | ⟨hs, hv⟩
  · -- nothing is left
    have e1 : (copyZ n x y q (false, f)).1 = true := by
      rw [ecp]
      have e3 : (fgZ n x z).1 = true := hn
      rw [bnd_none (z := fgZ n x z) e3, bnd_none e3]; exact e3
    refine same_none ?_ hcp e1
    rcases hw with hw | hw
    · by_cases hb0 : b = 0
      · exfalso; rw [hb0, d00] at hw; omega
      · have a1 := A3 b b hb hb (Ne.symm hab) (Ne.symm hab)
        have a2 := A1 b hb (Ne.symm hab)
        have a3 := A2 b hb (Ne.symm hab)
        refine cl_none hB hb (m := 2) (by omega) ?_
        omega
    · by_cases hb0 : b = 0
      · exfalso; rw [hb0, Nat.zero_mul, d00] at hw; omega
      · have a1 := A3 0 0 z0 z0 (by omega) (by omega)
        have a2 := A1 0 z0 (by omega)
        have a3 := A2 0 z0 (by omega)
        rw [Nat.zero_mul, Nat.zero_add, d00] at a2
        rw [Nat.add_zero] at a3
        rw [Nat.add_zero] at a3
        simp only [Nat.zero_mul, Nat.zero_add, Nat.add_zero] at a1 a2 a3
        refine cl_none hB z0 (m := 2) (by omega) ?_
        simp only [Nat.zero_mul, Nat.zero_add]
        omega
  · obtain ⟨c, g⟩ := z
    dsimp only at hs hv l2 hcs
    subst hs
    obtain ⟨gC, sC⟩ := hcs rfl
    obtain ⟨q1, q2⟩ := l2 rfl
    have gt := g2.tri
    have gd := g2.diag
    have gl := fun {i j : Nat} (hi : i < R n) (hj : j < R n) => g2.low hi hj
    dsimp only at gt gd gl
    have gf : ∀ i j, i < R n → j < R n → i ≠ a → j ≠ a → rUp (clampTo G (R n)) (R n) 2 (i * 7 + j) ≤ g (i * 7 + j) := fun i j hi hj h2 h3 => by
      have a1 := A3 i j hi hj h2 h3
      have a2 := A1 i hi h2
      have a3 := A2 j hj h3
      have b1 := gl hi hj
      have b2 := lo hi hb
      have b3 := lo hb hj
      have b4 := lo hi z0
      have b5 := lo z0 hj
      rw [Nat.add_zero] at b4
      rw [Nat.zero_mul, Nat.zero_add] at b5
      rcases hv i j hi hj with h | h | h <;> omega
    refine Same.tr (y := (false, cpC g a b q (R n))) (cl_eq (C := cpC g a b q (R n)) gC hB (fun o ho h => ?_) (fun i j hi hj => ?_) (fun i j hi hj => ?_)) sC
    · obtain ⟨e, hi, hj⟩ := at7 ho rfl rfl
      rw [ci, hG o ho, if_neg (by omega), if_neg (by omega), e]
      exact fout _ _ hi hj (by omega)
    · rw [ci, cpC_at hi hj hR.2.1, gv i j hi hj]
      have gle : ∀ i j, i < R n → j < R n → g (i * 7 + j) ≤ f (i * 7 + j) := fun i j hi hj => mo rfl hi hj
      have t1 := gt b j 0 hb hj z0
      have t2 := gt i b 0 hi hb z0
      have e1 := gle i j hi hj
      have e2 := gle 0 j z0 hj
      have e3 := gle i 0 hi z0
      have db := gd b hb
      unfold Z.tri at t1 t2
      simp only [Nat.zero_mul, Nat.zero_add, Nat.add_zero] at t1 t2 e2 e3
      by_cases c1 : i = a
      · rw [if_pos c1]
        by_cases c2 : j = a
        · rw [if_pos c2, if_neg (by omega), if_neg (by omega), if_neg (by omega), if_neg (by omega), c1, c2, hd a ha]; exact Int.le_refl _
        · rw [if_neg c2]
          by_cases c3 : j = b
          · rw [if_pos ⟨c1, c3⟩, c3, db]; omega
          · rw [if_neg (by omega), if_neg (by omega), if_pos ⟨c1, c2⟩]; omega
      · rw [if_neg c1]
        by_cases c2 : j = a
        · rw [if_pos c2]
          by_cases c3 : i = b
          · rw [if_neg (by omega), if_pos ⟨c3, c2⟩, c3, db]; omega
          · rw [if_neg (by omega), if_neg (by omega), if_neg (by omega), if_pos ⟨c2, c1⟩]; omega
        · rw [if_neg c2, if_neg (by omega), if_neg (by omega), if_neg (by omega), if_neg (by omega)]; exact e1
    · rw [cpC_at hi hj hR.2.1]
      have m3 := M (show 3 ≤ R n + 1 by omega) (i * 7 + j) (by omega)
      have m2 := M (show 2 ≤ 3 by omega) (i * 7 + j) (by omega)
      have m0 := M (Nat.zero_le 3) (i * 7 + j) (by omega)
      rw [F0] at m0
      by_cases c1 : i = a
      · rw [if_pos c1]
        by_cases c2 : j = a
        · rw [if_pos c2]
          have := gv i j hi hj
          rw [if_neg (by omega), if_neg (by omega), if_neg (by omega), if_neg (by omega), c1, c2, hd a ha] at this
          rw [c1, c2] at m0 m3 ⊢
          omega
        · rw [if_neg c2]
          have p := P 2 hi hj hb
          have m := M (Nat.zero_le 2) (a * 7 + b) (by omega)
          rw [F0, gab] at m
          have e := gf b j hb hj (Ne.symm hab) c2
          have b1 := gl hb hj
          rw [c1] at p m3 ⊢
          simp only [Nat.reduceAdd] at p
          omega
      · rw [if_neg c1]
        by_cases c2 : j = a
        · rw [if_pos c2]
          have p := P 2 hi hj hb
          have m := M (Nat.zero_le 2) (b * 7 + a) (by omega)
          rw [F0, gba] at m
          have e := gf i b hi hb c1 (Ne.symm hab)
          have b1 := gl hi hb
          rw [c2] at p m3 ⊢
          simp only [Nat.reduceAdd] at p
          omega
        · rw [if_neg c2]
          have e := gf i j hi hj c1 c2
          omega
theorem cl_sh (hf : Good n (false, f)) {x q : Int} (hx : isVarP n x = true) (hq : -2147483648 ≤ q ∧ q ≤ 2147483647)
    (hG : ∀ o, o < 49 → G o = shTo f (x + 1).toNat q (R n) o) : Same (clZ n (false, G)) (copyZ n x x q (false, f)) := by
  have hR := R_le n
  obtain ⟨ha, hax, ha1⟩ := isVar_R hx
  have hcp := good_copy hf x x q
  have hcv := cp2_val hf (q := q) (isVar_end hx)
  have g2 := cp2_good hf x q
  have l2 := cp2_le (b := q) hf (isVar_end hx)
  have mo := fun hc => fun {i j : Nat} (hi : i < R n) (hj : j < R n) => cp2_mono (b := q) hf (isVar_end hx) hc hi hj
  have ecp : copyZ n x x q (false, f) = shZ n (x + 1).toNat q (cp2 n x q (false, f)) := by
    unfold copyZ
    rw [if_neg (by rw [hx, isVar_end hx]; simp), if_neg (by
      have h1 : decide (q > 1099511627776) = false := decide_eq_false (by omega)
      have h2 : decide (q < -1099511627776) = false := decide_eq_false (by omega)
      rw [h1, h2]; simp), if_pos (by simp)]
  generalize cp2 n x q (false, f) = z at *
  generalize (x + 1).toNat = a at *
  have z0 : 0 < R n := by omega
  have lo := fun {i j : Nat} (hi : i < R n) (hj : j < R n) => hf.low hi hj
  have h0 := hf.hi0
  have h1 := hf.hi1
  have hd := hf.diag
  have ht := hf.tri
  have fout := hf.out
  dsimp only at lo h0 h1 hd ht fout
  have gv : ∀ i j, i < R n → j < R n → G (i * 7 + j) = if i = a ∧ j ≠ a then f (i * 7 + j) + q else if j = a ∧ i ≠ a then f (i * 7 + j) - q else f (i * 7 + j) := fun i j hi hj => by
    rw [hG _ (by omega), sh_at hi hj hR.2.1]
  have gout : ∀ o, o < 49 → ¬ (o / 7 < R n ∧ o % 7 < R n) → G o = 0 := fun o ho h => by
    obtain ⟨e, hi, hj⟩ := at7 ho rfl rfl
    rw [hG o ho]
    unfold shTo
    rw [if_neg (by omega), if_neg (by omega), e]
    exact fout _ _ hi hj (by omega)
  have hB : Bd G := fun o ho => by
    obtain ⟨e, hi, hj⟩ := at7 ho rfl rfl
    by_cases hr : o / 7 < R n ∧ o % 7 < R n
    · have e2 := gv _ _ hr.1 hr.2
      have := lo hr.1 hr.2
      rw [← e] at this e2
      rw [e2]; (repeat' split) <;> omega
    · rw [gout o ho hr]; omega
  have cB := bd_clamp hB (R n)
  have P := fun m {i j k : Nat} (hi : i < R n) (hj : j < R n) (hk : k < R n) => rUp_path cB (m := m) hR.2.1 hi hj hk
  have M := fun {m m' : Nat} (h : m ≤ m') => rUp_le' cB (R n) h
  have F0 : ∀ o, rUp (clampTo G (R n)) (R n) 0 o = clampTo G (R n) o := fun o => rfl
  have cle : ∀ i j, i < R n → j < R n → clampTo G (R n) (i * 7 + j) ≤ G (i * 7 + j) := fun i j hi hj => by
    rw [clamp_at hi hj hR.2.1]; (repeat' split) <;> omega
  have ca0 : clampTo G (R n) (a * 7 + 0) ≤ 2147483647 := by rw [clamp_at ha z0 hR.2.1, if_neg (by omega), if_pos ⟨ha1, rfl⟩]; omega
  have c0a : clampTo G (R n) (0 * 7 + a) ≤ 2147483648 := by rw [clamp_at z0 ha hR.2.1, if_pos ⟨rfl, ha1⟩]; omega
  have k1 : ∀ i, i < R n → i ≠ a → clampTo G (R n) (i * 7 + a) ≤ f (i * 7 + a) - q := fun i hi h => by
    have := cle i a hi ha
    rw [gv i a hi ha, if_neg (by omega), if_pos ⟨rfl, h⟩] at this; exact this
  have k2 : ∀ j, j < R n → j ≠ a → clampTo G (R n) (a * 7 + j) ≤ f (a * 7 + j) + q := fun j hj h => by
    have := cle a j ha hj
    rw [gv a j ha hj, if_pos ⟨rfl, h⟩] at this; exact this
  have k3 : ∀ i j, i < R n → j < R n → i ≠ a → j ≠ a → clampTo G (R n) (i * 7 + j) ≤ f (i * 7 + j) := fun i j hi hj h h' => by
    have := cle i j hi hj
    rw [gv i j hi hj, if_neg (by omega), if_neg (by omega)] at this; exact this
  have kaa : clampTo G (R n) (a * 7 + a) ≤ 0 := by
    have := cle a a ha ha
    rw [gv a a ha ha, if_neg (by omega), if_neg (by omega), hd a ha] at this; exact this
  have paa := P 0 ha ha z0
  rw [F0, F0] at paa
  simp only [Nat.zero_add] at paa
  have q0 := k2 0 z0 (by omega)
  have q1 := k1 0 z0 (by omega)
  rcases hcv with ⟨hn, hw⟩ | ⟨hs, hv⟩
  · have e1 : (copyZ n x x q (false, f)).1 = true := by rw [ecp]; exact hn
    refine same_none (cl_none hB ha (m := 1) (by omega) ?_) hcp e1
    simp only [Nat.zero_mul, Nat.zero_add, Nat.add_zero] at paa q0 q1 ca0 c0a
    rcases hw with hw | hw <;> omega
  · obtain ⟨c, g⟩ := z
    dsimp only at hs hv l2
    subst hs
    have gC := good_sh g2 ha ha1 (b := q) (fun _ => l2 rfl)
    have esh : shZ n a q (false, g) = (false, shTo g a q (R n)) := by
      refine Prod.ext rfl (funext fun o => ?_)
      show shiftF n false g a q o = _
      unfold shiftF
      rw [if_neg (by simp)]; rfl
    rw [ecp]
    rw [esh] at gC ⊢
    have gl := fun {i j : Nat} (hi : i < R n) (hj : j < R n) => g2.low hi hj
    have gd := g2.diag
    have c0 := gC.hi0
    have c1 := gC.hi1
    dsimp only at gl gd c0 c1
    refine cl_eq (C := shTo g a q (R n)) gC hB (fun o ho h => ?_) (fun i j hi hj => ?_) (fun i j hi hj => ?_)
    · unfold clampTo
      rw [gout o ho h]
      (repeat' split) <;> omega
    · have e1 : g (i * 7 + j) ≤ f (i * 7 + j) := mo rfl hi hj
      have e2 : shTo g a q (R n) (i * 7 + j) ≤ G (i * 7 + j) := by
        rw [sh_at hi hj hR.2.1, gv i j hi hj]; (repeat' split) <;> omega
      rw [clamp_at hi hj hR.2.1]
      split
      · rename_i h; have := c1 j hj; rw [h.1, Nat.zero_mul, Nat.zero_add] at e2 ⊢; omega
      · split
        · rename_i h; have := c0 i hi; rw [h.2, Nat.add_zero] at e2 ⊢; omega
        · exact e2
    · rw [sh_at hi hj hR.2.1]
      have m2 := M (show 2 ≤ R n + 1 by omega) (i * 7 + j) (by omega)
      have m1 := M (show 1 ≤ 2 by omega) (i * 7 + j) (by omega)
      have m0 := M (Nat.zero_le 1) (i * 7 + j) (by omega)
      have n1 := M (Nat.zero_le 1) (i * 7 + a) (by omega)
      have n2 := M (Nat.zero_le 1) (a * 7 + j) (by omega)
      have p1 := P 0 hi ha z0
      have p2 := P 0 ha hj z0
      have p3 := P 1 hi hj ha
      rw [F0, F0] at p1 p2
      rw [F0] at m0 n1 n2
      simp only [Nat.zero_add, Nat.reduceAdd] at p1 p2 p3
      have b1 := gl hi hj
      have b2 := lo hi ha
      have b3 := lo ha hj
      have b4 := lo hi z0
      have b5 := lo z0 hj
      have hvv := hv i j hi hj
      have faa := hd a ha
      by_cases e1 : i = a
      · by_cases e2 : j = a
        · rw [if_neg (by omega), if_neg (by omega), e1, e2, gd a ha]
          rw [e1, e2] at m2 m1 m0
          omega
        · rw [if_pos ⟨e1, e2⟩]
          have k := k2 j hj e2
          have k' := k3 0 j z0 hj (by omega) e2
          subst e1
          simp only [Nat.zero_mul, Nat.zero_add, Nat.add_zero] at *
          rcases hvv with h | h | h <;> omega
      · by_cases e2 : j = a
        · rw [if_neg (by omega), if_pos ⟨e2, e1⟩]
          have k := k1 i hi e1
          have k' := k3 i 0 hi z0 e1 (by omega)
          subst e2
          simp only [Nat.zero_mul, Nat.zero_add, Nat.add_zero] at *
          rcases hvv with h | h | h <;> omega
        · rw [if_neg (by omega), if_neg (by omega)]
          have ka := k1 i hi e1
          have kb := k2 j hj e2
          have kc := k3 i j hi hj e1 e2
          have kd := k3 i 0 hi z0 e1 (by omega)
          have ke := k3 0 j z0 hj (by omega) e2
          simp only [Nat.zero_mul, Nat.zero_add, Nat.add_zero] at *
          rcases hvv with h | h | h <;> omega
end
end Go.Proofs.Ytdagadcflignfaa.Sx.Z
namespace Go.Proofs.Ytdagadcflignfaa.Sx.Z
open Go.RowKit
def tpUp (r k m : Nat) (o : Nat) : Int := if (o / 7 < k ∨ o / 7 = k ∧ o % 7 < m) ∧ o % 7 < r ∧ o / 7 ≠ o % 7 then 1099511627776 else 0
def rfTo (f : Nat → Int) (a k : Nat) (o : Nat) : Int := if (o / 7 < k ∧ o % 7 = a ∧ o / 7 ≠ a) ∨ (o % 7 < k ∧ o / 7 = a ∧ o % 7 ≠ a) then 1099511627776 else f o
def rtopS : FSpec := fun ds _ => match ds with
  | [.i n] => some { val := .one (.agg [.c (.int .i64 (.sym (topN n))), .c (.bool (.sym (false))), .ints .i64 (.lit 49) (topF n)]), vc := [] }
  | _ => none
def rtopC : Con := con [iA] rtopS
def rboundS : FSpec := fun ds _ => match ds with
  | [.i n, .b c, .f f, .i x, .i y, .i b] => some { val := .one (.agg [.c (.int .i64 (.sym (n))), .c (.bool (.sym ((bndZ n x y b (c, f)).1))), .ints .i64 (.lit 49) ((bndZ n x y b (c, f)).2)]), vc := [Good n (c, f), isEndP n x = true, isEndP n y = true, x ≠ y, -4294967296 ≤ b] }
  | _ => none
def rboundC : Con := con [zA, iA, iA, iA] rboundS
def rforgetS : FSpec := fun ds _ => match ds with
  | [.i n, .b c, .f f, .i x] => some { val := .one (.agg [.c (.int .i64 (.sym (n))), .c (.bool (.sym ((fgZ n x (c, f)).1))), .ints .i64 (.lit 49) ((fgZ n x (c, f)).2)]), vc := [Good n (c, f), isVarP n x = true] }
  | _ => none
def rforgetC : Con := con [zA, iA] rforgetS
def rcopyS : FSpec := fun ds _ => match ds with
  | [.i n, .b c, .f f, .i x, .i y, .i b] => some { val := .one (.agg [.c (.int .i64 (.sym (n))), .c (.bool (.sym ((copyZ n x y b (c, f)).1))), .ints .i64 (.lit 49) ((copyZ n x y b (c, f)).2)]), vc := [Good n (c, f), isVarP n x = true, isEndP n y = true, -2147483648 ≤ b ∧ b ≤ 2147483647] }
  | _ => none
def rcopyC : Con := con [zA, iA, iA, iA] rcopyS
end Go.Proofs.Ytdagadcflignfaa.Sx.Z
namespace Go.Proofs.Ytdagadcflignfaa.Sx.Z
open Go.RowKit
def kz (n : Int) : Int := IntKind.i64.wrap ((IntKind.u64.wrap n).tmod 7)
theorem u64_in (n : Int) : 0 ≤ IntKind.u64.wrap n ∧ IntKind.u64.wrap n ≤ 18446744073709551615 := by
  rw [IntKind.wrap_u64]; omega
theorem tmod_in {a b : Int} (ha : 0 ≤ a) (hb : 0 < b) : 0 ≤ a.tmod b ∧ a.tmod b < b := ⟨Int.tmod_nonneg _ ha, Int.tmod_lt_of_pos _ hb⟩
theorem kz_in (n : Int) : 0 ≤ kz n ∧ kz n ≤ 6 := by
  unfold kz
  have h := u64_in n
  have h2 := tmod_in h.1 (show (0 : Int) < 7 by omega)
  rw [wr _ (by omega)]
  omega
/-- A place among so many. -/
theorem px_in (x k : Int) (hk : 0 < k ∧ k ≤ 1000) : 0 ≤ IntKind.i64.wrap ((IntKind.u64.wrap x).tmod (IntKind.u64.wrap k)) ∧ IntKind.i64.wrap ((IntKind.u64.wrap x).tmod (IntKind.u64.wrap k)) < k := by
  have h := u64_in x
  have e : IntKind.u64.wrap k = k := by rw [IntKind.wrap_u64]; omega
  rw [e]
  have h2 := tmod_in h.1 hk.1
  rw [wr _ (by omega)]
  exact h2
theorem tmod_any (x : Int) : -999 ≤ x.tmod 1000 ∧ x.tmod 1000 ≤ 999 := by
  rcases Int.le_total 0 x with h | h
  · rw [Int.tmod_eq_emod_of_nonneg h]; omega
  · have e : x.tmod 1000 = -((-x).tmod 1000) := by rw [Int.neg_tmod]; omega
    rw [e, Int.tmod_eq_emod_of_nonneg (by omega)]; omega
theorem has_row {n : Int} {c : Bool} {f : Nat → Int} (m : Nat) (g : Nat → Int) : hasP n c f ((rowI m g).sub 0 m).len (ig ((rowI m g).sub 0 m)) = hasP n c f m g := by
  have e : ((rowI m g).sub 0 m).rows = (rowI m g).rows := by have := sub_all (rowI m g) (n := m) (rowI_len m g).symm; rwa [Nat.zero_add] at this
  rw [len_rows e, ig_rows e, rowI_len]
  exact has_congr fun q hq => ig_rowI m g hq
theorem isVar_of {n x : Int} (hn : 0 ≤ n ∧ n ≤ 6) (h : 0 ≤ x ∧ x < n) : isVarP n x = true := by
  unfold isVarP; rw [rows_n hn]; simp only [Bool.and_eq_true, decide_eq_true_eq]; omega
theorem isEnd_of {n x : Int} (hn : 0 ≤ n ∧ n ≤ 6) (h : -1 ≤ x ∧ x < n) : isEndP n x = true := by
  unfold isEndP isVarP; rw [rows_n hn]; simp only [Bool.or_eq_true, Bool.and_eq_true, decide_eq_true_eq, beq_iff_eq]; omega
def zoP (n : Int) : Nat → Zs
  | 0 => (false, topF n)
  | x + 1 => bndZ n (-1) x 0 (bndZ n x (-1) 0 (zoP n x))
theorem zoP_good {n : Int} (hn : 0 ≤ n ∧ n ≤ 6) : ∀ k, Good n (zoP n k)
  | 0 => by have := good_top n; rwa [show topN n = n by unfold topN; omega] at this
  | k + 1 => good_bnd (good_bnd (zoP_good hn k) _ _ _) _ _ _
theorem zoP_pt {n : Int} (hn : 0 ≤ n ∧ n ≤ 6) (v : Nat → Int) : ∀ k : Nat, (k : Int) ≤ n → (Pt n (zoP n k) v ↔ Pt n (false, topF n) v ∧ ∀ i, i < k → v (i + 1) = 0)
  | 0, _ => ⟨fun h => ⟨h, fun i hi => absurd hi (Nat.not_lt_zero i)⟩, fun h => h.1⟩
  | k + 1, hk => by
    have g := zoP_good hn k
    have ex := isEnd_of (x := (k : Int)) hn (by omega)
    show Pt n (bndZ n (-1) k 0 (bndZ n k (-1) 0 (zoP n k))) v ↔ _
    rw [bnd_pt (good_bnd g _ _ _) (isEnd_nought n) ex, bnd_pt g ex (isEnd_nought n), zoP_pt hn v k (by omega)]
    have e1 : ((k : Int) + 1).toNat = k + 1 := by omega
    have e0 : ((-1 : Int) + 1).toNat = 0 := rfl
    rw [e1, e0]
    constructor
    · rintro ⟨⟨⟨h1, h2⟩, h3⟩, h4⟩
      refine ⟨h1, fun i hi => ?_⟩
      by_cases h : i < k
      · exact h2 i h
      · rw [show i = k by omega]; have := h1.2.1; omega
    · rintro ⟨h1, h2⟩
      have := h1.2.1
      have h3 := h2 k (by omega)
      exact ⟨⟨⟨h1, fun i hi => h2 i (by omega)⟩, by omega⟩, by omega⟩
theorem zo_same {n : Int} (hn : 0 ≤ n ∧ n ≤ 6) : Same (zoP n n.toNat) (false, fun _ => 0) := by
  have hR := R_le n
  have hRn := R_n hn
  have ht : topN n = n := by unfold topN; omega
  refine good_ext (zoP_good hn _) (good_none hn false) fun v => ?_
  rw [zoP_pt hn v _ (by omega)]
  constructor
  · rintro ⟨h1, h2⟩
    have hv : ∀ i, i < R n → v i = 0 := fun i hi => by
      by_cases h : i = 0
      · rw [h]; exact h1.2.1
      · have := h2 (i - 1) (by omega); rwa [show i - 1 + 1 = i by omega] at this
    exact ⟨rfl, h1.2.1, fun i j hi hj => by rw [hv i hi, hv j hj]; exact Int.le_refl _⟩
  · rintro ⟨_, v0, hp⟩
    have hv : ∀ i, i < R n → v i = 0 := fun i hi => by
      have a := hp i 0 hi (by omega)
      have b := hp 0 i (by omega) hi
      dsimp only at a b
      omega
    refine ⟨?_, fun i hi => hv (i + 1) (by omega)⟩
    have := pt_top (n := n) (v := v) v0 (fun i hi => by rw [ht] at hi; rw [hv i hi]; omega)
    rwa [ht] at this
theorem fg_true {n x : Int} {z : Zs} (h : z.1 = true) : fgZ n x z = z := by
  obtain ⟨c, f⟩ := z
  dsimp only at h
  subst h
  refine Prod.ext rfl (funext fun o => ?_)
  show forgetF n true f x o = f o
  unfold forgetF; rw [if_pos (by simp)]
theorem fg_false {n x : Int} {z : Zs} (h : z.1 = false) (hx : isVarP n x = true) : fgZ n x z = (false, fgTo z.2 (x + 1).toNat (R n)) := by
  obtain ⟨c, f⟩ := z
  dsimp only at h
  subst h
  refine Prod.ext rfl (funext fun o => ?_)
  show forgetF n false f x o = _
  unfold forgetF; rw [if_neg (by rw [hx]; simp)]; rfl
theorem fg_idem {n x : Int} {z : Zs} (hx : isVarP n x = true) (o : Nat) (ho : o < 49) : forgetF n (fgZ n x z).1 (fgZ n x z).2 x o = (fgZ n x z).2 o := by
  cases h : z.1 with
  | true => rw [fg_true h]; unfold forgetF; rw [h, if_pos (by simp)]
  | false =>
    have hR := R_le n
    obtain ⟨ha, hax, ha1⟩ := isVar_R hx
    rw [fg_false h hx]
    unfold forgetF
    rw [if_neg (by rw [hx]; simp)]
    show fgTo (fgTo z.2 (x + 1).toNat (R n)) (x + 1).toNat (R n) o = fgTo z.2 (x + 1).toNat (R n) o
    generalize (x + 1).toNat = a at *
    unfold fgTo
    by_cases c1 : o / 7 = a ∧ o % 7 ≠ a ∧ o % 7 < R n
    · rw [if_pos c1, if_pos c1, if_neg (by omega), if_neg (by omega)]
    · rw [if_neg c1, if_neg c1]
      by_cases c2 : o % 7 = a ∧ o / 7 ≠ a ∧ o / 7 < R n
      · rw [if_pos c2, if_pos c2, if_neg (by omega), if_neg (by omega)]
      · rw [if_neg c2, if_neg c2]
theorem fg_within {n x : Int} {z : Zs} (g : Good n z) (h : z.1 = false) (hx : isVarP n x = true) : withinP n z.1 z.2 n (fgZ n x z).1 (fgZ n x z).2 = true := by
  have hR := R_le n
  rw [fg_false h hx, h]
  unfold withinP
  rw [if_neg (by simp)]
  refine allB_iff.2 fun o ho hr => ?_
  have e : o / 7 * 7 + o % 7 = o := by omega
  unfold leP
  rw [decide_eq_true_eq]
  rw [← e]
  have hr' : o / 7 < R n ∧ o % 7 < R n := hr
  dsimp only
  rw [fg_at hr'.1 hr'.2 hR.2.1]
  have t := g.tri (o / 7) (o % 7) 0 hr'.1 hr'.2 (by omega)
  have h0 := g.hi0 (o / 7) hr'.1
  have h1 := g.hi1 (o % 7) hr'.2
  unfold Z.tri at t
  rw [Nat.add_zero, Nat.zero_mul, Nat.zero_add] at t
  split
  · omega
  · split
    · omega
    · exact Int.le_refl _
theorem fg_all {n x : Int} {z : Zs} (g : Good n z) (h : z.1 = false) (hx : isVarP n x = true) : itvLo n (fgZ n x z).1 (fgZ n x z).2 x = -2147483648 ∧ itvHi n (fgZ n x z).1 (fgZ n x z).2 x = 2147483647 := by
  have hR := R_le n
  obtain ⟨ha, hax, ha1⟩ := isVar_R hx
  have d := g.diag 0 (by omega)
  rw [Nat.zero_mul, Nat.zero_add] at d
  rw [fg_false h hx]
  have e1 := fg_at (f := z.2) (a := (x + 1).toNat) ha (show 0 < R n by omega) hR.2.1
  have e2 := fg_at (f := z.2) (a := (x + 1).toNat) (show 0 < R n by omega) ha hR.2.1
  rw [Nat.add_zero, if_pos ⟨rfl, by omega⟩, d] at e1
  rw [Nat.zero_mul, Nat.zero_add, if_neg (by omega), if_pos ⟨rfl, by omega⟩, d] at e2
  unfold itvLo itvHi
  rw [hx, if_neg (by simp), if_neg (by simp)]
  dsimp only
  rw [e1, e2]
  exact ⟨rfl, rfl⟩
theorem bnd_out {n x y b : Int} {z : Zs} (h : isEndP n x = false ∨ isEndP n y = false) : bndC n z.1 z.2 x y b = z.1 ∧ bndF n z.1 z.2 x y b = z.2 := by
  rcases bnd_cases n x y b z with ⟨e, _⟩ | ⟨_, h1, h2, _⟩
  · exact ⟨congrArg Prod.fst e, congrArg Prod.snd e⟩
  · rcases h with h | h
    · rw [h] at h1; cases h1
    · rw [h] at h2; cases h2
theorem fg_out {n x : Int} {z : Zs} (h : isVarP n x = false) : forgetF n z.1 z.2 x = z.2 := by
  funext o
  unfold forgetF
  rw [if_pos (by rw [h]; simp)]
theorem cp_out {n x y b : Int} {z : Zs} (h : isVarP n x = false ∨ isEndP n y = false) : copyZ n x y b z = z := by
  unfold copyZ
  rw [if_pos]
  rcases h with h | h <;> rw [h] <;> simp
theorem itv_exact {n x : Int} {z : Zs} (g : Good n z) (h : z.1 = false) (hx : isVarP n x = true) : itvLo n z.1 z.2 x = 0 - z.2 (x + 1).toNat ∧ itvHi n z.1 z.2 x = z.2 ((x + 1).toNat * 7) := by
  obtain ⟨ha, hax, ha1⟩ := isVar_R hx
  have hR := R_le n
  have h0 := g.hi0 _ ha
  have h1 := g.hi1 _ ha
  have t := g.tri 0 0 (x + 1).toNat (by omega) (by omega) ha
  have d := g.diag 0 (by omega)
  unfold Z.tri at t
  rw [Nat.zero_mul, Nat.add_zero, Nat.zero_add, Nat.add_zero] at t
  rw [Nat.zero_mul, Nat.zero_add] at d
  unfold itvLo itvHi
  rw [h, hx, if_neg (by simp), if_neg (by simp)]
  unfold ofLo ofHi
  rw [if_neg (by omega), if_neg (by omega)]
  exact ⟨by omega, by omega⟩
end Go.Proofs.Ytdagadcflignfaa.Sx.Z
