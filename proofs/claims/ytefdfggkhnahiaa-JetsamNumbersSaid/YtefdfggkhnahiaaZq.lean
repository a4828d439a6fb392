/-
  A zone's numbers through all calls; rows of numbers.
-/
import Derived.Test.YtefdfggkhnahiaaZf
namespace Go.Proofs.Ytefdfggkhnahiaa.Sx.Z
open Go.RowKit
theorem pt_range {n : Int} {z : Zs} (h : Good n z) {v : Nat → Int} (p : Pt n z v) {i : Nat} (hi : i < R n) : -2147483648 ≤ v i ∧ v i ≤ 2147483647 := by
  obtain ⟨_, h0, hp⟩ := p
  have hR := R_le n
  have h1 := hp i 0 hi (by omega)
  have h2 := hp 0 i (by omega) hi
  have h3 := h.hi0 i hi
  have h4 := h.hi1 i hi
  simp only [Nat.add_zero, Nat.zero_mul, Nat.zero_add] at h1 h2
  omega
def upd (v : Nat → Int) (a : Nat) (b : Int) : Nat → Int := fun q => if q = a then b else v q
theorem upd_at (v : Nat → Int) (a : Nat) (b : Int) : upd v a b a = b := by simp [upd]
theorem upd_ne {v : Nat → Int} {a q : Nat} {b : Int} (h : q ≠ a) : upd v a b q = v q := by simp [upd, h]
theorem isVar_R {n x : Int} (h : isVarP n x = true) : (x + 1).toNat < R n ∧ ((x + 1).toNat : Int) = x + 1 ∧ 1 ≤ (x + 1).toNat := by
  have h1 := isVarP_lt h
  have h2 := isEnd_R (isVar_end h)
  exact ⟨h2.1, h2.2, by omega⟩
theorem pt_fg {n : Int} {z : Zs} (h : Good n z) {x : Int} (hx : isVarP n x = true) {v : Nat → Int} (p : Pt n z v) {b : Int} (hb : -2147483648 ≤ b ∧ b ≤ 2147483647) : Pt n (fgZ n x z) (upd v (x + 1).toNat b) := by
  have hR := R_le n
  obtain ⟨ha, _, ha1⟩ := isVar_R hx
  have hr := fun {i : Nat} (hi : i < R n) => pt_range h p hi
  obtain ⟨hc, h0, hp⟩ := p
  refine ⟨hc, by rw [upd_ne (by omega)]; exact h0, fun i j hi hj => ?_⟩
  have e : (fgZ n x z).2 (i * 7 + j) = fgTo z.2 (x + 1).toNat (R n) (i * 7 + j) := by
    show forgetF n z.1 z.2 x _ = _
    unfold forgetF
    rw [if_neg (by rw [hc, hx]; simp)]; rfl
  rw [e, fg_at hi hj hR.2.1]
  by_cases h1 : i = (x + 1).toNat
  · by_cases h2 : j = (x + 1).toNat
    · rw [if_neg (by omega), if_neg (by omega), h1, h2]
      have := h.diag (x + 1).toNat ha
      omega
    · rw [if_pos ⟨h1, h2⟩, h1, upd_at, upd_ne h2]
      have := hp 0 j (by omega) hj
      simp only [Nat.zero_mul, Nat.zero_add] at this
      omega
  · by_cases h2 : j = (x + 1).toNat
    · rw [if_neg (by omega), if_pos ⟨h2, h1⟩, h2, upd_at, upd_ne h1]
      have := hp i 0 hi (by omega)
      simp only [Nat.add_zero] at this
      omega
    · rw [if_neg (by omega), if_neg (by omega), upd_ne h1, upd_ne h2]
      exact hp i j hi hj
theorem pt_sh {n : Int} {z : Zs} (h : Good n z) {a : Nat} (ha : a < R n) (ha1 : 1 ≤ a) {v : Nat → Int} (p : Pt n z v) (b : Int) : Pt n (shZ n a b z) (upd v a (v a + b)) := by
  have hR := R_le n
  obtain ⟨hc, h0, hp⟩ := p
  refine ⟨hc, by rw [upd_ne (by omega)]; exact h0, fun i j hi hj => ?_⟩
  have e : (shZ n a b z).2 (i * 7 + j) = shTo z.2 a b (R n) (i * 7 + j) := by
    show shiftF n z.1 z.2 a b _ = _
    unfold shiftF
    rw [if_neg (by rw [hc]; simp)]; rfl
  rw [e, sh_at hi hj hR.2.1]
  have hpij := hp i j hi hj
  by_cases h1 : i = a
  · by_cases h2 : j = a
    · rw [if_neg (by omega), if_neg (by omega), h1, h2]
      have := h.diag a ha
      omega
    · rw [if_pos ⟨h1, h2⟩, h1, upd_at, upd_ne h2]
      subst h1; omega
  · by_cases h2 : j = a
    · rw [if_neg (by omega), if_pos ⟨h2, h1⟩, h2, upd_at, upd_ne h1]
      subst h2; omega
    · rw [if_neg (by omega), if_neg (by omega), upd_ne h1, upd_ne h2]
      exact hpij
theorem pt_bnd {n : Int} {z : Zs} (h : Good n z) {x y b : Int} (hx : isEndP n x = true) (hy : isEndP n y = true) {v : Nat → Int} (p : Pt n z v) (hb : v (x + 1).toNat - v (y + 1).toNat ≤ b) : Pt n (bndZ n x y b z) v := (bnd_pt h hx hy v).2 ⟨p, hb⟩
theorem pt_cp2 {n : Int} {z : Zs} (h : Good n z) {y b : Int} (hy : isEndP n y = true) {v : Nat → Int} (p : Pt n z v) (hb : -2147483648 ≤ v (y + 1).toNat + b ∧ v (y + 1).toNat + b ≤ 2147483647) : Pt n (cp2 n y b z) v := by
  have h0 := p.2.1
  have e0 : ((-1 : Int) + 1).toNat = 0 := rfl
  refine pt_bnd (good_bnd h _ _ _) (isEnd_nought n) hy (pt_bnd h hy (isEnd_nought n) p ?_) ?_ <;> rw [e0, h0] <;> omega
theorem pt_copy {n : Int} {z : Zs} (h : Good n z) {x y b : Int} (hx : isVarP n x = true) (hy : isEndP n y = true) (hf : -1099511627776 ≤ b ∧ b ≤ 1099511627776) {v : Nat → Int} (p : Pt n z v) (hb : -2147483648 ≤ v (y + 1).toNat + b ∧ v (y + 1).toNat + b ≤ 2147483647) :
    Pt n (copyZ n x y b z) (upd v (x + 1).toNat (v (y + 1).toNat + b)) := by
  unfold copyZ
  rw [if_neg (by rw [p.1, hx, hy]; simp), if_neg (by
    have h1 : decide (b > 1099511627776) = false := decide_eq_false (by omega)
    have h2 : decide (b < -1099511627776) = false := decide_eq_false (by omega)
    rw [h1, h2]; simp)]
  have p2 := pt_cp2 h hy p hb
  have g2 := cp2_good h y b
  obtain ⟨ha, hac, ha1⟩ := isVar_R hx
  by_cases hxy : x = y
  · subst hxy
    rw [if_pos (by simp)]
    exact pt_sh g2 ha ha1 p2 b
  · rw [if_neg (by simpa using hxy)]
    have hyc := isEnd_R hy
    have hne : (y + 1).toNat ≠ (x + 1).toNat := fun e => hxy (by omega)
    have g3 := good_fg g2 x
    have p3 := pt_fg g2 hx p2 hb
    have p4 := pt_bnd g3 (isVar_end hx) hy p3 (b := b) (by rw [upd_at, upd_ne hne]; omega)
    exact pt_bnd (good_bnd g3 x y b) hy (isVar_end hx) p4 (b := 0 - b) (by rw [upd_at, upd_ne hne]; omega)
theorem pt_top {n : Int} {v : Nat → Int} (h0 : v 0 = 0) (hv : ∀ i, i < R (topN n) → -2147483648 ≤ v i ∧ v i ≤ 2147483647) : Pt (topN n) (false, topF n) v := by
  refine ⟨rfl, h0, fun i j hi hj => ?_⟩
  show _ ≤ topF n (i * 7 + j)
  rw [top_at hi hj]
  have h1 := hv i hi
  have h2 := hv j hj
  split
  · rename_i e; rw [e]; omega
  · split
    · rename_i e; rw [e, h0]; omega
    · split
      · rename_i e; rw [e, h0]; omega
      · omega
/-- Numbers of variables, with nought ahead. -/
def vz (g : Nat → Int) : Nat → Int := fun q => if q = 0 then 0 else g (q - 1)
theorem vz_upd (g : Nat → Int) {a : Nat} (ha : 1 ≤ a) (b : Int) : upd (vz g) a b = vz (upd g (a - 1) b) := by
  funext q
  show (if q = a then b else (if q = 0 then 0 else g (q - 1))) = if q = 0 then 0 else (if q - 1 = a - 1 then b else g (q - 1))
  by_cases h1 : q = a
  · rw [if_pos h1, if_neg (by omega), if_pos (by omega)]
  · rw [if_neg h1]
    by_cases h2 : q = 0
    · rw [if_pos h2, if_pos h2]
    · rw [if_neg h2, if_neg h2, if_neg (by omega)]
theorem has_pt {n : Int} {z : Zs} (h : Good n z) {l : Nat} (hl : (l : Int) = n) {g : Nat → Int} (p : Pt n z (vz g)) : hasP n z.1 z.2 l g = true := by
  have hR := R_le n
  have hrn := rows_n h.n0
  unfold hasP
  rw [if_neg (by
    have h1 : ((l : Int) != n) = false := by simp [hl]
    have h2 : decide (n > 6) = false := decide_eq_false (by have := h.n0; omega)
    rw [p.1, h1, h2]; simp)]
  refine allB_iff.2 fun o ho hr => ?_
  have hR' : (rowsP n).toNat = R n := rfl
  rw [hR'] at hr
  have hv : ∀ q, q < R n → hv l g q = vz g q := fun q hq => by
    unfold hv cpF vz
    have hm : Nat.min l 6 = l := Nat.min_eq_left (by have := h.n0; omega)
    rw [hm]
    by_cases h0 : q = 0
    · rw [if_pos h0, if_neg (by simp only [Bool.and_eq_true, Nat.ble_eq, Nat.blt_eq]; omega)]
    · rw [if_neg h0, if_pos (by simp only [Bool.and_eq_true, Nat.ble_eq, Nat.blt_eq]; omega)]
  unfold hasQ
  rw [hv _ hr.1, hv _ hr.2]
  have r1 := pt_range h p hr.1
  have r2 := pt_range h p hr.2
  have hp := p.2.2 _ _ hr.1 hr.2
  have eo : o / 7 * 7 + o % 7 = o := by omega
  rw [eo] at hp
  rw [wr _ (by omega)]
  simp only [Bool.and_eq_true, decide_eq_true_eq]
  exact ⟨⟨r1.1, r1.2⟩, hp⟩
theorem has_len {n : Int} {c : Bool} {f g : Nat → Int} {l : Nat} (h : (l : Int) ≠ n) : hasP n c f l g = false := by
  unfold hasP
  rw [if_pos]
  have : ((l : Int) != n) = true := by simpa using h
  rw [this]; simp
theorem has_congr {n : Int} {c : Bool} {f g g' : Nat → Int} {l : Nat} (h : ∀ q, q < l → g q = g' q) : hasP n c f l g = hasP n c f l g' := by
  have : hv l g = hv l g' := by
    funext q
    unfold hv cpF
    split
    · rename_i hq
      simp only [Bool.and_eq_true, Nat.ble_eq, Nat.blt_eq] at hq
      have := show Nat.min l 6 ≤ l from Nat.min_le_left l 6
      exact h _ (by omega)
    · rfl
  unfold hasP
  rw [this]
/-! ### Rows of numbers -/
def rowI (n : Nat) (f : Nat → Int) : D := .l ((List.range n).map fun j => [.i (f j)])
theorem rowI_len (n : Nat) (f : Nat → Int) : (rowI n f).len = n := by
  show ((List.range n).map _).length = n
  simp
theorem rowI_el {n i : Nat} (h : i < n) (f : Nat → Int) : ((rowI n f).el i 0).toI = f i := by
  show (((((List.range n).map fun j => [D.i (f j)])).getD i []).getD 0 (.i 0)).toI = f i
  rw [List.getD_eq_getElem?_getD (l := List.map _ _), List.getElem?_map, List.getElem?_range h]
  rfl
theorem rowI_app (n : Nat) (f : Nat → Int) : ((rowI n f).app (.l [[.i (f n)]])).rows = (rowI (n + 1) f).rows := by
  show (List.range n).map _ ++ [[D.i (f n)]] = (List.range (n + 1)).map _
  rw [List.range_succ, List.map_append]; rfl
theorem rowI_set {n x : Nat} (_h : x < n) (f : Nat → Int) (b : Int) : ((rowI n f).setc 1 x 0 [.i b]).rows = (rowI n (upd f x b)).rows := by
  show ((List.range n).map fun j => [D.i (f j)]).set x [D.i b] = (List.range n).map fun j => [D.i (upd f x b j)]
  apply List.ext_getElem?
  intro q
  rw [List.getElem?_set, List.getElem?_map, List.getElem?_map]
  by_cases hq : q < n
  · rw [List.getElem?_range hq]
    by_cases h1 : x = q
    · rw [if_pos h1, if_pos (by simpa using by omega)]; subst h1; simp [upd]
    · rw [if_neg h1]; simp [upd, Ne.symm h1]
  · rw [List.getElem?_eq_none (by simpa using hq)]
    by_cases h1 : x = q
    · subst h1; rw [if_pos rfl, if_neg (by simpa using hq)]; rfl
    · rw [if_neg h1]; rfl
theorem sub_all (d : D) {n : Nat} (h : n = d.len) : (d.sub 0 (0 + n)).rows = d.rows := by
  show (d.rows.take (0 + n)).drop 0 = d.rows
  rw [h, Nat.zero_add, List.drop_zero]
  exact List.take_length
theorem ig_rows {d d' : D} (h : d.rows = d'.rows) : ig d = ig d' := by
  funext j
  unfold ig D.el
  rw [h]
theorem len_rows {d d' : D} (h : d.rows = d'.rows) : d.len = d'.len := by unfold D.len; rw [h]
theorem ig_rowI (n : Nat) (f : Nat → Int) {q : Nat} (h : q < n) : ig (rowI n f) q = f q := rowI_el h f
end Go.Proofs.Ytefdfggkhnahiaa.Sx.Z
