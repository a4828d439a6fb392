/-
  Regions that draw their order, where two blocks are made beside calls: what is carried through.
-/
import Derived.Test.YtbcbcambkjhhhaaChecked
import Derived.Deep.CutRange
import Derived.WalkKit
import Derived.ProofKit
import Derived.Below
import Derived.Handy
import Derived.Lib.Hide
import Derived.IntWalk
import Derived.Deep.WholeRow
import Derived.Deep.Cut
import Derived.Deep.RegionHeld3
import Derived.RegionTactic
import Derived.Test.YtbcbcambkjhhhaaMR
namespace Go.Proofs.Ytbcbcambkjhhhaa
open Go.RowKit
theorem below_undrew {W W' : World} (h : Below W.drew.heap.size W.drew W') : Below W.heap.size W W' := (Below.refl _ W).drew.trans h
theorem below_al {W0 W : World} (h : Below W0.heap.size W0 W) (x : Obj) : Below W0.heap.size W0 (W.alloc x) := h.alloc h.size x
theorem below_tr {W0 W W' : World} (h : Below W0.heap.size W0 W) (hb : Below W.heap.size W W') : Below W0.heap.size W0 W' := h.trans (hb.mono h.size)
theorem below_put {W0 W : World} {g : Nat} {u v : Value} (h : Below W0.heap.size W0 W) (hg : W0.heap.size ≤ g) : Below W0.heap.size W0 ((W.setCell ⟨g, 0, none⟩ u).setCell ⟨g, 1, none⟩ v) := (h.setCell (p := ⟨g, 0, none⟩) hg u).setCell (p := ⟨g, 1, none⟩) hg v
theorem blkT1 {W W' : World} {x : Obj} (h : Below (W.alloc x).heap.size (W.alloc x) W') : W'.heap[W.heap.size]? = some x := blk_keep h (blkA W x rfl)
theorem blkT2a {W W' : World} {x y : Obj} (h : Below ((W.alloc x).alloc y).heap.size ((W.alloc x).alloc y) W') : W'.heap[W.heap.size]? = some x := blk_keep h (blkUp (blkA W x rfl) y)
theorem blkT2b {W W' : World} {x y : Obj} (h : Below ((W.alloc x).alloc y).heap.size ((W.alloc x).alloc y) W') : W'.heap[W.heap.size + 1]? = some y := blk_keep h (blkA (W.alloc x) y (by simp only [World.size_alloc]))
theorem setab {W : World} {n : Nat} {t : TypeId} {a b u v : Value} (h : W.heap[n]? = some (.cells #[a, b] t (0, 0))) : ((W.setCell ⟨n, 0, none⟩ u).setCell ⟨n, 1, none⟩ v).heap[n]? = some (.cells #[u, v] t (0, 0)) := (put2 h u v rfl).1
theorem setno {W : World} {n g : Nat} {x : Obj} {u v : Value} (h : W.heap[n]? = some x) (hne : n ≠ g) : ((W.setCell ⟨g, 0, none⟩ u).setCell ⟨g, 1, none⟩ v).heap[n]? = some x := blk_set (blk_set h hne) hne
/-- Two new blocks of two cells; all that was there is as it was. -/
def TwoCut (W0 : World) (t u : TypeId) (a b c d : Value) (e5 e6 : Value) (wx : World) : Prop := ∃ n m : Nat, e5 = .pointer (some ⟨n, 0, none⟩) ∧ e6 = .pointer (some ⟨m, 0, none⟩) ∧ n ≠ m ∧ W0.heap.size ≤ n ∧ W0.heap.size ≤ m ∧ wx.heap[n]? = some (.cells #[a, b] t (0, 0)) ∧ wx.heap[m]? = some (.cells #[c, d] u (0, 0)) ∧ Below W0.heap.size W0 wx
theorem four_of {W0 : World} {n m : Nat} {a b c d : Value} {t u : TypeId} (h : W0.heap[n]? = some (.cells #[a, b] t (0, 0))) (g : W0.heap[m]? = some (.cells #[c, d] u (0, 0))) (W : World) (hB : Below W0.heap.size W0 W) :
    W.cell? ⟨n, 0, none⟩ = some a ∧ W.cell? ⟨n, 1, none⟩ = some b ∧ W.cell? ⟨m, 0, none⟩ = some c ∧ W.cell? ⟨m, 1, none⟩ = some d := by
  have h' := blk_keep hB h
  have g' := blk_keep hB g
  exact ⟨row_of h' 0, row_of h' 1, row_of g' 0, row_of g' 1⟩
end Go.Proofs.Ytbcbcambkjhhhaa
namespace Go.Proofs.Ytbcbcambkjhhhaa
open Go.RowKit
theorem ofP_or (l h L H : Int) (e : ofP l h = (L, H)) : (L = 1 ∧ H = 0 ∧ (h < l ∨ h < -2147483648 ∨ 2147483647 < l)) ∨ (L ≤ H ∧ (L = l ∧ -2147483648 ≤ l ∨ L = -2147483648 ∧ l < -2147483648) ∧ (H = h ∧ h ≤ 2147483647 ∨ H = 2147483647 ∧ 2147483647 < h)) := by
  unfold ofP nrm mx mn at e
  by_cases h1 : l < -2147483648 <;> by_cases h2 : 2147483647 < h <;> simp only [h1, h2, if_true, if_false] at e <;> split at e <;> (injection e with e1 e2; omega)
theorem mn_or (x y : Int) : (mn x y = x ∧ x ≤ y) ∨ (mn x y = y ∧ y ≤ x) := by unfold mn; split <;> omega
theorem mx_or (x y : Int) : (mx x y = x ∧ y ≤ x) ∨ (mx x y = y ∧ x ≤ y) := by unfold mx; split <;> omega
end Go.Proofs.Ytbcbcambkjhhhaa
namespace Go.Proofs.Ytbcbcambkjhhhaa
open Go.RowKit
theorem blkP (W : World) (g : Nat) (u v : Value) (x : Obj) : (((W.setCell ⟨g, 0, none⟩ u).setCell ⟨g, 1, none⟩ v).alloc x).heap[W.heap.size]? = some x := blkA _ _ (by simp [World.setCell])
end Go.Proofs.Ytbcbcambkjhhhaa
namespace Go.Proofs.Ytbcbcambkjhhhaa
open Go.RowKit
theorem bot_le (f : Int → Int → Int) (a0 a1 b0 b1 : Int) : bot f a0 a1 b0 b1 ≤ f a0 b0 ∧ bot f a0 a1 b0 b1 ≤ f a0 b1 ∧ bot f a0 a1 b0 b1 ≤ f a1 b0 ∧ bot f a0 a1 b0 b1 ≤ f a1 b1 := by
  unfold bot mn
  repeat' split
  all_goals omega
theorem le_top (f : Int → Int → Int) (a0 a1 b0 b1 : Int) : f a0 b0 ≤ top f a0 a1 b0 b1 ∧ f a0 b1 ≤ top f a0 a1 b0 b1 ∧ f a1 b0 ≤ top f a0 a1 b0 b1 ∧ f a1 b1 ≤ top f a0 a1 b0 b1 := by
  unfold top mx
  repeat' split
  all_goals omega
/-- What lies between two, whichever is the lesser one. -/
def Btw (x n y : Int) : Prop := (x ≤ n ∧ n ≤ y) ∨ (y ≤ n ∧ n ≤ x)
/-- The ends tell what is between. -/
theorem corner (f : Int → Int → Int) (a0 a1 b0 b1 x y : Int) (hx : Btw (f a0 y) (f x y) (f a1 y)) (h0 : Btw (f a0 b0) (f a0 y) (f a0 b1)) (h1 : Btw (f a1 b0) (f a1 y) (f a1 b1)) :
    bot f a0 a1 b0 b1 ≤ f x y ∧ f x y ≤ top f a0 a1 b0 b1 := by
  have l := bot_le f a0 a1 b0 b1
  have t := le_top f a0 a1 b0 b1
  unfold Btw at *
  omega
theorem mul_btw (a0 a1 x y : Int) (h0 : a0 ≤ x) (h1 : x ≤ a1) : Btw (a0 * y) (x * y) (a1 * y) := by
  rcases Int.le_total 0 y with hy | hy
  · exact .inl ⟨Int.mul_le_mul_of_nonneg_right h0 hy, Int.mul_le_mul_of_nonneg_right h1 hy⟩
  · exact .inr ⟨Int.mul_le_mul_of_nonpos_right h1 hy, Int.mul_le_mul_of_nonpos_right h0 hy⟩
theorem mul_in (a0 a1 b0 b1 x y : Int) (h0 : a0 ≤ x) (h1 : x ≤ a1) (g0 : b0 ≤ y) (g1 : y ≤ b1) : bot (fun x y => x * y) a0 a1 b0 b1 ≤ x * y ∧ x * y ≤ top (fun x y => x * y) a0 a1 b0 b1 := by
  refine corner (fun x y => x * y) a0 a1 b0 b1 x y (mul_btw a0 a1 x y h0 h1) ?_ ?_
  · have t := mul_btw b0 b1 y a0 g0 g1
    simp only [Int.mul_comm] at t ⊢
    exact t
  · have t := mul_btw b0 b1 y a1 g0 g1
    simp only [Int.mul_comm] at t ⊢
    exact t
/-- Quotients of what is not below nought. -/
theorem td_pos (x x' y y' : Int) (h0 : 0 ≤ x) (h1 : x ≤ x') (g0 : 0 < y') (g1 : y' ≤ y) : 0 ≤ x.tdiv y ∧ x.tdiv y ≤ x'.tdiv y' ∧ x.tdiv y ≤ x := by
  obtain ⟨X, rfl⟩ := Int.eq_ofNat_of_zero_le h0
  obtain ⟨X', rfl⟩ := Int.eq_ofNat_of_zero_le (Int.le_trans h0 h1)
  obtain ⟨Y', rfl⟩ := Int.eq_ofNat_of_zero_le (Int.le_of_lt g0)
  obtain ⟨Y, rfl⟩ := Int.eq_ofNat_of_zero_le (Int.le_trans (Int.le_of_lt g0) g1)
  have e1 : (X : Int).tdiv Y = ((X / Y : Nat) : Int) := rfl
  have e2 : (X' : Int).tdiv Y' = ((X' / Y' : Nat) : Int) := rfl
  rw [e1, e2]
  have t := Nat.div_le_div (a := X) (b := X') (c := Y) (d := Y') (by omega) (by omega) (by omega)
  have u := Nat.div_le_self X Y
  clear e1 e2
  generalize X / Y = q at *
  generalize X' / Y' = q' at *
  omega
theorem td_neg_l (x y : Int) : (-x).tdiv y = -(x.tdiv y) := Int.neg_tdiv ..
theorem td_neg_r (x y : Int) : x.tdiv (-y) = -(x.tdiv y) := Int.tdiv_neg ..
/-- By a number above nought: it rises with what is divided. -/
theorem td_mono (x x' y : Int) (h1 : x ≤ x') (g0 : 0 < y) : x.tdiv y ≤ x'.tdiv y := by
  by_cases hx : 0 ≤ x
  · exact (td_pos x x' y y hx h1 g0 (Int.le_refl _)).2.1
  · have t := td_pos 0 (-x) y y (by omega) (by omega) g0 (Int.le_refl _)
    have t2 := td_neg_l x y
    by_cases hx' : 0 ≤ x'
    · have u := td_pos x' x' y y hx' (Int.le_refl _) g0 (Int.le_refl _)
      omega
    · have v := td_pos (-x') (-x) y y (by omega) (by omega) g0 (Int.le_refl _)
      have v2 := td_neg_l x' y
      omega
theorem td_btw_x (a0 a1 x y : Int) (h0 : a0 ≤ x) (h1 : x ≤ a1) (hy : y ≠ 0) : Btw (a0.tdiv y) (x.tdiv y) (a1.tdiv y) := by
  by_cases g : 0 < y
  · exact .inl ⟨td_mono _ _ _ h0 g, td_mono _ _ _ h1 g⟩
  · have e : ∀ z : Int, z.tdiv y = -(z.tdiv (-y)) := fun z => by have := td_neg_r z (-y); rw [Int.neg_neg] at this; exact this
    rw [e a0, e x, e a1]
    have p := td_mono a0 x (-y) h0 (by omega)
    have q := td_mono x a1 (-y) h1 (by omega)
    exact .inr (by omega)
theorem td_btw_pos (x b0 b1 y : Int) (g : 0 < b0) (h0 : b0 ≤ y) (h1 : y ≤ b1) : Btw (x.tdiv b0) (x.tdiv y) (x.tdiv b1) := by
  by_cases hx : 0 ≤ x
  · exact .inr ⟨(td_pos x x b1 y hx (Int.le_refl _) (by omega) h1).2.1, (td_pos x x y b0 hx (Int.le_refl _) g h0).2.1⟩
  · have e : ∀ z : Int, x.tdiv z = -((-x).tdiv z) := fun z => by have := td_neg_l (-x) z; rw [Int.neg_neg] at this; exact this
    rw [e b0, e y, e b1]
    have p := (td_pos (-x) (-x) b1 y (by omega) (Int.le_refl _) (by omega) h1).2.1
    have q := (td_pos (-x) (-x) y b0 (by omega) (Int.le_refl _) g h0).2.1
    exact .inl (by omega)
theorem td_btw_y (x b0 b1 y : Int) (g : 0 < b0 ∨ b1 < 0) (h0 : b0 ≤ y) (h1 : y ≤ b1) : Btw (x.tdiv b0) (x.tdiv y) (x.tdiv b1) := by
  rcases g with g | g
  · exact td_btw_pos x b0 b1 y g h0 h1
  · have e : ∀ z : Int, x.tdiv z = -(x.tdiv (-z)) := fun z => by have := td_neg_r x (-z); rw [Int.neg_neg] at this; exact this
    rw [e b0, e y, e b1]
    have t := td_btw_pos x (-b1) (-b0) (-y) (by omega) (by omega) (by omega)
    unfold Btw at *
    omega
theorem quo_in (a0 a1 b0 b1 x y : Int) (g : 0 < b0 ∨ b1 < 0) (h0 : a0 ≤ x) (h1 : x ≤ a1) (g0 : b0 ≤ y) (g1 : y ≤ b1) : bot Int.tdiv a0 a1 b0 b1 ≤ x.tdiv y ∧ x.tdiv y ≤ top Int.tdiv a0 a1 b0 b1 :=
  corner Int.tdiv a0 a1 b0 b1 x y (td_btw_x a0 a1 x y h0 h1 (by omega)) (td_btw_y a0 b0 b1 y g g0 g1) (td_btw_y a1 b0 b1 y g g0 g1)
/-- A quotient is no farther from nought than what is divided. -/
theorem td_abs (x y : Int) (m : Int) (h0 : -m ≤ x) (h1 : x ≤ m) (hy : y ≠ 0) : -m ≤ x.tdiv y ∧ x.tdiv y ≤ m := by
  have p : ∀ z : Int, 0 < z → -m ≤ x.tdiv z ∧ x.tdiv z ≤ m := fun z hz => by
    by_cases hx : 0 ≤ x
    · have t := td_pos x x z z hx (Int.le_refl _) hz (Int.le_refl _); omega
    · have t := td_pos (-x) (-x) z z (by omega) (Int.le_refl _) hz (Int.le_refl _)
      have := td_neg_l x z
      omega
  by_cases g : 0 < y
  · exact p y g
  · have t := p (-y) (by omega)
    have := td_neg_r x y
    omega
/-- Rests. -/
theorem tm_pos (x y : Int) (h : 0 ≤ x) (g : 0 < y) : 0 ≤ x.tmod y ∧ x.tmod y < y ∧ x.tmod y ≤ x := by
  obtain ⟨X, rfl⟩ := Int.eq_ofNat_of_zero_le h
  obtain ⟨Y, rfl⟩ := Int.eq_ofNat_of_zero_le (Int.le_of_lt g)
  have e : (X : Int).tmod Y = ((X % Y : Nat) : Int) := rfl
  rw [e]
  have t := Nat.mod_lt X (y := Y) (by omega)
  have u := Nat.mod_le X Y
  clear e
  generalize X % Y = q at *
  omega
theorem tm_any (x y m : Int) (hy : y ≠ 0) (h0 : -m ≤ y) (h1 : y ≤ m) : -(m - 1) ≤ x.tmod y ∧ x.tmod y ≤ m - 1 ∧ ((0 ≤ x ∧ 0 ≤ x.tmod y ∧ x.tmod y ≤ x) ∨ (x ≤ 0 ∧ x ≤ x.tmod y ∧ x.tmod y ≤ 0)) := by
  have p : ∀ z : Int, 0 < z → z ≤ m → -(m - 1) ≤ x.tmod z ∧ x.tmod z ≤ m - 1 ∧ ((0 ≤ x ∧ 0 ≤ x.tmod z ∧ x.tmod z ≤ x) ∨ (x ≤ 0 ∧ x ≤ x.tmod z ∧ x.tmod z ≤ 0)) := fun z hz hm => by
    by_cases hx : 0 ≤ x
    · have t := tm_pos x z hx hz; omega
    · have t := tm_pos (-x) z (by omega) hz
      have e : (-x).tmod z = -(x.tmod z) := Int.neg_tmod ..
      omega
  by_cases g : 0 < y
  · exact p y g h1
  · have t := p (-y) (by omega) (by omega)
    have e : x.tmod (-y) = x.tmod y := Int.tmod_neg ..
    rw [e] at t
    exact t
theorem rest_eq (x y : Int) : x - x.tdiv y * y = x.tmod y := by
  have := Int.tmod_add_tdiv_mul x y
  omega
/-- What a kind makes of two numbers: the number, and which error. -/
def valP (k x y : Int) : Int := if k = 4 then x + y else if k = 5 then x - y else if k = 6 then x * y else if k = 7 then x.tdiv y else x - x.tdiv y * y
def errP (k x y : Int) : Int := if 7 ≤ k ∧ y = 0 then 3 else if valP k x y < -2147483648 ∨ 2147483647 < valP k x y then 2 else 0
theorem errP_or (k x y : Int) : (errP k x y = 3 ∧ 7 ≤ k ∧ y = 0) ∨ (errP k x y = 2 ∧ ¬ (7 ≤ k ∧ y = 0) ∧ (valP k x y < -2147483648 ∨ 2147483647 < valP k x y)) ∨ (errP k x y = 0 ∧ ¬ (7 ≤ k ∧ y = 0) ∧ -2147483648 ≤ valP k x y ∧ valP k x y ≤ 2147483647) := by
  unfold errP
  by_cases h : 7 ≤ k ∧ y = 0
  · rw [if_pos h]; exact .inl ⟨rfl, h⟩
  · rw [if_neg h]
    by_cases g : valP k x y < -2147483648 ∨ 2147483647 < valP k x y
    · rw [if_pos g]; exact .inr (.inl ⟨rfl, h, g⟩)
    · rw [if_neg g]; exact .inr (.inr ⟨rfl, h, by omega, by omega⟩)
/-- What Do tells of a kind and two Itvs, in words. -/
structure DoOk (k a0 a1 b0 b1 z0 z1 : Int) (ov dz : Bool) : Prop where
  norm : (z0 = 1 ∧ z1 = 0) ∨ (z0 ≤ z1 ∧ -2147483648 ≤ z0 ∧ z1 ≤ 2147483647)
  has : ∀ x y, a0 ≤ x → x ≤ a1 → b0 ≤ y → y ≤ b1 → errP k x y = 0 → z0 ≤ valP k x y ∧ valP k x y ≤ z1
  over : ∀ x y, a0 ≤ x → x ≤ a1 → b0 ≤ y → y ≤ b1 → errP k x y = 2 → ov = true
  zero : dz = (decide (7 ≤ k) && decide (b0 ≤ 0 ∧ 0 ≤ b1))
  sure : k ≤ 5 ∨ (a0 = a1 ∧ b0 = b1) → ov = true → ∃ x y, a0 ≤ x ∧ x ≤ a1 ∧ b0 ≤ y ∧ y ≤ b1 ∧ errP k x y = 2
  alone : a0 = a1 ∧ b0 = b1 → (errP k a0 b0 ≠ 0 → z0 = 1 ∧ z1 = 0) ∧ (errP k a0 b0 = 0 → z0 = valP k a0 b0 ∧ z1 = valP k a0 b0)
/-- From the ends' least and greatest one on. -/
theorem ends_ok (k a0 a1 b0 b1 L H z0 z1 : Int) (ov dz : Bool) (ha : a0 ≤ a1) (hb : b0 ≤ b1) (hz : dz = (decide (7 ≤ k) && decide (b0 ≤ 0 ∧ 0 ≤ b1))) (hk : k ≤ 6) (e : ofP L H = (z0, z1)) (ho : ov = (decide (L < -2147483648) || decide (2147483647 < H)))
    (hin : ∀ x y, a0 ≤ x → x ≤ a1 → b0 ≤ y → y ≤ b1 → L ≤ valP k x y ∧ valP k x y ≤ H)
    (hw : k ≤ 5 ∨ (a0 = a1 ∧ b0 = b1) → ∃ x y x' y', a0 ≤ x ∧ x ≤ a1 ∧ b0 ≤ y ∧ y ≤ b1 ∧ valP k x y = L ∧ a0 ≤ x' ∧ x' ≤ a1 ∧ b0 ≤ y' ∧ y' ≤ b1 ∧ valP k x' y' = H) : DoOk k a0 a1 b0 b1 z0 z1 ov dz := by
  have t := ofP_or L H z0 z1 e
  have e0 : ov = true ↔ L < -2147483648 ∨ 2147483647 < H := by rw [ho]; simp
  refine ⟨by omega, fun x y x0 x1 y0 y1 h => ?_, fun x y x0 x1 y0 y1 h => ?_, hz, fun hs ht => ?_, fun hal => ?_⟩
  · have u := hin x y x0 x1 y0 y1
    have v := errP_or k x y
    omega
  · have u := hin x y x0 x1 y0 y1
    have v := errP_or k x y
    exact e0.2 (by omega)
  · obtain ⟨x, y, x', y', g0, g1, g2, g3, g4, g5, g6, g7, g8, g9⟩ := hw hs
    rcases e0.1 ht with h | h
    · exact ⟨x, y, g0, g1, g2, g3, by have v := errP_or k x y; omega⟩
    · exact ⟨x', y', g5, g6, g7, g8, by have v := errP_or k x' y'; omega⟩
  · obtain ⟨x, y, x', y', g0, g1, g2, g3, g4, g5, g6, g7, g8, g9⟩ := hw (.inr hal)
    obtain ⟨rfl, rfl⟩ := hal
    obtain rfl : x = a0 := by omega
    obtain rfl : y = b0 := by omega
    obtain rfl : x' = x := by omega
    obtain rfl : y' = y := by omega
    clear hin hw e0 e ho hz
    have v := errP_or k x' y'
    exact ⟨fun h => by omega, fun h => by omega⟩
end Go.Proofs.Ytbcbcambkjhhhaa
namespace Go.Proofs.Ytbcbcambkjhhhaa
open Go.RowKit
theorem quo_fn (x y : Int) (w : World) (hy : y ≠ 0) (h1 : -9223372036854775808 ≤ x.tdiv y) (h2 : x.tdiv y ≤ 9223372036854775807) :
    Calls Try.prog 165 #[.int .i64 x, .int .i64 y] w fun e w' => e = .returned (.int .i64 (x.tdiv y)) ∧ w = w' := by
  have hy2 : (y == 0) = false := by rw [beq_eq_false_iff_ne]; exact hy
  have hw : wrap64 (x.tdiv y) = x.tdiv y := by unfold wrap64; omega
  go_enter Try.func165, Try.ntmps165
  go_wp2
  go_ret
  exact ⟨by simp, rfl⟩
set_option maxRecDepth 100000 in
set_option maxHeartbeats 2000000 in
theorem ends_mul (f : Int → Int → Int) (a0 a1 b0 b1 : Int) (w : World) (hf : FnOk 140 f a0 a1 b0 b1) :
    Calls Try.prog 137 #[.agg #[.int .i64 a0, .int .i64 a1], .agg #[.int .i64 b0, .int .i64 b1], .func (.func 140) #[] #[]] w fun e w' => e = .returned (.tuple #[.agg #[.int .i64 (ofP (bot f a0 a1 b0 b1) (top f a0 a1 b0 b1)).1, .int .i64 (ofP (bot f a0 a1 b0 b1) (top f a0 a1 b0 b1)).2], .agg #[.bool (decide (bot f a0 a1 b0 b1 < -2147483648) || decide (2147483647 < top f a0 a1 b0 b1)), .bool false]]) ∧ Below w.heap.size w w' := by
  replace hf := Lib.hid hf
  go_enter Try.func137, Try.ntmps137
  go_upto_region 1 with fail
  refine wp_world (fun W => W.heap[w.heap.size]? = some (.cells #[.int .i64 a0, .int .i64 a1] 48 (0, 0)) ∧ W.heap[w.heap.size + 1]? = some (.cells #[.int .i64 b0, .int .i64 b1] 48 (0, 0)) ∧ W.heap[w.heap.size + 2]? = some (.cells #[.int .i64 0, .int .i64 0] 48 (0, 0)) ∧ W.heap[w.heap.size + 3]? = some (.cells #[.bool false, .bool false] 96 (0, 0)) ∧ Below w.heap.size w W) ⟨blkUp (blkUp (blkUp (blkA _ _ (by first | rfl | simp only [World.size_alloc])) _) _) _, blkUp (blkUp (blkA _ _ (by first | rfl | simp only [World.size_alloc])) _) _, blkUp (blkA _ _ (by first | rfl | simp only [World.size_alloc])) _, blkA _ _ (by first | rfl | simp only [World.size_alloc]), ((((Below.refl _ _).alloc (by first | exact Nat.le_refl _ | (simp only [World.size_alloc]; omega)) _).alloc (by first | exact Nat.le_refl _ | (simp only [World.size_alloc]; omega)) _).alloc (by first | exact Nat.le_refl _ | (simp only [World.size_alloc]; omega)) _).alloc (by first | exact Nat.le_refl _ | (simp only [World.size_alloc]; omega)) _⟩ ?_
  rintro w1 ⟨k0, k1, k2, k3, hB⟩
  have r0 := row_of k0
  have f0 := frozen_of k0
  have z0 := blk_lt k0
  have r1 := row_of k1
  have f1 := frozen_of k1
  have z1 := blk_lt k1
  have r2 := row_of k2
  have f2 := frozen_of k2
  have z2 := blk_lt k2
  have r3 := row_of k3
  have f3 := frozen_of k3
  have z3 := blk_lt k3
  have hS : w1.cell? ⟨w.heap.size, 0, none⟩ = some (.int .i64 a0) ∧ w1.cell? ⟨w.heap.size, 1, none⟩ = some (.int .i64 a1) ∧ w1.cell? ⟨w.heap.size + 1, 0, none⟩ = some (.int .i64 b0) ∧ w1.cell? ⟨w.heap.size + 1, 1, none⟩ = some (.int .i64 b1) := ⟨row_of k0 0, row_of k0 1, row_of k1 0, row_of k1 1⟩
  have hS2 := hS
  obtain ⟨q0, q1, q2, q3⟩ := hS2
  clear r0 f0 z0 r1 f1 z1 r2 f2 z2 r3 f3 z3
  go_region_held3 (fun W => W.cell? ⟨w.heap.size, 0, none⟩ = some (.int .i64 a0) ∧ W.cell? ⟨w.heap.size, 1, none⟩ = some (.int .i64 a1) ∧ W.cell? ⟨w.heap.size + 1, 0, none⟩ = some (.int .i64 b0) ∧ W.cell? ⟨w.heap.size + 1, 1, none⟩ = some (.int .i64 b1)) (first | assumption | exact hS | go_keep) (first | (go_at_call 140; refine (hf.out _ _ _ (by simp) (by simp)).mono ?_; rintro e wn ⟨rfl, rfl⟩))
  go_upto_region 2 with fail
  clear hS q0 q1 q2 q3
  have hz1_0 : w.heap.size < w1.heap.size := blk_lt k0
  have hz1_1 : w.heap.size + 1 < w1.heap.size := blk_lt k1
  have hz1_2 : w.heap.size + 2 < w1.heap.size := blk_lt k2
  have hz1_3 : w.heap.size + 3 < w1.heap.size := blk_lt k3
  refine wp_world (fun W => W.heap[w.heap.size]? = some (.cells #[.int .i64 a0, .int .i64 a1] 48 (0, 0)) ∧ W.heap[w.heap.size + 1]? = some (.cells #[.int .i64 b0, .int .i64 b1] 48 (0, 0)) ∧ W.heap[w.heap.size + 2]? = some (.cells #[.int .i64 0, .int .i64 0] 48 (0, 0)) ∧ W.heap[w.heap.size + 3]? = some (.cells #[.bool false, .bool false] 96 (0, 0)) ∧ W.heap[w1.heap.size]? = some (.cells #[.int .i64 (f a0 b0), .int .i64 (f a0 b1), .int .i64 (f a1 b0), .int .i64 (f a1 b1)] 3 (0, 0)) ∧ Below w.heap.size w W) ⟨blkUp (k0) _, blkUp (k1) _, blkUp (k2) _, blkUp (k3) _, blkA _ _ (by first | rfl | simp only [World.size_alloc]), ((hB).alloc (by first | exact hB.size | (simp only [World.size_alloc]; omega)) _).drew⟩ ?_
  rintro w2 ⟨k0, k1, k2, k3, k4, hB⟩
  have r0 := row_of k0
  have f0 := frozen_of k0
  have z0 := blk_lt k0
  have r1 := row_of k1
  have f1 := frozen_of k1
  have z1 := blk_lt k1
  have r2 := row_of k2
  have f2 := frozen_of k2
  have z2 := blk_lt k2
  have r3 := row_of k3
  have f3 := frozen_of k3
  have z3 := blk_lt k3
  have r4 := row_of k4
  have f4 := frozen_of k4
  have z4 := blk_lt k4
  clear k0 r0 f0 z0 k1 r1 f1 z1
  go_wp2_with fail
  refine (min4 _ _ _ _ _ _ z4 (row_of k4 0) (row_of k4 1) (row_of k4 2) (row_of k4 3)).mono ?_
  rw [show mn (mn (mn (f a0 b0) (f a0 b1)) (f a1 b0)) (f a1 b1) = bot f a0 a1 b0 b1 from rfl]
  rintro e wq ⟨rfl, rfl⟩
  go_wp2_with fail
  refine (max4 _ _ _ _ _ _ z4 (row_of k4 0) (row_of k4 1) (row_of k4 2) (row_of k4 3)).mono ?_
  rw [show mx (mx (mx (f a0 b0) (f a0 b1)) (f a1 b0)) (f a1 b1) = top f a0 a1 b0 b1 from rfl]
  rintro e wq ⟨rfl, rfl⟩
  clear k4 r4 f4 z4
  generalize hLd : bot f a0 a1 b0 b1 = L
  generalize hHd : top f a0 a1 b0 b1 = H
  go_upto_region 3 with fail
  clear hf
  by_cases hL : L < -2147483648
  · have hd := decide_eq_true hL
    go_wp2_with fail
    refine (of_any _ _ _).mono ?_
    rintro e w3 ⟨rfl, hb⟩
    replace k2 := blk_keep hb k2
    replace k3 := blk_keep hb k3
    replace hB := hB.trans (hb.mono hB.size)
    clear r2 f2 z2 r3 f3 z3
    clear hb
    have r2 := row_of k2
    have f2 := frozen_of k2
    have z2 := blk_lt k2
    have r3 := row_of k3
    have f3 := frozen_of k3
    have z3 := blk_lt k3
    go_wp2_with fail
    generalize hWF : (World.setCell (World.setCell (World.setCell (World.setCell _ _ _) _ _) _ _) _ _) = WF
    obtain ⟨kF, kG, bF⟩ := put22 (by omega) k2 k3 _ _ _ _ hWF.symm
    clear r2 f2 z2 r3 f3 z3
    clear hWF
    have rF := row_of kF
    have rG := row_of kG
    exact bodyPost_ret (v := .tuple #[.agg #[.int .i64 (ofP L H).1, .int .i64 (ofP L H).2], .agg #[.bool (true), .bool false]]) (by simp [results, Try.results137, go_sem, rF, rG]) rfl ⟨by subst hLd hHd; rw [hd]; rfl, hB.trans (bF _ (by show w.heap.size ≤ w.heap.size + 2; omega) (by show w.heap.size ≤ w.heap.size + 3; omega))⟩
  · have hd := decide_eq_false hL
    go_wp2_with fail
    refine (of_any _ _ _).mono ?_
    rintro e w3 ⟨rfl, hb⟩
    replace k2 := blk_keep hb k2
    replace k3 := blk_keep hb k3
    replace hB := hB.trans (hb.mono hB.size)
    clear r2 f2 z2 r3 f3 z3
    clear hb
    have r2 := row_of k2
    have f2 := frozen_of k2
    have z2 := blk_lt k2
    have r3 := row_of k3
    have f3 := frozen_of k3
    have z3 := blk_lt k3
    go_wp2_with fail
    generalize hWF : (World.setCell (World.setCell (World.setCell (World.setCell _ _ _) _ _) _ _) _ _) = WF
    obtain ⟨kF, kG, bF⟩ := put22 (by omega) k2 k3 _ _ _ _ hWF.symm
    clear r2 f2 z2 r3 f3 z3
    clear hWF
    have rF := row_of kF
    have rG := row_of kG
    exact bodyPost_ret (v := .tuple #[.agg #[.int .i64 (ofP L H).1, .int .i64 (ofP L H).2], .agg #[.bool (decide (2147483647 < H)), .bool false]]) (by simp [results, Try.results137, go_sem, rF, rG]) rfl ⟨by subst hLd hHd; rw [hd]; rfl, hB.trans (bF _ (by show w.heap.size ≤ w.heap.size + 2; omega) (by show w.heap.size ≤ w.heap.size + 3; omega))⟩
set_option maxRecDepth 100000 in
set_option maxHeartbeats 2000000 in
theorem ends_quo (f : Int → Int → Int) (a0 a1 b0 b1 : Int) (w : World) (hf : FnOk 165 f a0 a1 b0 b1) :
    Calls Try.prog 137 #[.agg #[.int .i64 a0, .int .i64 a1], .agg #[.int .i64 b0, .int .i64 b1], .func (.func 165) #[] #[]] w fun e w' => e = .returned (.tuple #[.agg #[.int .i64 (ofP (bot f a0 a1 b0 b1) (top f a0 a1 b0 b1)).1, .int .i64 (ofP (bot f a0 a1 b0 b1) (top f a0 a1 b0 b1)).2], .agg #[.bool (decide (bot f a0 a1 b0 b1 < -2147483648) || decide (2147483647 < top f a0 a1 b0 b1)), .bool false]]) ∧ Below w.heap.size w w' := by
  replace hf := Lib.hid hf
  go_enter Try.func137, Try.ntmps137
  go_upto_region 1 with fail
  refine wp_world (fun W => W.heap[w.heap.size]? = some (.cells #[.int .i64 a0, .int .i64 a1] 48 (0, 0)) ∧ W.heap[w.heap.size + 1]? = some (.cells #[.int .i64 b0, .int .i64 b1] 48 (0, 0)) ∧ W.heap[w.heap.size + 2]? = some (.cells #[.int .i64 0, .int .i64 0] 48 (0, 0)) ∧ W.heap[w.heap.size + 3]? = some (.cells #[.bool false, .bool false] 96 (0, 0)) ∧ Below w.heap.size w W) ⟨blkUp (blkUp (blkUp (blkA _ _ (by first | rfl | simp only [World.size_alloc])) _) _) _, blkUp (blkUp (blkA _ _ (by first | rfl | simp only [World.size_alloc])) _) _, blkUp (blkA _ _ (by first | rfl | simp only [World.size_alloc])) _, blkA _ _ (by first | rfl | simp only [World.size_alloc]), ((((Below.refl _ _).alloc (by first | exact Nat.le_refl _ | (simp only [World.size_alloc]; omega)) _).alloc (by first | exact Nat.le_refl _ | (simp only [World.size_alloc]; omega)) _).alloc (by first | exact Nat.le_refl _ | (simp only [World.size_alloc]; omega)) _).alloc (by first | exact Nat.le_refl _ | (simp only [World.size_alloc]; omega)) _⟩ ?_
  rintro w1 ⟨k0, k1, k2, k3, hB⟩
  have r0 := row_of k0
  have f0 := frozen_of k0
  have z0 := blk_lt k0
  have r1 := row_of k1
  have f1 := frozen_of k1
  have z1 := blk_lt k1
  have r2 := row_of k2
  have f2 := frozen_of k2
  have z2 := blk_lt k2
  have r3 := row_of k3
  have f3 := frozen_of k3
  have z3 := blk_lt k3
  have hS : w1.cell? ⟨w.heap.size, 0, none⟩ = some (.int .i64 a0) ∧ w1.cell? ⟨w.heap.size, 1, none⟩ = some (.int .i64 a1) ∧ w1.cell? ⟨w.heap.size + 1, 0, none⟩ = some (.int .i64 b0) ∧ w1.cell? ⟨w.heap.size + 1, 1, none⟩ = some (.int .i64 b1) := ⟨row_of k0 0, row_of k0 1, row_of k1 0, row_of k1 1⟩
  have hS2 := hS
  obtain ⟨q0, q1, q2, q3⟩ := hS2
  clear r0 f0 z0 r1 f1 z1 r2 f2 z2 r3 f3 z3
  go_region_held3 (fun W => W.cell? ⟨w.heap.size, 0, none⟩ = some (.int .i64 a0) ∧ W.cell? ⟨w.heap.size, 1, none⟩ = some (.int .i64 a1) ∧ W.cell? ⟨w.heap.size + 1, 0, none⟩ = some (.int .i64 b0) ∧ W.cell? ⟨w.heap.size + 1, 1, none⟩ = some (.int .i64 b1)) (first | assumption | exact hS | go_keep) (first | (go_at_call 165; refine (hf.out _ _ _ (by simp) (by simp)).mono ?_; rintro e wn ⟨rfl, rfl⟩))
  go_upto_region 2 with fail
  clear hS q0 q1 q2 q3
  have hz1_0 : w.heap.size < w1.heap.size := blk_lt k0
  have hz1_1 : w.heap.size + 1 < w1.heap.size := blk_lt k1
  have hz1_2 : w.heap.size + 2 < w1.heap.size := blk_lt k2
  have hz1_3 : w.heap.size + 3 < w1.heap.size := blk_lt k3
  refine wp_world (fun W => W.heap[w.heap.size]? = some (.cells #[.int .i64 a0, .int .i64 a1] 48 (0, 0)) ∧ W.heap[w.heap.size + 1]? = some (.cells #[.int .i64 b0, .int .i64 b1] 48 (0, 0)) ∧ W.heap[w.heap.size + 2]? = some (.cells #[.int .i64 0, .int .i64 0] 48 (0, 0)) ∧ W.heap[w.heap.size + 3]? = some (.cells #[.bool false, .bool false] 96 (0, 0)) ∧ W.heap[w1.heap.size]? = some (.cells #[.int .i64 (f a0 b0), .int .i64 (f a0 b1), .int .i64 (f a1 b0), .int .i64 (f a1 b1)] 3 (0, 0)) ∧ Below w.heap.size w W) ⟨blkUp (k0) _, blkUp (k1) _, blkUp (k2) _, blkUp (k3) _, blkA _ _ (by first | rfl | simp only [World.size_alloc]), ((hB).alloc (by first | exact hB.size | (simp only [World.size_alloc]; omega)) _).drew⟩ ?_
  rintro w2 ⟨k0, k1, k2, k3, k4, hB⟩
  have r0 := row_of k0
  have f0 := frozen_of k0
  have z0 := blk_lt k0
  have r1 := row_of k1
  have f1 := frozen_of k1
  have z1 := blk_lt k1
  have r2 := row_of k2
  have f2 := frozen_of k2
  have z2 := blk_lt k2
  have r3 := row_of k3
  have f3 := frozen_of k3
  have z3 := blk_lt k3
  have r4 := row_of k4
  have f4 := frozen_of k4
  have z4 := blk_lt k4
  clear k0 r0 f0 z0 k1 r1 f1 z1
  go_wp2_with fail
  refine (min4 _ _ _ _ _ _ z4 (row_of k4 0) (row_of k4 1) (row_of k4 2) (row_of k4 3)).mono ?_
  rw [show mn (mn (mn (f a0 b0) (f a0 b1)) (f a1 b0)) (f a1 b1) = bot f a0 a1 b0 b1 from rfl]
  rintro e wq ⟨rfl, rfl⟩
  go_wp2_with fail
  refine (max4 _ _ _ _ _ _ z4 (row_of k4 0) (row_of k4 1) (row_of k4 2) (row_of k4 3)).mono ?_
  rw [show mx (mx (mx (f a0 b0) (f a0 b1)) (f a1 b0)) (f a1 b1) = top f a0 a1 b0 b1 from rfl]
  rintro e wq ⟨rfl, rfl⟩
  clear k4 r4 f4 z4
  generalize hLd : bot f a0 a1 b0 b1 = L
  generalize hHd : top f a0 a1 b0 b1 = H
  go_upto_region 3 with fail
  clear hf
  by_cases hL : L < -2147483648
  · have hd := decide_eq_true hL
    go_wp2_with fail
    refine (of_any _ _ _).mono ?_
    rintro e w3 ⟨rfl, hb⟩
    replace k2 := blk_keep hb k2
    replace k3 := blk_keep hb k3
    replace hB := hB.trans (hb.mono hB.size)
    clear r2 f2 z2 r3 f3 z3
    clear hb
    have r2 := row_of k2
    have f2 := frozen_of k2
    have z2 := blk_lt k2
    have r3 := row_of k3
    have f3 := frozen_of k3
    have z3 := blk_lt k3
    go_wp2_with fail
    generalize hWF : (World.setCell (World.setCell (World.setCell (World.setCell _ _ _) _ _) _ _) _ _) = WF
    obtain ⟨kF, kG, bF⟩ := put22 (by omega) k2 k3 _ _ _ _ hWF.symm
    clear r2 f2 z2 r3 f3 z3
    clear hWF
    have rF := row_of kF
    have rG := row_of kG
    exact bodyPost_ret (v := .tuple #[.agg #[.int .i64 (ofP L H).1, .int .i64 (ofP L H).2], .agg #[.bool (true), .bool false]]) (by simp [results, Try.results137, go_sem, rF, rG]) rfl ⟨by subst hLd hHd; rw [hd]; rfl, hB.trans (bF _ (by show w.heap.size ≤ w.heap.size + 2; omega) (by show w.heap.size ≤ w.heap.size + 3; omega))⟩
  · have hd := decide_eq_false hL
    go_wp2_with fail
    refine (of_any _ _ _).mono ?_
    rintro e w3 ⟨rfl, hb⟩
    replace k2 := blk_keep hb k2
    replace k3 := blk_keep hb k3
    replace hB := hB.trans (hb.mono hB.size)
    clear r2 f2 z2 r3 f3 z3
    clear hb
    have r2 := row_of k2
    have f2 := frozen_of k2
    have z2 := blk_lt k2
    have r3 := row_of k3
    have f3 := frozen_of k3
    have z3 := blk_lt k3
    go_wp2_with fail
    generalize hWF : (World.setCell (World.setCell (World.setCell (World.setCell _ _ _) _ _) _ _) _ _) = WF
    obtain ⟨kF, kG, bF⟩ := put22 (by omega) k2 k3 _ _ _ _ hWF.symm
    clear r2 f2 z2 r3 f3 z3
    clear hWF
    have rF := row_of kF
    have rG := row_of kG
    exact bodyPost_ret (v := .tuple #[.agg #[.int .i64 (ofP L H).1, .int .i64 (ofP L H).2], .agg #[.bool (decide (2147483647 < H)), .bool false]]) (by simp [results, Try.results137, go_sem, rF, rG]) rfl ⟨by subst hLd hHd; rw [hd]; rfl, hB.trans (bF _ (by show w.heap.size ≤ w.heap.size + 2; omega) (by show w.heap.size ≤ w.heap.size + 3; omega))⟩
end Go.Proofs.Ytbcbcambkjhhhaa
namespace Go.Proofs.Ytbcbcambkjhhhaa
open Go.RowKit
def DvRel (w : World) (g6 g7 gs : Nat) (a0 a1 : Int) (pl ph al ah : Nat → Int) (ov : Nat → Bool) (dz : Bool) (vi : Value) (wr : World) : Prop :=
  ∃ k : Nat, k ≤ 2 ∧ vi = .int .i64 k ∧ wr.heap[w.heap.size]? = some (.cells #[.int .i64 a0, .int .i64 a1] 48 (0, 0)) ∧ wr.heap[w.heap.size + 2]? = some (.cells #[.int .i64 0, .int .i64 0] 48 (0, 0)) ∧ wr.heap[w.heap.size + 3]? = some (.cells #[.bool false, .bool false] 96 (0, 0)) ∧ wr.heap[g6]? = some (.cells #[.int .i64 (al k), .int .i64 (ah k)] 48 (0, 0)) ∧ wr.heap[g7]? = some (.cells #[.bool (ov k), .bool dz] 96 (0, 0)) ∧ wr.heap[gs]? = some (.cells #[.int .i64 (pl 0), .int .i64 (ph 0), .int .i64 (pl 1), .int .i64 (ph 1)] 48 (0, 0)) ∧ Below w.heap.size w wr
set_option maxRecDepth 100000 in
set_option maxHeartbeats 8000000 in
theorem div_gen (a0 a1 b0 b1 : Int) (pl ph al ah e0 e1 : Nat → Int) (ov o : Nat → Bool) (w : World)
    (cm0 : ∀ W, Calls Try.prog 119 #[.agg #[.int .i64 b0, .int .i64 b1], .agg #[.int .i64 (-2147483648), .int .i64 (-1)]] W fun e w' => e = .returned (.agg #[.int .i64 (pl 0), .int .i64 (ph 0)]) ∧ Below W.heap.size W w')
    (cm1 : ∀ W, Calls Try.prog 119 #[.agg #[.int .i64 b0, .int .i64 b1], .agg #[.int .i64 1, .int .i64 2147483647]] W fun e w' => e = .returned (.agg #[.int .i64 (pl 1), .int .i64 (ph 1)]) ∧ Below W.heap.size W w')
    (hs : al 0 = 1 ∧ ah 0 = 0 ∧ ov 0 = false)
    (hno : ∀ k, k < 2 → ph k < pl k → al (k + 1) = al k ∧ ah (k + 1) = ah k ∧ ov (k + 1) = ov k)
    (ce : ∀ k, k < 2 → pl k ≤ ph k → ∀ W, Calls Try.prog 137 #[.agg #[.int .i64 a0, .int .i64 a1], .agg #[.int .i64 (pl k), .int .i64 (ph k)], .func (.func 165) #[] #[]] W fun e w' => e = .returned (.tuple #[.agg #[.int .i64 (e0 k), .int .i64 (e1 k)], .agg #[.bool (o k), .bool false]]) ∧ Below W.heap.size W w')
    (cj : ∀ k, k < 2 → pl k ≤ ph k → ∀ W, Calls Try.prog 70 #[.agg #[.int .i64 (al k), .int .i64 (ah k)], .agg #[.int .i64 (e0 k), .int .i64 (e1 k)]] W fun e w' => e = .returned (.agg #[.int .i64 (al (k + 1)), .int .i64 (ah (k + 1))]) ∧ Below W.heap.size W w')
    (hov : ∀ k, k < 2 → pl k ≤ ph k → ov (k + 1) = (ov k || o k)) :
    Calls Try.prog 141 #[.agg #[.int .i64 a0, .int .i64 a1], .agg #[.int .i64 b0, .int .i64 b1]] w fun e w' => e = .returned (.tuple #[.agg #[.int .i64 (al 2), .int .i64 (ah 2)], .agg #[.bool (ov 2), .bool (decide (b0 ≤ 0 ∧ 0 ≤ b1))]]) ∧ Below w.heap.size w w' := by
  replace cm0 := Lib.hid cm0
  replace cm1 := Lib.hid cm1
  replace hs := Lib.hid hs
  replace hno := Lib.hid hno
  replace ce := Lib.hid ce
  replace cj := Lib.hid cj
  replace hov := Lib.hid hov
  have c0 := Lib.hid (fun W => of_in (-2147483648) (-1) W (by decide) (by decide) (by decide))
  have c1 := Lib.hid (fun W => of_in 1 2147483647 W (by decide) (by decide) (by decide))
  generalize hdz : decide (b0 ≤ 0 ∧ 0 ≤ b1) = dz
  have hdz2 := Lib.hid hdz
  clear hdz
  go_enter Try.func141, Try.ntmps141
  go_upto_region 1 with fail
  refine wp_world (fun W => W.heap[w.heap.size]? = some (.cells #[.int .i64 a0, .int .i64 a1] 48 (0, 0)) ∧ W.heap[w.heap.size + 1]? = some (.cells #[.int .i64 b0, .int .i64 b1] 48 (0, 0)) ∧ W.heap[w.heap.size + 2]? = some (.cells #[.int .i64 0, .int .i64 0] 48 (0, 0)) ∧ W.heap[w.heap.size + 3]? = some (.cells #[.bool false, .bool false] 96 (0, 0)) ∧ Below w.heap.size w W) ⟨blkUp (blkUp (blkUp (blkA _ _ (by first | rfl | simp only [World.size_alloc])) _) _) _, blkUp (blkUp (blkA _ _ (by first | rfl | simp only [World.size_alloc])) _) _, blkUp (blkA _ _ (by first | rfl | simp only [World.size_alloc])) _, blkA _ _ (by first | rfl | simp only [World.size_alloc]), ((((Below.refl _ _).alloc (by first | exact Nat.le_refl _ | (simp only [World.size_alloc]; omega)) _).alloc (by first | exact Nat.le_refl _ | (simp only [World.size_alloc]; omega)) _).alloc (by first | exact Nat.le_refl _ | (simp only [World.size_alloc]; omega)) _).alloc (by first | exact Nat.le_refl _ | (simp only [World.size_alloc]; omega)) _⟩ ?_
  rintro w1 ⟨k0, k1, k2, k3, hB⟩
  have r0 := row_of k0
  have f0 := frozen_of k0
  have z0 := blk_lt k0
  have r1 := row_of k1
  have f1 := frozen_of k1
  have z1 := blk_lt k1
  have r2 := row_of k2
  have f2 := frozen_of k2
  have z2 := blk_lt k2
  have r3 := row_of k3
  have f3 := frozen_of k3
  have z3 := blk_lt k3
  clear r0 f0 z0 r1 f1 z1 r2 f2 z2 r3 f3 z3
  go_upto_region 1 with fail
  have mkS := four_of k0 k1
  go_cut [6, 7] from 12 to 49 (fun e5 e6 wx => TwoCut w1 48 96 (.int .i64 1) (.int .i64 0) (.bool false) (.bool dz) e5 e6 wx)
  case first =>
    as_aux_lemma =>
      have hBn := Below.refl w1.heap.size w1
      have zz := hB
      have zb0 := blk_lt k0
      have zb1 := blk_lt k1
      have zb2 := blk_lt k2
      have zb3 := blk_lt k3
      clear hB k0 k1 k2 k3
      have hdz3 := hdz2.out
      go_region_held3 (fun W => W.cell? ⟨w.heap.size, 0, none⟩ = some (.int .i64 a0) ∧ W.cell? ⟨w.heap.size, 1, none⟩ = some (.int .i64 a1) ∧ W.cell? ⟨w.heap.size + 1, 0, none⟩ = some (.int .i64 b0) ∧ W.cell? ⟨w.heap.size + 1, 1, none⟩ = some (.int .i64 b1))
          (first | (with_reducible exact mkS _ (hBn)) | (with_reducible exact mkS _ (below_al hBn _)) | (with_reducible exact mkS _ (below_al (below_al hBn _) _)) | (with_reducible exact mkS _ (below_put hBn zx)) | (with_reducible exact mkS _ (below_al (below_put hBn zx) _)) | (with_reducible exact mkS _ (below_put hBn zy)) | (with_reducible exact mkS _ (below_al (below_put hBn zy) _)) | (with_reducible exact mkS _ (below_put (below_put hBn zx) zy)) | (with_reducible exact mkS _ (below_put (below_put hBn zy) zx)) | (with_reducible exact mkS _ (Below.drew (hBn))) | (with_reducible exact mkS _ (Below.drew (below_al hBn _))) | (with_reducible exact mkS _ (Below.drew (below_al (below_al hBn _) _))))
          (first
            | (go_at_call 78; refine (none_any _).mono ?_; rintro e wn ⟨rfl, hbS⟩; (try (with_reducible replace hbS := below_undrew hbS)); (with_reducible first
              | (have kx := blkT2a hbS; have ky := blkT2b hbS; have zx := hBn.size; have zy := Nat.le_succ_of_le hBn.size; replace hBn := below_tr (below_al (below_al hBn _) _) hbS)
              | (have ky := blkT1 hbS; have zy := hBn.size; have nxy := Nat.ne_of_lt (blk_lt kx); replace kx := blk_keep hbS (blkUp kx _); replace hBn := below_tr (below_al hBn _) hbS)
              | (have kx := blkT1 hbS; have zx := hBn.size; replace hBn := below_tr (below_al hBn _) hbS)
              | (replace kx := blk_keep hbS kx; replace ky := blk_keep hbS ky; replace hBn := below_tr hBn hbS)
              | (replace kx := blk_keep hbS kx; replace hBn := below_tr hBn hbS)
              | (replace hBn := below_tr hBn hbS)); (try (have rx := row_of kx; have fx := frozen_of kx; have lx := blk_lt kx)); (try (have ry := row_of ky; have fy := frozen_of ky; have ly := blk_lt ky)))
            | (go_at_call 45; refine (has_any _ _ _ _).mono ?_; rintro e wn ⟨rfl, hbS⟩; (try (with_reducible replace hbS := below_undrew hbS)); (with_reducible first
              | (have kx := blkT2a hbS; have ky := blkT2b hbS; have zx := hBn.size; have zy := Nat.le_succ_of_le hBn.size; replace hBn := below_tr (below_al (below_al hBn _) _) hbS)
              | (have ky := blkT1 hbS; have zy := hBn.size; have nxy := Nat.ne_of_lt (blk_lt kx); replace kx := blk_keep hbS (blkUp kx _); replace hBn := below_tr (below_al hBn _) hbS)
              | (have kx := blkT1 hbS; have zx := hBn.size; replace hBn := below_tr (below_al hBn _) hbS)
              | (replace kx := blk_keep hbS kx; replace ky := blk_keep hbS ky; replace hBn := below_tr hBn hbS)
              | (replace kx := blk_keep hbS kx; replace hBn := below_tr hBn hbS)
              | (replace hBn := below_tr hBn hbS)); (try (have rx := row_of kx; have fx := frozen_of kx; have lx := blk_lt kx)); (try (have ry := row_of ky; have fy := frozen_of ky; have ly := blk_lt ky))))
      all_goals
        go_wp2_with fail
        go_meet
        refine ⟨_, _, rfl, rfl, ?_, ?_, ?_, ?_, ?_, ?_⟩
        · first | exact nxy | exact nxy.symm | omega
        · first | exact zx | exact zy | exact hBn.size | exact Nat.le_succ_of_le hBn.size | omega
        · first | exact zy | exact zx | exact hBn.size | exact Nat.le_succ_of_le hBn.size | omega
        · first | (with_reducible exact blkP _ _ _ _ _) | (with_reducible exact blkA _ _ rfl) | (with_reducible exact blkUp (blkA _ _ rfl) _) | (with_reducible exact blkA _ _ (by simp only [World.size_alloc])) | (with_reducible exact setab kx) | (with_reducible exact setno (setab kx) (by omega)) | (with_reducible exact setab (setno kx (by omega))) | (with_reducible exact blkUp (setab kx) _) | (with_reducible exact blkUp (setno (setab kx) (by omega)) _) | (with_reducible exact setab ky) | (with_reducible exact setno (setab ky) (by omega)) | (with_reducible exact setab (setno ky (by omega))) | (with_reducible exact blkUp (setab ky) _) | (with_reducible exact blkUp (setno (setab ky) (by omega)) _)
        · first | (with_reducible exact blkP _ _ _ _ _) | (with_reducible exact blkA _ _ rfl) | (with_reducible exact blkUp (blkA _ _ rfl) _) | (with_reducible exact blkA _ _ (by simp only [World.size_alloc])) | (with_reducible exact setab kx) | (with_reducible exact setno (setab kx) (by omega)) | (with_reducible exact setab (setno kx (by omega))) | (with_reducible exact blkUp (setab kx) _) | (with_reducible exact blkUp (setno (setab kx) (by omega)) _) | (with_reducible exact setab ky) | (with_reducible exact setno (setab ky) (by omega)) | (with_reducible exact setab (setno ky (by omega))) | (with_reducible exact blkUp (setab ky) _) | (with_reducible exact blkUp (setno (setab ky) (by omega)) _)
        · first | (with_reducible exact hBn) | (with_reducible exact below_al hBn _) | (with_reducible exact below_al (below_al hBn _) _) | (with_reducible exact below_put hBn zx) | (with_reducible exact below_al (below_put hBn zx) _) | (with_reducible exact below_put hBn zy) | (with_reducible exact below_al (below_put hBn zy) _) | (with_reducible exact below_put (below_put hBn zx) zy) | (with_reducible exact below_put (below_put hBn zy) zx) | (with_reducible exact Below.drew (hBn)) | (with_reducible exact Below.drew (below_al hBn _)) | (with_reducible exact Below.drew (below_al (below_al hBn _) _))
  case rest =>
    as_aux_lemma =>
      obtain ⟨g1a, g1b, rfl, rfl, hne1, hla1, hlb1, kA, kB, hb⟩ := hcut
      have hv1_0 := blk_lt k0
      have hv1_1 := blk_lt k1
      have hv1_2 := blk_lt k2
      have hv1_3 := blk_lt k3
      replace k0 := blk_keep hb k0
      replace k1 := blk_keep hb k1
      replace k2 := blk_keep hb k2
      replace k3 := blk_keep hb k3
      have k4 := kA
      have k5 := kB
      replace hB := hB.trans (hb.mono hB.size)
      clear hb kA kB mkS
      have r0 := row_of k0
      have f0 := frozen_of k0
      have z0 := blk_lt k0
      have r1 := row_of k1
      have f1 := frozen_of k1
      have z1 := blk_lt k1
      have r2 := row_of k2
      have f2 := frozen_of k2
      have z2 := blk_lt k2
      have r3 := row_of k3
      have f3 := frozen_of k3
      have z3 := blk_lt k3
      have r4 := row_of k4
      have f4 := frozen_of k4
      have z4 := blk_lt k4
      have r5 := row_of k5
      have f5 := frozen_of k5
      have z5 := blk_lt k5
      go_upto_region 2 with fail
      refine wp_world (fun W => W.heap[w.heap.size]? = some (.cells #[.int .i64 a0, .int .i64 a1] 48 (0, 0)) ∧ W.heap[w.heap.size + 1]? = some (.cells #[.int .i64 b0, .int .i64 b1] 48 (0, 0)) ∧ W.heap[w.heap.size + 2]? = some (.cells #[.int .i64 0, .int .i64 0] 48 (0, 0)) ∧ W.heap[w.heap.size + 3]? = some (.cells #[.bool false, .bool false] 96 (0, 0)) ∧ W.heap[g1a]? = some (.cells #[.int .i64 1, .int .i64 0] 48 (0, 0)) ∧ W.heap[g1b]? = some (.cells #[.bool false, .bool dz] 96 (0, 0)) ∧ Below w.heap.size w W) ⟨k0, k1, k2, k3, k4, k5, hB⟩ ?_
      clear r0 f0 z0 r1 f1 z1 r2 f2 z2 r3 f3 z3 r4 f4 z4 r5 f5 z5
      clear hB k0 k1 k2 k3 k4 k5
      rintro w3 ⟨k0, k1, k2, k3, k4, k5, hB⟩
      have hq4 := blk_lt k4
      have hq5 := blk_lt k5
      have mkS : ∀ W, Below w3.heap.size w3 W → W.cell? ⟨w.heap.size + 1, 0, none⟩ = some (.int .i64 b0) ∧ W.cell? ⟨w.heap.size + 1, 1, none⟩ = some (.int .i64 b1) := fun W h => ⟨row_of (blk_keep h k1) 0, row_of (blk_keep h k1) 1⟩
      have hBn := Below.refl w3.heap.size w3
      have sv0 := k0
      have sv1 := k1
      have sv2 := k2
      have sv3 := k3
      have sv4 := k4
      have sv5 := k5
      clear k0 k1 k2 k3 k4 k5
      go_region_held3 (fun W => W.cell? ⟨w.heap.size + 1, 0, none⟩ = some (.int .i64 b0) ∧ W.cell? ⟨w.heap.size + 1, 1, none⟩ = some (.int .i64 b1))
          (first | (with_reducible exact mkS _ hBn) | (with_reducible exact mkS _ (Below.drew hBn)) | (with_reducible exact mkS _ (below_al hBn _)) | (with_reducible exact mkS _ (Below.drew (below_al hBn _))))
          (first
            | (go_at_call 68; (with_reducible refine (c0.out _).mono ?_); rintro e wn ⟨rfl, hbS⟩; (try (with_reducible replace hbS := below_undrew hbS)); replace hBn := below_tr hBn hbS)
            | (go_at_call 68; (with_reducible refine (c1.out _).mono ?_); rintro e wn ⟨rfl, hbS⟩; (try (with_reducible replace hbS := below_undrew hbS)); replace hBn := below_tr hBn hbS)
            | (go_at_call 119; (with_reducible refine (cm0.out _).mono ?_); rintro e wn ⟨rfl, hbS⟩; (try (with_reducible replace hbS := below_undrew hbS)); replace hBn := below_tr hBn hbS)
            | (go_at_call 119; (with_reducible refine (cm1.out _).mono ?_); rintro e wn ⟨rfl, hbS⟩; (try (with_reducible replace hbS := below_undrew hbS)); replace hBn := below_tr hBn hbS))
      go_wp2_with fail
      refine wp_world (fun W => W.heap[w.heap.size]? = some (.cells #[.int .i64 a0, .int .i64 a1] 48 (0, 0)) ∧ W.heap[w.heap.size + 2]? = some (.cells #[.int .i64 0, .int .i64 0] 48 (0, 0)) ∧ W.heap[w.heap.size + 3]? = some (.cells #[.bool false, .bool false] 96 (0, 0)) ∧ W.heap[g1a]? = some (.cells #[.int .i64 1, .int .i64 0] 48 (0, 0)) ∧ W.heap[g1b]? = some (.cells #[.bool false, .bool dz] 96 (0, 0)) ∧ W.heap[wn.heap.size]? = some (.cells #[.int .i64 (pl 0), .int .i64 (ph 0), .int .i64 (pl 1), .int .i64 (ph 1)] 48 (0, 0)) ∧ Below w.heap.size w W) (by first | exact ⟨blkUp (blk_keep hBn sv0) _, blkUp (blk_keep hBn sv2) _, blkUp (blk_keep hBn sv3) _, blkUp (blk_keep hBn sv4) _, blkUp (blk_keep hBn sv5) _, blkA _ _ (by first | rfl | simp), (hB.trans (hBn.mono hB.size)).alloc (Nat.le_trans hB.size hBn.size) _⟩ | exact ⟨blkUp (blk_keep (Below.drew hBn) sv0) _, blkUp (blk_keep (Below.drew hBn) sv2) _, blkUp (blk_keep (Below.drew hBn) sv3) _, blkUp (blk_keep (Below.drew hBn) sv4) _, blkUp (blk_keep (Below.drew hBn) sv5) _, blkA _ _ (by first | rfl | simp), (hB.trans ((Below.drew hBn).mono hB.size)).alloc (Nat.le_trans hB.size (Below.drew hBn).size) _⟩) ?_
      have hsn : w3.heap.size ≤ wn.heap.size := hBn.size
      clear hB hBn mkS sv0 sv1 sv2 sv3 sv4 sv5
      rintro w4 ⟨k0, k2, k3, k4, k5, k8, hB⟩
      obtain ⟨hs0, hs1, hs2⟩ := hs.out
      go_loopw [24] (fun vi wr => DvRel w g1a g1b wn.heap.size a0 a1 pl ph al ah ov dz vi wr) (fun i _ => 2 - (intOf i).toNat)
      case atStart => exact ⟨0, by omega, rfl, k0, k2, k3, by rw [hs0, hs1]; exact k4, by rw [hs2]; exact k5, k8, hB⟩
      case round =>
        clear hs0 hs1 hs2 hB k0 k2 k3 k4 k5 k8
        obtain ⟨k, hk, rfl, k0, k2, k3, k4, k5, k8, hB⟩ := hrel
        skip
        by_cases hlt : k < 2
        · have hk0 : (0 : Int) ≤ (k : Int) := by omega
          have hk2 : (k : Int) < 2 := by omega
          have hv0 : wr.cell? ⟨wn.heap.size, k * 2, none⟩ = some (.int .i64 (pl k)) := by
            rcases (by omega : k = 0 ∨ k = 1) with rfl | rfl
            · exact row_of k8 0
            · exact row_of k8 2
          have hv1 : wr.cell? ⟨wn.heap.size, k * 2 + 1, none⟩ = some (.int .i64 (ph k)) := by
            rcases (by omega : k = 0 ∨ k = 1) with rfl | rfl
            · exact row_of k8 1
            · exact row_of k8 3
          go_upto_region 5 with fail
          clear hv0 hv1
          have hz2_0 : w.heap.size < wr.heap.size := blk_lt k0
          have hz2_2 : w.heap.size + 2 < wr.heap.size := blk_lt k2
          have hz2_3 : w.heap.size + 3 < wr.heap.size := blk_lt k3
          have hz2_4 : g1a < wr.heap.size := blk_lt k4
          have hz2_5 : g1b < wr.heap.size := blk_lt k5
          have hz2_8 : wn.heap.size < wr.heap.size := blk_lt k8
          refine wp_world (fun W => W.heap[w.heap.size]? = some (.cells #[.int .i64 a0, .int .i64 a1] 48 (0, 0)) ∧ W.heap[w.heap.size + 2]? = some (.cells #[.int .i64 0, .int .i64 0] 48 (0, 0)) ∧ W.heap[w.heap.size + 3]? = some (.cells #[.bool false, .bool false] 96 (0, 0)) ∧ W.heap[g1a]? = some (.cells #[.int .i64 (al k), .int .i64 (ah k)] 48 (0, 0)) ∧ W.heap[g1b]? = some (.cells #[.bool (ov k), .bool dz] 96 (0, 0)) ∧ W.heap[wn.heap.size]? = some (.cells #[.int .i64 (pl 0), .int .i64 (ph 0), .int .i64 (pl 1), .int .i64 (ph 1)] 48 (0, 0)) ∧ W.heap[wr.heap.size]? = some (.cells #[.int .i64 (pl k), .int .i64 (ph k)] 48 (0, 0)) ∧ Below w.heap.size w W) ⟨blkUp (k0) _, blkUp (k2) _, blkUp (k3) _, blkUp (k4) _, blkUp (k5) _, blkUp (k8) _, blkA _ _ (by first | rfl | simp only [World.size_alloc]), (hB).alloc (by first | exact hB.size | (simp only [World.size_alloc]; omega)) _⟩ ?_
          clear hB k0 k2 k3 k4 k5 k8
          rintro w21 ⟨k0, k2, k3, k4, k5, k8, k9, hB⟩
          have r0 := row_of k0
          have f0 := frozen_of k0
          have z0 := blk_lt k0
          have r2 := row_of k2
          have f2 := frozen_of k2
          have z2 := blk_lt k2
          have r3 := row_of k3
          have f3 := frozen_of k3
          have z3 := blk_lt k3
          have r4 := row_of k4
          have f4 := frozen_of k4
          have z4 := blk_lt k4
          have r5 := row_of k5
          have f5 := frozen_of k5
          have z5 := blk_lt k5
          have r8 := row_of k8
          have f8 := frozen_of k8
          have z8 := blk_lt k8
          have r9 := row_of k9
          have f9 := frozen_of k9
          have z9 := blk_lt k9
          go_wp2_with fail
          refine (empty_any _ _ _).mono ?_
          rintro e w22 ⟨rfl, hb⟩
          replace k0 := blk_keep hb k0
          replace k2 := blk_keep hb k2
          replace k3 := blk_keep hb k3
          replace k4 := blk_keep hb k4
          replace k5 := blk_keep hb k5
          replace k8 := blk_keep hb k8
          replace k9 := blk_keep hb k9
          replace hB := hB.trans (hb.mono hB.size)
          clear r0 f0 z0 r2 f2 z2 r3 f3 z3 r4 f4 z4 r5 f5 z5 r8 f8 z8 r9 f9 z9
          clear hb
          have r0 := row_of k0
          have f0 := frozen_of k0
          have z0 := blk_lt k0
          have r2 := row_of k2
          have f2 := frozen_of k2
          have z2 := blk_lt k2
          have r3 := row_of k3
          have f3 := frozen_of k3
          have z3 := blk_lt k3
          have r4 := row_of k4
          have f4 := frozen_of k4
          have z4 := blk_lt k4
          have r5 := row_of k5
          have f5 := frozen_of k5
          have z5 := blk_lt k5
          have r8 := row_of k8
          have f8 := frozen_of k8
          have z8 := blk_lt k8
          have r9 := row_of k9
          have f9 := frozen_of k9
          have z9 := blk_lt k9
          by_cases hem : ph k < pl k
          · have hd := decide_eq_true hem
            obtain ⟨q0, q1, q2⟩ := hno.out k hlt hem
            replace q0 := Lib.hid q0
            replace q1 := Lib.hid q1
            replace q2 := Lib.hid q2
            go_upto_region 9 with fail
            clear hd
            clear r0 f0 z0 r2 f2 z2 r3 f3 z3 r4 f4 z4 r5 f5 z5 r8 f8 z8 r9 f9 z9
            go_wp2_with fail
            exact ⟨⟨k + 1, by omega, by go_num, k0, k2, k3, by rw [q0.out, q1.out]; exact k4, by rw [q2.out]; exact k5, k8, hB⟩, by simp [intOf]; omega⟩
          · have hd := decide_eq_false hem
            have ce2 := Lib.hid (ce.out k hlt (by omega))
            have cj2 := Lib.hid (cj.out k hlt (by omega))
            have ho2 := Lib.hid (hov.out k hlt (by omega))
            go_wp2_with fail
            refine (ce2.out _).mono ?_
            rintro e w23 ⟨rfl, hb⟩
            replace k0 := blk_keep hb k0
            replace k2 := blk_keep hb k2
            replace k3 := blk_keep hb k3
            replace k4 := blk_keep hb k4
            replace k5 := blk_keep hb k5
            replace k8 := blk_keep hb k8
            replace k9 := blk_keep hb k9
            replace hB := hB.trans (hb.mono hB.size)
            clear r0 f0 z0 r2 f2 z2 r3 f3 z3 r4 f4 z4 r5 f5 z5 r8 f8 z8 r9 f9 z9
            clear hb
            have r0 := row_of k0
            have f0 := frozen_of k0
            have z0 := blk_lt k0
            have r2 := row_of k2
            have f2 := frozen_of k2
            have z2 := blk_lt k2
            have r3 := row_of k3
            have f3 := frozen_of k3
            have z3 := blk_lt k3
            have r4 := row_of k4
            have f4 := frozen_of k4
            have z4 := blk_lt k4
            have r5 := row_of k5
            have f5 := frozen_of k5
            have z5 := blk_lt k5
            have r8 := row_of k8
            have f8 := frozen_of k8
            have z8 := blk_lt k8
            have r9 := row_of k9
            have f9 := frozen_of k9
            have z9 := blk_lt k9
            clear hd
            go_upto_region 7 with fail
            have hz3_0 : w.heap.size < w23.heap.size := blk_lt k0
            have hz3_2 : w.heap.size + 2 < w23.heap.size := blk_lt k2
            have hz3_3 : w.heap.size + 3 < w23.heap.size := blk_lt k3
            have hz3_4 : g1a < w23.heap.size := blk_lt k4
            have hz3_5 : g1b < w23.heap.size := blk_lt k5
            have hz3_8 : wn.heap.size < w23.heap.size := blk_lt k8
            have hz3_9 : wr.heap.size < w23.heap.size := blk_lt k9
            refine wp_world (fun W => W.heap[w.heap.size]? = some (.cells #[.int .i64 a0, .int .i64 a1] 48 (0, 0)) ∧ W.heap[w.heap.size + 2]? = some (.cells #[.int .i64 0, .int .i64 0] 48 (0, 0)) ∧ W.heap[w.heap.size + 3]? = some (.cells #[.bool false, .bool false] 96 (0, 0)) ∧ W.heap[g1a]? = some (.cells #[.int .i64 (al k), .int .i64 (ah k)] 48 (0, 0)) ∧ W.heap[g1b]? = some (.cells #[.bool (ov k), .bool dz] 96 (0, 0)) ∧ W.heap[wn.heap.size]? = some (.cells #[.int .i64 (pl 0), .int .i64 (ph 0), .int .i64 (pl 1), .int .i64 (ph 1)] 48 (0, 0)) ∧ W.heap[wr.heap.size]? = some (.cells #[.int .i64 (pl k), .int .i64 (ph k)] 48 (0, 0)) ∧ W.heap[w23.heap.size]? = some (.cells #[.int .i64 (e0 k), .int .i64 (e1 k)] 48 (0, 0)) ∧ W.heap[w23.heap.size + 1]? = some (.cells #[.bool (o k), .bool false] 96 (0, 0)) ∧ Below w.heap.size w W) ⟨blkUp (blkUp (k0) _) _, blkUp (blkUp (k2) _) _, blkUp (blkUp (k3) _) _, blkUp (blkUp (k4) _) _, blkUp (blkUp (k5) _) _, blkUp (blkUp (k8) _) _, blkUp (blkUp (k9) _) _, blkUp (blkA _ _ (by first | rfl | simp only [World.size_alloc])) _, blkA _ _ (by first | rfl | simp only [World.size_alloc]), ((hB).alloc (by first | exact hB.size | (simp only [World.size_alloc]; omega)) _).alloc (by first | exact hB.size | (simp only [World.size_alloc]; omega)) _⟩ ?_
            clear r0 f0 z0 r2 f2 z2 r3 f3 z3 r4 f4 z4 r5 f5 z5 r8 f8 z8 r9 f9 z9
            clear hB k0 k2 k3 k4 k5 k8 k9
            rintro w24 ⟨k0, k2, k3, k4, k5, k8, k9, k10, k11, hB⟩
            have r0 := row_of k0
            have f0 := frozen_of k0
            have z0 := blk_lt k0
            have r2 := row_of k2
            have f2 := frozen_of k2
            have z2 := blk_lt k2
            have r3 := row_of k3
            have f3 := frozen_of k3
            have z3 := blk_lt k3
            have r4 := row_of k4
            have f4 := frozen_of k4
            have z4 := blk_lt k4
            have r5 := row_of k5
            have f5 := frozen_of k5
            have z5 := blk_lt k5
            have r8 := row_of k8
            have f8 := frozen_of k8
            have z8 := blk_lt k8
            have r9 := row_of k9
            have f9 := frozen_of k9
            have z9 := blk_lt k9
            have r10 := row_of k10
            have f10 := frozen_of k10
            have z10 := blk_lt k10
            have r11 := row_of k11
            have f11 := frozen_of k11
            have z11 := blk_lt k11
            go_wp2_with fail
            refine (cj2.out _).mono ?_
            rintro e w25 ⟨rfl, hb⟩
            replace k0 := blk_keep hb k0
            replace k2 := blk_keep hb k2
            replace k3 := blk_keep hb k3
            replace k4 := blk_keep hb k4
            replace k5 := blk_keep hb k5
            replace k8 := blk_keep hb k8
            replace k9 := blk_keep hb k9
            replace k10 := blk_keep hb k10
            replace k11 := blk_keep hb k11
            replace hB := hB.trans (hb.mono hB.size)
            clear r0 f0 z0 r2 f2 z2 r3 f3 z3 r4 f4 z4 r5 f5 z5 r8 f8 z8 r9 f9 z9 r10 f10 z10 r11 f11 z11
            clear hb
            have r0 := row_of k0
            have f0 := frozen_of k0
            have z0 := blk_lt k0
            have r2 := row_of k2
            have f2 := frozen_of k2
            have z2 := blk_lt k2
            have r3 := row_of k3
            have f3 := frozen_of k3
            have z3 := blk_lt k3
            have r4 := row_of k4
            have f4 := frozen_of k4
            have z4 := blk_lt k4
            have r5 := row_of k5
            have f5 := frozen_of k5
            have z5 := blk_lt k5
            have r8 := row_of k8
            have f8 := frozen_of k8
            have z8 := blk_lt k8
            have r9 := row_of k9
            have f9 := frozen_of k9
            have z9 := blk_lt k9
            have r10 := row_of k10
            have f10 := frozen_of k10
            have z10 := blk_lt k10
            have r11 := row_of k11
            have f11 := frozen_of k11
            have z11 := blk_lt k11
            go_upto_region 8 with fail
            refine wp_world (fun W => W.heap[w.heap.size]? = some (.cells #[.int .i64 a0, .int .i64 a1] 48 (0, 0)) ∧ W.heap[w.heap.size + 2]? = some (.cells #[.int .i64 0, .int .i64 0] 48 (0, 0)) ∧ W.heap[w.heap.size + 3]? = some (.cells #[.bool false, .bool false] 96 (0, 0)) ∧ W.heap[g1a]? = some (.cells #[.int .i64 (al (k + 1)), .int .i64 (ah (k + 1))] 48 (0, 0)) ∧ W.heap[g1b]? = some (.cells #[.bool (ov k), .bool dz] 96 (0, 0)) ∧ W.heap[wn.heap.size]? = some (.cells #[.int .i64 (pl 0), .int .i64 (ph 0), .int .i64 (pl 1), .int .i64 (ph 1)] 48 (0, 0)) ∧ W.heap[wr.heap.size]? = some (.cells #[.int .i64 (pl k), .int .i64 (ph k)] 48 (0, 0)) ∧ W.heap[w23.heap.size]? = some (.cells #[.int .i64 (e0 k), .int .i64 (e1 k)] 48 (0, 0)) ∧ W.heap[w23.heap.size + 1]? = some (.cells #[.bool (o k), .bool false] 96 (0, 0)) ∧ Below w.heap.size w W) ⟨setno k0 (by omega), setno k2 (by omega), setno k3 (by omega), setab k4, setno k5 (by omega), setno k8 (by omega), setno k9 (by omega), setno k10 (by omega), setno k11 (by omega), (hB.setCell (p := ⟨g1a, 0, none⟩) (by show w.heap.size ≤ g1a; omega) _).setCell (p := ⟨g1a, 1, none⟩) (by show w.heap.size ≤ g1a; omega) _⟩ ?_
            clear r0 f0 z0 r2 f2 z2 r3 f3 z3 r4 f4 z4 r5 f5 z5 r8 f8 z8 r9 f9 z9 r10 f10 z10 r11 f11 z11
            clear hB k0 k2 k3 k4 k5 k8 k9 k10 k11
            rintro w26 ⟨k0, k2, k3, k4, k5, k8, k9, k10, k11, hB⟩
            cases hok : ov k with
            | true =>
              rw [hok] at k5 ho2
              clear hok
              have r0 := row_of k0
              have f0 := frozen_of k0
              have z0 := blk_lt k0
              have r2 := row_of k2
              have f2 := frozen_of k2
              have z2 := blk_lt k2
              have r3 := row_of k3
              have f3 := frozen_of k3
              have z3 := blk_lt k3
              have r4 := row_of k4
              have f4 := frozen_of k4
              have z4 := blk_lt k4
              have r5 := row_of k5
              have f5 := frozen_of k5
              have z5 := blk_lt k5
              have r8 := row_of k8
              have f8 := frozen_of k8
              have z8 := blk_lt k8
              have r9 := row_of k9
              have f9 := frozen_of k9
              have z9 := blk_lt k9
              have r10 := row_of k10
              have f10 := frozen_of k10
              have z10 := blk_lt k10
              have r11 := row_of k11
              have f11 := frozen_of k11
              have z11 := blk_lt k11
              go_upto_region 9 with fail
              refine wp_world (fun W => W.heap[w.heap.size]? = some (.cells #[.int .i64 a0, .int .i64 a1] 48 (0, 0)) ∧ W.heap[w.heap.size + 2]? = some (.cells #[.int .i64 0, .int .i64 0] 48 (0, 0)) ∧ W.heap[w.heap.size + 3]? = some (.cells #[.bool false, .bool false] 96 (0, 0)) ∧ W.heap[g1a]? = some (.cells #[.int .i64 (al (k + 1)), .int .i64 (ah (k + 1))] 48 (0, 0)) ∧ W.heap[g1b]? = some (.cells #[.bool true, .bool dz] 96 (0, 0)) ∧ W.heap[wn.heap.size]? = some (.cells #[.int .i64 (pl 0), .int .i64 (ph 0), .int .i64 (pl 1), .int .i64 (ph 1)] 48 (0, 0)) ∧ W.heap[wr.heap.size]? = some (.cells #[.int .i64 (pl k), .int .i64 (ph k)] 48 (0, 0)) ∧ W.heap[w23.heap.size]? = some (.cells #[.int .i64 (e0 k), .int .i64 (e1 k)] 48 (0, 0)) ∧ W.heap[w23.heap.size + 1]? = some (.cells #[.bool (o k), .bool false] 96 (0, 0)) ∧ Below w.heap.size w W) ⟨blk_set k0 (by omega), blk_set k2 (by omega), blk_set k3 (by omega), blk_set k4 (by omega), seta k5, blk_set k8 (by omega), blk_set k9 (by omega), blk_set k10 (by omega), blk_set k11 (by omega), hB.setCell (p := ⟨g1b, 0, none⟩) (by show w.heap.size ≤ g1b; omega) _⟩ ?_
              clear r0 f0 z0 r2 f2 z2 r3 f3 z3 r4 f4 z4 r5 f5 z5 r8 f8 z8 r9 f9 z9 r10 f10 z10 r11 f11 z11
              clear hB k0 k2 k3 k4 k5 k8 k9 k10 k11
              rintro w27 ⟨k0, k2, k3, k4, k5, k8, k9, k10, k11, hB⟩
              have r0 := row_of k0
              have f0 := frozen_of k0
              have z0 := blk_lt k0
              have r2 := row_of k2
              have f2 := frozen_of k2
              have z2 := blk_lt k2
              have r3 := row_of k3
              have f3 := frozen_of k3
              have z3 := blk_lt k3
              have r4 := row_of k4
              have f4 := frozen_of k4
              have z4 := blk_lt k4
              have r5 := row_of k5
              have f5 := frozen_of k5
              have z5 := blk_lt k5
              have r8 := row_of k8
              have f8 := frozen_of k8
              have z8 := blk_lt k8
              have r9 := row_of k9
              have f9 := frozen_of k9
              have z9 := blk_lt k9
              have r10 := row_of k10
              have f10 := frozen_of k10
              have z10 := blk_lt k10
              have r11 := row_of k11
              have f11 := frozen_of k11
              have z11 := blk_lt k11
              clear r0 f0 z0 r2 f2 z2 r3 f3 z3 r4 f4 z4 r5 f5 z5 r8 f8 z8 r9 f9 z9 r10 f10 z10 r11 f11 z11
              go_wp2_with fail
              exact ⟨⟨k + 1, by omega, by go_num, k0, k2, k3, k4, by rw [ho2.out]; exact k5, k8, hB⟩, by simp [intOf]; omega⟩
            | false =>
              rw [hok] at k5 ho2
              clear hok
              have r0 := row_of k0
              have f0 := frozen_of k0
              have z0 := blk_lt k0
              have r2 := row_of k2
              have f2 := frozen_of k2
              have z2 := blk_lt k2
              have r3 := row_of k3
              have f3 := frozen_of k3
              have z3 := blk_lt k3
              have r4 := row_of k4
              have f4 := frozen_of k4
              have z4 := blk_lt k4
              have r5 := row_of k5
              have f5 := frozen_of k5
              have z5 := blk_lt k5
              have r8 := row_of k8
              have f8 := frozen_of k8
              have z8 := blk_lt k8
              have r9 := row_of k9
              have f9 := frozen_of k9
              have z9 := blk_lt k9
              have r10 := row_of k10
              have f10 := frozen_of k10
              have z10 := blk_lt k10
              have r11 := row_of k11
              have f11 := frozen_of k11
              have z11 := blk_lt k11
              go_upto_region 9 with fail
              refine wp_world (fun W => W.heap[w.heap.size]? = some (.cells #[.int .i64 a0, .int .i64 a1] 48 (0, 0)) ∧ W.heap[w.heap.size + 2]? = some (.cells #[.int .i64 0, .int .i64 0] 48 (0, 0)) ∧ W.heap[w.heap.size + 3]? = some (.cells #[.bool false, .bool false] 96 (0, 0)) ∧ W.heap[g1a]? = some (.cells #[.int .i64 (al (k + 1)), .int .i64 (ah (k + 1))] 48 (0, 0)) ∧ W.heap[g1b]? = some (.cells #[.bool (o k), .bool dz] 96 (0, 0)) ∧ W.heap[wn.heap.size]? = some (.cells #[.int .i64 (pl 0), .int .i64 (ph 0), .int .i64 (pl 1), .int .i64 (ph 1)] 48 (0, 0)) ∧ W.heap[wr.heap.size]? = some (.cells #[.int .i64 (pl k), .int .i64 (ph k)] 48 (0, 0)) ∧ W.heap[w23.heap.size]? = some (.cells #[.int .i64 (e0 k), .int .i64 (e1 k)] 48 (0, 0)) ∧ W.heap[w23.heap.size + 1]? = some (.cells #[.bool (o k), .bool false] 96 (0, 0)) ∧ Below w.heap.size w W) ⟨blk_set k0 (by omega), blk_set k2 (by omega), blk_set k3 (by omega), blk_set k4 (by omega), seta k5, blk_set k8 (by omega), blk_set k9 (by omega), blk_set k10 (by omega), blk_set k11 (by omega), hB.setCell (p := ⟨g1b, 0, none⟩) (by show w.heap.size ≤ g1b; omega) _⟩ ?_
              clear r0 f0 z0 r2 f2 z2 r3 f3 z3 r4 f4 z4 r5 f5 z5 r8 f8 z8 r9 f9 z9 r10 f10 z10 r11 f11 z11
              clear hB k0 k2 k3 k4 k5 k8 k9 k10 k11
              rintro w27 ⟨k0, k2, k3, k4, k5, k8, k9, k10, k11, hB⟩
              have r0 := row_of k0
              have f0 := frozen_of k0
              have z0 := blk_lt k0
              have r2 := row_of k2
              have f2 := frozen_of k2
              have z2 := blk_lt k2
              have r3 := row_of k3
              have f3 := frozen_of k3
              have z3 := blk_lt k3
              have r4 := row_of k4
              have f4 := frozen_of k4
              have z4 := blk_lt k4
              have r5 := row_of k5
              have f5 := frozen_of k5
              have z5 := blk_lt k5
              have r8 := row_of k8
              have f8 := frozen_of k8
              have z8 := blk_lt k8
              have r9 := row_of k9
              have f9 := frozen_of k9
              have z9 := blk_lt k9
              have r10 := row_of k10
              have f10 := frozen_of k10
              have z10 := blk_lt k10
              have r11 := row_of k11
              have f11 := frozen_of k11
              have z11 := blk_lt k11
              clear r0 f0 z0 r2 f2 z2 r3 f3 z3 r4 f4 z4 r5 f5 z5 r8 f8 z8 r9 f9 z9 r10 f10 z10 r11 f11 z11
              go_wp2_with fail
              exact ⟨⟨k + 1, by omega, by go_num, k0, k2, k3, k4, by rw [ho2.out]; exact k5, k8, hB⟩, by simp [intOf]; omega⟩
        · have hk2 : ¬ (k : Int) < 2 := by omega
          obtain rfl : k = 2 := by omega
          clear k0 k8 hk hlt
          have r2 := row_of k2
          have f2 := frozen_of k2
          have z2 := blk_lt k2
          have r3 := row_of k3
          have f3 := frozen_of k3
          have z3 := blk_lt k3
          have r4 := row_of k4
          have f4 := frozen_of k4
          have z4 := blk_lt k4
          have r5 := row_of k5
          have f5 := frozen_of k5
          have z5 := blk_lt k5
          go_upto_region 10 with fail
          go_region
          all_goals
            go_wp2_with fail
            generalize hWF : (World.setCell (World.setCell (World.setCell (World.setCell _ _ _) _ _) _ _) _ _) = WF
            obtain ⟨kF, kG, bF⟩ := put22 (by omega) k2 k3 _ _ _ _ hWF.symm
            clear r2 f2 z2 r3 f3 z3 r4 f4 z4 r5 f5 z5
            clear hWF
            have rF := row_of (W := WF.drew) kF
            have rG := row_of (W := WF.drew) kG
            exact bodyPost_ret (v := .tuple #[.agg #[.int .i64 (al 2), .int .i64 (ah 2)], .agg #[.bool (ov 2), .bool (dz)]]) (by simp [results, Try.results141, go_sem, rF, rG]) rfl ⟨rfl, (hB.trans (bF _ (by show w.heap.size ≤ w.heap.size + 2; omega) (by show w.heap.size ≤ w.heap.size + 3; omega))).drew⟩
end Go.Proofs.Ytbcbcambkjhhhaa
