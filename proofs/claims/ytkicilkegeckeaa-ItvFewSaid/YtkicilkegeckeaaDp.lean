/-
  Plain mathematics of products, quotients and rests of two Itvs.
-/
import Derived.Test.YtkicilkegeckeaaEp
import Derived.Test.YtkicilkegeckeaaIp
namespace Go.Proofs.Ytkicilkegeckeaa
open Go.RowKit

theorem bot_le (f : Int → Int → Int) (a0 a1 b0 b1 : Int) : bot f a0 a1 b0 b1 ≤ f a0 b0 ∧ bot f a0 a1 b0 b1 ≤ f a0 b1 ∧ bot f a0 a1 b0 b1 ≤ f a1 b0 ∧ bot f a0 a1 b0 b1 ≤ f a1 b1 := by
  unfold bot mn
  repeat' split
  all_goals omega
theorem le_top (f : Int → Int → Int) (a0 a1 b0 b1 : Int) : f a0 b0 ≤ top f a0 a1 b0 b1 ∧ f a0 b1 ≤ top f a0 a1 b0 b1 ∧ f a1 b0 ≤ top f a0 a1 b0 b1 ∧ f a1 b1 ≤ top f a0 a1 b0 b1 := by
  unfold top mx
  repeat' split
  all_goals omega
/-- What lies between two, whichever is the lesser one. -/
def Btw (x n y : Int) : Prop := (x ≤ n ∧ n ≤ y) ∨ (y ≤ n ∧ n ≤ x)
/-- The ends tell what is between. -/
theorem corner (f : Int → Int → Int) (a0 a1 b0 b1 x y : Int) (hx : Btw (f a0 y) (f x y) (f a1 y)) (h0 : Btw (f a0 b0) (f a0 y) (f a0 b1)) (h1 : Btw (f a1 b0) (f a1 y) (f a1 b1)) :
    bot f a0 a1 b0 b1 ≤ f x y ∧ f x y ≤ top f a0 a1 b0 b1 := by
  have l := bot_le f a0 a1 b0 b1
  have t := le_top f a0 a1 b0 b1
  unfold Btw at *
  omega
theorem mul_btw (a0 a1 x y : Int) (h0 : a0 ≤ x) (h1 : x ≤ a1) : Btw (a0 * y) (x * y) (a1 * y) := by
  rcases Int.le_total 0 y with hy | hy
  · exact .inl ⟨Int.mul_le_mul_of_nonneg_right h0 hy, Int.mul_le_mul_of_nonneg_right h1 hy⟩
  · exact .inr ⟨Int.mul_le_mul_of_nonpos_right h1 hy, Int.mul_le_mul_of_nonpos_right h0 hy⟩
theorem mul_in (a0 a1 b0 b1 x y : Int) (h0 : a0 ≤ x) (h1 : x ≤ a1) (g0 : b0 ≤ y) (g1 : y ≤ b1) : bot (fun x y => x * y) a0 a1 b0 b1 ≤ x * y ∧ x * y ≤ top (fun x y => x * y) a0 a1 b0 b1 := by
  refine corner (fun x y => x * y) a0 a1 b0 b1 x y (mul_btw a0 a1 x y h0 h1) ?_ ?_
  · have t := mul_btw b0 b1 y a0 g0 g1
    simp only [Int.mul_comm] at t ⊢
    exact t
  · have t := mul_btw b0 b1 y a1 g0 g1
    simp only [Int.mul_comm] at t ⊢
    exact t
/-- Quotients of what is not below nought. -/
theorem td_pos (x x' y y' : Int) (h0 : 0 ≤ x) (h1 : x ≤ x') (g0 : 0 < y') (g1 : y' ≤ y) : 0 ≤ x.tdiv y ∧ x.tdiv y ≤ x'.tdiv y' ∧ x.tdiv y ≤ x := by
  obtain ⟨X, rfl⟩ := Int.eq_ofNat_of_zero_le h0
  obtain ⟨X', rfl⟩ := Int.eq_ofNat_of_zero_le (Int.le_trans h0 h1)
  obtain ⟨Y', rfl⟩ := Int.eq_ofNat_of_zero_le (Int.le_of_lt g0)
  obtain ⟨Y, rfl⟩ := Int.eq_ofNat_of_zero_le (Int.le_trans (Int.le_of_lt g0) g1)
  have e1 : (X : Int).tdiv Y = ((X / Y : Nat) : Int) := rfl
  have e2 : (X' : Int).tdiv Y' = ((X' / Y' : Nat) : Int) := rfl
  rw [e1, e2]
  have t := Nat.div_le_div (a := X) (b := X') (c := Y) (d := Y') (by omega) (by omega) (by omega)
  have u := Nat.div_le_self X Y
  clear e1 e2
  generalize X / Y = q at *
  generalize X' / Y' = q' at *
  omega
theorem td_neg_l (x y : Int) : (-x).tdiv y = -(x.tdiv y) := Int.neg_tdiv ..
theorem td_neg_r (x y : Int) : x.tdiv (-y) = -(x.tdiv y) := Int.tdiv_neg ..
/-- By a number above nought: it rises with what is divided. -/
theorem td_mono (x x' y : Int) (h1 : x ≤ x') (g0 : 0 < y) : x.tdiv y ≤ x'.tdiv y := by
  by_cases hx : 0 ≤ x
  · exact (td_pos x x' y y hx h1 g0 (Int.le_refl _)).2.1
  · have t := td_pos 0 (-x) y y (by omega) (by omega) g0 (Int.le_refl _)
    have t2 := td_neg_l x y
    by_cases hx' : 0 ≤ x'
    · have u := td_pos x' x' y y hx' (Int.le_refl _) g0 (Int.le_refl _)
      omega
    · have v := td_pos (-x') (-x) y y (by omega) (by omega) g0 (Int.le_refl _)
      have v2 := td_neg_l x' y
      omega
theorem td_btw_x (a0 a1 x y : Int) (h0 : a0 ≤ x) (h1 : x ≤ a1) (hy : y ≠ 0) : Btw (a0.tdiv y) (x.tdiv y) (a1.tdiv y) := by
  by_cases g : 0 < y
  · exact .inl ⟨td_mono _ _ _ h0 g, td_mono _ _ _ h1 g⟩
  · have e : ∀ z : Int, z.tdiv y = -(z.tdiv (-y)) := fun z => by have := td_neg_r z (-y); rw [Int.neg_neg] at this; exact this
    rw [e a0, e x, e a1]
    have p := td_mono a0 x (-y) h0 (by omega)
    have q := td_mono x a1 (-y) h1 (by omega)
    exact .inr (by omega)
theorem td_btw_pos (x b0 b1 y : Int) (g : 0 < b0) (h0 : b0 ≤ y) (h1 : y ≤ b1) : Btw (x.tdiv b0) (x.tdiv y) (x.tdiv b1) := by
  by_cases hx : 0 ≤ x
  · exact .inr ⟨(td_pos x x b1 y hx (Int.le_refl _) (by omega) h1).2.1, (td_pos x x y b0 hx (Int.le_refl _) g h0).2.1⟩
  · have e : ∀ z : Int, x.tdiv z = -((-x).tdiv z) := fun z => by have := td_neg_l (-x) z; rw [Int.neg_neg] at this; exact this
    rw [e b0, e y, e b1]
    have p := (td_pos (-x) (-x) b1 y (by omega) (Int.le_refl _) (by omega) h1).2.1
    have q := (td_pos (-x) (-x) y b0 (by omega) (Int.le_refl _) g h0).2.1
    exact .inl (by omega)
theorem td_btw_y (x b0 b1 y : Int) (g : 0 < b0 ∨ b1 < 0) (h0 : b0 ≤ y) (h1 : y ≤ b1) : Btw (x.tdiv b0) (x.tdiv y) (x.tdiv b1) := by
  rcases g with g | g
  · exact td_btw_pos x b0 b1 y g h0 h1
  · have e : ∀ z : Int, x.tdiv z = -(x.tdiv (-z)) := fun z => by have := td_neg_r x (-z); rw [Int.neg_neg] at this; exact this
    rw [e b0, e y, e b1]
    have t := td_btw_pos x (-b1) (-b0) (-y) (by omega) (by omega) (by omega)
    unfold Btw at *
    omega
theorem quo_in (a0 a1 b0 b1 x y : Int) (g : 0 < b0 ∨ b1 < 0) (h0 : a0 ≤ x) (h1 : x ≤ a1) (g0 : b0 ≤ y) (g1 : y ≤ b1) : bot Int.tdiv a0 a1 b0 b1 ≤ x.tdiv y ∧ x.tdiv y ≤ top Int.tdiv a0 a1 b0 b1 :=
  corner Int.tdiv a0 a1 b0 b1 x y (td_btw_x a0 a1 x y h0 h1 (by omega)) (td_btw_y a0 b0 b1 y g g0 g1) (td_btw_y a1 b0 b1 y g g0 g1)
/-- A quotient is no farther from nought than what is divided. -/
theorem td_abs (x y : Int) (m : Int) (h0 : -m ≤ x) (h1 : x ≤ m) (hy : y ≠ 0) : -m ≤ x.tdiv y ∧ x.tdiv y ≤ m := by
  have p : ∀ z : Int, 0 < z → -m ≤ x.tdiv z ∧ x.tdiv z ≤ m := fun z hz => by
    by_cases hx : 0 ≤ x
    · have t := td_pos x x z z hx (Int.le_refl _) hz (Int.le_refl _); omega
    · have t := td_pos (-x) (-x) z z (by omega) (Int.le_refl _) hz (Int.le_refl _)
      have := td_neg_l x z
      omega
  by_cases g : 0 < y
  · exact p y g
  · have t := p (-y) (by omega)
    have := td_neg_r x y
    omega
/-- Rests. -/
theorem tm_pos (x y : Int) (h : 0 ≤ x) (g : 0 < y) : 0 ≤ x.tmod y ∧ x.tmod y < y ∧ x.tmod y ≤ x := by
  obtain ⟨X, rfl⟩ := Int.eq_ofNat_of_zero_le h
  obtain ⟨Y, rfl⟩ := Int.eq_ofNat_of_zero_le (Int.le_of_lt g)
  have e : (X : Int).tmod Y = ((X % Y : Nat) : Int) := rfl
  rw [e]
  have t := Nat.mod_lt X (y := Y) (by omega)
  have u := Nat.mod_le X Y
  clear e
  generalize X % Y = q at *
  omega
theorem tm_any (x y m : Int) (hy : y ≠ 0) (h0 : -m ≤ y) (h1 : y ≤ m) : -(m - 1) ≤ x.tmod y ∧ x.tmod y ≤ m - 1 ∧ ((0 ≤ x ∧ 0 ≤ x.tmod y ∧ x.tmod y ≤ x) ∨ (x ≤ 0 ∧ x ≤ x.tmod y ∧ x.tmod y ≤ 0)) := by
  have p : ∀ z : Int, 0 < z → z ≤ m → -(m - 1) ≤ x.tmod z ∧ x.tmod z ≤ m - 1 ∧ ((0 ≤ x ∧ 0 ≤ x.tmod z ∧ x.tmod z ≤ x) ∨ (x ≤ 0 ∧ x ≤ x.tmod z ∧ x.tmod z ≤ 0)) := fun z hz hm => by
    by_cases hx : 0 ≤ x
    · have t := tm_pos x z hx hz; omega
    · have t := tm_pos (-x) z (by omega) hz
      have e : (-x).tmod z = -(x.tmod z) := Int.neg_tmod ..
      omega
  by_cases g : 0 < y
  · exact p y g h1
  · have t := p (-y) (by omega) (by omega)
    have e : x.tmod (-y) = x.tmod y := Int.tmod_neg ..
    rw [e] at t
    exact t
theorem rest_eq (x y : Int) : x - x.tdiv y * y = x.tmod y := by
  have := Int.tmod_add_tdiv_mul x y
  omega
/-- What a kind makes of two numbers: the number, and which error. -/
def valP (k x y : Int) : Int := if k = 4 then x + y else if k = 5 then x - y else if k = 6 then x * y else if k = 7 then x.tdiv y else x - x.tdiv y * y
def errP (k x y : Int) : Int := if 7 ≤ k ∧ y = 0 then 3 else if valP k x y < -2147483648 ∨ 2147483647 < valP k x y then 2 else 0
def oneP (k x y : Int) : Int := if errP k x y = 0 then valP k x y else 0
theorem errP_or (k x y : Int) : (errP k x y = 3 ∧ 7 ≤ k ∧ y = 0) ∨ (errP k x y = 2 ∧ ¬ (7 ≤ k ∧ y = 0) ∧ (valP k x y < -2147483648 ∨ 2147483647 < valP k x y)) ∨ (errP k x y = 0 ∧ ¬ (7 ≤ k ∧ y = 0) ∧ -2147483648 ≤ valP k x y ∧ valP k x y ≤ 2147483647) := by
  unfold errP
  by_cases h : 7 ≤ k ∧ y = 0
  · rw [if_pos h]; exact .inl ⟨rfl, h⟩
  · rw [if_neg h]
    by_cases g : valP k x y < -2147483648 ∨ 2147483647 < valP k x y
    · rw [if_pos g]; exact .inr (.inl ⟨rfl, h, g⟩)
    · rw [if_neg g]; exact .inr (.inr ⟨rfl, h, by omega, by omega⟩)
/-- What Do tells of a kind and two Itvs, in words. -/
structure DoOk (k a0 a1 b0 b1 z0 z1 : Int) (ov dz : Bool) : Prop where
  norm : (z0 = 1 ∧ z1 = 0) ∨ (z0 ≤ z1 ∧ -2147483648 ≤ z0 ∧ z1 ≤ 2147483647)
  has : ∀ x y, a0 ≤ x → x ≤ a1 → b0 ≤ y → y ≤ b1 → errP k x y = 0 → z0 ≤ valP k x y ∧ valP k x y ≤ z1
  over : ∀ x y, a0 ≤ x → x ≤ a1 → b0 ≤ y → y ≤ b1 → errP k x y = 2 → ov = true
  zero : dz = (decide (7 ≤ k) && decide (b0 ≤ 0 ∧ 0 ≤ b1))
  sure : k ≤ 5 ∨ (a0 = a1 ∧ b0 = b1) → ov = true → ∃ x y, a0 ≤ x ∧ x ≤ a1 ∧ b0 ≤ y ∧ y ≤ b1 ∧ errP k x y = 2
  alone : a0 = a1 ∧ b0 = b1 → (errP k a0 b0 ≠ 0 → z0 = 1 ∧ z1 = 0) ∧ (errP k a0 b0 = 0 → z0 = valP k a0 b0 ∧ z1 = valP k a0 b0)
/-- From the ends' least and greatest one on. -/
theorem ends_ok (k a0 a1 b0 b1 L H z0 z1 : Int) (ov dz : Bool) (ha : a0 ≤ a1) (hb : b0 ≤ b1) (hz : dz = (decide (7 ≤ k) && decide (b0 ≤ 0 ∧ 0 ≤ b1))) (hk : k ≤ 6) (e : ofP L H = (z0, z1)) (ho : ov = (decide (L < -2147483648) || decide (2147483647 < H)))
    (hin : ∀ x y, a0 ≤ x → x ≤ a1 → b0 ≤ y → y ≤ b1 → L ≤ valP k x y ∧ valP k x y ≤ H)
    (hw : k ≤ 5 ∨ (a0 = a1 ∧ b0 = b1) → ∃ x y x' y', a0 ≤ x ∧ x ≤ a1 ∧ b0 ≤ y ∧ y ≤ b1 ∧ valP k x y = L ∧ a0 ≤ x' ∧ x' ≤ a1 ∧ b0 ≤ y' ∧ y' ≤ b1 ∧ valP k x' y' = H) : DoOk k a0 a1 b0 b1 z0 z1 ov dz := by
  have t := ofP_or L H z0 z1 e
  have e0 : ov = true ↔ L < -2147483648 ∨ 2147483647 < H := by rw [ho]; simp
  refine ⟨by omega, fun x y x0 x1 y0 y1 h => ?_, fun x y x0 x1 y0 y1 h => ?_, hz, fun hs ht => ?_, fun hal => ?_⟩
  · have u := hin x y x0 x1 y0 y1
    have v := errP_or k x y
    omega
  · have u := hin x y x0 x1 y0 y1
    have v := errP_or k x y
    exact e0.2 (by omega)
  · obtain ⟨x, y, x', y', g0, g1, g2, g3, g4, g5, g6, g7, g8, g9⟩ := hw hs
    rcases e0.1 ht with h | h
    · exact ⟨x, y, g0, g1, g2, g3, by have v := errP_or k x y; omega⟩
    · exact ⟨x', y', g5, g6, g7, g8, by have v := errP_or k x' y'; omega⟩
  · obtain ⟨x, y, x', y', g0, g1, g2, g3, g4, g5, g6, g7, g8, g9⟩ := hw (.inr hal)
    obtain ⟨rfl, rfl⟩ := hal
    obtain rfl : x = a0 := by omega
    obtain rfl : y = b0 := by omega
    obtain rfl : x' = x := by omega
    obtain rfl : y' = y := by omega
    clear hin hw e0 e ho hz
    have v := errP_or k x' y'
    exact ⟨fun h => by omega, fun h => by omega⟩
end Go.Proofs.Ytkicilkegeckeaa
