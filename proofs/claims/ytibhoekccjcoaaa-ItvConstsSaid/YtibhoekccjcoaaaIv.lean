/-
  What comparisons of two numbers alone make, plainly.
-/
import Derived.Test.YtibhoekccjcoaaaIu
namespace Go.Proofs.Ytibhoekccjcoaaa
open Go.RowKit
theorem nrm_out (l h : Int) (hh : h < l) : nrm l h = (1, 0) := if_pos hh
theorem ofP_out (l h : Int) (h1 : h < l) : ofP l h = (1, 0) := by
  unfold ofP
  refine nrm_out _ _ ?_
  unfold mx mn
  split <;> split <;> omega
theorem mx_eq {x y z : Int} (h : (x < y ∧ z = y) ∨ (y ≤ x ∧ z = x)) : mx x y = z := by unfold mx; split <;> omega
theorem mn_eq {x y z : Int} (h : (y < x ∧ z = y) ∨ (x ≤ y ∧ z = x)) : mn x y = z := by unfold mn; split <;> omega
theorem meet_yes (x y : Int) (x1 : -2147483648 ≤ x) (x2 : x ≤ 2147483647) (h : x = y) : meetP x x y y = (x, x) := by
  subst h; unfold meetP; rw [mx_eq (z := x) (by omega), mn_eq (z := x) (by omega)]; exact ofP_in x x x1 x2 (Int.le_refl x)
theorem meet_no (x y : Int) (h : x ≠ y) : meetP x x y y = (1, 0) := by
  unfold meetP mx mn; refine ofP_out _ _ ?_; split <;> split <;> omega
theorem unlike_yes (x y : Int) (x1 : -2147483648 ≤ x) (x2 : x ≤ 2147483647) (h : x ≠ y) : unlikeP x x y y = (x, x) := by
  unfold unlikeP; rw [if_pos rfl, if_neg (Ne.symm h), if_neg (Ne.symm h)]; exact ofP_in x x x1 x2 (Int.le_refl x)
theorem unlike_no (x : Int) : unlikeP x x x x = (1, 0) := by
  unfold unlikeP; rw [if_pos rfl, if_pos rfl]; exact ofP_out _ _ (by omega)
theorem underA_yes (x y : Int) (x1 : -2147483648 ≤ x) (x2 : x ≤ 2147483647) (d : Int) (h : x + d ≤ y) : underA x x y y d = (x, x) := by
  unfold underA; rw [mn_eq (z := x) (by omega)]; exact ofP_in x x x1 x2 (Int.le_refl x)
theorem underA_no (x y : Int) (d : Int) (h : y < x + d) : underA x x y y d = (1, 0) := by
  unfold underA mn; refine ofP_out _ _ ?_; split <;> omega
theorem underB_yes (x y : Int) (y1 : -2147483648 ≤ y) (y2 : y ≤ 2147483647) (d : Int) (h : x + d ≤ y) : underB x x y y d = (y, y) := by
  unfold underB; rw [mx_eq (z := y) (by omega)]; exact ofP_in y y y1 y2 (Int.le_refl y)
theorem underB_no (x y : Int) (d : Int) (h : y < x + d) : underB x x y y d = (1, 0) := by
  unfold underB mx; refine ofP_out _ _ ?_; split <;> omega

theorem tell_1_yes (x y : Int) (x1 : -2147483648 ≤ x) (x2 : x ≤ 2147483647) (y1 : -2147483648 ≤ y) (y2 : y ≤ 2147483647) (h : x = y) (W : World) : Calls Try.prog 33 #[.int .i64 1, .agg #[.int .i64 x, .int .i64 x], .agg #[.int .i64 y, .int .i64 y]] W fun e w' => e = .returned (.tuple #[.agg #[.int .i64 x, .int .i64 x], .agg #[.int .i64 y, .int .i64 y]]) ∧ Below W.heap.size W w' := by
  have t := test_1 x x y y W (Int.le_refl x) (Int.le_refl y)
  subst h
  rw [meet_yes x x x1 x2 rfl] at t
  exact t
theorem tell_1_no (x y : Int) (_x1 : -2147483648 ≤ x) (_x2 : x ≤ 2147483647) (_y1 : -2147483648 ≤ y) (_y2 : y ≤ 2147483647) (h : ¬ (x = y)) (W : World) : Calls Try.prog 33 #[.int .i64 1, .agg #[.int .i64 x, .int .i64 x], .agg #[.int .i64 y, .int .i64 y]] W fun e w' => e = .returned (.tuple #[.agg #[.int .i64 1, .int .i64 0], .agg #[.int .i64 1, .int .i64 0]]) ∧ Below W.heap.size W w' := by
  have t := test_1 x x y y W (Int.le_refl x) (Int.le_refl y)
  rw [meet_no x y h] at t
  exact t
theorem tell_2_yes (x y : Int) (x1 : -2147483648 ≤ x) (x2 : x ≤ 2147483647) (y1 : -2147483648 ≤ y) (y2 : y ≤ 2147483647) (h : x ≠ y) (W : World) : Calls Try.prog 33 #[.int .i64 2, .agg #[.int .i64 x, .int .i64 x], .agg #[.int .i64 y, .int .i64 y]] W fun e w' => e = .returned (.tuple #[.agg #[.int .i64 x, .int .i64 x], .agg #[.int .i64 y, .int .i64 y]]) ∧ Below W.heap.size W w' := by
  have t := test_2 x x y y W (Int.le_refl x) (Int.le_refl y) x1 x2 y1 y2
  rw [unlike_yes x y x1 x2 h, unlike_yes y x y1 y2 (Ne.symm h)] at t
  exact t
theorem tell_2_no (x y : Int) (x1 : -2147483648 ≤ x) (x2 : x ≤ 2147483647) (y1 : -2147483648 ≤ y) (y2 : y ≤ 2147483647) (h : ¬ (x ≠ y)) (W : World) : Calls Try.prog 33 #[.int .i64 2, .agg #[.int .i64 x, .int .i64 x], .agg #[.int .i64 y, .int .i64 y]] W fun e w' => e = .returned (.tuple #[.agg #[.int .i64 1, .int .i64 0], .agg #[.int .i64 1, .int .i64 0]]) ∧ Below W.heap.size W w' := by
  have t := test_2 x x y y W (Int.le_refl x) (Int.le_refl y) x1 x2 y1 y2
  have e : x = y := Classical.not_not.1 h
  subst e
  rw [unlike_no x] at t
  exact t
theorem tell_3_yes (x y : Int) (x1 : -2147483648 ≤ x) (x2 : x ≤ 2147483647) (y1 : -2147483648 ≤ y) (y2 : y ≤ 2147483647) (h : x < y) (W : World) : Calls Try.prog 33 #[.int .i64 3, .agg #[.int .i64 x, .int .i64 x], .agg #[.int .i64 y, .int .i64 y]] W fun e w' => e = .returned (.tuple #[.agg #[.int .i64 x, .int .i64 x], .agg #[.int .i64 y, .int .i64 y]]) ∧ Below W.heap.size W w' := by
  have t := test_3 x x y y W (Int.le_refl x) (Int.le_refl y) x1 x2 y1 y2
  rw [underA_yes x y x1 x2 1 (by omega), underB_yes x y y1 y2 1 (by omega)] at t
  exact t
theorem tell_3_no (x y : Int) (x1 : -2147483648 ≤ x) (x2 : x ≤ 2147483647) (y1 : -2147483648 ≤ y) (y2 : y ≤ 2147483647) (h : ¬ (x < y)) (W : World) : Calls Try.prog 33 #[.int .i64 3, .agg #[.int .i64 x, .int .i64 x], .agg #[.int .i64 y, .int .i64 y]] W fun e w' => e = .returned (.tuple #[.agg #[.int .i64 1, .int .i64 0], .agg #[.int .i64 1, .int .i64 0]]) ∧ Below W.heap.size W w' := by
  have t := test_3 x x y y W (Int.le_refl x) (Int.le_refl y) x1 x2 y1 y2
  rw [underA_no x y 1 (by omega), underB_no x y 1 (by omega)] at t
  exact t
theorem tell_4_yes (x y : Int) (x1 : -2147483648 ≤ x) (x2 : x ≤ 2147483647) (y1 : -2147483648 ≤ y) (y2 : y ≤ 2147483647) (h : x ≤ y) (W : World) : Calls Try.prog 33 #[.int .i64 4, .agg #[.int .i64 x, .int .i64 x], .agg #[.int .i64 y, .int .i64 y]] W fun e w' => e = .returned (.tuple #[.agg #[.int .i64 x, .int .i64 x], .agg #[.int .i64 y, .int .i64 y]]) ∧ Below W.heap.size W w' := by
  have t := test_4 x x y y W (Int.le_refl x) (Int.le_refl y) x1 x2 y1 y2
  rw [underA_yes x y x1 x2 0 (by omega), underB_yes x y y1 y2 0 (by omega)] at t
  exact t
theorem tell_4_no (x y : Int) (x1 : -2147483648 ≤ x) (x2 : x ≤ 2147483647) (y1 : -2147483648 ≤ y) (y2 : y ≤ 2147483647) (h : ¬ (x ≤ y)) (W : World) : Calls Try.prog 33 #[.int .i64 4, .agg #[.int .i64 x, .int .i64 x], .agg #[.int .i64 y, .int .i64 y]] W fun e w' => e = .returned (.tuple #[.agg #[.int .i64 1, .int .i64 0], .agg #[.int .i64 1, .int .i64 0]]) ∧ Below W.heap.size W w' := by
  have t := test_4 x x y y W (Int.le_refl x) (Int.le_refl y) x1 x2 y1 y2
  rw [underA_no x y 0 (by omega), underB_no x y 0 (by omega)] at t
  exact t
theorem tell_5_yes (x y : Int) (x1 : -2147483648 ≤ x) (x2 : x ≤ 2147483647) (y1 : -2147483648 ≤ y) (y2 : y ≤ 2147483647) (h : y < x) (W : World) : Calls Try.prog 33 #[.int .i64 5, .agg #[.int .i64 x, .int .i64 x], .agg #[.int .i64 y, .int .i64 y]] W fun e w' => e = .returned (.tuple #[.agg #[.int .i64 x, .int .i64 x], .agg #[.int .i64 y, .int .i64 y]]) ∧ Below W.heap.size W w' := by
  have t := test_5 x x y y W (Int.le_refl x) (Int.le_refl y) x1 x2 y1 y2
  rw [underB_yes y x x1 x2 1 (by omega), underA_yes y x y1 y2 1 (by omega)] at t
  exact t
theorem tell_5_no (x y : Int) (x1 : -2147483648 ≤ x) (x2 : x ≤ 2147483647) (y1 : -2147483648 ≤ y) (y2 : y ≤ 2147483647) (h : ¬ (y < x)) (W : World) : Calls Try.prog 33 #[.int .i64 5, .agg #[.int .i64 x, .int .i64 x], .agg #[.int .i64 y, .int .i64 y]] W fun e w' => e = .returned (.tuple #[.agg #[.int .i64 1, .int .i64 0], .agg #[.int .i64 1, .int .i64 0]]) ∧ Below W.heap.size W w' := by
  have t := test_5 x x y y W (Int.le_refl x) (Int.le_refl y) x1 x2 y1 y2
  rw [underB_no y x 1 (by omega), underA_no y x 1 (by omega)] at t
  exact t
theorem tell_6_yes (x y : Int) (x1 : -2147483648 ≤ x) (x2 : x ≤ 2147483647) (y1 : -2147483648 ≤ y) (y2 : y ≤ 2147483647) (h : y ≤ x) (W : World) : Calls Try.prog 33 #[.int .i64 6, .agg #[.int .i64 x, .int .i64 x], .agg #[.int .i64 y, .int .i64 y]] W fun e w' => e = .returned (.tuple #[.agg #[.int .i64 x, .int .i64 x], .agg #[.int .i64 y, .int .i64 y]]) ∧ Below W.heap.size W w' := by
  have t := test_6 x x y y W (Int.le_refl x) (Int.le_refl y) x1 x2 y1 y2
  rw [underB_yes y x x1 x2 0 (by omega), underA_yes y x y1 y2 0 (by omega)] at t
  exact t
theorem tell_6_no (x y : Int) (x1 : -2147483648 ≤ x) (x2 : x ≤ 2147483647) (y1 : -2147483648 ≤ y) (y2 : y ≤ 2147483647) (h : ¬ (y ≤ x)) (W : World) : Calls Try.prog 33 #[.int .i64 6, .agg #[.int .i64 x, .int .i64 x], .agg #[.int .i64 y, .int .i64 y]] W fun e w' => e = .returned (.tuple #[.agg #[.int .i64 1, .int .i64 0], .agg #[.int .i64 1, .int .i64 0]]) ∧ Below W.heap.size W w' := by
  have t := test_6 x x y y W (Int.le_refl x) (Int.le_refl y) x1 x2 y1 y2
  rw [underB_no y x 0 (by omega), underA_no y x 0 (by omega)] at t
  exact t
end Go.Proofs.Ytibhoekccjcoaaa
