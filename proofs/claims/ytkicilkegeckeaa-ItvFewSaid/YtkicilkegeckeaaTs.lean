/-
  ItvTests' small calls: the comparison the other way round; does a comparison of a number hold with some number of an Itv?
-/
import Derived.Test.YtkicilkegeckeaaIh
namespace Go.Proofs.Ytkicilkegeckeaa
open Go.RowKit
set_option maxRecDepth 100000 in
theorem turn_1 (w : World) : Calls Try.prog 19 #[.int .i64 1] w fun e w' => e = .returned (.int .i64 1) ∧ Below w.heap.size w w' := by
  go_enter Try.func19, Try.ntmps19
  go_wp2
  go_ret
  exact ⟨by simp, by go_grown⟩
set_option maxRecDepth 100000 in
theorem turn_2 (w : World) : Calls Try.prog 19 #[.int .i64 2] w fun e w' => e = .returned (.int .i64 2) ∧ Below w.heap.size w w' := by
  go_enter Try.func19, Try.ntmps19
  go_wp2
  go_ret
  exact ⟨by simp, by go_grown⟩
set_option maxRecDepth 100000 in
theorem turn_3 (w : World) : Calls Try.prog 19 #[.int .i64 3] w fun e w' => e = .returned (.int .i64 5) ∧ Below w.heap.size w w' := by
  go_enter Try.func19, Try.ntmps19
  go_wp2
  go_ret
  exact ⟨by simp, by go_grown⟩
set_option maxRecDepth 100000 in
theorem turn_4 (w : World) : Calls Try.prog 19 #[.int .i64 4] w fun e w' => e = .returned (.int .i64 6) ∧ Below w.heap.size w w' := by
  go_enter Try.func19, Try.ntmps19
  go_wp2
  go_ret
  exact ⟨by simp, by go_grown⟩
set_option maxRecDepth 100000 in
theorem turn_5 (w : World) : Calls Try.prog 19 #[.int .i64 5] w fun e w' => e = .returned (.int .i64 3) ∧ Below w.heap.size w w' := by
  go_enter Try.func19, Try.ntmps19
  go_wp2
  go_ret
  exact ⟨by simp, by go_grown⟩
set_option maxRecDepth 100000 in
theorem turn_6 (w : World) : Calls Try.prog 19 #[.int .i64 6] w fun e w' => e = .returned (.int .i64 4) ∧ Below w.heap.size w w' := by
  go_enter Try.func19, Try.ntmps19
  go_wp2
  go_ret
  exact ⟨by simp, by go_grown⟩
theorem rholds_3 (x y : Int) (w : World) : Calls Try.prog 76 #[.int .i64 3, .int .i64 x, .int .i64 y] w fun e w' => e = .returned (.bool (decide (x < y))) ∧ w = w' := by
  go_enter Try.func76, Try.ntmps76
  go_wp2
  go_ret
  exact ⟨rfl, rfl⟩
theorem rholds_4 (x y : Int) (w : World) : Calls Try.prog 76 #[.int .i64 4, .int .i64 x, .int .i64 y] w fun e w' => e = .returned (.bool (decide (x ≤ y))) ∧ w = w' := by
  go_enter Try.func76, Try.ntmps76
  go_wp2
  go_ret
  exact ⟨rfl, rfl⟩
theorem rholds_5 (x y : Int) (w : World) : Calls Try.prog 76 #[.int .i64 5, .int .i64 x, .int .i64 y] w fun e w' => e = .returned (.bool (decide (y < x))) ∧ w = w' := by
  go_enter Try.func76, Try.ntmps76
  go_wp2
  go_ret
  exact ⟨rfl, rfl⟩
theorem rholds_6 (x y : Int) (w : World) : Calls Try.prog 76 #[.int .i64 6, .int .i64 x, .int .i64 y] w fun e w' => e = .returned (.bool (decide (y ≤ x))) ∧ w = w' := by
  go_enter Try.func76, Try.ntmps76
  go_wp2
  go_ret
  exact ⟨rfl, rfl⟩
set_option maxRecDepth 100000 in
theorem some_1 (n b0 b1 : Int) (w : World) : Calls Try.prog 49 #[.int .i64 1, .int .i64 n, .agg #[.int .i64 b0, .int .i64 b1]] w fun e w' => e = .returned (.bool (decide (b0 ≤ n ∧ n ≤ b1))) ∧ Below w.heap.size w w' := by
  go_enter Try.func49, Try.ntmps49
  go_upto_region 2 with fail
  refine wp_world (fun W => W.heap[w.heap.size]? = some (.cells #[.int .i64 b0, .int .i64 b1] 23 (0, 0)) ∧ Below w.heap.size w W) ⟨blkA _ _ (by first | rfl | simp only [World.size_alloc]), (Below.refl _ _).alloc (by first | exact Nat.le_refl _ | (simp only [World.size_alloc]; omega)) _⟩ ?_
  rintro w1 ⟨k0, hB⟩
  have r0 := row_of k0
  have f0 := frozen_of k0
  have z0 := blk_lt k0
  go_wp2_with fail
  refine (rhas_any _ _ _ _).mono ?_
  rintro e w2 ⟨rfl, hb⟩
  replace hB := hB.trans (hb.mono hB.size)
  go_wp2_with fail
  go_ret
  exact ⟨by simp, hB⟩
set_option maxRecDepth 100000 in
theorem some_3 (n b0 b1 : Int) (w : World) : Calls Try.prog 49 #[.int .i64 3, .int .i64 n, .agg #[.int .i64 b0, .int .i64 b1]] w fun e w' => e = .returned (.bool (decide (n < b1))) ∧ Below w.heap.size w w' := by
  go_enter Try.func49, Try.ntmps49
  go_upto_region 2 with fail
  refine wp_world (fun W => W.heap[w.heap.size]? = some (.cells #[.int .i64 b0, .int .i64 b1] 23 (0, 0)) ∧ Below w.heap.size w W) ⟨blkA _ _ (by first | rfl | simp only [World.size_alloc]), (Below.refl _ _).alloc (by first | exact Nat.le_refl _ | (simp only [World.size_alloc]; omega)) _⟩ ?_
  rintro w1 ⟨k0, hB⟩
  have r0 := row_of k0
  have f0 := frozen_of k0
  have z0 := blk_lt k0
  go_wp2_with fail
  refine (rholds_3 _ _ _).mono ?_
  rintro e w2 ⟨rfl, rfl⟩
  go_wp2_with fail
  go_ret
  exact ⟨rfl, hB⟩
set_option maxRecDepth 100000 in
theorem some_4 (n b0 b1 : Int) (w : World) : Calls Try.prog 49 #[.int .i64 4, .int .i64 n, .agg #[.int .i64 b0, .int .i64 b1]] w fun e w' => e = .returned (.bool (decide (n ≤ b1))) ∧ Below w.heap.size w w' := by
  go_enter Try.func49, Try.ntmps49
  go_upto_region 2 with fail
  refine wp_world (fun W => W.heap[w.heap.size]? = some (.cells #[.int .i64 b0, .int .i64 b1] 23 (0, 0)) ∧ Below w.heap.size w W) ⟨blkA _ _ (by first | rfl | simp only [World.size_alloc]), (Below.refl _ _).alloc (by first | exact Nat.le_refl _ | (simp only [World.size_alloc]; omega)) _⟩ ?_
  rintro w1 ⟨k0, hB⟩
  have r0 := row_of k0
  have f0 := frozen_of k0
  have z0 := blk_lt k0
  go_wp2_with fail
  refine (rholds_4 _ _ _).mono ?_
  rintro e w2 ⟨rfl, rfl⟩
  go_wp2_with fail
  go_ret
  exact ⟨rfl, hB⟩
set_option maxRecDepth 100000 in
theorem some_5 (n b0 b1 : Int) (w : World) : Calls Try.prog 49 #[.int .i64 5, .int .i64 n, .agg #[.int .i64 b0, .int .i64 b1]] w fun e w' => e = .returned (.bool (decide (b0 < n))) ∧ Below w.heap.size w w' := by
  go_enter Try.func49, Try.ntmps49
  go_upto_region 2 with fail
  refine wp_world (fun W => W.heap[w.heap.size]? = some (.cells #[.int .i64 b0, .int .i64 b1] 23 (0, 0)) ∧ Below w.heap.size w W) ⟨blkA _ _ (by first | rfl | simp only [World.size_alloc]), (Below.refl _ _).alloc (by first | exact Nat.le_refl _ | (simp only [World.size_alloc]; omega)) _⟩ ?_
  rintro w1 ⟨k0, hB⟩
  have r0 := row_of k0
  have f0 := frozen_of k0
  have z0 := blk_lt k0
  go_wp2_with fail
  refine (rholds_5 _ _ _).mono ?_
  rintro e w2 ⟨rfl, rfl⟩
  go_wp2_with fail
  go_ret
  exact ⟨rfl, hB⟩
set_option maxRecDepth 100000 in
theorem some_6 (n b0 b1 : Int) (w : World) : Calls Try.prog 49 #[.int .i64 6, .int .i64 n, .agg #[.int .i64 b0, .int .i64 b1]] w fun e w' => e = .returned (.bool (decide (b0 ≤ n))) ∧ Below w.heap.size w w' := by
  go_enter Try.func49, Try.ntmps49
  go_upto_region 2 with fail
  refine wp_world (fun W => W.heap[w.heap.size]? = some (.cells #[.int .i64 b0, .int .i64 b1] 23 (0, 0)) ∧ Below w.heap.size w W) ⟨blkA _ _ (by first | rfl | simp only [World.size_alloc]), (Below.refl _ _).alloc (by first | exact Nat.le_refl _ | (simp only [World.size_alloc]; omega)) _⟩ ?_
  rintro w1 ⟨k0, hB⟩
  have r0 := row_of k0
  have f0 := frozen_of k0
  have z0 := blk_lt k0
  go_wp2_with fail
  refine (rholds_6 _ _ _).mono ?_
  rintro e w2 ⟨rfl, rfl⟩
  go_wp2_with fail
  go_ret
  exact ⟨rfl, hB⟩
set_option maxRecDepth 100000 in
theorem some_2a (n b0 b1 : Int) (w : World) (h : b0 = n) : Calls Try.prog 49 #[.int .i64 2, .int .i64 n, .agg #[.int .i64 b0, .int .i64 b1]] w fun e w' => e = .returned (.bool (b1 != n)) ∧ Below w.heap.size w w' := by
  have hd : (b0 == n) = true := by rw [beq_iff_eq]; exact h
  clear h
  go_enter Try.func49, Try.ntmps49
  go_wp2
  all_goals
    go_ret
    exact ⟨by simp_all, by go_grown⟩
set_option maxRecDepth 100000 in
theorem some_2b (n b0 b1 : Int) (w : World) (h : b0 ≠ n) : Calls Try.prog 49 #[.int .i64 2, .int .i64 n, .agg #[.int .i64 b0, .int .i64 b1]] w fun e w' => e = .returned (.bool (true)) ∧ Below w.heap.size w w' := by
  have hd : (b0 == n) = false := by rw [beq_eq_false_iff_ne]; exact h
  clear h
  go_enter Try.func49, Try.ntmps49
  go_wp2
  all_goals
    go_ret
    exact ⟨by simp_all, by go_grown⟩
end Go.Proofs.Ytkicilkegeckeaa
