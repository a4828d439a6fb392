/-
  What products and quotients make of the ends of two.
-/
import Derived.Test.YtlgmofjjjhbgkaaGreatJt17
namespace Go.Proofs.YtlgmofjjjhbgkaaGreat
open Go.RowKit

theorem quo_fn (x y : Int) (w : World) (hy : y ≠ 0) (h1 : -9223372036854775808 ≤ x.tdiv y) (h2 : x.tdiv y ≤ 9223372036854775807) :
    Calls Tryz.prog 147 #[.int .i64 x, .int .i64 y] w fun e w' => e = .returned (.int .i64 (x.tdiv y)) ∧ w = w' := by
  have hy2 : (y == 0) = false := by rw [beq_eq_false_iff_ne]; exact hy
  have hw : wrap64 (x.tdiv y) = x.tdiv y := by unfold wrap64; omega
  go_enter Tryz.func147, Tryz.ntmps147
  go_wp2
  go_ret
  exact ⟨by simp, rfl⟩
set_option maxRecDepth 100000 in
set_option maxHeartbeats 2000000 in
theorem ends_mul (f : Int → Int → Int) (a0 a1 b0 b1 : Int) (w : World) (hf : FnOk 141 f a0 a1 b0 b1) :
    Calls Tryz.prog 138 #[.agg #[.int .i64 a0, .int .i64 a1], .agg #[.int .i64 b0, .int .i64 b1], .func (.func 141) #[] #[]] w fun e w' => e = .returned (.tuple #[.agg #[.int .i64 (ofP (bot f a0 a1 b0 b1) (top f a0 a1 b0 b1)).1, .int .i64 (ofP (bot f a0 a1 b0 b1) (top f a0 a1 b0 b1)).2], .agg #[.bool (decide (bot f a0 a1 b0 b1 < -2147483648) || decide (2147483647 < top f a0 a1 b0 b1)), .bool false]]) ∧ Below w.heap.size w w' := by
  replace hf := Lib.hid hf
  go_enter Tryz.func138, Tryz.ntmps138
  go_upto_region 1 with fail
  refine wp_world (fun W => W.heap[w.heap.size]? = some (.cells #[.int .i64 a0, .int .i64 a1] 53 (0, 0)) ∧ W.heap[w.heap.size + 1]? = some (.cells #[.int .i64 b0, .int .i64 b1] 53 (0, 0)) ∧ W.heap[w.heap.size + 2]? = some (.cells #[.int .i64 0, .int .i64 0] 53 (0, 0)) ∧ W.heap[w.heap.size + 3]? = some (.cells #[.bool false, .bool false] 128 (0, 0)) ∧ Below w.heap.size w W) ⟨blkUp (blkUp (blkUp (blkA _ _ (by first | rfl | simp only [World.size_alloc])) _) _) _, blkUp (blkUp (blkA _ _ (by first | rfl | simp only [World.size_alloc])) _) _, blkUp (blkA _ _ (by first | rfl | simp only [World.size_alloc])) _, blkA _ _ (by first | rfl | simp only [World.size_alloc]), ((((Below.refl _ _).alloc (by first | exact Nat.le_refl _ | (simp only [World.size_alloc]; omega)) _).alloc (by first | exact Nat.le_refl _ | (simp only [World.size_alloc]; omega)) _).alloc (by first | exact Nat.le_refl _ | (simp only [World.size_alloc]; omega)) _).alloc (by first | exact Nat.le_refl _ | (simp only [World.size_alloc]; omega)) _⟩ ?_
  rintro w1 ⟨k0, k1, k2, k3, hB⟩
  have r0 := row_of k0
  have f0 := frozen_of k0
  have z0 := blk_lt k0
  have r1 := row_of k1
  have f1 := frozen_of k1
  have z1 := blk_lt k1
  have r2 := row_of k2
  have f2 := frozen_of k2
  have z2 := blk_lt k2
  have r3 := row_of k3
  have f3 := frozen_of k3
  have z3 := blk_lt k3
  have hS : w1.cell? ⟨w.heap.size, 0, none⟩ = some (.int .i64 a0) ∧ w1.cell? ⟨w.heap.size, 1, none⟩ = some (.int .i64 a1) ∧ w1.cell? ⟨w.heap.size + 1, 0, none⟩ = some (.int .i64 b0) ∧ w1.cell? ⟨w.heap.size + 1, 1, none⟩ = some (.int .i64 b1) := ⟨row_of k0 0, row_of k0 1, row_of k1 0, row_of k1 1⟩
  have hS2 := hS
  obtain ⟨q0, q1, q2, q3⟩ := hS2
  clear r0 f0 z0 r1 f1 z1 r2 f2 z2 r3 f3 z3
  go_region_held3 (fun W => W.cell? ⟨w.heap.size, 0, none⟩ = some (.int .i64 a0) ∧ W.cell? ⟨w.heap.size, 1, none⟩ = some (.int .i64 a1) ∧ W.cell? ⟨w.heap.size + 1, 0, none⟩ = some (.int .i64 b0) ∧ W.cell? ⟨w.heap.size + 1, 1, none⟩ = some (.int .i64 b1)) (first | assumption | exact hS | go_keep) (first | (go_at_call 141; refine (hf.out _ _ _ (by simp) (by simp)).mono ?_; rintro e wn ⟨rfl, rfl⟩))
  go_upto_region 2 with fail
  clear hS q0 q1 q2 q3
  have hz1_0 : w.heap.size < w1.heap.size := blk_lt k0
  have hz1_1 : w.heap.size + 1 < w1.heap.size := blk_lt k1
  have hz1_2 : w.heap.size + 2 < w1.heap.size := blk_lt k2
  have hz1_3 : w.heap.size + 3 < w1.heap.size := blk_lt k3
  refine wp_world (fun W => W.heap[w.heap.size]? = some (.cells #[.int .i64 a0, .int .i64 a1] 53 (0, 0)) ∧ W.heap[w.heap.size + 1]? = some (.cells #[.int .i64 b0, .int .i64 b1] 53 (0, 0)) ∧ W.heap[w.heap.size + 2]? = some (.cells #[.int .i64 0, .int .i64 0] 53 (0, 0)) ∧ W.heap[w.heap.size + 3]? = some (.cells #[.bool false, .bool false] 128 (0, 0)) ∧ W.heap[w1.heap.size]? = some (.cells #[.int .i64 (f a0 b0), .int .i64 (f a0 b1), .int .i64 (f a1 b0), .int .i64 (f a1 b1)] 3 (0, 0)) ∧ Below w.heap.size w W) ⟨blkUp (k0) _, blkUp (k1) _, blkUp (k2) _, blkUp (k3) _, blkA _ _ (by first | rfl | simp only [World.size_alloc]), ((hB).alloc (by first | exact hB.size | (simp only [World.size_alloc]; omega)) _).drew⟩ ?_
  rintro w2 ⟨k0, k1, k2, k3, k4, hB⟩
  have r0 := row_of k0
  have f0 := frozen_of k0
  have z0 := blk_lt k0
  have r1 := row_of k1
  have f1 := frozen_of k1
  have z1 := blk_lt k1
  have r2 := row_of k2
  have f2 := frozen_of k2
  have z2 := blk_lt k2
  have r3 := row_of k3
  have f3 := frozen_of k3
  have z3 := blk_lt k3
  have r4 := row_of k4
  have f4 := frozen_of k4
  have z4 := blk_lt k4
  clear k0 r0 f0 z0 k1 r1 f1 z1
  go_wp2_with fail
  refine (min4 _ _ _ _ _ _ z4 (row_of k4 0) (row_of k4 1) (row_of k4 2) (row_of k4 3)).mono ?_
  rw [show mn (mn (mn (f a0 b0) (f a0 b1)) (f a1 b0)) (f a1 b1) = bot f a0 a1 b0 b1 from rfl]
  rintro e wq ⟨rfl, rfl⟩
  go_wp2_with fail
  refine (max4 _ _ _ _ _ _ z4 (row_of k4 0) (row_of k4 1) (row_of k4 2) (row_of k4 3)).mono ?_
  rw [show mx (mx (mx (f a0 b0) (f a0 b1)) (f a1 b0)) (f a1 b1) = top f a0 a1 b0 b1 from rfl]
  rintro e wq ⟨rfl, rfl⟩
  clear k4 r4 f4 z4
  generalize hLd : bot f a0 a1 b0 b1 = L
  generalize hHd : top f a0 a1 b0 b1 = H
  go_upto_region 3 with fail
  clear hf
  by_cases hL : L < -2147483648
  · have hd := decide_eq_true hL
    go_wp2_with fail
    refine (of_any _ _ _).mono ?_
    rintro e w3 ⟨rfl, hb⟩
    replace k2 := blk_keep hb k2
    replace k3 := blk_keep hb k3
    replace hB := hB.trans (hb.mono hB.size)
    clear r2 f2 z2 r3 f3 z3
    clear hb
    have r2 := row_of k2
    have f2 := frozen_of k2
    have z2 := blk_lt k2
    have r3 := row_of k3
    have f3 := frozen_of k3
    have z3 := blk_lt k3
    go_wp2_with fail
    generalize hWF : (World.setCell (World.setCell (World.setCell (World.setCell _ _ _) _ _) _ _) _ _) = WF
    obtain ⟨kF, kG, bF⟩ := put22 (by omega) k2 k3 _ _ _ _ hWF.symm
    clear r2 f2 z2 r3 f3 z3
    clear hWF
    have rF := row_of kF
    have rG := row_of kG
    exact bodyPost_ret (v := .tuple #[.agg #[.int .i64 (ofP L H).1, .int .i64 (ofP L H).2], .agg #[.bool (true), .bool false]]) (by simp [results, Tryz.results138, go_sem, rF, rG]) rfl ⟨by subst hLd hHd; rw [hd]; rfl, hB.trans (bF _ (by show w.heap.size ≤ w.heap.size + 2; omega) (by show w.heap.size ≤ w.heap.size + 3; omega))⟩
  · have hd := decide_eq_false hL
    go_wp2_with fail
    refine (of_any _ _ _).mono ?_
    rintro e w3 ⟨rfl, hb⟩
    replace k2 := blk_keep hb k2
    replace k3 := blk_keep hb k3
    replace hB := hB.trans (hb.mono hB.size)
    clear r2 f2 z2 r3 f3 z3
    clear hb
    have r2 := row_of k2
    have f2 := frozen_of k2
    have z2 := blk_lt k2
    have r3 := row_of k3
    have f3 := frozen_of k3
    have z3 := blk_lt k3
    go_wp2_with fail
    generalize hWF : (World.setCell (World.setCell (World.setCell (World.setCell _ _ _) _ _) _ _) _ _) = WF
    obtain ⟨kF, kG, bF⟩ := put22 (by omega) k2 k3 _ _ _ _ hWF.symm
    clear r2 f2 z2 r3 f3 z3
    clear hWF
    have rF := row_of kF
    have rG := row_of kG
    exact bodyPost_ret (v := .tuple #[.agg #[.int .i64 (ofP L H).1, .int .i64 (ofP L H).2], .agg #[.bool (decide (2147483647 < H)), .bool false]]) (by simp [results, Tryz.results138, go_sem, rF, rG]) rfl ⟨by subst hLd hHd; rw [hd]; rfl, hB.trans (bF _ (by show w.heap.size ≤ w.heap.size + 2; omega) (by show w.heap.size ≤ w.heap.size + 3; omega))⟩
set_option maxRecDepth 100000 in
set_option maxHeartbeats 2000000 in
theorem ends_quo (f : Int → Int → Int) (a0 a1 b0 b1 : Int) (w : World) (hf : FnOk 147 f a0 a1 b0 b1) :
    Calls Tryz.prog 138 #[.agg #[.int .i64 a0, .int .i64 a1], .agg #[.int .i64 b0, .int .i64 b1], .func (.func 147) #[] #[]] w fun e w' => e = .returned (.tuple #[.agg #[.int .i64 (ofP (bot f a0 a1 b0 b1) (top f a0 a1 b0 b1)).1, .int .i64 (ofP (bot f a0 a1 b0 b1) (top f a0 a1 b0 b1)).2], .agg #[.bool (decide (bot f a0 a1 b0 b1 < -2147483648) || decide (2147483647 < top f a0 a1 b0 b1)), .bool false]]) ∧ Below w.heap.size w w' := by
  replace hf := Lib.hid hf
  go_enter Tryz.func138, Tryz.ntmps138
  go_upto_region 1 with fail
  refine wp_world (fun W => W.heap[w.heap.size]? = some (.cells #[.int .i64 a0, .int .i64 a1] 53 (0, 0)) ∧ W.heap[w.heap.size + 1]? = some (.cells #[.int .i64 b0, .int .i64 b1] 53 (0, 0)) ∧ W.heap[w.heap.size + 2]? = some (.cells #[.int .i64 0, .int .i64 0] 53 (0, 0)) ∧ W.heap[w.heap.size + 3]? = some (.cells #[.bool false, .bool false] 128 (0, 0)) ∧ Below w.heap.size w W) ⟨blkUp (blkUp (blkUp (blkA _ _ (by first | rfl | simp only [World.size_alloc])) _) _) _, blkUp (blkUp (blkA _ _ (by first | rfl | simp only [World.size_alloc])) _) _, blkUp (blkA _ _ (by first | rfl | simp only [World.size_alloc])) _, blkA _ _ (by first | rfl | simp only [World.size_alloc]), ((((Below.refl _ _).alloc (by first | exact Nat.le_refl _ | (simp only [World.size_alloc]; omega)) _).alloc (by first | exact Nat.le_refl _ | (simp only [World.size_alloc]; omega)) _).alloc (by first | exact Nat.le_refl _ | (simp only [World.size_alloc]; omega)) _).alloc (by first | exact Nat.le_refl _ | (simp only [World.size_alloc]; omega)) _⟩ ?_
  rintro w1 ⟨k0, k1, k2, k3, hB⟩
  have r0 := row_of k0
  have f0 := frozen_of k0
  have z0 := blk_lt k0
  have r1 := row_of k1
  have f1 := frozen_of k1
  have z1 := blk_lt k1
  have r2 := row_of k2
  have f2 := frozen_of k2
  have z2 := blk_lt k2
  have r3 := row_of k3
  have f3 := frozen_of k3
  have z3 := blk_lt k3
  have hS : w1.cell? ⟨w.heap.size, 0, none⟩ = some (.int .i64 a0) ∧ w1.cell? ⟨w.heap.size, 1, none⟩ = some (.int .i64 a1) ∧ w1.cell? ⟨w.heap.size + 1, 0, none⟩ = some (.int .i64 b0) ∧ w1.cell? ⟨w.heap.size + 1, 1, none⟩ = some (.int .i64 b1) := ⟨row_of k0 0, row_of k0 1, row_of k1 0, row_of k1 1⟩
  have hS2 := hS
  obtain ⟨q0, q1, q2, q3⟩ := hS2
  clear r0 f0 z0 r1 f1 z1 r2 f2 z2 r3 f3 z3
  go_region_held3 (fun W => W.cell? ⟨w.heap.size, 0, none⟩ = some (.int .i64 a0) ∧ W.cell? ⟨w.heap.size, 1, none⟩ = some (.int .i64 a1) ∧ W.cell? ⟨w.heap.size + 1, 0, none⟩ = some (.int .i64 b0) ∧ W.cell? ⟨w.heap.size + 1, 1, none⟩ = some (.int .i64 b1)) (first | assumption | exact hS | go_keep) (first | (go_at_call 147; refine (hf.out _ _ _ (by simp) (by simp)).mono ?_; rintro e wn ⟨rfl, rfl⟩))
  go_upto_region 2 with fail
  clear hS q0 q1 q2 q3
  have hz1_0 : w.heap.size < w1.heap.size := blk_lt k0
  have hz1_1 : w.heap.size + 1 < w1.heap.size := blk_lt k1
  have hz1_2 : w.heap.size + 2 < w1.heap.size := blk_lt k2
  have hz1_3 : w.heap.size + 3 < w1.heap.size := blk_lt k3
  refine wp_world (fun W => W.heap[w.heap.size]? = some (.cells #[.int .i64 a0, .int .i64 a1] 53 (0, 0)) ∧ W.heap[w.heap.size + 1]? = some (.cells #[.int .i64 b0, .int .i64 b1] 53 (0, 0)) ∧ W.heap[w.heap.size + 2]? = some (.cells #[.int .i64 0, .int .i64 0] 53 (0, 0)) ∧ W.heap[w.heap.size + 3]? = some (.cells #[.bool false, .bool false] 128 (0, 0)) ∧ W.heap[w1.heap.size]? = some (.cells #[.int .i64 (f a0 b0), .int .i64 (f a0 b1), .int .i64 (f a1 b0), .int .i64 (f a1 b1)] 3 (0, 0)) ∧ Below w.heap.size w W) ⟨blkUp (k0) _, blkUp (k1) _, blkUp (k2) _, blkUp (k3) _, blkA _ _ (by first | rfl | simp only [World.size_alloc]), ((hB).alloc (by first | exact hB.size | (simp only [World.size_alloc]; omega)) _).drew⟩ ?_
  rintro w2 ⟨k0, k1, k2, k3, k4, hB⟩
  have r0 := row_of k0
  have f0 := frozen_of k0
  have z0 := blk_lt k0
  have r1 := row_of k1
  have f1 := frozen_of k1
  have z1 := blk_lt k1
  have r2 := row_of k2
  have f2 := frozen_of k2
  have z2 := blk_lt k2
  have r3 := row_of k3
  have f3 := frozen_of k3
  have z3 := blk_lt k3
  have r4 := row_of k4
  have f4 := frozen_of k4
  have z4 := blk_lt k4
  clear k0 r0 f0 z0 k1 r1 f1 z1
  go_wp2_with fail
  refine (min4 _ _ _ _ _ _ z4 (row_of k4 0) (row_of k4 1) (row_of k4 2) (row_of k4 3)).mono ?_
  rw [show mn (mn (mn (f a0 b0) (f a0 b1)) (f a1 b0)) (f a1 b1) = bot f a0 a1 b0 b1 from rfl]
  rintro e wq ⟨rfl, rfl⟩
  go_wp2_with fail
  refine (max4 _ _ _ _ _ _ z4 (row_of k4 0) (row_of k4 1) (row_of k4 2) (row_of k4 3)).mono ?_
  rw [show mx (mx (mx (f a0 b0) (f a0 b1)) (f a1 b0)) (f a1 b1) = top f a0 a1 b0 b1 from rfl]
  rintro e wq ⟨rfl, rfl⟩
  clear k4 r4 f4 z4
  generalize hLd : bot f a0 a1 b0 b1 = L
  generalize hHd : top f a0 a1 b0 b1 = H
  go_upto_region 3 with fail
  clear hf
  by_cases hL : L < -2147483648
  · have hd := decide_eq_true hL
    go_wp2_with fail
    refine (of_any _ _ _).mono ?_
    rintro e w3 ⟨rfl, hb⟩
    replace k2 := blk_keep hb k2
    replace k3 := blk_keep hb k3
    replace hB := hB.trans (hb.mono hB.size)
    clear r2 f2 z2 r3 f3 z3
    clear hb
    have r2 := row_of k2
    have f2 := frozen_of k2
    have z2 := blk_lt k2
    have r3 := row_of k3
    have f3 := frozen_of k3
    have z3 := blk_lt k3
    go_wp2_with fail
    generalize hWF : (World.setCell (World.setCell (World.setCell (World.setCell _ _ _) _ _) _ _) _ _) = WF
    obtain ⟨kF, kG, bF⟩ := put22 (by omega) k2 k3 _ _ _ _ hWF.symm
    clear r2 f2 z2 r3 f3 z3
    clear hWF
    have rF := row_of kF
    have rG := row_of kG
    exact bodyPost_ret (v := .tuple #[.agg #[.int .i64 (ofP L H).1, .int .i64 (ofP L H).2], .agg #[.bool (true), .bool false]]) (by simp [results, Tryz.results138, go_sem, rF, rG]) rfl ⟨by subst hLd hHd; rw [hd]; rfl, hB.trans (bF _ (by show w.heap.size ≤ w.heap.size + 2; omega) (by show w.heap.size ≤ w.heap.size + 3; omega))⟩
  · have hd := decide_eq_false hL
    go_wp2_with fail
    refine (of_any _ _ _).mono ?_
    rintro e w3 ⟨rfl, hb⟩
    replace k2 := blk_keep hb k2
    replace k3 := blk_keep hb k3
    replace hB := hB.trans (hb.mono hB.size)
    clear r2 f2 z2 r3 f3 z3
    clear hb
    have r2 := row_of k2
    have f2 := frozen_of k2
    have z2 := blk_lt k2
    have r3 := row_of k3
    have f3 := frozen_of k3
    have z3 := blk_lt k3
    go_wp2_with fail
    generalize hWF : (World.setCell (World.setCell (World.setCell (World.setCell _ _ _) _ _) _ _) _ _) = WF
    obtain ⟨kF, kG, bF⟩ := put22 (by omega) k2 k3 _ _ _ _ hWF.symm
    clear r2 f2 z2 r3 f3 z3
    clear hWF
    have rF := row_of kF
    have rG := row_of kG
    exact bodyPost_ret (v := .tuple #[.agg #[.int .i64 (ofP L H).1, .int .i64 (ofP L H).2], .agg #[.bool (decide (2147483647 < H)), .bool false]]) (by simp [results, Tryz.results138, go_sem, rF, rG]) rfl ⟨by subst hLd hHd; rw [hd]; rfl, hB.trans (bF _ (by show w.heap.size ≤ w.heap.size + 2; omega) (by show w.heap.size ≤ w.heap.size + 3; omega))⟩
end Go.Proofs.YtlgmofjjjhbgkaaGreat
