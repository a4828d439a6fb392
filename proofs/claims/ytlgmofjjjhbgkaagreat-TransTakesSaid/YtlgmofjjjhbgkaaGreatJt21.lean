/-
  What rest makes of two; Do of products, quotients and rests.
-/
import Derived.Test.YtlgmofjjjhbgkaaGreatJt20
namespace Go.Proofs.YtlgmofjjjhbgkaaGreat
open Go.RowKit
theorem two_of {W : World} {n : Nat} {a b : Value} {t : TypeId} (h : W.heap[n]? = some (.cells #[a, b] t (0, 0))) : W.cell? ⟨n, 0, none⟩ = some a ∧ W.cell? ⟨n, 1, none⟩ = some b := ⟨row_of h 0, row_of h 1⟩
theorem blk_drew {W : World} {n : Nat} {x : Obj} (h : W.heap[n]? = some x) : W.drew.heap[n]? = some x := h

set_option maxRecDepth 100000 in
set_option maxHeartbeats 4000000 in
theorem rest_0 (a0 a1 b0 b1  : Int) (dz : Bool) (w : World) (hdz : decide (b0 ≤ 0 ∧ 0 ≤ b1) = dz) (hq : (b0 == 0) = true ∧ (b1 == 0) = true) :
    Calls Tryz.prog 143 #[.agg #[.int .i64 a0, .int .i64 a1], .agg #[.int .i64 b0, .int .i64 b1]] w fun e w' => e = .returned (.tuple #[.agg #[.int .i64 1, .int .i64 0], .agg #[.bool false, .bool dz]]) ∧ Below w.heap.size w w' := by
  have ch : ∀ W, Calls Tryz.prog 34 #[.agg #[.int .i64 b0, .int .i64 b1], .int .i64 0] W fun e w' => e = .returned (.bool dz) ∧ Below W.heap.size W w' := fun W => by
    have t := has_any b0 b1 0 W
    rwa [hdz] at t
  replace ch := Lib.hid ch
  replace hdz := Lib.hid hdz
  replace hq := Lib.hid hq
  have c0 := Lib.hid (fun W => const_in 0 W (by decide) (by decide))
  go_enter Tryz.func143, Tryz.ntmps143
  go_upto_region 1 with fail
  refine wp_world (fun W => W.heap[w.heap.size]? = some (.cells #[.int .i64 a0, .int .i64 a1] 53 (0, 0)) ∧ W.heap[w.heap.size + 1]? = some (.cells #[.int .i64 b0, .int .i64 b1] 53 (0, 0)) ∧ W.heap[w.heap.size + 2]? = some (.cells #[.int .i64 0, .int .i64 0] 53 (0, 0)) ∧ W.heap[w.heap.size + 3]? = some (.cells #[.bool false, .bool false] 128 (0, 0)) ∧ Below w.heap.size w W) ⟨blkUp (blkUp (blkUp (blkA _ _ (by first | rfl | simp only [World.size_alloc])) _) _) _, blkUp (blkUp (blkA _ _ (by first | rfl | simp only [World.size_alloc])) _) _, blkUp (blkA _ _ (by first | rfl | simp only [World.size_alloc])) _, blkA _ _ (by first | rfl | simp only [World.size_alloc]), ((((Below.refl _ _).alloc (by first | exact Nat.le_refl _ | (simp only [World.size_alloc]; omega)) _).alloc (by first | exact Nat.le_refl _ | (simp only [World.size_alloc]; omega)) _).alloc (by first | exact Nat.le_refl _ | (simp only [World.size_alloc]; omega)) _).alloc (by first | exact Nat.le_refl _ | (simp only [World.size_alloc]; omega)) _⟩ ?_
  rintro w1 ⟨k0, k1, k2, k3, hB⟩
  have r0 := row_of k0
  have f0 := frozen_of k0
  have z0 := blk_lt k0
  have r1 := row_of k1
  have f1 := frozen_of k1
  have z1 := blk_lt k1
  have r2 := row_of k2
  have f2 := frozen_of k2
  have z2 := blk_lt k2
  have r3 := row_of k3
  have f3 := frozen_of k3
  have z3 := blk_lt k3
  go_wp2_with fail
  refine (ch.out _).mono ?_
  rintro e w2 ⟨rfl, hb⟩
  replace k0 := blk_keep hb k0
  replace k1 := blk_keep hb k1
  replace k2 := blk_keep hb k2
  replace k3 := blk_keep hb k3
  replace hB := hB.trans (hb.mono hB.size)
  clear r0 f0 z0 r1 f1 z1 r2 f2 z2 r3 f3 z3
  clear hb
  have r0 := row_of k0
  have f0 := frozen_of k0
  have z0 := blk_lt k0
  have r1 := row_of k1
  have f1 := frozen_of k1
  have z1 := blk_lt k1
  have r2 := row_of k2
  have f2 := frozen_of k2
  have z2 := blk_lt k2
  have r3 := row_of k3
  have f3 := frozen_of k3
  have z3 := blk_lt k3
  go_upto_region 2 with fail
  have hz1_0 : w.heap.size < w2.heap.size := blk_lt k0
  have hz1_1 : w.heap.size + 1 < w2.heap.size := blk_lt k1
  have hz1_2 : w.heap.size + 2 < w2.heap.size := blk_lt k2
  have hz1_3 : w.heap.size + 3 < w2.heap.size := blk_lt k3
  refine wp_world (fun W => W.heap[w.heap.size]? = some (.cells #[.int .i64 a0, .int .i64 a1] 53 (0, 0)) ∧ W.heap[w.heap.size + 1]? = some (.cells #[.int .i64 b0, .int .i64 b1] 53 (0, 0)) ∧ W.heap[w.heap.size + 2]? = some (.cells #[.int .i64 0, .int .i64 0] 53 (0, 0)) ∧ W.heap[w.heap.size + 3]? = some (.cells #[.bool false, .bool false] 128 (0, 0)) ∧ W.heap[w2.heap.size]? = some (.cells #[.bool false, .bool dz] 128 (0, 0)) ∧ Below w.heap.size w W) ⟨blkUp (k0) _, blkUp (k1) _, blkUp (k2) _, blkUp (k3) _, blkA _ _ (by first | rfl | simp only [World.size_alloc]), (hB).alloc (by first | exact hB.size | (simp only [World.size_alloc]; omega)) _⟩ ?_
  clear r0 f0 z0 r1 f1 z1 r2 f2 z2 r3 f3 z3
  clear hB k0 k1 k2 k3
  rintro w3 ⟨k0, k1, k2, k3, k4, hB⟩
  have r0 := row_of k0
  have f0 := frozen_of k0
  have z0 := blk_lt k0
  have r1 := row_of k1
  have f1 := frozen_of k1
  have z1 := blk_lt k1
  have r2 := row_of k2
  have f2 := frozen_of k2
  have z2 := blk_lt k2
  have r3 := row_of k3
  have f3 := frozen_of k3
  have z3 := blk_lt k3
  have r4 := row_of k4
  have f4 := frozen_of k4
  have z4 := blk_lt k4
  obtain ⟨q0, q1⟩ := hq.out
  clear r0 f0 z0 r1 f1 z1 r2 f2 z2 r3 f3 z3 r4 f4 z4
  have mkS : ∀ W, Below w3.heap.size w3 W → W.cell? ⟨w.heap.size + 1, 0, none⟩ = some (.int .i64 b0) ∧ W.cell? ⟨w.heap.size + 1, 1, none⟩ = some (.int .i64 b1) := fun W h => ⟨row_of (blk_keep h k1) 0, row_of (blk_keep h k1) 1⟩
  have hBn := Below.refl w3.heap.size w3
  have sv0 := k0
  have sv1 := k1
  have sv2 := k2
  have sv3 := k3
  have sv4 := k4
  clear k0 k1 k2 k3 k4
  go_region_held3 (fun W => W.cell? ⟨w.heap.size + 1, 0, none⟩ = some (.int .i64 b0) ∧ W.cell? ⟨w.heap.size + 1, 1, none⟩ = some (.int .i64 b1))
      (first | (with_reducible exact mkS _ hBn) | (with_reducible exact mkS _ (Below.drew hBn)) | (with_reducible exact mkS _ (below_al hBn _)) | (with_reducible exact mkS _ (Below.drew (below_al hBn _))))
      (first
        | (go_at_call 16; (with_reducible refine (c0.out _).mono ?_); rintro e wn ⟨rfl, hbS⟩; (try (with_reducible replace hbS := below_undrew hbS)); replace hBn := below_tr hBn hbS))
  go_upto_region 3 with fail
  refine wp_world (fun W => W.heap[w.heap.size]? = some (.cells #[.int .i64 a0, .int .i64 a1] 53 (0, 0)) ∧ W.heap[w.heap.size + 1]? = some (.cells #[.int .i64 b0, .int .i64 b1] 53 (0, 0)) ∧ W.heap[w.heap.size + 2]? = some (.cells #[.int .i64 0, .int .i64 0] 53 (0, 0)) ∧ W.heap[w.heap.size + 3]? = some (.cells #[.bool false, .bool false] 128 (0, 0)) ∧ W.heap[w2.heap.size]? = some (.cells #[.bool false, .bool dz] 128 (0, 0)) ∧ Below w.heap.size w W) (by first | exact ⟨blk_keep hBn sv0, blk_keep hBn sv1, blk_keep hBn sv2, blk_keep hBn sv3, blk_keep hBn sv4, hB.trans (hBn.mono hB.size)⟩ | exact ⟨blk_keep (Below.drew hBn) sv0, blk_keep (Below.drew hBn) sv1, blk_keep (Below.drew hBn) sv2, blk_keep (Below.drew hBn) sv3, blk_keep (Below.drew hBn) sv4, hB.trans ((Below.drew hBn).mono hB.size)⟩) ?_
  clear hB hBn mkS sv0 sv1 sv2 sv3 sv4
  rintro w4 ⟨k0, k1, k2, k3, k4, hB⟩
  clear q0 q1
  have n4_2 : w2.heap.size ≠ w.heap.size + 2 := by omega
  have n4_3 : w2.heap.size ≠ w.heap.size + 3 := by omega
  replace hB := hB.drew
  replace k2 := blk_drew k2
  replace k3 := blk_drew k3
  replace k4 := blk_drew k4
  clear k0
  clear k1
  go_region_held3 (fun W => W.cell? ⟨w2.heap.size, 0, none⟩ = some (.bool false) ∧ W.cell? ⟨w2.heap.size, 1, none⟩ = some (.bool dz))
      (first | (with_reducible exact ⟨(two_of (k4)).1, (two_of (k4)).2⟩) | (with_reducible exact ⟨(two_of (blk_drew k4)).1, (two_of (blk_drew k4)).2⟩) | (with_reducible exact ⟨(two_of (setno k4 n4_2)).1, (two_of (setno k4 n4_2)).2⟩) | (with_reducible exact ⟨(two_of (setno (setno k4 n4_2) n4_3)).1, (two_of (setno (setno k4 n4_2) n4_3)).2⟩))
      (first
        | (go_at_call 37; (with_reducible refine (none_any _).mono ?_); rintro e wn ⟨rfl, hbS⟩; replace k2 := blk_keep hbS k2; replace k3 := blk_keep hbS k3; replace k4 := blk_keep hbS k4; replace hB := hB.trans (hbS.mono hB.size); have r2 := row_of k2; have f2 := frozen_of k2; have z2 := blk_lt k2; have r3 := row_of k3; have f3 := frozen_of k3; have z3 := blk_lt k3))
  go_wp2_with fail
  generalize hWF : (World.setCell (World.setCell (World.setCell (World.setCell _ _ _) _ _) _ _) _ _) = WF
  obtain ⟨kF, kG, bF⟩ := put22 (by omega) k2 k3 _ _ _ _ hWF.symm
  clear hWF
  have rF := row_of kF
  have rG := row_of kG
  exact bodyPost_ret (v := .tuple #[.agg #[.int .i64 1, .int .i64 0], .agg #[.bool false, .bool dz]]) (by simp [results, Tryz.results143, go_sem, rF, rG]) rfl ⟨rfl, hB.trans (bF _ (by show w.heap.size ≤ w.heap.size + 2; omega) (by show w.heap.size ≤ w.heap.size + 3; omega))⟩
set_option maxRecDepth 100000 in
set_option maxHeartbeats 4000000 in
theorem rest_1 (a0 a1 b0 b1 m : Int) (dz : Bool) (w : World) (hdz : decide (b0 ≤ 0 ∧ 0 ≤ b1) = dz) (hb0 : b0 ≠ 0) (hq : (b0 == 0) = false ∧ (a0 == a1) = true ∧ (b0 == b1) = true) (hm : IntKind.i64.wrap (a0.tmod b0) = m) (hm2 : a0.tmod b0 = m) (cm : ∀ W, Calls Tryz.prog 16 #[.int .i64 m] W fun e w' => e = .returned (.agg #[.int .i64 m, .int .i64 m]) ∧ Below W.heap.size W w') :
    Calls Tryz.prog 143 #[.agg #[.int .i64 a0, .int .i64 a1], .agg #[.int .i64 b0, .int .i64 b1]] w fun e w' => e = .returned (.tuple #[.agg #[.int .i64 m, .int .i64 m], .agg #[.bool false, .bool dz]]) ∧ Below w.heap.size w w' := by
  have ch : ∀ W, Calls Tryz.prog 34 #[.agg #[.int .i64 b0, .int .i64 b1], .int .i64 0] W fun e w' => e = .returned (.bool dz) ∧ Below W.heap.size W w' := fun W => by
    have t := has_any b0 b1 0 W
    rwa [hdz] at t
  replace ch := Lib.hid ch
  replace hdz := Lib.hid hdz
  replace hq := Lib.hid hq
  replace cm := Lib.hid cm
  replace hm := Lib.hid hm
  replace hm2 := Lib.hid hm2
  have c0 := Lib.hid (fun W => const_in 0 W (by decide) (by decide))
  go_enter Tryz.func143, Tryz.ntmps143
  go_upto_region 1 with fail
  refine wp_world (fun W => W.heap[w.heap.size]? = some (.cells #[.int .i64 a0, .int .i64 a1] 53 (0, 0)) ∧ W.heap[w.heap.size + 1]? = some (.cells #[.int .i64 b0, .int .i64 b1] 53 (0, 0)) ∧ W.heap[w.heap.size + 2]? = some (.cells #[.int .i64 0, .int .i64 0] 53 (0, 0)) ∧ W.heap[w.heap.size + 3]? = some (.cells #[.bool false, .bool false] 128 (0, 0)) ∧ Below w.heap.size w W) ⟨blkUp (blkUp (blkUp (blkA _ _ (by first | rfl | simp only [World.size_alloc])) _) _) _, blkUp (blkUp (blkA _ _ (by first | rfl | simp only [World.size_alloc])) _) _, blkUp (blkA _ _ (by first | rfl | simp only [World.size_alloc])) _, blkA _ _ (by first | rfl | simp only [World.size_alloc]), ((((Below.refl _ _).alloc (by first | exact Nat.le_refl _ | (simp only [World.size_alloc]; omega)) _).alloc (by first | exact Nat.le_refl _ | (simp only [World.size_alloc]; omega)) _).alloc (by first | exact Nat.le_refl _ | (simp only [World.size_alloc]; omega)) _).alloc (by first | exact Nat.le_refl _ | (simp only [World.size_alloc]; omega)) _⟩ ?_
  rintro w1 ⟨k0, k1, k2, k3, hB⟩
  have r0 := row_of k0
  have f0 := frozen_of k0
  have z0 := blk_lt k0
  have r1 := row_of k1
  have f1 := frozen_of k1
  have z1 := blk_lt k1
  have r2 := row_of k2
  have f2 := frozen_of k2
  have z2 := blk_lt k2
  have r3 := row_of k3
  have f3 := frozen_of k3
  have z3 := blk_lt k3
  go_wp2_with fail
  refine (ch.out _).mono ?_
  rintro e w2 ⟨rfl, hb⟩
  replace k0 := blk_keep hb k0
  replace k1 := blk_keep hb k1
  replace k2 := blk_keep hb k2
  replace k3 := blk_keep hb k3
  replace hB := hB.trans (hb.mono hB.size)
  clear r0 f0 z0 r1 f1 z1 r2 f2 z2 r3 f3 z3
  clear hb
  have r0 := row_of k0
  have f0 := frozen_of k0
  have z0 := blk_lt k0
  have r1 := row_of k1
  have f1 := frozen_of k1
  have z1 := blk_lt k1
  have r2 := row_of k2
  have f2 := frozen_of k2
  have z2 := blk_lt k2
  have r3 := row_of k3
  have f3 := frozen_of k3
  have z3 := blk_lt k3
  go_upto_region 2 with fail
  have hz1_0 : w.heap.size < w2.heap.size := blk_lt k0
  have hz1_1 : w.heap.size + 1 < w2.heap.size := blk_lt k1
  have hz1_2 : w.heap.size + 2 < w2.heap.size := blk_lt k2
  have hz1_3 : w.heap.size + 3 < w2.heap.size := blk_lt k3
  refine wp_world (fun W => W.heap[w.heap.size]? = some (.cells #[.int .i64 a0, .int .i64 a1] 53 (0, 0)) ∧ W.heap[w.heap.size + 1]? = some (.cells #[.int .i64 b0, .int .i64 b1] 53 (0, 0)) ∧ W.heap[w.heap.size + 2]? = some (.cells #[.int .i64 0, .int .i64 0] 53 (0, 0)) ∧ W.heap[w.heap.size + 3]? = some (.cells #[.bool false, .bool false] 128 (0, 0)) ∧ W.heap[w2.heap.size]? = some (.cells #[.bool false, .bool dz] 128 (0, 0)) ∧ Below w.heap.size w W) ⟨blkUp (k0) _, blkUp (k1) _, blkUp (k2) _, blkUp (k3) _, blkA _ _ (by first | rfl | simp only [World.size_alloc]), (hB).alloc (by first | exact hB.size | (simp only [World.size_alloc]; omega)) _⟩ ?_
  clear r0 f0 z0 r1 f1 z1 r2 f2 z2 r3 f3 z3
  clear hB k0 k1 k2 k3
  rintro w3 ⟨k0, k1, k2, k3, k4, hB⟩
  have r0 := row_of k0
  have f0 := frozen_of k0
  have z0 := blk_lt k0
  have r1 := row_of k1
  have f1 := frozen_of k1
  have z1 := blk_lt k1
  have r2 := row_of k2
  have f2 := frozen_of k2
  have z2 := blk_lt k2
  have r3 := row_of k3
  have f3 := frozen_of k3
  have z3 := blk_lt k3
  have r4 := row_of k4
  have f4 := frozen_of k4
  have z4 := blk_lt k4
  obtain ⟨q0, q1, q2⟩ := hq.out
  clear r0 f0 z0 r1 f1 z1 r2 f2 z2 r3 f3 z3 r4 f4 z4
  have mkS : ∀ W, Below w3.heap.size w3 W → W.cell? ⟨w.heap.size + 1, 0, none⟩ = some (.int .i64 b0) ∧ W.cell? ⟨w.heap.size + 1, 1, none⟩ = some (.int .i64 b1) := fun W h => ⟨row_of (blk_keep h k1) 0, row_of (blk_keep h k1) 1⟩
  have hBn := Below.refl w3.heap.size w3
  have sv0 := k0
  have sv1 := k1
  have sv2 := k2
  have sv3 := k3
  have sv4 := k4
  clear k0 k1 k2 k3 k4
  go_region_held3 (fun W => W.cell? ⟨w.heap.size + 1, 0, none⟩ = some (.int .i64 b0) ∧ W.cell? ⟨w.heap.size + 1, 1, none⟩ = some (.int .i64 b1))
      (first | (with_reducible exact mkS _ hBn) | (with_reducible exact mkS _ (Below.drew hBn)) | (with_reducible exact mkS _ (below_al hBn _)) | (with_reducible exact mkS _ (Below.drew (below_al hBn _))))
      (first
        | (go_at_call 16; (with_reducible refine (c0.out _).mono ?_); rintro e wn ⟨rfl, hbS⟩; (try (with_reducible replace hbS := below_undrew hbS)); replace hBn := below_tr hBn hbS))
  go_upto_region 4 with fail
  refine wp_world (fun W => W.heap[w.heap.size]? = some (.cells #[.int .i64 a0, .int .i64 a1] 53 (0, 0)) ∧ W.heap[w.heap.size + 1]? = some (.cells #[.int .i64 b0, .int .i64 b1] 53 (0, 0)) ∧ W.heap[w.heap.size + 2]? = some (.cells #[.int .i64 0, .int .i64 0] 53 (0, 0)) ∧ W.heap[w.heap.size + 3]? = some (.cells #[.bool false, .bool false] 128 (0, 0)) ∧ W.heap[w2.heap.size]? = some (.cells #[.bool false, .bool dz] 128 (0, 0)) ∧ Below w.heap.size w W) (by first | exact ⟨blk_keep hBn sv0, blk_keep hBn sv1, blk_keep hBn sv2, blk_keep hBn sv3, blk_keep hBn sv4, hB.trans (hBn.mono hB.size)⟩ | exact ⟨blk_keep (Below.drew hBn) sv0, blk_keep (Below.drew hBn) sv1, blk_keep (Below.drew hBn) sv2, blk_keep (Below.drew hBn) sv3, blk_keep (Below.drew hBn) sv4, hB.trans ((Below.drew hBn).mono hB.size)⟩) ?_
  clear hB hBn mkS sv0 sv1 sv2 sv3 sv4
  rintro w4 ⟨k0, k1, k2, k3, k4, hB⟩
  have r0 := row_of k0
  have f0 := frozen_of k0
  have z0 := blk_lt k0
  have r1 := row_of k1
  have f1 := frozen_of k1
  have z1 := blk_lt k1
  have r2 := row_of k2
  have f2 := frozen_of k2
  have z2 := blk_lt k2
  have r3 := row_of k3
  have f3 := frozen_of k3
  have z3 := blk_lt k3
  have r4 := row_of k4
  have f4 := frozen_of k4
  have z4 := blk_lt k4
  go_upto_region 5 with fail
  clear q1 q2
  have hm3 := hm.out
  have hm4 := hm2.out
  clear r0 f0 z0 r1 f1 z1 r2 f2 z2 r3 f3 z3 r4 f4 z4
  have n0_2 : w.heap.size ≠ w.heap.size + 2 := by omega
  have n0_3 : w.heap.size ≠ w.heap.size + 3 := by omega
  have n1_2 : w.heap.size + 1 ≠ w.heap.size + 2 := by omega
  have n1_3 : w.heap.size + 1 ≠ w.heap.size + 3 := by omega
  have n4_2 : w2.heap.size ≠ w.heap.size + 2 := by omega
  have n4_3 : w2.heap.size ≠ w.heap.size + 3 := by omega
  replace hB := hB.drew
  replace k0 := blk_drew k0
  replace k1 := blk_drew k1
  replace k2 := blk_drew k2
  replace k3 := blk_drew k3
  replace k4 := blk_drew k4
  go_region_held3 (fun W => W.cell? ⟨w.heap.size, 0, none⟩ = some (.int .i64 a0) ∧ W.cell? ⟨w.heap.size, 1, none⟩ = some (.int .i64 a1) ∧ W.cell? ⟨w.heap.size + 1, 0, none⟩ = some (.int .i64 b0) ∧ W.cell? ⟨w.heap.size + 1, 1, none⟩ = some (.int .i64 b1) ∧ W.cell? ⟨w2.heap.size, 0, none⟩ = some (.bool false) ∧ W.cell? ⟨w2.heap.size, 1, none⟩ = some (.bool dz))
      (first | (with_reducible exact ⟨(two_of (k0)).1, (two_of (k0)).2, (two_of (k1)).1, (two_of (k1)).2, (two_of (k4)).1, (two_of (k4)).2⟩) | (with_reducible exact ⟨(two_of (blk_drew k0)).1, (two_of (blk_drew k0)).2, (two_of (blk_drew k1)).1, (two_of (blk_drew k1)).2, (two_of (blk_drew k4)).1, (two_of (blk_drew k4)).2⟩) | (with_reducible exact ⟨(two_of (setno k0 n0_2)).1, (two_of (setno k0 n0_2)).2, (two_of (setno k1 n1_2)).1, (two_of (setno k1 n1_2)).2, (two_of (setno k4 n4_2)).1, (two_of (setno k4 n4_2)).2⟩) | (with_reducible exact ⟨(two_of (setno (setno k0 n0_2) n0_3)).1, (two_of (setno (setno k0 n0_2) n0_3)).2, (two_of (setno (setno k1 n1_2) n1_3)).1, (two_of (setno (setno k1 n1_2) n1_3)).2, (two_of (setno (setno k4 n4_2) n4_3)).1, (two_of (setno (setno k4 n4_2) n4_3)).2⟩))
      (first
        | (go_at_call 16; (with_reducible refine (cm.out _).mono ?_); rintro e wn ⟨rfl, hbS⟩; replace k0 := blk_keep hbS k0; replace k1 := blk_keep hbS k1; replace k2 := blk_keep hbS k2; replace k3 := blk_keep hbS k3; replace k4 := blk_keep hbS k4; replace hB := hB.trans (hbS.mono hB.size); have r2 := row_of k2; have f2 := frozen_of k2; have z2 := blk_lt k2; have r3 := row_of k3; have f3 := frozen_of k3; have z3 := blk_lt k3))
  go_wp2_with fail
  generalize hWF : (World.setCell (World.setCell (World.setCell (World.setCell _ _ _) _ _) _ _) _ _) = WF
  obtain ⟨kF, kG, bF⟩ := put22 (by omega) k2 k3 _ _ _ _ hWF.symm
  clear hWF
  have rF := row_of kF
  have rG := row_of kG
  exact bodyPost_ret (v := .tuple #[.agg #[.int .i64 m, .int .i64 m], .agg #[.bool false, .bool dz]]) (by simp [results, Tryz.results143, go_sem, rF, rG]) rfl ⟨rfl, hB.trans (bF _ (by show w.heap.size ≤ w.heap.size + 2; omega) (by show w.heap.size ≤ w.heap.size + 3; omega))⟩
set_option maxRecDepth 100000 in
set_option maxHeartbeats 4000000 in
theorem rest_2a1 (a0 a1 b0 b1 l h M N m L X H : Int) (dz : Bool) (w : World) (hdz : decide (b0 ≤ 0 ∧ 0 ≤ b1) = dz) (hq : (b0 == 0) = false ∧ (a0 == a1) = false) (r1 : -2147483648 ≤ b0) (r2 : b0 ≤ 2147483647) (_r3 : -2147483648 ≤ b1) (_r4 : b1 ≤ 2147483647) (hM : (if -b0 < b1 then b1 else -b0) = M) (M1 : -2147483648 ≤ M) (M2 : M ≤ 2147483648) (hN : IntKind.i64.wrap (-(M - 1)) = N) (hm : (if 0 < a0 then 0 else a0) = m) (hL : (if N < m then m else N) = L) (hX : (if a1 < 0 then 0 else a1) = X) (hH : (if X < M - 1 then X else M - 1) = H) (co : ∀ W, Calls Tryz.prog 21 #[.int .i64 L, .int .i64 H] W fun e w' => e = .returned (.agg #[.int .i64 l, .int .i64 h]) ∧ Below W.heap.size W w') :
    Calls Tryz.prog 143 #[.agg #[.int .i64 a0, .int .i64 a1], .agg #[.int .i64 b0, .int .i64 b1]] w fun e w' => e = .returned (.tuple #[.agg #[.int .i64 l, .int .i64 h], .agg #[.bool false, .bool dz]]) ∧ Below w.heap.size w w' := by
  have ch : ∀ W, Calls Tryz.prog 34 #[.agg #[.int .i64 b0, .int .i64 b1], .int .i64 0] W fun e w' => e = .returned (.bool dz) ∧ Below W.heap.size W w' := fun W => by
    have t := has_any b0 b1 0 W
    rwa [hdz] at t
  replace ch := Lib.hid ch
  replace hdz := Lib.hid hdz
  replace hq := Lib.hid hq
  replace hM := Lib.hid hM
  replace hN := Lib.hid hN
  replace hm := Lib.hid hm
  replace hL := Lib.hid hL
  replace hX := Lib.hid hX
  replace hH := Lib.hid hH
  replace co := Lib.hid co
  have c0 := Lib.hid (fun W => const_in 0 W (by decide) (by decide))
  go_enter Tryz.func143, Tryz.ntmps143
  go_upto_region 1 with fail
  refine wp_world (fun W => W.heap[w.heap.size]? = some (.cells #[.int .i64 a0, .int .i64 a1] 53 (0, 0)) ∧ W.heap[w.heap.size + 1]? = some (.cells #[.int .i64 b0, .int .i64 b1] 53 (0, 0)) ∧ W.heap[w.heap.size + 2]? = some (.cells #[.int .i64 0, .int .i64 0] 53 (0, 0)) ∧ W.heap[w.heap.size + 3]? = some (.cells #[.bool false, .bool false] 128 (0, 0)) ∧ Below w.heap.size w W) ⟨blkUp (blkUp (blkUp (blkA _ _ (by first | rfl | simp only [World.size_alloc])) _) _) _, blkUp (blkUp (blkA _ _ (by first | rfl | simp only [World.size_alloc])) _) _, blkUp (blkA _ _ (by first | rfl | simp only [World.size_alloc])) _, blkA _ _ (by first | rfl | simp only [World.size_alloc]), ((((Below.refl _ _).alloc (by first | exact Nat.le_refl _ | (simp only [World.size_alloc]; omega)) _).alloc (by first | exact Nat.le_refl _ | (simp only [World.size_alloc]; omega)) _).alloc (by first | exact Nat.le_refl _ | (simp only [World.size_alloc]; omega)) _).alloc (by first | exact Nat.le_refl _ | (simp only [World.size_alloc]; omega)) _⟩ ?_
  rintro w1 ⟨k0, k1, k2, k3, hB⟩
  have r0 := row_of k0
  have f0 := frozen_of k0
  have z0 := blk_lt k0
  have r1 := row_of k1
  have f1 := frozen_of k1
  have z1 := blk_lt k1
  have r2 := row_of k2
  have f2 := frozen_of k2
  have z2 := blk_lt k2
  have r3 := row_of k3
  have f3 := frozen_of k3
  have z3 := blk_lt k3
  go_wp2_with fail
  refine (ch.out _).mono ?_
  rintro e w2 ⟨rfl, hb⟩
  replace k0 := blk_keep hb k0
  replace k1 := blk_keep hb k1
  replace k2 := blk_keep hb k2
  replace k3 := blk_keep hb k3
  replace hB := hB.trans (hb.mono hB.size)
  clear r0 f0 z0 r1 f1 z1 r2 f2 z2 r3 f3 z3
  clear hb
  have r0 := row_of k0
  have f0 := frozen_of k0
  have z0 := blk_lt k0
  have r1 := row_of k1
  have f1 := frozen_of k1
  have z1 := blk_lt k1
  have r2 := row_of k2
  have f2 := frozen_of k2
  have z2 := blk_lt k2
  have r3 := row_of k3
  have f3 := frozen_of k3
  have z3 := blk_lt k3
  go_upto_region 2 with fail
  have hz1_0 : w.heap.size < w2.heap.size := blk_lt k0
  have hz1_1 : w.heap.size + 1 < w2.heap.size := blk_lt k1
  have hz1_2 : w.heap.size + 2 < w2.heap.size := blk_lt k2
  have hz1_3 : w.heap.size + 3 < w2.heap.size := blk_lt k3
  refine wp_world (fun W => W.heap[w.heap.size]? = some (.cells #[.int .i64 a0, .int .i64 a1] 53 (0, 0)) ∧ W.heap[w.heap.size + 1]? = some (.cells #[.int .i64 b0, .int .i64 b1] 53 (0, 0)) ∧ W.heap[w.heap.size + 2]? = some (.cells #[.int .i64 0, .int .i64 0] 53 (0, 0)) ∧ W.heap[w.heap.size + 3]? = some (.cells #[.bool false, .bool false] 128 (0, 0)) ∧ W.heap[w2.heap.size]? = some (.cells #[.bool false, .bool dz] 128 (0, 0)) ∧ Below w.heap.size w W) ⟨blkUp (k0) _, blkUp (k1) _, blkUp (k2) _, blkUp (k3) _, blkA _ _ (by first | rfl | simp only [World.size_alloc]), (hB).alloc (by first | exact hB.size | (simp only [World.size_alloc]; omega)) _⟩ ?_
  clear r0 f0 z0 r1 f1 z1 r2 f2 z2 r3 f3 z3
  clear hB k0 k1 k2 k3
  rintro w3 ⟨k0, k1, k2, k3, k4, hB⟩
  have r0 := row_of k0
  have f0 := frozen_of k0
  have z0 := blk_lt k0
  have r1 := row_of k1
  have f1 := frozen_of k1
  have z1 := blk_lt k1
  have r2 := row_of k2
  have f2 := frozen_of k2
  have z2 := blk_lt k2
  have r3 := row_of k3
  have f3 := frozen_of k3
  have z3 := blk_lt k3
  have r4 := row_of k4
  have f4 := frozen_of k4
  have z4 := blk_lt k4
  obtain ⟨q0, p0⟩ := hq.out
  clear r0 f0 z0 r1 f1 z1 r2 f2 z2 r3 f3 z3 r4 f4 z4
  have mkS : ∀ W, Below w3.heap.size w3 W → W.cell? ⟨w.heap.size + 1, 0, none⟩ = some (.int .i64 b0) ∧ W.cell? ⟨w.heap.size + 1, 1, none⟩ = some (.int .i64 b1) := fun W h => ⟨row_of (blk_keep h k1) 0, row_of (blk_keep h k1) 1⟩
  have hBn := Below.refl w3.heap.size w3
  have sv0 := k0
  have sv1 := k1
  have sv2 := k2
  have sv3 := k3
  have sv4 := k4
  clear k0 k1 k2 k3 k4
  go_region_held3 (fun W => W.cell? ⟨w.heap.size + 1, 0, none⟩ = some (.int .i64 b0) ∧ W.cell? ⟨w.heap.size + 1, 1, none⟩ = some (.int .i64 b1))
      (first | (with_reducible exact mkS _ hBn) | (with_reducible exact mkS _ (Below.drew hBn)) | (with_reducible exact mkS _ (below_al hBn _)) | (with_reducible exact mkS _ (Below.drew (below_al hBn _))))
      (first
        | (go_at_call 16; (with_reducible refine (c0.out _).mono ?_); rintro e wn ⟨rfl, hbS⟩; (try (with_reducible replace hbS := below_undrew hbS)); replace hBn := below_tr hBn hbS))
  go_upto_region 4 with fail
  refine wp_world (fun W => W.heap[w.heap.size]? = some (.cells #[.int .i64 a0, .int .i64 a1] 53 (0, 0)) ∧ W.heap[w.heap.size + 1]? = some (.cells #[.int .i64 b0, .int .i64 b1] 53 (0, 0)) ∧ W.heap[w.heap.size + 2]? = some (.cells #[.int .i64 0, .int .i64 0] 53 (0, 0)) ∧ W.heap[w.heap.size + 3]? = some (.cells #[.bool false, .bool false] 128 (0, 0)) ∧ W.heap[w2.heap.size]? = some (.cells #[.bool false, .bool dz] 128 (0, 0)) ∧ Below w.heap.size w W) (by first | exact ⟨blk_keep hBn sv0, blk_keep hBn sv1, blk_keep hBn sv2, blk_keep hBn sv3, blk_keep hBn sv4, hB.trans (hBn.mono hB.size)⟩ | exact ⟨blk_keep (Below.drew hBn) sv0, blk_keep (Below.drew hBn) sv1, blk_keep (Below.drew hBn) sv2, blk_keep (Below.drew hBn) sv3, blk_keep (Below.drew hBn) sv4, hB.trans ((Below.drew hBn).mono hB.size)⟩) ?_
  clear hB hBn mkS sv0 sv1 sv2 sv3 sv4
  rintro w4 ⟨k0, k1, k2, k3, k4, hB⟩
  have r0 := row_of k0
  have f0 := frozen_of k0
  have z0 := blk_lt k0
  have r1 := row_of k1
  have f1 := frozen_of k1
  have z1 := blk_lt k1
  have r2 := row_of k2
  have f2 := frozen_of k2
  have z2 := blk_lt k2
  have r3 := row_of k3
  have f3 := frozen_of k3
  have z3 := blk_lt k3
  have r4 := row_of k4
  have f4 := frozen_of k4
  have z4 := blk_lt k4
  have hM2 := hM.out
  go_upto_region 7 with fail
  clear hM2 q0 p0
  have hN2 := hN.out
  have hm2 := hm.out
  have hL2 := hL.out
  have hX2 := hX.out
  have hH2 := hH.out
  clear r0 f0 z0 r1 f1 z1 r2 f2 z2 r3 f3 z3 r4 f4 z4
  have n0_2 : w.heap.size ≠ w.heap.size + 2 := by omega
  have n0_3 : w.heap.size ≠ w.heap.size + 3 := by omega
  have n4_2 : w2.heap.size ≠ w.heap.size + 2 := by omega
  have n4_3 : w2.heap.size ≠ w.heap.size + 3 := by omega
  replace hB := hB.drew
  replace k0 := blk_drew k0
  replace k2 := blk_drew k2
  replace k3 := blk_drew k3
  replace k4 := blk_drew k4
  clear k1
  go_region_held3 (fun W => W.cell? ⟨w.heap.size, 0, none⟩ = some (.int .i64 a0) ∧ W.cell? ⟨w.heap.size, 1, none⟩ = some (.int .i64 a1) ∧ W.cell? ⟨w2.heap.size, 0, none⟩ = some (.bool false) ∧ W.cell? ⟨w2.heap.size, 1, none⟩ = some (.bool dz))
      (first | (with_reducible exact ⟨(two_of (k0)).1, (two_of (k0)).2, (two_of (k4)).1, (two_of (k4)).2⟩) | (with_reducible exact ⟨(two_of (blk_drew k0)).1, (two_of (blk_drew k0)).2, (two_of (blk_drew k4)).1, (two_of (blk_drew k4)).2⟩) | (with_reducible exact ⟨(two_of (setno k0 n0_2)).1, (two_of (setno k0 n0_2)).2, (two_of (setno k4 n4_2)).1, (two_of (setno k4 n4_2)).2⟩) | (with_reducible exact ⟨(two_of (setno (setno k0 n0_2) n0_3)).1, (two_of (setno (setno k0 n0_2) n0_3)).2, (two_of (setno (setno k4 n4_2) n4_3)).1, (two_of (setno (setno k4 n4_2) n4_3)).2⟩))
      (first
        | (go_at_call 21; (with_reducible refine (co.out _).mono ?_); rintro e wn ⟨rfl, hbS⟩; replace k0 := blk_keep hbS k0; replace k2 := blk_keep hbS k2; replace k3 := blk_keep hbS k3; replace k4 := blk_keep hbS k4; replace hB := hB.trans (hbS.mono hB.size); have r2 := row_of k2; have f2 := frozen_of k2; have z2 := blk_lt k2; have r3 := row_of k3; have f3 := frozen_of k3; have z3 := blk_lt k3))
  all_goals
    go_wp2_with fail
    generalize hWF : (World.setCell (World.setCell (World.setCell (World.setCell _ _ _) _ _) _ _) _ _) = WF
    obtain ⟨kF, kG, bF⟩ := put22 (by omega) k2 k3 _ _ _ _ hWF.symm
    clear hWF
    have rF := row_of kF
    have rG := row_of kG
    exact bodyPost_ret (v := .tuple #[.agg #[.int .i64 l, .int .i64 h], .agg #[.bool false, .bool dz]]) (by simp [results, Tryz.results143, go_sem, rF, rG]) rfl ⟨rfl, hB.trans (bF _ (by show w.heap.size ≤ w.heap.size + 2; omega) (by show w.heap.size ≤ w.heap.size + 3; omega))⟩
set_option maxRecDepth 100000 in
set_option maxHeartbeats 4000000 in
theorem rest_2a2 (a0 a1 b0 b1 l h M N m L X H : Int) (dz : Bool) (w : World) (hdz : decide (b0 ≤ 0 ∧ 0 ≤ b1) = dz) (hq : (b0 == 0) = false ∧ (a0 == a1) = true ∧ (b0 == b1) = false) (r1 : -2147483648 ≤ b0) (r2 : b0 ≤ 2147483647) (_r3 : -2147483648 ≤ b1) (_r4 : b1 ≤ 2147483647) (hM : (if -b0 < b1 then b1 else -b0) = M) (M1 : -2147483648 ≤ M) (M2 : M ≤ 2147483648) (hN : IntKind.i64.wrap (-(M - 1)) = N) (hm : (if 0 < a0 then 0 else a0) = m) (hL : (if N < m then m else N) = L) (hX : (if a1 < 0 then 0 else a1) = X) (hH : (if X < M - 1 then X else M - 1) = H) (co : ∀ W, Calls Tryz.prog 21 #[.int .i64 L, .int .i64 H] W fun e w' => e = .returned (.agg #[.int .i64 l, .int .i64 h]) ∧ Below W.heap.size W w') :
    Calls Tryz.prog 143 #[.agg #[.int .i64 a0, .int .i64 a1], .agg #[.int .i64 b0, .int .i64 b1]] w fun e w' => e = .returned (.tuple #[.agg #[.int .i64 l, .int .i64 h], .agg #[.bool false, .bool dz]]) ∧ Below w.heap.size w w' := by
  have ch : ∀ W, Calls Tryz.prog 34 #[.agg #[.int .i64 b0, .int .i64 b1], .int .i64 0] W fun e w' => e = .returned (.bool dz) ∧ Below W.heap.size W w' := fun W => by
    have t := has_any b0 b1 0 W
    rwa [hdz] at t
  replace ch := Lib.hid ch
  replace hdz := Lib.hid hdz
  replace hq := Lib.hid hq
  replace hM := Lib.hid hM
  replace hN := Lib.hid hN
  replace hm := Lib.hid hm
  replace hL := Lib.hid hL
  replace hX := Lib.hid hX
  replace hH := Lib.hid hH
  replace co := Lib.hid co
  have c0 := Lib.hid (fun W => const_in 0 W (by decide) (by decide))
  go_enter Tryz.func143, Tryz.ntmps143
  go_upto_region 1 with fail
  refine wp_world (fun W => W.heap[w.heap.size]? = some (.cells #[.int .i64 a0, .int .i64 a1] 53 (0, 0)) ∧ W.heap[w.heap.size + 1]? = some (.cells #[.int .i64 b0, .int .i64 b1] 53 (0, 0)) ∧ W.heap[w.heap.size + 2]? = some (.cells #[.int .i64 0, .int .i64 0] 53 (0, 0)) ∧ W.heap[w.heap.size + 3]? = some (.cells #[.bool false, .bool false] 128 (0, 0)) ∧ Below w.heap.size w W) ⟨blkUp (blkUp (blkUp (blkA _ _ (by first | rfl | simp only [World.size_alloc])) _) _) _, blkUp (blkUp (blkA _ _ (by first | rfl | simp only [World.size_alloc])) _) _, blkUp (blkA _ _ (by first | rfl | simp only [World.size_alloc])) _, blkA _ _ (by first | rfl | simp only [World.size_alloc]), ((((Below.refl _ _).alloc (by first | exact Nat.le_refl _ | (simp only [World.size_alloc]; omega)) _).alloc (by first | exact Nat.le_refl _ | (simp only [World.size_alloc]; omega)) _).alloc (by first | exact Nat.le_refl _ | (simp only [World.size_alloc]; omega)) _).alloc (by first | exact Nat.le_refl _ | (simp only [World.size_alloc]; omega)) _⟩ ?_
  rintro w1 ⟨k0, k1, k2, k3, hB⟩
  have r0 := row_of k0
  have f0 := frozen_of k0
  have z0 := blk_lt k0
  have r1 := row_of k1
  have f1 := frozen_of k1
  have z1 := blk_lt k1
  have r2 := row_of k2
  have f2 := frozen_of k2
  have z2 := blk_lt k2
  have r3 := row_of k3
  have f3 := frozen_of k3
  have z3 := blk_lt k3
  go_wp2_with fail
  refine (ch.out _).mono ?_
  rintro e w2 ⟨rfl, hb⟩
  replace k0 := blk_keep hb k0
  replace k1 := blk_keep hb k1
  replace k2 := blk_keep hb k2
  replace k3 := blk_keep hb k3
  replace hB := hB.trans (hb.mono hB.size)
  clear r0 f0 z0 r1 f1 z1 r2 f2 z2 r3 f3 z3
  clear hb
  have r0 := row_of k0
  have f0 := frozen_of k0
  have z0 := blk_lt k0
  have r1 := row_of k1
  have f1 := frozen_of k1
  have z1 := blk_lt k1
  have r2 := row_of k2
  have f2 := frozen_of k2
  have z2 := blk_lt k2
  have r3 := row_of k3
  have f3 := frozen_of k3
  have z3 := blk_lt k3
  go_upto_region 2 with fail
  have hz1_0 : w.heap.size < w2.heap.size := blk_lt k0
  have hz1_1 : w.heap.size + 1 < w2.heap.size := blk_lt k1
  have hz1_2 : w.heap.size + 2 < w2.heap.size := blk_lt k2
  have hz1_3 : w.heap.size + 3 < w2.heap.size := blk_lt k3
  refine wp_world (fun W => W.heap[w.heap.size]? = some (.cells #[.int .i64 a0, .int .i64 a1] 53 (0, 0)) ∧ W.heap[w.heap.size + 1]? = some (.cells #[.int .i64 b0, .int .i64 b1] 53 (0, 0)) ∧ W.heap[w.heap.size + 2]? = some (.cells #[.int .i64 0, .int .i64 0] 53 (0, 0)) ∧ W.heap[w.heap.size + 3]? = some (.cells #[.bool false, .bool false] 128 (0, 0)) ∧ W.heap[w2.heap.size]? = some (.cells #[.bool false, .bool dz] 128 (0, 0)) ∧ Below w.heap.size w W) ⟨blkUp (k0) _, blkUp (k1) _, blkUp (k2) _, blkUp (k3) _, blkA _ _ (by first | rfl | simp only [World.size_alloc]), (hB).alloc (by first | exact hB.size | (simp only [World.size_alloc]; omega)) _⟩ ?_
  clear r0 f0 z0 r1 f1 z1 r2 f2 z2 r3 f3 z3
  clear hB k0 k1 k2 k3
  rintro w3 ⟨k0, k1, k2, k3, k4, hB⟩
  have r0 := row_of k0
  have f0 := frozen_of k0
  have z0 := blk_lt k0
  have r1 := row_of k1
  have f1 := frozen_of k1
  have z1 := blk_lt k1
  have r2 := row_of k2
  have f2 := frozen_of k2
  have z2 := blk_lt k2
  have r3 := row_of k3
  have f3 := frozen_of k3
  have z3 := blk_lt k3
  have r4 := row_of k4
  have f4 := frozen_of k4
  have z4 := blk_lt k4
  obtain ⟨q0, p0, p1⟩ := hq.out
  clear r0 f0 z0 r1 f1 z1 r2 f2 z2 r3 f3 z3 r4 f4 z4
  have mkS : ∀ W, Below w3.heap.size w3 W → W.cell? ⟨w.heap.size + 1, 0, none⟩ = some (.int .i64 b0) ∧ W.cell? ⟨w.heap.size + 1, 1, none⟩ = some (.int .i64 b1) := fun W h => ⟨row_of (blk_keep h k1) 0, row_of (blk_keep h k1) 1⟩
  have hBn := Below.refl w3.heap.size w3
  have sv0 := k0
  have sv1 := k1
  have sv2 := k2
  have sv3 := k3
  have sv4 := k4
  clear k0 k1 k2 k3 k4
  go_region_held3 (fun W => W.cell? ⟨w.heap.size + 1, 0, none⟩ = some (.int .i64 b0) ∧ W.cell? ⟨w.heap.size + 1, 1, none⟩ = some (.int .i64 b1))
      (first | (with_reducible exact mkS _ hBn) | (with_reducible exact mkS _ (Below.drew hBn)) | (with_reducible exact mkS _ (below_al hBn _)) | (with_reducible exact mkS _ (Below.drew (below_al hBn _))))
      (first
        | (go_at_call 16; (with_reducible refine (c0.out _).mono ?_); rintro e wn ⟨rfl, hbS⟩; (try (with_reducible replace hbS := below_undrew hbS)); replace hBn := below_tr hBn hbS))
  go_upto_region 4 with fail
  refine wp_world (fun W => W.heap[w.heap.size]? = some (.cells #[.int .i64 a0, .int .i64 a1] 53 (0, 0)) ∧ W.heap[w.heap.size + 1]? = some (.cells #[.int .i64 b0, .int .i64 b1] 53 (0, 0)) ∧ W.heap[w.heap.size + 2]? = some (.cells #[.int .i64 0, .int .i64 0] 53 (0, 0)) ∧ W.heap[w.heap.size + 3]? = some (.cells #[.bool false, .bool false] 128 (0, 0)) ∧ W.heap[w2.heap.size]? = some (.cells #[.bool false, .bool dz] 128 (0, 0)) ∧ Below w.heap.size w W) (by first | exact ⟨blk_keep hBn sv0, blk_keep hBn sv1, blk_keep hBn sv2, blk_keep hBn sv3, blk_keep hBn sv4, hB.trans (hBn.mono hB.size)⟩ | exact ⟨blk_keep (Below.drew hBn) sv0, blk_keep (Below.drew hBn) sv1, blk_keep (Below.drew hBn) sv2, blk_keep (Below.drew hBn) sv3, blk_keep (Below.drew hBn) sv4, hB.trans ((Below.drew hBn).mono hB.size)⟩) ?_
  clear hB hBn mkS sv0 sv1 sv2 sv3 sv4
  rintro w4 ⟨k0, k1, k2, k3, k4, hB⟩
  have r0 := row_of k0
  have f0 := frozen_of k0
  have z0 := blk_lt k0
  have r1 := row_of k1
  have f1 := frozen_of k1
  have z1 := blk_lt k1
  have r2 := row_of k2
  have f2 := frozen_of k2
  have z2 := blk_lt k2
  have r3 := row_of k3
  have f3 := frozen_of k3
  have z3 := blk_lt k3
  have r4 := row_of k4
  have f4 := frozen_of k4
  have z4 := blk_lt k4
  have hM2 := hM.out
  go_upto_region 7 with fail
  clear hM2 q0 p0 p1
  have hN2 := hN.out
  have hm2 := hm.out
  have hL2 := hL.out
  have hX2 := hX.out
  have hH2 := hH.out
  clear r0 f0 z0 r1 f1 z1 r2 f2 z2 r3 f3 z3 r4 f4 z4
  have n0_2 : w.heap.size ≠ w.heap.size + 2 := by omega
  have n0_3 : w.heap.size ≠ w.heap.size + 3 := by omega
  have n4_2 : w2.heap.size ≠ w.heap.size + 2 := by omega
  have n4_3 : w2.heap.size ≠ w.heap.size + 3 := by omega
  replace hB := hB.drew
  replace k0 := blk_drew k0
  replace k2 := blk_drew k2
  replace k3 := blk_drew k3
  replace k4 := blk_drew k4
  clear k1
  go_region_held3 (fun W => W.cell? ⟨w.heap.size, 0, none⟩ = some (.int .i64 a0) ∧ W.cell? ⟨w.heap.size, 1, none⟩ = some (.int .i64 a1) ∧ W.cell? ⟨w2.heap.size, 0, none⟩ = some (.bool false) ∧ W.cell? ⟨w2.heap.size, 1, none⟩ = some (.bool dz))
      (first | (with_reducible exact ⟨(two_of (k0)).1, (two_of (k0)).2, (two_of (k4)).1, (two_of (k4)).2⟩) | (with_reducible exact ⟨(two_of (blk_drew k0)).1, (two_of (blk_drew k0)).2, (two_of (blk_drew k4)).1, (two_of (blk_drew k4)).2⟩) | (with_reducible exact ⟨(two_of (setno k0 n0_2)).1, (two_of (setno k0 n0_2)).2, (two_of (setno k4 n4_2)).1, (two_of (setno k4 n4_2)).2⟩) | (with_reducible exact ⟨(two_of (setno (setno k0 n0_2) n0_3)).1, (two_of (setno (setno k0 n0_2) n0_3)).2, (two_of (setno (setno k4 n4_2) n4_3)).1, (two_of (setno (setno k4 n4_2) n4_3)).2⟩))
      (first
        | (go_at_call 21; (with_reducible refine (co.out _).mono ?_); rintro e wn ⟨rfl, hbS⟩; replace k0 := blk_keep hbS k0; replace k2 := blk_keep hbS k2; replace k3 := blk_keep hbS k3; replace k4 := blk_keep hbS k4; replace hB := hB.trans (hbS.mono hB.size); have r2 := row_of k2; have f2 := frozen_of k2; have z2 := blk_lt k2; have r3 := row_of k3; have f3 := frozen_of k3; have z3 := blk_lt k3))
  all_goals
    go_wp2_with fail
    generalize hWF : (World.setCell (World.setCell (World.setCell (World.setCell _ _ _) _ _) _ _) _ _) = WF
    obtain ⟨kF, kG, bF⟩ := put22 (by omega) k2 k3 _ _ _ _ hWF.symm
    clear hWF
    have rF := row_of kF
    have rG := row_of kG
    exact bodyPost_ret (v := .tuple #[.agg #[.int .i64 l, .int .i64 h], .agg #[.bool false, .bool dz]]) (by simp [results, Tryz.results143, go_sem, rF, rG]) rfl ⟨rfl, hB.trans (bF _ (by show w.heap.size ≤ w.heap.size + 2; omega) (by show w.heap.size ≤ w.heap.size + 3; omega))⟩
set_option maxRecDepth 100000 in
set_option maxHeartbeats 4000000 in
theorem rest_2b1 (a0 a1 b0 b1 l h M N m L X H : Int) (dz : Bool) (w : World) (hdz : decide (b0 ≤ 0 ∧ 0 ≤ b1) = dz) (hq : (b0 == 0) = true ∧ (b1 == 0) = false ∧ (a0 == a1) = false) (r1 : -2147483648 ≤ b0) (r2 : b0 ≤ 2147483647) (_r3 : -2147483648 ≤ b1) (_r4 : b1 ≤ 2147483647) (hM : (if -b0 < b1 then b1 else -b0) = M) (M1 : -2147483648 ≤ M) (M2 : M ≤ 2147483648) (hN : IntKind.i64.wrap (-(M - 1)) = N) (hm : (if 0 < a0 then 0 else a0) = m) (hL : (if N < m then m else N) = L) (hX : (if a1 < 0 then 0 else a1) = X) (hH : (if X < M - 1 then X else M - 1) = H) (co : ∀ W, Calls Tryz.prog 21 #[.int .i64 L, .int .i64 H] W fun e w' => e = .returned (.agg #[.int .i64 l, .int .i64 h]) ∧ Below W.heap.size W w') :
    Calls Tryz.prog 143 #[.agg #[.int .i64 a0, .int .i64 a1], .agg #[.int .i64 b0, .int .i64 b1]] w fun e w' => e = .returned (.tuple #[.agg #[.int .i64 l, .int .i64 h], .agg #[.bool false, .bool dz]]) ∧ Below w.heap.size w w' := by
  have ch : ∀ W, Calls Tryz.prog 34 #[.agg #[.int .i64 b0, .int .i64 b1], .int .i64 0] W fun e w' => e = .returned (.bool dz) ∧ Below W.heap.size W w' := fun W => by
    have t := has_any b0 b1 0 W
    rwa [hdz] at t
  replace ch := Lib.hid ch
  replace hdz := Lib.hid hdz
  replace hq := Lib.hid hq
  replace hM := Lib.hid hM
  replace hN := Lib.hid hN
  replace hm := Lib.hid hm
  replace hL := Lib.hid hL
  replace hX := Lib.hid hX
  replace hH := Lib.hid hH
  replace co := Lib.hid co
  have c0 := Lib.hid (fun W => const_in 0 W (by decide) (by decide))
  go_enter Tryz.func143, Tryz.ntmps143
  go_upto_region 1 with fail
  refine wp_world (fun W => W.heap[w.heap.size]? = some (.cells #[.int .i64 a0, .int .i64 a1] 53 (0, 0)) ∧ W.heap[w.heap.size + 1]? = some (.cells #[.int .i64 b0, .int .i64 b1] 53 (0, 0)) ∧ W.heap[w.heap.size + 2]? = some (.cells #[.int .i64 0, .int .i64 0] 53 (0, 0)) ∧ W.heap[w.heap.size + 3]? = some (.cells #[.bool false, .bool false] 128 (0, 0)) ∧ Below w.heap.size w W) ⟨blkUp (blkUp (blkUp (blkA _ _ (by first | rfl | simp only [World.size_alloc])) _) _) _, blkUp (blkUp (blkA _ _ (by first | rfl | simp only [World.size_alloc])) _) _, blkUp (blkA _ _ (by first | rfl | simp only [World.size_alloc])) _, blkA _ _ (by first | rfl | simp only [World.size_alloc]), ((((Below.refl _ _).alloc (by first | exact Nat.le_refl _ | (simp only [World.size_alloc]; omega)) _).alloc (by first | exact Nat.le_refl _ | (simp only [World.size_alloc]; omega)) _).alloc (by first | exact Nat.le_refl _ | (simp only [World.size_alloc]; omega)) _).alloc (by first | exact Nat.le_refl _ | (simp only [World.size_alloc]; omega)) _⟩ ?_
  rintro w1 ⟨k0, k1, k2, k3, hB⟩
  have r0 := row_of k0
  have f0 := frozen_of k0
  have z0 := blk_lt k0
  have r1 := row_of k1
  have f1 := frozen_of k1
  have z1 := blk_lt k1
  have r2 := row_of k2
  have f2 := frozen_of k2
  have z2 := blk_lt k2
  have r3 := row_of k3
  have f3 := frozen_of k3
  have z3 := blk_lt k3
  go_wp2_with fail
  refine (ch.out _).mono ?_
  rintro e w2 ⟨rfl, hb⟩
  replace k0 := blk_keep hb k0
  replace k1 := blk_keep hb k1
  replace k2 := blk_keep hb k2
  replace k3 := blk_keep hb k3
  replace hB := hB.trans (hb.mono hB.size)
  clear r0 f0 z0 r1 f1 z1 r2 f2 z2 r3 f3 z3
  clear hb
  have r0 := row_of k0
  have f0 := frozen_of k0
  have z0 := blk_lt k0
  have r1 := row_of k1
  have f1 := frozen_of k1
  have z1 := blk_lt k1
  have r2 := row_of k2
  have f2 := frozen_of k2
  have z2 := blk_lt k2
  have r3 := row_of k3
  have f3 := frozen_of k3
  have z3 := blk_lt k3
  go_upto_region 2 with fail
  have hz1_0 : w.heap.size < w2.heap.size := blk_lt k0
  have hz1_1 : w.heap.size + 1 < w2.heap.size := blk_lt k1
  have hz1_2 : w.heap.size + 2 < w2.heap.size := blk_lt k2
  have hz1_3 : w.heap.size + 3 < w2.heap.size := blk_lt k3
  refine wp_world (fun W => W.heap[w.heap.size]? = some (.cells #[.int .i64 a0, .int .i64 a1] 53 (0, 0)) ∧ W.heap[w.heap.size + 1]? = some (.cells #[.int .i64 b0, .int .i64 b1] 53 (0, 0)) ∧ W.heap[w.heap.size + 2]? = some (.cells #[.int .i64 0, .int .i64 0] 53 (0, 0)) ∧ W.heap[w.heap.size + 3]? = some (.cells #[.bool false, .bool false] 128 (0, 0)) ∧ W.heap[w2.heap.size]? = some (.cells #[.bool false, .bool dz] 128 (0, 0)) ∧ Below w.heap.size w W) ⟨blkUp (k0) _, blkUp (k1) _, blkUp (k2) _, blkUp (k3) _, blkA _ _ (by first | rfl | simp only [World.size_alloc]), (hB).alloc (by first | exact hB.size | (simp only [World.size_alloc]; omega)) _⟩ ?_
  clear r0 f0 z0 r1 f1 z1 r2 f2 z2 r3 f3 z3
  clear hB k0 k1 k2 k3
  rintro w3 ⟨k0, k1, k2, k3, k4, hB⟩
  have r0 := row_of k0
  have f0 := frozen_of k0
  have z0 := blk_lt k0
  have r1 := row_of k1
  have f1 := frozen_of k1
  have z1 := blk_lt k1
  have r2 := row_of k2
  have f2 := frozen_of k2
  have z2 := blk_lt k2
  have r3 := row_of k3
  have f3 := frozen_of k3
  have z3 := blk_lt k3
  have r4 := row_of k4
  have f4 := frozen_of k4
  have z4 := blk_lt k4
  obtain ⟨q0, q1, p0⟩ := hq.out
  clear r0 f0 z0 r1 f1 z1 r2 f2 z2 r3 f3 z3 r4 f4 z4
  have mkS : ∀ W, Below w3.heap.size w3 W → W.cell? ⟨w.heap.size + 1, 0, none⟩ = some (.int .i64 b0) ∧ W.cell? ⟨w.heap.size + 1, 1, none⟩ = some (.int .i64 b1) := fun W h => ⟨row_of (blk_keep h k1) 0, row_of (blk_keep h k1) 1⟩
  have hBn := Below.refl w3.heap.size w3
  have sv0 := k0
  have sv1 := k1
  have sv2 := k2
  have sv3 := k3
  have sv4 := k4
  clear k0 k1 k2 k3 k4
  go_region_held3 (fun W => W.cell? ⟨w.heap.size + 1, 0, none⟩ = some (.int .i64 b0) ∧ W.cell? ⟨w.heap.size + 1, 1, none⟩ = some (.int .i64 b1))
      (first | (with_reducible exact mkS _ hBn) | (with_reducible exact mkS _ (Below.drew hBn)) | (with_reducible exact mkS _ (below_al hBn _)) | (with_reducible exact mkS _ (Below.drew (below_al hBn _))))
      (first
        | (go_at_call 16; (with_reducible refine (c0.out _).mono ?_); rintro e wn ⟨rfl, hbS⟩; (try (with_reducible replace hbS := below_undrew hbS)); replace hBn := below_tr hBn hbS))
  go_upto_region 4 with fail
  refine wp_world (fun W => W.heap[w.heap.size]? = some (.cells #[.int .i64 a0, .int .i64 a1] 53 (0, 0)) ∧ W.heap[w.heap.size + 1]? = some (.cells #[.int .i64 b0, .int .i64 b1] 53 (0, 0)) ∧ W.heap[w.heap.size + 2]? = some (.cells #[.int .i64 0, .int .i64 0] 53 (0, 0)) ∧ W.heap[w.heap.size + 3]? = some (.cells #[.bool false, .bool false] 128 (0, 0)) ∧ W.heap[w2.heap.size]? = some (.cells #[.bool false, .bool dz] 128 (0, 0)) ∧ Below w.heap.size w W) (by first | exact ⟨blk_keep hBn sv0, blk_keep hBn sv1, blk_keep hBn sv2, blk_keep hBn sv3, blk_keep hBn sv4, hB.trans (hBn.mono hB.size)⟩ | exact ⟨blk_keep (Below.drew hBn) sv0, blk_keep (Below.drew hBn) sv1, blk_keep (Below.drew hBn) sv2, blk_keep (Below.drew hBn) sv3, blk_keep (Below.drew hBn) sv4, hB.trans ((Below.drew hBn).mono hB.size)⟩) ?_
  clear hB hBn mkS sv0 sv1 sv2 sv3 sv4
  rintro w4 ⟨k0, k1, k2, k3, k4, hB⟩
  have r0 := row_of k0
  have f0 := frozen_of k0
  have z0 := blk_lt k0
  have r1 := row_of k1
  have f1 := frozen_of k1
  have z1 := blk_lt k1
  have r2 := row_of k2
  have f2 := frozen_of k2
  have z2 := blk_lt k2
  have r3 := row_of k3
  have f3 := frozen_of k3
  have z3 := blk_lt k3
  have r4 := row_of k4
  have f4 := frozen_of k4
  have z4 := blk_lt k4
  have hM2 := hM.out
  go_upto_region 7 with fail
  clear hM2 q0 q1 p0
  have hN2 := hN.out
  have hm2 := hm.out
  have hL2 := hL.out
  have hX2 := hX.out
  have hH2 := hH.out
  clear r0 f0 z0 r1 f1 z1 r2 f2 z2 r3 f3 z3 r4 f4 z4
  have n0_2 : w.heap.size ≠ w.heap.size + 2 := by omega
  have n0_3 : w.heap.size ≠ w.heap.size + 3 := by omega
  have n4_2 : w2.heap.size ≠ w.heap.size + 2 := by omega
  have n4_3 : w2.heap.size ≠ w.heap.size + 3 := by omega
  replace hB := hB.drew
  replace k0 := blk_drew k0
  replace k2 := blk_drew k2
  replace k3 := blk_drew k3
  replace k4 := blk_drew k4
  clear k1
  go_region_held3 (fun W => W.cell? ⟨w.heap.size, 0, none⟩ = some (.int .i64 a0) ∧ W.cell? ⟨w.heap.size, 1, none⟩ = some (.int .i64 a1) ∧ W.cell? ⟨w2.heap.size, 0, none⟩ = some (.bool false) ∧ W.cell? ⟨w2.heap.size, 1, none⟩ = some (.bool dz))
      (first | (with_reducible exact ⟨(two_of (k0)).1, (two_of (k0)).2, (two_of (k4)).1, (two_of (k4)).2⟩) | (with_reducible exact ⟨(two_of (blk_drew k0)).1, (two_of (blk_drew k0)).2, (two_of (blk_drew k4)).1, (two_of (blk_drew k4)).2⟩) | (with_reducible exact ⟨(two_of (setno k0 n0_2)).1, (two_of (setno k0 n0_2)).2, (two_of (setno k4 n4_2)).1, (two_of (setno k4 n4_2)).2⟩) | (with_reducible exact ⟨(two_of (setno (setno k0 n0_2) n0_3)).1, (two_of (setno (setno k0 n0_2) n0_3)).2, (two_of (setno (setno k4 n4_2) n4_3)).1, (two_of (setno (setno k4 n4_2) n4_3)).2⟩))
      (first
        | (go_at_call 21; (with_reducible refine (co.out _).mono ?_); rintro e wn ⟨rfl, hbS⟩; replace k0 := blk_keep hbS k0; replace k2 := blk_keep hbS k2; replace k3 := blk_keep hbS k3; replace k4 := blk_keep hbS k4; replace hB := hB.trans (hbS.mono hB.size); have r2 := row_of k2; have f2 := frozen_of k2; have z2 := blk_lt k2; have r3 := row_of k3; have f3 := frozen_of k3; have z3 := blk_lt k3))
  all_goals
    go_wp2_with fail
    generalize hWF : (World.setCell (World.setCell (World.setCell (World.setCell _ _ _) _ _) _ _) _ _) = WF
    obtain ⟨kF, kG, bF⟩ := put22 (by omega) k2 k3 _ _ _ _ hWF.symm
    clear hWF
    have rF := row_of kF
    have rG := row_of kG
    exact bodyPost_ret (v := .tuple #[.agg #[.int .i64 l, .int .i64 h], .agg #[.bool false, .bool dz]]) (by simp [results, Tryz.results143, go_sem, rF, rG]) rfl ⟨rfl, hB.trans (bF _ (by show w.heap.size ≤ w.heap.size + 2; omega) (by show w.heap.size ≤ w.heap.size + 3; omega))⟩
set_option maxRecDepth 100000 in
set_option maxHeartbeats 4000000 in
theorem rest_2b2 (a0 a1 b0 b1 l h M N m L X H : Int) (dz : Bool) (w : World) (hdz : decide (b0 ≤ 0 ∧ 0 ≤ b1) = dz) (hq : (b0 == 0) = true ∧ (b1 == 0) = false ∧ (a0 == a1) = true ∧ (b0 == b1) = false) (r1 : -2147483648 ≤ b0) (r2 : b0 ≤ 2147483647) (_r3 : -2147483648 ≤ b1) (_r4 : b1 ≤ 2147483647) (hM : (if -b0 < b1 then b1 else -b0) = M) (M1 : -2147483648 ≤ M) (M2 : M ≤ 2147483648) (hN : IntKind.i64.wrap (-(M - 1)) = N) (hm : (if 0 < a0 then 0 else a0) = m) (hL : (if N < m then m else N) = L) (hX : (if a1 < 0 then 0 else a1) = X) (hH : (if X < M - 1 then X else M - 1) = H) (co : ∀ W, Calls Tryz.prog 21 #[.int .i64 L, .int .i64 H] W fun e w' => e = .returned (.agg #[.int .i64 l, .int .i64 h]) ∧ Below W.heap.size W w') :
    Calls Tryz.prog 143 #[.agg #[.int .i64 a0, .int .i64 a1], .agg #[.int .i64 b0, .int .i64 b1]] w fun e w' => e = .returned (.tuple #[.agg #[.int .i64 l, .int .i64 h], .agg #[.bool false, .bool dz]]) ∧ Below w.heap.size w w' := by
  have ch : ∀ W, Calls Tryz.prog 34 #[.agg #[.int .i64 b0, .int .i64 b1], .int .i64 0] W fun e w' => e = .returned (.bool dz) ∧ Below W.heap.size W w' := fun W => by
    have t := has_any b0 b1 0 W
    rwa [hdz] at t
  replace ch := Lib.hid ch
  replace hdz := Lib.hid hdz
  replace hq := Lib.hid hq
  replace hM := Lib.hid hM
  replace hN := Lib.hid hN
  replace hm := Lib.hid hm
  replace hL := Lib.hid hL
  replace hX := Lib.hid hX
  replace hH := Lib.hid hH
  replace co := Lib.hid co
  have c0 := Lib.hid (fun W => const_in 0 W (by decide) (by decide))
  go_enter Tryz.func143, Tryz.ntmps143
  go_upto_region 1 with fail
  refine wp_world (fun W => W.heap[w.heap.size]? = some (.cells #[.int .i64 a0, .int .i64 a1] 53 (0, 0)) ∧ W.heap[w.heap.size + 1]? = some (.cells #[.int .i64 b0, .int .i64 b1] 53 (0, 0)) ∧ W.heap[w.heap.size + 2]? = some (.cells #[.int .i64 0, .int .i64 0] 53 (0, 0)) ∧ W.heap[w.heap.size + 3]? = some (.cells #[.bool false, .bool false] 128 (0, 0)) ∧ Below w.heap.size w W) ⟨blkUp (blkUp (blkUp (blkA _ _ (by first | rfl | simp only [World.size_alloc])) _) _) _, blkUp (blkUp (blkA _ _ (by first | rfl | simp only [World.size_alloc])) _) _, blkUp (blkA _ _ (by first | rfl | simp only [World.size_alloc])) _, blkA _ _ (by first | rfl | simp only [World.size_alloc]), ((((Below.refl _ _).alloc (by first | exact Nat.le_refl _ | (simp only [World.size_alloc]; omega)) _).alloc (by first | exact Nat.le_refl _ | (simp only [World.size_alloc]; omega)) _).alloc (by first | exact Nat.le_refl _ | (simp only [World.size_alloc]; omega)) _).alloc (by first | exact Nat.le_refl _ | (simp only [World.size_alloc]; omega)) _⟩ ?_
  rintro w1 ⟨k0, k1, k2, k3, hB⟩
  have r0 := row_of k0
  have f0 := frozen_of k0
  have z0 := blk_lt k0
  have r1 := row_of k1
  have f1 := frozen_of k1
  have z1 := blk_lt k1
  have r2 := row_of k2
  have f2 := frozen_of k2
  have z2 := blk_lt k2
  have r3 := row_of k3
  have f3 := frozen_of k3
  have z3 := blk_lt k3
  go_wp2_with fail
  refine (ch.out _).mono ?_
  rintro e w2 ⟨rfl, hb⟩
  replace k0 := blk_keep hb k0
  replace k1 := blk_keep hb k1
  replace k2 := blk_keep hb k2
  replace k3 := blk_keep hb k3
  replace hB := hB.trans (hb.mono hB.size)
  clear r0 f0 z0 r1 f1 z1 r2 f2 z2 r3 f3 z3
  clear hb
  have r0 := row_of k0
  have f0 := frozen_of k0
  have z0 := blk_lt k0
  have r1 := row_of k1
  have f1 := frozen_of k1
  have z1 := blk_lt k1
  have r2 := row_of k2
  have f2 := frozen_of k2
  have z2 := blk_lt k2
  have r3 := row_of k3
  have f3 := frozen_of k3
  have z3 := blk_lt k3
  go_upto_region 2 with fail
  have hz1_0 : w.heap.size < w2.heap.size := blk_lt k0
  have hz1_1 : w.heap.size + 1 < w2.heap.size := blk_lt k1
  have hz1_2 : w.heap.size + 2 < w2.heap.size := blk_lt k2
  have hz1_3 : w.heap.size + 3 < w2.heap.size := blk_lt k3
  refine wp_world (fun W => W.heap[w.heap.size]? = some (.cells #[.int .i64 a0, .int .i64 a1] 53 (0, 0)) ∧ W.heap[w.heap.size + 1]? = some (.cells #[.int .i64 b0, .int .i64 b1] 53 (0, 0)) ∧ W.heap[w.heap.size + 2]? = some (.cells #[.int .i64 0, .int .i64 0] 53 (0, 0)) ∧ W.heap[w.heap.size + 3]? = some (.cells #[.bool false, .bool false] 128 (0, 0)) ∧ W.heap[w2.heap.size]? = some (.cells #[.bool false, .bool dz] 128 (0, 0)) ∧ Below w.heap.size w W) ⟨blkUp (k0) _, blkUp (k1) _, blkUp (k2) _, blkUp (k3) _, blkA _ _ (by first | rfl | simp only [World.size_alloc]), (hB).alloc (by first | exact hB.size | (simp only [World.size_alloc]; omega)) _⟩ ?_
  clear r0 f0 z0 r1 f1 z1 r2 f2 z2 r3 f3 z3
  clear hB k0 k1 k2 k3
  rintro w3 ⟨k0, k1, k2, k3, k4, hB⟩
  have r0 := row_of k0
  have f0 := frozen_of k0
  have z0 := blk_lt k0
  have r1 := row_of k1
  have f1 := frozen_of k1
  have z1 := blk_lt k1
  have r2 := row_of k2
  have f2 := frozen_of k2
  have z2 := blk_lt k2
  have r3 := row_of k3
  have f3 := frozen_of k3
  have z3 := blk_lt k3
  have r4 := row_of k4
  have f4 := frozen_of k4
  have z4 := blk_lt k4
  obtain ⟨q0, q1, p0, p1⟩ := hq.out
  clear r0 f0 z0 r1 f1 z1 r2 f2 z2 r3 f3 z3 r4 f4 z4
  have mkS : ∀ W, Below w3.heap.size w3 W → W.cell? ⟨w.heap.size + 1, 0, none⟩ = some (.int .i64 b0) ∧ W.cell? ⟨w.heap.size + 1, 1, none⟩ = some (.int .i64 b1) := fun W h => ⟨row_of (blk_keep h k1) 0, row_of (blk_keep h k1) 1⟩
  have hBn := Below.refl w3.heap.size w3
  have sv0 := k0
  have sv1 := k1
  have sv2 := k2
  have sv3 := k3
  have sv4 := k4
  clear k0 k1 k2 k3 k4
  go_region_held3 (fun W => W.cell? ⟨w.heap.size + 1, 0, none⟩ = some (.int .i64 b0) ∧ W.cell? ⟨w.heap.size + 1, 1, none⟩ = some (.int .i64 b1))
      (first | (with_reducible exact mkS _ hBn) | (with_reducible exact mkS _ (Below.drew hBn)) | (with_reducible exact mkS _ (below_al hBn _)) | (with_reducible exact mkS _ (Below.drew (below_al hBn _))))
      (first
        | (go_at_call 16; (with_reducible refine (c0.out _).mono ?_); rintro e wn ⟨rfl, hbS⟩; (try (with_reducible replace hbS := below_undrew hbS)); replace hBn := below_tr hBn hbS))
  go_upto_region 4 with fail
  refine wp_world (fun W => W.heap[w.heap.size]? = some (.cells #[.int .i64 a0, .int .i64 a1] 53 (0, 0)) ∧ W.heap[w.heap.size + 1]? = some (.cells #[.int .i64 b0, .int .i64 b1] 53 (0, 0)) ∧ W.heap[w.heap.size + 2]? = some (.cells #[.int .i64 0, .int .i64 0] 53 (0, 0)) ∧ W.heap[w.heap.size + 3]? = some (.cells #[.bool false, .bool false] 128 (0, 0)) ∧ W.heap[w2.heap.size]? = some (.cells #[.bool false, .bool dz] 128 (0, 0)) ∧ Below w.heap.size w W) (by first | exact ⟨blk_keep hBn sv0, blk_keep hBn sv1, blk_keep hBn sv2, blk_keep hBn sv3, blk_keep hBn sv4, hB.trans (hBn.mono hB.size)⟩ | exact ⟨blk_keep (Below.drew hBn) sv0, blk_keep (Below.drew hBn) sv1, blk_keep (Below.drew hBn) sv2, blk_keep (Below.drew hBn) sv3, blk_keep (Below.drew hBn) sv4, hB.trans ((Below.drew hBn).mono hB.size)⟩) ?_
  clear hB hBn mkS sv0 sv1 sv2 sv3 sv4
  rintro w4 ⟨k0, k1, k2, k3, k4, hB⟩
  have r0 := row_of k0
  have f0 := frozen_of k0
  have z0 := blk_lt k0
  have r1 := row_of k1
  have f1 := frozen_of k1
  have z1 := blk_lt k1
  have r2 := row_of k2
  have f2 := frozen_of k2
  have z2 := blk_lt k2
  have r3 := row_of k3
  have f3 := frozen_of k3
  have z3 := blk_lt k3
  have r4 := row_of k4
  have f4 := frozen_of k4
  have z4 := blk_lt k4
  have hM2 := hM.out
  go_upto_region 7 with fail
  clear hM2 q0 q1 p0 p1
  have hN2 := hN.out
  have hm2 := hm.out
  have hL2 := hL.out
  have hX2 := hX.out
  have hH2 := hH.out
  clear r0 f0 z0 r1 f1 z1 r2 f2 z2 r3 f3 z3 r4 f4 z4
  have n0_2 : w.heap.size ≠ w.heap.size + 2 := by omega
  have n0_3 : w.heap.size ≠ w.heap.size + 3 := by omega
  have n4_2 : w2.heap.size ≠ w.heap.size + 2 := by omega
  have n4_3 : w2.heap.size ≠ w.heap.size + 3 := by omega
  replace hB := hB.drew
  replace k0 := blk_drew k0
  replace k2 := blk_drew k2
  replace k3 := blk_drew k3
  replace k4 := blk_drew k4
  clear k1
  go_region_held3 (fun W => W.cell? ⟨w.heap.size, 0, none⟩ = some (.int .i64 a0) ∧ W.cell? ⟨w.heap.size, 1, none⟩ = some (.int .i64 a1) ∧ W.cell? ⟨w2.heap.size, 0, none⟩ = some (.bool false) ∧ W.cell? ⟨w2.heap.size, 1, none⟩ = some (.bool dz))
      (first | (with_reducible exact ⟨(two_of (k0)).1, (two_of (k0)).2, (two_of (k4)).1, (two_of (k4)).2⟩) | (with_reducible exact ⟨(two_of (blk_drew k0)).1, (two_of (blk_drew k0)).2, (two_of (blk_drew k4)).1, (two_of (blk_drew k4)).2⟩) | (with_reducible exact ⟨(two_of (setno k0 n0_2)).1, (two_of (setno k0 n0_2)).2, (two_of (setno k4 n4_2)).1, (two_of (setno k4 n4_2)).2⟩) | (with_reducible exact ⟨(two_of (setno (setno k0 n0_2) n0_3)).1, (two_of (setno (setno k0 n0_2) n0_3)).2, (two_of (setno (setno k4 n4_2) n4_3)).1, (two_of (setno (setno k4 n4_2) n4_3)).2⟩))
      (first
        | (go_at_call 21; (with_reducible refine (co.out _).mono ?_); rintro e wn ⟨rfl, hbS⟩; replace k0 := blk_keep hbS k0; replace k2 := blk_keep hbS k2; replace k3 := blk_keep hbS k3; replace k4 := blk_keep hbS k4; replace hB := hB.trans (hbS.mono hB.size); have r2 := row_of k2; have f2 := frozen_of k2; have z2 := blk_lt k2; have r3 := row_of k3; have f3 := frozen_of k3; have z3 := blk_lt k3))
  all_goals
    go_wp2_with fail
    generalize hWF : (World.setCell (World.setCell (World.setCell (World.setCell _ _ _) _ _) _ _) _ _) = WF
    obtain ⟨kF, kG, bF⟩ := put22 (by omega) k2 k3 _ _ _ _ hWF.symm
    clear hWF
    have rF := row_of kF
    have rG := row_of kG
    exact bodyPost_ret (v := .tuple #[.agg #[.int .i64 l, .int .i64 h], .agg #[.bool false, .bool dz]]) (by simp [results, Tryz.results143, go_sem, rF, rG]) rfl ⟨rfl, hB.trans (bF _ (by show w.heap.size ≤ w.heap.size + 2; omega) (by show w.heap.size ≤ w.heap.size + 3; omega))⟩
set_option maxRecDepth 100000 in
theorem do_6 (a0 a1 b0 b1 l h : Int) (o z : Bool) (w : World) (ha : a0 ≤ a1) (hb : b0 ≤ b1) (cf : ∀ W, Calls Tryz.prog 138 #[.agg #[.int .i64 a0, .int .i64 a1], .agg #[.int .i64 b0, .int .i64 b1], .func (.func 141) #[] #[]] W fun e w' => e = .returned (.tuple #[.agg #[.int .i64 l, .int .i64 h], .agg #[.bool o, .bool z]]) ∧ Below W.heap.size W w') :
    Calls Tryz.prog 128 #[.int .i64 6, .agg #[.int .i64 a0, .int .i64 a1], .agg #[.int .i64 b0, .int .i64 b1]] w fun e w' => e = .returned (.tuple #[.agg #[.int .i64 l, .int .i64 h], .agg #[.bool o, .bool z]]) ∧ Below w.heap.size w w' := by
  have hd1 : decide (a1 < a0) = false := by simp; omega
  have hd2 : decide (b1 < b0) = false := by simp; omega
  replace cf := Lib.hid cf
  clear ha hb
  go_enter Tryz.func128, Tryz.ntmps128
  go_upto_region 1 with fail
  refine wp_world (fun W => W.heap[w.heap.size]? = some (.cells #[.int .i64 a0, .int .i64 a1] 53 (0, 0)) ∧ W.heap[w.heap.size + 1]? = some (.cells #[.int .i64 b0, .int .i64 b1] 53 (0, 0)) ∧ W.heap[w.heap.size + 2]? = some (.cells #[.int .i64 0, .int .i64 0] 53 (0, 0)) ∧ W.heap[w.heap.size + 3]? = some (.cells #[.bool false, .bool false] 128 (0, 0)) ∧ Below w.heap.size w W) ⟨blkUp (blkUp (blkUp (blkA _ _ (by first | rfl | simp only [World.size_alloc])) _) _) _, blkUp (blkUp (blkA _ _ (by first | rfl | simp only [World.size_alloc])) _) _, blkUp (blkA _ _ (by first | rfl | simp only [World.size_alloc])) _, blkA _ _ (by first | rfl | simp only [World.size_alloc]), ((((Below.refl _ _).alloc (by first | exact Nat.le_refl _ | (simp only [World.size_alloc]; omega)) _).alloc (by first | exact Nat.le_refl _ | (simp only [World.size_alloc]; omega)) _).alloc (by first | exact Nat.le_refl _ | (simp only [World.size_alloc]; omega)) _).alloc (by first | exact Nat.le_refl _ | (simp only [World.size_alloc]; omega)) _⟩ ?_
  rintro w1 ⟨k0, k1, k2, k3, hB⟩
  have r0 := row_of k0
  have f0 := frozen_of k0
  have z0 := blk_lt k0
  have r1 := row_of k1
  have f1 := frozen_of k1
  have z1 := blk_lt k1
  have r2 := row_of k2
  have f2 := frozen_of k2
  have z2 := blk_lt k2
  have r3 := row_of k3
  have f3 := frozen_of k3
  have z3 := blk_lt k3
  go_wp2_with fail
  refine (empty_any _ _ _).mono ?_
  rintro e w2 ⟨rfl, hb⟩
  replace k0 := blk_keep hb k0
  replace k1 := blk_keep hb k1
  replace k2 := blk_keep hb k2
  replace k3 := blk_keep hb k3
  replace hB := hB.trans (hb.mono hB.size)
  clear r0 f0 z0 r1 f1 z1 r2 f2 z2 r3 f3 z3
  clear hb
  have r0 := row_of k0
  have f0 := frozen_of k0
  have z0 := blk_lt k0
  have r1 := row_of k1
  have f1 := frozen_of k1
  have z1 := blk_lt k1
  have r2 := row_of k2
  have f2 := frozen_of k2
  have z2 := blk_lt k2
  have r3 := row_of k3
  have f3 := frozen_of k3
  have z3 := blk_lt k3
  go_wp2_with fail
  refine (empty_any _ _ _).mono ?_
  rintro e w3 ⟨rfl, hb⟩
  replace k0 := blk_keep hb k0
  replace k1 := blk_keep hb k1
  replace k2 := blk_keep hb k2
  replace k3 := blk_keep hb k3
  replace hB := hB.trans (hb.mono hB.size)
  clear r0 f0 z0 r1 f1 z1 r2 f2 z2 r3 f3 z3
  clear hb
  have r0 := row_of k0
  have f0 := frozen_of k0
  have z0 := blk_lt k0
  have r1 := row_of k1
  have f1 := frozen_of k1
  have z1 := blk_lt k1
  have r2 := row_of k2
  have f2 := frozen_of k2
  have z2 := blk_lt k2
  have r3 := row_of k3
  have f3 := frozen_of k3
  have z3 := blk_lt k3
  go_wp2_with fail
  refine (cf.out _).mono ?_
  rintro e w4 ⟨rfl, hb⟩
  replace k0 := blk_keep hb k0
  replace k1 := blk_keep hb k1
  replace k2 := blk_keep hb k2
  replace k3 := blk_keep hb k3
  replace hB := hB.trans (hb.mono hB.size)
  clear r0 f0 z0 r1 f1 z1 r2 f2 z2 r3 f3 z3
  clear hb
  have r0 := row_of k0
  have f0 := frozen_of k0
  have z0 := blk_lt k0
  have r1 := row_of k1
  have f1 := frozen_of k1
  have z1 := blk_lt k1
  have r2 := row_of k2
  have f2 := frozen_of k2
  have z2 := blk_lt k2
  have r3 := row_of k3
  have f3 := frozen_of k3
  have z3 := blk_lt k3
  go_wp2_with fail
  generalize hWF : (World.setCell (World.setCell (World.setCell (World.setCell _ _ _) _ _) _ _) _ _) = WF
  obtain ⟨kF, kG, bF⟩ := put22 (by omega) k2 k3 _ _ _ _ hWF.symm
  clear r0 f0 z0 r1 f1 z1 r2 f2 z2 r3 f3 z3
  clear hWF
  have rF := row_of kF
  have rG := row_of kG
  exact bodyPost_ret (v := .tuple #[.agg #[.int .i64 l, .int .i64 h], .agg #[.bool o, .bool z]]) (by simp [results, Tryz.results128, go_sem, rF, rG]) rfl ⟨rfl, hB.trans (bF _ (by show w.heap.size ≤ w.heap.size + 2; omega) (by show w.heap.size ≤ w.heap.size + 3; omega))⟩
set_option maxRecDepth 100000 in
theorem do_7 (a0 a1 b0 b1 l h : Int) (o z : Bool) (w : World) (ha : a0 ≤ a1) (hb : b0 ≤ b1) (cf : ∀ W, Calls Tryz.prog 142 #[.agg #[.int .i64 a0, .int .i64 a1], .agg #[.int .i64 b0, .int .i64 b1]] W fun e w' => e = .returned (.tuple #[.agg #[.int .i64 l, .int .i64 h], .agg #[.bool o, .bool z]]) ∧ Below W.heap.size W w') :
    Calls Tryz.prog 128 #[.int .i64 7, .agg #[.int .i64 a0, .int .i64 a1], .agg #[.int .i64 b0, .int .i64 b1]] w fun e w' => e = .returned (.tuple #[.agg #[.int .i64 l, .int .i64 h], .agg #[.bool o, .bool z]]) ∧ Below w.heap.size w w' := by
  have hd1 : decide (a1 < a0) = false := by simp; omega
  have hd2 : decide (b1 < b0) = false := by simp; omega
  replace cf := Lib.hid cf
  clear ha hb
  go_enter Tryz.func128, Tryz.ntmps128
  go_upto_region 1 with fail
  refine wp_world (fun W => W.heap[w.heap.size]? = some (.cells #[.int .i64 a0, .int .i64 a1] 53 (0, 0)) ∧ W.heap[w.heap.size + 1]? = some (.cells #[.int .i64 b0, .int .i64 b1] 53 (0, 0)) ∧ W.heap[w.heap.size + 2]? = some (.cells #[.int .i64 0, .int .i64 0] 53 (0, 0)) ∧ W.heap[w.heap.size + 3]? = some (.cells #[.bool false, .bool false] 128 (0, 0)) ∧ Below w.heap.size w W) ⟨blkUp (blkUp (blkUp (blkA _ _ (by first | rfl | simp only [World.size_alloc])) _) _) _, blkUp (blkUp (blkA _ _ (by first | rfl | simp only [World.size_alloc])) _) _, blkUp (blkA _ _ (by first | rfl | simp only [World.size_alloc])) _, blkA _ _ (by first | rfl | simp only [World.size_alloc]), ((((Below.refl _ _).alloc (by first | exact Nat.le_refl _ | (simp only [World.size_alloc]; omega)) _).alloc (by first | exact Nat.le_refl _ | (simp only [World.size_alloc]; omega)) _).alloc (by first | exact Nat.le_refl _ | (simp only [World.size_alloc]; omega)) _).alloc (by first | exact Nat.le_refl _ | (simp only [World.size_alloc]; omega)) _⟩ ?_
  rintro w1 ⟨k0, k1, k2, k3, hB⟩
  have r0 := row_of k0
  have f0 := frozen_of k0
  have z0 := blk_lt k0
  have r1 := row_of k1
  have f1 := frozen_of k1
  have z1 := blk_lt k1
  have r2 := row_of k2
  have f2 := frozen_of k2
  have z2 := blk_lt k2
  have r3 := row_of k3
  have f3 := frozen_of k3
  have z3 := blk_lt k3
  go_wp2_with fail
  refine (empty_any _ _ _).mono ?_
  rintro e w2 ⟨rfl, hb⟩
  replace k0 := blk_keep hb k0
  replace k1 := blk_keep hb k1
  replace k2 := blk_keep hb k2
  replace k3 := blk_keep hb k3
  replace hB := hB.trans (hb.mono hB.size)
  clear r0 f0 z0 r1 f1 z1 r2 f2 z2 r3 f3 z3
  clear hb
  have r0 := row_of k0
  have f0 := frozen_of k0
  have z0 := blk_lt k0
  have r1 := row_of k1
  have f1 := frozen_of k1
  have z1 := blk_lt k1
  have r2 := row_of k2
  have f2 := frozen_of k2
  have z2 := blk_lt k2
  have r3 := row_of k3
  have f3 := frozen_of k3
  have z3 := blk_lt k3
  go_wp2_with fail
  refine (empty_any _ _ _).mono ?_
  rintro e w3 ⟨rfl, hb⟩
  replace k0 := blk_keep hb k0
  replace k1 := blk_keep hb k1
  replace k2 := blk_keep hb k2
  replace k3 := blk_keep hb k3
  replace hB := hB.trans (hb.mono hB.size)
  clear r0 f0 z0 r1 f1 z1 r2 f2 z2 r3 f3 z3
  clear hb
  have r0 := row_of k0
  have f0 := frozen_of k0
  have z0 := blk_lt k0
  have r1 := row_of k1
  have f1 := frozen_of k1
  have z1 := blk_lt k1
  have r2 := row_of k2
  have f2 := frozen_of k2
  have z2 := blk_lt k2
  have r3 := row_of k3
  have f3 := frozen_of k3
  have z3 := blk_lt k3
  go_wp2_with fail
  refine (cf.out _).mono ?_
  rintro e w4 ⟨rfl, hb⟩
  replace k0 := blk_keep hb k0
  replace k1 := blk_keep hb k1
  replace k2 := blk_keep hb k2
  replace k3 := blk_keep hb k3
  replace hB := hB.trans (hb.mono hB.size)
  clear r0 f0 z0 r1 f1 z1 r2 f2 z2 r3 f3 z3
  clear hb
  have r0 := row_of k0
  have f0 := frozen_of k0
  have z0 := blk_lt k0
  have r1 := row_of k1
  have f1 := frozen_of k1
  have z1 := blk_lt k1
  have r2 := row_of k2
  have f2 := frozen_of k2
  have z2 := blk_lt k2
  have r3 := row_of k3
  have f3 := frozen_of k3
  have z3 := blk_lt k3
  go_wp2_with fail
  generalize hWF : (World.setCell (World.setCell (World.setCell (World.setCell _ _ _) _ _) _ _) _ _) = WF
  obtain ⟨kF, kG, bF⟩ := put22 (by omega) k2 k3 _ _ _ _ hWF.symm
  clear r0 f0 z0 r1 f1 z1 r2 f2 z2 r3 f3 z3
  clear hWF
  have rF := row_of kF
  have rG := row_of kG
  exact bodyPost_ret (v := .tuple #[.agg #[.int .i64 l, .int .i64 h], .agg #[.bool o, .bool z]]) (by simp [results, Tryz.results128, go_sem, rF, rG]) rfl ⟨rfl, hB.trans (bF _ (by show w.heap.size ≤ w.heap.size + 2; omega) (by show w.heap.size ≤ w.heap.size + 3; omega))⟩
set_option maxRecDepth 100000 in
theorem do_8 (a0 a1 b0 b1 l h : Int) (o z : Bool) (w : World) (ha : a0 ≤ a1) (hb : b0 ≤ b1) (cf : ∀ W, Calls Tryz.prog 143 #[.agg #[.int .i64 a0, .int .i64 a1], .agg #[.int .i64 b0, .int .i64 b1]] W fun e w' => e = .returned (.tuple #[.agg #[.int .i64 l, .int .i64 h], .agg #[.bool o, .bool z]]) ∧ Below W.heap.size W w') :
    Calls Tryz.prog 128 #[.int .i64 8, .agg #[.int .i64 a0, .int .i64 a1], .agg #[.int .i64 b0, .int .i64 b1]] w fun e w' => e = .returned (.tuple #[.agg #[.int .i64 l, .int .i64 h], .agg #[.bool o, .bool z]]) ∧ Below w.heap.size w w' := by
  have hd1 : decide (a1 < a0) = false := by simp; omega
  have hd2 : decide (b1 < b0) = false := by simp; omega
  replace cf := Lib.hid cf
  clear ha hb
  go_enter Tryz.func128, Tryz.ntmps128
  go_upto_region 1 with fail
  refine wp_world (fun W => W.heap[w.heap.size]? = some (.cells #[.int .i64 a0, .int .i64 a1] 53 (0, 0)) ∧ W.heap[w.heap.size + 1]? = some (.cells #[.int .i64 b0, .int .i64 b1] 53 (0, 0)) ∧ W.heap[w.heap.size + 2]? = some (.cells #[.int .i64 0, .int .i64 0] 53 (0, 0)) ∧ W.heap[w.heap.size + 3]? = some (.cells #[.bool false, .bool false] 128 (0, 0)) ∧ Below w.heap.size w W) ⟨blkUp (blkUp (blkUp (blkA _ _ (by first | rfl | simp only [World.size_alloc])) _) _) _, blkUp (blkUp (blkA _ _ (by first | rfl | simp only [World.size_alloc])) _) _, blkUp (blkA _ _ (by first | rfl | simp only [World.size_alloc])) _, blkA _ _ (by first | rfl | simp only [World.size_alloc]), ((((Below.refl _ _).alloc (by first | exact Nat.le_refl _ | (simp only [World.size_alloc]; omega)) _).alloc (by first | exact Nat.le_refl _ | (simp only [World.size_alloc]; omega)) _).alloc (by first | exact Nat.le_refl _ | (simp only [World.size_alloc]; omega)) _).alloc (by first | exact Nat.le_refl _ | (simp only [World.size_alloc]; omega)) _⟩ ?_
  rintro w1 ⟨k0, k1, k2, k3, hB⟩
  have r0 := row_of k0
  have f0 := frozen_of k0
  have z0 := blk_lt k0
  have r1 := row_of k1
  have f1 := frozen_of k1
  have z1 := blk_lt k1
  have r2 := row_of k2
  have f2 := frozen_of k2
  have z2 := blk_lt k2
  have r3 := row_of k3
  have f3 := frozen_of k3
  have z3 := blk_lt k3
  go_wp2_with fail
  refine (empty_any _ _ _).mono ?_
  rintro e w2 ⟨rfl, hb⟩
  replace k0 := blk_keep hb k0
  replace k1 := blk_keep hb k1
  replace k2 := blk_keep hb k2
  replace k3 := blk_keep hb k3
  replace hB := hB.trans (hb.mono hB.size)
  clear r0 f0 z0 r1 f1 z1 r2 f2 z2 r3 f3 z3
  clear hb
  have r0 := row_of k0
  have f0 := frozen_of k0
  have z0 := blk_lt k0
  have r1 := row_of k1
  have f1 := frozen_of k1
  have z1 := blk_lt k1
  have r2 := row_of k2
  have f2 := frozen_of k2
  have z2 := blk_lt k2
  have r3 := row_of k3
  have f3 := frozen_of k3
  have z3 := blk_lt k3
  go_wp2_with fail
  refine (empty_any _ _ _).mono ?_
  rintro e w3 ⟨rfl, hb⟩
  replace k0 := blk_keep hb k0
  replace k1 := blk_keep hb k1
  replace k2 := blk_keep hb k2
  replace k3 := blk_keep hb k3
  replace hB := hB.trans (hb.mono hB.size)
  clear r0 f0 z0 r1 f1 z1 r2 f2 z2 r3 f3 z3
  clear hb
  have r0 := row_of k0
  have f0 := frozen_of k0
  have z0 := blk_lt k0
  have r1 := row_of k1
  have f1 := frozen_of k1
  have z1 := blk_lt k1
  have r2 := row_of k2
  have f2 := frozen_of k2
  have z2 := blk_lt k2
  have r3 := row_of k3
  have f3 := frozen_of k3
  have z3 := blk_lt k3
  go_wp2_with fail
  refine (cf.out _).mono ?_
  rintro e w4 ⟨rfl, hb⟩
  replace k0 := blk_keep hb k0
  replace k1 := blk_keep hb k1
  replace k2 := blk_keep hb k2
  replace k3 := blk_keep hb k3
  replace hB := hB.trans (hb.mono hB.size)
  clear r0 f0 z0 r1 f1 z1 r2 f2 z2 r3 f3 z3
  clear hb
  have r0 := row_of k0
  have f0 := frozen_of k0
  have z0 := blk_lt k0
  have r1 := row_of k1
  have f1 := frozen_of k1
  have z1 := blk_lt k1
  have r2 := row_of k2
  have f2 := frozen_of k2
  have z2 := blk_lt k2
  have r3 := row_of k3
  have f3 := frozen_of k3
  have z3 := blk_lt k3
  go_wp2_with fail
  generalize hWF : (World.setCell (World.setCell (World.setCell (World.setCell _ _ _) _ _) _ _) _ _) = WF
  obtain ⟨kF, kG, bF⟩ := put22 (by omega) k2 k3 _ _ _ _ hWF.symm
  clear r0 f0 z0 r1 f1 z1 r2 f2 z2 r3 f3 z3
  clear hWF
  have rF := row_of kF
  have rG := row_of kG
  exact bodyPost_ret (v := .tuple #[.agg #[.int .i64 l, .int .i64 h], .agg #[.bool o, .bool z]]) (by simp [results, Tryz.results128, go_sem, rF, rG]) rfl ⟨rfl, hB.trans (bF _ (by show w.heap.size ≤ w.heap.size + 2; omega) (by show w.heap.size ≤ w.heap.size + 3; omega))⟩
end Go.Proofs.YtlgmofjjjhbgkaaGreat
