/-
  ItvNarrows' walk.
-/
import Derived.Test.YtibhoekccjcoaaaIp
namespace Go.Proofs.Ytibhoekccjcoaaa
open Go.RowKit
set_option maxRecDepth 100000 in
set_option maxHeartbeats 8000000 in
theorem narrows_probe (a0 a1 b0 b1 x0 x1 y0 y1 m0 m1 n0 n1 q0 q1 : Int) (w : World) (hx : nrm (wrap32 a0) (wrap32 a1) = (x0, x1)) (hy : nrm (wrap32 b0) (wrap32 b1) = (y0, y1)) (hm : meetP x0 x1 y0 y1 = (m0, m1)) (hn : narrowP x0 x1 m0 m1 = (n0, n1)) (hq1 : narrowP n0 n1 m0 m1 = (q0, q1)) (hq2 : narrowP n0 n1 q0 q1 = (q0, q1)) (hw1 : withinB n0 n1 x0 x1 = true) (hw2 : withinB m0 m1 n0 n1 = true) :
    Calls Try.prog 10 #[.agg #[.int .i64 a0, .int .i64 a1], .agg #[.int .i64 b0, .int .i64 b1]] w fun e w' => e = .returned (.bool true) ∧ Below w.heap.size w w' := by
  replace hm := Lib.hid hm
  replace hn := Lib.hid hn
  replace hq1 := Lib.hid hq1
  replace hq2 := Lib.hid hq2
  replace hw1 := Lib.hid hw1
  replace hw2 := Lib.hid hw2
  go_enter Try.func10, Try.ntmps10
  go_upto_region 1 with fail
  refine wp_world (fun W => W.heap[w.heap.size]? = some (.cells #[.int .i64 a0, .int .i64 a1] 23 (0, 0)) ∧ W.heap[w.heap.size + 1]? = some (.cells #[.int .i64 b0, .int .i64 b1] 23 (0, 0)) ∧ Below w.heap.size w W) ⟨blkUp (blkA _ _ (by first | rfl | simp only [World.size_alloc])) _, blkA _ _ (by first | rfl | simp only [World.size_alloc]), ((Below.refl _ _).alloc (by first | exact Nat.le_refl _ | (simp only [World.size_alloc]; omega)) _).alloc (by first | exact Nat.le_refl _ | (simp only [World.size_alloc]; omega)) _⟩ ?_
  rintro w1 ⟨k0, k1, hB⟩
  have r0 := row_of k0
  have f0 := frozen_of k0
  have z0 := blk_lt k0
  have r1 := row_of k1
  have f1 := frozen_of k1
  have z1 := blk_lt k1
  clear r0 f0 z0 r1 f1 z1
  go_upto_region 1 with fail
  go_upto_region 1 with fail
  have mkS := four_of k0 k1
  go_cut [5, 6] from 9 to 44 (fun e5 e6 wx => TwoCut w1 25 25 (.int .i64 x0) (.int .i64 x1) (.int .i64 y0) (.int .i64 y1) e5 e6 wx)
  case first =>
    have hBn := Below.refl w1.heap.size w1
    have zz := hB
    have zb0 := blk_lt k0
    have zb1 := blk_lt k1
    clear hB k0 k1
    clear hm hn hq1 hq2 hw1 hw2
    go_region_held3 (fun W => W.cell? ⟨w.heap.size, 0, none⟩ = some (.int .i64 a0) ∧ W.cell? ⟨w.heap.size, 1, none⟩ = some (.int .i64 a1) ∧ W.cell? ⟨w.heap.size + 1, 0, none⟩ = some (.int .i64 b0) ∧ W.cell? ⟨w.heap.size + 1, 1, none⟩ = some (.int .i64 b1))
        (first | (with_reducible exact mkS _ (hBn)) | (with_reducible exact mkS _ (below_al hBn _)) | (with_reducible exact mkS _ (below_al (below_al hBn _) _)) | (with_reducible exact mkS _ (below_put hBn zx)) | (with_reducible exact mkS _ (below_al (below_put hBn zx) _)) | (with_reducible exact mkS _ (below_put hBn zy)) | (with_reducible exact mkS _ (below_al (below_put hBn zy) _)) | (with_reducible exact mkS _ (below_put (below_put hBn zx) zy)) | (with_reducible exact mkS _ (below_put (below_put hBn zy) zx)) | (with_reducible exact mkS _ (Below.drew (hBn))) | (with_reducible exact mkS _ (Below.drew (below_al hBn _))) | (with_reducible exact mkS _ (Below.drew (below_al (below_al hBn _) _))))
        (first
          | (go_at_call 11; refine (bend_any _ _ _).mono ?_; rintro e wn ⟨rfl, hbS⟩; (try (with_reducible replace hbS := below_undrew hbS)); (with_reducible first
            | (have kx := blkT2a hbS; have ky := blkT2b hbS; have zx := hBn.size; have zy := Nat.le_succ_of_le hBn.size; replace hBn := below_tr (below_al (below_al hBn _) _) hbS)
            | (have ky := blkT1 hbS; have zy := hBn.size; have nxy := Nat.ne_of_lt (blk_lt kx); replace kx := blk_keep hbS (blkUp kx _); replace hBn := below_tr (below_al hBn _) hbS)
            | (have kx := blkT1 hbS; have zx := hBn.size; replace hBn := below_tr (below_al hBn _) hbS)
            | (replace kx := blk_keep hbS kx; replace ky := blk_keep hbS ky; replace hBn := below_tr hBn hbS)
            | (replace kx := blk_keep hbS kx; replace hBn := below_tr hBn hbS)
            | (replace hBn := below_tr hBn hbS)); (try (have rx := row_of kx; have fx := frozen_of kx; have lx := blk_lt kx)); (try (have ry := row_of ky; have fy := frozen_of ky; have ly := blk_lt ky)))
          | (go_at_call 16; refine (norm_any _ _ _).mono ?_; rintro e wn ⟨rfl, hbS⟩; (try (with_reducible replace hbS := below_undrew hbS)); (with_reducible first
            | (have kx := blkT2a hbS; have ky := blkT2b hbS; have zx := hBn.size; have zy := Nat.le_succ_of_le hBn.size; replace hBn := below_tr (below_al (below_al hBn _) _) hbS)
            | (have ky := blkT1 hbS; have zy := hBn.size; have nxy := Nat.ne_of_lt (blk_lt kx); replace kx := blk_keep hbS (blkUp kx _); replace hBn := below_tr (below_al hBn _) hbS)
            | (have kx := blkT1 hbS; have zx := hBn.size; replace hBn := below_tr (below_al hBn _) hbS)
            | (replace kx := blk_keep hbS kx; replace ky := blk_keep hbS ky; replace hBn := below_tr hBn hbS)
            | (replace kx := blk_keep hbS kx; replace hBn := below_tr hBn hbS)
            | (replace hBn := below_tr hBn hbS)); (try (have rx := row_of kx; have fx := frozen_of kx; have lx := blk_lt kx)); (try (have ry := row_of ky; have fy := frozen_of ky; have ly := blk_lt ky)))
          | (go_at_call 12; refine (to_any _ _ _).mono ?_; rintro e wn ⟨rfl, hbS⟩; (try (with_reducible replace hbS := below_undrew hbS)); (with_reducible first
            | (have kx := blkT2a hbS; have ky := blkT2b hbS; have zx := hBn.size; have zy := Nat.le_succ_of_le hBn.size; replace hBn := below_tr (below_al (below_al hBn _) _) hbS)
            | (have ky := blkT1 hbS; have zy := hBn.size; have nxy := Nat.ne_of_lt (blk_lt kx); replace kx := blk_keep hbS (blkUp kx _); replace hBn := below_tr (below_al hBn _) hbS)
            | (have kx := blkT1 hbS; have zx := hBn.size; replace hBn := below_tr (below_al hBn _) hbS)
            | (replace kx := blk_keep hbS kx; replace ky := blk_keep hbS ky; replace hBn := below_tr hBn hbS)
            | (replace kx := blk_keep hbS kx; replace hBn := below_tr hBn hbS)
            | (replace hBn := below_tr hBn hbS)); (try (have rx := row_of kx; have fx := frozen_of kx; have lx := blk_lt kx)); (try (have ry := row_of ky; have fy := frozen_of ky; have ly := blk_lt ky))))
    all_goals
      go_wp2_with fail
      go_meet
      refine ⟨_, _, rfl, rfl, ?_, ?_, ?_, ?_, ?_, ?_⟩
      · first | exact nxy | exact nxy.symm | omega
      · first | exact zx | exact zy | exact hBn.size | exact Nat.le_succ_of_le hBn.size | omega
      · first | exact zy | exact zx | exact hBn.size | exact Nat.le_succ_of_le hBn.size | omega
      · first | (with_reducible exact blkP _ _ _ _ _) | (with_reducible exact blkA _ _ rfl) | (with_reducible exact blkA _ _ (by simp only [World.size_alloc])) | (with_reducible exact blkUp (blkA _ _ rfl) _) | (with_reducible exact setab kx) | (with_reducible exact setno (setab kx) (by omega)) | (with_reducible exact setab (setno kx (by omega))) | (with_reducible exact blkUp (setab kx) _) | (with_reducible exact blkUp (setno (setab kx) (by omega)) _) | (with_reducible exact setab ky) | (with_reducible exact setno (setab ky) (by omega)) | (with_reducible exact setab (setno ky (by omega))) | (with_reducible exact blkUp (setab ky) _) | (with_reducible exact blkUp (setno (setab ky) (by omega)) _)
      · first | (with_reducible exact blkP _ _ _ _ _) | (with_reducible exact blkA _ _ rfl) | (with_reducible exact blkA _ _ (by simp only [World.size_alloc])) | (with_reducible exact blkUp (blkA _ _ rfl) _) | (with_reducible exact setab kx) | (with_reducible exact setno (setab kx) (by omega)) | (with_reducible exact setab (setno kx (by omega))) | (with_reducible exact blkUp (setab kx) _) | (with_reducible exact blkUp (setno (setab kx) (by omega)) _) | (with_reducible exact setab ky) | (with_reducible exact setno (setab ky) (by omega)) | (with_reducible exact setab (setno ky (by omega))) | (with_reducible exact blkUp (setab ky) _) | (with_reducible exact blkUp (setno (setab ky) (by omega)) _)
      · first | (with_reducible exact hBn) | (with_reducible exact below_al hBn _) | (with_reducible exact below_al (below_al hBn _) _) | (with_reducible exact below_put hBn zx) | (with_reducible exact below_al (below_put hBn zx) _) | (with_reducible exact below_put hBn zy) | (with_reducible exact below_al (below_put hBn zy) _) | (with_reducible exact below_put (below_put hBn zx) zy) | (with_reducible exact below_put (below_put hBn zy) zx) | (with_reducible exact Below.drew (hBn)) | (with_reducible exact Below.drew (below_al hBn _)) | (with_reducible exact Below.drew (below_al (below_al hBn _) _))
  case rest =>
    obtain ⟨g1a, g1b, rfl, rfl, hne1, hla1, hlb1, kA, kB, hb⟩ := hcut
    have hv1_0 := blk_lt k0
    have hv1_1 := blk_lt k1
    replace k0 := blk_keep hb k0
    replace k1 := blk_keep hb k1
    have k2 := kA
    have k3 := kB
    replace hB := hB.trans (hb.mono hB.size)
    clear hb kA kB mkS
    have hm2 := hm.out
    have hn2 := hn.out
    go_upto_region 2 with fail
    refine wp_world (fun W => W.heap[g1a]? = some (.cells #[.int .i64 x0, .int .i64 x1] 25 (0, 0)) ∧ W.heap[g1b]? = some (.cells #[.int .i64 y0, .int .i64 y1] 25 (0, 0)) ∧ Below w.heap.size w W) ⟨k2, k3, hB⟩ ?_
    clear hB k2 k3
    rintro w3 ⟨k2, k3, hB⟩
    have r2 := row_of k2
    have f2 := frozen_of k2
    have z2 := blk_lt k2
    have r3 := row_of k3
    have f3 := frozen_of k3
    have z3 := blk_lt k3
    go_wp2_with fail
    refine (meet_any _ _ _ _ _).mono ?_
    rintro e w4 ⟨rfl, hb⟩
    replace k2 := blk_keep hb k2
    replace k3 := blk_keep hb k3
    replace hB := hB.trans (hb.mono hB.size)
    clear r2 f2 z2 r3 f3 z3
    clear hb
    have r2 := row_of k2
    have f2 := frozen_of k2
    have z2 := blk_lt k2
    have r3 := row_of k3
    have f3 := frozen_of k3
    have z3 := blk_lt k3
    go_upto_region 3 with fail
    have hz2 : g1b < w4.heap.size := blk_lt k3
    refine wp_world (fun W => W.heap[g1a]? = some (.cells #[.int .i64 x0, .int .i64 x1] 25 (0, 0)) ∧ W.heap[g1b]? = some (.cells #[.int .i64 y0, .int .i64 y1] 25 (0, 0)) ∧ W.heap[w4.heap.size]? = some (.cells #[.int .i64 m0, .int .i64 m1] 25 (0, 0)) ∧ Below w.heap.size w W) ⟨blkUp (k2) _, blkUp (k3) _, blkA _ _ (by first | rfl | simp only [World.size_alloc]), (hB).alloc (by first | exact hB.size | (simp only [World.size_alloc]; omega)) _⟩ ?_
    clear r2 f2 z2 r3 f3 z3
    clear hB k2 k3
    rintro w5 ⟨k2, k3, k4, hB⟩
    have r2 := row_of k2
    have f2 := frozen_of k2
    have z2 := blk_lt k2
    have r3 := row_of k3
    have f3 := frozen_of k3
    have z3 := blk_lt k3
    have r4 := row_of k4
    have f4 := frozen_of k4
    have z4 := blk_lt k4
    go_wp2_with fail
    refine (narrow_any _ _ _ _ _).mono ?_
    rintro e w6 ⟨rfl, hb⟩
    replace k2 := blk_keep hb k2
    replace k3 := blk_keep hb k3
    replace k4 := blk_keep hb k4
    replace hB := hB.trans (hb.mono hB.size)
    clear r2 f2 z2 r3 f3 z3 r4 f4 z4
    clear hb
    have r2 := row_of k2
    have f2 := frozen_of k2
    have z2 := blk_lt k2
    have r3 := row_of k3
    have f3 := frozen_of k3
    have z3 := blk_lt k3
    have r4 := row_of k4
    have f4 := frozen_of k4
    have z4 := blk_lt k4
    go_upto_region 4 with fail
    have hz3 : w4.heap.size < w6.heap.size := blk_lt k4
    refine wp_world (fun W => W.heap[g1a]? = some (.cells #[.int .i64 x0, .int .i64 x1] 25 (0, 0)) ∧ W.heap[g1b]? = some (.cells #[.int .i64 y0, .int .i64 y1] 25 (0, 0)) ∧ W.heap[w4.heap.size]? = some (.cells #[.int .i64 m0, .int .i64 m1] 25 (0, 0)) ∧ W.heap[w6.heap.size]? = some (.cells #[.int .i64 n0, .int .i64 n1] 25 (0, 0)) ∧ Below w.heap.size w W) ⟨blkUp (k2) _, blkUp (k3) _, blkUp (k4) _, blkA _ _ (by first | rfl | simp only [World.size_alloc]), (hB).alloc (by first | exact hB.size | (simp only [World.size_alloc]; omega)) _⟩ ?_
    clear r2 f2 z2 r3 f3 z3 r4 f4 z4
    clear hB k2 k3 k4
    rintro w7 ⟨k2, k3, k4, k5, hB⟩
    have r2 := row_of k2
    have f2 := frozen_of k2
    have z2 := blk_lt k2
    have r3 := row_of k3
    have f3 := frozen_of k3
    have z3 := blk_lt k3
    have r4 := row_of k4
    have f4 := frozen_of k4
    have z4 := blk_lt k4
    have r5 := row_of k5
    have f5 := frozen_of k5
    have z5 := blk_lt k5
    have hq12 := hq1.out
    have hq22 := hq2.out
    have hw12 := hw1.out
    have hw22 := hw2.out
    clear hm2 hn2
    clear k3 r3 f3 z3
    clear r2 f2 z2 r4 f4 z4 r5 f5 z5
    have mkS : ∀ W, Below w7.heap.size w7 W → W.cell? ⟨g1a, 0, none⟩ = some (.int .i64 x0) ∧ W.cell? ⟨g1a, 1, none⟩ = some (.int .i64 x1) ∧ W.cell? ⟨w4.heap.size, 0, none⟩ = some (.int .i64 m0) ∧ W.cell? ⟨w4.heap.size, 1, none⟩ = some (.int .i64 m1) ∧ W.cell? ⟨w6.heap.size, 0, none⟩ = some (.int .i64 n0) ∧ W.cell? ⟨w6.heap.size, 1, none⟩ = some (.int .i64 n1) := fun W h => ⟨row_of (blk_keep h k2) 0, row_of (blk_keep h k2) 1, row_of (blk_keep h k4) 0, row_of (blk_keep h k4) 1, row_of (blk_keep h k5) 0, row_of (blk_keep h k5) 1⟩
    have hBn := Below.refl w7.heap.size w7
    have s2 := k2
    have s4 := k4
    have s5 := k5
    clear k2 k4 k5
    go_region_held3 (fun W => W.cell? ⟨g1a, 0, none⟩ = some (.int .i64 x0) ∧ W.cell? ⟨g1a, 1, none⟩ = some (.int .i64 x1) ∧ W.cell? ⟨w4.heap.size, 0, none⟩ = some (.int .i64 m0) ∧ W.cell? ⟨w4.heap.size, 1, none⟩ = some (.int .i64 m1) ∧ W.cell? ⟨w6.heap.size, 0, none⟩ = some (.int .i64 n0) ∧ W.cell? ⟨w6.heap.size, 1, none⟩ = some (.int .i64 n1))
        (first | (with_reducible exact mkS _ hBn) | (with_reducible exact mkS _ (Below.drew hBn)))
        (first
          | (go_at_call 17; refine (does_any _).mono ?_; rintro e wn ⟨rfl, hbS⟩; (try (with_reducible replace hbS := below_undrew hbS)); replace hBn := below_tr hBn hbS)
          | (go_at_call 21; refine (within_any _ _ _ _ _).mono ?_; rintro e wn ⟨rfl, hbS⟩; (try (with_reducible replace hbS := below_undrew hbS)); replace hBn := below_tr hBn hbS)
          | (go_at_call 26; refine (narrow_any _ _ _ _ _).mono ?_; rintro e wn ⟨rfl, hbS⟩; (try (with_reducible replace hbS := below_undrew hbS)); replace hBn := below_tr hBn hbS))
    all_goals
      go_wp2_with fail
      go_ret
      exact ⟨by simp, hB.trans (hBn.mono hB.size)⟩
end Go.Proofs.Ytibhoekccjcoaaa
