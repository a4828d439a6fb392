/-
  ItvSets' walk.
-/
import Derived.Test.YtibhoekccjcoaaaIj
import Derived.Test.YtibhoekccjcoaaaIp
import Derived.Test.YtibhoekccjcoaaaIx
namespace Go.Proofs.Ytibhoekccjcoaaa
open Go.RowKit
set_option maxRecDepth 100000 in
set_option maxHeartbeats 16000000 in
theorem sets_probe (a0 a1 b0 b1 n A0 A1 B0 B1 m j0 j1 v0 v1 c0 c1 X0 Y1 e0 e1 r0 r1 t0 t1 : Int) (inB emp : Bool) (w : World) (ea0 : wrap32 a0 = A0) (ea1 : wrap32 a1 = A1) (eb0 : wrap32 b0 = B0) (eb1 : wrap32 b1 = B1) (hmn : wrap64 (wrap32 n) = m)
    (hj : joinP A0 A1 B0 B1 = (j0, j1)) (hv : widenP A0 A1 B0 B1 = (v0, v1)) (hc : ofP n n = (c0, c1)) (hin : withinB A0 A1 B0 B1 = inB) (hemp : (decide (A1 < A0) || decide (B1 < B0)) = emp)
    (hX : (if A0 < B0 then B0 else A0) = X0) (hY : (if B1 < A1 then B1 else A1) = Y1) (hg : nrm X0 Y1 = (e0, e1)) (he : (A1 < A0 ∨ B1 < B0) → e0 = 1 ∧ e1 = 0)
    (hrj : rjoinP A0 A1 B0 B1 = (j0, j1)) (hrv : rwidenP A0 A1 B0 B1 = (v0, v1)) (hnr : narrowP A0 A1 B0 B1 = (r0, r1)) (hrn : rnarrowP A0 A1 B0 B1 = (r0, r1)) (hmt : meetP A0 A1 B0 B1 = (e0, e1))
    (hw1 : withinB A0 A1 j0 j1 = true) (hw2 : withinB B0 B1 j0 j1 = true) (hw3 : withinB j0 j1 v0 v1 = true) (hof : ofP A0 B1 = (t0, t1)) (hno : nrm A0 B1 = (t0, t1)) (hcm : c1 < c0 ↔ n ≠ m) :
    Calls Try.prog 3 #[.agg #[.int .i64 a0, .int .i64 a1], .agg #[.int .i64 b0, .int .i64 b1], .int .i64 n] w fun e w' => e = .returned (.bool true) ∧ Below w.heap.size w w' := by
  replace ea0 := Lib.hid ea0
  replace ea1 := Lib.hid ea1
  replace eb0 := Lib.hid eb0
  replace eb1 := Lib.hid eb1
  replace hmn := Lib.hid hmn
  replace hj := Lib.hid hj
  replace hv := Lib.hid hv
  replace hc := Lib.hid hc
  replace hin := Lib.hid hin
  replace hemp := Lib.hid hemp
  replace hX := Lib.hid hX
  replace hY := Lib.hid hY
  replace hg := Lib.hid hg
  replace he := Lib.hid he
  replace hrj := Lib.hid hrj
  replace hrv := Lib.hid hrv
  replace hnr := Lib.hid hnr
  replace hrn := Lib.hid hrn
  replace hmt := Lib.hid hmt
  replace hw1 := Lib.hid hw1
  replace hw2 := Lib.hid hw2
  replace hw3 := Lib.hid hw3
  replace hof := Lib.hid hof
  replace hno := Lib.hid hno
  replace hcm := Lib.hid hcm
  go_enter Try.func3, Try.ntmps3
  go_upto_region 1 with fail
  refine wp_world (fun W => W.heap[w.heap.size]? = some (.cells #[.int .i64 a0, .int .i64 a1] 23 (0, 0)) ∧ W.heap[w.heap.size + 1]? = some (.cells #[.int .i64 b0, .int .i64 b1] 23 (0, 0)) ∧ Below w.heap.size w W) ⟨blkUp (blkA _ _ (by first | rfl | simp only [World.size_alloc])) _, blkA _ _ (by first | rfl | simp only [World.size_alloc]), ((Below.refl _ _).alloc (by first | exact Nat.le_refl _ | (simp only [World.size_alloc]; omega)) _).alloc (by first | exact Nat.le_refl _ | (simp only [World.size_alloc]; omega)) _⟩ ?_
  rintro w1 ⟨k0, k1, hB⟩
  have r0 := row_of k0
  have f0 := frozen_of k0
  have z0 := blk_lt k0
  have r1 := row_of k1
  have f1 := frozen_of k1
  have z1 := blk_lt k1
  go_cut [] from 15 to 182 (fun wx => OldCut w w.heap.size (w.heap.size + 1) 23 A0 A1 B0 B1 wx)
  case first =>
    as_aux_lemma =>
      have ka0 := ea0.out
      have ka1 := ea1.out
      have kb0 := eb0.out
      have kb1 := eb1.out
      go_region_with (first | (go_at_call 11; refine (bend_any _ _ _).mono ?_; rintro e wn ⟨rfl, hbS⟩; (try (with_reducible replace hbS := below_undrew hbS)); replace k0 := blk_keep hbS k0; replace k1 := blk_keep hbS k1; replace hB := hB.trans (hbS.mono hB.size); have r0 := row_of k0; have f0 := frozen_of k0; have z0 := blk_lt k0; have r1 := row_of k1; have f1 := frozen_of k1; have z1 := blk_lt k1))
      all_goals
        go_wp2_with fail
        go_meet
        exact ⟨setno (setab k0) (by omega), setab (setno k1 (by omega)), (((hB.setCell (p := ⟨w.heap.size, 0, none⟩) (Nat.le_refl _) _).setCell (p := ⟨w.heap.size, 1, none⟩) (Nat.le_refl _) _).setCell (p := ⟨w.heap.size + 1, 0, none⟩) (Nat.le_succ _) _).setCell (p := ⟨w.heap.size + 1, 1, none⟩) (Nat.le_succ _) _⟩
  case rest =>
    as_aux_lemma =>
      clear r0 f0 z0 r1 f1 z1 k0 k1 hB
      obtain ⟨k0, k1, hB⟩ := hcut
      go_upto_region 2 with fail
      refine wp_world (fun W => W.heap[w.heap.size]? = some (.cells #[.int .i64 A0, .int .i64 A1] 23 (0, 0)) ∧ W.heap[w.heap.size + 1]? = some (.cells #[.int .i64 B0, .int .i64 B1] 23 (0, 0)) ∧ Below w.heap.size w W) ⟨k0, k1, hB⟩ ?_
      clear hB k0 k1
      rintro w2 ⟨k0, k1, hB⟩
      go_upto_region 2 with fail
      have mkS := four_of k0 k1
      go_cut [7, 8] from 19 to 182 (fun e5 e6 wx => TwoCut w2 25 25 (.int .i64 A0) (.int .i64 A1) (.int .i64 B0) (.int .i64 B1) e5 e6 wx)
      case first =>
        as_aux_lemma =>
          have hBn := Below.refl w2.heap.size w2
          have zz := hB
          have zb0 := blk_lt k0
          have zb1 := blk_lt k1
          clear hB k0 k1
          go_region_held3 (fun W => W.cell? ⟨w.heap.size, 0, none⟩ = some (.int .i64 A0) ∧ W.cell? ⟨w.heap.size, 1, none⟩ = some (.int .i64 A1) ∧ W.cell? ⟨w.heap.size + 1, 0, none⟩ = some (.int .i64 B0) ∧ W.cell? ⟨w.heap.size + 1, 1, none⟩ = some (.int .i64 B1))
              (first | (with_reducible exact mkS _ (hBn)) | (with_reducible exact mkS _ (below_al hBn _)) | (with_reducible exact mkS _ (below_al (below_al hBn _) _)) | (with_reducible exact mkS _ (below_put hBn zx)) | (with_reducible exact mkS _ (below_al (below_put hBn zx) _)) | (with_reducible exact mkS _ (below_put hBn zy)) | (with_reducible exact mkS _ (below_al (below_put hBn zy) _)) | (with_reducible exact mkS _ (below_put (below_put hBn zx) zy)) | (with_reducible exact mkS _ (below_put (below_put hBn zy) zx)) | (with_reducible exact mkS _ (Below.drew (hBn))) | (with_reducible exact mkS _ (Below.drew (below_al hBn _))) | (with_reducible exact mkS _ (Below.drew (below_al (below_al hBn _) _))))
              (first
                | (go_at_call 12; refine (to_any _ _ _).mono ?_; rintro e wn ⟨rfl, hbS⟩; (try (with_reducible replace hbS := below_undrew hbS)); (with_reducible first
                  | (have kx := blkT2a hbS; have ky := blkT2b hbS; have zx := hBn.size; have zy := Nat.le_succ_of_le hBn.size; replace hBn := below_tr (below_al (below_al hBn _) _) hbS)
                  | (have ky := blkT1 hbS; have zy := hBn.size; have nxy := Nat.ne_of_lt (blk_lt kx); replace kx := blk_keep hbS (blkUp kx _); replace hBn := below_tr (below_al hBn _) hbS)
                  | (have kx := blkT1 hbS; have zx := hBn.size; replace hBn := below_tr (below_al hBn _) hbS)
                  | (replace kx := blk_keep hbS kx; replace ky := blk_keep hbS ky; replace hBn := below_tr hBn hbS)
                  | (replace kx := blk_keep hbS kx; replace hBn := below_tr hBn hbS)
                  | (replace hBn := below_tr hBn hbS)); (try (have rx := row_of kx; have fx := frozen_of kx; have lx := blk_lt kx)); (try (have ry := row_of ky; have fy := frozen_of ky; have ly := blk_lt ky))))
          all_goals
            go_wp2_with fail
            go_meet
            refine ⟨_, _, rfl, rfl, ?_, ?_, ?_, ?_, ?_, ?_⟩
            · first | exact nxy | exact nxy.symm | omega
            · first | exact zx | exact zy | exact hBn.size | exact Nat.le_succ_of_le hBn.size | omega
            · first | exact zy | exact zx | exact hBn.size | exact Nat.le_succ_of_le hBn.size | omega
            · first | (with_reducible exact blkP _ _ _ _ _) | (with_reducible exact blkA _ _ rfl) | (with_reducible exact blkA _ _ (by simp only [World.size_alloc])) | (with_reducible exact blkUp (blkA _ _ rfl) _) | (with_reducible exact setab kx) | (with_reducible exact setno (setab kx) (by omega)) | (with_reducible exact setab (setno kx (by omega))) | (with_reducible exact blkUp (setab kx) _) | (with_reducible exact blkUp (setno (setab kx) (by omega)) _) | (with_reducible exact setab ky) | (with_reducible exact setno (setab ky) (by omega)) | (with_reducible exact setab (setno ky (by omega))) | (with_reducible exact blkUp (setab ky) _) | (with_reducible exact blkUp (setno (setab ky) (by omega)) _)
            · first | (with_reducible exact blkP _ _ _ _ _) | (with_reducible exact blkA _ _ rfl) | (with_reducible exact blkA _ _ (by simp only [World.size_alloc])) | (with_reducible exact blkUp (blkA _ _ rfl) _) | (with_reducible exact setab kx) | (with_reducible exact setno (setab kx) (by omega)) | (with_reducible exact setab (setno kx (by omega))) | (with_reducible exact blkUp (setab kx) _) | (with_reducible exact blkUp (setno (setab kx) (by omega)) _) | (with_reducible exact setab ky) | (with_reducible exact setno (setab ky) (by omega)) | (with_reducible exact setab (setno ky (by omega))) | (with_reducible exact blkUp (setab ky) _) | (with_reducible exact blkUp (setno (setab ky) (by omega)) _)
            · first | (with_reducible exact hBn) | (with_reducible exact below_al hBn _) | (with_reducible exact below_al (below_al hBn _) _) | (with_reducible exact below_put hBn zx) | (with_reducible exact below_al (below_put hBn zx) _) | (with_reducible exact below_put hBn zy) | (with_reducible exact below_al (below_put hBn zy) _) | (with_reducible exact below_put (below_put hBn zx) zy) | (with_reducible exact below_put (below_put hBn zy) zx) | (with_reducible exact Below.drew (hBn)) | (with_reducible exact Below.drew (below_al hBn _)) | (with_reducible exact Below.drew (below_al (below_al hBn _) _))
      case rest =>
        as_aux_lemma =>
          obtain ⟨g2a, g2b, rfl, rfl, hne2, hla2, hlb2, kA, kB, hb⟩ := hcut
          have hv2_0 := blk_lt k0
          have hv2_1 := blk_lt k1
          replace k0 := blk_keep hb k0
          replace k1 := blk_keep hb k1
          have k2 := kA
          have k3 := kB
          replace hB := hB.trans (hb.mono hB.size)
          clear hb kA kB mkS
          have hm2 := hmn.out
          go_upto_region 4 with fail
          refine wp_world (fun W => W.heap[w.heap.size]? = some (.cells #[.int .i64 A0, .int .i64 A1] 23 (0, 0)) ∧ W.heap[w.heap.size + 1]? = some (.cells #[.int .i64 B0, .int .i64 B1] 23 (0, 0)) ∧ W.heap[g2a]? = some (.cells #[.int .i64 A0, .int .i64 A1] 25 (0, 0)) ∧ W.heap[g2b]? = some (.cells #[.int .i64 B0, .int .i64 B1] 25 (0, 0)) ∧ Below w.heap.size w W) ⟨k0, k1, k2, k3, hB⟩ ?_
          clear hB k0 k1 k2 k3
          rintro w4 ⟨k0, k1, k2, k3, hB⟩
          clear hm2
          go_upto_region 4 with fail
          have mkS := four_of k2 k3
          go_cut [10, 11] from 26 to 182 (fun e5 e6 wx => TwoCut w4 25 25 (.int .i64 j0) (.int .i64 j1) (.int .i64 v0) (.int .i64 v1) e5 e6 wx)
          case first =>
            as_aux_lemma =>
              have hBn := Below.refl w4.heap.size w4
              have zz := hB
              have zb0 := blk_lt k0
              have zb1 := blk_lt k1
              have zb2 := blk_lt k2
              have zb3 := blk_lt k3
              clear hB k0 k1 k2 k3
              have hj2 := hj.out
              have hv2 := hv.out
              go_region_held3 (fun W => W.cell? ⟨g2a, 0, none⟩ = some (.int .i64 A0) ∧ W.cell? ⟨g2a, 1, none⟩ = some (.int .i64 A1) ∧ W.cell? ⟨g2b, 0, none⟩ = some (.int .i64 B0) ∧ W.cell? ⟨g2b, 1, none⟩ = some (.int .i64 B1))
                  (first | (with_reducible exact mkS _ (hBn)) | (with_reducible exact mkS _ (below_al hBn _)) | (with_reducible exact mkS _ (below_al (below_al hBn _) _)) | (with_reducible exact mkS _ (below_put hBn zx)) | (with_reducible exact mkS _ (below_al (below_put hBn zx) _)) | (with_reducible exact mkS _ (below_put hBn zy)) | (with_reducible exact mkS _ (below_al (below_put hBn zy) _)) | (with_reducible exact mkS _ (below_put (below_put hBn zx) zy)) | (with_reducible exact mkS _ (below_put (below_put hBn zy) zx)) | (with_reducible exact mkS _ (Below.drew (hBn))) | (with_reducible exact mkS _ (Below.drew (below_al hBn _))) | (with_reducible exact mkS _ (Below.drew (below_al (below_al hBn _) _))))
                  (first
                    | (go_at_call 13; refine (join_any _ _ _ _ _).mono ?_; rintro e wn ⟨rfl, hbS⟩; (try (with_reducible replace hbS := below_undrew hbS)); (with_reducible first
                      | (have kx := blkT2a hbS; have ky := blkT2b hbS; have zx := hBn.size; have zy := Nat.le_succ_of_le hBn.size; replace hBn := below_tr (below_al (below_al hBn _) _) hbS)
                      | (have ky := blkT1 hbS; have zy := hBn.size; have nxy := Nat.ne_of_lt (blk_lt kx); replace kx := blk_keep hbS (blkUp kx _); replace hBn := below_tr (below_al hBn _) hbS)
                      | (have kx := blkT1 hbS; have zx := hBn.size; replace hBn := below_tr (below_al hBn _) hbS)
                      | (replace kx := blk_keep hbS kx; replace ky := blk_keep hbS ky; replace hBn := below_tr hBn hbS)
                      | (replace kx := blk_keep hbS kx; replace hBn := below_tr hBn hbS)
                      | (replace hBn := below_tr hBn hbS)); (try (have rx := row_of kx; have fx := frozen_of kx; have lx := blk_lt kx)); (try (have ry := row_of ky; have fy := frozen_of ky; have ly := blk_lt ky)))
                    | (go_at_call 14; refine (widen_any _ _ _ _ _).mono ?_; rintro e wn ⟨rfl, hbS⟩; (try (with_reducible replace hbS := below_undrew hbS)); (with_reducible first
                      | (have kx := blkT2a hbS; have ky := blkT2b hbS; have zx := hBn.size; have zy := Nat.le_succ_of_le hBn.size; replace hBn := below_tr (below_al (below_al hBn _) _) hbS)
                      | (have ky := blkT1 hbS; have zy := hBn.size; have nxy := Nat.ne_of_lt (blk_lt kx); replace kx := blk_keep hbS (blkUp kx _); replace hBn := below_tr (below_al hBn _) hbS)
                      | (have kx := blkT1 hbS; have zx := hBn.size; replace hBn := below_tr (below_al hBn _) hbS)
                      | (replace kx := blk_keep hbS kx; replace ky := blk_keep hbS ky; replace hBn := below_tr hBn hbS)
                      | (replace kx := blk_keep hbS kx; replace hBn := below_tr hBn hbS)
                      | (replace hBn := below_tr hBn hbS)); (try (have rx := row_of kx; have fx := frozen_of kx; have lx := blk_lt kx)); (try (have ry := row_of ky; have fy := frozen_of ky; have ly := blk_lt ky))))
              all_goals
                go_wp2_with fail
                go_meet
                refine ⟨_, _, rfl, rfl, ?_, ?_, ?_, ?_, ?_, ?_⟩
                · first | exact nxy | exact nxy.symm | omega
                · first | exact zx | exact zy | exact hBn.size | exact Nat.le_succ_of_le hBn.size | omega
                · first | exact zy | exact zx | exact hBn.size | exact Nat.le_succ_of_le hBn.size | omega
                · first | (with_reducible exact blkP _ _ _ _ _) | (with_reducible exact blkA _ _ rfl) | (with_reducible exact blkA _ _ (by simp only [World.size_alloc])) | (with_reducible exact blkUp (blkA _ _ rfl) _) | (with_reducible exact setab kx) | (with_reducible exact setno (setab kx) (by omega)) | (with_reducible exact setab (setno kx (by omega))) | (with_reducible exact blkUp (setab kx) _) | (with_reducible exact blkUp (setno (setab kx) (by omega)) _) | (with_reducible exact setab ky) | (with_reducible exact setno (setab ky) (by omega)) | (with_reducible exact setab (setno ky (by omega))) | (with_reducible exact blkUp (setab ky) _) | (with_reducible exact blkUp (setno (setab ky) (by omega)) _)
                · first | (with_reducible exact blkP _ _ _ _ _) | (with_reducible exact blkA _ _ rfl) | (with_reducible exact blkA _ _ (by simp only [World.size_alloc])) | (with_reducible exact blkUp (blkA _ _ rfl) _) | (with_reducible exact setab kx) | (with_reducible exact setno (setab kx) (by omega)) | (with_reducible exact setab (setno kx (by omega))) | (with_reducible exact blkUp (setab kx) _) | (with_reducible exact blkUp (setno (setab kx) (by omega)) _) | (with_reducible exact setab ky) | (with_reducible exact setno (setab ky) (by omega)) | (with_reducible exact setab (setno ky (by omega))) | (with_reducible exact blkUp (setab ky) _) | (with_reducible exact blkUp (setno (setab ky) (by omega)) _)
                · first | (with_reducible exact hBn) | (with_reducible exact below_al hBn _) | (with_reducible exact below_al (below_al hBn _) _) | (with_reducible exact below_put hBn zx) | (with_reducible exact below_al (below_put hBn zx) _) | (with_reducible exact below_put hBn zy) | (with_reducible exact below_al (below_put hBn zy) _) | (with_reducible exact below_put (below_put hBn zx) zy) | (with_reducible exact below_put (below_put hBn zy) zx) | (with_reducible exact Below.drew (hBn)) | (with_reducible exact Below.drew (below_al hBn _)) | (with_reducible exact Below.drew (below_al (below_al hBn _) _))
          case rest =>
            as_aux_lemma =>
              obtain ⟨g4a, g4b, rfl, rfl, hne4, hla4, hlb4, kA, kB, hb⟩ := hcut
              have hv4_0 := blk_lt k0
              have hv4_1 := blk_lt k1
              have hv4_2 := blk_lt k2
              have hv4_3 := blk_lt k3
              replace k0 := blk_keep hb k0
              replace k1 := blk_keep hb k1
              replace k2 := blk_keep hb k2
              replace k3 := blk_keep hb k3
              have k4 := kA
              have k5 := kB
              replace hB := hB.trans (hb.mono hB.size)
              clear hb kA kB mkS
              go_upto_region 5 with fail
              refine wp_world (fun W => W.heap[w.heap.size]? = some (.cells #[.int .i64 A0, .int .i64 A1] 23 (0, 0)) ∧ W.heap[w.heap.size + 1]? = some (.cells #[.int .i64 B0, .int .i64 B1] 23 (0, 0)) ∧ W.heap[g2a]? = some (.cells #[.int .i64 A0, .int .i64 A1] 25 (0, 0)) ∧ W.heap[g2b]? = some (.cells #[.int .i64 B0, .int .i64 B1] 25 (0, 0)) ∧ W.heap[g4a]? = some (.cells #[.int .i64 j0, .int .i64 j1] 25 (0, 0)) ∧ W.heap[g4b]? = some (.cells #[.int .i64 v0, .int .i64 v1] 25 (0, 0)) ∧ Below w.heap.size w W) ⟨k0, k1, k2, k3, k4, k5, hB⟩ ?_
              clear hB k0 k1 k2 k3 k4 k5
              rintro w6 ⟨k0, k1, k2, k3, k4, k5, hB⟩
              have r0 := row_of k0
              have f0 := frozen_of k0
              have z0 := blk_lt k0
              have r1 := row_of k1
              have f1 := frozen_of k1
              have z1 := blk_lt k1
              have r2 := row_of k2
              have f2 := frozen_of k2
              have z2 := blk_lt k2
              have r3 := row_of k3
              have f3 := frozen_of k3
              have z3 := blk_lt k3
              have r4 := row_of k4
              have f4 := frozen_of k4
              have z4 := blk_lt k4
              have r5 := row_of k5
              have f5 := frozen_of k5
              have z5 := blk_lt k5
              have hc2 := hc.out
              go_wp2_with fail
              refine (of_any _ _ _).mono ?_
              rintro e w7 ⟨rfl, hb⟩
              replace k0 := blk_keep hb k0
              replace k1 := blk_keep hb k1
              replace k2 := blk_keep hb k2
              replace k3 := blk_keep hb k3
              replace k4 := blk_keep hb k4
              replace k5 := blk_keep hb k5
              replace hB := hB.trans (hb.mono hB.size)
              clear r0 f0 z0 r1 f1 z1 r2 f2 z2 r3 f3 z3 r4 f4 z4 r5 f5 z5
              clear hb
              have r0 := row_of k0
              have f0 := frozen_of k0
              have z0 := blk_lt k0
              have r1 := row_of k1
              have f1 := frozen_of k1
              have z1 := blk_lt k1
              have r2 := row_of k2
              have f2 := frozen_of k2
              have z2 := blk_lt k2
              have r3 := row_of k3
              have f3 := frozen_of k3
              have z3 := blk_lt k3
              have r4 := row_of k4
              have f4 := frozen_of k4
              have z4 := blk_lt k4
              have r5 := row_of k5
              have f5 := frozen_of k5
              have z5 := blk_lt k5
              go_upto_region 6 with fail
              have hz3_0 : w.heap.size < w7.heap.size := blk_lt k0
              have hz3_1 : w.heap.size + 1 < w7.heap.size := blk_lt k1
              have hz3_2 : g2a < w7.heap.size := blk_lt k2
              have hz3_3 : g2b < w7.heap.size := blk_lt k3
              have hz3_4 : g4a < w7.heap.size := blk_lt k4
              have hz3_5 : g4b < w7.heap.size := blk_lt k5
              refine wp_world (fun W => W.heap[w.heap.size]? = some (.cells #[.int .i64 A0, .int .i64 A1] 23 (0, 0)) ∧ W.heap[w.heap.size + 1]? = some (.cells #[.int .i64 B0, .int .i64 B1] 23 (0, 0)) ∧ W.heap[g2a]? = some (.cells #[.int .i64 A0, .int .i64 A1] 25 (0, 0)) ∧ W.heap[g2b]? = some (.cells #[.int .i64 B0, .int .i64 B1] 25 (0, 0)) ∧ W.heap[g4a]? = some (.cells #[.int .i64 j0, .int .i64 j1] 25 (0, 0)) ∧ W.heap[g4b]? = some (.cells #[.int .i64 v0, .int .i64 v1] 25 (0, 0)) ∧ W.heap[w7.heap.size]? = some (.cells #[.int .i64 c0, .int .i64 c1] 25 (0, 0)) ∧ Below w.heap.size w W) ⟨blkUp (k0) _, blkUp (k1) _, blkUp (k2) _, blkUp (k3) _, blkUp (k4) _, blkUp (k5) _, blkA _ _ (by first | rfl | simp only [World.size_alloc]), (hB).alloc (by first | exact hB.size | (simp only [World.size_alloc]; omega)) _⟩ ?_
              clear r0 f0 z0 r1 f1 z1 r2 f2 z2 r3 f3 z3 r4 f4 z4 r5 f5 z5
              clear hB k0 k1 k2 k3 k4 k5
              rintro w8 ⟨k0, k1, k2, k3, k4, k5, k6, hB⟩
              have r0 := row_of k0
              have f0 := frozen_of k0
              have z0 := blk_lt k0
              have r1 := row_of k1
              have f1 := frozen_of k1
              have z1 := blk_lt k1
              have r2 := row_of k2
              have f2 := frozen_of k2
              have z2 := blk_lt k2
              have r3 := row_of k3
              have f3 := frozen_of k3
              have z3 := blk_lt k3
              have r4 := row_of k4
              have f4 := frozen_of k4
              have z4 := blk_lt k4
              have r5 := row_of k5
              have f5 := frozen_of k5
              have z5 := blk_lt k5
              have r6 := row_of k6
              have f6 := frozen_of k6
              have z6 := blk_lt k6
              clear hc2
              go_cut [13] from 35 to 182 (fun e13 wx => e13 = .bool inB ∧ wx = w8)
              case first =>
                have hin2 := hin.out
                unfold withinB at hin2
                by_cases h1 : A1 < A0
                · have hd := decide_eq_true h1
                  go_wp2_with fail
                  go_meet
                  exact ⟨by rw [← hin2]; simp [h1]; try omega, rfl⟩
                · have hd := decide_eq_false h1
                  by_cases h2 : B0 ≤ A0
                  · have hd2 := decide_eq_true h2
                    go_wp2_with fail
                    go_meet
                    exact ⟨by rw [← hin2]; simp [h2]; try omega, rfl⟩
                  · have hd2 := decide_eq_false h2
                    go_wp2_with fail
                    go_meet
                    exact ⟨by rw [← hin2]; simp [h1]; try omega, rfl⟩
              case rest =>
                obtain ⟨rfl, rfl⟩ := hcut
                have hX2 := hX.out
                have hY2 := hY.out
                have hg2 := hg.out
                go_wp2_with fail
                refine (norm_any _ _ _).mono ?_
                rintro e w9 ⟨rfl, hb⟩
                replace k0 := blk_keep hb k0
                replace k1 := blk_keep hb k1
                replace k2 := blk_keep hb k2
                replace k3 := blk_keep hb k3
                replace k4 := blk_keep hb k4
                replace k5 := blk_keep hb k5
                replace k6 := blk_keep hb k6
                replace hB := hB.trans (hb.mono hB.size)
                clear r0 f0 z0 r1 f1 z1 r2 f2 z2 r3 f3 z3 r4 f4 z4 r5 f5 z5 r6 f6 z6
                clear hb
                have r0 := row_of k0
                have f0 := frozen_of k0
                have z0 := blk_lt k0
                have r1 := row_of k1
                have f1 := frozen_of k1
                have z1 := blk_lt k1
                have r2 := row_of k2
                have f2 := frozen_of k2
                have z2 := blk_lt k2
                have r3 := row_of k3
                have f3 := frozen_of k3
                have z3 := blk_lt k3
                have r4 := row_of k4
                have f4 := frozen_of k4
                have z4 := blk_lt k4
                have r5 := row_of k5
                have f5 := frozen_of k5
                have z5 := blk_lt k5
                have r6 := row_of k6
                have f6 := frozen_of k6
                have z6 := blk_lt k6
                go_upto_region 8 with fail
                have hz4_0 : w.heap.size < w9.heap.size := blk_lt k0
                have hz4_1 : w.heap.size + 1 < w9.heap.size := blk_lt k1
                have hz4_2 : g2a < w9.heap.size := blk_lt k2
                have hz4_3 : g2b < w9.heap.size := blk_lt k3
                have hz4_4 : g4a < w9.heap.size := blk_lt k4
                have hz4_5 : g4b < w9.heap.size := blk_lt k5
                have hz4_6 : w7.heap.size < w9.heap.size := blk_lt k6
                refine wp_world (fun W => W.heap[w.heap.size]? = some (.cells #[.int .i64 A0, .int .i64 A1] 23 (0, 0)) ∧ W.heap[w.heap.size + 1]? = some (.cells #[.int .i64 B0, .int .i64 B1] 23 (0, 0)) ∧ W.heap[g2a]? = some (.cells #[.int .i64 A0, .int .i64 A1] 25 (0, 0)) ∧ W.heap[g2b]? = some (.cells #[.int .i64 B0, .int .i64 B1] 25 (0, 0)) ∧ W.heap[g4a]? = some (.cells #[.int .i64 j0, .int .i64 j1] 25 (0, 0)) ∧ W.heap[g4b]? = some (.cells #[.int .i64 v0, .int .i64 v1] 25 (0, 0)) ∧ W.heap[w7.heap.size]? = some (.cells #[.int .i64 c0, .int .i64 c1] 25 (0, 0)) ∧ W.heap[w9.heap.size]? = some (.cells #[.int .i64 e0, .int .i64 e1] 23 (0, 0)) ∧ Below w.heap.size w W) ⟨blkUp (k0) _, blkUp (k1) _, blkUp (k2) _, blkUp (k3) _, blkUp (k4) _, blkUp (k5) _, blkUp (k6) _, blkA _ _ (by first | rfl | simp only [World.size_alloc]), (hB).alloc (by first | exact hB.size | (simp only [World.size_alloc]; omega)) _⟩ ?_
                clear r0 f0 z0 r1 f1 z1 r2 f2 z2 r3 f3 z3 r4 f4 z4 r5 f5 z5 r6 f6 z6
                clear hB k0 k1 k2 k3 k4 k5 k6
                rintro w10 ⟨k0, k1, k2, k3, k4, k5, k6, k7, hB⟩
                have r0 := row_of k0
                have f0 := frozen_of k0
                have z0 := blk_lt k0
                have r1 := row_of k1
                have f1 := frozen_of k1
                have z1 := blk_lt k1
                have r2 := row_of k2
                have f2 := frozen_of k2
                have z2 := blk_lt k2
                have r3 := row_of k3
                have f3 := frozen_of k3
                have z3 := blk_lt k3
                have r4 := row_of k4
                have f4 := frozen_of k4
                have z4 := blk_lt k4
                have r5 := row_of k5
                have f5 := frozen_of k5
                have z5 := blk_lt k5
                have r6 := row_of k6
                have f6 := frozen_of k6
                have z6 := blk_lt k6
                have r7 := row_of k7
                have f7 := frozen_of k7
                have z7 := blk_lt k7
                clear hX2 hY2 hg2
                go_cut [77] from 66 to 182 (fun e77 wx => e77 = .bool emp ∧ wx = w10)
                case first =>
                  have hin2 := hemp.out
                  by_cases h1 : A1 < A0
                  · have hd := decide_eq_true h1
                    go_wp2_with fail
                    go_meet
                    exact ⟨by rw [← hin2]; simp [h1]; try omega, rfl⟩
                  · have hd := decide_eq_false h1
                    go_wp2_with fail
                    go_meet
                    exact ⟨by rw [← hin2]; simp; try omega, rfl⟩
                case rest =>
                  obtain ⟨rfl, rfl⟩ := hcut
                  go_upto_if 77 with fail
                  go_cut [] from 78 to 182 (fun wx => wx.heap[w.heap.size]? = some (.cells #[.int .i64 A0, .int .i64 A1] 23 (0, 0)) ∧ wx.heap[w.heap.size + 1]? = some (.cells #[.int .i64 B0, .int .i64 B1] 23 (0, 0)) ∧ wx.heap[g2a]? = some (.cells #[.int .i64 A0, .int .i64 A1] 25 (0, 0)) ∧ wx.heap[g2b]? = some (.cells #[.int .i64 B0, .int .i64 B1] 25 (0, 0)) ∧ wx.heap[g4a]? = some (.cells #[.int .i64 j0, .int .i64 j1] 25 (0, 0)) ∧ wx.heap[g4b]? = some (.cells #[.int .i64 v0, .int .i64 v1] 25 (0, 0)) ∧ wx.heap[w7.heap.size]? = some (.cells #[.int .i64 c0, .int .i64 c1] 25 (0, 0)) ∧ wx.heap[w9.heap.size]? = some (.cells #[.int .i64 e0, .int .i64 e1] 23 (0, 0)) ∧ Below w.heap.size w wx)
                  case first =>
                    cases emp with
                    | false =>
                      go_wp2_with fail
                      go_meet
                      exact ⟨k0, k1, k2, k3, k4, k5, k6, k7, hB⟩
                    | true =>
                      have hh := hemp.out
                      simp at hh
                      obtain ⟨rfl, rfl⟩ := he.out hh
                      go_wp2_with fail
                      go_meet
                      exact ⟨setno k0 (by omega), setno k1 (by omega), setno k2 (by omega), setno k3 (by omega), setno k4 (by omega), setno k5 (by omega), setno k6 (by omega), setab k7, (hB.setCell (p := ⟨w9.heap.size, 0, none⟩) (by show w.heap.size ≤ w9.heap.size; omega) _).setCell (p := ⟨w9.heap.size, 1, none⟩) (by show w.heap.size ≤ w9.heap.size; omega) _⟩
                  case rest =>
                    as_aux_lemma =>
                      clear r0 f0 z0 r1 f1 z1 r2 f2 z2 r3 f3 z3 r4 f4 z4 r5 f5 z5 r6 f6 z6 r7 f7 z7
                      clear hB k0 k1 k2 k3 k4 k5 k6 k7
                      obtain ⟨k0, k1, k2, k3, k4, k5, k6, k7, hB⟩ := hcut
                      go_upto_region 10 with fail
                      refine wp_world (fun W => W.heap[w.heap.size]? = some (.cells #[.int .i64 A0, .int .i64 A1] 23 (0, 0)) ∧ W.heap[w.heap.size + 1]? = some (.cells #[.int .i64 B0, .int .i64 B1] 23 (0, 0)) ∧ W.heap[g2a]? = some (.cells #[.int .i64 A0, .int .i64 A1] 25 (0, 0)) ∧ W.heap[g2b]? = some (.cells #[.int .i64 B0, .int .i64 B1] 25 (0, 0)) ∧ W.heap[g4a]? = some (.cells #[.int .i64 j0, .int .i64 j1] 25 (0, 0)) ∧ W.heap[g4b]? = some (.cells #[.int .i64 v0, .int .i64 v1] 25 (0, 0)) ∧ W.heap[w7.heap.size]? = some (.cells #[.int .i64 c0, .int .i64 c1] 25 (0, 0)) ∧ W.heap[w9.heap.size]? = some (.cells #[.int .i64 e0, .int .i64 e1] 23 (0, 0)) ∧ Below w.heap.size w W) ⟨k0, k1, k2, k3, k4, k5, k6, k7, hB⟩ ?_
                      clear hB k0 k1 k2 k3 k4 k5 k6 k7
                      rintro w11 ⟨k0, k1, k2, k3, k4, k5, k6, k7, hB⟩
                      go_cut [140] from 79 to 182 (fun e140 wx => e140 = .bool false ∧ wx.heap[w.heap.size]? = some (.cells #[.int .i64 A0, .int .i64 A1] 23 (0, 0)) ∧ wx.heap[w.heap.size + 1]? = some (.cells #[.int .i64 B0, .int .i64 B1] 23 (0, 0)) ∧ wx.heap[g2a]? = some (.cells #[.int .i64 A0, .int .i64 A1] 25 (0, 0)) ∧ wx.heap[g2b]? = some (.cells #[.int .i64 B0, .int .i64 B1] 25 (0, 0)) ∧ wx.heap[g4a]? = some (.cells #[.int .i64 j0, .int .i64 j1] 25 (0, 0)) ∧ wx.heap[g4b]? = some (.cells #[.int .i64 v0, .int .i64 v1] 25 (0, 0)) ∧ wx.heap[w7.heap.size]? = some (.cells #[.int .i64 c0, .int .i64 c1] 25 (0, 0)) ∧ wx.heap[w9.heap.size]? = some (.cells #[.int .i64 e0, .int .i64 e1] 23 (0, 0)) ∧ Below w.heap.size w wx)
                      case first =>
                        as_aux_lemma =>
                          have hin9 := hin.out
                          have hj9 := hj.out
                          have hv9 := hv.out
                          have hrj9 := hrj.out
                          have hrv9 := hrv.out
                          have hnr9 := hnr.out
                          have hrn9 := hrn.out
                          have hmt9 := hmt.out
                          have mkS : ∀ W, Below w11.heap.size w11 W → W.cell? ⟨g2a, 0, none⟩ = some (.int .i64 A0) ∧ W.cell? ⟨g2a, 1, none⟩ = some (.int .i64 A1) ∧ W.cell? ⟨w.heap.size, 0, none⟩ = some (.int .i64 A0) ∧ W.cell? ⟨w.heap.size, 1, none⟩ = some (.int .i64 A1) ∧ W.cell? ⟨g2b, 0, none⟩ = some (.int .i64 B0) ∧ W.cell? ⟨g2b, 1, none⟩ = some (.int .i64 B1) ∧ W.cell? ⟨g4a, 0, none⟩ = some (.int .i64 j0) ∧ W.cell? ⟨g4a, 1, none⟩ = some (.int .i64 j1) ∧ W.cell? ⟨w.heap.size + 1, 0, none⟩ = some (.int .i64 B0) ∧ W.cell? ⟨w.heap.size + 1, 1, none⟩ = some (.int .i64 B1) ∧ W.cell? ⟨w9.heap.size, 0, none⟩ = some (.int .i64 e0) ∧ W.cell? ⟨w9.heap.size, 1, none⟩ = some (.int .i64 e1) ∧ W.cell? ⟨g4b, 0, none⟩ = some (.int .i64 v0) ∧ W.cell? ⟨g4b, 1, none⟩ = some (.int .i64 v1) := fun W h => ⟨row_of (blk_keep h k2) 0, row_of (blk_keep h k2) 1, row_of (blk_keep h k0) 0, row_of (blk_keep h k0) 1, row_of (blk_keep h k3) 0, row_of (blk_keep h k3) 1, row_of (blk_keep h k4) 0, row_of (blk_keep h k4) 1, row_of (blk_keep h k1) 0, row_of (blk_keep h k1) 1, row_of (blk_keep h k7) 0, row_of (blk_keep h k7) 1, row_of (blk_keep h k5) 0, row_of (blk_keep h k5) 1⟩
                          have hBn := Below.refl w11.heap.size w11
                          have sv0 := k0
                          have sv1 := k1
                          have sv2 := k2
                          have sv3 := k3
                          have sv4 := k4
                          have sv5 := k5
                          have sv6 := k6
                          have sv7 := k7
                          clear k0 k1 k2 k3 k4 k5 k6 k7
                          go_region_held3 (fun W => W.cell? ⟨g2a, 0, none⟩ = some (.int .i64 A0) ∧ W.cell? ⟨g2a, 1, none⟩ = some (.int .i64 A1) ∧ W.cell? ⟨w.heap.size, 0, none⟩ = some (.int .i64 A0) ∧ W.cell? ⟨w.heap.size, 1, none⟩ = some (.int .i64 A1) ∧ W.cell? ⟨g2b, 0, none⟩ = some (.int .i64 B0) ∧ W.cell? ⟨g2b, 1, none⟩ = some (.int .i64 B1) ∧ W.cell? ⟨g4a, 0, none⟩ = some (.int .i64 j0) ∧ W.cell? ⟨g4a, 1, none⟩ = some (.int .i64 j1) ∧ W.cell? ⟨w.heap.size + 1, 0, none⟩ = some (.int .i64 B0) ∧ W.cell? ⟨w.heap.size + 1, 1, none⟩ = some (.int .i64 B1) ∧ W.cell? ⟨w9.heap.size, 0, none⟩ = some (.int .i64 e0) ∧ W.cell? ⟨w9.heap.size, 1, none⟩ = some (.int .i64 e1) ∧ W.cell? ⟨g4b, 0, none⟩ = some (.int .i64 v0) ∧ W.cell? ⟨g4b, 1, none⟩ = some (.int .i64 v1))
                              (first | (with_reducible exact mkS _ hBn) | (with_reducible exact mkS _ (Below.drew hBn)))
                              (first
                                | (go_at_call 17; refine (does_any _).mono ?_; rintro e wn ⟨rfl, hbS⟩; (try (with_reducible replace hbS := below_undrew hbS)); replace hBn := below_tr hBn hbS)
                                | (go_at_call 18; refine (has_any _ _ _ _).mono ?_; rintro e wn ⟨rfl, hbS⟩; (try (with_reducible replace hbS := below_undrew hbS)); replace hBn := below_tr hBn hbS)
                                | (go_at_call 19; refine (rhas_any _ _ _ _).mono ?_; rintro e wn ⟨rfl, hbS⟩; (try (with_reducible replace hbS := below_undrew hbS)); replace hBn := below_tr hBn hbS)
                                | (go_at_call 20; refine (empty_any _ _ _).mono ?_; rintro e wn ⟨rfl, hbS⟩; (try (with_reducible replace hbS := below_undrew hbS)); replace hBn := below_tr hBn hbS)
                                | (go_at_call 21; refine (within_any _ _ _ _ _).mono ?_; rintro e wn ⟨rfl, hbS⟩; (try (with_reducible replace hbS := below_undrew hbS)); replace hBn := below_tr hBn hbS)
                                | (go_at_call 22; refine (from_any _ _ _).mono ?_; rintro e wn ⟨rfl, hbS⟩; (try (with_reducible replace hbS := below_undrew hbS)); replace hBn := below_tr hBn hbS)
                                | (go_at_call 23; refine (rjoin_any _ _ _ _ _).mono ?_; rintro e wn ⟨rfl, hbS⟩; (try (with_reducible replace hbS := below_undrew hbS)); replace hBn := below_tr hBn hbS)
                                | (go_at_call 24; refine (meet_any _ _ _ _ _).mono ?_; rintro e wn ⟨rfl, hbS⟩; (try (with_reducible replace hbS := below_undrew hbS)); replace hBn := below_tr hBn hbS)
                                | (go_at_call 25; refine (rwiden_any _ _ _ _ _).mono ?_; rintro e wn ⟨rfl, hbS⟩; (try (with_reducible replace hbS := below_undrew hbS)); replace hBn := below_tr hBn hbS)
                                | (go_at_call 26; refine (narrow_any _ _ _ _ _).mono ?_; rintro e wn ⟨rfl, hbS⟩; (try (with_reducible replace hbS := below_undrew hbS)); replace hBn := below_tr hBn hbS)
                                | (go_at_call 27; refine (rnarrow_any _ _ _ _ _).mono ?_; rintro e wn ⟨rfl, hbS⟩; (try (with_reducible replace hbS := below_undrew hbS)); replace hBn := below_tr hBn hbS))
                          all_goals
                            go_wp2_with fail
                            go_meet
                            first | exact ⟨rfl, blk_keep hBn sv0, blk_keep hBn sv1, blk_keep hBn sv2, blk_keep hBn sv3, blk_keep hBn sv4, blk_keep hBn sv5, blk_keep hBn sv6, blk_keep hBn sv7, hB.trans (hBn.mono hB.size)⟩ | exact ⟨rfl, blk_keep (Below.drew hBn) sv0, blk_keep (Below.drew hBn) sv1, blk_keep (Below.drew hBn) sv2, blk_keep (Below.drew hBn) sv3, blk_keep (Below.drew hBn) sv4, blk_keep (Below.drew hBn) sv5, blk_keep (Below.drew hBn) sv6, blk_keep (Below.drew hBn) sv7, hB.trans ((Below.drew hBn).mono hB.size)⟩
                      case rest =>
                        as_aux_lemma =>
                          clear hB k0 k1 k2 k3 k4 k5 k6 k7
                          obtain ⟨rfl, k0, k1, k2, k3, k4, k5, k6, k7, hB⟩ := hcut
                          go_upto_region 12 with fail
                          refine wp_world (fun W => W.heap[w.heap.size]? = some (.cells #[.int .i64 A0, .int .i64 A1] 23 (0, 0)) ∧ W.heap[w.heap.size + 1]? = some (.cells #[.int .i64 B0, .int .i64 B1] 23 (0, 0)) ∧ W.heap[g2a]? = some (.cells #[.int .i64 A0, .int .i64 A1] 25 (0, 0)) ∧ W.heap[g2b]? = some (.cells #[.int .i64 B0, .int .i64 B1] 25 (0, 0)) ∧ W.heap[g4a]? = some (.cells #[.int .i64 j0, .int .i64 j1] 25 (0, 0)) ∧ W.heap[g4b]? = some (.cells #[.int .i64 v0, .int .i64 v1] 25 (0, 0)) ∧ W.heap[w7.heap.size]? = some (.cells #[.int .i64 c0, .int .i64 c1] 25 (0, 0)) ∧ W.heap[w9.heap.size]? = some (.cells #[.int .i64 e0, .int .i64 e1] 23 (0, 0)) ∧ Below w.heap.size w W) ⟨k0, k1, k2, k3, k4, k5, k6, k7, hB⟩ ?_
                          clear hB k0 k1 k2 k3 k4 k5 k6 k7
                          rintro w12 ⟨k0, k1, k2, k3, k4, k5, k6, k7, hB⟩
                          have hw19 := hw1.out
                          have hw29 := hw2.out
                          have hw39 := hw3.out
                          have hc9 := hc.out
                          have hof9 := hof.out
                          have hno9 := hno.out
                          by_cases hnm : n = m
                          · as_aux_lemma =>
                              have hd9 : decide (c1 < c0) = false := by simp; have := hcm.out; omega
                              subst hnm
                              have hmq := hmn.out
                              have mkS : ∀ W, Below w12.heap.size w12 W → W.cell? ⟨g2a, 0, none⟩ = some (.int .i64 A0) ∧ W.cell? ⟨g2a, 1, none⟩ = some (.int .i64 A1) ∧ W.cell? ⟨g2b, 0, none⟩ = some (.int .i64 B0) ∧ W.cell? ⟨g2b, 1, none⟩ = some (.int .i64 B1) ∧ W.cell? ⟨g4a, 0, none⟩ = some (.int .i64 j0) ∧ W.cell? ⟨g4a, 1, none⟩ = some (.int .i64 j1) ∧ W.cell? ⟨g4b, 0, none⟩ = some (.int .i64 v0) ∧ W.cell? ⟨g4b, 1, none⟩ = some (.int .i64 v1) ∧ W.cell? ⟨w7.heap.size, 0, none⟩ = some (.int .i64 c0) ∧ W.cell? ⟨w7.heap.size, 1, none⟩ = some (.int .i64 c1) ∧ W.cell? ⟨w.heap.size, 0, none⟩ = some (.int .i64 A0) ∧ W.cell? ⟨w.heap.size, 1, none⟩ = some (.int .i64 A1) ∧ W.cell? ⟨w.heap.size + 1, 0, none⟩ = some (.int .i64 B0) ∧ W.cell? ⟨w.heap.size + 1, 1, none⟩ = some (.int .i64 B1) := fun W h => ⟨row_of (blk_keep h k2) 0, row_of (blk_keep h k2) 1, row_of (blk_keep h k3) 0, row_of (blk_keep h k3) 1, row_of (blk_keep h k4) 0, row_of (blk_keep h k4) 1, row_of (blk_keep h k5) 0, row_of (blk_keep h k5) 1, row_of (blk_keep h k6) 0, row_of (blk_keep h k6) 1, row_of (blk_keep h k0) 0, row_of (blk_keep h k0) 1, row_of (blk_keep h k1) 0, row_of (blk_keep h k1) 1⟩
                              have hBn := Below.refl w12.heap.size w12
                              have sv0 := k0
                              have sv1 := k1
                              have sv2 := k2
                              have sv3 := k3
                              have sv4 := k4
                              have sv5 := k5
                              have sv6 := k6
                              have sv7 := k7
                              clear k0 k1 k2 k3 k4 k5 k6 k7
                              go_region_held3 (fun W => W.cell? ⟨g2a, 0, none⟩ = some (.int .i64 A0) ∧ W.cell? ⟨g2a, 1, none⟩ = some (.int .i64 A1) ∧ W.cell? ⟨g2b, 0, none⟩ = some (.int .i64 B0) ∧ W.cell? ⟨g2b, 1, none⟩ = some (.int .i64 B1) ∧ W.cell? ⟨g4a, 0, none⟩ = some (.int .i64 j0) ∧ W.cell? ⟨g4a, 1, none⟩ = some (.int .i64 j1) ∧ W.cell? ⟨g4b, 0, none⟩ = some (.int .i64 v0) ∧ W.cell? ⟨g4b, 1, none⟩ = some (.int .i64 v1) ∧ W.cell? ⟨w7.heap.size, 0, none⟩ = some (.int .i64 c0) ∧ W.cell? ⟨w7.heap.size, 1, none⟩ = some (.int .i64 c1) ∧ W.cell? ⟨w.heap.size, 0, none⟩ = some (.int .i64 A0) ∧ W.cell? ⟨w.heap.size, 1, none⟩ = some (.int .i64 A1) ∧ W.cell? ⟨w.heap.size + 1, 0, none⟩ = some (.int .i64 B0) ∧ W.cell? ⟨w.heap.size + 1, 1, none⟩ = some (.int .i64 B1))
                                  (first | (with_reducible exact mkS _ hBn) | (with_reducible exact mkS _ (Below.drew hBn)))
                                  (first
                                    | (go_at_call 21; refine (within_any _ _ _ _ _).mono ?_; rintro e wn ⟨rfl, hbS⟩; (try (with_reducible replace hbS := below_undrew hbS)); replace hBn := below_tr hBn hbS)
                                    | (go_at_call 28; refine (const_any _ _).mono ?_; rintro e wn ⟨rfl, hbS⟩; (try (with_reducible replace hbS := below_undrew hbS)); replace hBn := below_tr hBn hbS)
                                    | (go_at_call 20; refine (empty_any _ _ _).mono ?_; rintro e wn ⟨rfl, hbS⟩; (try (with_reducible replace hbS := below_undrew hbS)); replace hBn := below_tr hBn hbS)
                                    | (go_at_call 15; refine (of_any _ _ _).mono ?_; rintro e wn ⟨rfl, hbS⟩; (try (with_reducible replace hbS := below_undrew hbS)); replace hBn := below_tr hBn hbS)
                                    | (go_at_call 22; refine (from_any _ _ _).mono ?_; rintro e wn ⟨rfl, hbS⟩; (try (with_reducible replace hbS := below_undrew hbS)); replace hBn := below_tr hBn hbS)
                                    | (go_at_call 16; refine (norm_any _ _ _).mono ?_; rintro e wn ⟨rfl, hbS⟩; (try (with_reducible replace hbS := below_undrew hbS)); replace hBn := below_tr hBn hbS))
                              all_goals
                                go_wp2_with fail
                                go_ret
                                exact ⟨by first | (simp; done) | simp [*], hB.trans (hBn.mono hB.size)⟩
                          · as_aux_lemma =>
                              have hd9 : decide (c1 < c0) = true := by simp; have := hcm.out; omega
                              have hmq := hmn.out
                              have hn1 : (n == m) = false := by rw [beq_eq_false_iff_ne]; exact hnm
                              have hn2 : (n != m) = true := by simp [hnm]
                              have hn3 : decide (n = m) = false := decide_eq_false hnm
                              have mkS : ∀ W, Below w12.heap.size w12 W → W.cell? ⟨g2a, 0, none⟩ = some (.int .i64 A0) ∧ W.cell? ⟨g2a, 1, none⟩ = some (.int .i64 A1) ∧ W.cell? ⟨g2b, 0, none⟩ = some (.int .i64 B0) ∧ W.cell? ⟨g2b, 1, none⟩ = some (.int .i64 B1) ∧ W.cell? ⟨g4a, 0, none⟩ = some (.int .i64 j0) ∧ W.cell? ⟨g4a, 1, none⟩ = some (.int .i64 j1) ∧ W.cell? ⟨g4b, 0, none⟩ = some (.int .i64 v0) ∧ W.cell? ⟨g4b, 1, none⟩ = some (.int .i64 v1) ∧ W.cell? ⟨w7.heap.size, 0, none⟩ = some (.int .i64 c0) ∧ W.cell? ⟨w7.heap.size, 1, none⟩ = some (.int .i64 c1) ∧ W.cell? ⟨w.heap.size, 0, none⟩ = some (.int .i64 A0) ∧ W.cell? ⟨w.heap.size, 1, none⟩ = some (.int .i64 A1) ∧ W.cell? ⟨w.heap.size + 1, 0, none⟩ = some (.int .i64 B0) ∧ W.cell? ⟨w.heap.size + 1, 1, none⟩ = some (.int .i64 B1) := fun W h => ⟨row_of (blk_keep h k2) 0, row_of (blk_keep h k2) 1, row_of (blk_keep h k3) 0, row_of (blk_keep h k3) 1, row_of (blk_keep h k4) 0, row_of (blk_keep h k4) 1, row_of (blk_keep h k5) 0, row_of (blk_keep h k5) 1, row_of (blk_keep h k6) 0, row_of (blk_keep h k6) 1, row_of (blk_keep h k0) 0, row_of (blk_keep h k0) 1, row_of (blk_keep h k1) 0, row_of (blk_keep h k1) 1⟩
                              have hBn := Below.refl w12.heap.size w12
                              have sv0 := k0
                              have sv1 := k1
                              have sv2 := k2
                              have sv3 := k3
                              have sv4 := k4
                              have sv5 := k5
                              have sv6 := k6
                              have sv7 := k7
                              clear k0 k1 k2 k3 k4 k5 k6 k7
                              go_region_held3 (fun W => W.cell? ⟨g2a, 0, none⟩ = some (.int .i64 A0) ∧ W.cell? ⟨g2a, 1, none⟩ = some (.int .i64 A1) ∧ W.cell? ⟨g2b, 0, none⟩ = some (.int .i64 B0) ∧ W.cell? ⟨g2b, 1, none⟩ = some (.int .i64 B1) ∧ W.cell? ⟨g4a, 0, none⟩ = some (.int .i64 j0) ∧ W.cell? ⟨g4a, 1, none⟩ = some (.int .i64 j1) ∧ W.cell? ⟨g4b, 0, none⟩ = some (.int .i64 v0) ∧ W.cell? ⟨g4b, 1, none⟩ = some (.int .i64 v1) ∧ W.cell? ⟨w7.heap.size, 0, none⟩ = some (.int .i64 c0) ∧ W.cell? ⟨w7.heap.size, 1, none⟩ = some (.int .i64 c1) ∧ W.cell? ⟨w.heap.size, 0, none⟩ = some (.int .i64 A0) ∧ W.cell? ⟨w.heap.size, 1, none⟩ = some (.int .i64 A1) ∧ W.cell? ⟨w.heap.size + 1, 0, none⟩ = some (.int .i64 B0) ∧ W.cell? ⟨w.heap.size + 1, 1, none⟩ = some (.int .i64 B1))
                                  (first | (with_reducible exact mkS _ hBn) | (with_reducible exact mkS _ (Below.drew hBn)))
                                  (first
                                    | (go_at_call 21; refine (within_any _ _ _ _ _).mono ?_; rintro e wn ⟨rfl, hbS⟩; (try (with_reducible replace hbS := below_undrew hbS)); replace hBn := below_tr hBn hbS)
                                    | (go_at_call 28; refine (const_any _ _).mono ?_; rintro e wn ⟨rfl, hbS⟩; (try (with_reducible replace hbS := below_undrew hbS)); replace hBn := below_tr hBn hbS)
                                    | (go_at_call 20; refine (empty_any _ _ _).mono ?_; rintro e wn ⟨rfl, hbS⟩; (try (with_reducible replace hbS := below_undrew hbS)); replace hBn := below_tr hBn hbS)
                                    | (go_at_call 15; refine (of_any _ _ _).mono ?_; rintro e wn ⟨rfl, hbS⟩; (try (with_reducible replace hbS := below_undrew hbS)); replace hBn := below_tr hBn hbS)
                                    | (go_at_call 22; refine (from_any _ _ _).mono ?_; rintro e wn ⟨rfl, hbS⟩; (try (with_reducible replace hbS := below_undrew hbS)); replace hBn := below_tr hBn hbS)
                                    | (go_at_call 16; refine (norm_any _ _ _).mono ?_; rintro e wn ⟨rfl, hbS⟩; (try (with_reducible replace hbS := below_undrew hbS)); replace hBn := below_tr hBn hbS))
                              all_goals
                                go_wp2_with fail
                                go_ret
                                exact ⟨by first | (simp; done) | simp [*], hB.trans (hBn.mono hB.size)⟩
end Go.Proofs.Ytibhoekccjcoaaa
