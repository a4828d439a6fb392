/-
  ItvSums' walk (A).
-/
import Derived.Test.YtibhoekccjcoaaaIj
import Derived.Test.YtibhoekccjcoaaaIp
namespace Go.Proofs.Ytibhoekccjcoaaa
open Go.RowKit
set_option maxRecDepth 100000 in
set_option maxHeartbeats 8000000 in
theorem sums_a (a0 a1 b0 b1 A0 A1 B0 B1 c0 c1 u0 u1 : Int) (co : Bool) (w : World) (hA : A1 < A0) (ea0 : wrap32 a0 = A0) (ea1 : wrap32 a1 = A1) (eb0 : wrap32 b0 = B0) (eb1 : wrap32 b1 = B1)
    (hu0 : wrap64 (-A1) = u0) (hu1 : wrap64 (-A0) = u1)
    (cc4 : ∀ W, Calls Try.prog 29 #[.int .i64 4, .agg #[.int .i64 A0, .int .i64 A1], .agg #[.int .i64 B0, .int .i64 B1]] W fun e w' => e = .returned (.tuple #[.agg #[.int .i64 1, .int .i64 0], .agg #[.bool false, .bool false]]) ∧ Below W.heap.size W w')
    (cc5 : ∀ W, Calls Try.prog 29 #[.int .i64 5, .agg #[.int .i64 A0, .int .i64 A1], .agg #[.int .i64 B0, .int .i64 B1]] W fun e w' => e = .returned (.tuple #[.agg #[.int .i64 1, .int .i64 0], .agg #[.bool false, .bool false]]) ∧ Below W.heap.size W w')
    (cc6 : ∀ W, Calls Try.prog 30 #[.agg #[.int .i64 A0, .int .i64 A1]] W fun e w' => e = .returned (.tuple #[.agg #[.int .i64 1, .int .i64 0], .agg #[.bool false, .bool false]]) ∧ Below W.heap.size W w')
    (cc7 : ∀ W, Calls Try.prog 31 #[.int .i64 u0, .int .i64 u1] W fun e w' => e = .returned (.tuple #[.agg #[.int .i64 c0, .int .i64 c1], .bool co]) ∧ Below W.heap.size W w') :
    Calls Try.prog 4 #[.agg #[.int .i64 a0, .int .i64 a1], .agg #[.int .i64 b0, .int .i64 b1]] w fun e w' => e = .returned (.bool true) ∧ Below w.heap.size w w' := by
  have hdA : decide (A1 < A0) = true := by simp; omega
  clear hA
  replace cc4 := Lib.hid cc4
  replace cc5 := Lib.hid cc5
  replace cc6 := Lib.hid cc6
  replace cc7 := Lib.hid cc7
  replace ea0 := Lib.hid ea0
  replace ea1 := Lib.hid ea1
  replace eb0 := Lib.hid eb0
  replace eb1 := Lib.hid eb1
  replace hu0 := Lib.hid hu0
  replace hu1 := Lib.hid hu1
  replace hdA := Lib.hid hdA
  go_enter Try.func4, Try.ntmps4
  go_upto_region 1 with fail
  refine wp_world (fun W => W.heap[w.heap.size]? = some (.cells #[.int .i64 a0, .int .i64 a1] 23 (0, 0)) ∧ W.heap[w.heap.size + 1]? = some (.cells #[.int .i64 b0, .int .i64 b1] 23 (0, 0)) ∧ Below w.heap.size w W) ⟨blkUp (blkA _ _ (by first | rfl | simp only [World.size_alloc])) _, blkA _ _ (by first | rfl | simp only [World.size_alloc]), ((Below.refl _ _).alloc (by first | exact Nat.le_refl _ | (simp only [World.size_alloc]; omega)) _).alloc (by first | exact Nat.le_refl _ | (simp only [World.size_alloc]; omega)) _⟩ ?_
  rintro w1 ⟨k0, k1, hB⟩
  have r0 := row_of k0
  have f0 := frozen_of k0
  have z0 := blk_lt k0
  have r1 := row_of k1
  have f1 := frozen_of k1
  have z1 := blk_lt k1
  go_cut [] from 17 to 162 (fun wx => OldCut w w.heap.size (w.heap.size + 1) 23 A0 A1 B0 B1 wx)
  case first =>
    as_aux_lemma =>
      have ka0 := ea0.out
      have ka1 := ea1.out
      have kb0 := eb0.out
      have kb1 := eb1.out
      have n0 := hB
      go_region_with (first | (go_at_call 11; refine (bend_any _ _ _).mono ?_; rintro e wn ⟨rfl, hbS⟩; (try (with_reducible replace hbS := below_undrew hbS)); replace k0 := blk_keep hbS k0; replace k1 := blk_keep hbS k1; replace hB := hB.trans (hbS.mono hB.size); have r0 := row_of k0; have f0 := frozen_of k0; have z0 := blk_lt k0; have r1 := row_of k1; have f1 := frozen_of k1; have z1 := blk_lt k1))
      all_goals
        go_wp2_with fail
        go_meet
        exact ⟨setno (setab k0) (by omega), setab (setno k1 (by omega)), (((hB.setCell (p := ⟨w.heap.size, 0, none⟩) (Nat.le_refl _) _).setCell (p := ⟨w.heap.size, 1, none⟩) (Nat.le_refl _) _).setCell (p := ⟨w.heap.size + 1, 0, none⟩) (Nat.le_succ _) _).setCell (p := ⟨w.heap.size + 1, 1, none⟩) (Nat.le_succ _) _⟩
  case rest =>
    as_aux_lemma =>
      clear r0 f0 z0 r1 f1 z1 k0 k1 hB
      obtain ⟨k0, k1, hB⟩ := hcut
      go_upto_region 2 with fail
      refine wp_world (fun W => W.heap[w.heap.size]? = some (.cells #[.int .i64 A0, .int .i64 A1] 23 (0, 0)) ∧ W.heap[w.heap.size + 1]? = some (.cells #[.int .i64 B0, .int .i64 B1] 23 (0, 0)) ∧ Below w.heap.size w W) ⟨k0, k1, hB⟩ ?_
      clear hB k0 k1
      rintro w2 ⟨k0, k1, hB⟩
      go_upto_region 2 with fail
      have mkS := four_of k0 k1
      go_cut [5, 6] from 21 to 162 (fun e5 e6 wx => TwoCut w2 25 39 (.int .i64 1) (.int .i64 0) (.bool false) (.bool false) e5 e6 wx)
      case first =>
        as_aux_lemma =>
          have hBn := Below.refl w2.heap.size w2
          have zz := hB
          have zb0 := blk_lt k0
          have zb1 := blk_lt k1
          clear hB k0 k1
          go_region_held3 (fun W => W.cell? ⟨w.heap.size, 0, none⟩ = some (.int .i64 A0) ∧ W.cell? ⟨w.heap.size, 1, none⟩ = some (.int .i64 A1) ∧ W.cell? ⟨w.heap.size + 1, 0, none⟩ = some (.int .i64 B0) ∧ W.cell? ⟨w.heap.size + 1, 1, none⟩ = some (.int .i64 B1))
              (first | (with_reducible exact mkS _ (hBn)) | (with_reducible exact mkS _ (below_al hBn _)) | (with_reducible exact mkS _ (below_al (below_al hBn _) _)) | (with_reducible exact mkS _ (below_put hBn zx)) | (with_reducible exact mkS _ (below_al (below_put hBn zx) _)) | (with_reducible exact mkS _ (below_put hBn zy)) | (with_reducible exact mkS _ (below_al (below_put hBn zy) _)) | (with_reducible exact mkS _ (below_put (below_put hBn zx) zy)) | (with_reducible exact mkS _ (below_put (below_put hBn zy) zx)) | (with_reducible exact mkS _ (Below.drew (hBn))) | (with_reducible exact mkS _ (Below.drew (below_al hBn _))) | (with_reducible exact mkS _ (Below.drew (below_al (below_al hBn _) _))))
              (first
                | (go_at_call 12; refine (to_any _ _ _).mono ?_; rintro e wn ⟨rfl, hbS⟩; (try (with_reducible replace hbS := below_undrew hbS)); (with_reducible first
                  | (have kx := blkT2a hbS; have ky := blkT2b hbS; have zx := hBn.size; have zy := Nat.le_succ_of_le hBn.size; replace hBn := below_tr (below_al (below_al hBn _) _) hbS)
                  | (have ky := blkT1 hbS; have zy := hBn.size; have nxy := Nat.ne_of_lt (blk_lt kx); replace kx := blk_keep hbS (blkUp kx _); replace hBn := below_tr (below_al hBn _) hbS)
                  | (have kx := blkT1 hbS; have zx := hBn.size; replace hBn := below_tr (below_al hBn _) hbS)
                  | (replace kx := blk_keep hbS kx; replace ky := blk_keep hbS ky; replace hBn := below_tr hBn hbS)
                  | (replace kx := blk_keep hbS kx; replace hBn := below_tr hBn hbS)
                  | (replace hBn := below_tr hBn hbS)); (try (have rx := row_of kx; have fx := frozen_of kx; have lx := blk_lt kx)); (try (have ry := row_of ky; have fy := frozen_of ky; have ly := blk_lt ky)))
                | (go_at_call 29; refine (cc4.out _).mono ?_; rintro e wn ⟨rfl, hbS⟩; (try (with_reducible replace hbS := below_undrew hbS)); (with_reducible first
                  | (have kx := blkT2a hbS; have ky := blkT2b hbS; have zx := hBn.size; have zy := Nat.le_succ_of_le hBn.size; replace hBn := below_tr (below_al (below_al hBn _) _) hbS)
                  | (have ky := blkT1 hbS; have zy := hBn.size; have nxy := Nat.ne_of_lt (blk_lt kx); replace kx := blk_keep hbS (blkUp kx _); replace hBn := below_tr (below_al hBn _) hbS)
                  | (have kx := blkT1 hbS; have zx := hBn.size; replace hBn := below_tr (below_al hBn _) hbS)
                  | (replace kx := blk_keep hbS kx; replace ky := blk_keep hbS ky; replace hBn := below_tr hBn hbS)
                  | (replace kx := blk_keep hbS kx; replace hBn := below_tr hBn hbS)
                  | (replace hBn := below_tr hBn hbS)); (try (have rx := row_of kx; have fx := frozen_of kx; have lx := blk_lt kx)); (try (have ry := row_of ky; have fy := frozen_of ky; have ly := blk_lt ky))))
          all_goals
            go_wp2_with fail
            go_meet
            refine ⟨_, _, rfl, rfl, ?_, ?_, ?_, ?_, ?_, ?_⟩
            · first | exact nxy | exact nxy.symm | omega
            · first | exact zx | exact zy | exact hBn.size | exact Nat.le_succ_of_le hBn.size | omega
            · first | exact zy | exact zx | exact hBn.size | exact Nat.le_succ_of_le hBn.size | omega
            · first | (with_reducible exact blkP _ _ _ _ _) | (with_reducible exact blkA _ _ rfl) | (with_reducible exact blkA _ _ (by simp only [World.size_alloc])) | (with_reducible exact blkUp (blkA _ _ rfl) _) | (with_reducible exact setab kx) | (with_reducible exact setno (setab kx) (by omega)) | (with_reducible exact setab (setno kx (by omega))) | (with_reducible exact blkUp (setab kx) _) | (with_reducible exact blkUp (setno (setab kx) (by omega)) _) | (with_reducible exact setab ky) | (with_reducible exact setno (setab ky) (by omega)) | (with_reducible exact setab (setno ky (by omega))) | (with_reducible exact blkUp (setab ky) _) | (with_reducible exact blkUp (setno (setab ky) (by omega)) _)
            · first | (with_reducible exact blkP _ _ _ _ _) | (with_reducible exact blkA _ _ rfl) | (with_reducible exact blkA _ _ (by simp only [World.size_alloc])) | (with_reducible exact blkUp (blkA _ _ rfl) _) | (with_reducible exact setab kx) | (with_reducible exact setno (setab kx) (by omega)) | (with_reducible exact setab (setno kx (by omega))) | (with_reducible exact blkUp (setab kx) _) | (with_reducible exact blkUp (setno (setab kx) (by omega)) _) | (with_reducible exact setab ky) | (with_reducible exact setno (setab ky) (by omega)) | (with_reducible exact setab (setno ky (by omega))) | (with_reducible exact blkUp (setab ky) _) | (with_reducible exact blkUp (setno (setab ky) (by omega)) _)
            · first | (with_reducible exact hBn) | (with_reducible exact below_al hBn _) | (with_reducible exact below_al (below_al hBn _) _) | (with_reducible exact below_put hBn zx) | (with_reducible exact below_al (below_put hBn zx) _) | (with_reducible exact below_put hBn zy) | (with_reducible exact below_al (below_put hBn zy) _) | (with_reducible exact below_put (below_put hBn zx) zy) | (with_reducible exact below_put (below_put hBn zy) zx) | (with_reducible exact Below.drew (hBn)) | (with_reducible exact Below.drew (below_al hBn _)) | (with_reducible exact Below.drew (below_al (below_al hBn _) _))
      case rest =>
        as_aux_lemma =>
          obtain ⟨g2a, g2b, rfl, rfl, hne2, hla2, hlb2, kA, kB, hb⟩ := hcut
          have hv2_0 := blk_lt k0
          have hv2_1 := blk_lt k1
          replace k0 := blk_keep hb k0
          replace k1 := blk_keep hb k1
          have k2 := kA
          have k3 := kB
          replace hB := hB.trans (hb.mono hB.size)
          clear hb kA kB mkS
          go_upto_region 3 with fail
          refine wp_world (fun W => W.heap[w.heap.size]? = some (.cells #[.int .i64 A0, .int .i64 A1] 23 (0, 0)) ∧ W.heap[w.heap.size + 1]? = some (.cells #[.int .i64 B0, .int .i64 B1] 23 (0, 0)) ∧ W.heap[g2a]? = some (.cells #[.int .i64 1, .int .i64 0] 25 (0, 0)) ∧ W.heap[g2b]? = some (.cells #[.bool false, .bool false] 39 (0, 0)) ∧ Below w.heap.size w W) ⟨k0, k1, k2, k3, hB⟩ ?_
          clear hB k0 k1 k2 k3
          rintro w4 ⟨k0, k1, k2, k3, hB⟩
          go_upto_region 3 with fail
          have mkS := four_of k0 k1
          go_cut [7, 8] from 29 to 162 (fun e5 e6 wx => TwoCut w4 25 39 (.int .i64 1) (.int .i64 0) (.bool false) (.bool false) e5 e6 wx)
          case first =>
            as_aux_lemma =>
              have hBn := Below.refl w4.heap.size w4
              have zz := hB
              have zb0 := blk_lt k0
              have zb1 := blk_lt k1
              have zb2 := blk_lt k2
              have zb3 := blk_lt k3
              clear hB k0 k1 k2 k3
              go_region_held3 (fun W => W.cell? ⟨w.heap.size, 0, none⟩ = some (.int .i64 A0) ∧ W.cell? ⟨w.heap.size, 1, none⟩ = some (.int .i64 A1) ∧ W.cell? ⟨w.heap.size + 1, 0, none⟩ = some (.int .i64 B0) ∧ W.cell? ⟨w.heap.size + 1, 1, none⟩ = some (.int .i64 B1))
                  (first | (with_reducible exact mkS _ (hBn)) | (with_reducible exact mkS _ (below_al hBn _)) | (with_reducible exact mkS _ (below_al (below_al hBn _) _)) | (with_reducible exact mkS _ (below_put hBn zx)) | (with_reducible exact mkS _ (below_al (below_put hBn zx) _)) | (with_reducible exact mkS _ (below_put hBn zy)) | (with_reducible exact mkS _ (below_al (below_put hBn zy) _)) | (with_reducible exact mkS _ (below_put (below_put hBn zx) zy)) | (with_reducible exact mkS _ (below_put (below_put hBn zy) zx)) | (with_reducible exact mkS _ (Below.drew (hBn))) | (with_reducible exact mkS _ (Below.drew (below_al hBn _))) | (with_reducible exact mkS _ (Below.drew (below_al (below_al hBn _) _))))
                  (first
                    | (go_at_call 12; refine (to_any _ _ _).mono ?_; rintro e wn ⟨rfl, hbS⟩; (try (with_reducible replace hbS := below_undrew hbS)); (with_reducible first
                      | (have kx := blkT2a hbS; have ky := blkT2b hbS; have zx := hBn.size; have zy := Nat.le_succ_of_le hBn.size; replace hBn := below_tr (below_al (below_al hBn _) _) hbS)
                      | (have ky := blkT1 hbS; have zy := hBn.size; have nxy := Nat.ne_of_lt (blk_lt kx); replace kx := blk_keep hbS (blkUp kx _); replace hBn := below_tr (below_al hBn _) hbS)
                      | (have kx := blkT1 hbS; have zx := hBn.size; replace hBn := below_tr (below_al hBn _) hbS)
                      | (replace kx := blk_keep hbS kx; replace ky := blk_keep hbS ky; replace hBn := below_tr hBn hbS)
                      | (replace kx := blk_keep hbS kx; replace hBn := below_tr hBn hbS)
                      | (replace hBn := below_tr hBn hbS)); (try (have rx := row_of kx; have fx := frozen_of kx; have lx := blk_lt kx)); (try (have ry := row_of ky; have fy := frozen_of ky; have ly := blk_lt ky)))
                    | (go_at_call 29; refine (cc5.out _).mono ?_; rintro e wn ⟨rfl, hbS⟩; (try (with_reducible replace hbS := below_undrew hbS)); (with_reducible first
                      | (have kx := blkT2a hbS; have ky := blkT2b hbS; have zx := hBn.size; have zy := Nat.le_succ_of_le hBn.size; replace hBn := below_tr (below_al (below_al hBn _) _) hbS)
                      | (have ky := blkT1 hbS; have zy := hBn.size; have nxy := Nat.ne_of_lt (blk_lt kx); replace kx := blk_keep hbS (blkUp kx _); replace hBn := below_tr (below_al hBn _) hbS)
                      | (have kx := blkT1 hbS; have zx := hBn.size; replace hBn := below_tr (below_al hBn _) hbS)
                      | (replace kx := blk_keep hbS kx; replace ky := blk_keep hbS ky; replace hBn := below_tr hBn hbS)
                      | (replace kx := blk_keep hbS kx; replace hBn := below_tr hBn hbS)
                      | (replace hBn := below_tr hBn hbS)); (try (have rx := row_of kx; have fx := frozen_of kx; have lx := blk_lt kx)); (try (have ry := row_of ky; have fy := frozen_of ky; have ly := blk_lt ky))))
              all_goals
                go_wp2_with fail
                go_meet
                refine ⟨_, _, rfl, rfl, ?_, ?_, ?_, ?_, ?_, ?_⟩
                · first | exact nxy | exact nxy.symm | omega
                · first | exact zx | exact zy | exact hBn.size | exact Nat.le_succ_of_le hBn.size | omega
                · first | exact zy | exact zx | exact hBn.size | exact Nat.le_succ_of_le hBn.size | omega
                · first | (with_reducible exact blkP _ _ _ _ _) | (with_reducible exact blkA _ _ rfl) | (with_reducible exact blkA _ _ (by simp only [World.size_alloc])) | (with_reducible exact blkUp (blkA _ _ rfl) _) | (with_reducible exact setab kx) | (with_reducible exact setno (setab kx) (by omega)) | (with_reducible exact setab (setno kx (by omega))) | (with_reducible exact blkUp (setab kx) _) | (with_reducible exact blkUp (setno (setab kx) (by omega)) _) | (with_reducible exact setab ky) | (with_reducible exact setno (setab ky) (by omega)) | (with_reducible exact setab (setno ky (by omega))) | (with_reducible exact blkUp (setab ky) _) | (with_reducible exact blkUp (setno (setab ky) (by omega)) _)
                · first | (with_reducible exact blkP _ _ _ _ _) | (with_reducible exact blkA _ _ rfl) | (with_reducible exact blkA _ _ (by simp only [World.size_alloc])) | (with_reducible exact blkUp (blkA _ _ rfl) _) | (with_reducible exact setab kx) | (with_reducible exact setno (setab kx) (by omega)) | (with_reducible exact setab (setno kx (by omega))) | (with_reducible exact blkUp (setab kx) _) | (with_reducible exact blkUp (setno (setab kx) (by omega)) _) | (with_reducible exact setab ky) | (with_reducible exact setno (setab ky) (by omega)) | (with_reducible exact setab (setno ky (by omega))) | (with_reducible exact blkUp (setab ky) _) | (with_reducible exact blkUp (setno (setab ky) (by omega)) _)
                · first | (with_reducible exact hBn) | (with_reducible exact below_al hBn _) | (with_reducible exact below_al (below_al hBn _) _) | (with_reducible exact below_put hBn zx) | (with_reducible exact below_al (below_put hBn zx) _) | (with_reducible exact below_put hBn zy) | (with_reducible exact below_al (below_put hBn zy) _) | (with_reducible exact below_put (below_put hBn zx) zy) | (with_reducible exact below_put (below_put hBn zy) zx) | (with_reducible exact Below.drew (hBn)) | (with_reducible exact Below.drew (below_al hBn _)) | (with_reducible exact Below.drew (below_al (below_al hBn _) _))
          case rest =>
            as_aux_lemma =>
              obtain ⟨g3a, g3b, rfl, rfl, hne3, hla3, hlb3, kA, kB, hb⟩ := hcut
              have hv3_0 := blk_lt k0
              have hv3_1 := blk_lt k1
              have hv3_2 := blk_lt k2
              have hv3_3 := blk_lt k3
              replace k0 := blk_keep hb k0
              replace k1 := blk_keep hb k1
              replace k2 := blk_keep hb k2
              replace k3 := blk_keep hb k3
              have k4 := kA
              have k5 := kB
              replace hB := hB.trans (hb.mono hB.size)
              clear hb kA kB mkS
              go_upto_region 4 with fail
              refine wp_world (fun W => W.heap[w.heap.size]? = some (.cells #[.int .i64 A0, .int .i64 A1] 23 (0, 0)) ∧ W.heap[w.heap.size + 1]? = some (.cells #[.int .i64 B0, .int .i64 B1] 23 (0, 0)) ∧ W.heap[g2a]? = some (.cells #[.int .i64 1, .int .i64 0] 25 (0, 0)) ∧ W.heap[g2b]? = some (.cells #[.bool false, .bool false] 39 (0, 0)) ∧ W.heap[g3a]? = some (.cells #[.int .i64 1, .int .i64 0] 25 (0, 0)) ∧ W.heap[g3b]? = some (.cells #[.bool false, .bool false] 39 (0, 0)) ∧ Below w.heap.size w W) ⟨k0, k1, k2, k3, k4, k5, hB⟩ ?_
              clear hB k0 k1 k2 k3 k4 k5
              rintro w6 ⟨k0, k1, k2, k3, k4, k5, hB⟩
              have r0 := row_of k0
              have f0 := frozen_of k0
              have z0 := blk_lt k0
              have r1 := row_of k1
              have f1 := frozen_of k1
              have z1 := blk_lt k1
              have r2 := row_of k2
              have f2 := frozen_of k2
              have z2 := blk_lt k2
              have r3 := row_of k3
              have f3 := frozen_of k3
              have z3 := blk_lt k3
              have r4 := row_of k4
              have f4 := frozen_of k4
              have z4 := blk_lt k4
              have r5 := row_of k5
              have f5 := frozen_of k5
              have z5 := blk_lt k5
              go_wp2_with fail
              refine (to_any _ _ _).mono ?_
              rintro e w7 ⟨rfl, hb⟩
              replace k0 := blk_keep hb k0
              replace k1 := blk_keep hb k1
              replace k2 := blk_keep hb k2
              replace k3 := blk_keep hb k3
              replace k4 := blk_keep hb k4
              replace k5 := blk_keep hb k5
              replace hB := hB.trans (hb.mono hB.size)
              clear r0 f0 z0 r1 f1 z1 r2 f2 z2 r3 f3 z3 r4 f4 z4 r5 f5 z5
              clear hb
              have r0 := row_of k0
              have f0 := frozen_of k0
              have z0 := blk_lt k0
              have r1 := row_of k1
              have f1 := frozen_of k1
              have z1 := blk_lt k1
              have r2 := row_of k2
              have f2 := frozen_of k2
              have z2 := blk_lt k2
              have r3 := row_of k3
              have f3 := frozen_of k3
              have z3 := blk_lt k3
              have r4 := row_of k4
              have f4 := frozen_of k4
              have z4 := blk_lt k4
              have r5 := row_of k5
              have f5 := frozen_of k5
              have z5 := blk_lt k5
              go_wp2_with fail
              refine (cc6.out _).mono ?_
              rintro e w8 ⟨rfl, hb⟩
              replace k0 := blk_keep hb k0
              replace k1 := blk_keep hb k1
              replace k2 := blk_keep hb k2
              replace k3 := blk_keep hb k3
              replace k4 := blk_keep hb k4
              replace k5 := blk_keep hb k5
              replace hB := hB.trans (hb.mono hB.size)
              clear r0 f0 z0 r1 f1 z1 r2 f2 z2 r3 f3 z3 r4 f4 z4 r5 f5 z5
              clear hb
              have r0 := row_of k0
              have f0 := frozen_of k0
              have z0 := blk_lt k0
              have r1 := row_of k1
              have f1 := frozen_of k1
              have z1 := blk_lt k1
              have r2 := row_of k2
              have f2 := frozen_of k2
              have z2 := blk_lt k2
              have r3 := row_of k3
              have f3 := frozen_of k3
              have z3 := blk_lt k3
              have r4 := row_of k4
              have f4 := frozen_of k4
              have z4 := blk_lt k4
              have r5 := row_of k5
              have f5 := frozen_of k5
              have z5 := blk_lt k5
              go_upto_region 5 with fail
              have hz3_0 : w.heap.size < w8.heap.size := blk_lt k0
              have hz3_1 : w.heap.size + 1 < w8.heap.size := blk_lt k1
              have hz3_2 : g2a < w8.heap.size := blk_lt k2
              have hz3_3 : g2b < w8.heap.size := blk_lt k3
              have hz3_4 : g3a < w8.heap.size := blk_lt k4
              have hz3_5 : g3b < w8.heap.size := blk_lt k5
              refine wp_world (fun W => W.heap[w.heap.size]? = some (.cells #[.int .i64 A0, .int .i64 A1] 23 (0, 0)) ∧ W.heap[w.heap.size + 1]? = some (.cells #[.int .i64 B0, .int .i64 B1] 23 (0, 0)) ∧ W.heap[g2a]? = some (.cells #[.int .i64 1, .int .i64 0] 25 (0, 0)) ∧ W.heap[g2b]? = some (.cells #[.bool false, .bool false] 39 (0, 0)) ∧ W.heap[g3a]? = some (.cells #[.int .i64 1, .int .i64 0] 25 (0, 0)) ∧ W.heap[g3b]? = some (.cells #[.bool false, .bool false] 39 (0, 0)) ∧ W.heap[w8.heap.size]? = some (.cells #[.int .i64 1, .int .i64 0] 25 (0, 0)) ∧ W.heap[w8.heap.size + 1]? = some (.cells #[.bool false, .bool false] 39 (0, 0)) ∧ Below w.heap.size w W) ⟨blkUp (blkUp (k0) _) _, blkUp (blkUp (k1) _) _, blkUp (blkUp (k2) _) _, blkUp (blkUp (k3) _) _, blkUp (blkUp (k4) _) _, blkUp (blkUp (k5) _) _, blkUp (blkA _ _ (by first | rfl | simp only [World.size_alloc])) _, blkA _ _ (by first | rfl | simp only [World.size_alloc]), ((hB).alloc (by first | exact hB.size | (simp only [World.size_alloc]; omega)) _).alloc (by first | exact hB.size | (simp only [World.size_alloc]; omega)) _⟩ ?_
              clear r0 f0 z0 r1 f1 z1 r2 f2 z2 r3 f3 z3 r4 f4 z4 r5 f5 z5
              clear hB k0 k1 k2 k3 k4 k5
              rintro w9 ⟨k0, k1, k2, k3, k4, k5, k6, k7, hB⟩
              have r0 := row_of k0
              have f0 := frozen_of k0
              have z0 := blk_lt k0
              have r1 := row_of k1
              have f1 := frozen_of k1
              have z1 := blk_lt k1
              have r2 := row_of k2
              have f2 := frozen_of k2
              have z2 := blk_lt k2
              have r3 := row_of k3
              have f3 := frozen_of k3
              have z3 := blk_lt k3
              have r4 := row_of k4
              have f4 := frozen_of k4
              have z4 := blk_lt k4
              have r5 := row_of k5
              have f5 := frozen_of k5
              have z5 := blk_lt k5
              have r6 := row_of k6
              have f6 := frozen_of k6
              have z6 := blk_lt k6
              have r7 := row_of k7
              have f7 := frozen_of k7
              have z7 := blk_lt k7
              have hu02 := hu0.out
              have hu12 := hu1.out
              go_wp2_with fail
              refine (cc7.out _).mono ?_
              rintro e w10 ⟨rfl, hb⟩
              replace k0 := blk_keep hb k0
              replace k1 := blk_keep hb k1
              replace k2 := blk_keep hb k2
              replace k3 := blk_keep hb k3
              replace k4 := blk_keep hb k4
              replace k5 := blk_keep hb k5
              replace k6 := blk_keep hb k6
              replace k7 := blk_keep hb k7
              replace hB := hB.trans (hb.mono hB.size)
              clear r0 f0 z0 r1 f1 z1 r2 f2 z2 r3 f3 z3 r4 f4 z4 r5 f5 z5 r6 f6 z6 r7 f7 z7
              clear hb
              have r0 := row_of k0
              have f0 := frozen_of k0
              have z0 := blk_lt k0
              have r1 := row_of k1
              have f1 := frozen_of k1
              have z1 := blk_lt k1
              have r2 := row_of k2
              have f2 := frozen_of k2
              have z2 := blk_lt k2
              have r3 := row_of k3
              have f3 := frozen_of k3
              have z3 := blk_lt k3
              have r4 := row_of k4
              have f4 := frozen_of k4
              have z4 := blk_lt k4
              have r5 := row_of k5
              have f5 := frozen_of k5
              have z5 := blk_lt k5
              have r6 := row_of k6
              have f6 := frozen_of k6
              have z6 := blk_lt k6
              have r7 := row_of k7
              have f7 := frozen_of k7
              have z7 := blk_lt k7
              clear hu02 hu12
              go_upto_region 6 with fail
              have hz4_0 : w.heap.size < w10.heap.size := blk_lt k0
              have hz4_1 : w.heap.size + 1 < w10.heap.size := blk_lt k1
              have hz4_2 : g2a < w10.heap.size := blk_lt k2
              have hz4_3 : g2b < w10.heap.size := blk_lt k3
              have hz4_4 : g3a < w10.heap.size := blk_lt k4
              have hz4_5 : g3b < w10.heap.size := blk_lt k5
              have hz4_6 : w8.heap.size < w10.heap.size := blk_lt k6
              have hz4_7 : w8.heap.size + 1 < w10.heap.size := blk_lt k7
              refine wp_world (fun W => W.heap[w.heap.size]? = some (.cells #[.int .i64 A0, .int .i64 A1] 23 (0, 0)) ∧ W.heap[w.heap.size + 1]? = some (.cells #[.int .i64 B0, .int .i64 B1] 23 (0, 0)) ∧ W.heap[g2a]? = some (.cells #[.int .i64 1, .int .i64 0] 25 (0, 0)) ∧ W.heap[g2b]? = some (.cells #[.bool false, .bool false] 39 (0, 0)) ∧ W.heap[g3a]? = some (.cells #[.int .i64 1, .int .i64 0] 25 (0, 0)) ∧ W.heap[g3b]? = some (.cells #[.bool false, .bool false] 39 (0, 0)) ∧ W.heap[w8.heap.size]? = some (.cells #[.int .i64 1, .int .i64 0] 25 (0, 0)) ∧ W.heap[w8.heap.size + 1]? = some (.cells #[.bool false, .bool false] 39 (0, 0)) ∧ W.heap[w10.heap.size]? = some (.cells #[.int .i64 c0, .int .i64 c1] 23 (0, 0)) ∧ Below w.heap.size w W) ⟨blkUp (k0) _, blkUp (k1) _, blkUp (k2) _, blkUp (k3) _, blkUp (k4) _, blkUp (k5) _, blkUp (k6) _, blkUp (k7) _, blkA _ _ (by first | rfl | simp only [World.size_alloc]), (hB).alloc (by first | exact hB.size | (simp only [World.size_alloc]; omega)) _⟩ ?_
              clear r0 f0 z0 r1 f1 z1 r2 f2 z2 r3 f3 z3 r4 f4 z4 r5 f5 z5 r6 f6 z6 r7 f7 z7
              clear hB k0 k1 k2 k3 k4 k5 k6 k7
              rintro w11 ⟨k0, k1, k2, k3, k4, k5, k6, k7, k8, hB⟩
              have r0 := row_of k0
              have f0 := frozen_of k0
              have z0 := blk_lt k0
              have r1 := row_of k1
              have f1 := frozen_of k1
              have z1 := blk_lt k1
              have r2 := row_of k2
              have f2 := frozen_of k2
              have z2 := blk_lt k2
              have r3 := row_of k3
              have f3 := frozen_of k3
              have z3 := blk_lt k3
              have r4 := row_of k4
              have f4 := frozen_of k4
              have z4 := blk_lt k4
              have r5 := row_of k5
              have f5 := frozen_of k5
              have z5 := blk_lt k5
              have r6 := row_of k6
              have f6 := frozen_of k6
              have z6 := blk_lt k6
              have r7 := row_of k7
              have f7 := frozen_of k7
              have z7 := blk_lt k7
              have r8 := row_of k8
              have f8 := frozen_of k8
              have z8 := blk_lt k8
              have hdA2 := hdA.out
              go_upto_region 8 with fail
              refine wp_world (fun W => W.heap[w.heap.size]? = some (.cells #[.int .i64 A0, .int .i64 A1] 23 (0, 0)) ∧ W.heap[w.heap.size + 1]? = some (.cells #[.int .i64 B0, .int .i64 B1] 23 (0, 0)) ∧ W.heap[g2a]? = some (.cells #[.int .i64 1, .int .i64 0] 25 (0, 0)) ∧ W.heap[g2b]? = some (.cells #[.bool false, .bool false] 39 (0, 0)) ∧ W.heap[g3a]? = some (.cells #[.int .i64 1, .int .i64 0] 25 (0, 0)) ∧ W.heap[g3b]? = some (.cells #[.bool false, .bool false] 39 (0, 0)) ∧ W.heap[w8.heap.size]? = some (.cells #[.int .i64 1, .int .i64 0] 25 (0, 0)) ∧ W.heap[w8.heap.size + 1]? = some (.cells #[.bool false, .bool false] 39 (0, 0)) ∧ W.heap[w10.heap.size]? = some (.cells #[.int .i64 1, .int .i64 0] 23 (0, 0)) ∧ Below w.heap.size w W) ⟨setno k0 (by omega), setno k1 (by omega), setno k2 (by omega), setno k3 (by omega), setno k4 (by omega), setno k5 (by omega), setno k6 (by omega), setno k7 (by omega), setab k8, (hB.setCell (p := ⟨w10.heap.size, 0, none⟩) (by show w.heap.size ≤ w10.heap.size; omega) _).setCell (p := ⟨w10.heap.size, 1, none⟩) (by show w.heap.size ≤ w10.heap.size; omega) _⟩ ?_
              clear r0 f0 z0 r1 f1 z1 r2 f2 z2 r3 f3 z3 r4 f4 z4 r5 f5 z5 r6 f6 z6 r7 f7 z7 r8 f8 z8
              clear hB k0 k1 k2 k3 k4 k5 k6 k7 k8
              rintro w12 ⟨k0, k1, k2, k3, k4, k5, k6, k7, k8, hB⟩
              have r0 := row_of k0
              have f0 := frozen_of k0
              have z0 := blk_lt k0
              have r1 := row_of k1
              have f1 := frozen_of k1
              have z1 := blk_lt k1
              have r2 := row_of k2
              have f2 := frozen_of k2
              have z2 := blk_lt k2
              have r3 := row_of k3
              have f3 := frozen_of k3
              have z3 := blk_lt k3
              have r4 := row_of k4
              have f4 := frozen_of k4
              have z4 := blk_lt k4
              have r5 := row_of k5
              have f5 := frozen_of k5
              have z5 := blk_lt k5
              have r6 := row_of k6
              have f6 := frozen_of k6
              have z6 := blk_lt k6
              have r7 := row_of k7
              have f7 := frozen_of k7
              have z7 := blk_lt k7
              have r8 := row_of k8
              have f8 := frozen_of k8
              have z8 := blk_lt k8
              clear r0 f0 z0 r1 f1 z1 r2 f2 z2 r3 f3 z3 r4 f4 z4 r5 f5 z5 r6 f6 z6 r7 f7 z7 r8 f8 z8
              have mkS : ∀ W, Below w12.heap.size w12 W → W.cell? ⟨w8.heap.size, 0, none⟩ = some (.int .i64 1) ∧ W.cell? ⟨w8.heap.size, 1, none⟩ = some (.int .i64 0) ∧ W.cell? ⟨w10.heap.size, 0, none⟩ = some (.int .i64 1) ∧ W.cell? ⟨w10.heap.size, 1, none⟩ = some (.int .i64 0) ∧ W.cell? ⟨w8.heap.size + 1, 0, none⟩ = some (.bool false) ∧ W.cell? ⟨w8.heap.size + 1, 1, none⟩ = some (.bool false) ∧ W.cell? ⟨g2b, 0, none⟩ = some (.bool false) ∧ W.cell? ⟨g2b, 1, none⟩ = some (.bool false) ∧ W.cell? ⟨g3b, 0, none⟩ = some (.bool false) ∧ W.cell? ⟨g3b, 1, none⟩ = some (.bool false) := fun W h => ⟨row_of (blk_keep h k6) 0, row_of (blk_keep h k6) 1, row_of (blk_keep h k8) 0, row_of (blk_keep h k8) 1, row_of (blk_keep h k7) 0, row_of (blk_keep h k7) 1, row_of (blk_keep h k3) 0, row_of (blk_keep h k3) 1, row_of (blk_keep h k5) 0, row_of (blk_keep h k5) 1⟩
              have hBn := Below.refl w12.heap.size w12
              have sv0 := k0
              have sv1 := k1
              have sv2 := k2
              have sv3 := k3
              have sv4 := k4
              have sv5 := k5
              have sv6 := k6
              have sv7 := k7
              have sv8 := k8
              clear k0 k1 k2 k3 k4 k5 k6 k7 k8
              go_region_held3 (fun W => W.cell? ⟨w8.heap.size, 0, none⟩ = some (.int .i64 1) ∧ W.cell? ⟨w8.heap.size, 1, none⟩ = some (.int .i64 0) ∧ W.cell? ⟨w10.heap.size, 0, none⟩ = some (.int .i64 1) ∧ W.cell? ⟨w10.heap.size, 1, none⟩ = some (.int .i64 0) ∧ W.cell? ⟨w8.heap.size + 1, 0, none⟩ = some (.bool false) ∧ W.cell? ⟨w8.heap.size + 1, 1, none⟩ = some (.bool false) ∧ W.cell? ⟨g2b, 0, none⟩ = some (.bool false) ∧ W.cell? ⟨g2b, 1, none⟩ = some (.bool false) ∧ W.cell? ⟨g3b, 0, none⟩ = some (.bool false) ∧ W.cell? ⟨g3b, 1, none⟩ = some (.bool false))
                  (first | (with_reducible exact mkS _ hBn) | (with_reducible exact mkS _ (Below.drew hBn)))
                  (first
                    | (go_at_call 17; refine (does_any _).mono ?_; rintro e wn ⟨rfl, hbS⟩; (try (with_reducible replace hbS := below_undrew hbS)); replace hBn := below_tr hBn hbS)
                    | (go_at_call 22; refine (from_any _ _ _).mono ?_; rintro e wn ⟨rfl, hbS⟩; (try (with_reducible replace hbS := below_undrew hbS)); replace hBn := below_tr hBn hbS))
              go_upto_region 10 with fail
              refine wp_world (fun W => W.heap[w.heap.size]? = some (.cells #[.int .i64 A0, .int .i64 A1] 23 (0, 0)) ∧ W.heap[w.heap.size + 1]? = some (.cells #[.int .i64 B0, .int .i64 B1] 23 (0, 0)) ∧ W.heap[g2a]? = some (.cells #[.int .i64 1, .int .i64 0] 25 (0, 0)) ∧ W.heap[g2b]? = some (.cells #[.bool false, .bool false] 39 (0, 0)) ∧ W.heap[g3a]? = some (.cells #[.int .i64 1, .int .i64 0] 25 (0, 0)) ∧ W.heap[g3b]? = some (.cells #[.bool false, .bool false] 39 (0, 0)) ∧ W.heap[w8.heap.size]? = some (.cells #[.int .i64 1, .int .i64 0] 25 (0, 0)) ∧ W.heap[w8.heap.size + 1]? = some (.cells #[.bool false, .bool false] 39 (0, 0)) ∧ W.heap[w10.heap.size]? = some (.cells #[.int .i64 1, .int .i64 0] 23 (0, 0)) ∧ Below w.heap.size w W) (by first | exact ⟨blk_keep hBn sv0, blk_keep hBn sv1, blk_keep hBn sv2, blk_keep hBn sv3, blk_keep hBn sv4, blk_keep hBn sv5, blk_keep hBn sv6, blk_keep hBn sv7, blk_keep hBn sv8, hB.trans (hBn.mono hB.size)⟩ | exact ⟨blk_keep (Below.drew hBn) sv0, blk_keep (Below.drew hBn) sv1, blk_keep (Below.drew hBn) sv2, blk_keep (Below.drew hBn) sv3, blk_keep (Below.drew hBn) sv4, blk_keep (Below.drew hBn) sv5, blk_keep (Below.drew hBn) sv6, blk_keep (Below.drew hBn) sv7, blk_keep (Below.drew hBn) sv8, hB.trans ((Below.drew hBn).mono hB.size)⟩) ?_
              clear hB hBn mkS sv0 sv1 sv2 sv3 sv4 sv5 sv6 sv7 sv8
              rintro w13 ⟨k0, k1, k2, k3, k4, k5, k6, k7, k8, hB⟩
              have r0 := row_of k0
              have f0 := frozen_of k0
              have z0 := blk_lt k0
              have r1 := row_of k1
              have f1 := frozen_of k1
              have z1 := blk_lt k1
              have r2 := row_of k2
              have f2 := frozen_of k2
              have z2 := blk_lt k2
              have r3 := row_of k3
              have f3 := frozen_of k3
              have z3 := blk_lt k3
              have r4 := row_of k4
              have f4 := frozen_of k4
              have z4 := blk_lt k4
              have r5 := row_of k5
              have f5 := frozen_of k5
              have z5 := blk_lt k5
              have r6 := row_of k6
              have f6 := frozen_of k6
              have z6 := blk_lt k6
              have r7 := row_of k7
              have f7 := frozen_of k7
              have z7 := blk_lt k7
              have r8 := row_of k8
              have f8 := frozen_of k8
              have z8 := blk_lt k8
              go_wp2_with fail
              refine (empty_any _ _ _).mono ?_
              rintro e w14 ⟨rfl, hb⟩
              replace k0 := blk_keep hb k0
              replace k1 := blk_keep hb k1
              replace k2 := blk_keep hb k2
              replace k3 := blk_keep hb k3
              replace k4 := blk_keep hb k4
              replace k5 := blk_keep hb k5
              replace k6 := blk_keep hb k6
              replace k7 := blk_keep hb k7
              replace k8 := blk_keep hb k8
              replace hB := hB.trans (hb.mono hB.size)
              clear r0 f0 z0 r1 f1 z1 r2 f2 z2 r3 f3 z3 r4 f4 z4 r5 f5 z5 r6 f6 z6 r7 f7 z7 r8 f8 z8
              clear hb
              have r0 := row_of k0
              have f0 := frozen_of k0
              have z0 := blk_lt k0
              have r1 := row_of k1
              have f1 := frozen_of k1
              have z1 := blk_lt k1
              have r2 := row_of k2
              have f2 := frozen_of k2
              have z2 := blk_lt k2
              have r3 := row_of k3
              have f3 := frozen_of k3
              have z3 := blk_lt k3
              have r4 := row_of k4
              have f4 := frozen_of k4
              have z4 := blk_lt k4
              have r5 := row_of k5
              have f5 := frozen_of k5
              have z5 := blk_lt k5
              have r6 := row_of k6
              have f6 := frozen_of k6
              have z6 := blk_lt k6
              have r7 := row_of k7
              have f7 := frozen_of k7
              have z7 := blk_lt k7
              have r8 := row_of k8
              have f8 := frozen_of k8
              have z8 := blk_lt k8
              go_wp2_with fail
              refine (empty_any _ _ _).mono ?_
              rintro e w15 ⟨rfl, hb⟩
              replace k0 := blk_keep hb k0
              replace k1 := blk_keep hb k1
              replace k2 := blk_keep hb k2
              replace k3 := blk_keep hb k3
              replace k4 := blk_keep hb k4
              replace k5 := blk_keep hb k5
              replace k6 := blk_keep hb k6
              replace k7 := blk_keep hb k7
              replace k8 := blk_keep hb k8
              replace hB := hB.trans (hb.mono hB.size)
              clear r0 f0 z0 r1 f1 z1 r2 f2 z2 r3 f3 z3 r4 f4 z4 r5 f5 z5 r6 f6 z6 r7 f7 z7 r8 f8 z8
              clear hb
              have r0 := row_of k0
              have f0 := frozen_of k0
              have z0 := blk_lt k0
              have r1 := row_of k1
              have f1 := frozen_of k1
              have z1 := blk_lt k1
              have r2 := row_of k2
              have f2 := frozen_of k2
              have z2 := blk_lt k2
              have r3 := row_of k3
              have f3 := frozen_of k3
              have z3 := blk_lt k3
              have r4 := row_of k4
              have f4 := frozen_of k4
              have z4 := blk_lt k4
              have r5 := row_of k5
              have f5 := frozen_of k5
              have z5 := blk_lt k5
              have r6 := row_of k6
              have f6 := frozen_of k6
              have z6 := blk_lt k6
              have r7 := row_of k7
              have f7 := frozen_of k7
              have z7 := blk_lt k7
              have r8 := row_of k8
              have f8 := frozen_of k8
              have z8 := blk_lt k8
              go_wp2_with fail
              go_ret
              exact ⟨by simp, hB⟩
end Go.Proofs.Ytibhoekccjcoaaa
