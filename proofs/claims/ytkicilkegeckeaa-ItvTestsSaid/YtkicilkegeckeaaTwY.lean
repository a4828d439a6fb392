/-
  ItvTests' walk.
-/
import Derived.Test.YtkicilkegeckeaaEp
import Derived.Test.YtkicilkegeckeaaIj
import Derived.Test.YtkicilkegeckeaaIp
namespace Go.Proofs.Ytkicilkegeckeaa
open Go.RowKit
set_option maxRecDepth 100000 in
set_option maxHeartbeats 8000000 in
theorem tests_yes (a0 a1 b0 b1 A0 A1 B0 B1 op K T x0 x1 y0 y1 : Int) (w : World) (ea0 : wrap32 a0 = A0) (ea1 : wrap32 a1 = A1) (eb0 : wrap32 b0 = B0) (eb1 : wrap32 b1 = B1)
    (hk : wrap64 ((IntKind.u64.wrap op).tmod 8) = K)
    (cc : ∀ W, Calls Try.prog 13 #[.int .i64 K, .agg #[.int .i64 A0, .int .i64 A1], .agg #[.int .i64 B0, .int .i64 B1]] W fun e w' => e = .returned (.tuple #[.agg #[.int .i64 x0, .int .i64 x1], .agg #[.int .i64 y0, .int .i64 y1]]) ∧ Below W.heap.size W w')
    (hno : K ≠ 0 ∧ K ≠ 7 ∧ A0 ≤ A1 ∧ B0 ≤ B1)
    (ce1 : ∀ W, Calls Try.prog 17 #[.int .i64 K, .agg #[.int .i64 A0, .int .i64 A1], .agg #[.int .i64 B0, .int .i64 B1], .agg #[.int .i64 x0, .int .i64 x1]] W fun e w' => e = .returned (.bool true) ∧ Below W.heap.size W w')
    (ce2 : ∀ W, Calls Try.prog 17 #[.int .i64 T, .agg #[.int .i64 B0, .int .i64 B1], .agg #[.int .i64 A0, .int .i64 A1], .agg #[.int .i64 y0, .int .i64 y1]] W fun e w' => e = .returned (.bool true) ∧ Below W.heap.size W w')
    (ct : ∀ W, Calls Try.prog 19 #[.int .i64 K] W fun e w' => e = .returned (.int .i64 T) ∧ Below W.heap.size W w') :
    Calls Try.prog 3 #[.agg #[.int .i64 a0, .int .i64 a1], .agg #[.int .i64 b0, .int .i64 b1], .int .i64 op] w fun e w' => e = .returned (.bool true) ∧ Below w.heap.size w w' := by
  replace ea0 := Lib.hid ea0
  replace ea1 := Lib.hid ea1
  replace eb0 := Lib.hid eb0
  replace eb1 := Lib.hid eb1
  replace hk := Lib.hid hk
  replace cc := Lib.hid cc
  replace hno := Lib.hid hno
  replace ce1 := Lib.hid ce1
  replace ce2 := Lib.hid ce2
  replace ct := Lib.hid ct
  go_enter Try.func3, Try.ntmps3
  go_upto_region 1 with fail
  refine wp_world (fun W => W.heap[w.heap.size]? = some (.cells #[.int .i64 a0, .int .i64 a1] 23 (0, 0)) ∧ W.heap[w.heap.size + 1]? = some (.cells #[.int .i64 b0, .int .i64 b1] 23 (0, 0)) ∧ Below w.heap.size w W) ⟨blkUp (blkA _ _ (by first | rfl | simp only [World.size_alloc])) _, blkA _ _ (by first | rfl | simp only [World.size_alloc]), ((Below.refl _ _).alloc (by first | exact Nat.le_refl _ | (simp only [World.size_alloc]; omega)) _).alloc (by first | exact Nat.le_refl _ | (simp only [World.size_alloc]; omega)) _⟩ ?_
  rintro w1 ⟨k0, k1, hB⟩
  have r0 := row_of k0
  have f0 := frozen_of k0
  have z0 := blk_lt k0
  have r1 := row_of k1
  have f1 := frozen_of k1
  have z1 := blk_lt k1
  go_cut [] from 9 to 72 (fun wx => OldCut w w.heap.size (w.heap.size + 1) 23 A0 A1 B0 B1 wx)
  case first =>
    as_aux_lemma =>
      have ka0 := ea0.out
      have ka1 := ea1.out
      have kb0 := eb0.out
      have kb1 := eb1.out
      have n0 := hB
      go_region_with (first | (go_at_call 12; refine (bend_any _ _ _).mono ?_; rintro e wn ⟨rfl, hbS⟩; (try (with_reducible replace hbS := below_undrew hbS)); replace k0 := blk_keep hbS k0; replace k1 := blk_keep hbS k1; replace hB := hB.trans (hbS.mono hB.size); have r0 := row_of k0; have f0 := frozen_of k0; have z0 := blk_lt k0; have r1 := row_of k1; have f1 := frozen_of k1; have z1 := blk_lt k1))
      all_goals
        go_wp2_with fail
        go_meet
        exact ⟨setno (setab k0) (by omega), setab (setno k1 (by omega)), (((hB.setCell (p := ⟨w.heap.size, 0, none⟩) (Nat.le_refl _) _).setCell (p := ⟨w.heap.size, 1, none⟩) (Nat.le_refl _) _).setCell (p := ⟨w.heap.size + 1, 0, none⟩) (Nat.le_succ _) _).setCell (p := ⟨w.heap.size + 1, 1, none⟩) (Nat.le_succ _) _⟩
  case rest =>
    as_aux_lemma =>
      clear r0 f0 z0 r1 f1 z1 k0 k1 hB
      obtain ⟨k0, k1, hB⟩ := hcut
      go_upto_region 2 with fail
      refine wp_world (fun W => W.heap[w.heap.size]? = some (.cells #[.int .i64 A0, .int .i64 A1] 23 (0, 0)) ∧ W.heap[w.heap.size + 1]? = some (.cells #[.int .i64 B0, .int .i64 B1] 23 (0, 0)) ∧ Below w.heap.size w W) ⟨k0, k1, hB⟩ ?_
      clear hB k0 k1
      rintro w2 ⟨k0, k1, hB⟩
      go_cut [7] from 14 to 72 (fun e7 wx => e7 = .int .i64 K ∧ w2 = wx)
      case first =>
        go_wp2_with fail
        go_meet
        exact ⟨by rw [hk.out], rfl⟩
      case rest =>
        as_aux_lemma =>
          obtain ⟨rfl, rfl⟩ := hcut
          clear hk
          go_upto_region 3 with fail
          go_upto_region 3 with fail
          have mkS := four_of k0 k1
          go_cut [8, 9] from 18 to 72 (fun e5 e6 wx => TwoCut w2 26 26 (.int .i64 x0) (.int .i64 x1) (.int .i64 y0) (.int .i64 y1) e5 e6 wx)
          case first =>
            as_aux_lemma =>
              have hBn := Below.refl w2.heap.size w2
              have zz := hB
              have zb0 := blk_lt k0
              have zb1 := blk_lt k1
              clear hB k0 k1
              go_region_held3 (fun W => W.cell? ⟨w.heap.size, 0, none⟩ = some (.int .i64 A0) ∧ W.cell? ⟨w.heap.size, 1, none⟩ = some (.int .i64 A1) ∧ W.cell? ⟨w.heap.size + 1, 0, none⟩ = some (.int .i64 B0) ∧ W.cell? ⟨w.heap.size + 1, 1, none⟩ = some (.int .i64 B1))
                  (first | (with_reducible exact mkS _ (hBn)) | (with_reducible exact mkS _ (below_al hBn _)) | (with_reducible exact mkS _ (below_al (below_al hBn _) _)) | (with_reducible exact mkS _ (below_put hBn zx)) | (with_reducible exact mkS _ (below_al (below_put hBn zx) _)) | (with_reducible exact mkS _ (below_put hBn zy)) | (with_reducible exact mkS _ (below_al (below_put hBn zy) _)) | (with_reducible exact mkS _ (below_put (below_put hBn zx) zy)) | (with_reducible exact mkS _ (below_put (below_put hBn zy) zx)) | (with_reducible exact mkS _ (Below.drew (hBn))) | (with_reducible exact mkS _ (Below.drew (below_al hBn _))) | (with_reducible exact mkS _ (Below.drew (below_al (below_al hBn _) _))))
                  (first
                    | (go_at_call 14; refine (to_any _ _ _).mono ?_; rintro e wn ⟨rfl, hbS⟩; (try (with_reducible replace hbS := below_undrew hbS)); (with_reducible first
                      | (have kx := blkT2a hbS; have ky := blkT2b hbS; have zx := hBn.size; have zy := Nat.le_succ_of_le hBn.size; replace hBn := below_tr (below_al (below_al hBn _) _) hbS)
                      | (have ky := blkT1 hbS; have zy := hBn.size; have nxy := Nat.ne_of_lt (blk_lt kx); replace kx := blk_keep hbS (blkUp kx _); replace hBn := below_tr (below_al hBn _) hbS)
                      | (have kx := blkT1 hbS; have zx := hBn.size; replace hBn := below_tr (below_al hBn _) hbS)
                      | (replace kx := blk_keep hbS kx; replace ky := blk_keep hbS ky; replace hBn := below_tr hBn hbS)
                      | (replace kx := blk_keep hbS kx; replace hBn := below_tr hBn hbS)
                      | (replace hBn := below_tr hBn hbS)); (try (have rx := row_of kx; have fx := frozen_of kx; have lx := blk_lt kx)); (try (have ry := row_of ky; have fy := frozen_of ky; have ly := blk_lt ky)))
                    | (go_at_call 13; refine (cc.out _).mono ?_; rintro e wn ⟨rfl, hbS⟩; (try (with_reducible replace hbS := below_undrew hbS)); (with_reducible first
                      | (have kx := blkT2a hbS; have ky := blkT2b hbS; have zx := hBn.size; have zy := Nat.le_succ_of_le hBn.size; replace hBn := below_tr (below_al (below_al hBn _) _) hbS)
                      | (have ky := blkT1 hbS; have zy := hBn.size; have nxy := Nat.ne_of_lt (blk_lt kx); replace kx := blk_keep hbS (blkUp kx _); replace hBn := below_tr (below_al hBn _) hbS)
                      | (have kx := blkT1 hbS; have zx := hBn.size; replace hBn := below_tr (below_al hBn _) hbS)
                      | (replace kx := blk_keep hbS kx; replace ky := blk_keep hbS ky; replace hBn := below_tr hBn hbS)
                      | (replace kx := blk_keep hbS kx; replace hBn := below_tr hBn hbS)
                      | (replace hBn := below_tr hBn hbS)); (try (have rx := row_of kx; have fx := frozen_of kx; have lx := blk_lt kx)); (try (have ry := row_of ky; have fy := frozen_of ky; have ly := blk_lt ky))))
              all_goals
                go_wp2_with fail
                go_meet
                refine ⟨_, _, rfl, rfl, ?_, ?_, ?_, ?_, ?_, ?_⟩
                · first | exact nxy | exact nxy.symm | omega
                · first | exact zx | exact zy | exact hBn.size | exact Nat.le_succ_of_le hBn.size | omega
                · first | exact zy | exact zx | exact hBn.size | exact Nat.le_succ_of_le hBn.size | omega
                · first | (with_reducible exact blkP _ _ _ _ _) | (with_reducible exact blkA _ _ rfl) | (with_reducible exact blkUp (blkA _ _ rfl) _) | (with_reducible exact blkA _ _ (by simp only [World.size_alloc])) | (with_reducible exact setab kx) | (with_reducible exact setno (setab kx) (by omega)) | (with_reducible exact setab (setno kx (by omega))) | (with_reducible exact blkUp (setab kx) _) | (with_reducible exact blkUp (setno (setab kx) (by omega)) _) | (with_reducible exact setab ky) | (with_reducible exact setno (setab ky) (by omega)) | (with_reducible exact setab (setno ky (by omega))) | (with_reducible exact blkUp (setab ky) _) | (with_reducible exact blkUp (setno (setab ky) (by omega)) _)
                · first | (with_reducible exact blkP _ _ _ _ _) | (with_reducible exact blkA _ _ rfl) | (with_reducible exact blkUp (blkA _ _ rfl) _) | (with_reducible exact blkA _ _ (by simp only [World.size_alloc])) | (with_reducible exact setab kx) | (with_reducible exact setno (setab kx) (by omega)) | (with_reducible exact setab (setno kx (by omega))) | (with_reducible exact blkUp (setab kx) _) | (with_reducible exact blkUp (setno (setab kx) (by omega)) _) | (with_reducible exact setab ky) | (with_reducible exact setno (setab ky) (by omega)) | (with_reducible exact setab (setno ky (by omega))) | (with_reducible exact blkUp (setab ky) _) | (with_reducible exact blkUp (setno (setab ky) (by omega)) _)
                · first | (with_reducible exact hBn) | (with_reducible exact below_al hBn _) | (with_reducible exact below_al (below_al hBn _) _) | (with_reducible exact below_put hBn zx) | (with_reducible exact below_al (below_put hBn zx) _) | (with_reducible exact below_put hBn zy) | (with_reducible exact below_al (below_put hBn zy) _) | (with_reducible exact below_put (below_put hBn zx) zy) | (with_reducible exact below_put (below_put hBn zy) zx) | (with_reducible exact Below.drew (hBn)) | (with_reducible exact Below.drew (below_al hBn _)) | (with_reducible exact Below.drew (below_al (below_al hBn _) _))
          case rest =>
            as_aux_lemma =>
              obtain ⟨g3a, g3b, rfl, rfl, hne3, hla3, hlb3, kA, kB, hb⟩ := hcut
              have hv3_0 := blk_lt k0
              have hv3_1 := blk_lt k1
              replace k0 := blk_keep hb k0
              replace k1 := blk_keep hb k1
              have k2 := kA
              have k3 := kB
              replace hB := hB.trans (hb.mono hB.size)
              clear hb kA kB mkS
              have r0 := row_of k0
              have f0 := frozen_of k0
              have z0 := blk_lt k0
              have r1 := row_of k1
              have f1 := frozen_of k1
              have z1 := blk_lt k1
              have r2 := row_of k2
              have f2 := frozen_of k2
              have z2 := blk_lt k2
              have r3 := row_of k3
              have f3 := frozen_of k3
              have z3 := blk_lt k3
              go_wp2_with fail
              refine (does_any _).mono ?_
              rintro e w4 ⟨rfl, hb⟩
              replace k0 := blk_keep hb k0
              replace k1 := blk_keep hb k1
              replace k2 := blk_keep hb k2
              replace k3 := blk_keep hb k3
              replace hB := hB.trans (hb.mono hB.size)
              clear r0 f0 z0 r1 f1 z1 r2 f2 z2 r3 f3 z3
              clear hb
              have r0 := row_of k0
              have f0 := frozen_of k0
              have z0 := blk_lt k0
              have r1 := row_of k1
              have f1 := frozen_of k1
              have z1 := blk_lt k1
              have r2 := row_of k2
              have f2 := frozen_of k2
              have z2 := blk_lt k2
              have r3 := row_of k3
              have f3 := frozen_of k3
              have z3 := blk_lt k3
              obtain ⟨n1, n2, n3, n4⟩ := hno.out
              have t1 : (K == 0) = false := by rw [beq_eq_false_iff_ne]; exact n1
              have t2 : (K == 7) = false := by rw [beq_eq_false_iff_ne]; exact n2
              have t3 : decide (A1 < A0) = false := decide_eq_false (by omega)
              have t4 : decide (B1 < B0) = false := decide_eq_false (by omega)
              clear n1 n2 n3 n4
              go_upto_region 8 with fail
              clear t1 t2 t3 t4
              clear r0 f0 z0 r1 f1 z1 r2 f2 z2 r3 f3 z3
              have mkS : ∀ W, Below w4.heap.size w4 W → W.cell? ⟨w.heap.size, 0, none⟩ = some (.int .i64 A0) ∧ W.cell? ⟨w.heap.size, 1, none⟩ = some (.int .i64 A1) ∧ W.cell? ⟨w.heap.size + 1, 0, none⟩ = some (.int .i64 B0) ∧ W.cell? ⟨w.heap.size + 1, 1, none⟩ = some (.int .i64 B1) ∧ W.cell? ⟨g3a, 0, none⟩ = some (.int .i64 x0) ∧ W.cell? ⟨g3a, 1, none⟩ = some (.int .i64 x1) ∧ W.cell? ⟨g3b, 0, none⟩ = some (.int .i64 y0) ∧ W.cell? ⟨g3b, 1, none⟩ = some (.int .i64 y1) := fun W h => ⟨row_of (blk_keep h k0) 0, row_of (blk_keep h k0) 1, row_of (blk_keep h k1) 0, row_of (blk_keep h k1) 1, row_of (blk_keep h k2) 0, row_of (blk_keep h k2) 1, row_of (blk_keep h k3) 0, row_of (blk_keep h k3) 1⟩
              have hBn := Below.refl w4.heap.size w4
              have sv0 := k0
              have sv1 := k1
              have sv2 := k2
              have sv3 := k3
              clear k0 k1 k2 k3
              go_region_held3 (fun W => W.cell? ⟨w.heap.size, 0, none⟩ = some (.int .i64 A0) ∧ W.cell? ⟨w.heap.size, 1, none⟩ = some (.int .i64 A1) ∧ W.cell? ⟨w.heap.size + 1, 0, none⟩ = some (.int .i64 B0) ∧ W.cell? ⟨w.heap.size + 1, 1, none⟩ = some (.int .i64 B1) ∧ W.cell? ⟨g3a, 0, none⟩ = some (.int .i64 x0) ∧ W.cell? ⟨g3a, 1, none⟩ = some (.int .i64 x1) ∧ W.cell? ⟨g3b, 0, none⟩ = some (.int .i64 y0) ∧ W.cell? ⟨g3b, 1, none⟩ = some (.int .i64 y1))
                  (first | (with_reducible exact mkS _ hBn) | (with_reducible exact mkS _ (Below.drew hBn)))
                  (first
                    | (go_at_call 18; (with_reducible refine (from_any _ _ _).mono ?_); rintro e wn ⟨rfl, hbS⟩; (try (with_reducible replace hbS := below_undrew hbS)); replace hBn := below_tr hBn hbS)
                    | (go_at_call 17; (with_reducible refine (ce1.out _).mono ?_); rintro e wn ⟨rfl, hbS⟩; (try (with_reducible replace hbS := below_undrew hbS)); replace hBn := below_tr hBn hbS)
                    | (go_at_call 17; (with_reducible refine (ce2.out _).mono ?_); rintro e wn ⟨rfl, hbS⟩; (try (with_reducible replace hbS := below_undrew hbS)); replace hBn := below_tr hBn hbS)
                    | (go_at_call 19; (with_reducible refine (ct.out _).mono ?_); rintro e wn ⟨rfl, hbS⟩; (try (with_reducible replace hbS := below_undrew hbS)); replace hBn := below_tr hBn hbS))
              all_goals
                go_wp2_with fail
                go_ret
                exact ⟨by simp, hB.trans (hBn.mono hB.size)⟩
end Go.Proofs.Ytkicilkegeckeaa
