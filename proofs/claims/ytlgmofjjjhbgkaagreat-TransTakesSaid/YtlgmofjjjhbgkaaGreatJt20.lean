/-
  What divided makes of two: the divisors below nought, and those above it.
-/
import Derived.RegionTactic
import Derived.Test.YtlgmofjjjhbgkaaGreatJt19
import Derived.Test.YtlgmofjjjhbgkaaGreatJt17
namespace Go.Proofs.YtlgmofjjjhbgkaaGreat
open Go.RowKit
def DvRel (w : World) (g6 g7 gs : Nat) (a0 a1 : Int) (pl ph al ah : Nat → Int) (ov : Nat → Bool) (dz : Bool) (vi : Value) (wr : World) : Prop :=
  ∃ k : Nat, k ≤ 2 ∧ vi = .int .i64 k ∧ wr.heap[w.heap.size]? = some (.cells #[.int .i64 a0, .int .i64 a1] 53 (0, 0)) ∧ wr.heap[w.heap.size + 2]? = some (.cells #[.int .i64 0, .int .i64 0] 53 (0, 0)) ∧ wr.heap[w.heap.size + 3]? = some (.cells #[.bool false, .bool false] 128 (0, 0)) ∧ wr.heap[g6]? = some (.cells #[.int .i64 (al k), .int .i64 (ah k)] 53 (0, 0)) ∧ wr.heap[g7]? = some (.cells #[.bool (ov k), .bool dz] 128 (0, 0)) ∧ wr.heap[gs]? = some (.cells #[.int .i64 (pl 0), .int .i64 (ph 0), .int .i64 (pl 1), .int .i64 (ph 1)] 53 (0, 0)) ∧ Below w.heap.size w wr
set_option maxRecDepth 100000 in
set_option maxHeartbeats 8000000 in
theorem div_gen (a0 a1 b0 b1 : Int) (pl ph al ah e0 e1 : Nat → Int) (ov o : Nat → Bool) (w : World)
    (cm0 : ∀ W, Calls Tryz.prog 85 #[.agg #[.int .i64 b0, .int .i64 b1], .agg #[.int .i64 (-2147483648), .int .i64 (-1)]] W fun e w' => e = .returned (.agg #[.int .i64 (pl 0), .int .i64 (ph 0)]) ∧ Below W.heap.size W w')
    (cm1 : ∀ W, Calls Tryz.prog 85 #[.agg #[.int .i64 b0, .int .i64 b1], .agg #[.int .i64 1, .int .i64 2147483647]] W fun e w' => e = .returned (.agg #[.int .i64 (pl 1), .int .i64 (ph 1)]) ∧ Below W.heap.size W w')
    (hs : al 0 = 1 ∧ ah 0 = 0 ∧ ov 0 = false)
    (hno : ∀ k, k < 2 → ph k < pl k → al (k + 1) = al k ∧ ah (k + 1) = ah k ∧ ov (k + 1) = ov k)
    (ce : ∀ k, k < 2 → pl k ≤ ph k → ∀ W, Calls Tryz.prog 138 #[.agg #[.int .i64 a0, .int .i64 a1], .agg #[.int .i64 (pl k), .int .i64 (ph k)], .func (.func 147) #[] #[]] W fun e w' => e = .returned (.tuple #[.agg #[.int .i64 (e0 k), .int .i64 (e1 k)], .agg #[.bool (o k), .bool false]]) ∧ Below W.heap.size W w')
    (cj : ∀ k, k < 2 → pl k ≤ ph k → ∀ W, Calls Tryz.prog 51 #[.agg #[.int .i64 (al k), .int .i64 (ah k)], .agg #[.int .i64 (e0 k), .int .i64 (e1 k)]] W fun e w' => e = .returned (.agg #[.int .i64 (al (k + 1)), .int .i64 (ah (k + 1))]) ∧ Below W.heap.size W w')
    (hov : ∀ k, k < 2 → pl k ≤ ph k → ov (k + 1) = (ov k || o k)) :
    Calls Tryz.prog 142 #[.agg #[.int .i64 a0, .int .i64 a1], .agg #[.int .i64 b0, .int .i64 b1]] w fun e w' => e = .returned (.tuple #[.agg #[.int .i64 (al 2), .int .i64 (ah 2)], .agg #[.bool (ov 2), .bool (decide (b0 ≤ 0 ∧ 0 ≤ b1))]]) ∧ Below w.heap.size w w' := by
  replace cm0 := Lib.hid cm0
  replace cm1 := Lib.hid cm1
  replace hs := Lib.hid hs
  replace hno := Lib.hid hno
  replace ce := Lib.hid ce
  replace cj := Lib.hid cj
  replace hov := Lib.hid hov
  have c0 := Lib.hid (fun W => of_in (-2147483648) (-1) W (by decide) (by decide) (by decide))
  have c1 := Lib.hid (fun W => of_in 1 2147483647 W (by decide) (by decide) (by decide))
  generalize hdz : decide (b0 ≤ 0 ∧ 0 ≤ b1) = dz
  have hdz2 := Lib.hid hdz
  clear hdz
  go_enter Tryz.func142, Tryz.ntmps142
  go_upto_region 1 with fail
  refine wp_world (fun W => W.heap[w.heap.size]? = some (.cells #[.int .i64 a0, .int .i64 a1] 53 (0, 0)) ∧ W.heap[w.heap.size + 1]? = some (.cells #[.int .i64 b0, .int .i64 b1] 53 (0, 0)) ∧ W.heap[w.heap.size + 2]? = some (.cells #[.int .i64 0, .int .i64 0] 53 (0, 0)) ∧ W.heap[w.heap.size + 3]? = some (.cells #[.bool false, .bool false] 128 (0, 0)) ∧ Below w.heap.size w W) ⟨blkUp (blkUp (blkUp (blkA _ _ (by first | rfl | simp only [World.size_alloc])) _) _) _, blkUp (blkUp (blkA _ _ (by first | rfl | simp only [World.size_alloc])) _) _, blkUp (blkA _ _ (by first | rfl | simp only [World.size_alloc])) _, blkA _ _ (by first | rfl | simp only [World.size_alloc]), ((((Below.refl _ _).alloc (by first | exact Nat.le_refl _ | (simp only [World.size_alloc]; omega)) _).alloc (by first | exact Nat.le_refl _ | (simp only [World.size_alloc]; omega)) _).alloc (by first | exact Nat.le_refl _ | (simp only [World.size_alloc]; omega)) _).alloc (by first | exact Nat.le_refl _ | (simp only [World.size_alloc]; omega)) _⟩ ?_
  rintro w1 ⟨k0, k1, k2, k3, hB⟩
  have r0 := row_of k0
  have f0 := frozen_of k0
  have z0 := blk_lt k0
  have r1 := row_of k1
  have f1 := frozen_of k1
  have z1 := blk_lt k1
  have r2 := row_of k2
  have f2 := frozen_of k2
  have z2 := blk_lt k2
  have r3 := row_of k3
  have f3 := frozen_of k3
  have z3 := blk_lt k3
  clear r0 f0 z0 r1 f1 z1 r2 f2 z2 r3 f3 z3
  go_upto_region 1 with fail
  have mkS := four_of k0 k1
  go_cut [6, 7] from 12 to 49 (fun e5 e6 wx => TwoCut w1 53 128 (.int .i64 1) (.int .i64 0) (.bool false) (.bool dz) e5 e6 wx)
  case first =>
    as_aux_lemma =>
      have hBn := Below.refl w1.heap.size w1
      have zz := hB
      have zb0 := blk_lt k0
      have zb1 := blk_lt k1
      have zb2 := blk_lt k2
      have zb3 := blk_lt k3
      clear hB k0 k1 k2 k3
      have hdz3 := hdz2.out
      go_region_held3 (fun W => W.cell? ⟨w.heap.size, 0, none⟩ = some (.int .i64 a0) ∧ W.cell? ⟨w.heap.size, 1, none⟩ = some (.int .i64 a1) ∧ W.cell? ⟨w.heap.size + 1, 0, none⟩ = some (.int .i64 b0) ∧ W.cell? ⟨w.heap.size + 1, 1, none⟩ = some (.int .i64 b1))
          (first | (with_reducible exact mkS _ (hBn)) | (with_reducible exact mkS _ (below_al hBn _)) | (with_reducible exact mkS _ (below_al (below_al hBn _) _)) | (with_reducible exact mkS _ (below_put hBn zx)) | (with_reducible exact mkS _ (below_al (below_put hBn zx) _)) | (with_reducible exact mkS _ (below_put hBn zy)) | (with_reducible exact mkS _ (below_al (below_put hBn zy) _)) | (with_reducible exact mkS _ (below_put (below_put hBn zx) zy)) | (with_reducible exact mkS _ (below_put (below_put hBn zy) zx)) | (with_reducible exact mkS _ (Below.drew (hBn))) | (with_reducible exact mkS _ (Below.drew (below_al hBn _))) | (with_reducible exact mkS _ (Below.drew (below_al (below_al hBn _) _))))
          (first
            | (go_at_call 37; refine (none_any _).mono ?_; rintro e wn ⟨rfl, hbS⟩; (try (with_reducible replace hbS := below_undrew hbS)); (with_reducible first
              | (have kx := blkT2a hbS; have ky := blkT2b hbS; have zx := hBn.size; have zy := Nat.le_succ_of_le hBn.size; replace hBn := below_tr (below_al (below_al hBn _) _) hbS)
              | (have ky := blkT1 hbS; have zy := hBn.size; have nxy := Nat.ne_of_lt (blk_lt kx); replace kx := blk_keep hbS (blkUp kx _); replace hBn := below_tr (below_al hBn _) hbS)
              | (have kx := blkT1 hbS; have zx := hBn.size; replace hBn := below_tr (below_al hBn _) hbS)
              | (replace kx := blk_keep hbS kx; replace ky := blk_keep hbS ky; replace hBn := below_tr hBn hbS)
              | (replace kx := blk_keep hbS kx; replace hBn := below_tr hBn hbS)
              | (replace hBn := below_tr hBn hbS)); (try (have rx := row_of kx; have fx := frozen_of kx; have lx := blk_lt kx)); (try (have ry := row_of ky; have fy := frozen_of ky; have ly := blk_lt ky)))
            | (go_at_call 34; refine (has_any _ _ _ _).mono ?_; rintro e wn ⟨rfl, hbS⟩; (try (with_reducible replace hbS := below_undrew hbS)); (with_reducible first
              | (have kx := blkT2a hbS; have ky := blkT2b hbS; have zx := hBn.size; have zy := Nat.le_succ_of_le hBn.size; replace hBn := below_tr (below_al (below_al hBn _) _) hbS)
              | (have ky := blkT1 hbS; have zy := hBn.size; have nxy := Nat.ne_of_lt (blk_lt kx); replace kx := blk_keep hbS (blkUp kx _); replace hBn := below_tr (below_al hBn _) hbS)
              | (have kx := blkT1 hbS; have zx := hBn.size; replace hBn := below_tr (below_al hBn _) hbS)
              | (replace kx := blk_keep hbS kx; replace ky := blk_keep hbS ky; replace hBn := below_tr hBn hbS)
              | (replace kx := blk_keep hbS kx; replace hBn := below_tr hBn hbS)
              | (replace hBn := below_tr hBn hbS)); (try (have rx := row_of kx; have fx := frozen_of kx; have lx := blk_lt kx)); (try (have ry := row_of ky; have fy := frozen_of ky; have ly := blk_lt ky))))
      all_goals
        go_wp2_with fail
        go_meet
        refine ⟨_, _, rfl, rfl, ?_, ?_, ?_, ?_, ?_, ?_⟩
        · first | exact nxy | exact nxy.symm | omega
        · first | exact zx | exact zy | exact hBn.size | exact Nat.le_succ_of_le hBn.size | omega
        · first | exact zy | exact zx | exact hBn.size | exact Nat.le_succ_of_le hBn.size | omega
        · first | (with_reducible exact blkP _ _ _ _ _) | (with_reducible exact blkA _ _ rfl) | (with_reducible exact blkUp (blkA _ _ rfl) _) | (with_reducible exact blkA _ _ (by simp only [World.size_alloc])) | (with_reducible exact setab kx) | (with_reducible exact setno (setab kx) (by omega)) | (with_reducible exact setab (setno kx (by omega))) | (with_reducible exact blkUp (setab kx) _) | (with_reducible exact blkUp (setno (setab kx) (by omega)) _) | (with_reducible exact setab ky) | (with_reducible exact setno (setab ky) (by omega)) | (with_reducible exact setab (setno ky (by omega))) | (with_reducible exact blkUp (setab ky) _) | (with_reducible exact blkUp (setno (setab ky) (by omega)) _)
        · first | (with_reducible exact blkP _ _ _ _ _) | (with_reducible exact blkA _ _ rfl) | (with_reducible exact blkUp (blkA _ _ rfl) _) | (with_reducible exact blkA _ _ (by simp only [World.size_alloc])) | (with_reducible exact setab kx) | (with_reducible exact setno (setab kx) (by omega)) | (with_reducible exact setab (setno kx (by omega))) | (with_reducible exact blkUp (setab kx) _) | (with_reducible exact blkUp (setno (setab kx) (by omega)) _) | (with_reducible exact setab ky) | (with_reducible exact setno (setab ky) (by omega)) | (with_reducible exact setab (setno ky (by omega))) | (with_reducible exact blkUp (setab ky) _) | (with_reducible exact blkUp (setno (setab ky) (by omega)) _)
        · first | (with_reducible exact hBn) | (with_reducible exact below_al hBn _) | (with_reducible exact below_al (below_al hBn _) _) | (with_reducible exact below_put hBn zx) | (with_reducible exact below_al (below_put hBn zx) _) | (with_reducible exact below_put hBn zy) | (with_reducible exact below_al (below_put hBn zy) _) | (with_reducible exact below_put (below_put hBn zx) zy) | (with_reducible exact below_put (below_put hBn zy) zx) | (with_reducible exact Below.drew (hBn)) | (with_reducible exact Below.drew (below_al hBn _)) | (with_reducible exact Below.drew (below_al (below_al hBn _) _))
  case rest =>
    as_aux_lemma =>
      obtain ⟨g1a, g1b, rfl, rfl, hne1, hla1, hlb1, kA, kB, hb⟩ := hcut
      have hv1_0 := blk_lt k0
      have hv1_1 := blk_lt k1
      have hv1_2 := blk_lt k2
      have hv1_3 := blk_lt k3
      replace k0 := blk_keep hb k0
      replace k1 := blk_keep hb k1
      replace k2 := blk_keep hb k2
      replace k3 := blk_keep hb k3
      have k4 := kA
      have k5 := kB
      replace hB := hB.trans (hb.mono hB.size)
      clear hb kA kB mkS
      have r0 := row_of k0
      have f0 := frozen_of k0
      have z0 := blk_lt k0
      have r1 := row_of k1
      have f1 := frozen_of k1
      have z1 := blk_lt k1
      have r2 := row_of k2
      have f2 := frozen_of k2
      have z2 := blk_lt k2
      have r3 := row_of k3
      have f3 := frozen_of k3
      have z3 := blk_lt k3
      have r4 := row_of k4
      have f4 := frozen_of k4
      have z4 := blk_lt k4
      have r5 := row_of k5
      have f5 := frozen_of k5
      have z5 := blk_lt k5
      go_upto_region 2 with fail
      refine wp_world (fun W => W.heap[w.heap.size]? = some (.cells #[.int .i64 a0, .int .i64 a1] 53 (0, 0)) ∧ W.heap[w.heap.size + 1]? = some (.cells #[.int .i64 b0, .int .i64 b1] 53 (0, 0)) ∧ W.heap[w.heap.size + 2]? = some (.cells #[.int .i64 0, .int .i64 0] 53 (0, 0)) ∧ W.heap[w.heap.size + 3]? = some (.cells #[.bool false, .bool false] 128 (0, 0)) ∧ W.heap[g1a]? = some (.cells #[.int .i64 1, .int .i64 0] 53 (0, 0)) ∧ W.heap[g1b]? = some (.cells #[.bool false, .bool dz] 128 (0, 0)) ∧ Below w.heap.size w W) ⟨k0, k1, k2, k3, k4, k5, hB⟩ ?_
      clear r0 f0 z0 r1 f1 z1 r2 f2 z2 r3 f3 z3 r4 f4 z4 r5 f5 z5
      clear hB k0 k1 k2 k3 k4 k5
      rintro w3 ⟨k0, k1, k2, k3, k4, k5, hB⟩
      have hq4 := blk_lt k4
      have hq5 := blk_lt k5
      have mkS : ∀ W, Below w3.heap.size w3 W → W.cell? ⟨w.heap.size + 1, 0, none⟩ = some (.int .i64 b0) ∧ W.cell? ⟨w.heap.size + 1, 1, none⟩ = some (.int .i64 b1) := fun W h => ⟨row_of (blk_keep h k1) 0, row_of (blk_keep h k1) 1⟩
      have hBn := Below.refl w3.heap.size w3
      have sv0 := k0
      have sv1 := k1
      have sv2 := k2
      have sv3 := k3
      have sv4 := k4
      have sv5 := k5
      clear k0 k1 k2 k3 k4 k5
      go_region_held3 (fun W => W.cell? ⟨w.heap.size + 1, 0, none⟩ = some (.int .i64 b0) ∧ W.cell? ⟨w.heap.size + 1, 1, none⟩ = some (.int .i64 b1))
          (first | (with_reducible exact mkS _ hBn) | (with_reducible exact mkS _ (Below.drew hBn)) | (with_reducible exact mkS _ (below_al hBn _)) | (with_reducible exact mkS _ (Below.drew (below_al hBn _))))
          (first
            | (go_at_call 21; (with_reducible refine (c0.out _).mono ?_); rintro e wn ⟨rfl, hbS⟩; (try (with_reducible replace hbS := below_undrew hbS)); replace hBn := below_tr hBn hbS)
            | (go_at_call 21; (with_reducible refine (c1.out _).mono ?_); rintro e wn ⟨rfl, hbS⟩; (try (with_reducible replace hbS := below_undrew hbS)); replace hBn := below_tr hBn hbS)
            | (go_at_call 85; (with_reducible refine (cm0.out _).mono ?_); rintro e wn ⟨rfl, hbS⟩; (try (with_reducible replace hbS := below_undrew hbS)); replace hBn := below_tr hBn hbS)
            | (go_at_call 85; (with_reducible refine (cm1.out _).mono ?_); rintro e wn ⟨rfl, hbS⟩; (try (with_reducible replace hbS := below_undrew hbS)); replace hBn := below_tr hBn hbS))
      go_wp2_with fail
      refine wp_world (fun W => W.heap[w.heap.size]? = some (.cells #[.int .i64 a0, .int .i64 a1] 53 (0, 0)) ∧ W.heap[w.heap.size + 2]? = some (.cells #[.int .i64 0, .int .i64 0] 53 (0, 0)) ∧ W.heap[w.heap.size + 3]? = some (.cells #[.bool false, .bool false] 128 (0, 0)) ∧ W.heap[g1a]? = some (.cells #[.int .i64 1, .int .i64 0] 53 (0, 0)) ∧ W.heap[g1b]? = some (.cells #[.bool false, .bool dz] 128 (0, 0)) ∧ W.heap[wn.heap.size]? = some (.cells #[.int .i64 (pl 0), .int .i64 (ph 0), .int .i64 (pl 1), .int .i64 (ph 1)] 53 (0, 0)) ∧ Below w.heap.size w W) (by first | exact ⟨blkUp (blk_keep hBn sv0) _, blkUp (blk_keep hBn sv2) _, blkUp (blk_keep hBn sv3) _, blkUp (blk_keep hBn sv4) _, blkUp (blk_keep hBn sv5) _, blkA _ _ (by first | rfl | simp), (hB.trans (hBn.mono hB.size)).alloc (Nat.le_trans hB.size hBn.size) _⟩ | exact ⟨blkUp (blk_keep (Below.drew hBn) sv0) _, blkUp (blk_keep (Below.drew hBn) sv2) _, blkUp (blk_keep (Below.drew hBn) sv3) _, blkUp (blk_keep (Below.drew hBn) sv4) _, blkUp (blk_keep (Below.drew hBn) sv5) _, blkA _ _ (by first | rfl | simp), (hB.trans ((Below.drew hBn).mono hB.size)).alloc (Nat.le_trans hB.size (Below.drew hBn).size) _⟩) ?_
      have hsn : w3.heap.size ≤ wn.heap.size := hBn.size
      clear hB hBn mkS sv0 sv1 sv2 sv3 sv4 sv5
      rintro w4 ⟨k0, k2, k3, k4, k5, k8, hB⟩
      obtain ⟨hs0, hs1, hs2⟩ := hs.out
      go_loopw [24] (fun vi wr => DvRel w g1a g1b wn.heap.size a0 a1 pl ph al ah ov dz vi wr) (fun i _ => 2 - (intOf i).toNat)
      case atStart => exact ⟨0, by omega, rfl, k0, k2, k3, by rw [hs0, hs1]; exact k4, by rw [hs2]; exact k5, k8, hB⟩
      case round =>
        clear hs0 hs1 hs2 hB k0 k2 k3 k4 k5 k8
        obtain ⟨k, hk, rfl, k0, k2, k3, k4, k5, k8, hB⟩ := hrel
        skip
        by_cases hlt : k < 2
        · have hk0 : (0 : Int) ≤ (k : Int) := by omega
          have hk2 : (k : Int) < 2 := by omega
          have hv0 : wr.cell? ⟨wn.heap.size, k * 2, none⟩ = some (.int .i64 (pl k)) := by
            rcases (by omega : k = 0 ∨ k = 1) with rfl | rfl
            · exact row_of k8 0
            · exact row_of k8 2
          have hv1 : wr.cell? ⟨wn.heap.size, k * 2 + 1, none⟩ = some (.int .i64 (ph k)) := by
            rcases (by omega : k = 0 ∨ k = 1) with rfl | rfl
            · exact row_of k8 1
            · exact row_of k8 3
          go_upto_region 5 with fail
          clear hv0 hv1
          have hz2_0 : w.heap.size < wr.heap.size := blk_lt k0
          have hz2_2 : w.heap.size + 2 < wr.heap.size := blk_lt k2
          have hz2_3 : w.heap.size + 3 < wr.heap.size := blk_lt k3
          have hz2_4 : g1a < wr.heap.size := blk_lt k4
          have hz2_5 : g1b < wr.heap.size := blk_lt k5
          have hz2_8 : wn.heap.size < wr.heap.size := blk_lt k8
          refine wp_world (fun W => W.heap[w.heap.size]? = some (.cells #[.int .i64 a0, .int .i64 a1] 53 (0, 0)) ∧ W.heap[w.heap.size + 2]? = some (.cells #[.int .i64 0, .int .i64 0] 53 (0, 0)) ∧ W.heap[w.heap.size + 3]? = some (.cells #[.bool false, .bool false] 128 (0, 0)) ∧ W.heap[g1a]? = some (.cells #[.int .i64 (al k), .int .i64 (ah k)] 53 (0, 0)) ∧ W.heap[g1b]? = some (.cells #[.bool (ov k), .bool dz] 128 (0, 0)) ∧ W.heap[wn.heap.size]? = some (.cells #[.int .i64 (pl 0), .int .i64 (ph 0), .int .i64 (pl 1), .int .i64 (ph 1)] 53 (0, 0)) ∧ W.heap[wr.heap.size]? = some (.cells #[.int .i64 (pl k), .int .i64 (ph k)] 53 (0, 0)) ∧ Below w.heap.size w W) ⟨blkUp (k0) _, blkUp (k2) _, blkUp (k3) _, blkUp (k4) _, blkUp (k5) _, blkUp (k8) _, blkA _ _ (by first | rfl | simp only [World.size_alloc]), (hB).alloc (by first | exact hB.size | (simp only [World.size_alloc]; omega)) _⟩ ?_
          clear hB k0 k2 k3 k4 k5 k8
          rintro w21 ⟨k0, k2, k3, k4, k5, k8, k9, hB⟩
          have r0 := row_of k0
          have f0 := frozen_of k0
          have z0 := blk_lt k0
          have r2 := row_of k2
          have f2 := frozen_of k2
          have z2 := blk_lt k2
          have r3 := row_of k3
          have f3 := frozen_of k3
          have z3 := blk_lt k3
          have r4 := row_of k4
          have f4 := frozen_of k4
          have z4 := blk_lt k4
          have r5 := row_of k5
          have f5 := frozen_of k5
          have z5 := blk_lt k5
          have r8 := row_of k8
          have f8 := frozen_of k8
          have z8 := blk_lt k8
          have r9 := row_of k9
          have f9 := frozen_of k9
          have z9 := blk_lt k9
          go_wp2_with fail
          refine (empty_any _ _ _).mono ?_
          rintro e w22 ⟨rfl, hb⟩
          replace k0 := blk_keep hb k0
          replace k2 := blk_keep hb k2
          replace k3 := blk_keep hb k3
          replace k4 := blk_keep hb k4
          replace k5 := blk_keep hb k5
          replace k8 := blk_keep hb k8
          replace k9 := blk_keep hb k9
          replace hB := hB.trans (hb.mono hB.size)
          clear r0 f0 z0 r2 f2 z2 r3 f3 z3 r4 f4 z4 r5 f5 z5 r8 f8 z8 r9 f9 z9
          clear hb
          have r0 := row_of k0
          have f0 := frozen_of k0
          have z0 := blk_lt k0
          have r2 := row_of k2
          have f2 := frozen_of k2
          have z2 := blk_lt k2
          have r3 := row_of k3
          have f3 := frozen_of k3
          have z3 := blk_lt k3
          have r4 := row_of k4
          have f4 := frozen_of k4
          have z4 := blk_lt k4
          have r5 := row_of k5
          have f5 := frozen_of k5
          have z5 := blk_lt k5
          have r8 := row_of k8
          have f8 := frozen_of k8
          have z8 := blk_lt k8
          have r9 := row_of k9
          have f9 := frozen_of k9
          have z9 := blk_lt k9
          by_cases hem : ph k < pl k
          · have hd := decide_eq_true hem
            obtain ⟨q0, q1, q2⟩ := hno.out k hlt hem
            replace q0 := Lib.hid q0
            replace q1 := Lib.hid q1
            replace q2 := Lib.hid q2
            go_upto_region 9 with fail
            clear hd
            clear r0 f0 z0 r2 f2 z2 r3 f3 z3 r4 f4 z4 r5 f5 z5 r8 f8 z8 r9 f9 z9
            go_wp2_with fail
            exact ⟨⟨k + 1, by omega, by go_num, k0, k2, k3, by rw [q0.out, q1.out]; exact k4, by rw [q2.out]; exact k5, k8, hB⟩, by simp [intOf]; omega⟩
          · have hd := decide_eq_false hem
            have ce2 := Lib.hid (ce.out k hlt (by omega))
            have cj2 := Lib.hid (cj.out k hlt (by omega))
            have ho2 := Lib.hid (hov.out k hlt (by omega))
            go_wp2_with fail
            refine (ce2.out _).mono ?_
            rintro e w23 ⟨rfl, hb⟩
            replace k0 := blk_keep hb k0
            replace k2 := blk_keep hb k2
            replace k3 := blk_keep hb k3
            replace k4 := blk_keep hb k4
            replace k5 := blk_keep hb k5
            replace k8 := blk_keep hb k8
            replace k9 := blk_keep hb k9
            replace hB := hB.trans (hb.mono hB.size)
            clear r0 f0 z0 r2 f2 z2 r3 f3 z3 r4 f4 z4 r5 f5 z5 r8 f8 z8 r9 f9 z9
            clear hb
            have r0 := row_of k0
            have f0 := frozen_of k0
            have z0 := blk_lt k0
            have r2 := row_of k2
            have f2 := frozen_of k2
            have z2 := blk_lt k2
            have r3 := row_of k3
            have f3 := frozen_of k3
            have z3 := blk_lt k3
            have r4 := row_of k4
            have f4 := frozen_of k4
            have z4 := blk_lt k4
            have r5 := row_of k5
            have f5 := frozen_of k5
            have z5 := blk_lt k5
            have r8 := row_of k8
            have f8 := frozen_of k8
            have z8 := blk_lt k8
            have r9 := row_of k9
            have f9 := frozen_of k9
            have z9 := blk_lt k9
            clear hd
            go_upto_region 7 with fail
            have hz3_0 : w.heap.size < w23.heap.size := blk_lt k0
            have hz3_2 : w.heap.size + 2 < w23.heap.size := blk_lt k2
            have hz3_3 : w.heap.size + 3 < w23.heap.size := blk_lt k3
            have hz3_4 : g1a < w23.heap.size := blk_lt k4
            have hz3_5 : g1b < w23.heap.size := blk_lt k5
            have hz3_8 : wn.heap.size < w23.heap.size := blk_lt k8
            have hz3_9 : wr.heap.size < w23.heap.size := blk_lt k9
            refine wp_world (fun W => W.heap[w.heap.size]? = some (.cells #[.int .i64 a0, .int .i64 a1] 53 (0, 0)) ∧ W.heap[w.heap.size + 2]? = some (.cells #[.int .i64 0, .int .i64 0] 53 (0, 0)) ∧ W.heap[w.heap.size + 3]? = some (.cells #[.bool false, .bool false] 128 (0, 0)) ∧ W.heap[g1a]? = some (.cells #[.int .i64 (al k), .int .i64 (ah k)] 53 (0, 0)) ∧ W.heap[g1b]? = some (.cells #[.bool (ov k), .bool dz] 128 (0, 0)) ∧ W.heap[wn.heap.size]? = some (.cells #[.int .i64 (pl 0), .int .i64 (ph 0), .int .i64 (pl 1), .int .i64 (ph 1)] 53 (0, 0)) ∧ W.heap[wr.heap.size]? = some (.cells #[.int .i64 (pl k), .int .i64 (ph k)] 53 (0, 0)) ∧ W.heap[w23.heap.size]? = some (.cells #[.int .i64 (e0 k), .int .i64 (e1 k)] 53 (0, 0)) ∧ W.heap[w23.heap.size + 1]? = some (.cells #[.bool (o k), .bool false] 128 (0, 0)) ∧ Below w.heap.size w W) ⟨blkUp (blkUp (k0) _) _, blkUp (blkUp (k2) _) _, blkUp (blkUp (k3) _) _, blkUp (blkUp (k4) _) _, blkUp (blkUp (k5) _) _, blkUp (blkUp (k8) _) _, blkUp (blkUp (k9) _) _, blkUp (blkA _ _ (by first | rfl | simp only [World.size_alloc])) _, blkA _ _ (by first | rfl | simp only [World.size_alloc]), ((hB).alloc (by first | exact hB.size | (simp only [World.size_alloc]; omega)) _).alloc (by first | exact hB.size | (simp only [World.size_alloc]; omega)) _⟩ ?_
            clear r0 f0 z0 r2 f2 z2 r3 f3 z3 r4 f4 z4 r5 f5 z5 r8 f8 z8 r9 f9 z9
            clear hB k0 k2 k3 k4 k5 k8 k9
            rintro w24 ⟨k0, k2, k3, k4, k5, k8, k9, k10, k11, hB⟩
            have r0 := row_of k0
            have f0 := frozen_of k0
            have z0 := blk_lt k0
            have r2 := row_of k2
            have f2 := frozen_of k2
            have z2 := blk_lt k2
            have r3 := row_of k3
            have f3 := frozen_of k3
            have z3 := blk_lt k3
            have r4 := row_of k4
            have f4 := frozen_of k4
            have z4 := blk_lt k4
            have r5 := row_of k5
            have f5 := frozen_of k5
            have z5 := blk_lt k5
            have r8 := row_of k8
            have f8 := frozen_of k8
            have z8 := blk_lt k8
            have r9 := row_of k9
            have f9 := frozen_of k9
            have z9 := blk_lt k9
            have r10 := row_of k10
            have f10 := frozen_of k10
            have z10 := blk_lt k10
            have r11 := row_of k11
            have f11 := frozen_of k11
            have z11 := blk_lt k11
            go_wp2_with fail
            refine (cj2.out _).mono ?_
            rintro e w25 ⟨rfl, hb⟩
            replace k0 := blk_keep hb k0
            replace k2 := blk_keep hb k2
            replace k3 := blk_keep hb k3
            replace k4 := blk_keep hb k4
            replace k5 := blk_keep hb k5
            replace k8 := blk_keep hb k8
            replace k9 := blk_keep hb k9
            replace k10 := blk_keep hb k10
            replace k11 := blk_keep hb k11
            replace hB := hB.trans (hb.mono hB.size)
            clear r0 f0 z0 r2 f2 z2 r3 f3 z3 r4 f4 z4 r5 f5 z5 r8 f8 z8 r9 f9 z9 r10 f10 z10 r11 f11 z11
            clear hb
            have r0 := row_of k0
            have f0 := frozen_of k0
            have z0 := blk_lt k0
            have r2 := row_of k2
            have f2 := frozen_of k2
            have z2 := blk_lt k2
            have r3 := row_of k3
            have f3 := frozen_of k3
            have z3 := blk_lt k3
            have r4 := row_of k4
            have f4 := frozen_of k4
            have z4 := blk_lt k4
            have r5 := row_of k5
            have f5 := frozen_of k5
            have z5 := blk_lt k5
            have r8 := row_of k8
            have f8 := frozen_of k8
            have z8 := blk_lt k8
            have r9 := row_of k9
            have f9 := frozen_of k9
            have z9 := blk_lt k9
            have r10 := row_of k10
            have f10 := frozen_of k10
            have z10 := blk_lt k10
            have r11 := row_of k11
            have f11 := frozen_of k11
            have z11 := blk_lt k11
            go_upto_region 8 with fail
            refine wp_world (fun W => W.heap[w.heap.size]? = some (.cells #[.int .i64 a0, .int .i64 a1] 53 (0, 0)) ∧ W.heap[w.heap.size + 2]? = some (.cells #[.int .i64 0, .int .i64 0] 53 (0, 0)) ∧ W.heap[w.heap.size + 3]? = some (.cells #[.bool false, .bool false] 128 (0, 0)) ∧ W.heap[g1a]? = some (.cells #[.int .i64 (al (k + 1)), .int .i64 (ah (k + 1))] 53 (0, 0)) ∧ W.heap[g1b]? = some (.cells #[.bool (ov k), .bool dz] 128 (0, 0)) ∧ W.heap[wn.heap.size]? = some (.cells #[.int .i64 (pl 0), .int .i64 (ph 0), .int .i64 (pl 1), .int .i64 (ph 1)] 53 (0, 0)) ∧ W.heap[wr.heap.size]? = some (.cells #[.int .i64 (pl k), .int .i64 (ph k)] 53 (0, 0)) ∧ W.heap[w23.heap.size]? = some (.cells #[.int .i64 (e0 k), .int .i64 (e1 k)] 53 (0, 0)) ∧ W.heap[w23.heap.size + 1]? = some (.cells #[.bool (o k), .bool false] 128 (0, 0)) ∧ Below w.heap.size w W) ⟨setno k0 (by omega), setno k2 (by omega), setno k3 (by omega), setab k4, setno k5 (by omega), setno k8 (by omega), setno k9 (by omega), setno k10 (by omega), setno k11 (by omega), (hB.setCell (p := ⟨g1a, 0, none⟩) (by show w.heap.size ≤ g1a; omega) _).setCell (p := ⟨g1a, 1, none⟩) (by show w.heap.size ≤ g1a; omega) _⟩ ?_
            clear r0 f0 z0 r2 f2 z2 r3 f3 z3 r4 f4 z4 r5 f5 z5 r8 f8 z8 r9 f9 z9 r10 f10 z10 r11 f11 z11
            clear hB k0 k2 k3 k4 k5 k8 k9 k10 k11
            rintro w26 ⟨k0, k2, k3, k4, k5, k8, k9, k10, k11, hB⟩
            cases hok : ov k with
            | true =>
              rw [hok] at k5 ho2
              clear hok
              have r0 := row_of k0
              have f0 := frozen_of k0
              have z0 := blk_lt k0
              have r2 := row_of k2
              have f2 := frozen_of k2
              have z2 := blk_lt k2
              have r3 := row_of k3
              have f3 := frozen_of k3
              have z3 := blk_lt k3
              have r4 := row_of k4
              have f4 := frozen_of k4
              have z4 := blk_lt k4
              have r5 := row_of k5
              have f5 := frozen_of k5
              have z5 := blk_lt k5
              have r8 := row_of k8
              have f8 := frozen_of k8
              have z8 := blk_lt k8
              have r9 := row_of k9
              have f9 := frozen_of k9
              have z9 := blk_lt k9
              have r10 := row_of k10
              have f10 := frozen_of k10
              have z10 := blk_lt k10
              have r11 := row_of k11
              have f11 := frozen_of k11
              have z11 := blk_lt k11
              go_upto_region 9 with fail
              refine wp_world (fun W => W.heap[w.heap.size]? = some (.cells #[.int .i64 a0, .int .i64 a1] 53 (0, 0)) ∧ W.heap[w.heap.size + 2]? = some (.cells #[.int .i64 0, .int .i64 0] 53 (0, 0)) ∧ W.heap[w.heap.size + 3]? = some (.cells #[.bool false, .bool false] 128 (0, 0)) ∧ W.heap[g1a]? = some (.cells #[.int .i64 (al (k + 1)), .int .i64 (ah (k + 1))] 53 (0, 0)) ∧ W.heap[g1b]? = some (.cells #[.bool true, .bool dz] 128 (0, 0)) ∧ W.heap[wn.heap.size]? = some (.cells #[.int .i64 (pl 0), .int .i64 (ph 0), .int .i64 (pl 1), .int .i64 (ph 1)] 53 (0, 0)) ∧ W.heap[wr.heap.size]? = some (.cells #[.int .i64 (pl k), .int .i64 (ph k)] 53 (0, 0)) ∧ W.heap[w23.heap.size]? = some (.cells #[.int .i64 (e0 k), .int .i64 (e1 k)] 53 (0, 0)) ∧ W.heap[w23.heap.size + 1]? = some (.cells #[.bool (o k), .bool false] 128 (0, 0)) ∧ Below w.heap.size w W) ⟨blk_set k0 (by omega), blk_set k2 (by omega), blk_set k3 (by omega), blk_set k4 (by omega), seta k5, blk_set k8 (by omega), blk_set k9 (by omega), blk_set k10 (by omega), blk_set k11 (by omega), hB.setCell (p := ⟨g1b, 0, none⟩) (by show w.heap.size ≤ g1b; omega) _⟩ ?_
              clear r0 f0 z0 r2 f2 z2 r3 f3 z3 r4 f4 z4 r5 f5 z5 r8 f8 z8 r9 f9 z9 r10 f10 z10 r11 f11 z11
              clear hB k0 k2 k3 k4 k5 k8 k9 k10 k11
              rintro w27 ⟨k0, k2, k3, k4, k5, k8, k9, k10, k11, hB⟩
              have r0 := row_of k0
              have f0 := frozen_of k0
              have z0 := blk_lt k0
              have r2 := row_of k2
              have f2 := frozen_of k2
              have z2 := blk_lt k2
              have r3 := row_of k3
              have f3 := frozen_of k3
              have z3 := blk_lt k3
              have r4 := row_of k4
              have f4 := frozen_of k4
              have z4 := blk_lt k4
              have r5 := row_of k5
              have f5 := frozen_of k5
              have z5 := blk_lt k5
              have r8 := row_of k8
              have f8 := frozen_of k8
              have z8 := blk_lt k8
              have r9 := row_of k9
              have f9 := frozen_of k9
              have z9 := blk_lt k9
              have r10 := row_of k10
              have f10 := frozen_of k10
              have z10 := blk_lt k10
              have r11 := row_of k11
              have f11 := frozen_of k11
              have z11 := blk_lt k11
              clear r0 f0 z0 r2 f2 z2 r3 f3 z3 r4 f4 z4 r5 f5 z5 r8 f8 z8 r9 f9 z9 r10 f10 z10 r11 f11 z11
              go_wp2_with fail
              exact ⟨⟨k + 1, by omega, by go_num, k0, k2, k3, k4, by rw [ho2.out]; exact k5, k8, hB⟩, by simp [intOf]; omega⟩
            | false =>
              rw [hok] at k5 ho2
              clear hok
              have r0 := row_of k0
              have f0 := frozen_of k0
              have z0 := blk_lt k0
              have r2 := row_of k2
              have f2 := frozen_of k2
              have z2 := blk_lt k2
              have r3 := row_of k3
              have f3 := frozen_of k3
              have z3 := blk_lt k3
              have r4 := row_of k4
              have f4 := frozen_of k4
              have z4 := blk_lt k4
              have r5 := row_of k5
              have f5 := frozen_of k5
              have z5 := blk_lt k5
              have r8 := row_of k8
              have f8 := frozen_of k8
              have z8 := blk_lt k8
              have r9 := row_of k9
              have f9 := frozen_of k9
              have z9 := blk_lt k9
              have r10 := row_of k10
              have f10 := frozen_of k10
              have z10 := blk_lt k10
              have r11 := row_of k11
              have f11 := frozen_of k11
              have z11 := blk_lt k11
              go_upto_region 9 with fail
              refine wp_world (fun W => W.heap[w.heap.size]? = some (.cells #[.int .i64 a0, .int .i64 a1] 53 (0, 0)) ∧ W.heap[w.heap.size + 2]? = some (.cells #[.int .i64 0, .int .i64 0] 53 (0, 0)) ∧ W.heap[w.heap.size + 3]? = some (.cells #[.bool false, .bool false] 128 (0, 0)) ∧ W.heap[g1a]? = some (.cells #[.int .i64 (al (k + 1)), .int .i64 (ah (k + 1))] 53 (0, 0)) ∧ W.heap[g1b]? = some (.cells #[.bool (o k), .bool dz] 128 (0, 0)) ∧ W.heap[wn.heap.size]? = some (.cells #[.int .i64 (pl 0), .int .i64 (ph 0), .int .i64 (pl 1), .int .i64 (ph 1)] 53 (0, 0)) ∧ W.heap[wr.heap.size]? = some (.cells #[.int .i64 (pl k), .int .i64 (ph k)] 53 (0, 0)) ∧ W.heap[w23.heap.size]? = some (.cells #[.int .i64 (e0 k), .int .i64 (e1 k)] 53 (0, 0)) ∧ W.heap[w23.heap.size + 1]? = some (.cells #[.bool (o k), .bool false] 128 (0, 0)) ∧ Below w.heap.size w W) ⟨blk_set k0 (by omega), blk_set k2 (by omega), blk_set k3 (by omega), blk_set k4 (by omega), seta k5, blk_set k8 (by omega), blk_set k9 (by omega), blk_set k10 (by omega), blk_set k11 (by omega), hB.setCell (p := ⟨g1b, 0, none⟩) (by show w.heap.size ≤ g1b; omega) _⟩ ?_
              clear r0 f0 z0 r2 f2 z2 r3 f3 z3 r4 f4 z4 r5 f5 z5 r8 f8 z8 r9 f9 z9 r10 f10 z10 r11 f11 z11
              clear hB k0 k2 k3 k4 k5 k8 k9 k10 k11
              rintro w27 ⟨k0, k2, k3, k4, k5, k8, k9, k10, k11, hB⟩
              have r0 := row_of k0
              have f0 := frozen_of k0
              have z0 := blk_lt k0
              have r2 := row_of k2
              have f2 := frozen_of k2
              have z2 := blk_lt k2
              have r3 := row_of k3
              have f3 := frozen_of k3
              have z3 := blk_lt k3
              have r4 := row_of k4
              have f4 := frozen_of k4
              have z4 := blk_lt k4
              have r5 := row_of k5
              have f5 := frozen_of k5
              have z5 := blk_lt k5
              have r8 := row_of k8
              have f8 := frozen_of k8
              have z8 := blk_lt k8
              have r9 := row_of k9
              have f9 := frozen_of k9
              have z9 := blk_lt k9
              have r10 := row_of k10
              have f10 := frozen_of k10
              have z10 := blk_lt k10
              have r11 := row_of k11
              have f11 := frozen_of k11
              have z11 := blk_lt k11
              clear r0 f0 z0 r2 f2 z2 r3 f3 z3 r4 f4 z4 r5 f5 z5 r8 f8 z8 r9 f9 z9 r10 f10 z10 r11 f11 z11
              go_wp2_with fail
              exact ⟨⟨k + 1, by omega, by go_num, k0, k2, k3, k4, by rw [ho2.out]; exact k5, k8, hB⟩, by simp [intOf]; omega⟩
        · have hk2 : ¬ (k : Int) < 2 := by omega
          obtain rfl : k = 2 := by omega
          clear k0 k8 hk hlt
          have r2 := row_of k2
          have f2 := frozen_of k2
          have z2 := blk_lt k2
          have r3 := row_of k3
          have f3 := frozen_of k3
          have z3 := blk_lt k3
          have r4 := row_of k4
          have f4 := frozen_of k4
          have z4 := blk_lt k4
          have r5 := row_of k5
          have f5 := frozen_of k5
          have z5 := blk_lt k5
          go_upto_region 10 with fail
          go_region
          all_goals
            go_wp2_with fail
            generalize hWF : (World.setCell (World.setCell (World.setCell (World.setCell _ _ _) _ _) _ _) _ _) = WF
            obtain ⟨kF, kG, bF⟩ := put22 (by omega) k2 k3 _ _ _ _ hWF.symm
            clear r2 f2 z2 r3 f3 z3 r4 f4 z4 r5 f5 z5
            clear hWF
            have rF := row_of (W := WF.drew) kF
            have rG := row_of (W := WF.drew) kG
            exact bodyPost_ret (v := .tuple #[.agg #[.int .i64 (al 2), .int .i64 (ah 2)], .agg #[.bool (ov 2), .bool (dz)]]) (by simp [results, Tryz.results142, go_sem, rF, rG]) rfl ⟨rfl, (hB.trans (bF _ (by show w.heap.size ≤ w.heap.size + 2; omega) (by show w.heap.size ≤ w.heap.size + 3; omega))).drew⟩
end Go.Proofs.YtlgmofjjjhbgkaaGreat
