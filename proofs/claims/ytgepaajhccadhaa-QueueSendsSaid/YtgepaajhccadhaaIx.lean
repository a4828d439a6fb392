/-
  The reference's Join, Widen and Narrow.
-/
import Derived.Test.YtgepaajhccadhaaIs
namespace Go.Proofs.Ytgepaajhccadhaa
open Go.RowKit

theorem rjoin_1 (a0 a1 b0 b1 : Int) (w : World) (h : a1 < a0) :
    Calls Try.prog 46 #[.agg #[.int .i64 a0, .int .i64 a1], .agg #[.int .i64 b0, .int .i64 b1]] w fun e w' => e = .returned (.agg #[.int .i64 (nrm b0 b1).1, .int .i64 (nrm b0 b1).2]) ∧ Below w.heap.size w w' := by
  have hd : decide (a1 < a0) = true := by simp; omega
  clear h
  go_enter Try.func46, Try.ntmps46
  go_upto_region 1 with fail
  refine wp_world (fun W => W.heap[w.heap.size]? = some (.cells #[.int .i64 a0, .int .i64 a1] 29 (0, 0)) ∧ W.heap[w.heap.size + 1]? = some (.cells #[.int .i64 b0, .int .i64 b1] 29 (0, 0)) ∧ W.heap[w.heap.size + 2]? = some (.cells #[.int .i64 0, .int .i64 0] 29 (0, 0)) ∧ Below w.heap.size w W) ⟨blkUp (blkUp (blkA _ _ (by first | rfl | simp only [World.size_alloc])) _) _, blkUp (blkA _ _ (by first | rfl | simp only [World.size_alloc])) _, blkA _ _ (by first | rfl | simp only [World.size_alloc]), (((Below.refl _ _).alloc (by first | exact Nat.le_refl _ | (simp only [World.size_alloc]; omega)) _).alloc (by first | exact Nat.le_refl _ | (simp only [World.size_alloc]; omega)) _).alloc (by first | exact Nat.le_refl _ | (simp only [World.size_alloc]; omega)) _⟩ ?_
  rintro w1 ⟨k0, k1, k2, hB⟩
  have r0 := row_of k0
  have f0 := frozen_of k0
  have z0 := blk_lt k0
  have r1 := row_of k1
  have f1 := frozen_of k1
  have z1 := blk_lt k1
  have r2 := row_of k2
  have f2 := frozen_of k2
  have z2 := blk_lt k2
  go_wp2_with fail
  refine (norm_any _ _ _).mono ?_
  rintro e w2 ⟨rfl, hb⟩
  replace k0 := blk_keep hb k0
  replace k1 := blk_keep hb k1
  replace k2 := blk_keep hb k2
  replace hB := hB.trans (hb.mono hB.size)
  clear r0 f0 z0 r1 f1 z1 r2 f2 z2
  clear hb
  have r0 := row_of k0
  have f0 := frozen_of k0
  have z0 := blk_lt k0
  have r1 := row_of k1
  have f1 := frozen_of k1
  have z1 := blk_lt k1
  have r2 := row_of k2
  have f2 := frozen_of k2
  have z2 := blk_lt k2
  go_wp2_with fail
  generalize hWF : (World.setCell (World.setCell _ _ _) _ _) = WF
  obtain ⟨kF, _, bF, _⟩ := put2 k2 _ _ hWF.symm
  clear r0 f0 z0 r1 f1 z1 r2 f2 z2
  clear hWF
  have rF := row_of kF
  exact bodyPost_ret (v := .agg #[.int .i64 (nrm b0 b1).1, .int .i64 (nrm b0 b1).2]) (by simp [results, Try.results46, go_sem, rF]) rfl ⟨rfl, hB.trans (bF _ (by show w.heap.size ≤ w.heap.size + 2; omega))⟩
theorem rjoin_2 (a0 a1 b0 b1 : Int) (w : World) (h : a0 ≤ a1) (h2 : b1 < b0) :
    Calls Try.prog 46 #[.agg #[.int .i64 a0, .int .i64 a1], .agg #[.int .i64 b0, .int .i64 b1]] w fun e w' => e = .returned (.agg #[.int .i64 a0, .int .i64 a1]) ∧ Below w.heap.size w w' := by
  have hd : decide (a1 < a0) = false := by simp; omega
  have hd2 : decide (b1 < b0) = true := by simp; omega
  clear h h2
  go_enter Try.func46, Try.ntmps46
  go_upto_region 1 with fail
  refine wp_world (fun W => W.heap[w.heap.size]? = some (.cells #[.int .i64 a0, .int .i64 a1] 29 (0, 0)) ∧ W.heap[w.heap.size + 1]? = some (.cells #[.int .i64 b0, .int .i64 b1] 29 (0, 0)) ∧ W.heap[w.heap.size + 2]? = some (.cells #[.int .i64 0, .int .i64 0] 29 (0, 0)) ∧ Below w.heap.size w W) ⟨blkUp (blkUp (blkA _ _ (by first | rfl | simp only [World.size_alloc])) _) _, blkUp (blkA _ _ (by first | rfl | simp only [World.size_alloc])) _, blkA _ _ (by first | rfl | simp only [World.size_alloc]), (((Below.refl _ _).alloc (by first | exact Nat.le_refl _ | (simp only [World.size_alloc]; omega)) _).alloc (by first | exact Nat.le_refl _ | (simp only [World.size_alloc]; omega)) _).alloc (by first | exact Nat.le_refl _ | (simp only [World.size_alloc]; omega)) _⟩ ?_
  rintro w1 ⟨k0, k1, k2, hB⟩
  have r0 := row_of k0
  have f0 := frozen_of k0
  have z0 := blk_lt k0
  have r1 := row_of k1
  have f1 := frozen_of k1
  have z1 := blk_lt k1
  have r2 := row_of k2
  have f2 := frozen_of k2
  have z2 := blk_lt k2
  go_wp2_with fail
  generalize hWF : (World.setCell (World.setCell _ _ _) _ _) = WF
  obtain ⟨kF, _, bF, _⟩ := put2 k2 _ _ hWF.symm
  clear r0 f0 z0 r1 f1 z1 r2 f2 z2
  clear hWF
  have rF := row_of kF
  exact bodyPost_ret (v := .agg #[.int .i64 a0, .int .i64 a1]) (by simp [results, Try.results46, go_sem, rF]) rfl ⟨rfl, hB.trans (bF _ (by show w.heap.size ≤ w.heap.size + 2; omega))⟩
theorem rjoin_3 (a0 a1 b0 b1 : Int) (w : World) (h : a0 ≤ a1) (h2 : b0 ≤ b1) :
    Calls Try.prog 46 #[.agg #[.int .i64 a0, .int .i64 a1], .agg #[.int .i64 b0, .int .i64 b1]] w fun e w' => e = .returned (.agg #[.int .i64 (mn a0 b0), .int .i64 (mx a1 b1)]) ∧ Below w.heap.size w w' := by
  have hd : decide (a1 < a0) = false := by simp; omega
  have hd2 : decide (b1 < b0) = false := by simp; omega
  clear h h2
  have hm : (if b0 < a0 then b0 else a0) = mn a0 b0 := rfl
  have hM : (if a1 < b1 then b1 else a1) = mx a1 b1 := rfl
  go_enter Try.func46, Try.ntmps46
  go_upto_region 1 with fail
  refine wp_world (fun W => W.heap[w.heap.size]? = some (.cells #[.int .i64 a0, .int .i64 a1] 29 (0, 0)) ∧ W.heap[w.heap.size + 1]? = some (.cells #[.int .i64 b0, .int .i64 b1] 29 (0, 0)) ∧ W.heap[w.heap.size + 2]? = some (.cells #[.int .i64 0, .int .i64 0] 29 (0, 0)) ∧ Below w.heap.size w W) ⟨blkUp (blkUp (blkA _ _ (by first | rfl | simp only [World.size_alloc])) _) _, blkUp (blkA _ _ (by first | rfl | simp only [World.size_alloc])) _, blkA _ _ (by first | rfl | simp only [World.size_alloc]), (((Below.refl _ _).alloc (by first | exact Nat.le_refl _ | (simp only [World.size_alloc]; omega)) _).alloc (by first | exact Nat.le_refl _ | (simp only [World.size_alloc]; omega)) _).alloc (by first | exact Nat.le_refl _ | (simp only [World.size_alloc]; omega)) _⟩ ?_
  rintro w1 ⟨k0, k1, k2, hB⟩
  have r0 := row_of k0
  have f0 := frozen_of k0
  have z0 := blk_lt k0
  have r1 := row_of k1
  have f1 := frozen_of k1
  have z1 := blk_lt k1
  have r2 := row_of k2
  have f2 := frozen_of k2
  have z2 := blk_lt k2
  go_wp2_with fail
  generalize hWF : (World.setCell (World.setCell _ _ _) _ _) = WF
  obtain ⟨kF, _, bF, _⟩ := put2 k2 _ _ hWF.symm
  clear r0 f0 z0 r1 f1 z1 r2 f2 z2
  clear hWF
  have rF := row_of kF
  exact bodyPost_ret (v := .agg #[.int .i64 (mn a0 b0), .int .i64 (mx a1 b1)]) (by simp [results, Try.results46, go_sem, rF]) rfl ⟨rfl, hB.trans (bF _ (by show w.heap.size ≤ w.heap.size + 2; omega))⟩
theorem rjoin_any (a0 a1 b0 b1 : Int) (w : World) :
    Calls Try.prog 46 #[.agg #[.int .i64 a0, .int .i64 a1], .agg #[.int .i64 b0, .int .i64 b1]] w fun e w' => e = .returned (.agg #[.int .i64 (rjoinP a0 a1 b0 b1).1, .int .i64 (rjoinP a0 a1 b0 b1).2]) ∧ Below w.heap.size w w' := by
  unfold rjoinP
  by_cases h : a1 < a0
  · rw [if_pos h]; exact rjoin_1 a0 a1 b0 b1 w h
  · rw [if_neg h]
    by_cases h2 : b1 < b0
    · rw [if_pos h2]; exact rjoin_2 a0 a1 b0 b1 w (by omega) h2
    · rw [if_neg h2]; exact rjoin_3 a0 a1 b0 b1 w (by omega) (by omega)
theorem rwiden_1 (a0 a1 b0 b1 : Int) (w : World) (h : a1 < a0) :
    Calls Try.prog 47 #[.agg #[.int .i64 a0, .int .i64 a1], .agg #[.int .i64 b0, .int .i64 b1]] w fun e w' => e = .returned (.agg #[.int .i64 (nrm b0 b1).1, .int .i64 (nrm b0 b1).2]) ∧ Below w.heap.size w w' := by
  have hd : decide (a1 < a0) = true := by simp; omega
  clear h
  go_enter Try.func47, Try.ntmps47
  go_upto_region 1 with fail
  refine wp_world (fun W => W.heap[w.heap.size]? = some (.cells #[.int .i64 a0, .int .i64 a1] 29 (0, 0)) ∧ W.heap[w.heap.size + 1]? = some (.cells #[.int .i64 b0, .int .i64 b1] 29 (0, 0)) ∧ W.heap[w.heap.size + 2]? = some (.cells #[.int .i64 0, .int .i64 0] 29 (0, 0)) ∧ Below w.heap.size w W) ⟨blkUp (blkUp (blkA _ _ (by first | rfl | simp only [World.size_alloc])) _) _, blkUp (blkA _ _ (by first | rfl | simp only [World.size_alloc])) _, blkA _ _ (by first | rfl | simp only [World.size_alloc]), (((Below.refl _ _).alloc (by first | exact Nat.le_refl _ | (simp only [World.size_alloc]; omega)) _).alloc (by first | exact Nat.le_refl _ | (simp only [World.size_alloc]; omega)) _).alloc (by first | exact Nat.le_refl _ | (simp only [World.size_alloc]; omega)) _⟩ ?_
  rintro w1 ⟨k0, k1, k2, hB⟩
  have r0 := row_of k0
  have f0 := frozen_of k0
  have z0 := blk_lt k0
  have r1 := row_of k1
  have f1 := frozen_of k1
  have z1 := blk_lt k1
  have r2 := row_of k2
  have f2 := frozen_of k2
  have z2 := blk_lt k2
  go_wp2_with fail
  refine (norm_any _ _ _).mono ?_
  rintro e w2 ⟨rfl, hb⟩
  replace k0 := blk_keep hb k0
  replace k1 := blk_keep hb k1
  replace k2 := blk_keep hb k2
  replace hB := hB.trans (hb.mono hB.size)
  clear r0 f0 z0 r1 f1 z1 r2 f2 z2
  clear hb
  have r0 := row_of k0
  have f0 := frozen_of k0
  have z0 := blk_lt k0
  have r1 := row_of k1
  have f1 := frozen_of k1
  have z1 := blk_lt k1
  have r2 := row_of k2
  have f2 := frozen_of k2
  have z2 := blk_lt k2
  go_wp2_with fail
  generalize hWF : (World.setCell (World.setCell _ _ _) _ _) = WF
  obtain ⟨kF, _, bF, _⟩ := put2 k2 _ _ hWF.symm
  clear r0 f0 z0 r1 f1 z1 r2 f2 z2
  clear hWF
  have rF := row_of kF
  exact bodyPost_ret (v := .agg #[.int .i64 (nrm b0 b1).1, .int .i64 (nrm b0 b1).2]) (by simp [results, Try.results47, go_sem, rF]) rfl ⟨rfl, hB.trans (bF _ (by show w.heap.size ≤ w.heap.size + 2; omega))⟩
theorem rwiden_2 (a0 a1 b0 b1 : Int) (w : World) (h : a0 ≤ a1) (h2 : b1 < b0) :
    Calls Try.prog 47 #[.agg #[.int .i64 a0, .int .i64 a1], .agg #[.int .i64 b0, .int .i64 b1]] w fun e w' => e = .returned (.agg #[.int .i64 a0, .int .i64 a1]) ∧ Below w.heap.size w w' := by
  have hd : decide (a1 < a0) = false := by simp; omega
  have hd2 : decide (b1 < b0) = true := by simp; omega
  clear h h2
  go_enter Try.func47, Try.ntmps47
  go_upto_region 1 with fail
  refine wp_world (fun W => W.heap[w.heap.size]? = some (.cells #[.int .i64 a0, .int .i64 a1] 29 (0, 0)) ∧ W.heap[w.heap.size + 1]? = some (.cells #[.int .i64 b0, .int .i64 b1] 29 (0, 0)) ∧ W.heap[w.heap.size + 2]? = some (.cells #[.int .i64 0, .int .i64 0] 29 (0, 0)) ∧ Below w.heap.size w W) ⟨blkUp (blkUp (blkA _ _ (by first | rfl | simp only [World.size_alloc])) _) _, blkUp (blkA _ _ (by first | rfl | simp only [World.size_alloc])) _, blkA _ _ (by first | rfl | simp only [World.size_alloc]), (((Below.refl _ _).alloc (by first | exact Nat.le_refl _ | (simp only [World.size_alloc]; omega)) _).alloc (by first | exact Nat.le_refl _ | (simp only [World.size_alloc]; omega)) _).alloc (by first | exact Nat.le_refl _ | (simp only [World.size_alloc]; omega)) _⟩ ?_
  rintro w1 ⟨k0, k1, k2, hB⟩
  have r0 := row_of k0
  have f0 := frozen_of k0
  have z0 := blk_lt k0
  have r1 := row_of k1
  have f1 := frozen_of k1
  have z1 := blk_lt k1
  have r2 := row_of k2
  have f2 := frozen_of k2
  have z2 := blk_lt k2
  go_wp2_with fail
  generalize hWF : (World.setCell (World.setCell _ _ _) _ _) = WF
  obtain ⟨kF, _, bF, _⟩ := put2 k2 _ _ hWF.symm
  clear r0 f0 z0 r1 f1 z1 r2 f2 z2
  clear hWF
  have rF := row_of kF
  exact bodyPost_ret (v := .agg #[.int .i64 a0, .int .i64 a1]) (by simp [results, Try.results47, go_sem, rF]) rfl ⟨rfl, hB.trans (bF _ (by show w.heap.size ≤ w.heap.size + 2; omega))⟩
theorem rwiden_3 (a0 a1 b0 b1 : Int) (w : World) (h : a0 ≤ a1) (h2 : b0 ≤ b1) (h3 : b0 < a0) (h4 : a1 < b1) :
    Calls Try.prog 47 #[.agg #[.int .i64 a0, .int .i64 a1], .agg #[.int .i64 b0, .int .i64 b1]] w fun e w' => e = .returned (.agg #[.int .i64 (-2147483648), .int .i64 2147483647]) ∧ Below w.heap.size w w' := by
  have hd : decide (a1 < a0) = false := by simp; omega
  have hd2 : decide (b1 < b0) = false := by simp; omega
  have hd3 : decide (b0 < a0) = true := by simp; omega
  have hd4 : decide (a1 < b1) = true := by simp; omega
  clear h h2 h3 h4
  go_enter Try.func47, Try.ntmps47
  go_upto_region 1 with fail
  refine wp_world (fun W => W.heap[w.heap.size]? = some (.cells #[.int .i64 a0, .int .i64 a1] 29 (0, 0)) ∧ W.heap[w.heap.size + 1]? = some (.cells #[.int .i64 b0, .int .i64 b1] 29 (0, 0)) ∧ W.heap[w.heap.size + 2]? = some (.cells #[.int .i64 0, .int .i64 0] 29 (0, 0)) ∧ Below w.heap.size w W) ⟨blkUp (blkUp (blkA _ _ (by first | rfl | simp only [World.size_alloc])) _) _, blkUp (blkA _ _ (by first | rfl | simp only [World.size_alloc])) _, blkA _ _ (by first | rfl | simp only [World.size_alloc]), (((Below.refl _ _).alloc (by first | exact Nat.le_refl _ | (simp only [World.size_alloc]; omega)) _).alloc (by first | exact Nat.le_refl _ | (simp only [World.size_alloc]; omega)) _).alloc (by first | exact Nat.le_refl _ | (simp only [World.size_alloc]; omega)) _⟩ ?_
  rintro w1 ⟨k0, k1, k2, hB⟩
  have r0 := row_of k0
  have f0 := frozen_of k0
  have z0 := blk_lt k0
  have r1 := row_of k1
  have f1 := frozen_of k1
  have z1 := blk_lt k1
  have r2 := row_of k2
  have f2 := frozen_of k2
  have z2 := blk_lt k2
  go_upto_region 7 with fail
  refine wp_world (fun W => W.heap[w.heap.size]? = some (.cells #[.int .i64 (-2147483648), .int .i64 a1] 29 (0, 0)) ∧ W.heap[w.heap.size + 1]? = some (.cells #[.int .i64 b0, .int .i64 b1] 29 (0, 0)) ∧ W.heap[w.heap.size + 2]? = some (.cells #[.int .i64 0, .int .i64 0] 29 (0, 0)) ∧ Below w.heap.size w W) ⟨seta k0, blk_set k1 (by omega), blk_set k2 (by omega), hB.setCell (p := ⟨w.heap.size, 0, none⟩) (by show w.heap.size ≤ w.heap.size; omega) _⟩ ?_
  clear r0 f0 z0 r1 f1 z1 r2 f2 z2
  clear hB k0 k1 k2
  rintro w2 ⟨k0, k1, k2, hB⟩
  have r0 := row_of k0
  have f0 := frozen_of k0
  have z0 := blk_lt k0
  have r1 := row_of k1
  have f1 := frozen_of k1
  have z1 := blk_lt k1
  have r2 := row_of k2
  have f2 := frozen_of k2
  have z2 := blk_lt k2
  go_upto_region 9 with fail
  refine wp_world (fun W => W.heap[w.heap.size]? = some (.cells #[.int .i64 (-2147483648), .int .i64 2147483647] 29 (0, 0)) ∧ W.heap[w.heap.size + 1]? = some (.cells #[.int .i64 b0, .int .i64 b1] 29 (0, 0)) ∧ W.heap[w.heap.size + 2]? = some (.cells #[.int .i64 0, .int .i64 0] 29 (0, 0)) ∧ Below w.heap.size w W) ⟨setb k0, blk_set k1 (by omega), blk_set k2 (by omega), hB.setCell (p := ⟨w.heap.size, 1, none⟩) (by show w.heap.size ≤ w.heap.size; omega) _⟩ ?_
  clear r0 f0 z0 r1 f1 z1 r2 f2 z2
  clear hB k0 k1 k2
  rintro w3 ⟨k0, k1, k2, hB⟩
  have r0 := row_of k0
  have f0 := frozen_of k0
  have z0 := blk_lt k0
  have r1 := row_of k1
  have f1 := frozen_of k1
  have z1 := blk_lt k1
  have r2 := row_of k2
  have f2 := frozen_of k2
  have z2 := blk_lt k2
  go_wp2_with fail
  generalize hWF : (World.setCell (World.setCell _ _ _) _ _) = WF
  obtain ⟨kF, _, bF, _⟩ := put2 k2 _ _ hWF.symm
  clear r0 f0 z0 r1 f1 z1 r2 f2 z2
  clear hWF
  have rF := row_of kF
  exact bodyPost_ret (v := .agg #[.int .i64 (-2147483648), .int .i64 2147483647]) (by simp [results, Try.results47, go_sem, rF]) rfl ⟨rfl, hB.trans (bF _ (by show w.heap.size ≤ w.heap.size + 2; omega))⟩
theorem rwiden_4 (a0 a1 b0 b1 : Int) (w : World) (h : a0 ≤ a1) (h2 : b0 ≤ b1) (h3 : b0 < a0) (h4 : b1 ≤ a1) :
    Calls Try.prog 47 #[.agg #[.int .i64 a0, .int .i64 a1], .agg #[.int .i64 b0, .int .i64 b1]] w fun e w' => e = .returned (.agg #[.int .i64 (-2147483648), .int .i64 a1]) ∧ Below w.heap.size w w' := by
  have hd : decide (a1 < a0) = false := by simp; omega
  have hd2 : decide (b1 < b0) = false := by simp; omega
  have hd3 : decide (b0 < a0) = true := by simp; omega
  have hd4 : decide (a1 < b1) = false := by simp; omega
  clear h h2 h3 h4
  go_enter Try.func47, Try.ntmps47
  go_upto_region 1 with fail
  refine wp_world (fun W => W.heap[w.heap.size]? = some (.cells #[.int .i64 a0, .int .i64 a1] 29 (0, 0)) ∧ W.heap[w.heap.size + 1]? = some (.cells #[.int .i64 b0, .int .i64 b1] 29 (0, 0)) ∧ W.heap[w.heap.size + 2]? = some (.cells #[.int .i64 0, .int .i64 0] 29 (0, 0)) ∧ Below w.heap.size w W) ⟨blkUp (blkUp (blkA _ _ (by first | rfl | simp only [World.size_alloc])) _) _, blkUp (blkA _ _ (by first | rfl | simp only [World.size_alloc])) _, blkA _ _ (by first | rfl | simp only [World.size_alloc]), (((Below.refl _ _).alloc (by first | exact Nat.le_refl _ | (simp only [World.size_alloc]; omega)) _).alloc (by first | exact Nat.le_refl _ | (simp only [World.size_alloc]; omega)) _).alloc (by first | exact Nat.le_refl _ | (simp only [World.size_alloc]; omega)) _⟩ ?_
  rintro w1 ⟨k0, k1, k2, hB⟩
  have r0 := row_of k0
  have f0 := frozen_of k0
  have z0 := blk_lt k0
  have r1 := row_of k1
  have f1 := frozen_of k1
  have z1 := blk_lt k1
  have r2 := row_of k2
  have f2 := frozen_of k2
  have z2 := blk_lt k2
  go_upto_region 7 with fail
  refine wp_world (fun W => W.heap[w.heap.size]? = some (.cells #[.int .i64 (-2147483648), .int .i64 a1] 29 (0, 0)) ∧ W.heap[w.heap.size + 1]? = some (.cells #[.int .i64 b0, .int .i64 b1] 29 (0, 0)) ∧ W.heap[w.heap.size + 2]? = some (.cells #[.int .i64 0, .int .i64 0] 29 (0, 0)) ∧ Below w.heap.size w W) ⟨seta k0, blk_set k1 (by omega), blk_set k2 (by omega), hB.setCell (p := ⟨w.heap.size, 0, none⟩) (by show w.heap.size ≤ w.heap.size; omega) _⟩ ?_
  clear r0 f0 z0 r1 f1 z1 r2 f2 z2
  clear hB k0 k1 k2
  rintro w2 ⟨k0, k1, k2, hB⟩
  have r0 := row_of k0
  have f0 := frozen_of k0
  have z0 := blk_lt k0
  have r1 := row_of k1
  have f1 := frozen_of k1
  have z1 := blk_lt k1
  have r2 := row_of k2
  have f2 := frozen_of k2
  have z2 := blk_lt k2
  go_wp2_with fail
  generalize hWF : (World.setCell (World.setCell _ _ _) _ _) = WF
  obtain ⟨kF, _, bF, _⟩ := put2 k2 _ _ hWF.symm
  clear r0 f0 z0 r1 f1 z1 r2 f2 z2
  clear hWF
  have rF := row_of kF
  exact bodyPost_ret (v := .agg #[.int .i64 (-2147483648), .int .i64 a1]) (by simp [results, Try.results47, go_sem, rF]) rfl ⟨rfl, hB.trans (bF _ (by show w.heap.size ≤ w.heap.size + 2; omega))⟩
theorem rwiden_5 (a0 a1 b0 b1 : Int) (w : World) (h : a0 ≤ a1) (h2 : b0 ≤ b1) (h3 : a0 ≤ b0) (h4 : a1 < b1) :
    Calls Try.prog 47 #[.agg #[.int .i64 a0, .int .i64 a1], .agg #[.int .i64 b0, .int .i64 b1]] w fun e w' => e = .returned (.agg #[.int .i64 a0, .int .i64 2147483647]) ∧ Below w.heap.size w w' := by
  have hd : decide (a1 < a0) = false := by simp; omega
  have hd2 : decide (b1 < b0) = false := by simp; omega
  have hd3 : decide (b0 < a0) = false := by simp; omega
  have hd4 : decide (a1 < b1) = true := by simp; omega
  clear h h2 h3 h4
  go_enter Try.func47, Try.ntmps47
  go_upto_region 1 with fail
  refine wp_world (fun W => W.heap[w.heap.size]? = some (.cells #[.int .i64 a0, .int .i64 a1] 29 (0, 0)) ∧ W.heap[w.heap.size + 1]? = some (.cells #[.int .i64 b0, .int .i64 b1] 29 (0, 0)) ∧ W.heap[w.heap.size + 2]? = some (.cells #[.int .i64 0, .int .i64 0] 29 (0, 0)) ∧ Below w.heap.size w W) ⟨blkUp (blkUp (blkA _ _ (by first | rfl | simp only [World.size_alloc])) _) _, blkUp (blkA _ _ (by first | rfl | simp only [World.size_alloc])) _, blkA _ _ (by first | rfl | simp only [World.size_alloc]), (((Below.refl _ _).alloc (by first | exact Nat.le_refl _ | (simp only [World.size_alloc]; omega)) _).alloc (by first | exact Nat.le_refl _ | (simp only [World.size_alloc]; omega)) _).alloc (by first | exact Nat.le_refl _ | (simp only [World.size_alloc]; omega)) _⟩ ?_
  rintro w1 ⟨k0, k1, k2, hB⟩
  have r0 := row_of k0
  have f0 := frozen_of k0
  have z0 := blk_lt k0
  have r1 := row_of k1
  have f1 := frozen_of k1
  have z1 := blk_lt k1
  have r2 := row_of k2
  have f2 := frozen_of k2
  have z2 := blk_lt k2
  go_upto_region 9 with fail
  refine wp_world (fun W => W.heap[w.heap.size]? = some (.cells #[.int .i64 a0, .int .i64 2147483647] 29 (0, 0)) ∧ W.heap[w.heap.size + 1]? = some (.cells #[.int .i64 b0, .int .i64 b1] 29 (0, 0)) ∧ W.heap[w.heap.size + 2]? = some (.cells #[.int .i64 0, .int .i64 0] 29 (0, 0)) ∧ Below w.heap.size w W) ⟨setb k0, blk_set k1 (by omega), blk_set k2 (by omega), hB.setCell (p := ⟨w.heap.size, 1, none⟩) (by show w.heap.size ≤ w.heap.size; omega) _⟩ ?_
  clear r0 f0 z0 r1 f1 z1 r2 f2 z2
  clear hB k0 k1 k2
  rintro w2 ⟨k0, k1, k2, hB⟩
  have r0 := row_of k0
  have f0 := frozen_of k0
  have z0 := blk_lt k0
  have r1 := row_of k1
  have f1 := frozen_of k1
  have z1 := blk_lt k1
  have r2 := row_of k2
  have f2 := frozen_of k2
  have z2 := blk_lt k2
  go_wp2_with fail
  generalize hWF : (World.setCell (World.setCell _ _ _) _ _) = WF
  obtain ⟨kF, _, bF, _⟩ := put2 k2 _ _ hWF.symm
  clear r0 f0 z0 r1 f1 z1 r2 f2 z2
  clear hWF
  have rF := row_of kF
  exact bodyPost_ret (v := .agg #[.int .i64 a0, .int .i64 2147483647]) (by simp [results, Try.results47, go_sem, rF]) rfl ⟨rfl, hB.trans (bF _ (by show w.heap.size ≤ w.heap.size + 2; omega))⟩
theorem rwiden_6 (a0 a1 b0 b1 : Int) (w : World) (h : a0 ≤ a1) (h2 : b0 ≤ b1) (h3 : a0 ≤ b0) (h4 : b1 ≤ a1) :
    Calls Try.prog 47 #[.agg #[.int .i64 a0, .int .i64 a1], .agg #[.int .i64 b0, .int .i64 b1]] w fun e w' => e = .returned (.agg #[.int .i64 a0, .int .i64 a1]) ∧ Below w.heap.size w w' := by
  have hd : decide (a1 < a0) = false := by simp; omega
  have hd2 : decide (b1 < b0) = false := by simp; omega
  have hd3 : decide (b0 < a0) = false := by simp; omega
  have hd4 : decide (a1 < b1) = false := by simp; omega
  clear h h2 h3 h4
  go_enter Try.func47, Try.ntmps47
  go_upto_region 1 with fail
  refine wp_world (fun W => W.heap[w.heap.size]? = some (.cells #[.int .i64 a0, .int .i64 a1] 29 (0, 0)) ∧ W.heap[w.heap.size + 1]? = some (.cells #[.int .i64 b0, .int .i64 b1] 29 (0, 0)) ∧ W.heap[w.heap.size + 2]? = some (.cells #[.int .i64 0, .int .i64 0] 29 (0, 0)) ∧ Below w.heap.size w W) ⟨blkUp (blkUp (blkA _ _ (by first | rfl | simp only [World.size_alloc])) _) _, blkUp (blkA _ _ (by first | rfl | simp only [World.size_alloc])) _, blkA _ _ (by first | rfl | simp only [World.size_alloc]), (((Below.refl _ _).alloc (by first | exact Nat.le_refl _ | (simp only [World.size_alloc]; omega)) _).alloc (by first | exact Nat.le_refl _ | (simp only [World.size_alloc]; omega)) _).alloc (by first | exact Nat.le_refl _ | (simp only [World.size_alloc]; omega)) _⟩ ?_
  rintro w1 ⟨k0, k1, k2, hB⟩
  have r0 := row_of k0
  have f0 := frozen_of k0
  have z0 := blk_lt k0
  have r1 := row_of k1
  have f1 := frozen_of k1
  have z1 := blk_lt k1
  have r2 := row_of k2
  have f2 := frozen_of k2
  have z2 := blk_lt k2
  go_wp2_with fail
  generalize hWF : (World.setCell (World.setCell _ _ _) _ _) = WF
  obtain ⟨kF, _, bF, _⟩ := put2 k2 _ _ hWF.symm
  clear r0 f0 z0 r1 f1 z1 r2 f2 z2
  clear hWF
  have rF := row_of kF
  exact bodyPost_ret (v := .agg #[.int .i64 a0, .int .i64 a1]) (by simp [results, Try.results47, go_sem, rF]) rfl ⟨rfl, hB.trans (bF _ (by show w.heap.size ≤ w.heap.size + 2; omega))⟩
theorem rwiden_any (a0 a1 b0 b1 : Int) (w : World) :
    Calls Try.prog 47 #[.agg #[.int .i64 a0, .int .i64 a1], .agg #[.int .i64 b0, .int .i64 b1]] w fun e w' => e = .returned (.agg #[.int .i64 (rwidenP a0 a1 b0 b1).1, .int .i64 (rwidenP a0 a1 b0 b1).2]) ∧ Below w.heap.size w w' := by
  unfold rwidenP
  by_cases h : a1 < a0
  · rw [if_pos h]; exact rwiden_1 a0 a1 b0 b1 w h
  · rw [if_neg h]
    by_cases h2 : b1 < b0
    · rw [if_pos h2]; exact rwiden_2 a0 a1 b0 b1 w (by omega) h2
    · rw [if_neg h2]
      by_cases h3 : b0 < a0 <;> by_cases h4 : a1 < b1
      · rw [if_pos h3, if_pos h4]; exact rwiden_3 a0 a1 b0 b1 w (by omega) (by omega) h3 h4
      · rw [if_pos h3, if_neg h4]; exact rwiden_4 a0 a1 b0 b1 w (by omega) (by omega) h3 (by omega)
      · rw [if_neg h3, if_pos h4]; exact rwiden_5 a0 a1 b0 b1 w (by omega) (by omega) (by omega) h4
      · rw [if_neg h3, if_neg h4]; exact rwiden_6 a0 a1 b0 b1 w (by omega) (by omega) (by omega) (by omega)
end Go.Proofs.Ytgepaajhccadhaa
