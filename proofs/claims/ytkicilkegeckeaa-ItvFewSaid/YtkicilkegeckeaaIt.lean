/-
  Test: those for which a comparison holds.
-/
import Derived.Test.YtkicilkegeckeaaIs
namespace Go.Proofs.Ytkicilkegeckeaa
open Go.RowKit

theorem wr64 (x : Int) (h1 : -9223372036854775808 ≤ x) (h2 : x ≤ 9223372036854775807) : IntKind.i64.wrap x = x := by
  simp [IntKind.wrap, IntKind.bits, IntKind.signed]
  omega
/-- Of one number alone the others. -/
def unlikeP (a0 a1 b0 b1 : Int) : Int × Int := if b0 = b1 then (if b0 = a0 then ofP (a0 + 1) a1 else if b0 = a1 then ofP a0 (a1 - 1) else ofP a0 a1) else ofP a0 a1
def underA (a0 a1 _b0 b1 d : Int) : Int × Int := ofP a0 (mn a1 (b1 - d))
def underB (a0 _a1 b0 b1 d : Int) : Int × Int := ofP (mx b0 (a0 + d)) b1

set_option maxRecDepth 100000 in
theorem unlike_1 (a0 a1 b0 b1 : Int) (w : World) (r1 : -9223372036854775807 ≤ a0) (r2 : a0 ≤ 9223372036854775806) (r3 : -9223372036854775807 ≤ a1) (r4 : a1 ≤ 9223372036854775806) (h : b0 = b1) (h2 : b0 = a0) :
    Calls Try.prog 46 #[.agg #[.int .i64 a0, .int .i64 a1], .agg #[.int .i64 b0, .int .i64 b1]] w fun e w' => e = .returned (.agg #[.int .i64 (ofP (a0 + 1) a1).1, .int .i64 (ofP (a0 + 1) a1).2]) ∧ Below w.heap.size w w' := by
  have hd0 : (b0 == b1) = true := by rw [beq_iff_eq]; omega
  have hd1 : (b0 == a0) = true := by rw [beq_iff_eq]; omega
  have w1 : wrap64 (a0 + 1) = a0 + 1 := by unfold wrap64; omega
  have w2 : wrap64 (a1 - 1) = a1 - 1 := by unfold wrap64; omega
  clear h h2
  go_enter Try.func46, Try.ntmps46
  go_upto_region 1 with fail
  refine wp_world (fun W => W.heap[w.heap.size]? = some (.cells #[.int .i64 a0, .int .i64 a1] 26 (0, 0)) ∧ W.heap[w.heap.size + 1]? = some (.cells #[.int .i64 b0, .int .i64 b1] 26 (0, 0)) ∧ W.heap[w.heap.size + 2]? = some (.cells #[.int .i64 0, .int .i64 0] 26 (0, 0)) ∧ Below w.heap.size w W) ⟨blkUp (blkUp (blkA _ _ (by first | rfl | simp only [World.size_alloc])) _) _, blkUp (blkA _ _ (by first | rfl | simp only [World.size_alloc])) _, blkA _ _ (by first | rfl | simp only [World.size_alloc]), (((Below.refl _ _).alloc (by first | exact Nat.le_refl _ | (simp only [World.size_alloc]; omega)) _).alloc (by first | exact Nat.le_refl _ | (simp only [World.size_alloc]; omega)) _).alloc (by first | exact Nat.le_refl _ | (simp only [World.size_alloc]; omega)) _⟩ ?_
  rintro w1 ⟨k0, k1, k2, hB⟩
  have r0 := row_of k0
  have f0 := frozen_of k0
  have z0 := blk_lt k0
  have r1 := row_of k1
  have f1 := frozen_of k1
  have z1 := blk_lt k1
  have r2 := row_of k2
  have f2 := frozen_of k2
  have z2 := blk_lt k2
  go_upto_region 7 with fail
  refine wp_world (fun W => W.heap[w.heap.size]? = some (.cells #[.int .i64 (a0 + 1), .int .i64 a1] 26 (0, 0)) ∧ W.heap[w.heap.size + 1]? = some (.cells #[.int .i64 b0, .int .i64 b1] 26 (0, 0)) ∧ W.heap[w.heap.size + 2]? = some (.cells #[.int .i64 0, .int .i64 0] 26 (0, 0)) ∧ Below w.heap.size w W) ⟨seta k0, blk_set k1 (by omega), blk_set k2 (by omega), hB.setCell (p := ⟨w.heap.size, 0, none⟩) (by show w.heap.size ≤ w.heap.size; omega) _⟩ ?_
  clear r0 f0 z0 r1 f1 z1 r2 f2 z2
  clear hB k0 k1 k2
  rintro w2 ⟨k0, k1, k2, hB⟩
  have r0 := row_of k0
  have f0 := frozen_of k0
  have z0 := blk_lt k0
  have r1 := row_of k1
  have f1 := frozen_of k1
  have z1 := blk_lt k1
  have r2 := row_of k2
  have f2 := frozen_of k2
  have z2 := blk_lt k2
  go_wp2_with fail
  refine (of_any _ _ _).mono ?_
  rintro e w3 ⟨rfl, hb⟩
  replace k0 := blk_keep hb k0
  replace k1 := blk_keep hb k1
  replace k2 := blk_keep hb k2
  replace hB := hB.trans (hb.mono hB.size)
  clear r0 f0 z0 r1 f1 z1 r2 f2 z2
  clear hb
  have r0 := row_of k0
  have f0 := frozen_of k0
  have z0 := blk_lt k0
  have r1 := row_of k1
  have f1 := frozen_of k1
  have z1 := blk_lt k1
  have r2 := row_of k2
  have f2 := frozen_of k2
  have z2 := blk_lt k2
  go_wp2_with fail
  generalize hWF : (World.setCell (World.setCell _ _ _) _ _) = WF
  obtain ⟨kF, _, bF, _⟩ := put2 k2 _ _ hWF.symm
  clear r0 f0 z0 r1 f1 z1 r2 f2 z2
  clear hWF
  have rF := row_of kF
  exact bodyPost_ret (v := .agg #[.int .i64 (ofP (a0 + 1) a1).1, .int .i64 (ofP (a0 + 1) a1).2]) (by simp [results, Try.results46, go_sem, rF]) rfl ⟨rfl, hB.trans (bF _ (by show w.heap.size ≤ w.heap.size + 2; omega))⟩
set_option maxRecDepth 100000 in
theorem unlike_2 (a0 a1 b0 b1 : Int) (w : World) (r1 : -9223372036854775807 ≤ a0) (r2 : a0 ≤ 9223372036854775806) (r3 : -9223372036854775807 ≤ a1) (r4 : a1 ≤ 9223372036854775806) (h : b0 = b1) (h2 : b0 ≠ a0) (h3 : b0 = a1) :
    Calls Try.prog 46 #[.agg #[.int .i64 a0, .int .i64 a1], .agg #[.int .i64 b0, .int .i64 b1]] w fun e w' => e = .returned (.agg #[.int .i64 (ofP a0 (a1 - 1)).1, .int .i64 (ofP a0 (a1 - 1)).2]) ∧ Below w.heap.size w w' := by
  have hd0 : (b0 == b1) = true := by rw [beq_iff_eq]; omega
  have hd1 : (b0 == a0) = false := by rw [beq_eq_false_iff_ne]; omega
  have hd2 : (b0 == a1) = true := by rw [beq_iff_eq]; omega
  have w1 : wrap64 (a0 + 1) = a0 + 1 := by unfold wrap64; omega
  have w2 : wrap64 (a1 - 1) = a1 - 1 := by unfold wrap64; omega
  clear h h2 h3
  go_enter Try.func46, Try.ntmps46
  go_upto_region 1 with fail
  refine wp_world (fun W => W.heap[w.heap.size]? = some (.cells #[.int .i64 a0, .int .i64 a1] 26 (0, 0)) ∧ W.heap[w.heap.size + 1]? = some (.cells #[.int .i64 b0, .int .i64 b1] 26 (0, 0)) ∧ W.heap[w.heap.size + 2]? = some (.cells #[.int .i64 0, .int .i64 0] 26 (0, 0)) ∧ Below w.heap.size w W) ⟨blkUp (blkUp (blkA _ _ (by first | rfl | simp only [World.size_alloc])) _) _, blkUp (blkA _ _ (by first | rfl | simp only [World.size_alloc])) _, blkA _ _ (by first | rfl | simp only [World.size_alloc]), (((Below.refl _ _).alloc (by first | exact Nat.le_refl _ | (simp only [World.size_alloc]; omega)) _).alloc (by first | exact Nat.le_refl _ | (simp only [World.size_alloc]; omega)) _).alloc (by first | exact Nat.le_refl _ | (simp only [World.size_alloc]; omega)) _⟩ ?_
  rintro w1 ⟨k0, k1, k2, hB⟩
  have r0 := row_of k0
  have f0 := frozen_of k0
  have z0 := blk_lt k0
  have r1 := row_of k1
  have f1 := frozen_of k1
  have z1 := blk_lt k1
  have r2 := row_of k2
  have f2 := frozen_of k2
  have z2 := blk_lt k2
  go_upto_region 7 with fail
  refine wp_world (fun W => W.heap[w.heap.size]? = some (.cells #[.int .i64 a0, .int .i64 (a1 - 1)] 26 (0, 0)) ∧ W.heap[w.heap.size + 1]? = some (.cells #[.int .i64 b0, .int .i64 b1] 26 (0, 0)) ∧ W.heap[w.heap.size + 2]? = some (.cells #[.int .i64 0, .int .i64 0] 26 (0, 0)) ∧ Below w.heap.size w W) ⟨setb k0, blk_set k1 (by omega), blk_set k2 (by omega), hB.setCell (p := ⟨w.heap.size, 1, none⟩) (by show w.heap.size ≤ w.heap.size; omega) _⟩ ?_
  clear r0 f0 z0 r1 f1 z1 r2 f2 z2
  clear hB k0 k1 k2
  rintro w2 ⟨k0, k1, k2, hB⟩
  have r0 := row_of k0
  have f0 := frozen_of k0
  have z0 := blk_lt k0
  have r1 := row_of k1
  have f1 := frozen_of k1
  have z1 := blk_lt k1
  have r2 := row_of k2
  have f2 := frozen_of k2
  have z2 := blk_lt k2
  go_wp2_with fail
  refine (of_any _ _ _).mono ?_
  rintro e w3 ⟨rfl, hb⟩
  replace k0 := blk_keep hb k0
  replace k1 := blk_keep hb k1
  replace k2 := blk_keep hb k2
  replace hB := hB.trans (hb.mono hB.size)
  clear r0 f0 z0 r1 f1 z1 r2 f2 z2
  clear hb
  have r0 := row_of k0
  have f0 := frozen_of k0
  have z0 := blk_lt k0
  have r1 := row_of k1
  have f1 := frozen_of k1
  have z1 := blk_lt k1
  have r2 := row_of k2
  have f2 := frozen_of k2
  have z2 := blk_lt k2
  go_wp2_with fail
  generalize hWF : (World.setCell (World.setCell _ _ _) _ _) = WF
  obtain ⟨kF, _, bF, _⟩ := put2 k2 _ _ hWF.symm
  clear r0 f0 z0 r1 f1 z1 r2 f2 z2
  clear hWF
  have rF := row_of kF
  exact bodyPost_ret (v := .agg #[.int .i64 (ofP a0 (a1 - 1)).1, .int .i64 (ofP a0 (a1 - 1)).2]) (by simp [results, Try.results46, go_sem, rF]) rfl ⟨rfl, hB.trans (bF _ (by show w.heap.size ≤ w.heap.size + 2; omega))⟩
set_option maxRecDepth 100000 in
theorem unlike_3 (a0 a1 b0 b1 : Int) (w : World) (r1 : -9223372036854775807 ≤ a0) (r2 : a0 ≤ 9223372036854775806) (r3 : -9223372036854775807 ≤ a1) (r4 : a1 ≤ 9223372036854775806) (h : b0 = b1) (h2 : b0 ≠ a0) (h3 : b0 ≠ a1) :
    Calls Try.prog 46 #[.agg #[.int .i64 a0, .int .i64 a1], .agg #[.int .i64 b0, .int .i64 b1]] w fun e w' => e = .returned (.agg #[.int .i64 (ofP a0 a1).1, .int .i64 (ofP a0 a1).2]) ∧ Below w.heap.size w w' := by
  have hd0 : (b0 == b1) = true := by rw [beq_iff_eq]; omega
  have hd1 : (b0 == a0) = false := by rw [beq_eq_false_iff_ne]; omega
  have hd2 : (b0 == a1) = false := by rw [beq_eq_false_iff_ne]; omega
  have w1 : wrap64 (a0 + 1) = a0 + 1 := by unfold wrap64; omega
  have w2 : wrap64 (a1 - 1) = a1 - 1 := by unfold wrap64; omega
  clear h h2 h3
  go_enter Try.func46, Try.ntmps46
  go_upto_region 1 with fail
  refine wp_world (fun W => W.heap[w.heap.size]? = some (.cells #[.int .i64 a0, .int .i64 a1] 26 (0, 0)) ∧ W.heap[w.heap.size + 1]? = some (.cells #[.int .i64 b0, .int .i64 b1] 26 (0, 0)) ∧ W.heap[w.heap.size + 2]? = some (.cells #[.int .i64 0, .int .i64 0] 26 (0, 0)) ∧ Below w.heap.size w W) ⟨blkUp (blkUp (blkA _ _ (by first | rfl | simp only [World.size_alloc])) _) _, blkUp (blkA _ _ (by first | rfl | simp only [World.size_alloc])) _, blkA _ _ (by first | rfl | simp only [World.size_alloc]), (((Below.refl _ _).alloc (by first | exact Nat.le_refl _ | (simp only [World.size_alloc]; omega)) _).alloc (by first | exact Nat.le_refl _ | (simp only [World.size_alloc]; omega)) _).alloc (by first | exact Nat.le_refl _ | (simp only [World.size_alloc]; omega)) _⟩ ?_
  rintro w1 ⟨k0, k1, k2, hB⟩
  have r0 := row_of k0
  have f0 := frozen_of k0
  have z0 := blk_lt k0
  have r1 := row_of k1
  have f1 := frozen_of k1
  have z1 := blk_lt k1
  have r2 := row_of k2
  have f2 := frozen_of k2
  have z2 := blk_lt k2
  go_wp2_with fail
  refine (of_any _ _ _).mono ?_
  rintro e w2 ⟨rfl, hb⟩
  replace k0 := blk_keep hb k0
  replace k1 := blk_keep hb k1
  replace k2 := blk_keep hb k2
  replace hB := hB.trans (hb.mono hB.size)
  clear r0 f0 z0 r1 f1 z1 r2 f2 z2
  clear hb
  have r0 := row_of k0
  have f0 := frozen_of k0
  have z0 := blk_lt k0
  have r1 := row_of k1
  have f1 := frozen_of k1
  have z1 := blk_lt k1
  have r2 := row_of k2
  have f2 := frozen_of k2
  have z2 := blk_lt k2
  go_wp2_with fail
  generalize hWF : (World.setCell (World.setCell _ _ _) _ _) = WF
  obtain ⟨kF, _, bF, _⟩ := put2 k2 _ _ hWF.symm
  clear r0 f0 z0 r1 f1 z1 r2 f2 z2
  clear hWF
  have rF := row_of kF
  exact bodyPost_ret (v := .agg #[.int .i64 (ofP a0 a1).1, .int .i64 (ofP a0 a1).2]) (by simp [results, Try.results46, go_sem, rF]) rfl ⟨rfl, hB.trans (bF _ (by show w.heap.size ≤ w.heap.size + 2; omega))⟩
set_option maxRecDepth 100000 in
theorem unlike_4 (a0 a1 b0 b1 : Int) (w : World) (r1 : -9223372036854775807 ≤ a0) (r2 : a0 ≤ 9223372036854775806) (r3 : -9223372036854775807 ≤ a1) (r4 : a1 ≤ 9223372036854775806) (h : b0 ≠ b1) :
    Calls Try.prog 46 #[.agg #[.int .i64 a0, .int .i64 a1], .agg #[.int .i64 b0, .int .i64 b1]] w fun e w' => e = .returned (.agg #[.int .i64 (ofP a0 a1).1, .int .i64 (ofP a0 a1).2]) ∧ Below w.heap.size w w' := by
  have hd0 : (b0 == b1) = false := by rw [beq_eq_false_iff_ne]; omega
  have w1 : wrap64 (a0 + 1) = a0 + 1 := by unfold wrap64; omega
  have w2 : wrap64 (a1 - 1) = a1 - 1 := by unfold wrap64; omega
  clear h
  go_enter Try.func46, Try.ntmps46
  go_upto_region 1 with fail
  refine wp_world (fun W => W.heap[w.heap.size]? = some (.cells #[.int .i64 a0, .int .i64 a1] 26 (0, 0)) ∧ W.heap[w.heap.size + 1]? = some (.cells #[.int .i64 b0, .int .i64 b1] 26 (0, 0)) ∧ W.heap[w.heap.size + 2]? = some (.cells #[.int .i64 0, .int .i64 0] 26 (0, 0)) ∧ Below w.heap.size w W) ⟨blkUp (blkUp (blkA _ _ (by first | rfl | simp only [World.size_alloc])) _) _, blkUp (blkA _ _ (by first | rfl | simp only [World.size_alloc])) _, blkA _ _ (by first | rfl | simp only [World.size_alloc]), (((Below.refl _ _).alloc (by first | exact Nat.le_refl _ | (simp only [World.size_alloc]; omega)) _).alloc (by first | exact Nat.le_refl _ | (simp only [World.size_alloc]; omega)) _).alloc (by first | exact Nat.le_refl _ | (simp only [World.size_alloc]; omega)) _⟩ ?_
  rintro w1 ⟨k0, k1, k2, hB⟩
  have r0 := row_of k0
  have f0 := frozen_of k0
  have z0 := blk_lt k0
  have r1 := row_of k1
  have f1 := frozen_of k1
  have z1 := blk_lt k1
  have r2 := row_of k2
  have f2 := frozen_of k2
  have z2 := blk_lt k2
  go_wp2_with fail
  refine (of_any _ _ _).mono ?_
  rintro e w2 ⟨rfl, hb⟩
  replace k0 := blk_keep hb k0
  replace k1 := blk_keep hb k1
  replace k2 := blk_keep hb k2
  replace hB := hB.trans (hb.mono hB.size)
  clear r0 f0 z0 r1 f1 z1 r2 f2 z2
  clear hb
  have r0 := row_of k0
  have f0 := frozen_of k0
  have z0 := blk_lt k0
  have r1 := row_of k1
  have f1 := frozen_of k1
  have z1 := blk_lt k1
  have r2 := row_of k2
  have f2 := frozen_of k2
  have z2 := blk_lt k2
  go_wp2_with fail
  generalize hWF : (World.setCell (World.setCell _ _ _) _ _) = WF
  obtain ⟨kF, _, bF, _⟩ := put2 k2 _ _ hWF.symm
  clear r0 f0 z0 r1 f1 z1 r2 f2 z2
  clear hWF
  have rF := row_of kF
  exact bodyPost_ret (v := .agg #[.int .i64 (ofP a0 a1).1, .int .i64 (ofP a0 a1).2]) (by simp [results, Try.results46, go_sem, rF]) rfl ⟨rfl, hB.trans (bF _ (by show w.heap.size ≤ w.heap.size + 2; omega))⟩
theorem unlike_any (a0 a1 b0 b1 : Int) (w : World) (r1 : -9223372036854775807 ≤ a0) (r2 : a0 ≤ 9223372036854775806) (r3 : -9223372036854775807 ≤ a1) (r4 : a1 ≤ 9223372036854775806) :
    Calls Try.prog 46 #[.agg #[.int .i64 a0, .int .i64 a1], .agg #[.int .i64 b0, .int .i64 b1]] w fun e w' => e = .returned (.agg #[.int .i64 (unlikeP a0 a1 b0 b1).1, .int .i64 (unlikeP a0 a1 b0 b1).2]) ∧ Below w.heap.size w w' := by
  unfold unlikeP
  by_cases h : b0 = b1
  · rw [if_pos h]
    by_cases h2 : b0 = a0
    · rw [if_pos h2]; exact unlike_1 a0 a1 b0 b1 w r1 r2 r3 r4 h h2
    · rw [if_neg h2]
      by_cases h3 : b0 = a1
      · rw [if_pos h3]; exact unlike_2 a0 a1 b0 b1 w r1 r2 r3 r4 h h2 h3
      · rw [if_neg h3]; exact unlike_3 a0 a1 b0 b1 w r1 r2 r3 r4 h h2 h3
  · rw [if_neg h]; exact unlike_4 a0 a1 b0 b1 w r1 r2 r3 r4 h
set_option maxRecDepth 100000 in
set_option maxHeartbeats 4000000 in
theorem under_any (a0 a1 b0 b1 d : Int) (w : World) (r1 : -9223372036854775807 ≤ a0) (r2 : a0 ≤ 9223372036854775806) (r3 : -9223372036854775807 ≤ b1) (r4 : b1 ≤ 9223372036854775806) (d0 : 0 ≤ d) (d1 : d ≤ 1) :
    Calls Try.prog 47 #[.agg #[.int .i64 a0, .int .i64 a1], .agg #[.int .i64 b0, .int .i64 b1], .int .i64 d] w fun e w' => e = .returned (.tuple #[.agg #[.int .i64 (underA a0 a1 b0 b1 d).1, .int .i64 (underA a0 a1 b0 b1 d).2], .agg #[.int .i64 (underB a0 a1 b0 b1 d).1, .int .i64 (underB a0 a1 b0 b1 d).2]]) ∧ Below w.heap.size w w' := by
  unfold underA underB
  have w1 : IntKind.i64.wrap (a0 + d) = a0 + d := wr64 _ (by omega) (by omega)
  have w2 : IntKind.i64.wrap (b1 - d) = b1 - d := wr64 _ (by omega) (by omega)
  have hm : (if b1 - d < a1 then b1 - d else a1) = mn a1 (b1 - d) := rfl
  have hM : (if b0 < a0 + d then a0 + d else b0) = mx b0 (a0 + d) := rfl
  generalize hgm : mn a1 (b1 - d) = mm at *
  generalize hgM : mx b0 (a0 + d) = MM at *
  clear hgm hgM r1 r2 r3 r4 d0 d1
  go_enter Try.func47, Try.ntmps47
  go_upto_region 1 with fail
  refine wp_world (fun W => W.heap[w.heap.size]? = some (.cells #[.int .i64 a0, .int .i64 a1] 26 (0, 0)) ∧ W.heap[w.heap.size + 1]? = some (.cells #[.int .i64 b0, .int .i64 b1] 26 (0, 0)) ∧ W.heap[w.heap.size + 2]? = some (.cells #[.int .i64 0, .int .i64 0] 26 (0, 0)) ∧ W.heap[w.heap.size + 3]? = some (.cells #[.int .i64 0, .int .i64 0] 26 (0, 0)) ∧ Below w.heap.size w W) ⟨blkUp (blkUp (blkUp (blkA _ _ (by first | rfl | simp only [World.size_alloc])) _) _) _, blkUp (blkUp (blkA _ _ (by first | rfl | simp only [World.size_alloc])) _) _, blkUp (blkA _ _ (by first | rfl | simp only [World.size_alloc])) _, blkA _ _ (by first | rfl | simp only [World.size_alloc]), ((((Below.refl _ _).alloc (by first | exact Nat.le_refl _ | (simp only [World.size_alloc]; omega)) _).alloc (by first | exact Nat.le_refl _ | (simp only [World.size_alloc]; omega)) _).alloc (by first | exact Nat.le_refl _ | (simp only [World.size_alloc]; omega)) _).alloc (by first | exact Nat.le_refl _ | (simp only [World.size_alloc]; omega)) _⟩ ?_
  rintro w1 ⟨k0, k1, k2, k3, hB⟩
  have r0 := row_of k0
  have f0 := frozen_of k0
  have z0 := blk_lt k0
  have r1 := row_of k1
  have f1 := frozen_of k1
  have z1 := blk_lt k1
  have r2 := row_of k2
  have f2 := frozen_of k2
  have z2 := blk_lt k2
  have r3 := row_of k3
  have f3 := frozen_of k3
  have z3 := blk_lt k3
  have c1 := fun W => of_any a0 mm W
  have c2 := fun W => of_any MM b1 W
  replace c1 := Lib.hid c1
  replace c2 := Lib.hid c2
  clear r0 f0 z0 r1 f1 z1 r2 f2 z2 r3 f3 z3
  have zB : w.heap.size + 2 ≤ w1.heap.size := Nat.le_of_lt (blk_lt k2)
  have mkS := four_B k0 k1 (B := w.heap.size + 2) (by omega) (by omega)
  have hBn := Below.refl (w.heap.size + 2) w1
  have s2 := k2
  have y2 : w.heap.size + 2 ≤ w.heap.size + 2 := by omega
  have s3 := k3
  have y3 : w.heap.size + 2 ≤ w.heap.size + 3 := by omega
  clear k0
  clear k1
  clear k2
  clear k3
  go_region_held3 (fun W => W.cell? ⟨w.heap.size, 0, none⟩ = some (.int .i64 a0) ∧ W.cell? ⟨w.heap.size, 1, none⟩ = some (.int .i64 a1) ∧ W.cell? ⟨w.heap.size + 1, 0, none⟩ = some (.int .i64 b0) ∧ W.cell? ⟨w.heap.size + 1, 1, none⟩ = some (.int .i64 b1))
      (first | (with_reducible exact mkS _ (hBn)) | (with_reducible exact mkS _ (Below.drew hBn)) | (with_reducible exact mkS _ (put_B hBn y2)) | (with_reducible exact mkS _ (put_B (put_B hBn y2) y3)))
      (first
        | (go_at_call 20; refine (of_any _ _ _).mono ?_; rintro e wn ⟨rfl, hbS⟩; (try (with_reducible replace hbS := below_undrew hbS)); replace hBn := tr_B hBn zB hbS; replace s2 := blk_keep hbS s2; have r2 := row_of s2; have f2 := frozen_of s2; have l2 := blk_lt s2; replace s3 := blk_keep hbS s3; have r3 := row_of s3; have f3 := frozen_of s3; have l3 := blk_lt s3))
  all_goals
    replace hB := hB.trans (hBn.mono (by omega))
    have k2 := s2
    have k3 := s3
    go_wp2_with fail
    generalize hWF : (World.setCell (World.setCell (World.setCell (World.setCell _ _ _) _ _) _ _) _ _) = WF
    obtain ⟨kF, kG, bF⟩ := put22 (by omega) k2 k3 _ _ _ _ hWF.symm
    clear hWF
    have rF := row_of kF
    have rG := row_of kG
    exact bodyPost_ret (v := .tuple #[.agg #[.int .i64 (ofP a0 mm).1, .int .i64 (ofP a0 mm).2], .agg #[.int .i64 (ofP MM b1).1, .int .i64 (ofP MM b1).2]]) (by simp [results, Try.results47, go_sem, rF, rG]) rfl ⟨rfl, hB.trans (bF _ (by show w.heap.size ≤ w.heap.size + 2; omega) (by show w.heap.size ≤ w.heap.size + 3; omega))⟩
end Go.Proofs.Ytkicilkegeckeaa
