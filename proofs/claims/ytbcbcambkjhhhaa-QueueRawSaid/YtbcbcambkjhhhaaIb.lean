/-
  itv's and the reference's calls of two: within, either, both, as far as may be, back again.
-/
import Derived.Test.YtbcbcambkjhhhaaIa
namespace Go.Proofs.Ytbcbcambkjhhhaa
open Go.RowKit

def withinB (a0 a1 b0 b1 : Int) : Bool := decide (a1 < a0) || (decide (b0 ≤ a0) && decide (a1 ≤ b1))
def joinP (a0 a1 b0 b1 : Int) : Int × Int := if a1 < a0 then ofP b0 b1 else if b1 < b0 then ofP a0 a1 else ofP (mn a0 b0) (mx a1 b1)
def meetP (a0 a1 b0 b1 : Int) : Int × Int := ofP (mx a0 b0) (mn a1 b1)
def widenP (a0 a1 b0 b1 : Int) : Int × Int := if a1 < a0 ∨ b1 < b0 then joinP a0 a1 b0 b1 else (if b0 < a0 then -2147483648 else (joinP a0 a1 b0 b1).1, if a1 < b1 then 2147483647 else (joinP a0 a1 b0 b1).2)
def narrowP (a0 a1 b0 b1 : Int) : Int × Int := if a1 < a0 ∨ b1 < b0 then (1, 0) else ofP (if a0 = -2147483648 then b0 else a0) (if a1 = 2147483647 then b1 else a1)
def rjoinP (a0 a1 b0 b1 : Int) : Int × Int := if a1 < a0 then nrm b0 b1 else if b1 < b0 then (a0, a1) else (mn a0 b0, mx a1 b1)
def rwidenP (a0 a1 b0 b1 : Int) : Int × Int := if a1 < a0 then nrm b0 b1 else if b1 < b0 then (a0, a1) else (if b0 < a0 then -2147483648 else a0, if a1 < b1 then 2147483647 else a1)
def rnarrowP (a0 a1 b0 b1 : Int) : Int × Int := if a1 < a0 ∨ b1 < b0 then (1, 0) else nrm (if a0 = -2147483648 then b0 else a0) (if a1 = 2147483647 then b1 else a1)

theorem within_1 (a0 a1 b0 b1 : Int) (w : World) (h : a1 < a0) :
    Calls Try.prog 79 #[.agg #[.int .i64 a0, .int .i64 a1], .agg #[.int .i64 b0, .int .i64 b1]] w fun e w' => e = .returned (.bool true) ∧ Below w.heap.size w w' := by
  go_enter Try.func79, Try.ntmps79
  go_upto_region 1 with fail
  refine wp_world (fun W => W.heap[w.heap.size]? = some (.cells #[.int .i64 a0, .int .i64 a1] 48 (0, 0)) ∧ W.heap[w.heap.size + 1]? = some (.cells #[.int .i64 b0, .int .i64 b1] 48 (0, 0)) ∧ Below w.heap.size w W) ⟨blkUp (blkA _ _ (by first | rfl | simp only [World.size_alloc])) _, blkA _ _ (by first | rfl | simp only [World.size_alloc]), ((Below.refl _ _).alloc (by first | exact Nat.le_refl _ | (simp only [World.size_alloc]; omega)) _).alloc (by first | exact Nat.le_refl _ | (simp only [World.size_alloc]; omega)) _⟩ ?_
  rintro w1 ⟨k0, k1, hB⟩
  have r0 := row_of k0
  have f0 := frozen_of k0
  have z0 := blk_lt k0
  have r1 := row_of k1
  have f1 := frozen_of k1
  have z1 := blk_lt k1
  have hd : decide (a1 < a0) = true := by simp; omega
  go_wp2_with fail
  refine (empty_any _ _ _).mono ?_
  rintro e w2 ⟨rfl, hb⟩
  replace k0 := blk_keep hb k0
  replace k1 := blk_keep hb k1
  replace hB := hB.trans (hb.mono hB.size)
  clear r0 f0 z0 r1 f1 z1
  clear hb
  have r0 := row_of k0
  have f0 := frozen_of k0
  have z0 := blk_lt k0
  have r1 := row_of k1
  have f1 := frozen_of k1
  have z1 := blk_lt k1
  go_wp2_with fail
  go_ret
  exact ⟨by simp, hB⟩
theorem within_2 (a0 a1 b0 b1 : Int) (w : World) (h : a0 ≤ a1) (h2 : a0 < b0) :
    Calls Try.prog 79 #[.agg #[.int .i64 a0, .int .i64 a1], .agg #[.int .i64 b0, .int .i64 b1]] w fun e w' => e = .returned (.bool (false)) ∧ Below w.heap.size w w' := by
  go_enter Try.func79, Try.ntmps79
  go_upto_region 1 with fail
  refine wp_world (fun W => W.heap[w.heap.size]? = some (.cells #[.int .i64 a0, .int .i64 a1] 48 (0, 0)) ∧ W.heap[w.heap.size + 1]? = some (.cells #[.int .i64 b0, .int .i64 b1] 48 (0, 0)) ∧ Below w.heap.size w W) ⟨blkUp (blkA _ _ (by first | rfl | simp only [World.size_alloc])) _, blkA _ _ (by first | rfl | simp only [World.size_alloc]), ((Below.refl _ _).alloc (by first | exact Nat.le_refl _ | (simp only [World.size_alloc]; omega)) _).alloc (by first | exact Nat.le_refl _ | (simp only [World.size_alloc]; omega)) _⟩ ?_
  rintro w1 ⟨k0, k1, hB⟩
  have r0 := row_of k0
  have f0 := frozen_of k0
  have z0 := blk_lt k0
  have r1 := row_of k1
  have f1 := frozen_of k1
  have z1 := blk_lt k1
  have hd : decide (a1 < a0) = false := by simp; omega
  have hd2 : decide (b0 ≤ a0) = false := by simp; omega
  go_wp2_with fail
  refine (empty_any _ _ _).mono ?_
  rintro e w2 ⟨rfl, hb⟩
  replace k0 := blk_keep hb k0
  replace k1 := blk_keep hb k1
  replace hB := hB.trans (hb.mono hB.size)
  clear r0 f0 z0 r1 f1 z1
  clear hb
  have r0 := row_of k0
  have f0 := frozen_of k0
  have z0 := blk_lt k0
  have r1 := row_of k1
  have f1 := frozen_of k1
  have z1 := blk_lt k1
  go_wp2_with fail
  go_ret
  exact ⟨by simp, hB⟩
theorem within_3 (a0 a1 b0 b1 : Int) (w : World) (h : a0 ≤ a1) (h2 : b0 ≤ a0) :
    Calls Try.prog 79 #[.agg #[.int .i64 a0, .int .i64 a1], .agg #[.int .i64 b0, .int .i64 b1]] w fun e w' => e = .returned (.bool (decide (a1 ≤ b1))) ∧ Below w.heap.size w w' := by
  go_enter Try.func79, Try.ntmps79
  go_upto_region 1 with fail
  refine wp_world (fun W => W.heap[w.heap.size]? = some (.cells #[.int .i64 a0, .int .i64 a1] 48 (0, 0)) ∧ W.heap[w.heap.size + 1]? = some (.cells #[.int .i64 b0, .int .i64 b1] 48 (0, 0)) ∧ Below w.heap.size w W) ⟨blkUp (blkA _ _ (by first | rfl | simp only [World.size_alloc])) _, blkA _ _ (by first | rfl | simp only [World.size_alloc]), ((Below.refl _ _).alloc (by first | exact Nat.le_refl _ | (simp only [World.size_alloc]; omega)) _).alloc (by first | exact Nat.le_refl _ | (simp only [World.size_alloc]; omega)) _⟩ ?_
  rintro w1 ⟨k0, k1, hB⟩
  have r0 := row_of k0
  have f0 := frozen_of k0
  have z0 := blk_lt k0
  have r1 := row_of k1
  have f1 := frozen_of k1
  have z1 := blk_lt k1
  have hd : decide (a1 < a0) = false := by simp; omega
  have hd2 : decide (b0 ≤ a0) = true := by simp; omega
  go_wp2_with fail
  refine (empty_any _ _ _).mono ?_
  rintro e w2 ⟨rfl, hb⟩
  replace k0 := blk_keep hb k0
  replace k1 := blk_keep hb k1
  replace hB := hB.trans (hb.mono hB.size)
  clear r0 f0 z0 r1 f1 z1
  clear hb
  have r0 := row_of k0
  have f0 := frozen_of k0
  have z0 := blk_lt k0
  have r1 := row_of k1
  have f1 := frozen_of k1
  have z1 := blk_lt k1
  go_wp2_with fail
  go_ret
  exact ⟨by simp, hB⟩
theorem within_any (a0 a1 b0 b1 : Int) (w : World) :
    Calls Try.prog 79 #[.agg #[.int .i64 a0, .int .i64 a1], .agg #[.int .i64 b0, .int .i64 b1]] w fun e w' => e = .returned (.bool (withinB a0 a1 b0 b1)) ∧ Below w.heap.size w w' := by
  unfold withinB
  by_cases h : a1 < a0
  · simpa [h] using within_1 a0 a1 b0 b1 w h
  · by_cases h2 : b0 ≤ a0
    · simpa [h, h2] using within_3 a0 a1 b0 b1 w (by omega) h2
    · simpa [h, h2] using within_2 a0 a1 b0 b1 w (by omega) (by omega)
theorem join_1 (a0 a1 b0 b1 : Int) (w : World) (h : a1 < a0) :
    Calls Try.prog 70 #[.agg #[.int .i64 a0, .int .i64 a1], .agg #[.int .i64 b0, .int .i64 b1]] w fun e w' => e = .returned (.agg #[.int .i64 (ofP b0 b1).1, .int .i64 (ofP b0 b1).2]) ∧ Below w.heap.size w w' := by
  go_enter Try.func70, Try.ntmps70
  go_upto_region 1 with fail
  refine wp_world (fun W => W.heap[w.heap.size]? = some (.cells #[.int .i64 a0, .int .i64 a1] 48 (0, 0)) ∧ W.heap[w.heap.size + 1]? = some (.cells #[.int .i64 b0, .int .i64 b1] 48 (0, 0)) ∧ W.heap[w.heap.size + 2]? = some (.cells #[.int .i64 0, .int .i64 0] 48 (0, 0)) ∧ Below w.heap.size w W) ⟨blkUp (blkUp (blkA _ _ (by first | rfl | simp only [World.size_alloc])) _) _, blkUp (blkA _ _ (by first | rfl | simp only [World.size_alloc])) _, blkA _ _ (by first | rfl | simp only [World.size_alloc]), (((Below.refl _ _).alloc (by first | exact Nat.le_refl _ | (simp only [World.size_alloc]; omega)) _).alloc (by first | exact Nat.le_refl _ | (simp only [World.size_alloc]; omega)) _).alloc (by first | exact Nat.le_refl _ | (simp only [World.size_alloc]; omega)) _⟩ ?_
  rintro w1 ⟨k0, k1, k2, hB⟩
  have r0 := row_of k0
  have f0 := frozen_of k0
  have z0 := blk_lt k0
  have r1 := row_of k1
  have f1 := frozen_of k1
  have z1 := blk_lt k1
  have r2 := row_of k2
  have f2 := frozen_of k2
  have z2 := blk_lt k2
  have hd : decide (a1 < a0) = true := by simp; omega
  go_wp2_with fail
  refine (empty_any _ _ _).mono ?_
  rintro e w2 ⟨rfl, hb⟩
  replace k0 := blk_keep hb k0
  replace k1 := blk_keep hb k1
  replace k2 := blk_keep hb k2
  replace hB := hB.trans (hb.mono hB.size)
  clear r0 f0 z0 r1 f1 z1 r2 f2 z2
  clear hb
  have r0 := row_of k0
  have f0 := frozen_of k0
  have z0 := blk_lt k0
  have r1 := row_of k1
  have f1 := frozen_of k1
  have z1 := blk_lt k1
  have r2 := row_of k2
  have f2 := frozen_of k2
  have z2 := blk_lt k2
  go_wp2_with fail
  refine (of_any _ _ _).mono ?_
  rintro e w3 ⟨rfl, hb⟩
  replace k0 := blk_keep hb k0
  replace k1 := blk_keep hb k1
  replace k2 := blk_keep hb k2
  replace hB := hB.trans (hb.mono hB.size)
  clear r0 f0 z0 r1 f1 z1 r2 f2 z2
  clear hb
  have r0 := row_of k0
  have f0 := frozen_of k0
  have z0 := blk_lt k0
  have r1 := row_of k1
  have f1 := frozen_of k1
  have z1 := blk_lt k1
  have r2 := row_of k2
  have f2 := frozen_of k2
  have z2 := blk_lt k2
  go_wp2_with fail
  generalize hWF : (World.setCell (World.setCell _ _ _) _ _) = WF
  obtain ⟨kF, _, bF, _⟩ := put2 k2 _ _ hWF.symm
  clear r0 f0 z0 r1 f1 z1 r2 f2 z2
  clear hWF
  have rF := row_of kF
  exact bodyPost_ret (v := .agg #[.int .i64 (ofP b0 b1).1, .int .i64 (ofP b0 b1).2]) (by simp [results, Try.results70, go_sem, rF]) rfl ⟨rfl, hB.trans (bF _ (by show w.heap.size ≤ w.heap.size + 2; omega))⟩
theorem join_2 (a0 a1 b0 b1 : Int) (w : World) (h : a0 ≤ a1) (h2 : b1 < b0) :
    Calls Try.prog 70 #[.agg #[.int .i64 a0, .int .i64 a1], .agg #[.int .i64 b0, .int .i64 b1]] w fun e w' => e = .returned (.agg #[.int .i64 (ofP a0 a1).1, .int .i64 (ofP a0 a1).2]) ∧ Below w.heap.size w w' := by
  go_enter Try.func70, Try.ntmps70
  go_upto_region 1 with fail
  refine wp_world (fun W => W.heap[w.heap.size]? = some (.cells #[.int .i64 a0, .int .i64 a1] 48 (0, 0)) ∧ W.heap[w.heap.size + 1]? = some (.cells #[.int .i64 b0, .int .i64 b1] 48 (0, 0)) ∧ W.heap[w.heap.size + 2]? = some (.cells #[.int .i64 0, .int .i64 0] 48 (0, 0)) ∧ Below w.heap.size w W) ⟨blkUp (blkUp (blkA _ _ (by first | rfl | simp only [World.size_alloc])) _) _, blkUp (blkA _ _ (by first | rfl | simp only [World.size_alloc])) _, blkA _ _ (by first | rfl | simp only [World.size_alloc]), (((Below.refl _ _).alloc (by first | exact Nat.le_refl _ | (simp only [World.size_alloc]; omega)) _).alloc (by first | exact Nat.le_refl _ | (simp only [World.size_alloc]; omega)) _).alloc (by first | exact Nat.le_refl _ | (simp only [World.size_alloc]; omega)) _⟩ ?_
  rintro w1 ⟨k0, k1, k2, hB⟩
  have r0 := row_of k0
  have f0 := frozen_of k0
  have z0 := blk_lt k0
  have r1 := row_of k1
  have f1 := frozen_of k1
  have z1 := blk_lt k1
  have r2 := row_of k2
  have f2 := frozen_of k2
  have z2 := blk_lt k2
  have hd : decide (a1 < a0) = false := by simp; omega
  have hd2 : decide (b1 < b0) = true := by simp; omega
  go_wp2_with fail
  refine (empty_any _ _ _).mono ?_
  rintro e w2 ⟨rfl, hb⟩
  replace k0 := blk_keep hb k0
  replace k1 := blk_keep hb k1
  replace k2 := blk_keep hb k2
  replace hB := hB.trans (hb.mono hB.size)
  clear r0 f0 z0 r1 f1 z1 r2 f2 z2
  clear hb
  have r0 := row_of k0
  have f0 := frozen_of k0
  have z0 := blk_lt k0
  have r1 := row_of k1
  have f1 := frozen_of k1
  have z1 := blk_lt k1
  have r2 := row_of k2
  have f2 := frozen_of k2
  have z2 := blk_lt k2
  go_wp2_with fail
  refine (empty_any _ _ _).mono ?_
  rintro e w3 ⟨rfl, hb⟩
  replace k0 := blk_keep hb k0
  replace k1 := blk_keep hb k1
  replace k2 := blk_keep hb k2
  replace hB := hB.trans (hb.mono hB.size)
  clear r0 f0 z0 r1 f1 z1 r2 f2 z2
  clear hb
  have r0 := row_of k0
  have f0 := frozen_of k0
  have z0 := blk_lt k0
  have r1 := row_of k1
  have f1 := frozen_of k1
  have z1 := blk_lt k1
  have r2 := row_of k2
  have f2 := frozen_of k2
  have z2 := blk_lt k2
  go_wp2_with fail
  refine (of_any _ _ _).mono ?_
  rintro e w4 ⟨rfl, hb⟩
  replace k0 := blk_keep hb k0
  replace k1 := blk_keep hb k1
  replace k2 := blk_keep hb k2
  replace hB := hB.trans (hb.mono hB.size)
  clear r0 f0 z0 r1 f1 z1 r2 f2 z2
  clear hb
  have r0 := row_of k0
  have f0 := frozen_of k0
  have z0 := blk_lt k0
  have r1 := row_of k1
  have f1 := frozen_of k1
  have z1 := blk_lt k1
  have r2 := row_of k2
  have f2 := frozen_of k2
  have z2 := blk_lt k2
  go_wp2_with fail
  generalize hWF : (World.setCell (World.setCell _ _ _) _ _) = WF
  obtain ⟨kF, _, bF, _⟩ := put2 k2 _ _ hWF.symm
  clear r0 f0 z0 r1 f1 z1 r2 f2 z2
  clear hWF
  have rF := row_of kF
  exact bodyPost_ret (v := .agg #[.int .i64 (ofP a0 a1).1, .int .i64 (ofP a0 a1).2]) (by simp [results, Try.results70, go_sem, rF]) rfl ⟨rfl, hB.trans (bF _ (by show w.heap.size ≤ w.heap.size + 2; omega))⟩
theorem join_3 (a0 a1 b0 b1 : Int) (w : World) (h : a0 ≤ a1) (h2 : b0 ≤ b1) :
    Calls Try.prog 70 #[.agg #[.int .i64 a0, .int .i64 a1], .agg #[.int .i64 b0, .int .i64 b1]] w fun e w' => e = .returned (.agg #[.int .i64 (ofP (mn a0 b0) (mx a1 b1)).1, .int .i64 (ofP (mn a0 b0) (mx a1 b1)).2]) ∧ Below w.heap.size w w' := by
  go_enter Try.func70, Try.ntmps70
  go_upto_region 1 with fail
  refine wp_world (fun W => W.heap[w.heap.size]? = some (.cells #[.int .i64 a0, .int .i64 a1] 48 (0, 0)) ∧ W.heap[w.heap.size + 1]? = some (.cells #[.int .i64 b0, .int .i64 b1] 48 (0, 0)) ∧ W.heap[w.heap.size + 2]? = some (.cells #[.int .i64 0, .int .i64 0] 48 (0, 0)) ∧ Below w.heap.size w W) ⟨blkUp (blkUp (blkA _ _ (by first | rfl | simp only [World.size_alloc])) _) _, blkUp (blkA _ _ (by first | rfl | simp only [World.size_alloc])) _, blkA _ _ (by first | rfl | simp only [World.size_alloc]), (((Below.refl _ _).alloc (by first | exact Nat.le_refl _ | (simp only [World.size_alloc]; omega)) _).alloc (by first | exact Nat.le_refl _ | (simp only [World.size_alloc]; omega)) _).alloc (by first | exact Nat.le_refl _ | (simp only [World.size_alloc]; omega)) _⟩ ?_
  rintro w1 ⟨k0, k1, k2, hB⟩
  have r0 := row_of k0
  have f0 := frozen_of k0
  have z0 := blk_lt k0
  have r1 := row_of k1
  have f1 := frozen_of k1
  have z1 := blk_lt k1
  have r2 := row_of k2
  have f2 := frozen_of k2
  have z2 := blk_lt k2
  have hd : decide (a1 < a0) = false := by simp; omega
  have hd2 : decide (b1 < b0) = false := by simp; omega
  go_wp2_with fail
  refine (empty_any _ _ _).mono ?_
  rintro e w2 ⟨rfl, hb⟩
  replace k0 := blk_keep hb k0
  replace k1 := blk_keep hb k1
  replace k2 := blk_keep hb k2
  replace hB := hB.trans (hb.mono hB.size)
  clear r0 f0 z0 r1 f1 z1 r2 f2 z2
  clear hb
  have r0 := row_of k0
  have f0 := frozen_of k0
  have z0 := blk_lt k0
  have r1 := row_of k1
  have f1 := frozen_of k1
  have z1 := blk_lt k1
  have r2 := row_of k2
  have f2 := frozen_of k2
  have z2 := blk_lt k2
  go_wp2_with fail
  refine (empty_any _ _ _).mono ?_
  rintro e w3 ⟨rfl, hb⟩
  replace k0 := blk_keep hb k0
  replace k1 := blk_keep hb k1
  replace k2 := blk_keep hb k2
  replace hB := hB.trans (hb.mono hB.size)
  clear r0 f0 z0 r1 f1 z1 r2 f2 z2
  clear hb
  have r0 := row_of k0
  have f0 := frozen_of k0
  have z0 := blk_lt k0
  have r1 := row_of k1
  have f1 := frozen_of k1
  have z1 := blk_lt k1
  have r2 := row_of k2
  have f2 := frozen_of k2
  have z2 := blk_lt k2
  have hm : (if b0 < a0 then b0 else a0) = mn a0 b0 := rfl
  have hM : (if a1 < b1 then b1 else a1) = mx a1 b1 := rfl
  go_wp2_with fail
  refine (of_any _ _ _).mono ?_
  rintro e w4 ⟨rfl, hb⟩
  replace k0 := blk_keep hb k0
  replace k1 := blk_keep hb k1
  replace k2 := blk_keep hb k2
  replace hB := hB.trans (hb.mono hB.size)
  clear r0 f0 z0 r1 f1 z1 r2 f2 z2
  clear hb
  have r0 := row_of k0
  have f0 := frozen_of k0
  have z0 := blk_lt k0
  have r1 := row_of k1
  have f1 := frozen_of k1
  have z1 := blk_lt k1
  have r2 := row_of k2
  have f2 := frozen_of k2
  have z2 := blk_lt k2
  go_wp2_with fail
  generalize hWF : (World.setCell (World.setCell _ _ _) _ _) = WF
  obtain ⟨kF, _, bF, _⟩ := put2 k2 _ _ hWF.symm
  clear r0 f0 z0 r1 f1 z1 r2 f2 z2
  clear hWF
  have rF := row_of kF
  exact bodyPost_ret (v := .agg #[.int .i64 (ofP (mn a0 b0) (mx a1 b1)).1, .int .i64 (ofP (mn a0 b0) (mx a1 b1)).2]) (by simp [results, Try.results70, go_sem, rF]) rfl ⟨rfl, hB.trans (bF _ (by show w.heap.size ≤ w.heap.size + 2; omega))⟩
theorem join_any (a0 a1 b0 b1 : Int) (w : World) :
    Calls Try.prog 70 #[.agg #[.int .i64 a0, .int .i64 a1], .agg #[.int .i64 b0, .int .i64 b1]] w fun e w' => e = .returned (.agg #[.int .i64 (joinP a0 a1 b0 b1).1, .int .i64 (joinP a0 a1 b0 b1).2]) ∧ Below w.heap.size w w' := by
  unfold joinP
  by_cases h : a1 < a0
  · simpa [h] using join_1 a0 a1 b0 b1 w h
  · by_cases h2 : b1 < b0
    · simpa [h, h2] using join_2 a0 a1 b0 b1 w (by omega) h2
    · simpa [h, h2] using join_3 a0 a1 b0 b1 w (by omega) (by omega)
theorem meet_any (a0 a1 b0 b1 : Int) (w : World) :
    Calls Try.prog 119 #[.agg #[.int .i64 a0, .int .i64 a1], .agg #[.int .i64 b0, .int .i64 b1]] w fun e w' => e = .returned (.agg #[.int .i64 (meetP a0 a1 b0 b1).1, .int .i64 (meetP a0 a1 b0 b1).2]) ∧ Below w.heap.size w w' := by
  go_enter Try.func119, Try.ntmps119
  unfold meetP
  go_upto_region 1 with fail
  refine wp_world (fun W => W.heap[w.heap.size]? = some (.cells #[.int .i64 a0, .int .i64 a1] 48 (0, 0)) ∧ W.heap[w.heap.size + 1]? = some (.cells #[.int .i64 b0, .int .i64 b1] 48 (0, 0)) ∧ W.heap[w.heap.size + 2]? = some (.cells #[.int .i64 0, .int .i64 0] 48 (0, 0)) ∧ Below w.heap.size w W) ⟨blkUp (blkUp (blkA _ _ (by first | rfl | simp only [World.size_alloc])) _) _, blkUp (blkA _ _ (by first | rfl | simp only [World.size_alloc])) _, blkA _ _ (by first | rfl | simp only [World.size_alloc]), (((Below.refl _ _).alloc (by first | exact Nat.le_refl _ | (simp only [World.size_alloc]; omega)) _).alloc (by first | exact Nat.le_refl _ | (simp only [World.size_alloc]; omega)) _).alloc (by first | exact Nat.le_refl _ | (simp only [World.size_alloc]; omega)) _⟩ ?_
  rintro w1 ⟨k0, k1, k2, hB⟩
  have r0 := row_of k0
  have f0 := frozen_of k0
  have z0 := blk_lt k0
  have r1 := row_of k1
  have f1 := frozen_of k1
  have z1 := blk_lt k1
  have r2 := row_of k2
  have f2 := frozen_of k2
  have z2 := blk_lt k2
  have hm : (if a0 < b0 then b0 else a0) = mx a0 b0 := rfl
  have hM : (if b1 < a1 then b1 else a1) = mn a1 b1 := rfl
  go_wp2_with fail
  refine (of_any _ _ _).mono ?_
  rintro e w2 ⟨rfl, hb⟩
  replace k0 := blk_keep hb k0
  replace k1 := blk_keep hb k1
  replace k2 := blk_keep hb k2
  replace hB := hB.trans (hb.mono hB.size)
  clear r0 f0 z0 r1 f1 z1 r2 f2 z2
  clear hb
  have r0 := row_of k0
  have f0 := frozen_of k0
  have z0 := blk_lt k0
  have r1 := row_of k1
  have f1 := frozen_of k1
  have z1 := blk_lt k1
  have r2 := row_of k2
  have f2 := frozen_of k2
  have z2 := blk_lt k2
  go_wp2_with fail
  generalize hWF : (World.setCell (World.setCell _ _ _) _ _) = WF
  obtain ⟨kF, _, bF, _⟩ := put2 k2 _ _ hWF.symm
  clear r0 f0 z0 r1 f1 z1 r2 f2 z2
  clear hWF
  have rF := row_of kF
  exact bodyPost_ret (v := .agg #[.int .i64 (ofP (mx a0 b0) (mn a1 b1)).1, .int .i64 (ofP (mx a0 b0) (mn a1 b1)).2]) (by simp [results, Try.results119, go_sem, rF]) rfl ⟨rfl, hB.trans (bF _ (by show w.heap.size ≤ w.heap.size + 2; omega))⟩
theorem widen_1 (a0 a1 b0 b1 : Int) (w : World) (h : a1 < a0) :
    Calls Try.prog 71 #[.agg #[.int .i64 a0, .int .i64 a1], .agg #[.int .i64 b0, .int .i64 b1]] w fun e w' => e = .returned (.agg #[.int .i64 (joinP a0 a1 b0 b1).1, .int .i64 (joinP a0 a1 b0 b1).2]) ∧ Below w.heap.size w w' := by
  go_enter Try.func71, Try.ntmps71
  go_upto_region 1 with fail
  refine wp_world (fun W => W.heap[w.heap.size]? = some (.cells #[.int .i64 a0, .int .i64 a1] 48 (0, 0)) ∧ W.heap[w.heap.size + 1]? = some (.cells #[.int .i64 b0, .int .i64 b1] 48 (0, 0)) ∧ W.heap[w.heap.size + 2]? = some (.cells #[.int .i64 0, .int .i64 0] 48 (0, 0)) ∧ Below w.heap.size w W) ⟨blkUp (blkUp (blkA _ _ (by first | rfl | simp only [World.size_alloc])) _) _, blkUp (blkA _ _ (by first | rfl | simp only [World.size_alloc])) _, blkA _ _ (by first | rfl | simp only [World.size_alloc]), (((Below.refl _ _).alloc (by first | exact Nat.le_refl _ | (simp only [World.size_alloc]; omega)) _).alloc (by first | exact Nat.le_refl _ | (simp only [World.size_alloc]; omega)) _).alloc (by first | exact Nat.le_refl _ | (simp only [World.size_alloc]; omega)) _⟩ ?_
  rintro w1 ⟨k0, k1, k2, hB⟩
  have r0 := row_of k0
  have f0 := frozen_of k0
  have z0 := blk_lt k0
  have r1 := row_of k1
  have f1 := frozen_of k1
  have z1 := blk_lt k1
  have r2 := row_of k2
  have f2 := frozen_of k2
  have z2 := blk_lt k2
  have hd0 : decide (a1 < a0) = true := by simp; omega
  go_wp2_with fail
  refine (join_any _ _ _ _ _).mono ?_
  rintro e w2 ⟨rfl, hb⟩
  replace k0 := blk_keep hb k0
  replace k1 := blk_keep hb k1
  replace k2 := blk_keep hb k2
  replace hB := hB.trans (hb.mono hB.size)
  clear r0 f0 z0 r1 f1 z1 r2 f2 z2
  clear hb
  have r0 := row_of k0
  have f0 := frozen_of k0
  have z0 := blk_lt k0
  have r1 := row_of k1
  have f1 := frozen_of k1
  have z1 := blk_lt k1
  have r2 := row_of k2
  have f2 := frozen_of k2
  have z2 := blk_lt k2
  go_upto_region 2 with fail
  have hz1 : w.heap.size + 2 < w2.heap.size := z2
  refine wp_world (fun W => W.heap[w.heap.size]? = some (.cells #[.int .i64 a0, .int .i64 a1] 48 (0, 0)) ∧ W.heap[w.heap.size + 1]? = some (.cells #[.int .i64 b0, .int .i64 b1] 48 (0, 0)) ∧ W.heap[w.heap.size + 2]? = some (.cells #[.int .i64 0, .int .i64 0] 48 (0, 0)) ∧ W.heap[w2.heap.size]? = some (.cells #[.int .i64 ((joinP a0 a1 b0 b1).1), .int .i64 ((joinP a0 a1 b0 b1).2)] 48 (0, 0)) ∧ Below w.heap.size w W) ⟨blkUp (k0) _, blkUp (k1) _, blkUp (k2) _, blkA _ _ (by first | rfl | simp only [World.size_alloc]), (hB).alloc (by first | exact hB.size | (simp only [World.size_alloc]; omega)) _⟩ ?_
  clear r0 f0 z0 r1 f1 z1 r2 f2 z2
  clear hB k0 k1 k2
  rintro w3 ⟨k0, k1, k2, k3, hB⟩
  have r0 := row_of k0
  have f0 := frozen_of k0
  have z0 := blk_lt k0
  have r1 := row_of k1
  have f1 := frozen_of k1
  have z1 := blk_lt k1
  have r2 := row_of k2
  have f2 := frozen_of k2
  have z2 := blk_lt k2
  have r3 := row_of k3
  have f3 := frozen_of k3
  have z3 := blk_lt k3
  go_wp2_with fail
  refine (empty_any _ _ _).mono ?_
  rintro e w4 ⟨rfl, hb⟩
  replace k0 := blk_keep hb k0
  replace k1 := blk_keep hb k1
  replace k2 := blk_keep hb k2
  replace k3 := blk_keep hb k3
  replace hB := hB.trans (hb.mono hB.size)
  clear r0 f0 z0 r1 f1 z1 r2 f2 z2 r3 f3 z3
  clear hb
  have r0 := row_of k0
  have f0 := frozen_of k0
  have z0 := blk_lt k0
  have r1 := row_of k1
  have f1 := frozen_of k1
  have z1 := blk_lt k1
  have r2 := row_of k2
  have f2 := frozen_of k2
  have z2 := blk_lt k2
  have r3 := row_of k3
  have f3 := frozen_of k3
  have z3 := blk_lt k3
  go_wp2_with fail
  generalize hWF : (World.setCell (World.setCell _ _ _) _ _) = WF
  obtain ⟨kF, _, bF, _⟩ := put2 k2 _ _ hWF.symm
  clear r0 f0 z0 r1 f1 z1 r2 f2 z2 r3 f3 z3
  clear hWF
  have rF := row_of kF
  exact bodyPost_ret (v := .agg #[.int .i64 (joinP a0 a1 b0 b1).1, .int .i64 (joinP a0 a1 b0 b1).2]) (by simp [results, Try.results71, go_sem, rF]) rfl ⟨rfl, hB.trans (bF _ (by show w.heap.size ≤ w.heap.size + 2; omega))⟩
theorem widen_2 (a0 a1 b0 b1 : Int) (w : World) (h : a0 ≤ a1) (h2 : b1 < b0) :
    Calls Try.prog 71 #[.agg #[.int .i64 a0, .int .i64 a1], .agg #[.int .i64 b0, .int .i64 b1]] w fun e w' => e = .returned (.agg #[.int .i64 (joinP a0 a1 b0 b1).1, .int .i64 (joinP a0 a1 b0 b1).2]) ∧ Below w.heap.size w w' := by
  go_enter Try.func71, Try.ntmps71
  go_upto_region 1 with fail
  refine wp_world (fun W => W.heap[w.heap.size]? = some (.cells #[.int .i64 a0, .int .i64 a1] 48 (0, 0)) ∧ W.heap[w.heap.size + 1]? = some (.cells #[.int .i64 b0, .int .i64 b1] 48 (0, 0)) ∧ W.heap[w.heap.size + 2]? = some (.cells #[.int .i64 0, .int .i64 0] 48 (0, 0)) ∧ Below w.heap.size w W) ⟨blkUp (blkUp (blkA _ _ (by first | rfl | simp only [World.size_alloc])) _) _, blkUp (blkA _ _ (by first | rfl | simp only [World.size_alloc])) _, blkA _ _ (by first | rfl | simp only [World.size_alloc]), (((Below.refl _ _).alloc (by first | exact Nat.le_refl _ | (simp only [World.size_alloc]; omega)) _).alloc (by first | exact Nat.le_refl _ | (simp only [World.size_alloc]; omega)) _).alloc (by first | exact Nat.le_refl _ | (simp only [World.size_alloc]; omega)) _⟩ ?_
  rintro w1 ⟨k0, k1, k2, hB⟩
  have r0 := row_of k0
  have f0 := frozen_of k0
  have z0 := blk_lt k0
  have r1 := row_of k1
  have f1 := frozen_of k1
  have z1 := blk_lt k1
  have r2 := row_of k2
  have f2 := frozen_of k2
  have z2 := blk_lt k2
  have hd0 : decide (a1 < a0) = false := by simp; omega
  have hd1 : decide (b1 < b0) = true := by simp; omega
  go_wp2_with fail
  refine (join_any _ _ _ _ _).mono ?_
  rintro e w2 ⟨rfl, hb⟩
  replace k0 := blk_keep hb k0
  replace k1 := blk_keep hb k1
  replace k2 := blk_keep hb k2
  replace hB := hB.trans (hb.mono hB.size)
  clear r0 f0 z0 r1 f1 z1 r2 f2 z2
  clear hb
  have r0 := row_of k0
  have f0 := frozen_of k0
  have z0 := blk_lt k0
  have r1 := row_of k1
  have f1 := frozen_of k1
  have z1 := blk_lt k1
  have r2 := row_of k2
  have f2 := frozen_of k2
  have z2 := blk_lt k2
  go_upto_region 2 with fail
  have hz1 : w.heap.size + 2 < w2.heap.size := z2
  refine wp_world (fun W => W.heap[w.heap.size]? = some (.cells #[.int .i64 a0, .int .i64 a1] 48 (0, 0)) ∧ W.heap[w.heap.size + 1]? = some (.cells #[.int .i64 b0, .int .i64 b1] 48 (0, 0)) ∧ W.heap[w.heap.size + 2]? = some (.cells #[.int .i64 0, .int .i64 0] 48 (0, 0)) ∧ W.heap[w2.heap.size]? = some (.cells #[.int .i64 ((joinP a0 a1 b0 b1).1), .int .i64 ((joinP a0 a1 b0 b1).2)] 48 (0, 0)) ∧ Below w.heap.size w W) ⟨blkUp (k0) _, blkUp (k1) _, blkUp (k2) _, blkA _ _ (by first | rfl | simp only [World.size_alloc]), (hB).alloc (by first | exact hB.size | (simp only [World.size_alloc]; omega)) _⟩ ?_
  clear r0 f0 z0 r1 f1 z1 r2 f2 z2
  clear hB k0 k1 k2
  rintro w3 ⟨k0, k1, k2, k3, hB⟩
  have r0 := row_of k0
  have f0 := frozen_of k0
  have z0 := blk_lt k0
  have r1 := row_of k1
  have f1 := frozen_of k1
  have z1 := blk_lt k1
  have r2 := row_of k2
  have f2 := frozen_of k2
  have z2 := blk_lt k2
  have r3 := row_of k3
  have f3 := frozen_of k3
  have z3 := blk_lt k3
  go_wp2_with fail
  refine (empty_any _ _ _).mono ?_
  rintro e w4 ⟨rfl, hb⟩
  replace k0 := blk_keep hb k0
  replace k1 := blk_keep hb k1
  replace k2 := blk_keep hb k2
  replace k3 := blk_keep hb k3
  replace hB := hB.trans (hb.mono hB.size)
  clear r0 f0 z0 r1 f1 z1 r2 f2 z2 r3 f3 z3
  clear hb
  have r0 := row_of k0
  have f0 := frozen_of k0
  have z0 := blk_lt k0
  have r1 := row_of k1
  have f1 := frozen_of k1
  have z1 := blk_lt k1
  have r2 := row_of k2
  have f2 := frozen_of k2
  have z2 := blk_lt k2
  have r3 := row_of k3
  have f3 := frozen_of k3
  have z3 := blk_lt k3
  go_wp2_with fail
  refine (empty_any _ _ _).mono ?_
  rintro e w5 ⟨rfl, hb⟩
  replace k0 := blk_keep hb k0
  replace k1 := blk_keep hb k1
  replace k2 := blk_keep hb k2
  replace k3 := blk_keep hb k3
  replace hB := hB.trans (hb.mono hB.size)
  clear r0 f0 z0 r1 f1 z1 r2 f2 z2 r3 f3 z3
  clear hb
  have r0 := row_of k0
  have f0 := frozen_of k0
  have z0 := blk_lt k0
  have r1 := row_of k1
  have f1 := frozen_of k1
  have z1 := blk_lt k1
  have r2 := row_of k2
  have f2 := frozen_of k2
  have z2 := blk_lt k2
  have r3 := row_of k3
  have f3 := frozen_of k3
  have z3 := blk_lt k3
  go_wp2_with fail
  generalize hWF : (World.setCell (World.setCell _ _ _) _ _) = WF
  obtain ⟨kF, _, bF, _⟩ := put2 k2 _ _ hWF.symm
  clear r0 f0 z0 r1 f1 z1 r2 f2 z2 r3 f3 z3
  clear hWF
  have rF := row_of kF
  exact bodyPost_ret (v := .agg #[.int .i64 (joinP a0 a1 b0 b1).1, .int .i64 (joinP a0 a1 b0 b1).2]) (by simp [results, Try.results71, go_sem, rF]) rfl ⟨rfl, hB.trans (bF _ (by show w.heap.size ≤ w.heap.size + 2; omega))⟩
theorem widen_3 (a0 a1 b0 b1 : Int) (w : World) (h : a0 ≤ a1) (h2 : b0 ≤ b1) (h3 : b0 < a0) (h4 : a1 < b1) :
    Calls Try.prog 71 #[.agg #[.int .i64 a0, .int .i64 a1], .agg #[.int .i64 b0, .int .i64 b1]] w fun e w' => e = .returned (.agg #[.int .i64 (-2147483648), .int .i64 (2147483647)]) ∧ Below w.heap.size w w' := by
  go_enter Try.func71, Try.ntmps71
  go_upto_region 1 with fail
  refine wp_world (fun W => W.heap[w.heap.size]? = some (.cells #[.int .i64 a0, .int .i64 a1] 48 (0, 0)) ∧ W.heap[w.heap.size + 1]? = some (.cells #[.int .i64 b0, .int .i64 b1] 48 (0, 0)) ∧ W.heap[w.heap.size + 2]? = some (.cells #[.int .i64 0, .int .i64 0] 48 (0, 0)) ∧ Below w.heap.size w W) ⟨blkUp (blkUp (blkA _ _ (by first | rfl | simp only [World.size_alloc])) _) _, blkUp (blkA _ _ (by first | rfl | simp only [World.size_alloc])) _, blkA _ _ (by first | rfl | simp only [World.size_alloc]), (((Below.refl _ _).alloc (by first | exact Nat.le_refl _ | (simp only [World.size_alloc]; omega)) _).alloc (by first | exact Nat.le_refl _ | (simp only [World.size_alloc]; omega)) _).alloc (by first | exact Nat.le_refl _ | (simp only [World.size_alloc]; omega)) _⟩ ?_
  rintro w1 ⟨k0, k1, k2, hB⟩
  have r0 := row_of k0
  have f0 := frozen_of k0
  have z0 := blk_lt k0
  have r1 := row_of k1
  have f1 := frozen_of k1
  have z1 := blk_lt k1
  have r2 := row_of k2
  have f2 := frozen_of k2
  have z2 := blk_lt k2
  have hd : decide (a1 < a0) = false := by simp; omega
  have hd2 : decide (b1 < b0) = false := by simp; omega
  have hd3 : decide (b0 < a0) = true := by simp; omega
  have hd4 : decide (a1 < b1) = true := by simp; omega
  clear h h2 h3 h4
  go_wp2_with fail
  refine (join_any _ _ _ _ _).mono ?_
  rintro e w2 ⟨rfl, hb⟩
  replace k0 := blk_keep hb k0
  replace k1 := blk_keep hb k1
  replace k2 := blk_keep hb k2
  replace hB := hB.trans (hb.mono hB.size)
  clear r0 f0 z0 r1 f1 z1 r2 f2 z2
  clear hb
  have r0 := row_of k0
  have f0 := frozen_of k0
  have z0 := blk_lt k0
  have r1 := row_of k1
  have f1 := frozen_of k1
  have z1 := blk_lt k1
  have r2 := row_of k2
  have f2 := frozen_of k2
  have z2 := blk_lt k2
  go_upto_region 2 with fail
  have hz1 : w.heap.size + 2 < w2.heap.size := z2
  refine wp_world (fun W => W.heap[w.heap.size]? = some (.cells #[.int .i64 a0, .int .i64 a1] 48 (0, 0)) ∧ W.heap[w.heap.size + 1]? = some (.cells #[.int .i64 b0, .int .i64 b1] 48 (0, 0)) ∧ W.heap[w.heap.size + 2]? = some (.cells #[.int .i64 0, .int .i64 0] 48 (0, 0)) ∧ W.heap[w2.heap.size]? = some (.cells #[.int .i64 ((joinP a0 a1 b0 b1).1), .int .i64 ((joinP a0 a1 b0 b1).2)] 48 (0, 0)) ∧ Below w.heap.size w W) ⟨blkUp (k0) _, blkUp (k1) _, blkUp (k2) _, blkA _ _ (by first | rfl | simp only [World.size_alloc]), (hB).alloc (by first | exact hB.size | (simp only [World.size_alloc]; omega)) _⟩ ?_
  clear r0 f0 z0 r1 f1 z1 r2 f2 z2
  clear hB k0 k1 k2
  rintro w3 ⟨k0, k1, k2, k3, hB⟩
  have r0 := row_of k0
  have f0 := frozen_of k0
  have z0 := blk_lt k0
  have r1 := row_of k1
  have f1 := frozen_of k1
  have z1 := blk_lt k1
  have r2 := row_of k2
  have f2 := frozen_of k2
  have z2 := blk_lt k2
  have r3 := row_of k3
  have f3 := frozen_of k3
  have z3 := blk_lt k3
  go_wp2_with fail
  refine (empty_any _ _ _).mono ?_
  rintro e w4 ⟨rfl, hb⟩
  replace k0 := blk_keep hb k0
  replace k1 := blk_keep hb k1
  replace k2 := blk_keep hb k2
  replace k3 := blk_keep hb k3
  replace hB := hB.trans (hb.mono hB.size)
  clear r0 f0 z0 r1 f1 z1 r2 f2 z2 r3 f3 z3
  clear hb
  have r0 := row_of k0
  have f0 := frozen_of k0
  have z0 := blk_lt k0
  have r1 := row_of k1
  have f1 := frozen_of k1
  have z1 := blk_lt k1
  have r2 := row_of k2
  have f2 := frozen_of k2
  have z2 := blk_lt k2
  have r3 := row_of k3
  have f3 := frozen_of k3
  have z3 := blk_lt k3
  go_wp2_with fail
  refine (empty_any _ _ _).mono ?_
  rintro e w5 ⟨rfl, hb⟩
  replace k0 := blk_keep hb k0
  replace k1 := blk_keep hb k1
  replace k2 := blk_keep hb k2
  replace k3 := blk_keep hb k3
  replace hB := hB.trans (hb.mono hB.size)
  clear r0 f0 z0 r1 f1 z1 r2 f2 z2 r3 f3 z3
  clear hb
  have r0 := row_of k0
  have f0 := frozen_of k0
  have z0 := blk_lt k0
  have r1 := row_of k1
  have f1 := frozen_of k1
  have z1 := blk_lt k1
  have r2 := row_of k2
  have f2 := frozen_of k2
  have z2 := blk_lt k2
  have r3 := row_of k3
  have f3 := frozen_of k3
  have z3 := blk_lt k3
  go_upto_region 6 with fail
  refine wp_world (fun W => W.heap[w.heap.size]? = some (.cells #[.int .i64 a0, .int .i64 a1] 48 (0, 0)) ∧ W.heap[w.heap.size + 1]? = some (.cells #[.int .i64 b0, .int .i64 b1] 48 (0, 0)) ∧ W.heap[w.heap.size + 2]? = some (.cells #[.int .i64 0, .int .i64 0] 48 (0, 0)) ∧ W.heap[w2.heap.size]? = some (.cells #[.int .i64 (-2147483648), .int .i64 ((joinP a0 a1 b0 b1).2)] 48 (0, 0)) ∧ Below w.heap.size w W) ⟨blk_set k0 (by omega), blk_set k1 (by omega), blk_set k2 (by omega), seta k3, hB.setCell (p := ⟨w2.heap.size, 0, none⟩) (by show w.heap.size ≤ w2.heap.size; omega) _⟩ ?_
  clear r0 f0 z0 r1 f1 z1 r2 f2 z2 r3 f3 z3
  clear hB k0 k1 k2 k3
  rintro w6 ⟨k0, k1, k2, k3, hB⟩
  have r0 := row_of k0
  have f0 := frozen_of k0
  have z0 := blk_lt k0
  have r1 := row_of k1
  have f1 := frozen_of k1
  have z1 := blk_lt k1
  have r2 := row_of k2
  have f2 := frozen_of k2
  have z2 := blk_lt k2
  have r3 := row_of k3
  have f3 := frozen_of k3
  have z3 := blk_lt k3
  go_upto_region 8 with fail
  refine wp_world (fun W => W.heap[w.heap.size]? = some (.cells #[.int .i64 a0, .int .i64 a1] 48 (0, 0)) ∧ W.heap[w.heap.size + 1]? = some (.cells #[.int .i64 b0, .int .i64 b1] 48 (0, 0)) ∧ W.heap[w.heap.size + 2]? = some (.cells #[.int .i64 0, .int .i64 0] 48 (0, 0)) ∧ W.heap[w2.heap.size]? = some (.cells #[.int .i64 (-2147483648), .int .i64 2147483647] 48 (0, 0)) ∧ Below w.heap.size w W) ⟨blk_set k0 (by omega), blk_set k1 (by omega), blk_set k2 (by omega), setb k3, hB.setCell (p := ⟨w2.heap.size, 1, none⟩) (by show w.heap.size ≤ w2.heap.size; omega) _⟩ ?_
  clear r0 f0 z0 r1 f1 z1 r2 f2 z2 r3 f3 z3
  clear hB k0 k1 k2 k3
  rintro w7 ⟨k0, k1, k2, k3, hB⟩
  have r0 := row_of k0
  have f0 := frozen_of k0
  have z0 := blk_lt k0
  have r1 := row_of k1
  have f1 := frozen_of k1
  have z1 := blk_lt k1
  have r2 := row_of k2
  have f2 := frozen_of k2
  have z2 := blk_lt k2
  have r3 := row_of k3
  have f3 := frozen_of k3
  have z3 := blk_lt k3
  go_wp2_with fail
  generalize hWF : (World.setCell (World.setCell _ _ _) _ _) = WF
  obtain ⟨kF, _, bF, _⟩ := put2 k2 _ _ hWF.symm
  clear r0 f0 z0 r1 f1 z1 r2 f2 z2 r3 f3 z3
  clear hWF
  have rF := row_of kF
  exact bodyPost_ret (v := .agg #[.int .i64 (-2147483648), .int .i64 (2147483647)]) (by simp [results, Try.results71, go_sem, rF]) rfl ⟨rfl, hB.trans (bF _ (by show w.heap.size ≤ w.heap.size + 2; omega))⟩
theorem widen_4 (a0 a1 b0 b1 : Int) (w : World) (h : a0 ≤ a1) (h2 : b0 ≤ b1) (h3 : b0 < a0) (h4 : b1 ≤ a1) :
    Calls Try.prog 71 #[.agg #[.int .i64 a0, .int .i64 a1], .agg #[.int .i64 b0, .int .i64 b1]] w fun e w' => e = .returned (.agg #[.int .i64 (-2147483648), .int .i64 ((joinP a0 a1 b0 b1).2)]) ∧ Below w.heap.size w w' := by
  go_enter Try.func71, Try.ntmps71
  go_upto_region 1 with fail
  refine wp_world (fun W => W.heap[w.heap.size]? = some (.cells #[.int .i64 a0, .int .i64 a1] 48 (0, 0)) ∧ W.heap[w.heap.size + 1]? = some (.cells #[.int .i64 b0, .int .i64 b1] 48 (0, 0)) ∧ W.heap[w.heap.size + 2]? = some (.cells #[.int .i64 0, .int .i64 0] 48 (0, 0)) ∧ Below w.heap.size w W) ⟨blkUp (blkUp (blkA _ _ (by first | rfl | simp only [World.size_alloc])) _) _, blkUp (blkA _ _ (by first | rfl | simp only [World.size_alloc])) _, blkA _ _ (by first | rfl | simp only [World.size_alloc]), (((Below.refl _ _).alloc (by first | exact Nat.le_refl _ | (simp only [World.size_alloc]; omega)) _).alloc (by first | exact Nat.le_refl _ | (simp only [World.size_alloc]; omega)) _).alloc (by first | exact Nat.le_refl _ | (simp only [World.size_alloc]; omega)) _⟩ ?_
  rintro w1 ⟨k0, k1, k2, hB⟩
  have r0 := row_of k0
  have f0 := frozen_of k0
  have z0 := blk_lt k0
  have r1 := row_of k1
  have f1 := frozen_of k1
  have z1 := blk_lt k1
  have r2 := row_of k2
  have f2 := frozen_of k2
  have z2 := blk_lt k2
  have hd : decide (a1 < a0) = false := by simp; omega
  have hd2 : decide (b1 < b0) = false := by simp; omega
  have hd3 : decide (b0 < a0) = true := by simp; omega
  have hd4 : decide (a1 < b1) = false := by simp; omega
  clear h h2 h3 h4
  go_wp2_with fail
  refine (join_any _ _ _ _ _).mono ?_
  rintro e w2 ⟨rfl, hb⟩
  replace k0 := blk_keep hb k0
  replace k1 := blk_keep hb k1
  replace k2 := blk_keep hb k2
  replace hB := hB.trans (hb.mono hB.size)
  clear r0 f0 z0 r1 f1 z1 r2 f2 z2
  clear hb
  have r0 := row_of k0
  have f0 := frozen_of k0
  have z0 := blk_lt k0
  have r1 := row_of k1
  have f1 := frozen_of k1
  have z1 := blk_lt k1
  have r2 := row_of k2
  have f2 := frozen_of k2
  have z2 := blk_lt k2
  go_upto_region 2 with fail
  have hz1 : w.heap.size + 2 < w2.heap.size := z2
  refine wp_world (fun W => W.heap[w.heap.size]? = some (.cells #[.int .i64 a0, .int .i64 a1] 48 (0, 0)) ∧ W.heap[w.heap.size + 1]? = some (.cells #[.int .i64 b0, .int .i64 b1] 48 (0, 0)) ∧ W.heap[w.heap.size + 2]? = some (.cells #[.int .i64 0, .int .i64 0] 48 (0, 0)) ∧ W.heap[w2.heap.size]? = some (.cells #[.int .i64 ((joinP a0 a1 b0 b1).1), .int .i64 ((joinP a0 a1 b0 b1).2)] 48 (0, 0)) ∧ Below w.heap.size w W) ⟨blkUp (k0) _, blkUp (k1) _, blkUp (k2) _, blkA _ _ (by first | rfl | simp only [World.size_alloc]), (hB).alloc (by first | exact hB.size | (simp only [World.size_alloc]; omega)) _⟩ ?_
  clear r0 f0 z0 r1 f1 z1 r2 f2 z2
  clear hB k0 k1 k2
  rintro w3 ⟨k0, k1, k2, k3, hB⟩
  have r0 := row_of k0
  have f0 := frozen_of k0
  have z0 := blk_lt k0
  have r1 := row_of k1
  have f1 := frozen_of k1
  have z1 := blk_lt k1
  have r2 := row_of k2
  have f2 := frozen_of k2
  have z2 := blk_lt k2
  have r3 := row_of k3
  have f3 := frozen_of k3
  have z3 := blk_lt k3
  go_wp2_with fail
  refine (empty_any _ _ _).mono ?_
  rintro e w4 ⟨rfl, hb⟩
  replace k0 := blk_keep hb k0
  replace k1 := blk_keep hb k1
  replace k2 := blk_keep hb k2
  replace k3 := blk_keep hb k3
  replace hB := hB.trans (hb.mono hB.size)
  clear r0 f0 z0 r1 f1 z1 r2 f2 z2 r3 f3 z3
  clear hb
  have r0 := row_of k0
  have f0 := frozen_of k0
  have z0 := blk_lt k0
  have r1 := row_of k1
  have f1 := frozen_of k1
  have z1 := blk_lt k1
  have r2 := row_of k2
  have f2 := frozen_of k2
  have z2 := blk_lt k2
  have r3 := row_of k3
  have f3 := frozen_of k3
  have z3 := blk_lt k3
  go_wp2_with fail
  refine (empty_any _ _ _).mono ?_
  rintro e w5 ⟨rfl, hb⟩
  replace k0 := blk_keep hb k0
  replace k1 := blk_keep hb k1
  replace k2 := blk_keep hb k2
  replace k3 := blk_keep hb k3
  replace hB := hB.trans (hb.mono hB.size)
  clear r0 f0 z0 r1 f1 z1 r2 f2 z2 r3 f3 z3
  clear hb
  have r0 := row_of k0
  have f0 := frozen_of k0
  have z0 := blk_lt k0
  have r1 := row_of k1
  have f1 := frozen_of k1
  have z1 := blk_lt k1
  have r2 := row_of k2
  have f2 := frozen_of k2
  have z2 := blk_lt k2
  have r3 := row_of k3
  have f3 := frozen_of k3
  have z3 := blk_lt k3
  go_upto_region 6 with fail
  refine wp_world (fun W => W.heap[w.heap.size]? = some (.cells #[.int .i64 a0, .int .i64 a1] 48 (0, 0)) ∧ W.heap[w.heap.size + 1]? = some (.cells #[.int .i64 b0, .int .i64 b1] 48 (0, 0)) ∧ W.heap[w.heap.size + 2]? = some (.cells #[.int .i64 0, .int .i64 0] 48 (0, 0)) ∧ W.heap[w2.heap.size]? = some (.cells #[.int .i64 (-2147483648), .int .i64 ((joinP a0 a1 b0 b1).2)] 48 (0, 0)) ∧ Below w.heap.size w W) ⟨blk_set k0 (by omega), blk_set k1 (by omega), blk_set k2 (by omega), seta k3, hB.setCell (p := ⟨w2.heap.size, 0, none⟩) (by show w.heap.size ≤ w2.heap.size; omega) _⟩ ?_
  clear r0 f0 z0 r1 f1 z1 r2 f2 z2 r3 f3 z3
  clear hB k0 k1 k2 k3
  rintro w6 ⟨k0, k1, k2, k3, hB⟩
  have r0 := row_of k0
  have f0 := frozen_of k0
  have z0 := blk_lt k0
  have r1 := row_of k1
  have f1 := frozen_of k1
  have z1 := blk_lt k1
  have r2 := row_of k2
  have f2 := frozen_of k2
  have z2 := blk_lt k2
  have r3 := row_of k3
  have f3 := frozen_of k3
  have z3 := blk_lt k3
  go_wp2_with fail
  generalize hWF : (World.setCell (World.setCell _ _ _) _ _) = WF
  obtain ⟨kF, _, bF, _⟩ := put2 k2 _ _ hWF.symm
  clear r0 f0 z0 r1 f1 z1 r2 f2 z2 r3 f3 z3
  clear hWF
  have rF := row_of kF
  exact bodyPost_ret (v := .agg #[.int .i64 (-2147483648), .int .i64 ((joinP a0 a1 b0 b1).2)]) (by simp [results, Try.results71, go_sem, rF]) rfl ⟨rfl, hB.trans (bF _ (by show w.heap.size ≤ w.heap.size + 2; omega))⟩
theorem widen_5 (a0 a1 b0 b1 : Int) (w : World) (h : a0 ≤ a1) (h2 : b0 ≤ b1) (h3 : a0 ≤ b0) (h4 : a1 < b1) :
    Calls Try.prog 71 #[.agg #[.int .i64 a0, .int .i64 a1], .agg #[.int .i64 b0, .int .i64 b1]] w fun e w' => e = .returned (.agg #[.int .i64 ((joinP a0 a1 b0 b1).1), .int .i64 (2147483647)]) ∧ Below w.heap.size w w' := by
  go_enter Try.func71, Try.ntmps71
  go_upto_region 1 with fail
  refine wp_world (fun W => W.heap[w.heap.size]? = some (.cells #[.int .i64 a0, .int .i64 a1] 48 (0, 0)) ∧ W.heap[w.heap.size + 1]? = some (.cells #[.int .i64 b0, .int .i64 b1] 48 (0, 0)) ∧ W.heap[w.heap.size + 2]? = some (.cells #[.int .i64 0, .int .i64 0] 48 (0, 0)) ∧ Below w.heap.size w W) ⟨blkUp (blkUp (blkA _ _ (by first | rfl | simp only [World.size_alloc])) _) _, blkUp (blkA _ _ (by first | rfl | simp only [World.size_alloc])) _, blkA _ _ (by first | rfl | simp only [World.size_alloc]), (((Below.refl _ _).alloc (by first | exact Nat.le_refl _ | (simp only [World.size_alloc]; omega)) _).alloc (by first | exact Nat.le_refl _ | (simp only [World.size_alloc]; omega)) _).alloc (by first | exact Nat.le_refl _ | (simp only [World.size_alloc]; omega)) _⟩ ?_
  rintro w1 ⟨k0, k1, k2, hB⟩
  have r0 := row_of k0
  have f0 := frozen_of k0
  have z0 := blk_lt k0
  have r1 := row_of k1
  have f1 := frozen_of k1
  have z1 := blk_lt k1
  have r2 := row_of k2
  have f2 := frozen_of k2
  have z2 := blk_lt k2
  have hd : decide (a1 < a0) = false := by simp; omega
  have hd2 : decide (b1 < b0) = false := by simp; omega
  have hd3 : decide (b0 < a0) = false := by simp; omega
  have hd4 : decide (a1 < b1) = true := by simp; omega
  clear h h2 h3 h4
  go_wp2_with fail
  refine (join_any _ _ _ _ _).mono ?_
  rintro e w2 ⟨rfl, hb⟩
  replace k0 := blk_keep hb k0
  replace k1 := blk_keep hb k1
  replace k2 := blk_keep hb k2
  replace hB := hB.trans (hb.mono hB.size)
  clear r0 f0 z0 r1 f1 z1 r2 f2 z2
  clear hb
  have r0 := row_of k0
  have f0 := frozen_of k0
  have z0 := blk_lt k0
  have r1 := row_of k1
  have f1 := frozen_of k1
  have z1 := blk_lt k1
  have r2 := row_of k2
  have f2 := frozen_of k2
  have z2 := blk_lt k2
  go_upto_region 2 with fail
  have hz1 : w.heap.size + 2 < w2.heap.size := z2
  refine wp_world (fun W => W.heap[w.heap.size]? = some (.cells #[.int .i64 a0, .int .i64 a1] 48 (0, 0)) ∧ W.heap[w.heap.size + 1]? = some (.cells #[.int .i64 b0, .int .i64 b1] 48 (0, 0)) ∧ W.heap[w.heap.size + 2]? = some (.cells #[.int .i64 0, .int .i64 0] 48 (0, 0)) ∧ W.heap[w2.heap.size]? = some (.cells #[.int .i64 ((joinP a0 a1 b0 b1).1), .int .i64 ((joinP a0 a1 b0 b1).2)] 48 (0, 0)) ∧ Below w.heap.size w W) ⟨blkUp (k0) _, blkUp (k1) _, blkUp (k2) _, blkA _ _ (by first | rfl | simp only [World.size_alloc]), (hB).alloc (by first | exact hB.size | (simp only [World.size_alloc]; omega)) _⟩ ?_
  clear r0 f0 z0 r1 f1 z1 r2 f2 z2
  clear hB k0 k1 k2
  rintro w3 ⟨k0, k1, k2, k3, hB⟩
  have r0 := row_of k0
  have f0 := frozen_of k0
  have z0 := blk_lt k0
  have r1 := row_of k1
  have f1 := frozen_of k1
  have z1 := blk_lt k1
  have r2 := row_of k2
  have f2 := frozen_of k2
  have z2 := blk_lt k2
  have r3 := row_of k3
  have f3 := frozen_of k3
  have z3 := blk_lt k3
  go_wp2_with fail
  refine (empty_any _ _ _).mono ?_
  rintro e w4 ⟨rfl, hb⟩
  replace k0 := blk_keep hb k0
  replace k1 := blk_keep hb k1
  replace k2 := blk_keep hb k2
  replace k3 := blk_keep hb k3
  replace hB := hB.trans (hb.mono hB.size)
  clear r0 f0 z0 r1 f1 z1 r2 f2 z2 r3 f3 z3
  clear hb
  have r0 := row_of k0
  have f0 := frozen_of k0
  have z0 := blk_lt k0
  have r1 := row_of k1
  have f1 := frozen_of k1
  have z1 := blk_lt k1
  have r2 := row_of k2
  have f2 := frozen_of k2
  have z2 := blk_lt k2
  have r3 := row_of k3
  have f3 := frozen_of k3
  have z3 := blk_lt k3
  go_wp2_with fail
  refine (empty_any _ _ _).mono ?_
  rintro e w5 ⟨rfl, hb⟩
  replace k0 := blk_keep hb k0
  replace k1 := blk_keep hb k1
  replace k2 := blk_keep hb k2
  replace k3 := blk_keep hb k3
  replace hB := hB.trans (hb.mono hB.size)
  clear r0 f0 z0 r1 f1 z1 r2 f2 z2 r3 f3 z3
  clear hb
  have r0 := row_of k0
  have f0 := frozen_of k0
  have z0 := blk_lt k0
  have r1 := row_of k1
  have f1 := frozen_of k1
  have z1 := blk_lt k1
  have r2 := row_of k2
  have f2 := frozen_of k2
  have z2 := blk_lt k2
  have r3 := row_of k3
  have f3 := frozen_of k3
  have z3 := blk_lt k3
  go_upto_region 8 with fail
  refine wp_world (fun W => W.heap[w.heap.size]? = some (.cells #[.int .i64 a0, .int .i64 a1] 48 (0, 0)) ∧ W.heap[w.heap.size + 1]? = some (.cells #[.int .i64 b0, .int .i64 b1] 48 (0, 0)) ∧ W.heap[w.heap.size + 2]? = some (.cells #[.int .i64 0, .int .i64 0] 48 (0, 0)) ∧ W.heap[w2.heap.size]? = some (.cells #[.int .i64 ((joinP a0 a1 b0 b1).1), .int .i64 2147483647] 48 (0, 0)) ∧ Below w.heap.size w W) ⟨blk_set k0 (by omega), blk_set k1 (by omega), blk_set k2 (by omega), setb k3, hB.setCell (p := ⟨w2.heap.size, 1, none⟩) (by show w.heap.size ≤ w2.heap.size; omega) _⟩ ?_
  clear r0 f0 z0 r1 f1 z1 r2 f2 z2 r3 f3 z3
  clear hB k0 k1 k2 k3
  rintro w6 ⟨k0, k1, k2, k3, hB⟩
  have r0 := row_of k0
  have f0 := frozen_of k0
  have z0 := blk_lt k0
  have r1 := row_of k1
  have f1 := frozen_of k1
  have z1 := blk_lt k1
  have r2 := row_of k2
  have f2 := frozen_of k2
  have z2 := blk_lt k2
  have r3 := row_of k3
  have f3 := frozen_of k3
  have z3 := blk_lt k3
  go_wp2_with fail
  generalize hWF : (World.setCell (World.setCell _ _ _) _ _) = WF
  obtain ⟨kF, _, bF, _⟩ := put2 k2 _ _ hWF.symm
  clear r0 f0 z0 r1 f1 z1 r2 f2 z2 r3 f3 z3
  clear hWF
  have rF := row_of kF
  exact bodyPost_ret (v := .agg #[.int .i64 ((joinP a0 a1 b0 b1).1), .int .i64 (2147483647)]) (by simp [results, Try.results71, go_sem, rF]) rfl ⟨rfl, hB.trans (bF _ (by show w.heap.size ≤ w.heap.size + 2; omega))⟩
theorem widen_6 (a0 a1 b0 b1 : Int) (w : World) (h : a0 ≤ a1) (h2 : b0 ≤ b1) (h3 : a0 ≤ b0) (h4 : b1 ≤ a1) :
    Calls Try.prog 71 #[.agg #[.int .i64 a0, .int .i64 a1], .agg #[.int .i64 b0, .int .i64 b1]] w fun e w' => e = .returned (.agg #[.int .i64 ((joinP a0 a1 b0 b1).1), .int .i64 ((joinP a0 a1 b0 b1).2)]) ∧ Below w.heap.size w w' := by
  go_enter Try.func71, Try.ntmps71
  go_upto_region 1 with fail
  refine wp_world (fun W => W.heap[w.heap.size]? = some (.cells #[.int .i64 a0, .int .i64 a1] 48 (0, 0)) ∧ W.heap[w.heap.size + 1]? = some (.cells #[.int .i64 b0, .int .i64 b1] 48 (0, 0)) ∧ W.heap[w.heap.size + 2]? = some (.cells #[.int .i64 0, .int .i64 0] 48 (0, 0)) ∧ Below w.heap.size w W) ⟨blkUp (blkUp (blkA _ _ (by first | rfl | simp only [World.size_alloc])) _) _, blkUp (blkA _ _ (by first | rfl | simp only [World.size_alloc])) _, blkA _ _ (by first | rfl | simp only [World.size_alloc]), (((Below.refl _ _).alloc (by first | exact Nat.le_refl _ | (simp only [World.size_alloc]; omega)) _).alloc (by first | exact Nat.le_refl _ | (simp only [World.size_alloc]; omega)) _).alloc (by first | exact Nat.le_refl _ | (simp only [World.size_alloc]; omega)) _⟩ ?_
  rintro w1 ⟨k0, k1, k2, hB⟩
  have r0 := row_of k0
  have f0 := frozen_of k0
  have z0 := blk_lt k0
  have r1 := row_of k1
  have f1 := frozen_of k1
  have z1 := blk_lt k1
  have r2 := row_of k2
  have f2 := frozen_of k2
  have z2 := blk_lt k2
  have hd : decide (a1 < a0) = false := by simp; omega
  have hd2 : decide (b1 < b0) = false := by simp; omega
  have hd3 : decide (b0 < a0) = false := by simp; omega
  have hd4 : decide (a1 < b1) = false := by simp; omega
  clear h h2 h3 h4
  go_wp2_with fail
  refine (join_any _ _ _ _ _).mono ?_
  rintro e w2 ⟨rfl, hb⟩
  replace k0 := blk_keep hb k0
  replace k1 := blk_keep hb k1
  replace k2 := blk_keep hb k2
  replace hB := hB.trans (hb.mono hB.size)
  clear r0 f0 z0 r1 f1 z1 r2 f2 z2
  clear hb
  have r0 := row_of k0
  have f0 := frozen_of k0
  have z0 := blk_lt k0
  have r1 := row_of k1
  have f1 := frozen_of k1
  have z1 := blk_lt k1
  have r2 := row_of k2
  have f2 := frozen_of k2
  have z2 := blk_lt k2
  go_upto_region 2 with fail
  have hz1 : w.heap.size + 2 < w2.heap.size := z2
  refine wp_world (fun W => W.heap[w.heap.size]? = some (.cells #[.int .i64 a0, .int .i64 a1] 48 (0, 0)) ∧ W.heap[w.heap.size + 1]? = some (.cells #[.int .i64 b0, .int .i64 b1] 48 (0, 0)) ∧ W.heap[w.heap.size + 2]? = some (.cells #[.int .i64 0, .int .i64 0] 48 (0, 0)) ∧ W.heap[w2.heap.size]? = some (.cells #[.int .i64 ((joinP a0 a1 b0 b1).1), .int .i64 ((joinP a0 a1 b0 b1).2)] 48 (0, 0)) ∧ Below w.heap.size w W) ⟨blkUp (k0) _, blkUp (k1) _, blkUp (k2) _, blkA _ _ (by first | rfl | simp only [World.size_alloc]), (hB).alloc (by first | exact hB.size | (simp only [World.size_alloc]; omega)) _⟩ ?_
  clear r0 f0 z0 r1 f1 z1 r2 f2 z2
  clear hB k0 k1 k2
  rintro w3 ⟨k0, k1, k2, k3, hB⟩
  have r0 := row_of k0
  have f0 := frozen_of k0
  have z0 := blk_lt k0
  have r1 := row_of k1
  have f1 := frozen_of k1
  have z1 := blk_lt k1
  have r2 := row_of k2
  have f2 := frozen_of k2
  have z2 := blk_lt k2
  have r3 := row_of k3
  have f3 := frozen_of k3
  have z3 := blk_lt k3
  go_wp2_with fail
  refine (empty_any _ _ _).mono ?_
  rintro e w4 ⟨rfl, hb⟩
  replace k0 := blk_keep hb k0
  replace k1 := blk_keep hb k1
  replace k2 := blk_keep hb k2
  replace k3 := blk_keep hb k3
  replace hB := hB.trans (hb.mono hB.size)
  clear r0 f0 z0 r1 f1 z1 r2 f2 z2 r3 f3 z3
  clear hb
  have r0 := row_of k0
  have f0 := frozen_of k0
  have z0 := blk_lt k0
  have r1 := row_of k1
  have f1 := frozen_of k1
  have z1 := blk_lt k1
  have r2 := row_of k2
  have f2 := frozen_of k2
  have z2 := blk_lt k2
  have r3 := row_of k3
  have f3 := frozen_of k3
  have z3 := blk_lt k3
  go_wp2_with fail
  refine (empty_any _ _ _).mono ?_
  rintro e w5 ⟨rfl, hb⟩
  replace k0 := blk_keep hb k0
  replace k1 := blk_keep hb k1
  replace k2 := blk_keep hb k2
  replace k3 := blk_keep hb k3
  replace hB := hB.trans (hb.mono hB.size)
  clear r0 f0 z0 r1 f1 z1 r2 f2 z2 r3 f3 z3
  clear hb
  have r0 := row_of k0
  have f0 := frozen_of k0
  have z0 := blk_lt k0
  have r1 := row_of k1
  have f1 := frozen_of k1
  have z1 := blk_lt k1
  have r2 := row_of k2
  have f2 := frozen_of k2
  have z2 := blk_lt k2
  have r3 := row_of k3
  have f3 := frozen_of k3
  have z3 := blk_lt k3
  go_wp2_with fail
  generalize hWF : (World.setCell (World.setCell _ _ _) _ _) = WF
  obtain ⟨kF, _, bF, _⟩ := put2 k2 _ _ hWF.symm
  clear r0 f0 z0 r1 f1 z1 r2 f2 z2 r3 f3 z3
  clear hWF
  have rF := row_of kF
  exact bodyPost_ret (v := .agg #[.int .i64 ((joinP a0 a1 b0 b1).1), .int .i64 ((joinP a0 a1 b0 b1).2)]) (by simp [results, Try.results71, go_sem, rF]) rfl ⟨rfl, hB.trans (bF _ (by show w.heap.size ≤ w.heap.size + 2; omega))⟩
theorem widen_any (a0 a1 b0 b1 : Int) (w : World) :
    Calls Try.prog 71 #[.agg #[.int .i64 a0, .int .i64 a1], .agg #[.int .i64 b0, .int .i64 b1]] w fun e w' => e = .returned (.agg #[.int .i64 (widenP a0 a1 b0 b1).1, .int .i64 (widenP a0 a1 b0 b1).2]) ∧ Below w.heap.size w w' := by
  unfold widenP
  by_cases h : a1 < a0
  · rw [if_pos (.inl h)]; exact widen_1 a0 a1 b0 b1 w h
  · by_cases h2 : b1 < b0
    · rw [if_pos (.inr h2)]; exact widen_2 a0 a1 b0 b1 w (by omega) h2
    · by_cases h3 : b0 < a0 <;> by_cases h4 : a1 < b1 <;> rw [if_neg (by omega)]
      · rw [if_pos h3, if_pos h4]; exact widen_3 a0 a1 b0 b1 w (by omega) (by omega) h3 h4
      · rw [if_pos h3, if_neg h4]; exact widen_4 a0 a1 b0 b1 w (by omega) (by omega) h3 (by omega)
      · rw [if_neg h3, if_pos h4]; exact widen_5 a0 a1 b0 b1 w (by omega) (by omega) (by omega) h4
      · rw [if_neg h3, if_neg h4]; exact widen_6 a0 a1 b0 b1 w (by omega) (by omega) (by omega) (by omega)
end Go.Proofs.Ytbcbcambkjhhhaa
