/-
  The reference's Cut; two blocks that are stored anew.
-/
import Derived.Test.YtibhoekccjcoaaaIs
namespace Go.Proofs.Ytibhoekccjcoaaa
open Go.RowKit
/-- Two blocks of two cells hold something else; all that was there before is as it was. -/
def OldCut (w : World) (n m : Nat) (t : TypeId) (x0 x1 y0 y1 : Int) (wx : World) : Prop := wx.heap[n]? = some (.cells #[.int .i64 x0, .int .i64 x1] t (0, 0)) ∧ wx.heap[m]? = some (.cells #[.int .i64 y0, .int .i64 y1] t (0, 0)) ∧ Below w.heap.size w wx

theorem cut_true (l h L H : Int) (w : World) (hL : (if l < -2147483648 then -2147483648 else l) = L) (hH : (if 2147483647 < h then 2147483647 else h) = H) (hc : l < -2147483648) :
    Calls Try.prog 31 #[.int .i64 l, .int .i64 h] w fun e w' => e = .returned (.tuple #[.agg #[.int .i64 (nrm L H).1, .int .i64 (nrm L H).2], .bool (true)]) ∧ Below w.heap.size w w' := by
  have hd : decide (l < -2147483648) = true := by simp; omega
  replace hL := Lib.hid hL
  clear hc
  go_enter Try.func31, Try.ntmps31
  have hL2 := hL.out
  go_upto_region 1 with fail
  refine wp_world (fun W => W.heap[w.heap.size]? = some (.cells #[.int .i64 0, .int .i64 0] 23 (0, 0)) ∧ Below w.heap.size w W) ⟨blkA _ _ (by first | rfl | simp only [World.size_alloc]), (Below.refl _ _).alloc (by first | exact Nat.le_refl _ | (simp only [World.size_alloc]; omega)) _⟩ ?_
  rintro w1 ⟨k0, hB⟩
  have r0 := row_of k0
  have f0 := frozen_of k0
  have z0 := blk_lt k0
  go_wp2_with fail
  refine (norm_any _ _ _).mono ?_
  rintro e w2 ⟨rfl, hb⟩
  replace k0 := blk_keep hb k0
  replace hB := hB.trans (hb.mono hB.size)
  clear r0 f0 z0
  clear hb
  have r0 := row_of k0
  have f0 := frozen_of k0
  have z0 := blk_lt k0
  go_wp2_with fail
  generalize hWF : (World.setCell (World.setCell _ _ _) _ _) = WF
  obtain ⟨kF, _, bF, _⟩ := put2 k0 _ _ hWF.symm
  clear r0 f0 z0
  clear hWF
  have rF := row_of kF
  exact bodyPost_ret (v := .tuple #[.agg #[.int .i64 (nrm L H).1, .int .i64 (nrm L H).2], .bool (true)]) (by simp [results, Try.results31, go_sem, rF]) rfl ⟨rfl, hB.trans (bF _ (by show w.heap.size ≤ w.heap.size; omega))⟩
theorem cut_false (l h L H : Int) (w : World) (hL : (if l < -2147483648 then -2147483648 else l) = L) (hH : (if 2147483647 < h then 2147483647 else h) = H) (hc : -2147483648 ≤ l) :
    Calls Try.prog 31 #[.int .i64 l, .int .i64 h] w fun e w' => e = .returned (.tuple #[.agg #[.int .i64 (nrm L H).1, .int .i64 (nrm L H).2], .bool (decide (2147483647 < h))]) ∧ Below w.heap.size w w' := by
  have hd : decide (l < -2147483648) = false := by simp; omega
  replace hL := Lib.hid hL
  clear hc
  go_enter Try.func31, Try.ntmps31
  have hL2 := hL.out
  go_upto_region 1 with fail
  refine wp_world (fun W => W.heap[w.heap.size]? = some (.cells #[.int .i64 0, .int .i64 0] 23 (0, 0)) ∧ Below w.heap.size w W) ⟨blkA _ _ (by first | rfl | simp only [World.size_alloc]), (Below.refl _ _).alloc (by first | exact Nat.le_refl _ | (simp only [World.size_alloc]; omega)) _⟩ ?_
  rintro w1 ⟨k0, hB⟩
  have r0 := row_of k0
  have f0 := frozen_of k0
  have z0 := blk_lt k0
  go_wp2_with fail
  refine (norm_any _ _ _).mono ?_
  rintro e w2 ⟨rfl, hb⟩
  replace k0 := blk_keep hb k0
  replace hB := hB.trans (hb.mono hB.size)
  clear r0 f0 z0
  clear hb
  have r0 := row_of k0
  have f0 := frozen_of k0
  have z0 := blk_lt k0
  go_wp2_with fail
  generalize hWF : (World.setCell (World.setCell _ _ _) _ _) = WF
  obtain ⟨kF, _, bF, _⟩ := put2 k0 _ _ hWF.symm
  clear r0 f0 z0
  clear hWF
  have rF := row_of kF
  exact bodyPost_ret (v := .tuple #[.agg #[.int .i64 (nrm L H).1, .int .i64 (nrm L H).2], .bool (decide (2147483647 < h))]) (by simp [results, Try.results31, go_sem, rF]) rfl ⟨rfl, hB.trans (bF _ (by show w.heap.size ≤ w.heap.size; omega))⟩
theorem cut_any (l h : Int) (w : World) :
    Calls Try.prog 31 #[.int .i64 l, .int .i64 h] w fun e w' => e = .returned (.tuple #[.agg #[.int .i64 (ofP l h).1, .int .i64 (ofP l h).2], .bool (decide (l < -2147483648) || decide (2147483647 < h))]) ∧ Below w.heap.size w w' := by
  by_cases hc : l < -2147483648
  · have t := cut_true l h _ _ w rfl rfl hc
    rw [decide_eq_true hc]
    exact t
  · have t := cut_false l h _ _ w rfl rfl (by omega)
    rw [decide_eq_false hc]
    exact t
end Go.Proofs.Ytibhoekccjcoaaa
