/-
  itv's and the reference's calls of two: within, either, both, as far as may be, back again.; The least and the greatest of four numbers; what is made of the ends of two.; Do of sums and differences, and of nothing; Neg; what every law of layer 8 asks.; Regions that draw their order, where two blocks are made beside calls: what is carried through.; A block that is made behind two stores.; queue's copies: rows of Itvs of one's own.; copy of elements of any size; slices.Repeat of one Itv.; slices.Repeat of the empty Itv, one to four times.; queue.None: of one to four tags.; queue.None, each, Join, Widen; the law's From.; The reference's calls on channels; the law's From and to.; rule: Start, Has, List, move.
-/
import Derived.Test.YtlgmofjjjhbgkaaGreatJo16
import Derived.Deep.CutRange
import Derived.Deep.AppendLies
import Derived.Laws.OwnMore
import Derived.Maps.AppendAt
import Derived.Deep.RegionLaw
import Derived.RegionTactic
import Derived.Outline
import Derived.Laws.CopyOwn
namespace Go.Proofs.YtlgmofjjjhbgkaaGreat
open Go.RowKit

def joinP (a0 a1 b0 b1 : Int) : Int × Int := if a1 < a0 then ofP b0 b1 else if b1 < b0 then ofP a0 a1 else ofP (mn a0 b0) (mx a1 b1)
def meetP (a0 a1 b0 b1 : Int) : Int × Int := ofP (mx a0 b0) (mn a1 b1)
def rjoinP (a0 a1 b0 b1 : Int) : Int × Int := if a1 < a0 then nrm b0 b1 else if b1 < b0 then (a0, a1) else (mn a0 b0, mx a1 b1)
theorem join_1 (a0 a1 b0 b1 : Int) (w : World) (h : a1 < a0) :
    Calls Tryz.prog 51 #[.agg #[.int .i64 a0, .int .i64 a1], .agg #[.int .i64 b0, .int .i64 b1]] w fun e w' => e = .returned (.agg #[.int .i64 (ofP b0 b1).1, .int .i64 (ofP b0 b1).2]) ∧ Below w.heap.size w w' := by
  go_enter Tryz.func51, Tryz.ntmps51
  go_upto_region 1 with fail
  refine wp_world (fun W => W.heap[w.heap.size]? = some (.cells #[.int .i64 a0, .int .i64 a1] 53 (0, 0)) ∧ W.heap[w.heap.size + 1]? = some (.cells #[.int .i64 b0, .int .i64 b1] 53 (0, 0)) ∧ W.heap[w.heap.size + 2]? = some (.cells #[.int .i64 0, .int .i64 0] 53 (0, 0)) ∧ Below w.heap.size w W) ⟨blkUp (blkUp (blkA _ _ (by first | rfl | simp only [World.size_alloc])) _) _, blkUp (blkA _ _ (by first | rfl | simp only [World.size_alloc])) _, blkA _ _ (by first | rfl | simp only [World.size_alloc]), (((Below.refl _ _).alloc (by first | exact Nat.le_refl _ | (simp only [World.size_alloc]; omega)) _).alloc (by first | exact Nat.le_refl _ | (simp only [World.size_alloc]; omega)) _).alloc (by first | exact Nat.le_refl _ | (simp only [World.size_alloc]; omega)) _⟩ ?_
  rintro w1 ⟨k0, k1, k2, hB⟩
  have r0 := row_of k0
  have f0 := frozen_of k0
  have z0 := blk_lt k0
  have r1 := row_of k1
  have f1 := frozen_of k1
  have z1 := blk_lt k1
  have r2 := row_of k2
  have f2 := frozen_of k2
  have z2 := blk_lt k2
  have hd : decide (a1 < a0) = true := by simp; omega
  go_wp2_with fail
  refine (empty_any _ _ _).mono ?_
  rintro e w2 ⟨rfl, hb⟩
  replace k0 := blk_keep hb k0
  replace k1 := blk_keep hb k1
  replace k2 := blk_keep hb k2
  replace hB := hB.trans (hb.mono hB.size)
  clear r0 f0 z0 r1 f1 z1 r2 f2 z2
  clear hb
  have r0 := row_of k0
  have f0 := frozen_of k0
  have z0 := blk_lt k0
  have r1 := row_of k1
  have f1 := frozen_of k1
  have z1 := blk_lt k1
  have r2 := row_of k2
  have f2 := frozen_of k2
  have z2 := blk_lt k2
  go_wp2_with fail
  refine (of_any _ _ _).mono ?_
  rintro e w3 ⟨rfl, hb⟩
  replace k0 := blk_keep hb k0
  replace k1 := blk_keep hb k1
  replace k2 := blk_keep hb k2
  replace hB := hB.trans (hb.mono hB.size)
  clear r0 f0 z0 r1 f1 z1 r2 f2 z2
  clear hb
  have r0 := row_of k0
  have f0 := frozen_of k0
  have z0 := blk_lt k0
  have r1 := row_of k1
  have f1 := frozen_of k1
  have z1 := blk_lt k1
  have r2 := row_of k2
  have f2 := frozen_of k2
  have z2 := blk_lt k2
  go_wp2_with fail
  generalize hWF : (World.setCell (World.setCell _ _ _) _ _) = WF
  obtain ⟨kF, _, bF, _⟩ := put2 k2 _ _ hWF.symm
  clear r0 f0 z0 r1 f1 z1 r2 f2 z2
  clear hWF
  have rF := row_of kF
  exact bodyPost_ret (v := .agg #[.int .i64 (ofP b0 b1).1, .int .i64 (ofP b0 b1).2]) (by simp [results, Tryz.results51, go_sem, rF]) rfl ⟨rfl, hB.trans (bF _ (by show w.heap.size ≤ w.heap.size + 2; omega))⟩
theorem join_2 (a0 a1 b0 b1 : Int) (w : World) (h : a0 ≤ a1) (h2 : b1 < b0) :
    Calls Tryz.prog 51 #[.agg #[.int .i64 a0, .int .i64 a1], .agg #[.int .i64 b0, .int .i64 b1]] w fun e w' => e = .returned (.agg #[.int .i64 (ofP a0 a1).1, .int .i64 (ofP a0 a1).2]) ∧ Below w.heap.size w w' := by
  go_enter Tryz.func51, Tryz.ntmps51
  go_upto_region 1 with fail
  refine wp_world (fun W => W.heap[w.heap.size]? = some (.cells #[.int .i64 a0, .int .i64 a1] 53 (0, 0)) ∧ W.heap[w.heap.size + 1]? = some (.cells #[.int .i64 b0, .int .i64 b1] 53 (0, 0)) ∧ W.heap[w.heap.size + 2]? = some (.cells #[.int .i64 0, .int .i64 0] 53 (0, 0)) ∧ Below w.heap.size w W) ⟨blkUp (blkUp (blkA _ _ (by first | rfl | simp only [World.size_alloc])) _) _, blkUp (blkA _ _ (by first | rfl | simp only [World.size_alloc])) _, blkA _ _ (by first | rfl | simp only [World.size_alloc]), (((Below.refl _ _).alloc (by first | exact Nat.le_refl _ | (simp only [World.size_alloc]; omega)) _).alloc (by first | exact Nat.le_refl _ | (simp only [World.size_alloc]; omega)) _).alloc (by first | exact Nat.le_refl _ | (simp only [World.size_alloc]; omega)) _⟩ ?_
  rintro w1 ⟨k0, k1, k2, hB⟩
  have r0 := row_of k0
  have f0 := frozen_of k0
  have z0 := blk_lt k0
  have r1 := row_of k1
  have f1 := frozen_of k1
  have z1 := blk_lt k1
  have r2 := row_of k2
  have f2 := frozen_of k2
  have z2 := blk_lt k2
  have hd : decide (a1 < a0) = false := by simp; omega
  have hd2 : decide (b1 < b0) = true := by simp; omega
  go_wp2_with fail
  refine (empty_any _ _ _).mono ?_
  rintro e w2 ⟨rfl, hb⟩
  replace k0 := blk_keep hb k0
  replace k1 := blk_keep hb k1
  replace k2 := blk_keep hb k2
  replace hB := hB.trans (hb.mono hB.size)
  clear r0 f0 z0 r1 f1 z1 r2 f2 z2
  clear hb
  have r0 := row_of k0
  have f0 := frozen_of k0
  have z0 := blk_lt k0
  have r1 := row_of k1
  have f1 := frozen_of k1
  have z1 := blk_lt k1
  have r2 := row_of k2
  have f2 := frozen_of k2
  have z2 := blk_lt k2
  go_wp2_with fail
  refine (empty_any _ _ _).mono ?_
  rintro e w3 ⟨rfl, hb⟩
  replace k0 := blk_keep hb k0
  replace k1 := blk_keep hb k1
  replace k2 := blk_keep hb k2
  replace hB := hB.trans (hb.mono hB.size)
  clear r0 f0 z0 r1 f1 z1 r2 f2 z2
  clear hb
  have r0 := row_of k0
  have f0 := frozen_of k0
  have z0 := blk_lt k0
  have r1 := row_of k1
  have f1 := frozen_of k1
  have z1 := blk_lt k1
  have r2 := row_of k2
  have f2 := frozen_of k2
  have z2 := blk_lt k2
  go_wp2_with fail
  refine (of_any _ _ _).mono ?_
  rintro e w4 ⟨rfl, hb⟩
  replace k0 := blk_keep hb k0
  replace k1 := blk_keep hb k1
  replace k2 := blk_keep hb k2
  replace hB := hB.trans (hb.mono hB.size)
  clear r0 f0 z0 r1 f1 z1 r2 f2 z2
  clear hb
  have r0 := row_of k0
  have f0 := frozen_of k0
  have z0 := blk_lt k0
  have r1 := row_of k1
  have f1 := frozen_of k1
  have z1 := blk_lt k1
  have r2 := row_of k2
  have f2 := frozen_of k2
  have z2 := blk_lt k2
  go_wp2_with fail
  generalize hWF : (World.setCell (World.setCell _ _ _) _ _) = WF
  obtain ⟨kF, _, bF, _⟩ := put2 k2 _ _ hWF.symm
  clear r0 f0 z0 r1 f1 z1 r2 f2 z2
  clear hWF
  have rF := row_of kF
  exact bodyPost_ret (v := .agg #[.int .i64 (ofP a0 a1).1, .int .i64 (ofP a0 a1).2]) (by simp [results, Tryz.results51, go_sem, rF]) rfl ⟨rfl, hB.trans (bF _ (by show w.heap.size ≤ w.heap.size + 2; omega))⟩
theorem join_3 (a0 a1 b0 b1 : Int) (w : World) (h : a0 ≤ a1) (h2 : b0 ≤ b1) :
    Calls Tryz.prog 51 #[.agg #[.int .i64 a0, .int .i64 a1], .agg #[.int .i64 b0, .int .i64 b1]] w fun e w' => e = .returned (.agg #[.int .i64 (ofP (mn a0 b0) (mx a1 b1)).1, .int .i64 (ofP (mn a0 b0) (mx a1 b1)).2]) ∧ Below w.heap.size w w' := by
  go_enter Tryz.func51, Tryz.ntmps51
  go_upto_region 1 with fail
  refine wp_world (fun W => W.heap[w.heap.size]? = some (.cells #[.int .i64 a0, .int .i64 a1] 53 (0, 0)) ∧ W.heap[w.heap.size + 1]? = some (.cells #[.int .i64 b0, .int .i64 b1] 53 (0, 0)) ∧ W.heap[w.heap.size + 2]? = some (.cells #[.int .i64 0, .int .i64 0] 53 (0, 0)) ∧ Below w.heap.size w W) ⟨blkUp (blkUp (blkA _ _ (by first | rfl | simp only [World.size_alloc])) _) _, blkUp (blkA _ _ (by first | rfl | simp only [World.size_alloc])) _, blkA _ _ (by first | rfl | simp only [World.size_alloc]), (((Below.refl _ _).alloc (by first | exact Nat.le_refl _ | (simp only [World.size_alloc]; omega)) _).alloc (by first | exact Nat.le_refl _ | (simp only [World.size_alloc]; omega)) _).alloc (by first | exact Nat.le_refl _ | (simp only [World.size_alloc]; omega)) _⟩ ?_
  rintro w1 ⟨k0, k1, k2, hB⟩
  have r0 := row_of k0
  have f0 := frozen_of k0
  have z0 := blk_lt k0
  have r1 := row_of k1
  have f1 := frozen_of k1
  have z1 := blk_lt k1
  have r2 := row_of k2
  have f2 := frozen_of k2
  have z2 := blk_lt k2
  have hd : decide (a1 < a0) = false := by simp; omega
  have hd2 : decide (b1 < b0) = false := by simp; omega
  go_wp2_with fail
  refine (empty_any _ _ _).mono ?_
  rintro e w2 ⟨rfl, hb⟩
  replace k0 := blk_keep hb k0
  replace k1 := blk_keep hb k1
  replace k2 := blk_keep hb k2
  replace hB := hB.trans (hb.mono hB.size)
  clear r0 f0 z0 r1 f1 z1 r2 f2 z2
  clear hb
  have r0 := row_of k0
  have f0 := frozen_of k0
  have z0 := blk_lt k0
  have r1 := row_of k1
  have f1 := frozen_of k1
  have z1 := blk_lt k1
  have r2 := row_of k2
  have f2 := frozen_of k2
  have z2 := blk_lt k2
  go_wp2_with fail
  refine (empty_any _ _ _).mono ?_
  rintro e w3 ⟨rfl, hb⟩
  replace k0 := blk_keep hb k0
  replace k1 := blk_keep hb k1
  replace k2 := blk_keep hb k2
  replace hB := hB.trans (hb.mono hB.size)
  clear r0 f0 z0 r1 f1 z1 r2 f2 z2
  clear hb
  have r0 := row_of k0
  have f0 := frozen_of k0
  have z0 := blk_lt k0
  have r1 := row_of k1
  have f1 := frozen_of k1
  have z1 := blk_lt k1
  have r2 := row_of k2
  have f2 := frozen_of k2
  have z2 := blk_lt k2
  have hm : (if b0 < a0 then b0 else a0) = mn a0 b0 := rfl
  have hM : (if a1 < b1 then b1 else a1) = mx a1 b1 := rfl
  go_wp2_with fail
  refine (of_any _ _ _).mono ?_
  rintro e w4 ⟨rfl, hb⟩
  replace k0 := blk_keep hb k0
  replace k1 := blk_keep hb k1
  replace k2 := blk_keep hb k2
  replace hB := hB.trans (hb.mono hB.size)
  clear r0 f0 z0 r1 f1 z1 r2 f2 z2
  clear hb
  have r0 := row_of k0
  have f0 := frozen_of k0
  have z0 := blk_lt k0
  have r1 := row_of k1
  have f1 := frozen_of k1
  have z1 := blk_lt k1
  have r2 := row_of k2
  have f2 := frozen_of k2
  have z2 := blk_lt k2
  go_wp2_with fail
  generalize hWF : (World.setCell (World.setCell _ _ _) _ _) = WF
  obtain ⟨kF, _, bF, _⟩ := put2 k2 _ _ hWF.symm
  clear r0 f0 z0 r1 f1 z1 r2 f2 z2
  clear hWF
  have rF := row_of kF
  exact bodyPost_ret (v := .agg #[.int .i64 (ofP (mn a0 b0) (mx a1 b1)).1, .int .i64 (ofP (mn a0 b0) (mx a1 b1)).2]) (by simp [results, Tryz.results51, go_sem, rF]) rfl ⟨rfl, hB.trans (bF _ (by show w.heap.size ≤ w.heap.size + 2; omega))⟩
theorem join_any (a0 a1 b0 b1 : Int) (w : World) :
    Calls Tryz.prog 51 #[.agg #[.int .i64 a0, .int .i64 a1], .agg #[.int .i64 b0, .int .i64 b1]] w fun e w' => e = .returned (.agg #[.int .i64 (joinP a0 a1 b0 b1).1, .int .i64 (joinP a0 a1 b0 b1).2]) ∧ Below w.heap.size w w' := by
  unfold joinP
  by_cases h : a1 < a0
  · simpa [h] using join_1 a0 a1 b0 b1 w h
  · by_cases h2 : b1 < b0
    · simpa [h, h2] using join_2 a0 a1 b0 b1 w (by omega) h2
    · simpa [h, h2] using join_3 a0 a1 b0 b1 w (by omega) (by omega)
theorem meet_any (a0 a1 b0 b1 : Int) (w : World) :
    Calls Tryz.prog 85 #[.agg #[.int .i64 a0, .int .i64 a1], .agg #[.int .i64 b0, .int .i64 b1]] w fun e w' => e = .returned (.agg #[.int .i64 (meetP a0 a1 b0 b1).1, .int .i64 (meetP a0 a1 b0 b1).2]) ∧ Below w.heap.size w w' := by
  go_enter Tryz.func85, Tryz.ntmps85
  unfold meetP
  go_upto_region 1 with fail
  refine wp_world (fun W => W.heap[w.heap.size]? = some (.cells #[.int .i64 a0, .int .i64 a1] 53 (0, 0)) ∧ W.heap[w.heap.size + 1]? = some (.cells #[.int .i64 b0, .int .i64 b1] 53 (0, 0)) ∧ W.heap[w.heap.size + 2]? = some (.cells #[.int .i64 0, .int .i64 0] 53 (0, 0)) ∧ Below w.heap.size w W) ⟨blkUp (blkUp (blkA _ _ (by first | rfl | simp only [World.size_alloc])) _) _, blkUp (blkA _ _ (by first | rfl | simp only [World.size_alloc])) _, blkA _ _ (by first | rfl | simp only [World.size_alloc]), (((Below.refl _ _).alloc (by first | exact Nat.le_refl _ | (simp only [World.size_alloc]; omega)) _).alloc (by first | exact Nat.le_refl _ | (simp only [World.size_alloc]; omega)) _).alloc (by first | exact Nat.le_refl _ | (simp only [World.size_alloc]; omega)) _⟩ ?_
  rintro w1 ⟨k0, k1, k2, hB⟩
  have r0 := row_of k0
  have f0 := frozen_of k0
  have z0 := blk_lt k0
  have r1 := row_of k1
  have f1 := frozen_of k1
  have z1 := blk_lt k1
  have r2 := row_of k2
  have f2 := frozen_of k2
  have z2 := blk_lt k2
  have hm : (if a0 < b0 then b0 else a0) = mx a0 b0 := rfl
  have hM : (if b1 < a1 then b1 else a1) = mn a1 b1 := rfl
  go_wp2_with fail
  refine (of_any _ _ _).mono ?_
  rintro e w2 ⟨rfl, hb⟩
  replace k0 := blk_keep hb k0
  replace k1 := blk_keep hb k1
  replace k2 := blk_keep hb k2
  replace hB := hB.trans (hb.mono hB.size)
  clear r0 f0 z0 r1 f1 z1 r2 f2 z2
  clear hb
  have r0 := row_of k0
  have f0 := frozen_of k0
  have z0 := blk_lt k0
  have r1 := row_of k1
  have f1 := frozen_of k1
  have z1 := blk_lt k1
  have r2 := row_of k2
  have f2 := frozen_of k2
  have z2 := blk_lt k2
  go_wp2_with fail
  generalize hWF : (World.setCell (World.setCell _ _ _) _ _) = WF
  obtain ⟨kF, _, bF, _⟩ := put2 k2 _ _ hWF.symm
  clear r0 f0 z0 r1 f1 z1 r2 f2 z2
  clear hWF
  have rF := row_of kF
  exact bodyPost_ret (v := .agg #[.int .i64 (ofP (mx a0 b0) (mn a1 b1)).1, .int .i64 (ofP (mx a0 b0) (mn a1 b1)).2]) (by simp [results, Tryz.results85, go_sem, rF]) rfl ⟨rfl, hB.trans (bF _ (by show w.heap.size ≤ w.heap.size + 2; omega))⟩
end Go.Proofs.YtlgmofjjjhbgkaaGreat
namespace Go.Proofs.YtlgmofjjjhbgkaaGreat
open Go.RowKit
/-- Two pairs are stored, each into a block. -/
theorem put22 {W WF : World} {n m : Nat} {t u : TypeId} {d0 d1 c0 c1 : Value} (hne : n ≠ m) (h : W.heap[n]? = some (.cells #[d0, d1] t (0, 0))) (g : W.heap[m]? = some (.cells #[c0, c1] u (0, 0))) (v0 v1 u0 u1 : Value) (hW : WF = (((W.setCell ⟨n, 0, none⟩ v0).setCell ⟨n, 1, none⟩ v1).setCell ⟨m, 0, none⟩ u0).setCell ⟨m, 1, none⟩ u1) :
    WF.heap[n]? = some (.cells #[v0, v1] t (0, 0)) ∧ WF.heap[m]? = some (.cells #[u0, u1] u (0, 0)) ∧ (∀ B, B ≤ n → B ≤ m → Below B W WF) := by
  obtain ⟨h1, h2, h3, _⟩ := put2 h v0 v1 rfl
  have g1 := h2 m _ (Ne.symm hne) g
  obtain ⟨g2, g3, g4, _⟩ := put2 g1 u0 u1 hW
  exact ⟨g3 n _ hne h1, g2, fun B b1 b2 => (h3 B b1).trans (g4 B b2)⟩

set_option maxRecDepth 100000 in
theorem min4 (b : Nat) (e0 e1 e2 e3 : Int) (w : World) (_hb : b < w.heap.size) (c0 : w.cell? ⟨b, 0, none⟩ = some (.int .i64 e0)) (c1 : w.cell? ⟨b, 1, none⟩ = some (.int .i64 e1)) (c2 : w.cell? ⟨b, 2, none⟩ = some (.int .i64 e2)) (c3 : w.cell? ⟨b, 3, none⟩ = some (.int .i64 e3)) :
    Calls Tryz.prog 145 #[.slice (some ⟨b, 0, none⟩) 4 4] w fun e w' => e = .returned (.int .i64 (mn (mn (mn e0 e1) e2) e3)) ∧ w = w' := by
  have h1 : (if e1 < e0 then e1 else e0) = mn e0 e1 := rfl
  generalize hm1 : mn e0 e1 = m1 at *
  have h2 : (if e2 < m1 then e2 else m1) = mn m1 e2 := rfl
  generalize hm2 : mn m1 e2 = m2 at *
  have h3 : (if e3 < m2 then e3 else m2) = mn m2 e3 := rfl
  generalize hm3 : mn m2 e3 = m3 at *
  go_enter Tryz.func145, Tryz.ntmps145
  go_wp2_with fail
  refine wp_loop_rounds 4 ?_
  rw [rounds_succ]
  go_wp2_with fail
  rw [rounds_succ]
  go_wp2_with fail
  rw [rounds_succ]
  go_wp2_with fail
  rw [rounds_succ]
  go_wp2_with fail
  go_ret
  exact ⟨rfl, rfl⟩

set_option maxRecDepth 100000 in
theorem max4 (b : Nat) (e0 e1 e2 e3 : Int) (w : World) (_hb : b < w.heap.size) (c0 : w.cell? ⟨b, 0, none⟩ = some (.int .i64 e0)) (c1 : w.cell? ⟨b, 1, none⟩ = some (.int .i64 e1)) (c2 : w.cell? ⟨b, 2, none⟩ = some (.int .i64 e2)) (c3 : w.cell? ⟨b, 3, none⟩ = some (.int .i64 e3)) :
    Calls Tryz.prog 146 #[.slice (some ⟨b, 0, none⟩) 4 4] w fun e w' => e = .returned (.int .i64 (mx (mx (mx e0 e1) e2) e3)) ∧ w = w' := by
  have h1 : (if e0 < e1 then e1 else e0) = mx e0 e1 := rfl
  generalize hm1 : mx e0 e1 = m1 at *
  have h2 : (if m1 < e2 then e2 else m1) = mx m1 e2 := rfl
  generalize hm2 : mx m1 e2 = m2 at *
  have h3 : (if m2 < e3 then e3 else m2) = mx m2 e3 := rfl
  generalize hm3 : mx m2 e3 = m3 at *
  go_enter Tryz.func146, Tryz.ntmps146
  go_wp2_with fail
  refine wp_loop_rounds 4 ?_
  rw [rounds_succ]
  go_wp2_with fail
  rw [rounds_succ]
  go_wp2_with fail
  rw [rounds_succ]
  go_wp2_with fail
  rw [rounds_succ]
  go_wp2_with fail
  go_ret
  exact ⟨rfl, rfl⟩

theorem add_fn (x y : Int) (w : World) (h1 : -9223372036854775808 ≤ x + y) (h2 : x + y ≤ 9223372036854775807) :
    Calls Tryz.prog 139 #[.int .i64 x, .int .i64 y] w fun e w' => e = .returned (.int .i64 (x + y)) ∧ w = w' := by
  go_enter Tryz.func139, Tryz.ntmps139
  go_wp2
  go_ret
  exact ⟨by simp <;> (unfold wrap64; omega), rfl⟩

theorem sub_fn (x y : Int) (w : World) (h1 : -9223372036854775808 ≤ x - y) (h2 : x - y ≤ 9223372036854775807) :
    Calls Tryz.prog 140 #[.int .i64 x, .int .i64 y] w fun e w' => e = .returned (.int .i64 (x - y)) ∧ w = w' := by
  go_enter Tryz.func140, Tryz.ntmps140
  go_wp2
  go_ret
  exact ⟨by simp <;> (unfold wrap64; omega), rfl⟩

theorem mul_fn (x y : Int) (w : World) (h1 : -9223372036854775808 ≤ x * y) (h2 : x * y ≤ 9223372036854775807) :
    Calls Tryz.prog 141 #[.int .i64 x, .int .i64 y] w fun e w' => e = .returned (.int .i64 (x * y)) ∧ w = w' := by
  go_enter Tryz.func141, Tryz.ntmps141
  go_wp2
  go_ret
  exact ⟨by simp <;> (unfold wrap64; omega), rfl⟩

def bot (f : Int → Int → Int) (a0 a1 b0 b1 : Int) : Int := mn (mn (mn (f a0 b0) (f a0 b1)) (f a1 b0)) (f a1 b1)
def top (f : Int → Int → Int) (a0 a1 b0 b1 : Int) : Int := mx (mx (mx (f a0 b0) (f a0 b1)) (f a1 b0)) (f a1 b1)
def FnOk (n : Nat) (f : Int → Int → Int) (a0 a1 b0 b1 : Int) : Prop := ∀ (x y : Int) (w : World), (x = a0 ∨ x = a1) → (y = b0 ∨ y = b1) → Calls Tryz.prog n #[.int .i64 x, .int .i64 y] w fun e w' => e = .returned (.int .i64 (f x y)) ∧ w = w'

set_option maxRecDepth 100000 in
set_option maxHeartbeats 2000000 in
theorem ends_add (f : Int → Int → Int) (a0 a1 b0 b1 : Int) (w : World) (hf : FnOk 139 f a0 a1 b0 b1) :
    Calls Tryz.prog 138 #[.agg #[.int .i64 a0, .int .i64 a1], .agg #[.int .i64 b0, .int .i64 b1], .func (.func 139) #[] #[]] w fun e w' => e = .returned (.tuple #[.agg #[.int .i64 (ofP (bot f a0 a1 b0 b1) (top f a0 a1 b0 b1)).1, .int .i64 (ofP (bot f a0 a1 b0 b1) (top f a0 a1 b0 b1)).2], .agg #[.bool (decide (bot f a0 a1 b0 b1 < -2147483648) || decide (2147483647 < top f a0 a1 b0 b1)), .bool false]]) ∧ Below w.heap.size w w' := by
  replace hf := Lib.hid hf
  go_enter Tryz.func138, Tryz.ntmps138
  go_upto_region 1 with fail
  refine wp_world (fun W => W.heap[w.heap.size]? = some (.cells #[.int .i64 a0, .int .i64 a1] 53 (0, 0)) ∧ W.heap[w.heap.size + 1]? = some (.cells #[.int .i64 b0, .int .i64 b1] 53 (0, 0)) ∧ W.heap[w.heap.size + 2]? = some (.cells #[.int .i64 0, .int .i64 0] 53 (0, 0)) ∧ W.heap[w.heap.size + 3]? = some (.cells #[.bool false, .bool false] 128 (0, 0)) ∧ Below w.heap.size w W) ⟨blkUp (blkUp (blkUp (blkA _ _ (by first | rfl | simp only [World.size_alloc])) _) _) _, blkUp (blkUp (blkA _ _ (by first | rfl | simp only [World.size_alloc])) _) _, blkUp (blkA _ _ (by first | rfl | simp only [World.size_alloc])) _, blkA _ _ (by first | rfl | simp only [World.size_alloc]), ((((Below.refl _ _).alloc (by first | exact Nat.le_refl _ | (simp only [World.size_alloc]; omega)) _).alloc (by first | exact Nat.le_refl _ | (simp only [World.size_alloc]; omega)) _).alloc (by first | exact Nat.le_refl _ | (simp only [World.size_alloc]; omega)) _).alloc (by first | exact Nat.le_refl _ | (simp only [World.size_alloc]; omega)) _⟩ ?_
  rintro w1 ⟨k0, k1, k2, k3, hB⟩
  have r0 := row_of k0
  have f0 := frozen_of k0
  have z0 := blk_lt k0
  have r1 := row_of k1
  have f1 := frozen_of k1
  have z1 := blk_lt k1
  have r2 := row_of k2
  have f2 := frozen_of k2
  have z2 := blk_lt k2
  have r3 := row_of k3
  have f3 := frozen_of k3
  have z3 := blk_lt k3
  have hS : w1.cell? ⟨w.heap.size, 0, none⟩ = some (.int .i64 a0) ∧ w1.cell? ⟨w.heap.size, 1, none⟩ = some (.int .i64 a1) ∧ w1.cell? ⟨w.heap.size + 1, 0, none⟩ = some (.int .i64 b0) ∧ w1.cell? ⟨w.heap.size + 1, 1, none⟩ = some (.int .i64 b1) := ⟨row_of k0 0, row_of k0 1, row_of k1 0, row_of k1 1⟩
  have hS2 := hS
  obtain ⟨q0, q1, q2, q3⟩ := hS2
  clear r0 f0 z0 r1 f1 z1 r2 f2 z2 r3 f3 z3
  go_region_held3 (fun W => W.cell? ⟨w.heap.size, 0, none⟩ = some (.int .i64 a0) ∧ W.cell? ⟨w.heap.size, 1, none⟩ = some (.int .i64 a1) ∧ W.cell? ⟨w.heap.size + 1, 0, none⟩ = some (.int .i64 b0) ∧ W.cell? ⟨w.heap.size + 1, 1, none⟩ = some (.int .i64 b1)) (first | assumption | exact hS | go_keep) (first | (go_at_call 139; refine (hf.out _ _ _ (by simp) (by simp)).mono ?_; rintro e wn ⟨rfl, rfl⟩))
  go_upto_region 2 with fail
  clear hS q0 q1 q2 q3
  have hz1 : w.heap.size + 3 < w1.heap.size := blk_lt k3
  refine wp_world (fun W => W.heap[w.heap.size]? = some (.cells #[.int .i64 a0, .int .i64 a1] 53 (0, 0)) ∧ W.heap[w.heap.size + 1]? = some (.cells #[.int .i64 b0, .int .i64 b1] 53 (0, 0)) ∧ W.heap[w.heap.size + 2]? = some (.cells #[.int .i64 0, .int .i64 0] 53 (0, 0)) ∧ W.heap[w.heap.size + 3]? = some (.cells #[.bool false, .bool false] 128 (0, 0)) ∧ W.heap[w1.heap.size]? = some (.cells #[.int .i64 (f a0 b0), .int .i64 (f a0 b1), .int .i64 (f a1 b0), .int .i64 (f a1 b1)] 3 (0, 0)) ∧ Below w.heap.size w W) ⟨blkUp (k0) _, blkUp (k1) _, blkUp (k2) _, blkUp (k3) _, blkA _ _ (by first | rfl | simp only [World.size_alloc]), ((hB).alloc (by first | exact hB.size | (simp only [World.size_alloc]; omega)) _).drew⟩ ?_
  rintro w2 ⟨k0, k1, k2, k3, k4, hB⟩
  have r0 := row_of k0
  have f0 := frozen_of k0
  have z0 := blk_lt k0
  have r1 := row_of k1
  have f1 := frozen_of k1
  have z1 := blk_lt k1
  have r2 := row_of k2
  have f2 := frozen_of k2
  have z2 := blk_lt k2
  have r3 := row_of k3
  have f3 := frozen_of k3
  have z3 := blk_lt k3
  have r4 := row_of k4
  have f4 := frozen_of k4
  have z4 := blk_lt k4
  clear k0 r0 f0 z0 k1 r1 f1 z1
  go_wp2_with fail
  refine (min4 _ _ _ _ _ _ z4 (row_of k4 0) (row_of k4 1) (row_of k4 2) (row_of k4 3)).mono ?_
  rw [show mn (mn (mn (f a0 b0) (f a0 b1)) (f a1 b0)) (f a1 b1) = bot f a0 a1 b0 b1 from rfl]
  rintro e wq ⟨rfl, rfl⟩
  go_wp2_with fail
  refine (max4 _ _ _ _ _ _ z4 (row_of k4 0) (row_of k4 1) (row_of k4 2) (row_of k4 3)).mono ?_
  rw [show mx (mx (mx (f a0 b0) (f a0 b1)) (f a1 b0)) (f a1 b1) = top f a0 a1 b0 b1 from rfl]
  rintro e wq ⟨rfl, rfl⟩
  clear k4 r4 f4 z4
  generalize hLd : bot f a0 a1 b0 b1 = L
  generalize hHd : top f a0 a1 b0 b1 = H
  go_upto_region 3 with fail
  clear hf
  by_cases hL : L < -2147483648
  · have hd := decide_eq_true hL
    go_wp2_with fail
    refine (of_any _ _ _).mono ?_
    rintro e w3 ⟨rfl, hb⟩
    replace k2 := blk_keep hb k2
    replace k3 := blk_keep hb k3
    replace hB := hB.trans (hb.mono hB.size)
    clear r2 f2 z2 r3 f3 z3
    clear hb
    have r2 := row_of k2
    have f2 := frozen_of k2
    have z2 := blk_lt k2
    have r3 := row_of k3
    have f3 := frozen_of k3
    have z3 := blk_lt k3
    go_wp2_with fail
    generalize hWF : (World.setCell (World.setCell (World.setCell (World.setCell _ _ _) _ _) _ _) _ _) = WF
    obtain ⟨kF, kG, bF⟩ := put22 (by omega) k2 k3 _ _ _ _ hWF.symm
    clear r2 f2 z2 r3 f3 z3
    clear hWF
    have rF := row_of kF
    have rG := row_of kG
    exact bodyPost_ret (v := .tuple #[.agg #[.int .i64 (ofP L H).1, .int .i64 (ofP L H).2], .agg #[.bool (true), .bool false]]) (by simp [results, Tryz.results138, go_sem, rF, rG]) rfl ⟨by subst hLd hHd; rw [hd]; rfl, hB.trans (bF _ (by show w.heap.size ≤ w.heap.size + 2; omega) (by show w.heap.size ≤ w.heap.size + 3; omega))⟩
  · have hd := decide_eq_false hL
    go_wp2_with fail
    refine (of_any _ _ _).mono ?_
    rintro e w3 ⟨rfl, hb⟩
    replace k2 := blk_keep hb k2
    replace k3 := blk_keep hb k3
    replace hB := hB.trans (hb.mono hB.size)
    clear r2 f2 z2 r3 f3 z3
    clear hb
    have r2 := row_of k2
    have f2 := frozen_of k2
    have z2 := blk_lt k2
    have r3 := row_of k3
    have f3 := frozen_of k3
    have z3 := blk_lt k3
    go_wp2_with fail
    generalize hWF : (World.setCell (World.setCell (World.setCell (World.setCell _ _ _) _ _) _ _) _ _) = WF
    obtain ⟨kF, kG, bF⟩ := put22 (by omega) k2 k3 _ _ _ _ hWF.symm
    clear r2 f2 z2 r3 f3 z3
    clear hWF
    have rF := row_of kF
    have rG := row_of kG
    exact bodyPost_ret (v := .tuple #[.agg #[.int .i64 (ofP L H).1, .int .i64 (ofP L H).2], .agg #[.bool (decide (2147483647 < H)), .bool false]]) (by simp [results, Tryz.results138, go_sem, rF, rG]) rfl ⟨by subst hLd hHd; rw [hd]; rfl, hB.trans (bF _ (by show w.heap.size ≤ w.heap.size + 2; omega) (by show w.heap.size ≤ w.heap.size + 3; omega))⟩
set_option maxRecDepth 100000 in
set_option maxHeartbeats 2000000 in
theorem ends_sub (f : Int → Int → Int) (a0 a1 b0 b1 : Int) (w : World) (hf : FnOk 140 f a0 a1 b0 b1) :
    Calls Tryz.prog 138 #[.agg #[.int .i64 a0, .int .i64 a1], .agg #[.int .i64 b0, .int .i64 b1], .func (.func 140) #[] #[]] w fun e w' => e = .returned (.tuple #[.agg #[.int .i64 (ofP (bot f a0 a1 b0 b1) (top f a0 a1 b0 b1)).1, .int .i64 (ofP (bot f a0 a1 b0 b1) (top f a0 a1 b0 b1)).2], .agg #[.bool (decide (bot f a0 a1 b0 b1 < -2147483648) || decide (2147483647 < top f a0 a1 b0 b1)), .bool false]]) ∧ Below w.heap.size w w' := by
  replace hf := Lib.hid hf
  go_enter Tryz.func138, Tryz.ntmps138
  go_upto_region 1 with fail
  refine wp_world (fun W => W.heap[w.heap.size]? = some (.cells #[.int .i64 a0, .int .i64 a1] 53 (0, 0)) ∧ W.heap[w.heap.size + 1]? = some (.cells #[.int .i64 b0, .int .i64 b1] 53 (0, 0)) ∧ W.heap[w.heap.size + 2]? = some (.cells #[.int .i64 0, .int .i64 0] 53 (0, 0)) ∧ W.heap[w.heap.size + 3]? = some (.cells #[.bool false, .bool false] 128 (0, 0)) ∧ Below w.heap.size w W) ⟨blkUp (blkUp (blkUp (blkA _ _ (by first | rfl | simp only [World.size_alloc])) _) _) _, blkUp (blkUp (blkA _ _ (by first | rfl | simp only [World.size_alloc])) _) _, blkUp (blkA _ _ (by first | rfl | simp only [World.size_alloc])) _, blkA _ _ (by first | rfl | simp only [World.size_alloc]), ((((Below.refl _ _).alloc (by first | exact Nat.le_refl _ | (simp only [World.size_alloc]; omega)) _).alloc (by first | exact Nat.le_refl _ | (simp only [World.size_alloc]; omega)) _).alloc (by first | exact Nat.le_refl _ | (simp only [World.size_alloc]; omega)) _).alloc (by first | exact Nat.le_refl _ | (simp only [World.size_alloc]; omega)) _⟩ ?_
  rintro w1 ⟨k0, k1, k2, k3, hB⟩
  have r0 := row_of k0
  have f0 := frozen_of k0
  have z0 := blk_lt k0
  have r1 := row_of k1
  have f1 := frozen_of k1
  have z1 := blk_lt k1
  have r2 := row_of k2
  have f2 := frozen_of k2
  have z2 := blk_lt k2
  have r3 := row_of k3
  have f3 := frozen_of k3
  have z3 := blk_lt k3
  have hS : w1.cell? ⟨w.heap.size, 0, none⟩ = some (.int .i64 a0) ∧ w1.cell? ⟨w.heap.size, 1, none⟩ = some (.int .i64 a1) ∧ w1.cell? ⟨w.heap.size + 1, 0, none⟩ = some (.int .i64 b0) ∧ w1.cell? ⟨w.heap.size + 1, 1, none⟩ = some (.int .i64 b1) := ⟨row_of k0 0, row_of k0 1, row_of k1 0, row_of k1 1⟩
  have hS2 := hS
  obtain ⟨q0, q1, q2, q3⟩ := hS2
  clear r0 f0 z0 r1 f1 z1 r2 f2 z2 r3 f3 z3
  go_region_held3 (fun W => W.cell? ⟨w.heap.size, 0, none⟩ = some (.int .i64 a0) ∧ W.cell? ⟨w.heap.size, 1, none⟩ = some (.int .i64 a1) ∧ W.cell? ⟨w.heap.size + 1, 0, none⟩ = some (.int .i64 b0) ∧ W.cell? ⟨w.heap.size + 1, 1, none⟩ = some (.int .i64 b1)) (first | assumption | exact hS | go_keep) (first | (go_at_call 140; refine (hf.out _ _ _ (by simp) (by simp)).mono ?_; rintro e wn ⟨rfl, rfl⟩))
  go_upto_region 2 with fail
  clear hS q0 q1 q2 q3
  have hz1 : w.heap.size + 3 < w1.heap.size := blk_lt k3
  refine wp_world (fun W => W.heap[w.heap.size]? = some (.cells #[.int .i64 a0, .int .i64 a1] 53 (0, 0)) ∧ W.heap[w.heap.size + 1]? = some (.cells #[.int .i64 b0, .int .i64 b1] 53 (0, 0)) ∧ W.heap[w.heap.size + 2]? = some (.cells #[.int .i64 0, .int .i64 0] 53 (0, 0)) ∧ W.heap[w.heap.size + 3]? = some (.cells #[.bool false, .bool false] 128 (0, 0)) ∧ W.heap[w1.heap.size]? = some (.cells #[.int .i64 (f a0 b0), .int .i64 (f a0 b1), .int .i64 (f a1 b0), .int .i64 (f a1 b1)] 3 (0, 0)) ∧ Below w.heap.size w W) ⟨blkUp (k0) _, blkUp (k1) _, blkUp (k2) _, blkUp (k3) _, blkA _ _ (by first | rfl | simp only [World.size_alloc]), ((hB).alloc (by first | exact hB.size | (simp only [World.size_alloc]; omega)) _).drew⟩ ?_
  rintro w2 ⟨k0, k1, k2, k3, k4, hB⟩
  have r0 := row_of k0
  have f0 := frozen_of k0
  have z0 := blk_lt k0
  have r1 := row_of k1
  have f1 := frozen_of k1
  have z1 := blk_lt k1
  have r2 := row_of k2
  have f2 := frozen_of k2
  have z2 := blk_lt k2
  have r3 := row_of k3
  have f3 := frozen_of k3
  have z3 := blk_lt k3
  have r4 := row_of k4
  have f4 := frozen_of k4
  have z4 := blk_lt k4
  clear k0 r0 f0 z0 k1 r1 f1 z1
  go_wp2_with fail
  refine (min4 _ _ _ _ _ _ z4 (row_of k4 0) (row_of k4 1) (row_of k4 2) (row_of k4 3)).mono ?_
  rw [show mn (mn (mn (f a0 b0) (f a0 b1)) (f a1 b0)) (f a1 b1) = bot f a0 a1 b0 b1 from rfl]
  rintro e wq ⟨rfl, rfl⟩
  go_wp2_with fail
  refine (max4 _ _ _ _ _ _ z4 (row_of k4 0) (row_of k4 1) (row_of k4 2) (row_of k4 3)).mono ?_
  rw [show mx (mx (mx (f a0 b0) (f a0 b1)) (f a1 b0)) (f a1 b1) = top f a0 a1 b0 b1 from rfl]
  rintro e wq ⟨rfl, rfl⟩
  clear k4 r4 f4 z4
  generalize hLd : bot f a0 a1 b0 b1 = L
  generalize hHd : top f a0 a1 b0 b1 = H
  go_upto_region 3 with fail
  clear hf
  by_cases hL : L < -2147483648
  · have hd := decide_eq_true hL
    go_wp2_with fail
    refine (of_any _ _ _).mono ?_
    rintro e w3 ⟨rfl, hb⟩
    replace k2 := blk_keep hb k2
    replace k3 := blk_keep hb k3
    replace hB := hB.trans (hb.mono hB.size)
    clear r2 f2 z2 r3 f3 z3
    clear hb
    have r2 := row_of k2
    have f2 := frozen_of k2
    have z2 := blk_lt k2
    have r3 := row_of k3
    have f3 := frozen_of k3
    have z3 := blk_lt k3
    go_wp2_with fail
    generalize hWF : (World.setCell (World.setCell (World.setCell (World.setCell _ _ _) _ _) _ _) _ _) = WF
    obtain ⟨kF, kG, bF⟩ := put22 (by omega) k2 k3 _ _ _ _ hWF.symm
    clear r2 f2 z2 r3 f3 z3
    clear hWF
    have rF := row_of kF
    have rG := row_of kG
    exact bodyPost_ret (v := .tuple #[.agg #[.int .i64 (ofP L H).1, .int .i64 (ofP L H).2], .agg #[.bool (true), .bool false]]) (by simp [results, Tryz.results138, go_sem, rF, rG]) rfl ⟨by subst hLd hHd; rw [hd]; rfl, hB.trans (bF _ (by show w.heap.size ≤ w.heap.size + 2; omega) (by show w.heap.size ≤ w.heap.size + 3; omega))⟩
  · have hd := decide_eq_false hL
    go_wp2_with fail
    refine (of_any _ _ _).mono ?_
    rintro e w3 ⟨rfl, hb⟩
    replace k2 := blk_keep hb k2
    replace k3 := blk_keep hb k3
    replace hB := hB.trans (hb.mono hB.size)
    clear r2 f2 z2 r3 f3 z3
    clear hb
    have r2 := row_of k2
    have f2 := frozen_of k2
    have z2 := blk_lt k2
    have r3 := row_of k3
    have f3 := frozen_of k3
    have z3 := blk_lt k3
    go_wp2_with fail
    generalize hWF : (World.setCell (World.setCell (World.setCell (World.setCell _ _ _) _ _) _ _) _ _) = WF
    obtain ⟨kF, kG, bF⟩ := put22 (by omega) k2 k3 _ _ _ _ hWF.symm
    clear r2 f2 z2 r3 f3 z3
    clear hWF
    have rF := row_of kF
    have rG := row_of kG
    exact bodyPost_ret (v := .tuple #[.agg #[.int .i64 (ofP L H).1, .int .i64 (ofP L H).2], .agg #[.bool (decide (2147483647 < H)), .bool false]]) (by simp [results, Tryz.results138, go_sem, rF, rG]) rfl ⟨by subst hLd hHd; rw [hd]; rfl, hB.trans (bF _ (by show w.heap.size ≤ w.heap.size + 2; omega) (by show w.heap.size ≤ w.heap.size + 3; omega))⟩
end Go.Proofs.YtlgmofjjjhbgkaaGreat
namespace Go.Proofs.YtlgmofjjjhbgkaaGreat
open Go.RowKit
theorem nrm_in (l h : Int) (hh : l ≤ h) : nrm l h = (l, h) := if_neg (by omega)
theorem ofP_in (l h : Int) (h1 : -2147483648 ≤ l) (h2 : h ≤ 2147483647) (hh : l ≤ h) : ofP l h = (l, h) := by
  unfold ofP mx mn
  rw [nrm_in _ _ (by split <;> split <;> omega)]
  congr 1 <;> split <;> omega
theorem const_in (n : Int) (w : World) (h1 : -2147483648 ≤ n) (h2 : n ≤ 2147483647) :
    Calls Tryz.prog 16 #[.int .i64 n] w fun e w' => e = .returned (.agg #[.int .i64 n, .int .i64 n]) ∧ Below w.heap.size w w' := by
  have h := const_any n w
  rwa [ofP_in n n h1 h2 (Int.le_refl n)] at h
theorem of_in (l h : Int) (w : World) (h1 : -2147483648 ≤ l) (h2 : h ≤ 2147483647) (hh : l ≤ h) :
    Calls Tryz.prog 21 #[.int .i64 l, .int .i64 h] w fun e w' => e = .returned (.agg #[.int .i64 l, .int .i64 h]) ∧ Below w.heap.size w w' := by
  have h := of_any l h w
  rwa [ofP_in l _ h1 h2 hh] at h

set_option maxRecDepth 100000 in
theorem do_fadd (f : Int → Int → Int) (a0 a1 b0 b1 : Int) (w : World) (ha : a0 ≤ a1) (hb : b0 ≤ b1) (hf : FnOk 139 f a0 a1 b0 b1) :
    Calls Tryz.prog 128 #[.int .i64 4, .agg #[.int .i64 a0, .int .i64 a1], .agg #[.int .i64 b0, .int .i64 b1]] w fun e w' => e = .returned (.tuple #[.agg #[.int .i64 (ofP (bot f a0 a1 b0 b1) (top f a0 a1 b0 b1)).1, .int .i64 (ofP (bot f a0 a1 b0 b1) (top f a0 a1 b0 b1)).2], .agg #[.bool (decide (bot f a0 a1 b0 b1 < -2147483648) || decide (2147483647 < top f a0 a1 b0 b1)), .bool false]]) ∧ Below w.heap.size w w' := by
  have hd1 : decide (a1 < a0) = false := by simp; omega
  have hd2 : decide (b1 < b0) = false := by simp; omega
  replace hf := Lib.hid hf
  clear ha hb
  go_enter Tryz.func128, Tryz.ntmps128
  go_upto_region 1 with fail
  refine wp_world (fun W => W.heap[w.heap.size]? = some (.cells #[.int .i64 a0, .int .i64 a1] 53 (0, 0)) ∧ W.heap[w.heap.size + 1]? = some (.cells #[.int .i64 b0, .int .i64 b1] 53 (0, 0)) ∧ W.heap[w.heap.size + 2]? = some (.cells #[.int .i64 0, .int .i64 0] 53 (0, 0)) ∧ W.heap[w.heap.size + 3]? = some (.cells #[.bool false, .bool false] 128 (0, 0)) ∧ Below w.heap.size w W) ⟨blkUp (blkUp (blkUp (blkA _ _ (by first | rfl | simp only [World.size_alloc])) _) _) _, blkUp (blkUp (blkA _ _ (by first | rfl | simp only [World.size_alloc])) _) _, blkUp (blkA _ _ (by first | rfl | simp only [World.size_alloc])) _, blkA _ _ (by first | rfl | simp only [World.size_alloc]), ((((Below.refl _ _).alloc (by first | exact Nat.le_refl _ | (simp only [World.size_alloc]; omega)) _).alloc (by first | exact Nat.le_refl _ | (simp only [World.size_alloc]; omega)) _).alloc (by first | exact Nat.le_refl _ | (simp only [World.size_alloc]; omega)) _).alloc (by first | exact Nat.le_refl _ | (simp only [World.size_alloc]; omega)) _⟩ ?_
  rintro w1 ⟨k0, k1, k2, k3, hB⟩
  have r0 := row_of k0
  have f0 := frozen_of k0
  have z0 := blk_lt k0
  have r1 := row_of k1
  have f1 := frozen_of k1
  have z1 := blk_lt k1
  have r2 := row_of k2
  have f2 := frozen_of k2
  have z2 := blk_lt k2
  have r3 := row_of k3
  have f3 := frozen_of k3
  have z3 := blk_lt k3
  go_wp2_with fail
  refine (empty_any _ _ _).mono ?_
  rintro e w2 ⟨rfl, hb⟩
  replace k0 := blk_keep hb k0
  replace k1 := blk_keep hb k1
  replace k2 := blk_keep hb k2
  replace k3 := blk_keep hb k3
  replace hB := hB.trans (hb.mono hB.size)
  clear r0 f0 z0 r1 f1 z1 r2 f2 z2 r3 f3 z3
  clear hb
  have r0 := row_of k0
  have f0 := frozen_of k0
  have z0 := blk_lt k0
  have r1 := row_of k1
  have f1 := frozen_of k1
  have z1 := blk_lt k1
  have r2 := row_of k2
  have f2 := frozen_of k2
  have z2 := blk_lt k2
  have r3 := row_of k3
  have f3 := frozen_of k3
  have z3 := blk_lt k3
  go_wp2_with fail
  refine (empty_any _ _ _).mono ?_
  rintro e w3 ⟨rfl, hb⟩
  replace k0 := blk_keep hb k0
  replace k1 := blk_keep hb k1
  replace k2 := blk_keep hb k2
  replace k3 := blk_keep hb k3
  replace hB := hB.trans (hb.mono hB.size)
  clear r0 f0 z0 r1 f1 z1 r2 f2 z2 r3 f3 z3
  clear hb
  have r0 := row_of k0
  have f0 := frozen_of k0
  have z0 := blk_lt k0
  have r1 := row_of k1
  have f1 := frozen_of k1
  have z1 := blk_lt k1
  have r2 := row_of k2
  have f2 := frozen_of k2
  have z2 := blk_lt k2
  have r3 := row_of k3
  have f3 := frozen_of k3
  have z3 := blk_lt k3
  go_wp2_with fail
  refine (ends_add f _ _ _ _ _ hf.out).mono ?_
  rintro e w4 ⟨rfl, hb⟩
  replace k0 := blk_keep hb k0
  replace k1 := blk_keep hb k1
  replace k2 := blk_keep hb k2
  replace k3 := blk_keep hb k3
  replace hB := hB.trans (hb.mono hB.size)
  clear r0 f0 z0 r1 f1 z1 r2 f2 z2 r3 f3 z3
  clear hb
  have r0 := row_of k0
  have f0 := frozen_of k0
  have z0 := blk_lt k0
  have r1 := row_of k1
  have f1 := frozen_of k1
  have z1 := blk_lt k1
  have r2 := row_of k2
  have f2 := frozen_of k2
  have z2 := blk_lt k2
  have r3 := row_of k3
  have f3 := frozen_of k3
  have z3 := blk_lt k3
  go_wp2_with fail
  generalize hWF : (World.setCell (World.setCell (World.setCell (World.setCell _ _ _) _ _) _ _) _ _) = WF
  obtain ⟨kF, kG, bF⟩ := put22 (by omega) k2 k3 _ _ _ _ hWF.symm
  clear r0 f0 z0 r1 f1 z1 r2 f2 z2 r3 f3 z3
  clear hWF
  have rF := row_of kF
  have rG := row_of kG
  exact bodyPost_ret (v := .tuple #[.agg #[.int .i64 (ofP (bot f a0 a1 b0 b1) (top f a0 a1 b0 b1)).1, .int .i64 (ofP (bot f a0 a1 b0 b1) (top f a0 a1 b0 b1)).2], .agg #[.bool (decide (bot f a0 a1 b0 b1 < -2147483648) || decide (2147483647 < top f a0 a1 b0 b1)), .bool false]]) (by simp [results, Tryz.results128, go_sem, rF, rG]) rfl ⟨rfl, hB.trans (bF _ (by show w.heap.size ≤ w.heap.size + 2; omega) (by show w.heap.size ≤ w.heap.size + 3; omega))⟩
set_option maxRecDepth 100000 in
theorem do_fsub (f : Int → Int → Int) (a0 a1 b0 b1 : Int) (w : World) (ha : a0 ≤ a1) (hb : b0 ≤ b1) (hf : FnOk 140 f a0 a1 b0 b1) :
    Calls Tryz.prog 128 #[.int .i64 5, .agg #[.int .i64 a0, .int .i64 a1], .agg #[.int .i64 b0, .int .i64 b1]] w fun e w' => e = .returned (.tuple #[.agg #[.int .i64 (ofP (bot f a0 a1 b0 b1) (top f a0 a1 b0 b1)).1, .int .i64 (ofP (bot f a0 a1 b0 b1) (top f a0 a1 b0 b1)).2], .agg #[.bool (decide (bot f a0 a1 b0 b1 < -2147483648) || decide (2147483647 < top f a0 a1 b0 b1)), .bool false]]) ∧ Below w.heap.size w w' := by
  have hd1 : decide (a1 < a0) = false := by simp; omega
  have hd2 : decide (b1 < b0) = false := by simp; omega
  replace hf := Lib.hid hf
  clear ha hb
  go_enter Tryz.func128, Tryz.ntmps128
  go_upto_region 1 with fail
  refine wp_world (fun W => W.heap[w.heap.size]? = some (.cells #[.int .i64 a0, .int .i64 a1] 53 (0, 0)) ∧ W.heap[w.heap.size + 1]? = some (.cells #[.int .i64 b0, .int .i64 b1] 53 (0, 0)) ∧ W.heap[w.heap.size + 2]? = some (.cells #[.int .i64 0, .int .i64 0] 53 (0, 0)) ∧ W.heap[w.heap.size + 3]? = some (.cells #[.bool false, .bool false] 128 (0, 0)) ∧ Below w.heap.size w W) ⟨blkUp (blkUp (blkUp (blkA _ _ (by first | rfl | simp only [World.size_alloc])) _) _) _, blkUp (blkUp (blkA _ _ (by first | rfl | simp only [World.size_alloc])) _) _, blkUp (blkA _ _ (by first | rfl | simp only [World.size_alloc])) _, blkA _ _ (by first | rfl | simp only [World.size_alloc]), ((((Below.refl _ _).alloc (by first | exact Nat.le_refl _ | (simp only [World.size_alloc]; omega)) _).alloc (by first | exact Nat.le_refl _ | (simp only [World.size_alloc]; omega)) _).alloc (by first | exact Nat.le_refl _ | (simp only [World.size_alloc]; omega)) _).alloc (by first | exact Nat.le_refl _ | (simp only [World.size_alloc]; omega)) _⟩ ?_
  rintro w1 ⟨k0, k1, k2, k3, hB⟩
  have r0 := row_of k0
  have f0 := frozen_of k0
  have z0 := blk_lt k0
  have r1 := row_of k1
  have f1 := frozen_of k1
  have z1 := blk_lt k1
  have r2 := row_of k2
  have f2 := frozen_of k2
  have z2 := blk_lt k2
  have r3 := row_of k3
  have f3 := frozen_of k3
  have z3 := blk_lt k3
  go_wp2_with fail
  refine (empty_any _ _ _).mono ?_
  rintro e w2 ⟨rfl, hb⟩
  replace k0 := blk_keep hb k0
  replace k1 := blk_keep hb k1
  replace k2 := blk_keep hb k2
  replace k3 := blk_keep hb k3
  replace hB := hB.trans (hb.mono hB.size)
  clear r0 f0 z0 r1 f1 z1 r2 f2 z2 r3 f3 z3
  clear hb
  have r0 := row_of k0
  have f0 := frozen_of k0
  have z0 := blk_lt k0
  have r1 := row_of k1
  have f1 := frozen_of k1
  have z1 := blk_lt k1
  have r2 := row_of k2
  have f2 := frozen_of k2
  have z2 := blk_lt k2
  have r3 := row_of k3
  have f3 := frozen_of k3
  have z3 := blk_lt k3
  go_wp2_with fail
  refine (empty_any _ _ _).mono ?_
  rintro e w3 ⟨rfl, hb⟩
  replace k0 := blk_keep hb k0
  replace k1 := blk_keep hb k1
  replace k2 := blk_keep hb k2
  replace k3 := blk_keep hb k3
  replace hB := hB.trans (hb.mono hB.size)
  clear r0 f0 z0 r1 f1 z1 r2 f2 z2 r3 f3 z3
  clear hb
  have r0 := row_of k0
  have f0 := frozen_of k0
  have z0 := blk_lt k0
  have r1 := row_of k1
  have f1 := frozen_of k1
  have z1 := blk_lt k1
  have r2 := row_of k2
  have f2 := frozen_of k2
  have z2 := blk_lt k2
  have r3 := row_of k3
  have f3 := frozen_of k3
  have z3 := blk_lt k3
  go_wp2_with fail
  refine (ends_sub f _ _ _ _ _ hf.out).mono ?_
  rintro e w4 ⟨rfl, hb⟩
  replace k0 := blk_keep hb k0
  replace k1 := blk_keep hb k1
  replace k2 := blk_keep hb k2
  replace k3 := blk_keep hb k3
  replace hB := hB.trans (hb.mono hB.size)
  clear r0 f0 z0 r1 f1 z1 r2 f2 z2 r3 f3 z3
  clear hb
  have r0 := row_of k0
  have f0 := frozen_of k0
  have z0 := blk_lt k0
  have r1 := row_of k1
  have f1 := frozen_of k1
  have z1 := blk_lt k1
  have r2 := row_of k2
  have f2 := frozen_of k2
  have z2 := blk_lt k2
  have r3 := row_of k3
  have f3 := frozen_of k3
  have z3 := blk_lt k3
  go_wp2_with fail
  generalize hWF : (World.setCell (World.setCell (World.setCell (World.setCell _ _ _) _ _) _ _) _ _) = WF
  obtain ⟨kF, kG, bF⟩ := put22 (by omega) k2 k3 _ _ _ _ hWF.symm
  clear r0 f0 z0 r1 f1 z1 r2 f2 z2 r3 f3 z3
  clear hWF
  have rF := row_of kF
  have rG := row_of kG
  exact bodyPost_ret (v := .tuple #[.agg #[.int .i64 (ofP (bot f a0 a1 b0 b1) (top f a0 a1 b0 b1)).1, .int .i64 (ofP (bot f a0 a1 b0 b1) (top f a0 a1 b0 b1)).2], .agg #[.bool (decide (bot f a0 a1 b0 b1 < -2147483648) || decide (2147483647 < top f a0 a1 b0 b1)), .bool false]]) (by simp [results, Tryz.results128, go_sem, rF, rG]) rfl ⟨rfl, hB.trans (bF _ (by show w.heap.size ≤ w.heap.size + 2; omega) (by show w.heap.size ≤ w.heap.size + 3; omega))⟩
theorem do_add (a0 a1 b0 b1 : Int) (w : World) (ha : a0 ≤ a1) (hb : b0 ≤ b1) (h1 : -2147483648 ≤ a0) (h2 : a1 ≤ 2147483647) (h3 : -2147483648 ≤ b0) (h4 : b1 ≤ 2147483647) :
    Calls Tryz.prog 128 #[.int .i64 4, .agg #[.int .i64 a0, .int .i64 a1], .agg #[.int .i64 b0, .int .i64 b1]] w fun e w' => e = .returned (.tuple #[.agg #[.int .i64 (ofP (a0 + b0) (a1 + b1)).1, .int .i64 (ofP (a0 + b0) (a1 + b1)).2], .agg #[.bool (decide (a0 + b0 < -2147483648) || decide (2147483647 < a1 + b1)), .bool false]]) ∧ Below w.heap.size w w' := by
  have h := do_fadd (fun x y => x + y) a0 a1 b0 b1 w ha hb (fun x y w hx hy => add_fn x y w (by omega) (by omega))
  have eL : bot (fun x y => x + y) a0 a1 b0 b1 = a0 + b0 := by unfold bot mn; dsimp only; repeat' split
                                                               all_goals omega
  have eH : top (fun x y => x + y) a0 a1 b0 b1 = a1 + b1 := by unfold top mx; dsimp only; repeat' split
                                                               all_goals omega
  rwa [eL, eH] at h
theorem do_sub (a0 a1 b0 b1 : Int) (w : World) (ha : a0 ≤ a1) (hb : b0 ≤ b1) (h1 : -2147483648 ≤ a0) (h2 : a1 ≤ 2147483647) (h3 : -2147483648 ≤ b0) (h4 : b1 ≤ 2147483647) :
    Calls Tryz.prog 128 #[.int .i64 5, .agg #[.int .i64 a0, .int .i64 a1], .agg #[.int .i64 b0, .int .i64 b1]] w fun e w' => e = .returned (.tuple #[.agg #[.int .i64 (ofP (a0 - b1) (a1 - b0)).1, .int .i64 (ofP (a0 - b1) (a1 - b0)).2], .agg #[.bool (decide (a0 - b1 < -2147483648) || decide (2147483647 < a1 - b0)), .bool false]]) ∧ Below w.heap.size w w' := by
  have h := do_fsub (fun x y => x - y) a0 a1 b0 b1 w ha hb (fun x y w hx hy => sub_fn x y w (by omega) (by omega))
  have eL : bot (fun x y => x - y) a0 a1 b0 b1 = a0 - b1 := by unfold bot mn; dsimp only; repeat' split
                                                               all_goals omega
  have eH : top (fun x y => x - y) a0 a1 b0 b1 = a1 - b0 := by unfold top mx; dsimp only; repeat' split
                                                               all_goals omega
  rwa [eL, eH] at h
end Go.Proofs.YtlgmofjjjhbgkaaGreat
namespace Go.Proofs.YtlgmofjjjhbgkaaGreat
open Go.RowKit

theorem below_undrew {W W' : World} (h : Below W.drew.heap.size W.drew W') : Below W.heap.size W W' := (Below.refl _ W).drew.trans h
theorem below_al {W0 W : World} (h : Below W0.heap.size W0 W) (x : Obj) : Below W0.heap.size W0 (W.alloc x) := h.alloc h.size x
theorem below_tr {W0 W W' : World} (h : Below W0.heap.size W0 W) (hb : Below W.heap.size W W') : Below W0.heap.size W0 W' := h.trans (hb.mono h.size)
theorem below_put {W0 W : World} {g : Nat} {u v : Value} (h : Below W0.heap.size W0 W) (hg : W0.heap.size ≤ g) : Below W0.heap.size W0 ((W.setCell ⟨g, 0, none⟩ u).setCell ⟨g, 1, none⟩ v) := (h.setCell (p := ⟨g, 0, none⟩) hg u).setCell (p := ⟨g, 1, none⟩) hg v
theorem blkT1 {W W' : World} {x : Obj} (h : Below (W.alloc x).heap.size (W.alloc x) W') : W'.heap[W.heap.size]? = some x := blk_keep h (blkA W x rfl)
theorem blkT2a {W W' : World} {x y : Obj} (h : Below ((W.alloc x).alloc y).heap.size ((W.alloc x).alloc y) W') : W'.heap[W.heap.size]? = some x := blk_keep h (blkUp (blkA W x rfl) y)
theorem blkT2b {W W' : World} {x y : Obj} (h : Below ((W.alloc x).alloc y).heap.size ((W.alloc x).alloc y) W') : W'.heap[W.heap.size + 1]? = some y := blk_keep h (blkA (W.alloc x) y (by simp only [World.size_alloc]))
theorem setab {W : World} {n : Nat} {t : TypeId} {a b u v : Value} (h : W.heap[n]? = some (.cells #[a, b] t (0, 0))) : ((W.setCell ⟨n, 0, none⟩ u).setCell ⟨n, 1, none⟩ v).heap[n]? = some (.cells #[u, v] t (0, 0)) := (put2 h u v rfl).1
theorem setno {W : World} {n g : Nat} {x : Obj} {u v : Value} (h : W.heap[n]? = some x) (hne : n ≠ g) : ((W.setCell ⟨g, 0, none⟩ u).setCell ⟨g, 1, none⟩ v).heap[n]? = some x := blk_set (blk_set h hne) hne
/-- Two new blocks of two cells; all that was there is as it was. -/
def TwoCut (W0 : World) (t u : TypeId) (a b c d : Value) (e5 e6 : Value) (wx : World) : Prop := ∃ n m : Nat, e5 = .pointer (some ⟨n, 0, none⟩) ∧ e6 = .pointer (some ⟨m, 0, none⟩) ∧ n ≠ m ∧ W0.heap.size ≤ n ∧ W0.heap.size ≤ m ∧ wx.heap[n]? = some (.cells #[a, b] t (0, 0)) ∧ wx.heap[m]? = some (.cells #[c, d] u (0, 0)) ∧ Below W0.heap.size W0 wx
theorem four_of {W0 : World} {n m : Nat} {a b c d : Value} {t u : TypeId} (h : W0.heap[n]? = some (.cells #[a, b] t (0, 0))) (g : W0.heap[m]? = some (.cells #[c, d] u (0, 0))) (W : World) (hB : Below W0.heap.size W0 W) :
    W.cell? ⟨n, 0, none⟩ = some a ∧ W.cell? ⟨n, 1, none⟩ = some b ∧ W.cell? ⟨m, 0, none⟩ = some c ∧ W.cell? ⟨m, 1, none⟩ = some d := by
  have h' := blk_keep hB h
  have g' := blk_keep hB g
  exact ⟨row_of h' 0, row_of h' 1, row_of g' 0, row_of g' 1⟩
end Go.Proofs.YtlgmofjjjhbgkaaGreat
namespace Go.Proofs.YtlgmofjjjhbgkaaGreat
open Go.RowKit
theorem blkP (W : World) (g : Nat) (u v : Value) (x : Obj) : (((W.setCell ⟨g, 0, none⟩ u).setCell ⟨g, 1, none⟩ v).alloc x).heap[W.heap.size]? = some x := blkA _ _ (by simp [World.setCell])
end Go.Proofs.YtlgmofjjjhbgkaaGreat
namespace Go.Proofs.YtlgmofjjjhbgkaaGreat
open Go.RowKit
theorem own_same {w w' : World} {b g n c : Nat} {e : TypeId} {size : Nat} {xs : List Value} (h : w.ownsRow b e size (.slice (some ⟨g, 0, none⟩) n c) n xs) (hk : ∀ x, w.heap[g]? = some x → w'.heap[g]? = some x) : w'.ownsRow b e size (.slice (some ⟨g, 0, none⟩) n c) n xs := by
  refine ⟨h.1, ?_⟩
  rcases h.2 with ⟨h0, _⟩ | ⟨g2, cap, cur, hv, hg, h1, h2⟩
  · cases h0
  · injection hv with e1 e2 e3
    injection e1 with e1
    injection e1 with e1
    subst e1
    exact .inr ⟨g, cap, cur, by rw [e3], hg, hk _ h1, h2⟩
/-- Three cells are stored into a block. -/
theorem put3 {W WF : World} {n : Nat} {t : TypeId} {d0 d1 d2 : Value} (h : W.heap[n]? = some (.cells #[d0, d1, d2] t (0, 0))) (v0 v1 v2 : Value) (hW : WF = ((W.setCell ⟨n, 0, none⟩ v0).setCell ⟨n, 1, none⟩ v1).setCell ⟨n, 2, none⟩ v2) :
    WF.heap[n]? = some (.cells #[v0, v1, v2] t (0, 0)) ∧ (∀ (b : Nat) (x : Obj), b ≠ n → W.heap[b]? = some x → WF.heap[b]? = some x) ∧ (∀ B, B ≤ n → Below B W WF) ∧ WF.heap.size = W.heap.size := by
  subst hW
  refine ⟨by simp [World.setCell, Array.getElem?_modify, h], fun b x hb hx => blk_set (blk_set (blk_set hx hb) hb) hb, fun B hB => ?_, by simp [World.setCell]⟩
  exact (((Below.refl _ W).setCell (p := ⟨n, 0, none⟩) hB v0).setCell (p := ⟨n, 1, none⟩) hB v1).setCell (p := ⟨n, 2, none⟩) hB v2
/-- The cells of a row of Itvs. -/
def cellsOf (xs : List (Int × Int)) : List Value := xs.flatMap fun p => [.int .i64 p.1, .int .i64 p.2]
/-- An Elem of one's own: its numbers lie in a row that none other holds. -/
def ElemAt (W : World) (base : Nat) (t : TypeId) (g cap : Nat) (xs : List (Int × Int)) : Prop := W.ownsRow base t 2 (.slice (some ⟨g, 0, none⟩) xs.length cap) xs.length (cellsOf xs)
end Go.Proofs.YtlgmofjjjhbgkaaGreat
namespace Go.Proofs.YtlgmofjjjhbgkaaGreat
open Go.RowKit
theorem run_copy_sz (P : Program) (w : World) (dT sT ty elem : TypeId) (g o dLen dCap : Nat) (a : Addr) (sLen sCap m sz : Nat) (cur : Array Value) (t : TypeId) (cs : List Value)
    (hu : P.underlying dT = some (.slice elem)) (hs : (P.info? elem).map (·.size) = some sz)
    (hg : w.heap[g]? = some (.cells cur t (0, 0))) (hm : m = Nat.min sLen dLen) (hn : cs.length = m * sz)
    (hsrc : ∀ j v, cs[j]? = some v → w.cell? (a.add j) = some v) (hfit : o + cs.length ≤ cur.size) (h1 : ∀ v ∈ cs, v.oneCell' = true) :
    (Builtin.copy_ #[dT, sT] ty #[.slice (some ⟨g, o, none⟩) dLen dCap, .slice (some a) sLen sCap]).run P w =
      .ok (goInt m) (w.setRow g (cur.toList.take o ++ cs ++ cur.toList.drop (o + cs.length)).toArray) := by
  have hl := run_loadCells_list (P := P) w a cs hsrc
  have hst := run_storeCells_at P g o t cs 0 cur w hg (by simpa using hfit) h1
  rw [hn] at hl
  cases hq : P.info? elem with
  | none => simp [hq] at hs
  | some i =>
    have hi : i.size = sz := by simpa [hq] using hs
    simp [Builtin.copy_, run_underlying hu, Builtin.lenOf, Builtin.firstCells, sizeOf, typeInfo, hq, hi, ← hm, hl, hst]
theorem wpList_copy_sz {P : Program} {w : World} {ops : Array Oper} {rest : List Oper} {o : Oper} {a : Act} {Q : Exit → Act → World → Prop} (hgd : o.guard = none) (d s : Operand) (dT sT : TypeId)
    (ho : o.op = .call { callee := .builtin .copy, args := #[d, s], argTypes := #[dT, sT] }) (elem : TypeId) (hu : P.underlying dT = some (.slice elem)) (sz : Nat) (hsz : (P.info? elem).map (·.size) = some sz)
    (g off dLen dCap : Nat) (ad : Addr) (sLen sCap m : Nat) (hd : a.eval d = .slice (some ⟨g, off, none⟩) dLen dCap) (hs : a.eval s = .slice (some ad) sLen sCap)
    (cur : Array Value) (t : TypeId) (hg : w.heap[g]? = some (.cells cur t (0, 0))) (cs : List Value) (hm : m = Nat.min sLen dLen) (hn : cs.length = m * sz)
    (hsrc : ∀ j v, cs[j]? = some v → w.cell? (ad.add j) = some v) (hfit : off + cs.length ≤ cur.size) (h1 : ∀ v ∈ cs, v.oneCell' = true)
    (new : Array Value) (hnew : new = (cur.toList.take off ++ cs ++ cur.toList.drop (off + cs.length)).toArray) (_hlt : g < w.heap.size)
    (h : ∀ w', w'.heap[g]? = some (.cells new t (0, 0)) → Below g w w' → wpList P ops Q rest (a.put o.dst (goInt m)) w') : wpList P ops Q (o :: rest) a w := by
  refine wpList_plain hgd fun K hK => ?_
  have hrun := run_copy_sz P w dT sT o.type elem g off dLen dCap ad sLen sCap m sz cur t cs hu hsz hg hm hn hsrc hfit h1
  unfold Oper.wp
  simp [execOp, ho, resolve, invoke, builtin, hd, hs, hrun, Result.andThen]
  exact hK _ _ (h _ (by rw [hnew]; simpa using setRow_heap w g cur _ t _ hg) (below_setRow (Below.refl _ w) (Nat.le_refl _) _))
theorem step_copy_sz {P : Program} {ops : Array Oper} {o : Oper} {a : Act} {w : World} {K : Act → World → Prop} {Q : Exit → Act → World → Prop} {E : Prop} (hgd : o.guard = none) (d s : Operand) (dT sT : TypeId)
    (ho : o.op = .call { callee := .builtin .copy, args := #[d, s], argTypes := #[dT, sT] }) (elem : TypeId) (hu : P.underlying dT = some (.slice elem)) (sz : Nat) (hsz : (P.info? elem).map (·.size) = some sz)
    (g off dLen dCap : Nat) (ad : Addr) (sLen sCap m : Nat) (hd : a.eval d = .slice (some ⟨g, off, none⟩) dLen dCap) (hs : a.eval s = .slice (some ad) sLen sCap)
    (cur : Array Value) (t : TypeId) (hg : w.heap[g]? = some (.cells cur t (0, 0))) (cs : List Value) (hm : m = Nat.min sLen dLen) (hn : cs.length = m * sz)
    (hsrc : ∀ j v, cs[j]? = some v → w.cell? (ad.add j) = some v) (hfit : off + cs.length ≤ cur.size) (h1 : ∀ v ∈ cs, v.oneCell' = true)
    (new : Array Value) (hnew : new = (cur.toList.take off ++ cs ++ cur.toList.drop (off + cs.length)).toArray) (_hlt : g < w.heap.size)
    (h : ∀ w', w'.heap[g]? = some (.cells new t (0, 0)) → Below g w w' → K (a.put o.dst (goInt m)) w') :
    if Region.wanted o (yielded ops a.tmps) = true then Oper.wp P o a w K Q else E := by
  have hw : Region.wanted o (yielded ops a.tmps) = true := by simp [Region.wanted, hgd]
  rw [if_pos hw]
  have hrun := run_copy_sz P w dT sT o.type elem g off dLen dCap ad sLen sCap m sz cur t cs hu hsz hg hm hn hsrc hfit h1
  unfold Oper.wp
  simp [execOp, ho, resolve, invoke, builtin, hd, hs, hrun, Result.andThen]
  exact h _ (by rw [hnew]; simpa using setRow_heap w g cur _ t _ hg) (below_setRow (Below.refl _ w) (Nat.le_refl _) _)
theorem size_itv : (Tryz.prog.info? 53).map (·.size) = some 2 := by kernel_rfl
end Go.Proofs.YtlgmofjjjhbgkaaGreat
namespace Go.Proofs.YtlgmofjjjhbgkaaGreat
open Go.RowKit
/-- A row of so many empty Itvs, made anew. -/
def Nones (w : World) (n : Nat) (e : Ending) (w' : World) : Prop := ∃ g, e = .returned (.slice (some ⟨g, 0, none⟩) n n) ∧ ElemAt w' w.heap.size 53 g n (List.replicate n (1, 0)) ∧ Below w.heap.size w w' 
theorem mul_1 (w : World) : Calls Tryz.prog 69 #[.int .u64 1, .int .u64 1] w fun e w' => e = .returned (.tuple #[.int .u64 0, .int .u64 1]) ∧ w = w' := by
  go_enter Tryz.func69, Tryz.ntmps69
  go_wp2
  go_ret2
  exact ⟨by kernel_rfl, rfl⟩
set_option maxRecDepth 100000 in
set_option maxHeartbeats 2000000 in
theorem repeat_1 (b : Nat) (w : World) (hb : w.heap[b]? = some (.cells #[.int .i64 1, .int .i64 0] 53 (0, 0))) :
    Calls Tryz.prog 36 #[.slice (some ⟨b, 0, none⟩) 1 1, .int .i64 1] w (Nones w 1) := by
  have hmk : ∀ w, (Instr.makeSlice 40 (.int .i64 1) (.int .i64 1)).run Tryz.prog w = .ok (.slice (some ⟨w.heap.size, 0, none⟩) 1 1) (w.alloc (.cells #[.int .i64 0, .int .i64 0] 53)) := fun _ => by kernel_rfl
  go_enter Tryz.func36, Tryz.ntmps36
  go_wp2_with fail
  refine (mul_1 _).mono ?_
  rintro e w' ⟨rfl, rfl⟩
  go_upto_region 7 with fail
  refine wp_world (fun W => W.heap[b]? = some (.cells #[.int .i64 1, .int .i64 0] 53 (0, 0)) ∧ W.heap[w.heap.size]? = some (.cells #[.int .i64 0, .int .i64 0] 53 (0, 0)) ∧ Below w.heap.size w W) ⟨blkUp hb _, blkA _ _ rfl, (Below.refl _ _).alloc (Nat.le_refl _) _⟩ ?_
  clear hmk
  rintro w1 ⟨kb, k0, hB⟩
  have sb : ∀ (j : Nat) (v : Value), ([.int .i64 1, .int .i64 0] : List Value)[j]? = some v → w1.cell? ((⟨b, 0, none⟩ : Addr).add j) = some v := fun j v h => by
    match j, h with
    | 0, h => exact (row_of kb 0).trans h
    | 1, h => exact (row_of kb 1).trans h
    | j + 2, h => simp at h
  replace sb := Lib.hid sb
  go_wp2_with (refine wpList_copy_sz rfl _ _ _ _ rfl 53 Tryz.underlying40 2 size_itv w.heap.size 0 1 1 ⟨b, 0, none⟩ 1 1 1 (by rfl) (by rfl) _ _ k0 [.int .i64 1, .int .i64 0] (by rfl) (by rfl) sb.out (by simp) (by simp [Value.oneCell']) #[.int .i64 1, .int .i64 0] (by rfl) (blk_lt k0) ?_; intro w2 k2 hb2)
  replace hB := hB.trans hb2
  clear hb2 k0 kb sb
  refine wp_loop_rounds 1 ?_
  rw [rounds_succ]
  go_wp2_with fail
  go_ret
  exact ⟨w.heap.size, rfl, ⟨by rfl, .inr ⟨w.heap.size, 1, _, rfl, Nat.le_refl _, k2, Nat.le_refl _, by unfold maxLen; decide, by rfl, by rfl⟩⟩, hB⟩
theorem mul_2 (w : World) : Calls Tryz.prog 69 #[.int .u64 1, .int .u64 2] w fun e w' => e = .returned (.tuple #[.int .u64 0, .int .u64 2]) ∧ w = w' := by
  go_enter Tryz.func69, Tryz.ntmps69
  go_wp2
  go_ret2
  exact ⟨by kernel_rfl, rfl⟩
set_option maxRecDepth 100000 in
set_option maxHeartbeats 2000000 in
theorem repeat_2 (b : Nat) (w : World) (hb : w.heap[b]? = some (.cells #[.int .i64 1, .int .i64 0] 53 (0, 0))) :
    Calls Tryz.prog 36 #[.slice (some ⟨b, 0, none⟩) 1 1, .int .i64 2] w (Nones w 2) := by
  have hmk : ∀ w, (Instr.makeSlice 40 (.int .i64 2) (.int .i64 2)).run Tryz.prog w = .ok (.slice (some ⟨w.heap.size, 0, none⟩) 2 2) (w.alloc (.cells #[.int .i64 0, .int .i64 0, .int .i64 0, .int .i64 0] 53)) := fun _ => by kernel_rfl
  go_enter Tryz.func36, Tryz.ntmps36
  go_wp2_with fail
  refine (mul_2 _).mono ?_
  rintro e w' ⟨rfl, rfl⟩
  go_upto_region 7 with fail
  refine wp_world (fun W => W.heap[b]? = some (.cells #[.int .i64 1, .int .i64 0] 53 (0, 0)) ∧ W.heap[w.heap.size]? = some (.cells #[.int .i64 0, .int .i64 0, .int .i64 0, .int .i64 0] 53 (0, 0)) ∧ Below w.heap.size w W) ⟨blkUp hb _, blkA _ _ rfl, (Below.refl _ _).alloc (Nat.le_refl _) _⟩ ?_
  clear hmk
  rintro w1 ⟨kb, k0, hB⟩
  have sb : ∀ (j : Nat) (v : Value), ([.int .i64 1, .int .i64 0] : List Value)[j]? = some v → w1.cell? ((⟨b, 0, none⟩ : Addr).add j) = some v := fun j v h => by
    match j, h with
    | 0, h => exact (row_of kb 0).trans h
    | 1, h => exact (row_of kb 1).trans h
    | j + 2, h => simp at h
  replace sb := Lib.hid sb
  go_wp2_with (refine wpList_copy_sz rfl _ _ _ _ rfl 53 Tryz.underlying40 2 size_itv w.heap.size 0 2 2 ⟨b, 0, none⟩ 1 1 1 (by rfl) (by rfl) _ _ k0 [.int .i64 1, .int .i64 0] (by rfl) (by rfl) sb.out (by simp) (by simp [Value.oneCell']) #[.int .i64 1, .int .i64 0, .int .i64 0, .int .i64 0] (by rfl) (blk_lt k0) ?_; intro w2 k2 hb2)
  replace hB := hB.trans hb2
  clear hb2 k0 kb sb
  refine wp_loop_rounds 2 ?_
  rw [rounds_succ]
  go_upto_region 9 with fail
  have kd2 : w2.drew.heap[w.heap.size]? = some (.cells #[.int .i64 1, .int .i64 0, .int .i64 0, .int .i64 0] 53 (0, 0)) := k2
  have sc : ∀ (j : Nat) (v : Value), ([.int .i64 1, .int .i64 0] : List Value)[j]? = some v → w2.drew.cell? ((⟨w.heap.size, 0, none⟩ : Addr).add j) = some v := fun j v h => by
    match j, h with
    | 0, h => exact (row_of kd2 0).trans h
    | 1, h => exact (row_of kd2 1).trans h
    | j + 2, h => simp at h
  replace sc := Lib.hid sc
  go_region_law (first
    | (refine step_copy_sz (by rfl) _ _ _ _ (by rfl) 53 Tryz.underlying40 2 size_itv w.heap.size 2 1 1 ⟨w.heap.size, 0, none⟩ 1 2 1 (by go_simp) (by go_simp) _ _ kd2 [.int .i64 1, .int .i64 0] (by rfl) (by rfl) sc.out (by simp) (by simp [Value.oneCell']) #[.int .i64 1, .int .i64 0, .int .i64 1, .int .i64 0] (by rfl) (blk_lt kd2) ?_; intro w3 k3 hb3))
  replace hB := (hB.drew).trans hb3
  clear hb3 k2 sc kd2
  go_wp2_with fail
  rw [rounds_succ]
  go_wp2_with fail
  go_ret
  exact ⟨w.heap.size, rfl, ⟨by rfl, .inr ⟨w.heap.size, 2, _, rfl, Nat.le_refl _, k3, Nat.le_refl _, by unfold maxLen; decide, by rfl, by rfl⟩⟩, hB⟩
theorem mul_3 (w : World) : Calls Tryz.prog 69 #[.int .u64 1, .int .u64 3] w fun e w' => e = .returned (.tuple #[.int .u64 0, .int .u64 3]) ∧ w = w' := by
  go_enter Tryz.func69, Tryz.ntmps69
  go_wp2
  go_ret2
  exact ⟨by kernel_rfl, rfl⟩
set_option maxRecDepth 100000 in
set_option maxHeartbeats 2000000 in
theorem repeat_3 (b : Nat) (w : World) (hb : w.heap[b]? = some (.cells #[.int .i64 1, .int .i64 0] 53 (0, 0))) :
    Calls Tryz.prog 36 #[.slice (some ⟨b, 0, none⟩) 1 1, .int .i64 3] w (Nones w 3) := by
  have hmk : ∀ w, (Instr.makeSlice 40 (.int .i64 3) (.int .i64 3)).run Tryz.prog w = .ok (.slice (some ⟨w.heap.size, 0, none⟩) 3 3) (w.alloc (.cells #[.int .i64 0, .int .i64 0, .int .i64 0, .int .i64 0, .int .i64 0, .int .i64 0] 53)) := fun _ => by kernel_rfl
  go_enter Tryz.func36, Tryz.ntmps36
  go_wp2_with fail
  refine (mul_3 _).mono ?_
  rintro e w' ⟨rfl, rfl⟩
  go_upto_region 7 with fail
  refine wp_world (fun W => W.heap[b]? = some (.cells #[.int .i64 1, .int .i64 0] 53 (0, 0)) ∧ W.heap[w.heap.size]? = some (.cells #[.int .i64 0, .int .i64 0, .int .i64 0, .int .i64 0, .int .i64 0, .int .i64 0] 53 (0, 0)) ∧ Below w.heap.size w W) ⟨blkUp hb _, blkA _ _ rfl, (Below.refl _ _).alloc (Nat.le_refl _) _⟩ ?_
  clear hmk
  rintro w1 ⟨kb, k0, hB⟩
  have sb : ∀ (j : Nat) (v : Value), ([.int .i64 1, .int .i64 0] : List Value)[j]? = some v → w1.cell? ((⟨b, 0, none⟩ : Addr).add j) = some v := fun j v h => by
    match j, h with
    | 0, h => exact (row_of kb 0).trans h
    | 1, h => exact (row_of kb 1).trans h
    | j + 2, h => simp at h
  replace sb := Lib.hid sb
  go_wp2_with (refine wpList_copy_sz rfl _ _ _ _ rfl 53 Tryz.underlying40 2 size_itv w.heap.size 0 3 3 ⟨b, 0, none⟩ 1 1 1 (by rfl) (by rfl) _ _ k0 [.int .i64 1, .int .i64 0] (by rfl) (by rfl) sb.out (by simp) (by simp [Value.oneCell']) #[.int .i64 1, .int .i64 0, .int .i64 0, .int .i64 0, .int .i64 0, .int .i64 0] (by rfl) (blk_lt k0) ?_; intro w2 k2 hb2)
  replace hB := hB.trans hb2
  clear hb2 k0 kb sb
  refine wp_loop_rounds 3 ?_
  rw [rounds_succ]
  go_upto_region 9 with fail
  have kd2 : w2.drew.heap[w.heap.size]? = some (.cells #[.int .i64 1, .int .i64 0, .int .i64 0, .int .i64 0, .int .i64 0, .int .i64 0] 53 (0, 0)) := k2
  have sc : ∀ (j : Nat) (v : Value), ([.int .i64 1, .int .i64 0] : List Value)[j]? = some v → w2.drew.cell? ((⟨w.heap.size, 0, none⟩ : Addr).add j) = some v := fun j v h => by
    match j, h with
    | 0, h => exact (row_of kd2 0).trans h
    | 1, h => exact (row_of kd2 1).trans h
    | j + 2, h => simp at h
  replace sc := Lib.hid sc
  go_region_law (first
    | (refine step_copy_sz (by rfl) _ _ _ _ (by rfl) 53 Tryz.underlying40 2 size_itv w.heap.size 2 2 2 ⟨w.heap.size, 0, none⟩ 1 3 1 (by go_simp) (by go_simp) _ _ kd2 [.int .i64 1, .int .i64 0] (by rfl) (by rfl) sc.out (by simp) (by simp [Value.oneCell']) #[.int .i64 1, .int .i64 0, .int .i64 1, .int .i64 0, .int .i64 0, .int .i64 0] (by rfl) (blk_lt kd2) ?_; intro w3 k3 hb3))
  replace hB := (hB.drew).trans hb3
  clear hb3 k2 sc kd2
  go_wp2_with fail
  rw [rounds_succ]
  go_upto_region 9 with fail
  have kd3 : w3.drew.heap[w.heap.size]? = some (.cells #[.int .i64 1, .int .i64 0, .int .i64 1, .int .i64 0, .int .i64 0, .int .i64 0] 53 (0, 0)) := k3
  have sc : ∀ (j : Nat) (v : Value), ([.int .i64 1, .int .i64 0] : List Value)[j]? = some v → w3.drew.cell? ((⟨w.heap.size, 0, none⟩ : Addr).add j) = some v := fun j v h => by
    match j, h with
    | 0, h => exact (row_of kd3 0).trans h
    | 1, h => exact (row_of kd3 1).trans h
    | j + 2, h => simp at h
  replace sc := Lib.hid sc
  go_region_law (first
    | (refine step_copy_sz (by rfl) _ _ _ _ (by rfl) 53 Tryz.underlying40 2 size_itv w.heap.size 4 1 1 ⟨w.heap.size, 0, none⟩ 2 3 1 (by go_simp) (by go_simp) _ _ kd3 [.int .i64 1, .int .i64 0] (by rfl) (by rfl) sc.out (by simp) (by simp [Value.oneCell']) #[.int .i64 1, .int .i64 0, .int .i64 1, .int .i64 0, .int .i64 1, .int .i64 0] (by rfl) (blk_lt kd3) ?_; intro w4 k4 hb4))
  replace hB := (hB.drew).trans hb4
  clear hb4 k3 sc kd3
  go_wp2_with fail
  rw [rounds_succ]
  go_wp2_with fail
  go_ret
  exact ⟨w.heap.size, rfl, ⟨by rfl, .inr ⟨w.heap.size, 3, _, rfl, Nat.le_refl _, k4, Nat.le_refl _, by unfold maxLen; decide, by rfl, by rfl⟩⟩, hB⟩
theorem mul_4 (w : World) : Calls Tryz.prog 69 #[.int .u64 1, .int .u64 4] w fun e w' => e = .returned (.tuple #[.int .u64 0, .int .u64 4]) ∧ w = w' := by
  go_enter Tryz.func69, Tryz.ntmps69
  go_wp2
  go_ret2
  exact ⟨by kernel_rfl, rfl⟩
set_option maxRecDepth 100000 in
set_option maxHeartbeats 2000000 in
theorem repeat_4 (b : Nat) (w : World) (hb : w.heap[b]? = some (.cells #[.int .i64 1, .int .i64 0] 53 (0, 0))) :
    Calls Tryz.prog 36 #[.slice (some ⟨b, 0, none⟩) 1 1, .int .i64 4] w (Nones w 4) := by
  have hmk : ∀ w, (Instr.makeSlice 40 (.int .i64 4) (.int .i64 4)).run Tryz.prog w = .ok (.slice (some ⟨w.heap.size, 0, none⟩) 4 4) (w.alloc (.cells #[.int .i64 0, .int .i64 0, .int .i64 0, .int .i64 0, .int .i64 0, .int .i64 0, .int .i64 0, .int .i64 0] 53)) := fun _ => by kernel_rfl
  go_enter Tryz.func36, Tryz.ntmps36
  go_wp2_with fail
  refine (mul_4 _).mono ?_
  rintro e w' ⟨rfl, rfl⟩
  go_upto_region 7 with fail
  refine wp_world (fun W => W.heap[b]? = some (.cells #[.int .i64 1, .int .i64 0] 53 (0, 0)) ∧ W.heap[w.heap.size]? = some (.cells #[.int .i64 0, .int .i64 0, .int .i64 0, .int .i64 0, .int .i64 0, .int .i64 0, .int .i64 0, .int .i64 0] 53 (0, 0)) ∧ Below w.heap.size w W) ⟨blkUp hb _, blkA _ _ rfl, (Below.refl _ _).alloc (Nat.le_refl _) _⟩ ?_
  clear hmk
  rintro w1 ⟨kb, k0, hB⟩
  have sb : ∀ (j : Nat) (v : Value), ([.int .i64 1, .int .i64 0] : List Value)[j]? = some v → w1.cell? ((⟨b, 0, none⟩ : Addr).add j) = some v := fun j v h => by
    match j, h with
    | 0, h => exact (row_of kb 0).trans h
    | 1, h => exact (row_of kb 1).trans h
    | j + 2, h => simp at h
  replace sb := Lib.hid sb
  go_wp2_with (refine wpList_copy_sz rfl _ _ _ _ rfl 53 Tryz.underlying40 2 size_itv w.heap.size 0 4 4 ⟨b, 0, none⟩ 1 1 1 (by rfl) (by rfl) _ _ k0 [.int .i64 1, .int .i64 0] (by rfl) (by rfl) sb.out (by simp) (by simp [Value.oneCell']) #[.int .i64 1, .int .i64 0, .int .i64 0, .int .i64 0, .int .i64 0, .int .i64 0, .int .i64 0, .int .i64 0] (by rfl) (blk_lt k0) ?_; intro w2 k2 hb2)
  replace hB := hB.trans hb2
  clear hb2 k0 kb sb
  refine wp_loop_rounds 3 ?_
  rw [rounds_succ]
  go_upto_region 9 with fail
  have kd2 : w2.drew.heap[w.heap.size]? = some (.cells #[.int .i64 1, .int .i64 0, .int .i64 0, .int .i64 0, .int .i64 0, .int .i64 0, .int .i64 0, .int .i64 0] 53 (0, 0)) := k2
  have sc : ∀ (j : Nat) (v : Value), ([.int .i64 1, .int .i64 0] : List Value)[j]? = some v → w2.drew.cell? ((⟨w.heap.size, 0, none⟩ : Addr).add j) = some v := fun j v h => by
    match j, h with
    | 0, h => exact (row_of kd2 0).trans h
    | 1, h => exact (row_of kd2 1).trans h
    | j + 2, h => simp at h
  replace sc := Lib.hid sc
  go_region_law (first
    | (refine step_copy_sz (by rfl) _ _ _ _ (by rfl) 53 Tryz.underlying40 2 size_itv w.heap.size 2 3 3 ⟨w.heap.size, 0, none⟩ 1 4 1 (by go_simp) (by go_simp) _ _ kd2 [.int .i64 1, .int .i64 0] (by rfl) (by rfl) sc.out (by simp) (by simp [Value.oneCell']) #[.int .i64 1, .int .i64 0, .int .i64 1, .int .i64 0, .int .i64 0, .int .i64 0, .int .i64 0, .int .i64 0] (by rfl) (blk_lt kd2) ?_; intro w3 k3 hb3))
  replace hB := (hB.drew).trans hb3
  clear hb3 k2 sc kd2
  go_wp2_with fail
  rw [rounds_succ]
  go_upto_region 9 with fail
  have kd3 : w3.drew.heap[w.heap.size]? = some (.cells #[.int .i64 1, .int .i64 0, .int .i64 1, .int .i64 0, .int .i64 0, .int .i64 0, .int .i64 0, .int .i64 0] 53 (0, 0)) := k3
  have sc : ∀ (j : Nat) (v : Value), ([.int .i64 1, .int .i64 0, .int .i64 1, .int .i64 0] : List Value)[j]? = some v → w3.drew.cell? ((⟨w.heap.size, 0, none⟩ : Addr).add j) = some v := fun j v h => by
    match j, h with
    | 0, h => exact (row_of kd3 0).trans h
    | 1, h => exact (row_of kd3 1).trans h
    | 2, h => exact (row_of kd3 2).trans h
    | 3, h => exact (row_of kd3 3).trans h
    | j + 4, h => simp at h
  replace sc := Lib.hid sc
  go_region_law (first
    | (refine step_copy_sz (by rfl) _ _ _ _ (by rfl) 53 Tryz.underlying40 2 size_itv w.heap.size 4 2 2 ⟨w.heap.size, 0, none⟩ 2 4 2 (by go_simp) (by go_simp) _ _ kd3 [.int .i64 1, .int .i64 0, .int .i64 1, .int .i64 0] (by rfl) (by rfl) sc.out (by simp) (by simp [Value.oneCell']) #[.int .i64 1, .int .i64 0, .int .i64 1, .int .i64 0, .int .i64 1, .int .i64 0, .int .i64 1, .int .i64 0] (by rfl) (blk_lt kd3) ?_; intro w4 k4 hb4))
  replace hB := (hB.drew).trans hb4
  clear hb4 k3 sc kd3
  go_wp2_with fail
  rw [rounds_succ]
  go_wp2_with fail
  go_ret
  exact ⟨w.heap.size, rfl, ⟨by rfl, .inr ⟨w.heap.size, 4, _, rfl, Nat.le_refl _, k4, Nat.le_refl _, by unfold maxLen; decide, by rfl, by rfl⟩⟩, hB⟩
end Go.Proofs.YtlgmofjjjhbgkaaGreat
namespace Go.Proofs.YtlgmofjjjhbgkaaGreat
open Go.RowKit
/-- An Elem that is told: how many messages, and a row of one's own of so many Itvs. -/
def ElemOut (w : World) (l h : Int) (xs : List (Int × Int)) (e : Ending) (w' : World) : Prop := ∃ g cap, e = .returned (.agg #[.int .i64 l, .int .i64 h, .slice (some ⟨g, 0, none⟩) xs.length cap]) ∧ ElemAt w' w.heap.size 53 g cap xs ∧ Below w.heap.size w w'
theorem elem_base {W : World} {b b' : Nat} {t : TypeId} {g cap : Nat} {xs : List (Int × Int)} (h : ElemAt W b' t g cap xs) (hb : b ≤ b') : ElemAt W b t g cap xs := by
  refine ⟨h.1, ?_⟩
  rcases h.2 with h0 | ⟨g', cap', cur, e, hg, h1⟩
  · exact .inl h0
  · exact .inr ⟨g', cap', cur, e, Nat.le_trans hb hg, h1⟩
theorem elem_same {W W' : World} {b : Nat} {t : TypeId} {g cap : Nat} {xs : List (Int × Int)} (h : ElemAt W b t g cap xs) (hk : ∀ x, W.heap[g]? = some x → W'.heap[g]? = some x) : ElemAt W' b t g cap xs := own_same h hk
theorem elem_ge {W : World} {b : Nat} {t : TypeId} {g cap : Nat} {xs : List (Int × Int)} (h : ElemAt W b t g cap xs) : b ≤ g ∧ g < W.heap.size := h.lt g rfl
set_option maxRecDepth 100000 in
set_option maxHeartbeats 2000000 in
theorem none_1 (ck cs cf ct : Int) (R : Option Addr) (rn rc : Nat) (w : World) :
    Calls Tryz.prog 14 #[.agg #[.int .i64 ck, .int .i64 cs, .int .i64 cf, .int .i64 ct, .int .i64 1, .slice R rn rc]] w (ElemOut w 0 0 (List.replicate 1 (1, 0))) := by
  have c0 := Lib.hid (fun W => const_in 0 W (by decide) (by decide))
  go_enter Tryz.func14, Tryz.ntmps14
  go_upto_region 1 with fail
  refine wp_world (fun W => W.heap[w.heap.size]? = some (.cells #[.int .i64 ck, .int .i64 cs, .int .i64 cf, .int .i64 ct, .int .i64 1, .slice R rn rc] 73 (0, 0)) ∧ W.heap[w.heap.size + 1]? = some (.cells #[.int .i64 0, .int .i64 0, .slice none 0 0] 75 (0, 0)) ∧ Below w.heap.size w W) ⟨blkUp (blkA _ _ (by first | rfl | simp only [World.size_alloc])) _, blkA _ _ (by first | rfl | simp only [World.size_alloc]), ((Below.refl _ _).alloc (by first | exact Nat.le_refl _ | (simp only [World.size_alloc]; omega)) _).alloc (by first | exact Nat.le_refl _ | (simp only [World.size_alloc]; omega)) _⟩ ?_
  rintro w1 ⟨k0, k1, hB⟩
  have r0 := row_of k0
  have f0 := frozen_of k0
  have z0 := blk_lt k0
  have r1 := row_of k1
  have f1 := frozen_of k1
  have z1 := blk_lt k1
  go_wp2_with fail
  refine (c0.out _).mono ?_
  rintro e w2 ⟨rfl, hb⟩
  replace k0 := blk_keep hb k0
  replace k1 := blk_keep hb k1
  replace hB := hB.trans (hb.mono hB.size)
  clear r0 f0 z0 r1 f1 z1
  clear hb
  have r0 := row_of k0
  have f0 := frozen_of k0
  have z0 := blk_lt k0
  have r1 := row_of k1
  have f1 := frozen_of k1
  have z1 := blk_lt k1
  go_upto_region 2 with fail
  have hz1_0 : w.heap.size < w2.heap.size := blk_lt k0
  have hz1_1 : w.heap.size + 1 < w2.heap.size := blk_lt k1
  refine wp_world (fun W => W.heap[w.heap.size]? = some (.cells #[.int .i64 ck, .int .i64 cs, .int .i64 cf, .int .i64 ct, .int .i64 1, .slice R rn rc] 73 (0, 0)) ∧ W.heap[w.heap.size + 1]? = some (.cells #[.int .i64 0, .int .i64 0, .slice none 0 0] 75 (0, 0)) ∧ W.heap[w2.heap.size]? = some (.cells #[.int .i64 0, .int .i64 0, .slice none 0 0] 75 (0, 0)) ∧ Below w.heap.size w W) ⟨blkUp (k0) _, blkUp (k1) _, blkA _ _ (by first | rfl | simp only [World.size_alloc]), (hB).alloc (by first | exact hB.size | (simp only [World.size_alloc]; omega)) _⟩ ?_
  clear r0 f0 z0 r1 f1 z1
  clear hB k0 k1
  rintro w3 ⟨k0, k1, k2, hB⟩
  have r0 := row_of k0
  have f0 := frozen_of k0
  have z0 := blk_lt k0
  have r1 := row_of k1
  have f1 := frozen_of k1
  have z1 := blk_lt k1
  have r2 := row_of k2
  have f2 := frozen_of k2
  have z2 := blk_lt k2
  go_upto_region 3 with fail
  clear r0 f0 z0 r1 f1 z1 r2 f2 z2
  have tn0 : w.heap.size + 1 < w2.heap.size := by omega
  replace hB := hB.drew
  have s0 : w3.drew.heap[w.heap.size]? = some (.cells #[.int .i64 ck, .int .i64 cs, .int .i64 cf, .int .i64 ct, .int .i64 1, .slice R rn rc] 73 (0, 0)) := k0
  have s1 : w3.drew.heap[w.heap.size + 1]? = some (.cells #[.int .i64 0, .int .i64 0, .slice none 0 0] 75 (0, 0)) := k1
  have s2 : w3.drew.heap[w2.heap.size]? = some (.cells #[.int .i64 0, .int .i64 0, .slice none 0 0] 75 (0, 0)) := k2
  clear k0 k1 k2
  have hS0 : w3.drew.cell? ⟨w.heap.size, 4, none⟩ = some (.int .i64 1) := row_of s0 4
  go_region_held3 (fun W => W.cell? ⟨w.heap.size, 4, none⟩ = some (.int .i64 1))
      (first | assumption | exact hS0 | exact row_of s0 4 | exact row_of (blkUp s0 _) 4 | exact (row_of (blk_set s0 (by omega)) 4))
      (first
        | (go_at_call 37; (with_reducible refine (none_any _).mono ?_); rintro e wn ⟨rfl, hbS⟩; replace s0 := blk_keep hbS s0; replace s1 := blk_keep hbS s1; replace s2 := blk_keep hbS s2; replace hB := hB.trans (hbS.mono hB.size); have hS1 : wn.cell? ⟨w.heap.size, 4, none⟩ = some (.int .i64 1) := row_of s0 4)
        | (go_at_call 36; refine (repeat_1 _ _ (blkA _ _ rfl)).mono ?_; rintro e wm ⟨gg, rfl, hE, hbS⟩; replace s0 := blk_keep hbS (blkUp s0 _); replace s1 := blk_keep hbS (blkUp s1 _); have t2 := blk_lt s2; replace s2 := blk_keep hbS (blkUp s2 _); replace hB := (hB.alloc hB.size _).trans (hbS.mono (Nat.le_trans hB.size (by simp only [World.size_alloc]; omega))); have hS2 : wm.cell? ⟨w.heap.size, 4, none⟩ = some (.int .i64 1) := row_of s0 4; have r2 := row_of s2; have f2 := frozen_of s2; have z2 := blk_lt s2; have r1 := row_of s1; have f1 := frozen_of s1; have z1 := blk_lt s1; have tn : w.heap.size + 1 < w2.heap.size := tn0; have hE2 := Lib.hid (elem_base hE (show w2.heap.size + 1 ≤ _ by simp only [World.size_alloc]; omega)); clear hE))
  go_wp2_with fail
  generalize hWF : (World.setCell (World.setCell (World.setCell (World.setCell _ _ _) _ _) _ _) _ _) = WF
  obtain ⟨kF, kO, bF, _⟩ := put3 (blk_set s1 (by omega)) _ _ _ hWF.symm
  clear hWF r1 f1 r2 f2
  have rF := row_of kF
  have q := elem_ge hE2.out
  exact bodyPost_ret (v := .agg #[.int .i64 0, .int .i64 0, .slice (some ⟨gg, 0, none⟩) 1 1]) (by simp [results, Tryz.results14, go_sem, rF]) rfl ⟨gg, 1, rfl, elem_base (elem_same hE2.out (fun x hx => kO _ x (by omega) (blk_set hx (by omega)))) (by omega), (hB.setCell (p := ⟨w2.heap.size, 2, none⟩) (by show w.heap.size ≤ w2.heap.size; omega) _).trans (bF _ (by omega))⟩
set_option maxRecDepth 100000 in
set_option maxHeartbeats 2000000 in
theorem none_2 (ck cs cf ct : Int) (R : Option Addr) (rn rc : Nat) (w : World) :
    Calls Tryz.prog 14 #[.agg #[.int .i64 ck, .int .i64 cs, .int .i64 cf, .int .i64 ct, .int .i64 2, .slice R rn rc]] w (ElemOut w 0 0 (List.replicate 2 (1, 0))) := by
  have c0 := Lib.hid (fun W => const_in 0 W (by decide) (by decide))
  go_enter Tryz.func14, Tryz.ntmps14
  go_upto_region 1 with fail
  refine wp_world (fun W => W.heap[w.heap.size]? = some (.cells #[.int .i64 ck, .int .i64 cs, .int .i64 cf, .int .i64 ct, .int .i64 2, .slice R rn rc] 73 (0, 0)) ∧ W.heap[w.heap.size + 1]? = some (.cells #[.int .i64 0, .int .i64 0, .slice none 0 0] 75 (0, 0)) ∧ Below w.heap.size w W) ⟨blkUp (blkA _ _ (by first | rfl | simp only [World.size_alloc])) _, blkA _ _ (by first | rfl | simp only [World.size_alloc]), ((Below.refl _ _).alloc (by first | exact Nat.le_refl _ | (simp only [World.size_alloc]; omega)) _).alloc (by first | exact Nat.le_refl _ | (simp only [World.size_alloc]; omega)) _⟩ ?_
  rintro w1 ⟨k0, k1, hB⟩
  have r0 := row_of k0
  have f0 := frozen_of k0
  have z0 := blk_lt k0
  have r1 := row_of k1
  have f1 := frozen_of k1
  have z1 := blk_lt k1
  go_wp2_with fail
  refine (c0.out _).mono ?_
  rintro e w2 ⟨rfl, hb⟩
  replace k0 := blk_keep hb k0
  replace k1 := blk_keep hb k1
  replace hB := hB.trans (hb.mono hB.size)
  clear r0 f0 z0 r1 f1 z1
  clear hb
  have r0 := row_of k0
  have f0 := frozen_of k0
  have z0 := blk_lt k0
  have r1 := row_of k1
  have f1 := frozen_of k1
  have z1 := blk_lt k1
  go_upto_region 2 with fail
  have hz1_0 : w.heap.size < w2.heap.size := blk_lt k0
  have hz1_1 : w.heap.size + 1 < w2.heap.size := blk_lt k1
  refine wp_world (fun W => W.heap[w.heap.size]? = some (.cells #[.int .i64 ck, .int .i64 cs, .int .i64 cf, .int .i64 ct, .int .i64 2, .slice R rn rc] 73 (0, 0)) ∧ W.heap[w.heap.size + 1]? = some (.cells #[.int .i64 0, .int .i64 0, .slice none 0 0] 75 (0, 0)) ∧ W.heap[w2.heap.size]? = some (.cells #[.int .i64 0, .int .i64 0, .slice none 0 0] 75 (0, 0)) ∧ Below w.heap.size w W) ⟨blkUp (k0) _, blkUp (k1) _, blkA _ _ (by first | rfl | simp only [World.size_alloc]), (hB).alloc (by first | exact hB.size | (simp only [World.size_alloc]; omega)) _⟩ ?_
  clear r0 f0 z0 r1 f1 z1
  clear hB k0 k1
  rintro w3 ⟨k0, k1, k2, hB⟩
  have r0 := row_of k0
  have f0 := frozen_of k0
  have z0 := blk_lt k0
  have r1 := row_of k1
  have f1 := frozen_of k1
  have z1 := blk_lt k1
  have r2 := row_of k2
  have f2 := frozen_of k2
  have z2 := blk_lt k2
  go_upto_region 3 with fail
  clear r0 f0 z0 r1 f1 z1 r2 f2 z2
  have tn0 : w.heap.size + 1 < w2.heap.size := by omega
  replace hB := hB.drew
  have s0 : w3.drew.heap[w.heap.size]? = some (.cells #[.int .i64 ck, .int .i64 cs, .int .i64 cf, .int .i64 ct, .int .i64 2, .slice R rn rc] 73 (0, 0)) := k0
  have s1 : w3.drew.heap[w.heap.size + 1]? = some (.cells #[.int .i64 0, .int .i64 0, .slice none 0 0] 75 (0, 0)) := k1
  have s2 : w3.drew.heap[w2.heap.size]? = some (.cells #[.int .i64 0, .int .i64 0, .slice none 0 0] 75 (0, 0)) := k2
  clear k0 k1 k2
  have hS0 : w3.drew.cell? ⟨w.heap.size, 4, none⟩ = some (.int .i64 2) := row_of s0 4
  go_region_held3 (fun W => W.cell? ⟨w.heap.size, 4, none⟩ = some (.int .i64 2))
      (first | assumption | exact hS0 | exact row_of s0 4 | exact row_of (blkUp s0 _) 4 | exact (row_of (blk_set s0 (by omega)) 4))
      (first
        | (go_at_call 37; (with_reducible refine (none_any _).mono ?_); rintro e wn ⟨rfl, hbS⟩; replace s0 := blk_keep hbS s0; replace s1 := blk_keep hbS s1; replace s2 := blk_keep hbS s2; replace hB := hB.trans (hbS.mono hB.size); have hS1 : wn.cell? ⟨w.heap.size, 4, none⟩ = some (.int .i64 2) := row_of s0 4)
        | (go_at_call 36; refine (repeat_2 _ _ (blkA _ _ rfl)).mono ?_; rintro e wm ⟨gg, rfl, hE, hbS⟩; replace s0 := blk_keep hbS (blkUp s0 _); replace s1 := blk_keep hbS (blkUp s1 _); have t2 := blk_lt s2; replace s2 := blk_keep hbS (blkUp s2 _); replace hB := (hB.alloc hB.size _).trans (hbS.mono (Nat.le_trans hB.size (by simp only [World.size_alloc]; omega))); have hS2 : wm.cell? ⟨w.heap.size, 4, none⟩ = some (.int .i64 2) := row_of s0 4; have r2 := row_of s2; have f2 := frozen_of s2; have z2 := blk_lt s2; have r1 := row_of s1; have f1 := frozen_of s1; have z1 := blk_lt s1; have tn : w.heap.size + 1 < w2.heap.size := tn0; have hE2 := Lib.hid (elem_base hE (show w2.heap.size + 1 ≤ _ by simp only [World.size_alloc]; omega)); clear hE))
  go_wp2_with fail
  generalize hWF : (World.setCell (World.setCell (World.setCell (World.setCell _ _ _) _ _) _ _) _ _) = WF
  obtain ⟨kF, kO, bF, _⟩ := put3 (blk_set s1 (by omega)) _ _ _ hWF.symm
  clear hWF r1 f1 r2 f2
  have rF := row_of kF
  have q := elem_ge hE2.out
  exact bodyPost_ret (v := .agg #[.int .i64 0, .int .i64 0, .slice (some ⟨gg, 0, none⟩) 2 2]) (by simp [results, Tryz.results14, go_sem, rF]) rfl ⟨gg, 2, rfl, elem_base (elem_same hE2.out (fun x hx => kO _ x (by omega) (blk_set hx (by omega)))) (by omega), (hB.setCell (p := ⟨w2.heap.size, 2, none⟩) (by show w.heap.size ≤ w2.heap.size; omega) _).trans (bF _ (by omega))⟩
set_option maxRecDepth 100000 in
set_option maxHeartbeats 2000000 in
theorem none_3 (ck cs cf ct : Int) (R : Option Addr) (rn rc : Nat) (w : World) :
    Calls Tryz.prog 14 #[.agg #[.int .i64 ck, .int .i64 cs, .int .i64 cf, .int .i64 ct, .int .i64 3, .slice R rn rc]] w (ElemOut w 0 0 (List.replicate 3 (1, 0))) := by
  have c0 := Lib.hid (fun W => const_in 0 W (by decide) (by decide))
  go_enter Tryz.func14, Tryz.ntmps14
  go_upto_region 1 with fail
  refine wp_world (fun W => W.heap[w.heap.size]? = some (.cells #[.int .i64 ck, .int .i64 cs, .int .i64 cf, .int .i64 ct, .int .i64 3, .slice R rn rc] 73 (0, 0)) ∧ W.heap[w.heap.size + 1]? = some (.cells #[.int .i64 0, .int .i64 0, .slice none 0 0] 75 (0, 0)) ∧ Below w.heap.size w W) ⟨blkUp (blkA _ _ (by first | rfl | simp only [World.size_alloc])) _, blkA _ _ (by first | rfl | simp only [World.size_alloc]), ((Below.refl _ _).alloc (by first | exact Nat.le_refl _ | (simp only [World.size_alloc]; omega)) _).alloc (by first | exact Nat.le_refl _ | (simp only [World.size_alloc]; omega)) _⟩ ?_
  rintro w1 ⟨k0, k1, hB⟩
  have r0 := row_of k0
  have f0 := frozen_of k0
  have z0 := blk_lt k0
  have r1 := row_of k1
  have f1 := frozen_of k1
  have z1 := blk_lt k1
  go_wp2_with fail
  refine (c0.out _).mono ?_
  rintro e w2 ⟨rfl, hb⟩
  replace k0 := blk_keep hb k0
  replace k1 := blk_keep hb k1
  replace hB := hB.trans (hb.mono hB.size)
  clear r0 f0 z0 r1 f1 z1
  clear hb
  have r0 := row_of k0
  have f0 := frozen_of k0
  have z0 := blk_lt k0
  have r1 := row_of k1
  have f1 := frozen_of k1
  have z1 := blk_lt k1
  go_upto_region 2 with fail
  have hz1_0 : w.heap.size < w2.heap.size := blk_lt k0
  have hz1_1 : w.heap.size + 1 < w2.heap.size := blk_lt k1
  refine wp_world (fun W => W.heap[w.heap.size]? = some (.cells #[.int .i64 ck, .int .i64 cs, .int .i64 cf, .int .i64 ct, .int .i64 3, .slice R rn rc] 73 (0, 0)) ∧ W.heap[w.heap.size + 1]? = some (.cells #[.int .i64 0, .int .i64 0, .slice none 0 0] 75 (0, 0)) ∧ W.heap[w2.heap.size]? = some (.cells #[.int .i64 0, .int .i64 0, .slice none 0 0] 75 (0, 0)) ∧ Below w.heap.size w W) ⟨blkUp (k0) _, blkUp (k1) _, blkA _ _ (by first | rfl | simp only [World.size_alloc]), (hB).alloc (by first | exact hB.size | (simp only [World.size_alloc]; omega)) _⟩ ?_
  clear r0 f0 z0 r1 f1 z1
  clear hB k0 k1
  rintro w3 ⟨k0, k1, k2, hB⟩
  have r0 := row_of k0
  have f0 := frozen_of k0
  have z0 := blk_lt k0
  have r1 := row_of k1
  have f1 := frozen_of k1
  have z1 := blk_lt k1
  have r2 := row_of k2
  have f2 := frozen_of k2
  have z2 := blk_lt k2
  go_upto_region 3 with fail
  clear r0 f0 z0 r1 f1 z1 r2 f2 z2
  have tn0 : w.heap.size + 1 < w2.heap.size := by omega
  replace hB := hB.drew
  have s0 : w3.drew.heap[w.heap.size]? = some (.cells #[.int .i64 ck, .int .i64 cs, .int .i64 cf, .int .i64 ct, .int .i64 3, .slice R rn rc] 73 (0, 0)) := k0
  have s1 : w3.drew.heap[w.heap.size + 1]? = some (.cells #[.int .i64 0, .int .i64 0, .slice none 0 0] 75 (0, 0)) := k1
  have s2 : w3.drew.heap[w2.heap.size]? = some (.cells #[.int .i64 0, .int .i64 0, .slice none 0 0] 75 (0, 0)) := k2
  clear k0 k1 k2
  have hS0 : w3.drew.cell? ⟨w.heap.size, 4, none⟩ = some (.int .i64 3) := row_of s0 4
  go_region_held3 (fun W => W.cell? ⟨w.heap.size, 4, none⟩ = some (.int .i64 3))
      (first | assumption | exact hS0 | exact row_of s0 4 | exact row_of (blkUp s0 _) 4 | exact (row_of (blk_set s0 (by omega)) 4))
      (first
        | (go_at_call 37; (with_reducible refine (none_any _).mono ?_); rintro e wn ⟨rfl, hbS⟩; replace s0 := blk_keep hbS s0; replace s1 := blk_keep hbS s1; replace s2 := blk_keep hbS s2; replace hB := hB.trans (hbS.mono hB.size); have hS1 : wn.cell? ⟨w.heap.size, 4, none⟩ = some (.int .i64 3) := row_of s0 4)
        | (go_at_call 36; refine (repeat_3 _ _ (blkA _ _ rfl)).mono ?_; rintro e wm ⟨gg, rfl, hE, hbS⟩; replace s0 := blk_keep hbS (blkUp s0 _); replace s1 := blk_keep hbS (blkUp s1 _); have t2 := blk_lt s2; replace s2 := blk_keep hbS (blkUp s2 _); replace hB := (hB.alloc hB.size _).trans (hbS.mono (Nat.le_trans hB.size (by simp only [World.size_alloc]; omega))); have hS2 : wm.cell? ⟨w.heap.size, 4, none⟩ = some (.int .i64 3) := row_of s0 4; have r2 := row_of s2; have f2 := frozen_of s2; have z2 := blk_lt s2; have r1 := row_of s1; have f1 := frozen_of s1; have z1 := blk_lt s1; have tn : w.heap.size + 1 < w2.heap.size := tn0; have hE2 := Lib.hid (elem_base hE (show w2.heap.size + 1 ≤ _ by simp only [World.size_alloc]; omega)); clear hE))
  go_wp2_with fail
  generalize hWF : (World.setCell (World.setCell (World.setCell (World.setCell _ _ _) _ _) _ _) _ _) = WF
  obtain ⟨kF, kO, bF, _⟩ := put3 (blk_set s1 (by omega)) _ _ _ hWF.symm
  clear hWF r1 f1 r2 f2
  have rF := row_of kF
  have q := elem_ge hE2.out
  exact bodyPost_ret (v := .agg #[.int .i64 0, .int .i64 0, .slice (some ⟨gg, 0, none⟩) 3 3]) (by simp [results, Tryz.results14, go_sem, rF]) rfl ⟨gg, 3, rfl, elem_base (elem_same hE2.out (fun x hx => kO _ x (by omega) (blk_set hx (by omega)))) (by omega), (hB.setCell (p := ⟨w2.heap.size, 2, none⟩) (by show w.heap.size ≤ w2.heap.size; omega) _).trans (bF _ (by omega))⟩
set_option maxRecDepth 100000 in
set_option maxHeartbeats 2000000 in
theorem none_4 (ck cs cf ct : Int) (R : Option Addr) (rn rc : Nat) (w : World) :
    Calls Tryz.prog 14 #[.agg #[.int .i64 ck, .int .i64 cs, .int .i64 cf, .int .i64 ct, .int .i64 4, .slice R rn rc]] w (ElemOut w 0 0 (List.replicate 4 (1, 0))) := by
  have c0 := Lib.hid (fun W => const_in 0 W (by decide) (by decide))
  go_enter Tryz.func14, Tryz.ntmps14
  go_upto_region 1 with fail
  refine wp_world (fun W => W.heap[w.heap.size]? = some (.cells #[.int .i64 ck, .int .i64 cs, .int .i64 cf, .int .i64 ct, .int .i64 4, .slice R rn rc] 73 (0, 0)) ∧ W.heap[w.heap.size + 1]? = some (.cells #[.int .i64 0, .int .i64 0, .slice none 0 0] 75 (0, 0)) ∧ Below w.heap.size w W) ⟨blkUp (blkA _ _ (by first | rfl | simp only [World.size_alloc])) _, blkA _ _ (by first | rfl | simp only [World.size_alloc]), ((Below.refl _ _).alloc (by first | exact Nat.le_refl _ | (simp only [World.size_alloc]; omega)) _).alloc (by first | exact Nat.le_refl _ | (simp only [World.size_alloc]; omega)) _⟩ ?_
  rintro w1 ⟨k0, k1, hB⟩
  have r0 := row_of k0
  have f0 := frozen_of k0
  have z0 := blk_lt k0
  have r1 := row_of k1
  have f1 := frozen_of k1
  have z1 := blk_lt k1
  go_wp2_with fail
  refine (c0.out _).mono ?_
  rintro e w2 ⟨rfl, hb⟩
  replace k0 := blk_keep hb k0
  replace k1 := blk_keep hb k1
  replace hB := hB.trans (hb.mono hB.size)
  clear r0 f0 z0 r1 f1 z1
  clear hb
  have r0 := row_of k0
  have f0 := frozen_of k0
  have z0 := blk_lt k0
  have r1 := row_of k1
  have f1 := frozen_of k1
  have z1 := blk_lt k1
  go_upto_region 2 with fail
  have hz1_0 : w.heap.size < w2.heap.size := blk_lt k0
  have hz1_1 : w.heap.size + 1 < w2.heap.size := blk_lt k1
  refine wp_world (fun W => W.heap[w.heap.size]? = some (.cells #[.int .i64 ck, .int .i64 cs, .int .i64 cf, .int .i64 ct, .int .i64 4, .slice R rn rc] 73 (0, 0)) ∧ W.heap[w.heap.size + 1]? = some (.cells #[.int .i64 0, .int .i64 0, .slice none 0 0] 75 (0, 0)) ∧ W.heap[w2.heap.size]? = some (.cells #[.int .i64 0, .int .i64 0, .slice none 0 0] 75 (0, 0)) ∧ Below w.heap.size w W) ⟨blkUp (k0) _, blkUp (k1) _, blkA _ _ (by first | rfl | simp only [World.size_alloc]), (hB).alloc (by first | exact hB.size | (simp only [World.size_alloc]; omega)) _⟩ ?_
  clear r0 f0 z0 r1 f1 z1
  clear hB k0 k1
  rintro w3 ⟨k0, k1, k2, hB⟩
  have r0 := row_of k0
  have f0 := frozen_of k0
  have z0 := blk_lt k0
  have r1 := row_of k1
  have f1 := frozen_of k1
  have z1 := blk_lt k1
  have r2 := row_of k2
  have f2 := frozen_of k2
  have z2 := blk_lt k2
  go_upto_region 3 with fail
  clear r0 f0 z0 r1 f1 z1 r2 f2 z2
  have tn0 : w.heap.size + 1 < w2.heap.size := by omega
  replace hB := hB.drew
  have s0 : w3.drew.heap[w.heap.size]? = some (.cells #[.int .i64 ck, .int .i64 cs, .int .i64 cf, .int .i64 ct, .int .i64 4, .slice R rn rc] 73 (0, 0)) := k0
  have s1 : w3.drew.heap[w.heap.size + 1]? = some (.cells #[.int .i64 0, .int .i64 0, .slice none 0 0] 75 (0, 0)) := k1
  have s2 : w3.drew.heap[w2.heap.size]? = some (.cells #[.int .i64 0, .int .i64 0, .slice none 0 0] 75 (0, 0)) := k2
  clear k0 k1 k2
  have hS0 : w3.drew.cell? ⟨w.heap.size, 4, none⟩ = some (.int .i64 4) := row_of s0 4
  go_region_held3 (fun W => W.cell? ⟨w.heap.size, 4, none⟩ = some (.int .i64 4))
      (first | assumption | exact hS0 | exact row_of s0 4 | exact row_of (blkUp s0 _) 4 | exact (row_of (blk_set s0 (by omega)) 4))
      (first
        | (go_at_call 37; (with_reducible refine (none_any _).mono ?_); rintro e wn ⟨rfl, hbS⟩; replace s0 := blk_keep hbS s0; replace s1 := blk_keep hbS s1; replace s2 := blk_keep hbS s2; replace hB := hB.trans (hbS.mono hB.size); have hS1 : wn.cell? ⟨w.heap.size, 4, none⟩ = some (.int .i64 4) := row_of s0 4)
        | (go_at_call 36; refine (repeat_4 _ _ (blkA _ _ rfl)).mono ?_; rintro e wm ⟨gg, rfl, hE, hbS⟩; replace s0 := blk_keep hbS (blkUp s0 _); replace s1 := blk_keep hbS (blkUp s1 _); have t2 := blk_lt s2; replace s2 := blk_keep hbS (blkUp s2 _); replace hB := (hB.alloc hB.size _).trans (hbS.mono (Nat.le_trans hB.size (by simp only [World.size_alloc]; omega))); have hS2 : wm.cell? ⟨w.heap.size, 4, none⟩ = some (.int .i64 4) := row_of s0 4; have r2 := row_of s2; have f2 := frozen_of s2; have z2 := blk_lt s2; have r1 := row_of s1; have f1 := frozen_of s1; have z1 := blk_lt s1; have tn : w.heap.size + 1 < w2.heap.size := tn0; have hE2 := Lib.hid (elem_base hE (show w2.heap.size + 1 ≤ _ by simp only [World.size_alloc]; omega)); clear hE))
  go_wp2_with fail
  generalize hWF : (World.setCell (World.setCell (World.setCell (World.setCell _ _ _) _ _) _ _) _ _) = WF
  obtain ⟨kF, kO, bF, _⟩ := put3 (blk_set s1 (by omega)) _ _ _ hWF.symm
  clear hWF r1 f1 r2 f2
  have rF := row_of kF
  have q := elem_ge hE2.out
  exact bodyPost_ret (v := .agg #[.int .i64 0, .int .i64 0, .slice (some ⟨gg, 0, none⟩) 4 4]) (by simp [results, Tryz.results14, go_sem, rF]) rfl ⟨gg, 4, rfl, elem_base (elem_same hE2.out (fun x hx => kO _ x (by omega) (blk_set hx (by omega)))) (by omega), (hB.setCell (p := ⟨w2.heap.size, 2, none⟩) (by show w.heap.size ≤ w2.heap.size; omega) _).trans (bF _ (by omega))⟩
end Go.Proofs.YtlgmofjjjhbgkaaGreat
namespace Go.Proofs.YtlgmofjjjhbgkaaGreat.Sx.Z
open Go.RowKit
noncomputable def qnoneS : FSpec := fun ds _ => match ds with
  | [.i _kd, .i _size, .i _frm, .i _dst, .i tags, .d _rl] => some { val := .one (.agg [.c (.int .i64 (.lit 0)), .c (.int .i64 (.lit 0)), .c (.rows 53 (prD tags.toNat (fun _ => (1, 0))))]), vc := [1 ≤ tags ∧ tags ≤ 4] }
  | _ => none
noncomputable def qnoneC : Con := con [chA] qnoneS
theorem rows_slice {fz : Fz} {e : TypeId} {d : D} {v : Value} (h : TRel fz (.slice e) d v) : ∃ A n c, v = .slice A n c := by
  generalize hk : K.slice e = k at h
  cases h with
  | int k d => cases hk
  | bool d => cases hk
  | str d => cases hk
  | nil e d h0 => exact ⟨_, _, _, rfl⟩
  | empty e d a c h0 => exact ⟨_, _, _, rfl⟩
  | slice e d b o c u _ _ _ => exact ⟨_, _, _, rfl⟩
theorem none_out {ck cs cf ct tags : Int} (ht : 1 ≤ tags ∧ tags ≤ 4) (R : Option Addr) (rn rc : Nat) (w : World) : Calls Tryz.prog 14 #[.agg #[.int .i64 ck, .int .i64 cs, .int .i64 cf, .int .i64 ct, .int .i64 tags, .slice R rn rc]] w fun e w' => ∃ g cap cur, e = .returned (.agg #[.int .i64 0, .int .i64 0, .slice (some ⟨g, 0, none⟩) tags.toNat cap]) ∧ w.heap.size ≤ g ∧ w'.heap[g]? = some (.cells cur 53 (0, 0)) ∧ tags.toNat ≤ cap ∧ (∀ i, i < tags.toNat → cur[i * 2]? = some (.int .i64 1) ∧ cur[i * 2 + 1]? = some (.int .i64 0)) ∧ Below w.heap.size w w' := by
  have key : ∀ {n : Nat} {e : Ending} {w' : World}, n ≤ 4 → 1 ≤ n → ElemOut w 0 0 (List.replicate n (1, 0)) e w' → ∃ g cap cur, e = .returned (.agg #[.int .i64 0, .int .i64 0, .slice (some ⟨g, 0, none⟩) n cap]) ∧ w.heap.size ≤ g ∧ w'.heap[g]? = some (.cells cur 53 (0, 0)) ∧ n ≤ cap ∧ (∀ i, i < n → cur[i * 2]? = some (.int .i64 1) ∧ cur[i * 2 + 1]? = some (.int .i64 0)) ∧ Below w.heap.size w w' := fun {n e w'} hn4 hn1 h => by
    obtain ⟨g, cap, rfl, hel, hb⟩ := h
    rw [List.length_replicate] at *
    unfold ElemAt at hel
    rw [List.length_replicate] at hel
    obtain ⟨_, h2⟩ := hel
    rcases h2 with ⟨h2, _⟩ | ⟨g', cap', cur, h2, h3, h4, h5, _, h7, h8⟩
    · cases h2
    · obtain ⟨e1, _, e2⟩ := Value.slice.inj h2
      have e1 := Option.some.inj e1
      obtain rfl : g = g' := congrArg Addr.block e1
      subst e2
      refine ⟨g, cap, cur, rfl, h3, h4, h5, fun i hi => ?_, hb⟩
      have at_ : ∀ j u, (Go.Proofs.YtlgmofjjjhbgkaaGreat.cellsOf (List.replicate n ((1 : Int), (0 : Int))))[j]? = some u → cur[j]? = some u := fun j u hj => by
        rw [← h8] at hj
        rw [List.getElem?_take] at hj
        split at hj
        · simpa using hj
        · cases hj
      have : n = 1 ∨ n = 2 ∨ n = 3 ∨ n = 4 := by omega
      rcases this with rfl | rfl | rfl | rfl
      · have : i = 0 := by omega
        subst this; exact ⟨at_ _ _ rfl, at_ _ _ rfl⟩
      · have : i = 0 ∨ i = 1 := by omega
        rcases this with rfl | rfl <;> exact ⟨at_ _ _ rfl, at_ _ _ rfl⟩
      · have : i = 0 ∨ i = 1 ∨ i = 2 := by omega
        rcases this with rfl | rfl | rfl <;> exact ⟨at_ _ _ rfl, at_ _ _ rfl⟩
      · have : i = 0 ∨ i = 1 ∨ i = 2 ∨ i = 3 := by omega
        rcases this with rfl | rfl | rfl | rfl <;> exact ⟨at_ _ _ rfl, at_ _ _ rfl⟩
  have ht' : tags = 1 ∨ tags = 2 ∨ tags = 3 ∨ tags = 4 := by omega
  rcases ht' with rfl | rfl | rfl | rfl
  · exact (none_1 ck cs cf ct R rn rc w).mono fun e w' h => key (n := 1) (by omega) (by omega) h
  · exact (none_2 ck cs cf ct R rn rc w).mono fun e w' h => key (n := 2) (by omega) (by omega) h
  · exact (none_3 ck cs cf ct R rn rc w).mono fun e w' h => key (n := 3) (by omega) (by omega) h
  · exact (none_4 ck cs cf ct R rn rc w).mono fun e w' h => key (n := 4) (by omega) (by omega) h
theorem qnone_ok : ConOK Tryz.prog 14 qnoneC := by
  refine ⟨fun _ _ => by kernel_rfl, fun hp fr args e he hv w0 w ρ vs hw _ ha => ?_, fun _ _ _ _ h => nomatch (con_jf _ _ _ _ _).symm.trans h⟩
  unfold qnoneC con at he
  split at he
  · rename_i ds ps hds
    split at he
    · rename_i e1 he1
      unfold qnoneS at he1
      split at he1
      · rename_i kd size frm dst tags rl
        obtain rfl := Option.some.inj he1
        obtain rfl := Option.some.inj he
        obtain ⟨hp1, hp2⟩ := all_append.1 hv
        obtain ⟨svs, h, ρ1, id, hun, _, _, hrel⟩ := unP_spec hw [chA] args _ ps hds hp1 vs ha (ids := keepOwn hp (idsX hp args)) (fun i hi ho => keepOwn_mem.2 ⟨hi, ho⟩) 0
        obtain rfl : svs = _ := (congrArg Prod.fst (Option.some.inj hun)).symm
        have ht : 1 ≤ tags ∧ tags ≤ 4 := hp2.1
        match vs, hrel with
        | [x], ⟨⟨⟨l⟩, hx, hlen, hcs⟩, _⟩ =>
          subst hx
          match l, hlen with
          | [a0, a1, a2, a3, a4, a5], _ =>
            have e0 : a0 = .int .i64 kd := hcs 0 _ a0 rfl rfl
            have e1 : a1 = .int .i64 size := hcs 1 _ a1 rfl rfl
            have e2 : a2 = .int .i64 frm := hcs 2 _ a2 rfl rfl
            have e3 : a3 = .int .i64 dst := hcs 3 _ a3 rfl rfl
            have e4 : a4 = .int .i64 tags := hcs 4 _ a4 rfl rfl
            obtain ⟨R, rn, rc, e5⟩ := rows_slice (show TRel _ (.slice _) rl a5 from hcs 5 _ a5 rfl rfl)
            rw [e0, e1, e2, e3, e4, e5]
            refine (none_out ht R rn rc w).mono ?_
            rintro en w' ⟨g, cap, cur, rfl, hg, hcur, hcap, hcell, hb⟩
            have hgn : ρ.fz g = none := hw.froz.new hg
            refine ⟨{ ρ with fz := fun b => if b = g then some cur else ρ.fz b }, _, rfl, ?_, ⟨⟨fun _ _ h => h, fun _ _ => rfl, fun b cs hb => ?_, rfl, rfl⟩, fun _ _ => rfl, hb.mono (Nat.zero_le _), fun b hlt _ => hb.block b hlt, fun i x hx => ?_, fun i x hx => ?_, fun i j x y hx => ?_, fun b cs hcs => ?_⟩⟩
            · refine ⟨_, rfl, rfl, fun i x v hx hv => ?_⟩
              match i with
              | 0 => obtain rfl := Option.some.inj hx; obtain rfl := Option.some.inj hv; rfl
              | 1 => obtain rfl := Option.some.inj hx; obtain rfl := Option.some.inj hv; rfl
              | 2 =>
                obtain rfl := Option.some.inj hx
                obtain rfl := Option.some.inj hv
                have hl := prD_len tags.toNat (fun _ => (1, 0))
                have hk : eks 53 = [.int .i64, .int .i64] := rfl
                rw [show Value.slice (some ⟨g, 0, none⟩) tags.toNat cap = Value.slice (some ⟨g, 0, none⟩) (prD tags.toNat (fun _ => (1, 0))).len cap by rw [hl]]
                refine .slice _ _ _ _ _ (fun i j => if j = 0 then .int .i64 1 else .int .i64 0) (by omega) (fun i j hi hj => ?_) (fun i j k hi hkk => ?_)
                · have hc := hcell i (by omega)
                  have hj : j = 0 ∨ j = 1 := by have : (eks 53).length = 2 := rfl; omega
                  show Fz.cell (fun b => if b = g then some cur else ρ.fz b) g (0 + i * 2 + j) = _
                  have ef : (fun b => if b = g then some cur else ρ.fz b) g = some cur := if_pos rfl
                  unfold Fz.cell
                  rw [ef]
                  rcases hj with rfl | rfl
                  · rw [Nat.zero_add, Nat.add_zero]; exact hc.1
                  · rw [Nat.zero_add]; exact hc.2
                · have pe := prD_el (n := tags.toNat) (j := i) (by omega) (fun _ => ((1 : Int), (0 : Int)))
                  have p0 : ((prD tags.toNat (fun _ => (1, 0))).el i 0).toI = 1 := congrArg Prod.fst pe
                  have p1 : ((prD tags.toNat (fun _ => (1, 0))).el i 1).toI = 0 := congrArg Prod.snd pe
                  match j with
                  | 0 =>
                    obtain rfl : .int .i64 = k := Option.some.inj hkk
                    have := TRel.int (fz := fun b => if b = g then some cur else ρ.fz b) .i64 ((prD tags.toNat (fun _ => (1, 0))).el i 0)
                    rw [p0] at this
                    exact this
                  | 1 =>
                    obtain rfl : .int .i64 = k := Option.some.inj hkk
                    have := TRel.int (fz := fun b => if b = g then some cur else ρ.fz b) .i64 ((prD tags.toNat (fun _ => (1, 0))).el i 1)
                    rw [p1] at this
                    exact this
                  | j + 2 => cases hkk
              | i + 3 => cases hx
            · show (if b = g then some cur else ρ.fz b) = some cs
              split
              · rename_i hbg; rw [hbg, hgn] at hb; cases hb
              · exact hb
            · rw [(kills_look (show look (kills (keepOwn hp (idsX hp args))) i = some x from hx)).1]; trivial
            · cases hx
            · cases hx
            · have hcs : (if b = g then some cur else ρ.fz b) = some cs := hcs
              split at hcs
              · rename_i hbg
                obtain rfl := Option.some.inj hcs
                rw [hbg]
                exact .inr ⟨.inl hg, ⟨_, _, hcur⟩, fun i x hx => by cases hx⟩
              · exact .inl hcs
      · cases he1
    · cases he
  · cases he
end Go.Proofs.YtlgmofjjjhbgkaaGreat.Sx.Z
namespace Go.Proofs.YtlgmofjjjhbgkaaGreat.Sx.Z
open Go.RowKit
theorem full_len {n : Nat} {r : List (List D)} (hr : r.length = n) : (r.take (0 + n)).drop 0 = r := by rw [Nat.zero_add, List.drop_zero, ← hr, List.take_length]
end Go.Proofs.YtlgmofjjjhbgkaaGreat.Sx.Z
namespace Go.Proofs.YtlgmofjjjhbgkaaGreat.Sx.Z
open Go.RowKit
def isSt (n : Int) : Bool := decide (n ≥ 0) && decide (n < 8)
def ofS (n : Int) : Int := IntKind.u8.wrap (1 * 2 ^ min n.toNat 8)
def hasR (s n : Int) : Bool := isSt n && (IntKind.u8.wrap ↑(BitVec.ofInt IntKind.u8.bits (s.fdiv (2 ^ min n.toNat IntKind.u8.bits)) &&& BitVec.ofInt IntKind.u8.bits 1).toNat == 1)
def lsD (s : Int) (k : Nat) : D := .l (((List.range k).filter fun (j : Nat) => hasR s (j : Int)).map fun (j : Nat) => [D.i (j : Int)])
theorem lsD_len (s : Int) (k : Nat) : (lsD s k).len ≤ k := by
  show (List.map _ (List.filter _ (List.range k))).length ≤ k
  rw [List.length_map]
  exact Nat.le_trans (List.length_filter_le _ _) (by simp)
theorem lsD_yes {s : Int} {k : Nat} (h : hasR s k = true) : (lsD s (k + 1)).rows = (lsD s k).rows ++ [[D.i k]] := by
  show List.map _ (List.filter _ (List.range (k + 1))) = List.map _ (List.filter _ (List.range k)) ++ _
  rw [List.range_succ, List.filter_append, List.map_append, List.filter_cons, if_pos h]; rfl
theorem lsD_no {s : Int} {k : Nat} (h : hasR s k = false) : (lsD s (k + 1)).rows = (lsD s k).rows := by
  show List.map _ (List.filter _ (List.range (k + 1))) = List.map _ (List.filter _ (List.range k))
  rw [List.range_succ, List.filter_append, List.filter_cons, if_neg (by rw [h]; simp), List.filter_nil, List.append_nil]
def mvI (rl : D) (a b : Int) : Int × Bool := if (decide (a ≥ rl.len) || decide (b < 0) || decide (b ≥ (rl.el a.toNat 0).len)) = true then (0, false) else (((rl.el a.toNat 0).el b.toNat 0).toI, isSt ((rl.el a.toNat 0).el b.toNat 0).toI)
noncomputable def isstS : FSpec := fun ds _ => match ds with
  | [.i n] => some { val := .one (.sc (.bool (.sym (isSt n)))), vc := [] }
  | _ => none
noncomputable def isstC : Con := con [iA] isstS
theorem isst_ok : ConOK Tryz.prog 135 isstC := by
  refine fn_ob tt_ok mixed Tryz.func135 rfl (fun _ _ => by kernel_rfl) (A := fun ds => ⟨fun _ => Cons.of [], fun _ => none, fun _ => none⟩) (fun _ _ => cons_nil) (by kernel_rfl) ?_
  intro ds fr
  unfold isstS
  split
  · rename_i n
    refine kmp (q := (decide (n ≥ (0 : Int)) && decide (n < (8 : Int))) = isSt n) (by kernel_rfl) ?_
    rfl
  · trivial
noncomputable def rofS : FSpec := fun ds _ => match ds with
  | [.i n] => some { val := .one (.sc (.int .u8 (.sym (ofS n)))), vc := [0 ≤ n ∧ n < 8] }
  | _ => none
noncomputable def rofC : Con := con [iA] rofS
theorem rof_ok : ConOK Tryz.prog 54 rofC := by
  refine fn_ob tt_ok mixed Tryz.func54 rfl (fun _ _ => by kernel_rfl) (A := fun ds => ⟨fun _ => Cons.of [], fun _ => none, fun _ => none⟩) (fun _ _ => cons_nil) (by kernel_rfl) ?_
  intro ds fr
  unfold rofS
  split
  · rename_i n
    refine kmp (q := (0 : Int) ≤ n ∧ n < (8 : Int) → ¬n < (0 : Int) ∧ IntKind.u8.wrap ((1 : Int) * (2 : Int) ^ min n.toNat IntKind.u8.bits) = ofS n) (by kernel_rfl) ?_
    intro hn
    exact ⟨by omega, rfl⟩
  · trivial
noncomputable def rstartS : FSpec := fun ds _ => match ds with
  | [] => some { val := .one (.sc (.int .u8 (.lit 1))), vc := [] }
  | _ => none
noncomputable def rstartC : Con := con [] rstartS
theorem rstart_ok : ConOK Tryz.prog 25 rstartC := by
  refine fn_ob tt_ok mixed Tryz.func25 rfl (fun _ _ => by kernel_rfl) (A := fun ds => ⟨fun _ => Cons.of [(54, rofC)], fun _ => none, fun _ => none⟩) (fun _ _ => (cons_cons rof_ok cons_nil)) (by kernel_rfl) ?_
  intro ds fr
  unfold rstartS
  split
  · skip
    refine kmp (q := ((0 : Int) ≤ (0 : Int) ∧ (0 : Int) < (8 : Int)) ∧ ofS (0 : Int) = (1 : Int)) (by kernel_rfl) ?_
    exact ⟨by omega, rfl⟩
  · trivial
noncomputable def rhasSS : FSpec := fun ds _ => match ds with
  | [.i st, .i n] => some { val := .one (.sc (.bool (.sym (hasR st n)))), vc := [] }
  | _ => none
noncomputable def rhasSC : Con := con [.sc (.int .u8), iA] rhasSS
theorem rhasS_ok : ConOK Tryz.prog 134 rhasSC := by
  refine fn_ob tt_ok mixed Tryz.func134 rfl (fun _ _ => by kernel_rfl) (A := fun ds => ⟨fun _ => Cons.of [(135, isstC)], fun _ => none, fun _ => none⟩) (fun _ _ => (cons_cons isst_ok cons_nil)) (by kernel_rfl) ?_
  intro ds fr
  unfold rhasSS
  split
  · rename_i st n
    refine kmp (q := (isSt n = true ∧ True → ¬n < (0 : Int)) ∧ (isSt n && IntKind.u8.wrap (↑(BitVec.ofInt IntKind.u8.bits (st.fdiv ((2 : Int) ^ min n.toNat IntKind.u8.bits)) &&& BitVec.ofInt IntKind.u8.bits (1 : Int)).toNat : Int) == (1 : Int)) = hasR st n) (by kernel_rfl) ?_
    exact ⟨fun h => by have h := h.1; unfold isSt at h; simp only [Bool.and_eq_true, decide_eq_true_eq] at h; omega, rfl⟩
  · trivial
noncomputable def rlistS : FSpec := fun ds _ => match ds with
  | [.i st] => some { val := .one (.sc (.rows 3 (lsD st 8))), vc := [] }
  | _ => none
noncomputable def rlistC : Con := con [.sc (.int .u8)] rlistS
theorem rlist_ok : ConOK Tryz.prog 114 rlistC := by
  refine fn_ob tt_ok mixed Tryz.func114 rfl (fun _ _ => by kernel_rfl) (A := fun ds => ⟨fun _ => Cons.of [(134, rhasSC)], fun k => match k, ds with | 3, [.i st] => some { ι := Nat, pre := fun _ k => k ≤ 8, μ := fun k => 9 - k, st := fun s k => famR s [(5, .one (.sc (.int .i64 (.sym ((k : Nat)))))), (3, .one (.sc (.osl 3 (s.nx - 1) (.lit 0) (.sym ((lsD st k).len)))))] [0] [(s.nx - 1, .orow 3 (lsD st k))] [] } | _, _ => none, fun _ => none⟩) (fun _ _ => (cons_cons rhasS_ok cons_nil)) (by kernel_rfl) ?_
  intro ds fr
  unfold rlistS
  split
  · rename_i st
    refine kmp (q := (∃ (i : Nat), i.le 8 ∧ (0 : Int) = (↑i : Int) ∧ (lsD st i).len = 0 ∧ st = st ∧ List.map (fun (j : Nat) => [D.i (↑j : Int)]) (List.filter (fun (j : Nat) => hasR st (↑j : Int)) (List.range i)) = []) ∧ ∀ (i : Nat), i.le 8 → (decide ((↑i : Int) < (8 : Int)) = true → (hasR st (↑i : Int) = true → (lsD st i).len = (lsD st i).len ∧ ((lsD st i).len + ((D.l [[D.i (↑i : Int)]]).sub 0 (0 + 1)).len) * 8 ≤ 140737488355328 ∧ 0 + 1 ≤ (D.l [[D.i (↑i : Int)]]).len ∧ ∃ (j : Nat), j.le 8 ∧ 9 - j < 9 - i ∧ IntKind.i64.wrap ((↑i : Int) + (1 : Int)) = (↑j : Int) ∧ (lsD st i).len + ((D.l [[D.i (↑i : Int)]]).sub 0 (0 + 1)).len = (lsD st j).len ∧ st = st ∧ List.map (fun (j : Nat) => [D.i (↑j : Int)]) (List.filter (fun (j : Nat) => hasR st (↑j : Int)) (List.range i)) ++ List.drop 0 (List.take (0 + 1) [[D.i (↑i : Int)]]) = List.map (fun (j : Nat) => [D.i (↑j : Int)]) (List.filter (fun (j : Nat) => hasR st (↑j : Int)) (List.range j))) ∧ (hasR st (↑i : Int) = false → ∃ (j : Nat), j.le 8 ∧ 9 - j < 9 - i ∧ IntKind.i64.wrap ((↑i : Int) + (1 : Int)) = (↑j : Int) ∧ (lsD st i).len = (lsD st j).len ∧ st = st ∧ List.map (fun (j : Nat) => [D.i (↑j : Int)]) (List.filter (fun (j : Nat) => hasR st (↑j : Int)) (List.range i)) = List.map (fun (j : Nat) => [D.i (↑j : Int)]) (List.filter (fun (j : Nat) => hasR st (↑j : Int)) (List.range j)))) ∧ (decide ((↑i : Int) < (8 : Int)) = false → nat_lit 0 + (lsD st i).len ≤ (lsD st i).len ∧ List.drop (nat_lit 0) (List.take (nat_lit 0 + (lsD st i).len) (List.map (fun (j : Nat) => [D.i (↑j : Int)]) (List.filter (fun (j : Nat) => hasR st (↑j : Int)) (List.range i)))) = List.map (fun (j : Nat) => [D.i (↑j : Int)]) (List.filter (fun (j : Nat) => hasR st (↑j : Int)) (List.range 8)))) (by kernel_rfl) ?_
    have el : ∀ i (x : List D), (lsD st i).len + ((D.l [x]).sub 0 (0 + 1)).len = (lsD st i).len + 1 := fun _ _ => rfl
    refine ⟨⟨0, Nat.zero_le _, rfl, ?_⟩, fun i hi => ⟨fun x => ⟨fun y => ⟨rfl, ?_, Nat.le_refl 1, i + 1, ?_, (by have hi : i ≤ 8 := hi; omega), wr _ (by have hi : i ≤ 8 := hi; omega), ?_⟩, fun y => ⟨i + 1, ?_, (by have hi : i ≤ 8 := hi; omega), wr _ (by have hi : i ≤ 8 := hi; omega), ?_⟩⟩, fun x => ?_⟩⟩
    · (repeat' apply And.intro) <;> first | rfl | trivial
    · have hl := lsD_len st i
      have hi : i ≤ 8 := hi
      rw [el]; omega
    · have x : (i : Int) < 8 := by simpa using x
      show i + 1 ≤ 8; omega
    · have e := lsD_yes y
      refine ⟨?_, by (repeat' apply And.intro) <;> first | rfl | trivial | exact e.symm⟩
      rw [el]
      show _ = (lsD st (i + 1)).rows.length
      rw [e, List.length_append]; rfl
    · have x : (i : Int) < 8 := by simpa using x
      show i + 1 ≤ 8; omega
    · have e := lsD_no y
      refine ⟨?_, by (repeat' apply And.intro) <;> first | rfl | trivial | exact e.symm⟩
      show (lsD st i).rows.length = (lsD st (i + 1)).rows.length
      rw [e]
    · have x : ¬ (i : Int) < 8 := by simpa using x
      have e : i = 8 := by have : i ≤ 8 := hi; omega
      subst e
      (repeat' apply And.intro) <;> first | rfl | trivial | exact (show 0 + (lsD st 8).len ≤ (lsD st 8).len by simp) | exact full_len rfl
  · trivial
noncomputable def rmoveS : FSpec := fun ds _ => match ds with
  | [.i _kd, .i _size, .i _frm, .i _dst, .i _tags, .d rl, .i a, .i b] => some { val := .tup [.sc (.int .i64 (.sym (mvI rl a b).1)), .sc (.bool (.sym (mvI rl a b).2))], vc := [0 ≤ a] }
  | _ => none
noncomputable def rmoveC : Con := con [chA, iA, iA] rmoveS
theorem rmove_ok : ConOK Tryz.prog 115 rmoveC := by
  refine fn_ob tt_ok mixed Tryz.func115 rfl (fun _ _ => by kernel_rfl) (A := fun ds => ⟨fun _ => Cons.of [(135, isstC)], fun _ => none, fun _ => none⟩) (fun _ _ => (cons_cons isst_ok cons_nil)) (by kernel_rfl) ?_
  intro ds fr
  unfold rmoveS
  split
  · rename_i _kd _size _frm _dst _tags rl a b
    refine kmp (q := (0 : Int) ≤ a → ((decide (a ≥ (↑rl.len : Int)) || decide (b < (0 : Int))) = false ∧ True → (0 : Int) ≤ a ∧ a < (↑rl.len : Int)) ∧ ((decide (a ≥ (↑rl.len : Int)) || decide (b < (0 : Int)) || decide (b ≥ (↑(rl.el a.toNat 0).len : Int))) = true → (0 : Int) = (mvI rl a b).fst ∧ false = (mvI rl a b).snd) ∧ ((decide (a ≥ (↑rl.len : Int)) || decide (b < (0 : Int)) || decide (b ≥ (↑(rl.el a.toNat 0).len : Int))) = false → ((0 : Int) ≤ a ∧ a < (↑rl.len : Int)) ∧ ((0 : Int) ≤ b ∧ b < (↑(rl.el a.toNat 0).len : Int)) ∧ ((rl.el a.toNat 0).el b.toNat 0).toI = (mvI rl a b).fst ∧ isSt ((rl.el a.toNat 0).el b.toNat 0).toI = (mvI rl a b).snd)) (by kernel_rfl) ?_
    intro ha
    refine ⟨fun h => ?_, fun h => ?_, fun h => ?_⟩
    · have h := h.1
      simp only [Bool.or_eq_false_iff, decide_eq_false_iff_not] at h
      omega
    · unfold mvI
      rw [if_pos h]; exact ⟨rfl, rfl⟩
    · have h2 := h
      simp only [Bool.or_eq_false_iff, decide_eq_false_iff_not] at h2
      unfold mvI
      rw [if_neg (by rw [h]; simp)]
      exact ⟨by omega, by omega, rfl, rfl⟩
  · trivial
end Go.Proofs.YtlgmofjjjhbgkaaGreat.Sx.Z
