/-
  queue.None: of one to four tags.; queue.None, each, Join, Widen; the law's From.; The reference's calls on channels; the law's From and to.; queue.Tags; the law's own example.; trans: receive, pass over a Recv, with rows of his own.; rule: Start, Has, List, move.; Trees of expressions: out of data, and back.; eval.Linear.; The laws' Tame, and their copy of a tree.; The reference's Linear; trees that Tame tells.; Test: those for which a comparison holds.; ItvTests: plain mathematics: where a comparison holds, told by its ends.; Plain mathematics of products, quotients and rests of two Itvs.
-/
import Derived.Test.YtlgmofjjjhbgkaaGreatJt17
import Derived.Test.YtlgmofjjjhbgkaaGreatJt15
import Derived.Test.YtlgmofjjjhbgkaaGreatJt13
import Derived.Laws.Bits64
import Derived.RegionTactic
namespace Go.Proofs.YtlgmofjjjhbgkaaGreat
open Go.RowKit
/-- An Elem that is told: how many messages, and a row of one's own of so many Itvs. -/
def ElemOut (w : World) (l h : Int) (xs : List (Int × Int)) (e : Ending) (w' : World) : Prop := ∃ g cap, e = .returned (.agg #[.int .i64 l, .int .i64 h, .slice (some ⟨g, 0, none⟩) xs.length cap]) ∧ ElemAt w' w.heap.size 53 g cap xs ∧ Below w.heap.size w w'
theorem elem_base {W : World} {b b' : Nat} {t : TypeId} {g cap : Nat} {xs : List (Int × Int)} (h : ElemAt W b' t g cap xs) (hb : b ≤ b') : ElemAt W b t g cap xs := by
  refine ⟨h.1, ?_⟩
  rcases h.2 with h0 | ⟨g', cap', cur, e, hg, h1⟩
  · exact .inl h0
  · exact .inr ⟨g', cap', cur, e, Nat.le_trans hb hg, h1⟩
theorem elem_same {W W' : World} {b : Nat} {t : TypeId} {g cap : Nat} {xs : List (Int × Int)} (h : ElemAt W b t g cap xs) (hk : ∀ x, W.heap[g]? = some x → W'.heap[g]? = some x) : ElemAt W' b t g cap xs := own_same h hk
theorem elem_ge {W : World} {b : Nat} {t : TypeId} {g cap : Nat} {xs : List (Int × Int)} (h : ElemAt W b t g cap xs) : b ≤ g ∧ g < W.heap.size := h.lt g rfl
set_option maxRecDepth 100000 in
set_option maxHeartbeats 2000000 in
theorem none_1 (ck cs cf ct : Int) (R : Option Addr) (rn rc : Nat) (w : World) :
    Calls Tryz.prog 14 #[.agg #[.int .i64 ck, .int .i64 cs, .int .i64 cf, .int .i64 ct, .int .i64 1, .slice R rn rc]] w (ElemOut w 0 0 (List.replicate 1 (1, 0))) := by
  have c0 := Lib.hid (fun W => const_in 0 W (by decide) (by decide))
  go_enter Tryz.func14, Tryz.ntmps14
  go_upto_region 1 with fail
  refine wp_world (fun W => W.heap[w.heap.size]? = some (.cells #[.int .i64 ck, .int .i64 cs, .int .i64 cf, .int .i64 ct, .int .i64 1, .slice R rn rc] 73 (0, 0)) ∧ W.heap[w.heap.size + 1]? = some (.cells #[.int .i64 0, .int .i64 0, .slice none 0 0] 75 (0, 0)) ∧ Below w.heap.size w W) ⟨blkUp (blkA _ _ (by first | rfl | simp only [World.size_alloc])) _, blkA _ _ (by first | rfl | simp only [World.size_alloc]), ((Below.refl _ _).alloc (by first | exact Nat.le_refl _ | (simp only [World.size_alloc]; omega)) _).alloc (by first | exact Nat.le_refl _ | (simp only [World.size_alloc]; omega)) _⟩ ?_
  rintro w1 ⟨k0, k1, hB⟩
  have r0 := row_of k0
  have f0 := frozen_of k0
  have z0 := blk_lt k0
  have r1 := row_of k1
  have f1 := frozen_of k1
  have z1 := blk_lt k1
  go_wp2_with fail
  refine (c0.out _).mono ?_
  rintro e w2 ⟨rfl, hb⟩
  replace k0 := blk_keep hb k0
  replace k1 := blk_keep hb k1
  replace hB := hB.trans (hb.mono hB.size)
  clear r0 f0 z0 r1 f1 z1
  clear hb
  have r0 := row_of k0
  have f0 := frozen_of k0
  have z0 := blk_lt k0
  have r1 := row_of k1
  have f1 := frozen_of k1
  have z1 := blk_lt k1
  go_upto_region 2 with fail
  have hz1_0 : w.heap.size < w2.heap.size := blk_lt k0
  have hz1_1 : w.heap.size + 1 < w2.heap.size := blk_lt k1
  refine wp_world (fun W => W.heap[w.heap.size]? = some (.cells #[.int .i64 ck, .int .i64 cs, .int .i64 cf, .int .i64 ct, .int .i64 1, .slice R rn rc] 73 (0, 0)) ∧ W.heap[w.heap.size + 1]? = some (.cells #[.int .i64 0, .int .i64 0, .slice none 0 0] 75 (0, 0)) ∧ W.heap[w2.heap.size]? = some (.cells #[.int .i64 0, .int .i64 0, .slice none 0 0] 75 (0, 0)) ∧ Below w.heap.size w W) ⟨blkUp (k0) _, blkUp (k1) _, blkA _ _ (by first | rfl | simp only [World.size_alloc]), (hB).alloc (by first | exact hB.size | (simp only [World.size_alloc]; omega)) _⟩ ?_
  clear r0 f0 z0 r1 f1 z1
  clear hB k0 k1
  rintro w3 ⟨k0, k1, k2, hB⟩
  have r0 := row_of k0
  have f0 := frozen_of k0
  have z0 := blk_lt k0
  have r1 := row_of k1
  have f1 := frozen_of k1
  have z1 := blk_lt k1
  have r2 := row_of k2
  have f2 := frozen_of k2
  have z2 := blk_lt k2
  go_upto_region 3 with fail
  clear r0 f0 z0 r1 f1 z1 r2 f2 z2
  have tn0 : w.heap.size + 1 < w2.heap.size := by omega
  replace hB := hB.drew
  have s0 : w3.drew.heap[w.heap.size]? = some (.cells #[.int .i64 ck, .int .i64 cs, .int .i64 cf, .int .i64 ct, .int .i64 1, .slice R rn rc] 73 (0, 0)) := k0
  have s1 : w3.drew.heap[w.heap.size + 1]? = some (.cells #[.int .i64 0, .int .i64 0, .slice none 0 0] 75 (0, 0)) := k1
  have s2 : w3.drew.heap[w2.heap.size]? = some (.cells #[.int .i64 0, .int .i64 0, .slice none 0 0] 75 (0, 0)) := k2
  clear k0 k1 k2
  have hS0 : w3.drew.cell? ⟨w.heap.size, 4, none⟩ = some (.int .i64 1) := row_of s0 4
  go_region_held3 (fun W => W.cell? ⟨w.heap.size, 4, none⟩ = some (.int .i64 1))
      (first | assumption | exact hS0 | exact row_of s0 4 | exact row_of (blkUp s0 _) 4 | exact (row_of (blk_set s0 (by omega)) 4))
      (first
        | (go_at_call 37; (with_reducible refine (none_any _).mono ?_); rintro e wn ⟨rfl, hbS⟩; replace s0 := blk_keep hbS s0; replace s1 := blk_keep hbS s1; replace s2 := blk_keep hbS s2; replace hB := hB.trans (hbS.mono hB.size); have hS1 : wn.cell? ⟨w.heap.size, 4, none⟩ = some (.int .i64 1) := row_of s0 4)
        | (go_at_call 36; refine (repeat_1 _ _ (blkA _ _ rfl)).mono ?_; rintro e wm ⟨gg, rfl, hE, hbS⟩; replace s0 := blk_keep hbS (blkUp s0 _); replace s1 := blk_keep hbS (blkUp s1 _); have t2 := blk_lt s2; replace s2 := blk_keep hbS (blkUp s2 _); replace hB := (hB.alloc hB.size _).trans (hbS.mono (Nat.le_trans hB.size (by simp only [World.size_alloc]; omega))); have hS2 : wm.cell? ⟨w.heap.size, 4, none⟩ = some (.int .i64 1) := row_of s0 4; have r2 := row_of s2; have f2 := frozen_of s2; have z2 := blk_lt s2; have r1 := row_of s1; have f1 := frozen_of s1; have z1 := blk_lt s1; have tn : w.heap.size + 1 < w2.heap.size := tn0; have hE2 := Lib.hid (elem_base hE (show w2.heap.size + 1 ≤ _ by simp only [World.size_alloc]; omega)); clear hE))
  go_wp2_with fail
  generalize hWF : (World.setCell (World.setCell (World.setCell (World.setCell _ _ _) _ _) _ _) _ _) = WF
  obtain ⟨kF, kO, bF, _⟩ := put3 (blk_set s1 (by omega)) _ _ _ hWF.symm
  clear hWF r1 f1 r2 f2
  have rF := row_of kF
  have q := elem_ge hE2.out
  exact bodyPost_ret (v := .agg #[.int .i64 0, .int .i64 0, .slice (some ⟨gg, 0, none⟩) 1 1]) (by simp [results, Tryz.results14, go_sem, rF]) rfl ⟨gg, 1, rfl, elem_base (elem_same hE2.out (fun x hx => kO _ x (by omega) (blk_set hx (by omega)))) (by omega), (hB.setCell (p := ⟨w2.heap.size, 2, none⟩) (by show w.heap.size ≤ w2.heap.size; omega) _).trans (bF _ (by omega))⟩
set_option maxRecDepth 100000 in
set_option maxHeartbeats 2000000 in
theorem none_2 (ck cs cf ct : Int) (R : Option Addr) (rn rc : Nat) (w : World) :
    Calls Tryz.prog 14 #[.agg #[.int .i64 ck, .int .i64 cs, .int .i64 cf, .int .i64 ct, .int .i64 2, .slice R rn rc]] w (ElemOut w 0 0 (List.replicate 2 (1, 0))) := by
  have c0 := Lib.hid (fun W => const_in 0 W (by decide) (by decide))
  go_enter Tryz.func14, Tryz.ntmps14
  go_upto_region 1 with fail
  refine wp_world (fun W => W.heap[w.heap.size]? = some (.cells #[.int .i64 ck, .int .i64 cs, .int .i64 cf, .int .i64 ct, .int .i64 2, .slice R rn rc] 73 (0, 0)) ∧ W.heap[w.heap.size + 1]? = some (.cells #[.int .i64 0, .int .i64 0, .slice none 0 0] 75 (0, 0)) ∧ Below w.heap.size w W) ⟨blkUp (blkA _ _ (by first | rfl | simp only [World.size_alloc])) _, blkA _ _ (by first | rfl | simp only [World.size_alloc]), ((Below.refl _ _).alloc (by first | exact Nat.le_refl _ | (simp only [World.size_alloc]; omega)) _).alloc (by first | exact Nat.le_refl _ | (simp only [World.size_alloc]; omega)) _⟩ ?_
  rintro w1 ⟨k0, k1, hB⟩
  have r0 := row_of k0
  have f0 := frozen_of k0
  have z0 := blk_lt k0
  have r1 := row_of k1
  have f1 := frozen_of k1
  have z1 := blk_lt k1
  go_wp2_with fail
  refine (c0.out _).mono ?_
  rintro e w2 ⟨rfl, hb⟩
  replace k0 := blk_keep hb k0
  replace k1 := blk_keep hb k1
  replace hB := hB.trans (hb.mono hB.size)
  clear r0 f0 z0 r1 f1 z1
  clear hb
  have r0 := row_of k0
  have f0 := frozen_of k0
  have z0 := blk_lt k0
  have r1 := row_of k1
  have f1 := frozen_of k1
  have z1 := blk_lt k1
  go_upto_region 2 with fail
  have hz1_0 : w.heap.size < w2.heap.size := blk_lt k0
  have hz1_1 : w.heap.size + 1 < w2.heap.size := blk_lt k1
  refine wp_world (fun W => W.heap[w.heap.size]? = some (.cells #[.int .i64 ck, .int .i64 cs, .int .i64 cf, .int .i64 ct, .int .i64 2, .slice R rn rc] 73 (0, 0)) ∧ W.heap[w.heap.size + 1]? = some (.cells #[.int .i64 0, .int .i64 0, .slice none 0 0] 75 (0, 0)) ∧ W.heap[w2.heap.size]? = some (.cells #[.int .i64 0, .int .i64 0, .slice none 0 0] 75 (0, 0)) ∧ Below w.heap.size w W) ⟨blkUp (k0) _, blkUp (k1) _, blkA _ _ (by first | rfl | simp only [World.size_alloc]), (hB).alloc (by first | exact hB.size | (simp only [World.size_alloc]; omega)) _⟩ ?_
  clear r0 f0 z0 r1 f1 z1
  clear hB k0 k1
  rintro w3 ⟨k0, k1, k2, hB⟩
  have r0 := row_of k0
  have f0 := frozen_of k0
  have z0 := blk_lt k0
  have r1 := row_of k1
  have f1 := frozen_of k1
  have z1 := blk_lt k1
  have r2 := row_of k2
  have f2 := frozen_of k2
  have z2 := blk_lt k2
  go_upto_region 3 with fail
  clear r0 f0 z0 r1 f1 z1 r2 f2 z2
  have tn0 : w.heap.size + 1 < w2.heap.size := by omega
  replace hB := hB.drew
  have s0 : w3.drew.heap[w.heap.size]? = some (.cells #[.int .i64 ck, .int .i64 cs, .int .i64 cf, .int .i64 ct, .int .i64 2, .slice R rn rc] 73 (0, 0)) := k0
  have s1 : w3.drew.heap[w.heap.size + 1]? = some (.cells #[.int .i64 0, .int .i64 0, .slice none 0 0] 75 (0, 0)) := k1
  have s2 : w3.drew.heap[w2.heap.size]? = some (.cells #[.int .i64 0, .int .i64 0, .slice none 0 0] 75 (0, 0)) := k2
  clear k0 k1 k2
  have hS0 : w3.drew.cell? ⟨w.heap.size, 4, none⟩ = some (.int .i64 2) := row_of s0 4
  go_region_held3 (fun W => W.cell? ⟨w.heap.size, 4, none⟩ = some (.int .i64 2))
      (first | assumption | exact hS0 | exact row_of s0 4 | exact row_of (blkUp s0 _) 4 | exact (row_of (blk_set s0 (by omega)) 4))
      (first
        | (go_at_call 37; (with_reducible refine (none_any _).mono ?_); rintro e wn ⟨rfl, hbS⟩; replace s0 := blk_keep hbS s0; replace s1 := blk_keep hbS s1; replace s2 := blk_keep hbS s2; replace hB := hB.trans (hbS.mono hB.size); have hS1 : wn.cell? ⟨w.heap.size, 4, none⟩ = some (.int .i64 2) := row_of s0 4)
        | (go_at_call 36; refine (repeat_2 _ _ (blkA _ _ rfl)).mono ?_; rintro e wm ⟨gg, rfl, hE, hbS⟩; replace s0 := blk_keep hbS (blkUp s0 _); replace s1 := blk_keep hbS (blkUp s1 _); have t2 := blk_lt s2; replace s2 := blk_keep hbS (blkUp s2 _); replace hB := (hB.alloc hB.size _).trans (hbS.mono (Nat.le_trans hB.size (by simp only [World.size_alloc]; omega))); have hS2 : wm.cell? ⟨w.heap.size, 4, none⟩ = some (.int .i64 2) := row_of s0 4; have r2 := row_of s2; have f2 := frozen_of s2; have z2 := blk_lt s2; have r1 := row_of s1; have f1 := frozen_of s1; have z1 := blk_lt s1; have tn : w.heap.size + 1 < w2.heap.size := tn0; have hE2 := Lib.hid (elem_base hE (show w2.heap.size + 1 ≤ _ by simp only [World.size_alloc]; omega)); clear hE))
  go_wp2_with fail
  generalize hWF : (World.setCell (World.setCell (World.setCell (World.setCell _ _ _) _ _) _ _) _ _) = WF
  obtain ⟨kF, kO, bF, _⟩ := put3 (blk_set s1 (by omega)) _ _ _ hWF.symm
  clear hWF r1 f1 r2 f2
  have rF := row_of kF
  have q := elem_ge hE2.out
  exact bodyPost_ret (v := .agg #[.int .i64 0, .int .i64 0, .slice (some ⟨gg, 0, none⟩) 2 2]) (by simp [results, Tryz.results14, go_sem, rF]) rfl ⟨gg, 2, rfl, elem_base (elem_same hE2.out (fun x hx => kO _ x (by omega) (blk_set hx (by omega)))) (by omega), (hB.setCell (p := ⟨w2.heap.size, 2, none⟩) (by show w.heap.size ≤ w2.heap.size; omega) _).trans (bF _ (by omega))⟩
set_option maxRecDepth 100000 in
set_option maxHeartbeats 2000000 in
theorem none_3 (ck cs cf ct : Int) (R : Option Addr) (rn rc : Nat) (w : World) :
    Calls Tryz.prog 14 #[.agg #[.int .i64 ck, .int .i64 cs, .int .i64 cf, .int .i64 ct, .int .i64 3, .slice R rn rc]] w (ElemOut w 0 0 (List.replicate 3 (1, 0))) := by
  have c0 := Lib.hid (fun W => const_in 0 W (by decide) (by decide))
  go_enter Tryz.func14, Tryz.ntmps14
  go_upto_region 1 with fail
  refine wp_world (fun W => W.heap[w.heap.size]? = some (.cells #[.int .i64 ck, .int .i64 cs, .int .i64 cf, .int .i64 ct, .int .i64 3, .slice R rn rc] 73 (0, 0)) ∧ W.heap[w.heap.size + 1]? = some (.cells #[.int .i64 0, .int .i64 0, .slice none 0 0] 75 (0, 0)) ∧ Below w.heap.size w W) ⟨blkUp (blkA _ _ (by first | rfl | simp only [World.size_alloc])) _, blkA _ _ (by first | rfl | simp only [World.size_alloc]), ((Below.refl _ _).alloc (by first | exact Nat.le_refl _ | (simp only [World.size_alloc]; omega)) _).alloc (by first | exact Nat.le_refl _ | (simp only [World.size_alloc]; omega)) _⟩ ?_
  rintro w1 ⟨k0, k1, hB⟩
  have r0 := row_of k0
  have f0 := frozen_of k0
  have z0 := blk_lt k0
  have r1 := row_of k1
  have f1 := frozen_of k1
  have z1 := blk_lt k1
  go_wp2_with fail
  refine (c0.out _).mono ?_
  rintro e w2 ⟨rfl, hb⟩
  replace k0 := blk_keep hb k0
  replace k1 := blk_keep hb k1
  replace hB := hB.trans (hb.mono hB.size)
  clear r0 f0 z0 r1 f1 z1
  clear hb
  have r0 := row_of k0
  have f0 := frozen_of k0
  have z0 := blk_lt k0
  have r1 := row_of k1
  have f1 := frozen_of k1
  have z1 := blk_lt k1
  go_upto_region 2 with fail
  have hz1_0 : w.heap.size < w2.heap.size := blk_lt k0
  have hz1_1 : w.heap.size + 1 < w2.heap.size := blk_lt k1
  refine wp_world (fun W => W.heap[w.heap.size]? = some (.cells #[.int .i64 ck, .int .i64 cs, .int .i64 cf, .int .i64 ct, .int .i64 3, .slice R rn rc] 73 (0, 0)) ∧ W.heap[w.heap.size + 1]? = some (.cells #[.int .i64 0, .int .i64 0, .slice none 0 0] 75 (0, 0)) ∧ W.heap[w2.heap.size]? = some (.cells #[.int .i64 0, .int .i64 0, .slice none 0 0] 75 (0, 0)) ∧ Below w.heap.size w W) ⟨blkUp (k0) _, blkUp (k1) _, blkA _ _ (by first | rfl | simp only [World.size_alloc]), (hB).alloc (by first | exact hB.size | (simp only [World.size_alloc]; omega)) _⟩ ?_
  clear r0 f0 z0 r1 f1 z1
  clear hB k0 k1
  rintro w3 ⟨k0, k1, k2, hB⟩
  have r0 := row_of k0
  have f0 := frozen_of k0
  have z0 := blk_lt k0
  have r1 := row_of k1
  have f1 := frozen_of k1
  have z1 := blk_lt k1
  have r2 := row_of k2
  have f2 := frozen_of k2
  have z2 := blk_lt k2
  go_upto_region 3 with fail
  clear r0 f0 z0 r1 f1 z1 r2 f2 z2
  have tn0 : w.heap.size + 1 < w2.heap.size := by omega
  replace hB := hB.drew
  have s0 : w3.drew.heap[w.heap.size]? = some (.cells #[.int .i64 ck, .int .i64 cs, .int .i64 cf, .int .i64 ct, .int .i64 3, .slice R rn rc] 73 (0, 0)) := k0
  have s1 : w3.drew.heap[w.heap.size + 1]? = some (.cells #[.int .i64 0, .int .i64 0, .slice none 0 0] 75 (0, 0)) := k1
  have s2 : w3.drew.heap[w2.heap.size]? = some (.cells #[.int .i64 0, .int .i64 0, .slice none 0 0] 75 (0, 0)) := k2
  clear k0 k1 k2
  have hS0 : w3.drew.cell? ⟨w.heap.size, 4, none⟩ = some (.int .i64 3) := row_of s0 4
  go_region_held3 (fun W => W.cell? ⟨w.heap.size, 4, none⟩ = some (.int .i64 3))
      (first | assumption | exact hS0 | exact row_of s0 4 | exact row_of (blkUp s0 _) 4 | exact (row_of (blk_set s0 (by omega)) 4))
      (first
        | (go_at_call 37; (with_reducible refine (none_any _).mono ?_); rintro e wn ⟨rfl, hbS⟩; replace s0 := blk_keep hbS s0; replace s1 := blk_keep hbS s1; replace s2 := blk_keep hbS s2; replace hB := hB.trans (hbS.mono hB.size); have hS1 : wn.cell? ⟨w.heap.size, 4, none⟩ = some (.int .i64 3) := row_of s0 4)
        | (go_at_call 36; refine (repeat_3 _ _ (blkA _ _ rfl)).mono ?_; rintro e wm ⟨gg, rfl, hE, hbS⟩; replace s0 := blk_keep hbS (blkUp s0 _); replace s1 := blk_keep hbS (blkUp s1 _); have t2 := blk_lt s2; replace s2 := blk_keep hbS (blkUp s2 _); replace hB := (hB.alloc hB.size _).trans (hbS.mono (Nat.le_trans hB.size (by simp only [World.size_alloc]; omega))); have hS2 : wm.cell? ⟨w.heap.size, 4, none⟩ = some (.int .i64 3) := row_of s0 4; have r2 := row_of s2; have f2 := frozen_of s2; have z2 := blk_lt s2; have r1 := row_of s1; have f1 := frozen_of s1; have z1 := blk_lt s1; have tn : w.heap.size + 1 < w2.heap.size := tn0; have hE2 := Lib.hid (elem_base hE (show w2.heap.size + 1 ≤ _ by simp only [World.size_alloc]; omega)); clear hE))
  go_wp2_with fail
  generalize hWF : (World.setCell (World.setCell (World.setCell (World.setCell _ _ _) _ _) _ _) _ _) = WF
  obtain ⟨kF, kO, bF, _⟩ := put3 (blk_set s1 (by omega)) _ _ _ hWF.symm
  clear hWF r1 f1 r2 f2
  have rF := row_of kF
  have q := elem_ge hE2.out
  exact bodyPost_ret (v := .agg #[.int .i64 0, .int .i64 0, .slice (some ⟨gg, 0, none⟩) 3 3]) (by simp [results, Tryz.results14, go_sem, rF]) rfl ⟨gg, 3, rfl, elem_base (elem_same hE2.out (fun x hx => kO _ x (by omega) (blk_set hx (by omega)))) (by omega), (hB.setCell (p := ⟨w2.heap.size, 2, none⟩) (by show w.heap.size ≤ w2.heap.size; omega) _).trans (bF _ (by omega))⟩
set_option maxRecDepth 100000 in
set_option maxHeartbeats 2000000 in
theorem none_4 (ck cs cf ct : Int) (R : Option Addr) (rn rc : Nat) (w : World) :
    Calls Tryz.prog 14 #[.agg #[.int .i64 ck, .int .i64 cs, .int .i64 cf, .int .i64 ct, .int .i64 4, .slice R rn rc]] w (ElemOut w 0 0 (List.replicate 4 (1, 0))) := by
  have c0 := Lib.hid (fun W => const_in 0 W (by decide) (by decide))
  go_enter Tryz.func14, Tryz.ntmps14
  go_upto_region 1 with fail
  refine wp_world (fun W => W.heap[w.heap.size]? = some (.cells #[.int .i64 ck, .int .i64 cs, .int .i64 cf, .int .i64 ct, .int .i64 4, .slice R rn rc] 73 (0, 0)) ∧ W.heap[w.heap.size + 1]? = some (.cells #[.int .i64 0, .int .i64 0, .slice none 0 0] 75 (0, 0)) ∧ Below w.heap.size w W) ⟨blkUp (blkA _ _ (by first | rfl | simp only [World.size_alloc])) _, blkA _ _ (by first | rfl | simp only [World.size_alloc]), ((Below.refl _ _).alloc (by first | exact Nat.le_refl _ | (simp only [World.size_alloc]; omega)) _).alloc (by first | exact Nat.le_refl _ | (simp only [World.size_alloc]; omega)) _⟩ ?_
  rintro w1 ⟨k0, k1, hB⟩
  have r0 := row_of k0
  have f0 := frozen_of k0
  have z0 := blk_lt k0
  have r1 := row_of k1
  have f1 := frozen_of k1
  have z1 := blk_lt k1
  go_wp2_with fail
  refine (c0.out _).mono ?_
  rintro e w2 ⟨rfl, hb⟩
  replace k0 := blk_keep hb k0
  replace k1 := blk_keep hb k1
  replace hB := hB.trans (hb.mono hB.size)
  clear r0 f0 z0 r1 f1 z1
  clear hb
  have r0 := row_of k0
  have f0 := frozen_of k0
  have z0 := blk_lt k0
  have r1 := row_of k1
  have f1 := frozen_of k1
  have z1 := blk_lt k1
  go_upto_region 2 with fail
  have hz1_0 : w.heap.size < w2.heap.size := blk_lt k0
  have hz1_1 : w.heap.size + 1 < w2.heap.size := blk_lt k1
  refine wp_world (fun W => W.heap[w.heap.size]? = some (.cells #[.int .i64 ck, .int .i64 cs, .int .i64 cf, .int .i64 ct, .int .i64 4, .slice R rn rc] 73 (0, 0)) ∧ W.heap[w.heap.size + 1]? = some (.cells #[.int .i64 0, .int .i64 0, .slice none 0 0] 75 (0, 0)) ∧ W.heap[w2.heap.size]? = some (.cells #[.int .i64 0, .int .i64 0, .slice none 0 0] 75 (0, 0)) ∧ Below w.heap.size w W) ⟨blkUp (k0) _, blkUp (k1) _, blkA _ _ (by first | rfl | simp only [World.size_alloc]), (hB).alloc (by first | exact hB.size | (simp only [World.size_alloc]; omega)) _⟩ ?_
  clear r0 f0 z0 r1 f1 z1
  clear hB k0 k1
  rintro w3 ⟨k0, k1, k2, hB⟩
  have r0 := row_of k0
  have f0 := frozen_of k0
  have z0 := blk_lt k0
  have r1 := row_of k1
  have f1 := frozen_of k1
  have z1 := blk_lt k1
  have r2 := row_of k2
  have f2 := frozen_of k2
  have z2 := blk_lt k2
  go_upto_region 3 with fail
  clear r0 f0 z0 r1 f1 z1 r2 f2 z2
  have tn0 : w.heap.size + 1 < w2.heap.size := by omega
  replace hB := hB.drew
  have s0 : w3.drew.heap[w.heap.size]? = some (.cells #[.int .i64 ck, .int .i64 cs, .int .i64 cf, .int .i64 ct, .int .i64 4, .slice R rn rc] 73 (0, 0)) := k0
  have s1 : w3.drew.heap[w.heap.size + 1]? = some (.cells #[.int .i64 0, .int .i64 0, .slice none 0 0] 75 (0, 0)) := k1
  have s2 : w3.drew.heap[w2.heap.size]? = some (.cells #[.int .i64 0, .int .i64 0, .slice none 0 0] 75 (0, 0)) := k2
  clear k0 k1 k2
  have hS0 : w3.drew.cell? ⟨w.heap.size, 4, none⟩ = some (.int .i64 4) := row_of s0 4
  go_region_held3 (fun W => W.cell? ⟨w.heap.size, 4, none⟩ = some (.int .i64 4))
      (first | assumption | exact hS0 | exact row_of s0 4 | exact row_of (blkUp s0 _) 4 | exact (row_of (blk_set s0 (by omega)) 4))
      (first
        | (go_at_call 37; (with_reducible refine (none_any _).mono ?_); rintro e wn ⟨rfl, hbS⟩; replace s0 := blk_keep hbS s0; replace s1 := blk_keep hbS s1; replace s2 := blk_keep hbS s2; replace hB := hB.trans (hbS.mono hB.size); have hS1 : wn.cell? ⟨w.heap.size, 4, none⟩ = some (.int .i64 4) := row_of s0 4)
        | (go_at_call 36; refine (repeat_4 _ _ (blkA _ _ rfl)).mono ?_; rintro e wm ⟨gg, rfl, hE, hbS⟩; replace s0 := blk_keep hbS (blkUp s0 _); replace s1 := blk_keep hbS (blkUp s1 _); have t2 := blk_lt s2; replace s2 := blk_keep hbS (blkUp s2 _); replace hB := (hB.alloc hB.size _).trans (hbS.mono (Nat.le_trans hB.size (by simp only [World.size_alloc]; omega))); have hS2 : wm.cell? ⟨w.heap.size, 4, none⟩ = some (.int .i64 4) := row_of s0 4; have r2 := row_of s2; have f2 := frozen_of s2; have z2 := blk_lt s2; have r1 := row_of s1; have f1 := frozen_of s1; have z1 := blk_lt s1; have tn : w.heap.size + 1 < w2.heap.size := tn0; have hE2 := Lib.hid (elem_base hE (show w2.heap.size + 1 ≤ _ by simp only [World.size_alloc]; omega)); clear hE))
  go_wp2_with fail
  generalize hWF : (World.setCell (World.setCell (World.setCell (World.setCell _ _ _) _ _) _ _) _ _) = WF
  obtain ⟨kF, kO, bF, _⟩ := put3 (blk_set s1 (by omega)) _ _ _ hWF.symm
  clear hWF r1 f1 r2 f2
  have rF := row_of kF
  have q := elem_ge hE2.out
  exact bodyPost_ret (v := .agg #[.int .i64 0, .int .i64 0, .slice (some ⟨gg, 0, none⟩) 4 4]) (by simp [results, Tryz.results14, go_sem, rF]) rfl ⟨gg, 4, rfl, elem_base (elem_same hE2.out (fun x hx => kO _ x (by omega) (blk_set hx (by omega)))) (by omega), (hB.setCell (p := ⟨w2.heap.size, 2, none⟩) (by show w.heap.size ≤ w2.heap.size; omega) _).trans (bF _ (by omega))⟩
end Go.Proofs.YtlgmofjjjhbgkaaGreat
namespace Go.Proofs.YtlgmofjjjhbgkaaGreat.Sx.Z
open Go.RowKit
noncomputable def qnoneS : FSpec := fun ds _ => match ds with
  | [.i _kd, .i _size, .i _frm, .i _dst, .i tags, .d _rl] => some { val := .one (.agg [.c (.int .i64 (.lit 0)), .c (.int .i64 (.lit 0)), .c (.rows 53 (prD tags.toNat (fun _ => (1, 0))))]), vc := [1 ≤ tags ∧ tags ≤ 4] }
  | _ => none
noncomputable def qnoneC : Con := con [chA] qnoneS
theorem rows_slice {fz : Fz} {e : TypeId} {d : D} {v : Value} (h : TRel fz (.slice e) d v) : ∃ A n c, v = .slice A n c := by
  generalize hk : K.slice e = k at h
  cases h with
  | int k d => cases hk
  | bool d => cases hk
  | str d => cases hk
  | nil e d h0 => exact ⟨_, _, _, rfl⟩
  | empty e d a c h0 => exact ⟨_, _, _, rfl⟩
  | slice e d b o c u _ _ _ => exact ⟨_, _, _, rfl⟩
theorem none_out {ck cs cf ct tags : Int} (ht : 1 ≤ tags ∧ tags ≤ 4) (R : Option Addr) (rn rc : Nat) (w : World) : Calls Tryz.prog 14 #[.agg #[.int .i64 ck, .int .i64 cs, .int .i64 cf, .int .i64 ct, .int .i64 tags, .slice R rn rc]] w fun e w' => ∃ g cap cur, e = .returned (.agg #[.int .i64 0, .int .i64 0, .slice (some ⟨g, 0, none⟩) tags.toNat cap]) ∧ w.heap.size ≤ g ∧ w'.heap[g]? = some (.cells cur 53 (0, 0)) ∧ tags.toNat ≤ cap ∧ (∀ i, i < tags.toNat → cur[i * 2]? = some (.int .i64 1) ∧ cur[i * 2 + 1]? = some (.int .i64 0)) ∧ Below w.heap.size w w' := by
  have key : ∀ {n : Nat} {e : Ending} {w' : World}, n ≤ 4 → 1 ≤ n → ElemOut w 0 0 (List.replicate n (1, 0)) e w' → ∃ g cap cur, e = .returned (.agg #[.int .i64 0, .int .i64 0, .slice (some ⟨g, 0, none⟩) n cap]) ∧ w.heap.size ≤ g ∧ w'.heap[g]? = some (.cells cur 53 (0, 0)) ∧ n ≤ cap ∧ (∀ i, i < n → cur[i * 2]? = some (.int .i64 1) ∧ cur[i * 2 + 1]? = some (.int .i64 0)) ∧ Below w.heap.size w w' := fun {n e w'} hn4 hn1 h => by
    obtain ⟨g, cap, rfl, hel, hb⟩ := h
    rw [List.length_replicate] at *
    unfold ElemAt at hel
    rw [List.length_replicate] at hel
    obtain ⟨_, h2⟩ := hel
    rcases h2 with ⟨h2, _⟩ | ⟨g', cap', cur, h2, h3, h4, h5, _, h7, h8⟩
    · cases h2
    · obtain ⟨e1, _, e2⟩ := Value.slice.inj h2
      have e1 := Option.some.inj e1
      obtain rfl : g = g' := congrArg Addr.block e1
      subst e2
      refine ⟨g, cap, cur, rfl, h3, h4, h5, fun i hi => ?_, hb⟩
      have at_ : ∀ j u, (Go.Proofs.YtlgmofjjjhbgkaaGreat.cellsOf (List.replicate n ((1 : Int), (0 : Int))))[j]? = some u → cur[j]? = some u := fun j u hj => by
        rw [← h8] at hj
        rw [List.getElem?_take] at hj
        split at hj
        · simpa using hj
        · cases hj
      have : n = 1 ∨ n = 2 ∨ n = 3 ∨ n = 4 := by omega
      rcases this with rfl | rfl | rfl | rfl
      · have : i = 0 := by omega
        subst this; exact ⟨at_ _ _ rfl, at_ _ _ rfl⟩
      · have : i = 0 ∨ i = 1 := by omega
        rcases this with rfl | rfl <;> exact ⟨at_ _ _ rfl, at_ _ _ rfl⟩
      · have : i = 0 ∨ i = 1 ∨ i = 2 := by omega
        rcases this with rfl | rfl | rfl <;> exact ⟨at_ _ _ rfl, at_ _ _ rfl⟩
      · have : i = 0 ∨ i = 1 ∨ i = 2 ∨ i = 3 := by omega
        rcases this with rfl | rfl | rfl | rfl <;> exact ⟨at_ _ _ rfl, at_ _ _ rfl⟩
  have ht' : tags = 1 ∨ tags = 2 ∨ tags = 3 ∨ tags = 4 := by omega
  rcases ht' with rfl | rfl | rfl | rfl
  · exact (none_1 ck cs cf ct R rn rc w).mono fun e w' h => key (n := 1) (by omega) (by omega) h
  · exact (none_2 ck cs cf ct R rn rc w).mono fun e w' h => key (n := 2) (by omega) (by omega) h
  · exact (none_3 ck cs cf ct R rn rc w).mono fun e w' h => key (n := 3) (by omega) (by omega) h
  · exact (none_4 ck cs cf ct R rn rc w).mono fun e w' h => key (n := 4) (by omega) (by omega) h
theorem qnone_ok : ConOK Tryz.prog 14 qnoneC := by
  refine ⟨fun _ _ => by kernel_rfl, fun hp fr args e he hv w0 w ρ vs hw _ ha => ?_, fun _ _ _ _ h => nomatch (con_jf _ _ _ _ _).symm.trans h⟩
  unfold qnoneC con at he
  split at he
  · rename_i ds ps hds
    split at he
    · rename_i e1 he1
      unfold qnoneS at he1
      split at he1
      · rename_i kd size frm dst tags rl
        obtain rfl := Option.some.inj he1
        obtain rfl := Option.some.inj he
        obtain ⟨hp1, hp2⟩ := all_append.1 hv
        obtain ⟨svs, h, ρ1, id, hun, _, _, hrel⟩ := unP_spec hw [chA] args _ ps hds hp1 vs ha (ids := keepOwn hp (idsX hp args)) (fun i hi ho => keepOwn_mem.2 ⟨hi, ho⟩) 0
        obtain rfl : svs = _ := (congrArg Prod.fst (Option.some.inj hun)).symm
        have ht : 1 ≤ tags ∧ tags ≤ 4 := hp2.1
        match vs, hrel with
        | [x], ⟨⟨⟨l⟩, hx, hlen, hcs⟩, _⟩ =>
          subst hx
          match l, hlen with
          | [a0, a1, a2, a3, a4, a5], _ =>
            have e0 : a0 = .int .i64 kd := hcs 0 _ a0 rfl rfl
            have e1 : a1 = .int .i64 size := hcs 1 _ a1 rfl rfl
            have e2 : a2 = .int .i64 frm := hcs 2 _ a2 rfl rfl
            have e3 : a3 = .int .i64 dst := hcs 3 _ a3 rfl rfl
            have e4 : a4 = .int .i64 tags := hcs 4 _ a4 rfl rfl
            obtain ⟨R, rn, rc, e5⟩ := rows_slice (show TRel _ (.slice _) rl a5 from hcs 5 _ a5 rfl rfl)
            rw [e0, e1, e2, e3, e4, e5]
            refine (none_out ht R rn rc w).mono ?_
            rintro en w' ⟨g, cap, cur, rfl, hg, hcur, hcap, hcell, hb⟩
            have hgn : ρ.fz g = none := hw.froz.new hg
            refine ⟨{ ρ with fz := fun b => if b = g then some cur else ρ.fz b }, _, rfl, ?_, ⟨⟨fun _ _ h => h, fun _ _ => rfl, fun b cs hb => ?_, rfl, rfl⟩, fun _ _ => rfl, hb.mono (Nat.zero_le _), fun b hlt _ => hb.block b hlt, fun i x hx => ?_, fun i x hx => ?_, fun i j x y hx => ?_, fun b cs hcs => ?_⟩⟩
            · refine ⟨_, rfl, rfl, fun i x v hx hv => ?_⟩
              match i with
              | 0 => obtain rfl := Option.some.inj hx; obtain rfl := Option.some.inj hv; rfl
              | 1 => obtain rfl := Option.some.inj hx; obtain rfl := Option.some.inj hv; rfl
              | 2 =>
                obtain rfl := Option.some.inj hx
                obtain rfl := Option.some.inj hv
                have hl := prD_len tags.toNat (fun _ => (1, 0))
                have hk : eks 53 = [.int .i64, .int .i64] := rfl
                rw [show Value.slice (some ⟨g, 0, none⟩) tags.toNat cap = Value.slice (some ⟨g, 0, none⟩) (prD tags.toNat (fun _ => (1, 0))).len cap by rw [hl]]
                refine .slice _ _ _ _ _ (fun i j => if j = 0 then .int .i64 1 else .int .i64 0) (by omega) (fun i j hi hj => ?_) (fun i j k hi hkk => ?_)
                · have hc := hcell i (by omega)
                  have hj : j = 0 ∨ j = 1 := by have : (eks 53).length = 2 := rfl; omega
                  show Fz.cell (fun b => if b = g then some cur else ρ.fz b) g (0 + i * 2 + j) = _
                  have ef : (fun b => if b = g then some cur else ρ.fz b) g = some cur := if_pos rfl
                  unfold Fz.cell
                  rw [ef]
                  rcases hj with rfl | rfl
                  · rw [Nat.zero_add, Nat.add_zero]; exact hc.1
                  · rw [Nat.zero_add]; exact hc.2
                · have pe := prD_el (n := tags.toNat) (j := i) (by omega) (fun _ => ((1 : Int), (0 : Int)))
                  have p0 : ((prD tags.toNat (fun _ => (1, 0))).el i 0).toI = 1 := congrArg Prod.fst pe
                  have p1 : ((prD tags.toNat (fun _ => (1, 0))).el i 1).toI = 0 := congrArg Prod.snd pe
                  match j with
                  | 0 =>
                    obtain rfl : .int .i64 = k := Option.some.inj hkk
                    have := TRel.int (fz := fun b => if b = g then some cur else ρ.fz b) .i64 ((prD tags.toNat (fun _ => (1, 0))).el i 0)
                    rw [p0] at this
                    exact this
                  | 1 =>
                    obtain rfl : .int .i64 = k := Option.some.inj hkk
                    have := TRel.int (fz := fun b => if b = g then some cur else ρ.fz b) .i64 ((prD tags.toNat (fun _ => (1, 0))).el i 1)
                    rw [p1] at this
                    exact this
                  | j + 2 => cases hkk
              | i + 3 => cases hx
            · show (if b = g then some cur else ρ.fz b) = some cs
              split
              · rename_i hbg; rw [hbg, hgn] at hb; cases hb
              · exact hb
            · rw [(kills_look (show look (kills (keepOwn hp (idsX hp args))) i = some x from hx)).1]; trivial
            · cases hx
            · cases hx
            · have hcs : (if b = g then some cur else ρ.fz b) = some cs := hcs
              split at hcs
              · rename_i hbg
                obtain rfl := Option.some.inj hcs
                rw [hbg]
                exact .inr ⟨.inl hg, ⟨_, _, hcur⟩, fun i x hx => by cases hx⟩
              · exact .inl hcs
      · cases he1
    · cases he
  · cases he
end Go.Proofs.YtlgmofjjjhbgkaaGreat.Sx.Z
namespace Go.Proofs.YtlgmofjjjhbgkaaGreat.Sx.Z
open Go.RowKit
theorem full_len {n : Nat} {r : List (List D)} (hr : r.length = n) : (r.take (0 + n)).drop 0 = r := by rw [Nat.zero_add, List.drop_zero, ← hr, List.take_length]
end Go.Proofs.YtlgmofjjjhbgkaaGreat.Sx.Z
namespace Go.Proofs.YtlgmofjjjhbgkaaGreat.Sx.Z
open Go.RowKit
def tgD (d : D) (k : Nat) : D := .l (((List.range k).filter fun j => !(decide ((pr d j).2 < (pr d j).1))).map fun (j : Nat) => [D.i (j : Int)])
theorem tgD_len (d : D) (k : Nat) : (tgD d k).len ≤ k := by
  show (List.map _ (List.filter _ (List.range k))).length ≤ k
  rw [List.length_map]
  exact Nat.le_trans (List.length_filter_le _ _) (by simp)
theorem tgD_yes {d : D} {k : Nat} (h : ¬ (pr d k).2 < (pr d k).1) : (tgD d (k + 1)).rows = (tgD d k).rows ++ [[D.i k]] := by
  show List.map _ (List.filter _ (List.range (k + 1))) = List.map _ (List.filter _ (List.range k)) ++ _
  rw [List.range_succ, List.filter_append, List.map_append, List.filter_cons, if_pos (by simpa using h)]; rfl
theorem tgD_no {d : D} {k : Nat} (h : (pr d k).2 < (pr d k).1) : (tgD d (k + 1)).rows = (tgD d k).rows := by
  show List.map _ (List.filter _ (List.range (k + 1))) = List.map _ (List.filter _ (List.range k))
  rw [List.range_succ, List.filter_append, List.filter_cons, if_neg (by simpa using h), List.filter_nil, List.append_nil]
noncomputable def qtagsS : FSpec := fun ds _ => match ds with
  | [.i _l, .i _h, .d d] => some { val := .one (.sc (.rows 3 (tgD d d.len))), vc := [d.len ≤ 8796093022208] }
  | _ => none
noncomputable def qtagsC : Con := con [elA] qtagsS
theorem qtags_ok : ConOK Tryz.prog 90 qtagsC := by
  refine fn_ob tt_ok mixed Tryz.func90 rfl (fun _ _ => by kernel_rfl) (A := fun ds => ⟨fun _ => Cons.of [(48, emptyC)], fun k => match k, ds with | 3, [.i l, .i h, .d d] => some { ι := Nat, pre := fun _ k => k ≤ d.len, μ := fun k => d.len + 1 - k, st := fun s k => famR s [(9, .one (.sc (.int .i64 (.sym ((k : Nat)))))), (3, .one (.sc (.osl 3 (s.nx - 1) (.lit 0) (.sym ((tgD d k).len)))))] [1, 2, 7, 8] [(s.nx - 1, .orow 3 (tgD d k))] [1] } | _, _ => none, fun _ => none⟩) (fun _ _ => (cons_cons empty_ok cons_nil)) (by kernel_rfl) ?_
  intro ds fr
  unfold qtagsS
  split
  · rename_i l h d
    refine kmp (q := d.len ≤ 8796093022208 → (∃ (i : Nat), i.le d.len ∧ (0 : Int) = (↑i : Int) ∧ (tgD d i).len = 0 ∧ d.rows = d.rows ∧ (↑d.len : Int) = (↑d.len : Int) ∧ List.map (fun (j : Nat) => [D.i (↑j : Int)]) (List.filter (fun (j : Nat) => !decide ((pr d j).snd < (pr d j).fst)) (List.range i)) = [] ∧ l = l ∧ h = h ∧ d.rows = d.rows) ∧ ∀ (i : Nat), i.le d.len → (decide ((↑i : Int) < (↑d.len : Int)) = true → ((0 : Int) ≤ (↑i : Int) ∧ (↑i : Int) < (↑d.len : Int)) ∧ ((!decide ((d.el (↑i : Int).toNat (0 + 1)).toI < (d.el (↑i : Int).toNat 0).toI)) = true → (tgD d i).len = (tgD d i).len ∧ ((tgD d i).len + ((D.l [[D.i (↑i : Int)]]).sub 0 (0 + 1)).len) * 8 ≤ 140737488355328 ∧ 0 + 1 ≤ (D.l [[D.i (↑i : Int)]]).len ∧ ∃ (j : Nat), j.le d.len ∧ d.len + 1 - j < d.len + 1 - i ∧ IntKind.i64.wrap ((↑i : Int) + (1 : Int)) = (↑j : Int) ∧ (tgD d i).len + ((D.l [[D.i (↑i : Int)]]).sub 0 (0 + 1)).len = (tgD d j).len ∧ d.rows = d.rows ∧ (↑d.len : Int) = (↑d.len : Int) ∧ List.map (fun (j : Nat) => [D.i (↑j : Int)]) (List.filter (fun (j : Nat) => !decide ((pr d j).snd < (pr d j).fst)) (List.range i)) ++ List.drop 0 (List.take (0 + 1) [[D.i (↑i : Int)]]) = List.map (fun (j : Nat) => [D.i (↑j : Int)]) (List.filter (fun (j : Nat) => !decide ((pr d j).snd < (pr d j).fst)) (List.range j)) ∧ l = l ∧ h = h ∧ d.rows = d.rows) ∧ ((!decide ((d.el (↑i : Int).toNat (0 + 1)).toI < (d.el (↑i : Int).toNat 0).toI)) = false → ∃ (j : Nat), j.le d.len ∧ d.len + 1 - j < d.len + 1 - i ∧ IntKind.i64.wrap ((↑i : Int) + (1 : Int)) = (↑j : Int) ∧ (tgD d i).len = (tgD d j).len ∧ d.rows = d.rows ∧ (↑d.len : Int) = (↑d.len : Int) ∧ List.map (fun (j : Nat) => [D.i (↑j : Int)]) (List.filter (fun (j : Nat) => !decide ((pr d j).snd < (pr d j).fst)) (List.range i)) = List.map (fun (j : Nat) => [D.i (↑j : Int)]) (List.filter (fun (j : Nat) => !decide ((pr d j).snd < (pr d j).fst)) (List.range j)) ∧ l = l ∧ h = h ∧ d.rows = d.rows)) ∧ (decide ((↑i : Int) < (↑d.len : Int)) = false → nat_lit 0 + (tgD d i).len ≤ (tgD d i).len ∧ List.drop (nat_lit 0) (List.take (nat_lit 0 + (tgD d i).len) (List.map (fun (j : Nat) => [D.i (↑j : Int)]) (List.filter (fun (j : Nat) => !decide ((pr d j).snd < (pr d j).fst)) (List.range i)))) = List.map (fun (j : Nat) => [D.i (↑j : Int)]) (List.filter (fun (j : Nat) => !decide ((pr d j).snd < (pr d j).fst)) (List.range d.len)))) (by kernel_rfl) ?_
    intro hd
    simp only [Int.toNat_natCast]
    have el : ∀ i (x : List D), (tgD d i).len + ((D.l [x]).sub 0 (0 + 1)).len = (tgD d i).len + 1 := fun _ _ => rfl
    refine ⟨⟨0, Nat.zero_le _, rfl, ?_⟩, fun i hi => ⟨fun x => ?_, fun x => ?_⟩⟩
    · (repeat' apply And.intro) <;> first | rfl | trivial
    · have x : i < d.len := by simpa using x
      have hl := tgD_len d i
      refine ⟨by omega, fun y => ⟨trivial, ?_, Nat.le_refl 1, i + 1, x, by omega, wr _ (by omega), ?_⟩, fun y => ⟨i + 1, x, by omega, wr _ (by omega), ?_⟩⟩
      · rw [el]; omega
      · have y : (!decide ((pr d i).2 < (pr d i).1)) = true := y
        have y : ¬ (pr d i).2 < (pr d i).1 := by simpa using y
        have e := tgD_yes y
        refine ⟨?_, by (repeat' apply And.intro) <;> first | rfl | trivial | exact e.symm⟩
        rw [el]
        show _ = (tgD d (i + 1)).rows.length
        rw [e, List.length_append]; rfl
      · have y : (!decide ((pr d i).2 < (pr d i).1)) = false := y
        have y : (pr d i).2 < (pr d i).1 := by simpa using y
        have e := tgD_no y
        refine ⟨?_, by (repeat' apply And.intro) <;> first | rfl | trivial | exact e.symm⟩
        show (tgD d i).rows.length = (tgD d (i + 1)).rows.length
        rw [e]
    · have x : ¬ i < d.len := by simpa using x
      have e : i = d.len := by have : i ≤ d.len := hi; omega
      subst e
      (repeat' apply And.intro) <;> first | rfl | trivial | omega | exact full_len rfl
  · trivial
end Go.Proofs.YtlgmofjjjhbgkaaGreat.Sx.Z
namespace Go.Proofs.YtlgmofjjjhbgkaaGreat.Sx.Z
open Go.RowKit
def rcvV (d : D) (t : Int) : Int × Int := if plB t d.len = true then ((d.el t.toNat 0).toI, (d.el t.toNat 1).toI) else (1, 0)
def rcvZ (n x : Int) (v : Int × Int) (z : Zs) : Zs := metZ n x v.1 v.2 (fgZ n x z)
def rcvB (ge : D) (ed : Int) (d : D) : Bool := ((outD ge (ge.el ed.toNat 0).toI ge.len).el 0 0).toI == ed && anyF (fun i => strB (outA ge (ge.el ed.toNat 0).toI) (cIn (tgD d d.len) i)) (tgD d d.len).len
noncomputable def nofoS : List Dat → Option Eff := fun ds => match ds with
  | [.i n, .b c, .f f, .i m] => some { val := .one (.agg [.c (.bool (.sym ((c, f) : Zs).1)), .c (.osl 53 0 (.lit 0) (.sym (m.toNat))), .c (.int .i64 (.sym (n))), .c (.bool (.sym ((c, f) : Zs).1)), .ints .i64 (.lit 49) ((c, f) : Zs).2]), vc := [Sm f, 0 ≤ m ∧ m ≤ 1000], nw := [(0, .orow 53 (itD m.toNat n (c, f)))] }
  | _ => none
noncomputable def nofoC : Con := conS [zA, iA] nofoS
theorem nofo_ok : ConOK Tryz.prog 42 nofoC := by
  refine fn_obS tt_ok mixed Tryz.func42 rfl (fun _ _ => by kernel_rfl) (A := fun ds => ⟨fun _ => Cons.of [(72, zitvC)], fun k => match k, ds with | 3, [.i n, .b c, .f f, .i m] => some { ι := Nat, pre := fun _ k => k ≤ m.toNat, μ := fun k => m.toNat + 1 - k, st := fun s k => famR s [(16, .one (.sc (.int .i64 (.sym ((k : Nat))))))] [1, 2, 4, 5, 15] [(idOf s 14, .orow 53 (ofD m.toNat n (c, f) k))] [2, 4, 5] } | _, _ => none, fun _ => none⟩) (fun _ _ => (cons_cons zitv_ok cons_nil)) (by kernel_rfl) ?_
  intro ds
  unfold nofoS
  split
  · rename_i n c f m
    refine kmp (q := Sm f → (0 : Int) ≤ m ∧ m ≤ (1000 : Int) → m = m ∧ (0 : Int) ≤ m ∧ (↑16 : Int) * m ≤ (281474976710656 : Int) ∧ m ≤ (9223372036854775807 : Int) ∧ (∃ (i : Nat), i.le m.toNat ∧ (0 : Int) = (↑i : Int) ∧ m = m ∧ (↑m.toNat : Int) = (↑m.toNat : Int) ∧ List.replicate m.toNat [D.i (0 : Int), D.i (0 : Int)] = List.map (fun (j : Nat) => if j < i then [D.i (itvLo n c f (↑j : Int)), D.i (itvHi n c f (↑j : Int))] else [D.i (0 : Int), D.i (0 : Int)]) (List.range m.toNat) ∧ n = n ∧ c = c ∧ (∀ (o : Nat), o < 49 → f o = f o) ∧ false = false ∧ (0 : Int) = (0 : Int) ∧ false = false ∧ (∀ (o : Nat), o < 49 → (0 : Int) = (0 : Int)) ∧ c = c ∧ m.toNat = m.toNat ∧ n = n ∧ c = c ∧ ∀ (o : Nat), o < 49 → f o = f o) ∧ ∀ (i : Nat), i.le m.toNat → (decide ((↑i : Int) < (↑m.toNat : Int)) = true → Sm f ∧ ((0 : Int) ≤ (↑i : Int) ∧ (↑i : Int) < (↑m.toNat : Int)) ∧ (↑i : Int).toNat < (ofD m.toNat n (c, f) i).len ∧ ∃ (j : Nat), j.le m.toNat ∧ m.toNat + 1 - j < m.toNat + 1 - i ∧ IntKind.i64.wrap ((↑i : Int) + (1 : Int)) = (↑j : Int) ∧ m = m ∧ (↑m.toNat : Int) = (↑m.toNat : Int) ∧ (List.map (fun (j : Nat) => if j < i then [D.i (itvLo n c f (↑j : Int)), D.i (itvHi n c f (↑j : Int))] else [D.i (0 : Int), D.i (0 : Int)]) (List.range m.toNat)).set (↑i : Int).toNat [D.i (itvLo n c f (↑i : Int)), D.i (itvHi n c f (↑i : Int))] = List.map (fun (j_1 : Nat) => if j_1 < j then [D.i (itvLo n c f (↑j_1 : Int)), D.i (itvHi n c f (↑j_1 : Int))] else [D.i (0 : Int), D.i (0 : Int)]) (List.range m.toNat) ∧ n = n ∧ c = c ∧ (∀ (o : Nat), o < 49 → f o = f o) ∧ false = false ∧ (0 : Int) = (0 : Int) ∧ false = false ∧ (∀ (o : Nat), o < 49 → (0 : Int) = (0 : Int)) ∧ c = c ∧ m.toNat = m.toNat ∧ n = n ∧ c = c ∧ ∀ (o : Nat), o < 49 → f o = f o) ∧ (decide ((↑i : Int) < (↑m.toNat : Int)) = false → c = c ∧ m.toNat = m.toNat ∧ n = n ∧ c = c ∧ (∀ (o : Nat), o < 49 → f o = f o) ∧ List.map (fun (j : Nat) => if j < i then [D.i (itvLo n c f (↑j : Int)), D.i (itvHi n c f (↑j : Int))] else [D.i (0 : Int), D.i (0 : Int)]) (List.range m.toNat) = List.map (fun (j : Nat) => [D.i (itvLo n c f (↑j : Int)), D.i (itvHi n c f (↑j : Int))]) (List.range m.toNat))) (by kernel_rfl) ?_
    simp only [true_and, and_true, implies_true, Int.toNat_natCast, decide_eq_true_eq, decide_eq_false_iff_not, Nat.le_eq, and_self]
    intro hs hm
    refine ⟨hm.1, by omega, by omega, ⟨0, Nat.zero_le _, rfl, (ofD_none m.toNat n (c, f)).symm⟩, fun i hi => ⟨fun h => ⟨hs, by omega, by rw [ofD_len]; omega, i + 1, by omega, by omega, wr _ (by omega), ofD_set (by omega) n (c, f)⟩, fun h => ?_⟩⟩
    have e : i = m.toNat := by omega
    subst e
    exact ofD_all m.toNat n (c, f)
  · trivial
noncomputable def nsetoS : List Dat → Option Eff := fun ds => match ds with
  | [.b _c, .d I, .i n, .b e, .f f, .i x, .i lo, .i hi] => some { val := .one (.agg [.c (.bool (.sym (metZ n x lo hi (fgZ n x (e, f)) : Zs).1)), .c (.osl 53 0 (.lit 0) (.sym (I.len))), .c (.int .i64 (.sym (n))), .c (.bool (.sym (metZ n x lo hi (fgZ n x (e, f)) : Zs).1)), .ints .i64 (.lit 49) (metZ n x lo hi (fgZ n x (e, f)) : Zs).2]), vc := [Good n (e, f), I.len ≤ 1000], nw := [(0, .orow 53 (itD I.len n (metZ n x lo hi (fgZ n x (e, f)))))] }
  | _ => none
noncomputable def nsetoC : Con := conS [numA, iA, itvA] nsetoS
theorem nseto_ok : ConOK Tryz.prog 26 nsetoC := by
  refine fn_obS tt_ok mixed Tryz.func26 rfl (fun _ _ => by kernel_rfl) (A := fun ds => ⟨fun _ => Cons.of [(56, forgetC), (55, metC), (42, nofoC)], fun _ => none, fun _ => none⟩) (fun _ _ => (cons_cons forget_ok (cons_cons met_ok (cons_cons nofo_ok cons_nil)))) (by kernel_rfl) ?_
  intro ds
  unfold nsetoS
  split
  · rename_i c I n e f x lo hi
    refine kmp (q := Good n (e, f) → I.len ≤ 1000 → Sm f ∧ Good n (e, forgetF n e f x) ∧ Sm (metZ n x lo hi (e, forgetF n e f x)).snd ∧ ((0 : Int) ≤ (↑I.len : Int) ∧ (↑I.len : Int) ≤ (1000 : Int)) ∧ (metZ n x lo hi (e, forgetF n e f x)).fst = (metZ n x lo hi (fgZ n x (e, f))).fst ∧ (↑I.len : Int).toNat = I.len ∧ n = n ∧ (metZ n x lo hi (e, forgetF n e f x)).fst = (metZ n x lo hi (fgZ n x (e, f))).fst ∧ (∀ (o : Nat), o < 49 → (metZ n x lo hi (e, forgetF n e f x)).snd o = (metZ n x lo hi (fgZ n x (e, f))).snd o) ∧ List.map (fun (j : Nat) => [D.i (itvLo n (metZ n x lo hi (e, forgetF n e f x)).fst (metZ n x lo hi (e, forgetF n e f x)).snd (↑j : Int)), D.i (itvHi n (metZ n x lo hi (e, forgetF n e f x)).fst (metZ n x lo hi (e, forgetF n e f x)).snd (↑j : Int))]) (List.range (↑I.len : Int).toNat) = List.map (fun (j : Nat) => [D.i (itvLo n (metZ n x lo hi (fgZ n x (e, f))).fst (metZ n x lo hi (fgZ n x (e, f))).snd (↑j : Int)), D.i (itvHi n (metZ n x lo hi (fgZ n x (e, f))).fst (metZ n x lo hi (fgZ n x (e, f))).snd (↑j : Int))]) (List.range I.len)) (by kernel_rfl) ?_
    simp only [true_and, Int.toNat_natCast, and_self_left]
    intro h hI
    have g1 := good_fg h x
    have g2 := good_met g1 x lo hi
    exact ⟨h.sm, g1, g2.sm, by omega, rfl, fun _ _ => rfl, rfl⟩
  · trivial
noncomputable def wtellS : List Dat → Option (Eff × List Seg) := fun ds => match ds with
  | [.d ch, .d gr, .d va, .d el, .d df, .i gn, .d ge, .d gh, .i ed, .b c, .d I, .i n, .b e, .f f, .d cn, .d ru, .i sc, .i sg, .i s0, .i s1, .d ks, .i k, .b is] => some ({ val := .tup [], vc := [ks.len ≤ 1000], nw := [(0, .orow 53 (I)), (1, .orow 53 (cn)), (2, .orow 93 (ru)), (3, .orow 3 (kD ks k is))] }, [.c (.rows 73 (ch)), .c (.rows 35 (gr)), .c (.rows 3 (va)), .c (.rows 75 (el)), .c (.rows 4 (df)), .c (.int .i64 (.sym gn)), .c (.rows 31 (ge)), .c (.rows 3 (gh)), .c (.int .i64 (.sym ed)), .c (.bool (.sym c)), .c (.osl 53 0 (.lit 0) (.sym (I.len))), .c (.int .i64 (.sym n)), .c (.bool (.sym e)), .ints .i64 (.lit 49) f, .c (.osl 53 1 (.lit 0) (.sym ((cn).len))), .c (.osl 93 2 (.lit 0) (.sym ((ru).len))), .c (.int .i64 (.sym (sc))), .c (.int .i64 (.sym (sg))), .c (.int .i64 (.sym (s0))), .c (.int .i64 (.sym (s1))), .c (.osl 3 3 (.lit 0) (.sym ((kD ks k is).len)))])
  | _ => none
noncomputable def wtellC : Con := conM 101 [.c (.rows 73), .c (.rows 35), .c (.rows 3), .c (.rows 75), .c (.rows 4), .c (.int .i64), .c (.rows 31), .c (.rows 3), .c (.int .i64), .c .bool, .own 53, .c (.int .i64), .c .bool, .ints .i64 49, .own 53, .own 93, .c (.int .i64), .c (.int .i64), .c (.int .i64), .c (.int .i64), .own 3] [iA, .sc .bool] wtellS
theorem wtell_ok : ConOK Tryz.prog 80 wtellC := by
  refine fn_obM tt_ok mixed Tryz.func80 rfl (fun _ _ => by kernel_rfl) (A := fun ds => ⟨fun _ => Cons.of [], fun _ => none, fun _ => none⟩) (fun _ _ => cons_nil) (by kernel_rfl) ?_
  intro ds
  unfold wtellS
  split
  · rename_i ch gr va el df gn ge gh ed c I n e f cn ru sc sg s0 s1 ks k is
    refine kmp (q := ks.len ≤ 1000 → (is = true → ks.len = ks.len ∧ (ks.len + ((D.l [[D.i k]]).sub 0 (0 + 1)).len) * 8 ≤ 140737488355328 ∧ 0 + 1 ≤ (D.l [[D.i k]]).len ∧ ch.rows = ch.rows ∧ gr.rows = gr.rows ∧ va.rows = va.rows ∧ el.rows = el.rows ∧ df.rows = df.rows ∧ gn = gn ∧ ge.rows = ge.rows ∧ gh.rows = gh.rows ∧ ed = ed ∧ c = c ∧ I.len = I.len ∧ n = n ∧ e = e ∧ (∀ (o : Nat), o < 49 → f o = f o) ∧ cn.len = cn.len ∧ ru.len = ru.len ∧ sc = sc ∧ sg = sg ∧ s0 = s0 ∧ s1 = s1 ∧ ks.len + ((D.l [[D.i k]]).sub 0 (0 + 1)).len = (kD ks k is).len ∧ I.rows = I.rows ∧ cn.rows = cn.rows ∧ ru.rows = ru.rows ∧ ks.rows ++ List.drop 0 (List.take (0 + 1) [[D.i k]]) = (kD ks k is).rows) ∧ (is = false → ch.rows = ch.rows ∧ gr.rows = gr.rows ∧ va.rows = va.rows ∧ el.rows = el.rows ∧ df.rows = df.rows ∧ gn = gn ∧ ge.rows = ge.rows ∧ gh.rows = gh.rows ∧ ed = ed ∧ c = c ∧ I.len = I.len ∧ n = n ∧ e = e ∧ (∀ (o : Nat), o < 49 → f o = f o) ∧ cn.len = cn.len ∧ ru.len = ru.len ∧ sc = sc ∧ sg = sg ∧ s0 = s0 ∧ s1 = s1 ∧ ks.len = (kD ks k is).len ∧ I.rows = I.rows ∧ cn.rows = cn.rows ∧ ru.rows = ru.rows ∧ ks.rows = (kD ks k is).rows)) (by kernel_rfl) ?_
    intro hc
    have hc2 := hc
    have l2 : ((D.l [[D.i k]]).sub 0 (0 + 1)).len = 1 := rfl
    cases is with
    | true =>
      refine ⟨fun _ => ?_, fun h => absurd h (by decide)⟩
      have ek : kD ks k true = D.l (ks.rows ++ [[D.i k]]) := if_pos rfl
      rw [l2, ek]
      have hl : (D.l (ks.rows ++ [[D.i k]])).len = ks.len + 1 := by
        show (ks.rows ++ [[D.i k]]).length = _
        rw [List.length_append]; rfl
      rw [hl]
      (repeat' apply And.intro) <;> first | rfl | omega | (intro _ _; rfl) | exact Nat.le_refl _
    | false =>
      refine ⟨fun h => absurd h (by decide), fun _ => ?_⟩
      have ek : kD ks k false = ks := if_neg (by decide)
      rw [ek]
      (repeat' apply And.intro) <;> first | rfl | (intro _ _; rfl)
  · trivial
noncomputable def welemS : List Dat → Option (Eff × List Seg) := fun ds => match ds with
  | [.d ch, .d gr, .d va, .d el, .d df, .i gn, .d ge, .d gh, .i ed, .b c, .d I, .i n, .b e, .f f, .d cn, .d ru, .i sc, .i sg, .i s0, .i s1, .d ks, .i a] => some ({ val := .one (.agg [.c (.int .i64 (.sym (el.el a.toNat 0).toI)), .c (.int .i64 (.sym (el.el a.toNat 1).toI)), .c (.rows 53 (el.el a.toNat 2))]), vc := [0 ≤ a ∧ a < el.len], nw := [(0, .orow 53 (I)), (1, .orow 53 (cn)), (2, .orow 93 (ru)), (3, .orow 3 (ks))] }, [.c (.rows 73 (ch)), .c (.rows 35 (gr)), .c (.rows 3 (va)), .c (.rows 75 (el)), .c (.rows 4 (df)), .c (.int .i64 (.sym gn)), .c (.rows 31 (ge)), .c (.rows 3 (gh)), .c (.int .i64 (.sym ed)), .c (.bool (.sym c)), .c (.osl 53 0 (.lit 0) (.sym (I.len))), .c (.int .i64 (.sym n)), .c (.bool (.sym e)), .ints .i64 (.lit 49) f, .c (.osl 53 1 (.lit 0) (.sym ((cn).len))), .c (.osl 93 2 (.lit 0) (.sym ((ru).len))), .c (.int .i64 (.sym (sc))), .c (.int .i64 (.sym (sg))), .c (.int .i64 (.sym (s0))), .c (.int .i64 (.sym (s1))), .c (.osl 3 3 (.lit 0) (.sym ((ks).len)))])
  | _ => none
noncomputable def welemC : Con := conM 101 [.c (.rows 73), .c (.rows 35), .c (.rows 3), .c (.rows 75), .c (.rows 4), .c (.int .i64), .c (.rows 31), .c (.rows 3), .c (.int .i64), .c .bool, .own 53, .c (.int .i64), .c .bool, .ints .i64 49, .own 53, .own 93, .c (.int .i64), .c (.int .i64), .c (.int .i64), .c (.int .i64), .own 3] [iA] welemS
theorem welem_ok : ConOK Tryz.prog 88 welemC := by
  refine fn_obM tt_ok mixed Tryz.func88 rfl (fun _ _ => by kernel_rfl) (A := fun ds => ⟨fun _ => Cons.of [], fun _ => none, fun _ => none⟩) (fun _ _ => cons_nil) (by kernel_rfl) ?_
  intro ds
  unfold welemS
  split
  · rename_i ch gr va el df gn ge gh ed c I n e f cn ru sc sg s0 s1 ks a
    refine kmp (q := (0 : Int) ≤ a ∧ a < (↑el.len : Int) → (decide (a ≥ (↑el.len : Int)) = true → (0 : Int) = (el.el a.toNat 0).toI ∧ (0 : Int) = (el.el a.toNat 1).toI ∧ (el.el a.toNat 2).rows = [] ∧ ch.rows = ch.rows ∧ gr.rows = gr.rows ∧ va.rows = va.rows ∧ el.rows = el.rows ∧ df.rows = df.rows ∧ gn = gn ∧ ge.rows = ge.rows ∧ gh.rows = gh.rows ∧ ed = ed ∧ c = c ∧ I.len = I.len ∧ n = n ∧ e = e ∧ (∀ (o : Nat), o < 49 → f o = f o) ∧ cn.len = cn.len ∧ ru.len = ru.len ∧ sc = sc ∧ sg = sg ∧ s0 = s0 ∧ s1 = s1 ∧ ks.len = ks.len ∧ I.rows = I.rows ∧ cn.rows = cn.rows ∧ ru.rows = ru.rows ∧ ks.rows = ks.rows) ∧ (decide (a ≥ (↑el.len : Int)) = false → ((0 : Int) ≤ a ∧ a < (↑el.len : Int)) ∧ (el.el a.toNat 0).toI = (el.el a.toNat 0).toI ∧ (el.el a.toNat (0 + 1)).toI = (el.el a.toNat 1).toI ∧ (el.el a.toNat (0 + 1 + 1)).rows = (el.el a.toNat 2).rows ∧ ch.rows = ch.rows ∧ gr.rows = gr.rows ∧ va.rows = va.rows ∧ el.rows = el.rows ∧ df.rows = df.rows ∧ gn = gn ∧ ge.rows = ge.rows ∧ gh.rows = gh.rows ∧ ed = ed ∧ c = c ∧ I.len = I.len ∧ n = n ∧ e = e ∧ (∀ (o : Nat), o < 49 → f o = f o) ∧ cn.len = cn.len ∧ ru.len = ru.len ∧ sc = sc ∧ sg = sg ∧ s0 = s0 ∧ s1 = s1 ∧ ks.len = ks.len ∧ I.rows = I.rows ∧ cn.rows = cn.rows ∧ ru.rows = ru.rows ∧ ks.rows = ks.rows)) (by kernel_rfl) ?_
    intro h0
    refine ⟨fun h => ?_, fun _ => ⟨h0, ?_⟩⟩
    · have := of_decide_eq_true h
      omega
    · (repeat' apply And.intro) <;> first | rfl | (intro _ _; rfl)
  · trivial
noncomputable def wrecvS : List Dat → Option (Eff × List Seg) := fun ds => match ds with
  | .d ch :: .d gr :: .d va :: .d el :: .d df :: .i gn :: .d ge :: .d gh :: .i ed :: .b _c :: .d I :: .i n :: .b e :: .f f :: .d cn :: .d ru :: .i sc :: .i sg :: .i s0 :: .i s1 :: .d ks :: [.i _x0, .i _x1, .i _x2, .i x3, .i x4, .i x5, .i _qk, .i _qm, .i _qv, .d _qd, .i _op, .i _k, .i _m, .i _v, .d _d, .i _k2, .i _m2, .i _v2, .d _d2] => some ({ val := .tup [], vc := [Good n (e, f), I.len ≤ 1000, 0 ≤ x4 ∧ x4 < el.len, 0 ≤ ed ∧ ed < ge.len, ge.len ≤ 1000000, (el.el x4.toNat 2).len ≤ 1000000, ks.len ≤ 900], nw := [(0, .orow 53 (itD I.len n (rcvZ n x3 (rcvV (el.el x4.toNat 2) x5) (e, f)))), (1, .orow 53 (cn)), (2, .orow 93 (ru)), (3, .orow 3 (kD ks 5 (rcvB ge ed (el.el x4.toNat 2))))] }, [.c (.rows 73 (ch)), .c (.rows 35 (gr)), .c (.rows 3 (va)), .c (.rows 75 (el)), .c (.rows 4 (df)), .c (.int .i64 (.sym gn)), .c (.rows 31 (ge)), .c (.rows 3 (gh)), .c (.int .i64 (.sym ed)), .c (.bool (.sym (rcvZ n x3 (rcvV (el.el x4.toNat 2) x5) (e, f) : Zs).1)), .c (.osl 53 0 (.lit 0) (.sym (I.len))), .c (.int .i64 (.sym (n))), .c (.bool (.sym (rcvZ n x3 (rcvV (el.el x4.toNat 2) x5) (e, f) : Zs).1)), .ints .i64 (.lit 49) (rcvZ n x3 (rcvV (el.el x4.toNat 2) x5) (e, f) : Zs).2, .c (.osl 53 1 (.lit 0) (.sym ((cn).len))), .c (.osl 93 2 (.lit 0) (.sym ((ru).len))), .c (.int .i64 (.sym (sc))), .c (.int .i64 (.sym (sg))), .c (.int .i64 (.sym (s0))), .c (.int .i64 (.sym (s1))), .c (.osl 3 3 (.lit 0) (.sym ((kD ks 5 (rcvB ge ed (el.el x4.toNat 2))).len)))])
  | _ => none
noncomputable def wrecvC : Con := conM 101 [.c (.rows 73), .c (.rows 35), .c (.rows 3), .c (.rows 75), .c (.rows 4), .c (.int .i64), .c (.rows 31), .c (.rows 3), .c (.int .i64), .c .bool, .own 53, .c (.int .i64), .c .bool, .ints .i64 49, .own 53, .own 93, .c (.int .i64), .c (.int .i64), .c (.int .i64), .c (.int .i64), .own 3] [edgeA] wrecvS
theorem wrecv_ok : ConOK Tryz.prog 65 wrecvC := by
  refine fn_obM tt_ok mixed Tryz.func65 rfl (fun _ _ => by kernel_rfl) (A := fun ds => ⟨fun _ => Cons.of [(88, welemC), (82, isfirstC), (89, strangeC), (90, qtagsC), (80, wtellC), (37, inoneC), (53, tplaceC), (26, nsetoC)], fun _ => none, fun _ => none⟩) (fun _ _ => (cons_cons welem_ok (cons_cons isfirst_ok (cons_cons strange_ok (cons_cons qtags_ok (cons_cons wtell_ok (cons_cons inone_ok (cons_cons tplace_ok (cons_cons nseto_ok cons_nil))))))))) (by kernel_rfl) ?_
  intro ds
  unfold wrecvS
  split
  · rename_i ch gr va el df gn ge gh ed c I n e f cn ru sc sg s0 s1 ks x0 x1 x2 x3 x4 x5 qk qm qv qd op k m v d k2 m2 v2 d2
    refine kmp (q := Good n (e, f) → I.len ≤ 1000 → (0 : Int) ≤ x4 ∧ x4 < (↑el.len : Int) → (0 : Int) ≤ ed ∧ ed < (↑ge.len : Int) → ge.len ≤ 1000000 → (el.el x4.toNat 2).len ≤ 1000000 → ks.len ≤ 900 → 0 = 0 ∧ I.len = I.len ∧ 0 = 0 ∧ cn.len = cn.len ∧ 0 = 0 ∧ ru.len = ru.len ∧ 0 = 0 ∧ ks.len = ks.len ∧ ((0 : Int) ≤ x4 ∧ x4 < (↑el.len : Int)) ∧ 0 + I.len ≤ I.len ∧ 0 + cn.len ≤ cn.len ∧ 0 + ru.len ≤ ru.len ∧ 0 + ks.len ≤ ks.len ∧ ((0 : Int) ≤ ed ∧ ed < (↑ge.len : Int)) ∧ ge.len ≤ 1000000 ∧ ((((outD ge (ge.el ed.toNat 0).toI ge.len).el 0 0).toI == ed) = true ∧ True → (el.el x4.toNat 2).len ≤ 8796093022208) ∧ ((((outD ge (ge.el ed.toNat 0).toI ge.len).el 0 0).toI == ed) = true ∧ True → 0 + I.len ≤ I.len) ∧ ((((outD ge (ge.el ed.toNat 0).toI ge.len).el 0 0).toI == ed) = true ∧ True → 0 + cn.len ≤ cn.len) ∧ ((((outD ge (ge.el ed.toNat 0).toI ge.len).el 0 0).toI == ed) = true ∧ True → 0 + ru.len ≤ ru.len) ∧ ((((outD ge (ge.el ed.toNat 0).toI ge.len).el 0 0).toI == ed) = true ∧ True → 0 + ks.len ≤ ks.len) ∧ ((((outD ge (ge.el ed.toNat 0).toI ge.len).el 0 0).toI == ed) = true ∧ True → (0 : Int) ≤ ed ∧ ed < (↑ge.len : Int)) ∧ ((((outD ge (ge.el ed.toNat 0).toI ge.len).el 0 0).toI == ed) = true ∧ True → ge.len ≤ 1000000) ∧ ((((outD ge (ge.el ed.toNat 0).toI ge.len).el 0 0).toI == ed) = true ∧ True → (tgD (el.el x4.toNat 2) (el.el x4.toNat 2).len).len ≤ 1000000) ∧ 0 = 0 ∧ I.len = I.len ∧ 0 = 0 ∧ cn.len = cn.len ∧ 0 = 0 ∧ ru.len = ru.len ∧ 0 = 0 ∧ ks.len = ks.len ∧ ks.len ≤ 1000 ∧ (plB x5 (↑(el.el x4.toNat 2).len : Int) = true → ((0 : Int) ≤ x5 ∧ x5 < (↑(el.el x4.toNat 2).len : Int)) ∧ 0 + I.len ≤ I.len ∧ Good n (e, f) ∧ (I.sub (0) (0 + I.len)).len ≤ 1000 ∧ ch.rows = ch.rows ∧ gr.rows = gr.rows ∧ va.rows = va.rows ∧ el.rows = el.rows ∧ df.rows = df.rows ∧ gn = gn ∧ ge.rows = ge.rows ∧ gh.rows = gh.rows ∧ ed = ed ∧ (metZ n x3 ((el.el x4.toNat 2).el x5.toNat 0).toI ((el.el x4.toNat 2).el x5.toNat (0 + 1)).toI (fgZ n x3 (e, f))).fst = (rcvZ n x3 (rcvV (el.el x4.toNat 2) x5) (e, f)).fst ∧ (I.sub (0) (0 + I.len)).len = I.len ∧ n = n ∧ (metZ n x3 ((el.el x4.toNat 2).el x5.toNat 0).toI ((el.el x4.toNat 2).el x5.toNat (0 + 1)).toI (fgZ n x3 (e, f))).fst = (rcvZ n x3 (rcvV (el.el x4.toNat 2) x5) (e, f)).fst ∧ (∀ (o : Nat), o < 49 → (metZ n x3 ((el.el x4.toNat 2).el x5.toNat 0).toI ((el.el x4.toNat 2).el x5.toNat (0 + 1)).toI (fgZ n x3 (e, f))).snd o = (rcvZ n x3 (rcvV (el.el x4.toNat 2) x5) (e, f)).snd o) ∧ cn.len = cn.len ∧ ru.len = ru.len ∧ sc = sc ∧ sg = sg ∧ s0 = s0 ∧ s1 = s1 ∧ (kD ks (5 : Int) (((outD ge (ge.el ed.toNat 0).toI ge.len).el 0 0).toI == ed && anyF (fun (i : Nat) => strB (outA ge (ge.el ed.toNat 0).toI) (cIn (tgD (el.el x4.toNat 2) (el.el x4.toNat 2).len) i)) (tgD (el.el x4.toNat 2) (el.el x4.toNat 2).len).len)).len = (kD ks (5 : Int) (rcvB ge ed (el.el x4.toNat 2))).len ∧ List.map (fun (j : Nat) => [D.i (itvLo n (metZ n x3 ((el.el x4.toNat 2).el x5.toNat 0).toI ((el.el x4.toNat 2).el x5.toNat (0 + 1)).toI (fgZ n x3 (e, f))).fst (metZ n x3 ((el.el x4.toNat 2).el x5.toNat 0).toI ((el.el x4.toNat 2).el x5.toNat (0 + 1)).toI (fgZ n x3 (e, f))).snd (↑j : Int)), D.i (itvHi n (metZ n x3 ((el.el x4.toNat 2).el x5.toNat 0).toI ((el.el x4.toNat 2).el x5.toNat (0 + 1)).toI (fgZ n x3 (e, f))).fst (metZ n x3 ((el.el x4.toNat 2).el x5.toNat 0).toI ((el.el x4.toNat 2).el x5.toNat (0 + 1)).toI (fgZ n x3 (e, f))).snd (↑j : Int))]) (List.range (I.sub (0) (0 + I.len)).len) = List.map (fun (j : Nat) => [D.i (itvLo n (rcvZ n x3 (rcvV (el.el x4.toNat 2) x5) (e, f)).fst (rcvZ n x3 (rcvV (el.el x4.toNat 2) x5) (e, f)).snd (↑j : Int)), D.i (itvHi n (rcvZ n x3 (rcvV (el.el x4.toNat 2) x5) (e, f)).fst (rcvZ n x3 (rcvV (el.el x4.toNat 2) x5) (e, f)).snd (↑j : Int))]) (List.range I.len) ∧ cn.rows = cn.rows ∧ ru.rows = ru.rows ∧ (kD ks (5 : Int) (((outD ge (ge.el ed.toNat 0).toI ge.len).el 0 0).toI == ed && anyF (fun (i : Nat) => strB (outA ge (ge.el ed.toNat 0).toI) (cIn (tgD (el.el x4.toNat 2) (el.el x4.toNat 2).len) i)) (tgD (el.el x4.toNat 2) (el.el x4.toNat 2).len).len)).rows = (kD ks (5 : Int) (rcvB ge ed (el.el x4.toNat 2))).rows) ∧ (plB x5 (↑(el.el x4.toNat 2).len : Int) = false → 0 + I.len ≤ I.len ∧ Good n (e, f) ∧ (I.sub (0) (0 + I.len)).len ≤ 1000 ∧ ch.rows = ch.rows ∧ gr.rows = gr.rows ∧ va.rows = va.rows ∧ el.rows = el.rows ∧ df.rows = df.rows ∧ gn = gn ∧ ge.rows = ge.rows ∧ gh.rows = gh.rows ∧ ed = ed ∧ (metZ n x3 (1 : Int) (0 : Int) (fgZ n x3 (e, f))).fst = (rcvZ n x3 (rcvV (el.el x4.toNat 2) x5) (e, f)).fst ∧ (I.sub (0) (0 + I.len)).len = I.len ∧ n = n ∧ (metZ n x3 (1 : Int) (0 : Int) (fgZ n x3 (e, f))).fst = (rcvZ n x3 (rcvV (el.el x4.toNat 2) x5) (e, f)).fst ∧ (∀ (o : Nat), o < 49 → (metZ n x3 (1 : Int) (0 : Int) (fgZ n x3 (e, f))).snd o = (rcvZ n x3 (rcvV (el.el x4.toNat 2) x5) (e, f)).snd o) ∧ cn.len = cn.len ∧ ru.len = ru.len ∧ sc = sc ∧ sg = sg ∧ s0 = s0 ∧ s1 = s1 ∧ (kD ks (5 : Int) (((outD ge (ge.el ed.toNat 0).toI ge.len).el 0 0).toI == ed && anyF (fun (i : Nat) => strB (outA ge (ge.el ed.toNat 0).toI) (cIn (tgD (el.el x4.toNat 2) (el.el x4.toNat 2).len) i)) (tgD (el.el x4.toNat 2) (el.el x4.toNat 2).len).len)).len = (kD ks (5 : Int) (rcvB ge ed (el.el x4.toNat 2))).len ∧ List.map (fun (j : Nat) => [D.i (itvLo n (metZ n x3 (1 : Int) (0 : Int) (fgZ n x3 (e, f))).fst (metZ n x3 (1 : Int) (0 : Int) (fgZ n x3 (e, f))).snd (↑j : Int)), D.i (itvHi n (metZ n x3 (1 : Int) (0 : Int) (fgZ n x3 (e, f))).fst (metZ n x3 (1 : Int) (0 : Int) (fgZ n x3 (e, f))).snd (↑j : Int))]) (List.range (I.sub (0) (0 + I.len)).len) = List.map (fun (j : Nat) => [D.i (itvLo n (rcvZ n x3 (rcvV (el.el x4.toNat 2) x5) (e, f)).fst (rcvZ n x3 (rcvV (el.el x4.toNat 2) x5) (e, f)).snd (↑j : Int)), D.i (itvHi n (rcvZ n x3 (rcvV (el.el x4.toNat 2) x5) (e, f)).fst (rcvZ n x3 (rcvV (el.el x4.toNat 2) x5) (e, f)).snd (↑j : Int))]) (List.range I.len) ∧ cn.rows = cn.rows ∧ ru.rows = ru.rows ∧ (kD ks (5 : Int) (((outD ge (ge.el ed.toNat 0).toI ge.len).el 0 0).toI == ed && anyF (fun (i : Nat) => strB (outA ge (ge.el ed.toNat 0).toI) (cIn (tgD (el.el x4.toNat 2) (el.el x4.toNat 2).len) i)) (tgD (el.el x4.toNat 2) (el.el x4.toNat 2).len).len)).rows = (kD ks (5 : Int) (rcvB ge ed (el.el x4.toNat 2))).rows)) (by kernel_rfl) ?_
    intro hg hI h4 h0 hc hl hk
    have e1 : (I.sub 0 (0 + I.len)).len = I.len := by rw [D.sub_len _ (by omega)]; omega
    have ht := tgD_len (el.el x4.toNat 2) (el.el x4.toNat 2).len
    rw [e1]
    cases hb : plB x5 ((el.el x4.toNat 2).len : Int) with
    | true =>
      have hv : rcvZ n x3 (rcvV (el.el x4.toNat 2) x5) (e, f) = metZ n x3 ((el.el x4.toNat 2).el x5.toNat 0).toI ((el.el x4.toNat 2).el x5.toNat 1).toI (fgZ n x3 (e, f)) := by unfold rcvZ rcvV; rw [if_pos hb]
      have hp : 0 ≤ x5 ∧ x5 < ((el.el x4.toNat 2).len : Int) := by unfold plB at hb; simp at hb; omega
      rw [hv]
      refine ⟨rfl, ?_⟩
      repeat' (first | apply And.intro | exact fun h => Bool.noConfusion h | intro _)
      all_goals first | rfl | exact hg | omega
    | false =>
      have hv : rcvZ n x3 (rcvV (el.el x4.toNat 2) x5) (e, f) = metZ n x3 1 0 (fgZ n x3 (e, f)) := by unfold rcvZ rcvV; rw [if_neg (by rw [hb]; decide)]
      rw [hv]
      refine ⟨rfl, ?_⟩
      repeat' (first | apply And.intro | exact fun h => Bool.noConfusion h | intro _)
      all_goals first | rfl | exact hg | omega
  · trivial
end Go.Proofs.YtlgmofjjjhbgkaaGreat.Sx.Z
namespace Go.Proofs.YtlgmofjjjhbgkaaGreat.Sx.Z
open Go.RowKit
def ofS (n : Int) : Int := IntKind.u8.wrap (1 * 2 ^ min n.toNat 8)
noncomputable def rofS : FSpec := fun ds _ => match ds with
  | [.i n] => some { val := .one (.sc (.int .u8 (.sym (ofS n)))), vc := [0 ≤ n ∧ n < 8] }
  | _ => none
noncomputable def rofC : Con := con [iA] rofS
theorem rof_ok : ConOK Tryz.prog 54 rofC := by
  refine fn_ob tt_ok mixed Tryz.func54 rfl (fun _ _ => by kernel_rfl) (A := fun ds => ⟨fun _ => Cons.of [], fun _ => none, fun _ => none⟩) (fun _ _ => cons_nil) (by kernel_rfl) ?_
  intro ds fr
  unfold rofS
  split
  · rename_i n
    refine kmp (q := (0 : Int) ≤ n ∧ n < (8 : Int) → ¬n < (0 : Int) ∧ IntKind.u8.wrap ((1 : Int) * (2 : Int) ^ min n.toNat IntKind.u8.bits) = ofS n) (by kernel_rfl) ?_
    intro hn
    exact ⟨by omega, rfl⟩
  · trivial
noncomputable def rstartS : FSpec := fun ds _ => match ds with
  | [] => some { val := .one (.sc (.int .u8 (.lit 1))), vc := [] }
  | _ => none
noncomputable def rstartC : Con := con [] rstartS
theorem rstart_ok : ConOK Tryz.prog 25 rstartC := by
  refine fn_ob tt_ok mixed Tryz.func25 rfl (fun _ _ => by kernel_rfl) (A := fun ds => ⟨fun _ => Cons.of [(54, rofC)], fun _ => none, fun _ => none⟩) (fun _ _ => (cons_cons rof_ok cons_nil)) (by kernel_rfl) ?_
  intro ds fr
  unfold rstartS
  split
  · skip
    refine kmp (q := ((0 : Int) ≤ (0 : Int) ∧ (0 : Int) < (8 : Int)) ∧ ofS (0 : Int) = (1 : Int)) (by kernel_rfl) ?_
    exact ⟨by omega, rfl⟩
  · trivial
end Go.Proofs.YtlgmofjjjhbgkaaGreat.Sx.Z
namespace Go.Proofs.YtlgmofjjjhbgkaaGreat.Sx.Z
open Go.RowKit
/-- An expression: its kind, its number, its variable, its parts. -/
inductive Xp | mk (k n v : Int) (kids : List Xp)
def Xp.k : Xp → Int | mk k _ _ _ => k
def Xp.n : Xp → Int | mk _ n _ _ => n
def Xp.v : Xp → Int | mk _ _ v _ => v
def Xp.kids : Xp → List Xp | mk _ _ _ l => l
theorem el_lt {d : D} {i j : Nat} (h : i < d.len) : SizeOf.sizeOf (d.el i j) < SizeOf.sizeOf d := by
  cases d with
  | l rows =>
    have h' : i < rows.length := h
    have e : (D.l rows).el i j = (rows[i]).getD j (.i 0) := by
      show (rows.getD i []).getD j (.i 0) = _
      rw [List.getD_eq_getElem?_getD (l := rows), List.getElem?_eq_getElem h', Option.getD_some]
    rw [e, List.getD_eq_getElem?_getD]
    have h1 := List.sizeOf_lt_of_mem (List.getElem_mem h')
    cases hj : (rows[i])[j]? with
    | none =>
      rw [Option.getD_none]
      have : SizeOf.sizeOf (D.i 0) = 1 + SizeOf.sizeOf (0 : Int) := rfl
      have e2 : SizeOf.sizeOf (0 : Int) = 1 := rfl
      have : SizeOf.sizeOf (D.l rows) = 1 + SizeOf.sizeOf rows := by simp
      have h2 : 1 ≤ SizeOf.sizeOf (rows[i]) := by cases rows[i] <;> simp <;> omega
      omega
    | some x =>
      rw [Option.getD_some]
      have h2 := List.sizeOf_lt_of_mem (List.mem_of_getElem? hj)
      have : SizeOf.sizeOf (D.l rows) = 1 + SizeOf.sizeOf rows := by simp
      omega
  | i n => exact absurd h (Nat.not_lt_zero i)
  | b n => exact absurd h (Nat.not_lt_zero i)
  | s n => exact absurd h (Nat.not_lt_zero i)
def exs (d : D) : List Xp := (List.finRange d.len).map fun (i : Fin d.len) => Xp.mk (d.el i 0).toI (d.el i 1).toI (d.el i 2).toI (exs (d.el i 3))
  termination_by SizeOf.sizeOf d
  decreasing_by exact el_lt i.isLt
def ex (k n v : Int) (d : D) : Xp := .mk k n v (exs d)
theorem exs_len (d : D) : (exs d).length = d.len := by rw [exs]; simp
theorem exs_get {d : D} {i : Nat} (h : i < d.len) : (exs d)[i]? = some (ex (d.el i 0).toI (d.el i 1).toI (d.el i 2).toI (d.el i 3)) := by
  rw [exs, List.getElem?_map, List.getElem?_eq_getElem (by simpa using h)]
  simp [ex]
def exE (d : D) (i : Nat) : Xp := ex (d.el i 0).toI (d.el i 1).toI (d.el i 2).toI (d.el i 3)
theorem exs_one {d : D} (h : d.len = 1) : exs d = [exE d 0] := by
  have l := exs_len d
  have g := exs_get (d := d) (i := 0) (by omega)
  match he : exs d with
  | [] => rw [he, h] at l; cases l
  | [a] => rw [he] at g; simp at g; rw [g]; rfl
  | a :: b :: r => rw [he, h] at l; simp at l
theorem exs_two {d : D} (h : d.len = 2) : exs d = [exE d 0, exE d 1] := by
  have l := exs_len d
  have g := exs_get (d := d) (i := 0) (by omega)
  have g1 := exs_get (d := d) (i := 1) (by omega)
  match he : exs d with
  | [] => rw [he, h] at l; cases l
  | [a] => rw [he, h] at l; simp at l
  | [a, b] => rw [he] at g g1; simp at g g1; rw [g, g1]; rfl
  | a :: b :: c :: r => rw [he, h] at l; simp at l
theorem exs_ne2 {d : D} (h : d.len ≠ 2) (a b : Xp) : exs d ≠ [a, b] := fun e => h (by rw [← exs_len, e]; rfl)
theorem exs_ne1 {d : D} (h : d.len ≠ 1) (a : Xp) : exs d ≠ [a] := fun e => h (by rw [← exs_len, e]; rfl)
end Go.Proofs.YtlgmofjjjhbgkaaGreat.Sx.Z
namespace Go.Proofs.YtlgmofjjjhbgkaaGreat.Sx.Z
open Go.RowKit
def xpA : AP := .agg [.c (.int .i64), .c (.int .i64), .c (.int .i64), .c (.rows 25)]
def amtP (x b : Int) : Option (Int × Int) := if b < -1099511627776 ∨ b > 1099511627776 then none else some (x, b)
def combP (k : Int) (l r : Option (Int × Int)) : Option (Int × Int) := match l, r with
  | some (x, m), some (y, b) => if k = 5 ∧ y = -1 then amtP x (IntKind.i64.wrap (m - b)) else if k = 4 ∧ y = -1 then amtP x (IntKind.i64.wrap (m + b)) else if k = 4 ∧ x = -1 then amtP y (IntKind.i64.wrap (m + b)) else none
  | _, _ => none
def linP : Xp → Option (Int × Int)
  | .mk k n v kids => if k = 1 then amtP (-1) n else if k = 2 then some (v, 0) else if k = 4 ∨ k = 5 then (match kids with | [a, b] => combP k (linP a) (linP b) | _ => none) else none
theorem lin_eq (k n v : Int) (d : D) : linP (ex k n v d) = if k = 1 then amtP (-1) n else if k = 2 then some (v, 0) else if (k = 4 ∨ k = 5) ∧ d.len = 2 then combP k (linP (exE d 0)) (linP (exE d 1)) else none := by
  show linP (.mk k n v (exs d)) = _
  by_cases h2 : d.len = 2
  · rw [exs_two h2, linP]; simp [h2]
  · rw [linP.eq_2 _ _ _ _ (fun a b => exs_ne2 h2 a b)]; simp [h2]
def oX (o : Option (Int × Int)) : Int := match o with | some p => p.1 | none => 0
def oY (o : Option (Int × Int)) : Int := match o with | some p => p.2 | none => 0
def oB (o : Option (Int × Int)) : Bool := o.isSome
theorem oX_some (p : Int × Int) : oX (some p) = p.1 := rfl
theorem oY_some (p : Int × Int) : oY (some p) = p.2 := rfl
theorem oB_some (p : Int × Int) : oB (some p) = true := rfl
theorem oX_none : oX none = 0 := rfl
theorem oY_none : oY none = 0 := rfl
theorem oB_none : oB none = false := rfl
theorem comb_some (k x m y b : Int) : combP k (some (x, m)) (some (y, b)) = if k = 5 ∧ y = -1 then amtP x (IntKind.i64.wrap (m - b)) else if k = 4 ∧ y = -1 then amtP x (IntKind.i64.wrap (m + b)) else if k = 4 ∧ x = -1 then amtP y (IntKind.i64.wrap (m + b)) else none := rfl
theorem comb_l (k : Int) (r : Option (Int × Int)) : combP k none r = none := rfl
theorem comb_r (k : Int) (l : Option (Int × Int)) : combP k l none = none := by cases l <;> rfl
noncomputable def amountS : FSpec := fun ds _ => match ds with
  | [.i x, .i b] => some { val := .tup [.sc (.int .i64 (.sym (oX (amtP x b)))), .sc (.int .i64 (.sym (oY (amtP x b)))), .sc (.bool (.sym (oB (amtP x b))))], vc := [] }
  | _ => none
noncomputable def amountC : Con := con [iA, iA] amountS
theorem amount_ok : ConOK Tryz.prog 107 amountC := by
  refine fn_ob tt_ok mixed Tryz.func107 rfl (fun _ _ => by kernel_rfl) (A := fun ds => ⟨fun _ => Cons.of [], fun _ => none, fun _ => none⟩) (fun _ _ => cons_nil) (by kernel_rfl) ?_
  intro ds fr
  unfold amountS
  split
  · rename_i x b
    refine kmp (q := ((decide (b < (-1099511627776 : Int)) || decide (b > (1099511627776 : Int))) = true → (0 : Int) = oX (amtP x b) ∧ (0 : Int) = oY (amtP x b) ∧ false = oB (amtP x b)) ∧ ((decide (b < (-1099511627776 : Int)) || decide (b > (1099511627776 : Int))) = false → x = oX (amtP x b) ∧ b = oY (amtP x b) ∧ true = oB (amtP x b))) (by kernel_rfl) ?_
    unfold amtP
    by_cases h : b < -1099511627776 ∨ b > 1099511627776
    · rw [if_pos h]; simp [oX, oY, oB]; omega
    · rw [if_neg h]; simp [oX, oY, oB]; omega
  · trivial
noncomputable def linS : FSpec := fun ds _ => match ds with
  | [.i k, .i n, .i v, .d d] => some { val := .tup [.sc (.int .i64 (.sym (oX (linP (ex k n v d))))), .sc (.int .i64 (.sym (oY (linP (ex k n v d))))), .sc (.bool (.sym (oB (linP (ex k n v d)))))], vc := [] }
  | _ => none
noncomputable def linC : Con := con [xpA] linS
noncomputable def linM : List Dat → Nat := fun ds => match ds with
  | [.i _k, .i _n, .i _v, .d d] => SizeOf.sizeOf d
  | _ => 0
noncomputable def linSu (m : Nat) : FSpec := fun ds _ => match ds with
  | [.i k, .i n, .i v, .d d] => some { val := .tup [.sc (.int .i64 (.sym (oX (linP (ex k n v d))))), .sc (.int .i64 (.sym (oY (linP (ex k n v d))))), .sc (.bool (.sym (oB (linP (ex k n v d)))))], vc := [SizeOf.sizeOf d < m] }
  | _ => none
theorem lin_under (m : Nat) : linS.under linM m = linSu m := by
  funext ds fr
  unfold FSpec.under linS linM linSu
  split
  · rename_i e h
    split at h
    · obtain rfl := Option.some.inj h; rfl
    · cases h
  · rename_i h
    split at h
    · cases h
    · rfl
noncomputable def combinedS (m : Nat) : FSpec := fun ds _ => match ds with
  | [.i c, .i k, .i n, .i v, .d d, .i k2, .i n2, .i v2, .d d2] => some { val := .tup [.sc (.int .i64 (.sym (oX (combP c (linP (ex k n v d)) (linP (ex k2 n2 v2 d2)))))), .sc (.int .i64 (.sym (oY (combP c (linP (ex k n v d)) (linP (ex k2 n2 v2 d2)))))), .sc (.bool (.sym (oB (combP c (linP (ex k n v d)) (linP (ex k2 n2 v2 d2))))))], vc := [SizeOf.sizeOf d < m, SizeOf.sizeOf d2 < m] }
  | _ => none
noncomputable def combinedC (m : Nat) : Con := con [iA, xpA, xpA] (combinedS m)
theorem combined_ok {m : Nat} (ih : ConOK Tryz.prog 77 (con [xpA] (linSu m))) : ConOK Tryz.prog 108 (combinedC m) := by
  refine fn_ob tt_ok mixed Tryz.func108 rfl (fun _ _ => by kernel_rfl) (A := fun ds => ⟨fun _ => Cons.of [(77, con [xpA] (linSu m)), (107, amountC)], fun _ => none, fun _ => none⟩) (fun _ _ => (cons_cons ih (cons_cons amount_ok cons_nil))) (by kernel_rfl) ?_
  intro ds fr
  unfold combinedS
  split
  · rename_i c k n v d k2 n2 v2 d2
    refine kmp (q := SizeOf.sizeOf d < m → SizeOf.sizeOf d2 < m → SizeOf.sizeOf d < m ∧ SizeOf.sizeOf d2 < m ∧ ((!oB (linP (ex k n v d)) || !oB (linP (ex k2 n2 v2 d2))) = true → (0 : Int) = oX (combP c (linP (ex k n v d)) (linP (ex k2 n2 v2 d2))) ∧ (0 : Int) = oY (combP c (linP (ex k n v d)) (linP (ex k2 n2 v2 d2))) ∧ false = oB (combP c (linP (ex k n v d)) (linP (ex k2 n2 v2 d2)))) ∧ ((!oB (linP (ex k n v d)) || !oB (linP (ex k2 n2 v2 d2))) = false → ((c == (5 : Int) && oX (linP (ex k2 n2 v2 d2)) == (-1 : Int)) = true → oX (amtP (oX (linP (ex k n v d))) (IntKind.i64.wrap (oY (linP (ex k n v d)) - oY (linP (ex k2 n2 v2 d2))))) = oX (combP c (linP (ex k n v d)) (linP (ex k2 n2 v2 d2))) ∧ oY (amtP (oX (linP (ex k n v d))) (IntKind.i64.wrap (oY (linP (ex k n v d)) - oY (linP (ex k2 n2 v2 d2))))) = oY (combP c (linP (ex k n v d)) (linP (ex k2 n2 v2 d2))) ∧ oB (amtP (oX (linP (ex k n v d))) (IntKind.i64.wrap (oY (linP (ex k n v d)) - oY (linP (ex k2 n2 v2 d2))))) = oB (combP c (linP (ex k n v d)) (linP (ex k2 n2 v2 d2)))) ∧ ((c == (5 : Int) && oX (linP (ex k2 n2 v2 d2)) == (-1 : Int)) = false → ((c == (4 : Int) && oX (linP (ex k2 n2 v2 d2)) == (-1 : Int)) = true → oX (amtP (oX (linP (ex k n v d))) (IntKind.i64.wrap (oY (linP (ex k n v d)) + oY (linP (ex k2 n2 v2 d2))))) = oX (combP c (linP (ex k n v d)) (linP (ex k2 n2 v2 d2))) ∧ oY (amtP (oX (linP (ex k n v d))) (IntKind.i64.wrap (oY (linP (ex k n v d)) + oY (linP (ex k2 n2 v2 d2))))) = oY (combP c (linP (ex k n v d)) (linP (ex k2 n2 v2 d2))) ∧ oB (amtP (oX (linP (ex k n v d))) (IntKind.i64.wrap (oY (linP (ex k n v d)) + oY (linP (ex k2 n2 v2 d2))))) = oB (combP c (linP (ex k n v d)) (linP (ex k2 n2 v2 d2)))) ∧ ((c == (4 : Int) && oX (linP (ex k2 n2 v2 d2)) == (-1 : Int)) = false → ((c == (4 : Int) && oX (linP (ex k n v d)) == (-1 : Int)) = true → oX (amtP (oX (linP (ex k2 n2 v2 d2))) (IntKind.i64.wrap (oY (linP (ex k n v d)) + oY (linP (ex k2 n2 v2 d2))))) = oX (combP c (linP (ex k n v d)) (linP (ex k2 n2 v2 d2))) ∧ oY (amtP (oX (linP (ex k2 n2 v2 d2))) (IntKind.i64.wrap (oY (linP (ex k n v d)) + oY (linP (ex k2 n2 v2 d2))))) = oY (combP c (linP (ex k n v d)) (linP (ex k2 n2 v2 d2))) ∧ oB (amtP (oX (linP (ex k2 n2 v2 d2))) (IntKind.i64.wrap (oY (linP (ex k n v d)) + oY (linP (ex k2 n2 v2 d2))))) = oB (combP c (linP (ex k n v d)) (linP (ex k2 n2 v2 d2)))) ∧ ((c == (4 : Int) && oX (linP (ex k n v d)) == (-1 : Int)) = false → (0 : Int) = oX (combP c (linP (ex k n v d)) (linP (ex k2 n2 v2 d2))) ∧ (0 : Int) = oY (combP c (linP (ex k n v d)) (linP (ex k2 n2 v2 d2))) ∧ false = oB (combP c (linP (ex k n v d)) (linP (ex k2 n2 v2 d2)))))))) (by kernel_rfl) ?_
    intro h1 h2
    refine ⟨h1, h2, ?_⟩
    generalize linP (ex k n v d) = L
    generalize linP (ex k2 n2 v2 d2) = R
    rcases L with _ | ⟨x, a⟩ <;> rcases R with _ | ⟨y, b⟩ <;> simp only [comb_l, comb_r, comb_some, oX_some, oY_some, oB_some, oX_none, oY_none, oB_none] <;> (repeat' first | apply And.intro | intro _) <;> grind [oX_none, oY_none, oB_none]
  · trivial
theorem lin_step (m : Nat) (ih : ConOK Tryz.prog 77 (con [xpA] (linSu m))) : ConOK Tryz.prog 77 (con [xpA] (linSu (m + 1))) := by
  refine fn_ob tt_ok mixed Tryz.func77 rfl (fun _ _ => by kernel_rfl) (A := fun ds => ⟨fun _ => Cons.of [(108, (combinedC m)), (107, amountC)], fun _ => none, fun _ => none⟩) (fun _ _ => (cons_cons (combined_ok ih) (cons_cons amount_ok cons_nil))) (by kernel_rfl) ?_
  intro ds fr
  unfold linSu
  split
  · rename_i k n v d
    refine kmp (q := SizeOf.sizeOf d < m + 1 → ((k == (1 : Int)) = true → oX (amtP (-1 : Int) n) = oX (linP (ex k n v d)) ∧ oY (amtP (-1 : Int) n) = oY (linP (ex k n v d)) ∧ oB (amtP (-1 : Int) n) = oB (linP (ex k n v d))) ∧ ((k == (1 : Int)) = false → ((k == (2 : Int)) = true → v = oX (linP (ex k n v d)) ∧ (0 : Int) = oY (linP (ex k n v d)) ∧ true = oB (linP (ex k n v d))) ∧ ((k == (2 : Int)) = false → (((k == (4 : Int) || k == (5 : Int)) && (↑d.len : Int) == (2 : Int)) = true → nat_lit 0 < d.len ∧ nat_lit 1 < d.len ∧ SizeOf.sizeOf (d.el (nat_lit 0) (0 + 1 + 1 + 1)) < m ∧ SizeOf.sizeOf (d.el (nat_lit 1) (0 + 1 + 1 + 1)) < m ∧ oX (combP k (linP (ex (d.el (nat_lit 0) 0).toI (d.el (nat_lit 0) (0 + 1)).toI (d.el (nat_lit 0) (0 + 1 + 1)).toI (d.el (nat_lit 0) (0 + 1 + 1 + 1)))) (linP (ex (d.el (nat_lit 1) 0).toI (d.el (nat_lit 1) (0 + 1)).toI (d.el (nat_lit 1) (0 + 1 + 1)).toI (d.el (nat_lit 1) (0 + 1 + 1 + 1))))) = oX (linP (ex k n v d)) ∧ oY (combP k (linP (ex (d.el (nat_lit 0) 0).toI (d.el (nat_lit 0) (0 + 1)).toI (d.el (nat_lit 0) (0 + 1 + 1)).toI (d.el (nat_lit 0) (0 + 1 + 1 + 1)))) (linP (ex (d.el (nat_lit 1) 0).toI (d.el (nat_lit 1) (0 + 1)).toI (d.el (nat_lit 1) (0 + 1 + 1)).toI (d.el (nat_lit 1) (0 + 1 + 1 + 1))))) = oY (linP (ex k n v d)) ∧ oB (combP k (linP (ex (d.el (nat_lit 0) 0).toI (d.el (nat_lit 0) (0 + 1)).toI (d.el (nat_lit 0) (0 + 1 + 1)).toI (d.el (nat_lit 0) (0 + 1 + 1 + 1)))) (linP (ex (d.el (nat_lit 1) 0).toI (d.el (nat_lit 1) (0 + 1)).toI (d.el (nat_lit 1) (0 + 1 + 1)).toI (d.el (nat_lit 1) (0 + 1 + 1 + 1))))) = oB (linP (ex k n v d))) ∧ (((k == (4 : Int) || k == (5 : Int)) && (↑d.len : Int) == (2 : Int)) = false → (0 : Int) = oX (linP (ex k n v d)) ∧ (0 : Int) = oY (linP (ex k n v d)) ∧ false = oB (linP (ex k n v d)))))) (by kernel_rfl) ?_
    intro hm
    have e0 : ∀ i, ex (d.el i 0).toI (d.el i (0 + 1)).toI (d.el i (0 + 1 + 1)).toI (d.el i (0 + 1 + 1 + 1)) = exE d i := fun i => rfl
    simp only [e0, lin_eq k n v d]
    have z : ∀ i, i < d.len → SizeOf.sizeOf (d.el i (0 + 1 + 1 + 1)) < m := fun i hi => by have := el_lt (j := 0 + 1 + 1 + 1) hi; omega
    (repeat' first | apply And.intro | intro _) <;> grind [oX_some, oY_some, oB_some, oX_none, oY_none, oB_none]
  · trivial
theorem lin_ok : ConOK Tryz.prog 77 linC :=
  con_rec linM (fun _ _ => by kernel_rfl) fun m ih => by
    rw [lin_under] at ih ⊢
    exact lin_step m ih
end Go.Proofs.YtlgmofjjjhbgkaaGreat.Sx.Z
namespace Go.Proofs.YtlgmofjjjhbgkaaGreat.Sx.Z
open Go.RowKit
/-- No expression has too many parts. -/
inductive Small : Xp → Prop
  | mk (k n v : Int) (kids : List Xp) : kids.length ≤ 1000000 → (∀ x, x ∈ kids → Small x) → Small (.mk k n v kids)
end Go.Proofs.YtlgmofjjjhbgkaaGreat.Sx.Z
namespace Go.Proofs.YtlgmofjjjhbgkaaGreat.Sx.Z
open Go.RowKit
/-- What Tame tells: of so many variables. -/
inductive Tm (w : Int) : Xp → Prop
  | num (n : Int) : 0 ≤ n → n ≤ 2147483647 → Tm w (.mk 1 n 0 [])
  | var (v : Int) : 0 ≤ v → v < w → Tm w (.mk 2 0 v [])
  | neg (a : Xp) : Tm w a → Tm w (.mk 3 0 0 [a])
  | bin (k : Int) (a b : Xp) : 4 ≤ k → k ≤ 8 → Tm w a → Tm w b → Tm w (.mk k 0 0 [a, b])
def rcomb (k : Int) (l r : Option (Int × Int)) : Option (Int × Int) := match l, r with
  | some (x, m), some (y, b) => if (0 ≤ x ∧ 0 ≤ y) ∨ (k = 5 ∧ 0 ≤ y) then none else some (max x y, if k = 5 then IntKind.i64.wrap (m - b) else IntKind.i64.wrap (m + b))
  | _, _ => none
def rcut (o : Option (Int × Int)) : Option (Int × Int) := match o with
  | some (x, n) => if n > 1099511627776 ∨ n < -1099511627776 then none else some (x, n)
  | none => none
def rlinP : Xp → Option (Int × Int)
  | .mk k n v kids => rcut (if k = 1 ∧ kids.length = 0 then some (-1, n) else if k = 2 ∧ kids.length = 0 then some (v, 0) else if k = 4 ∨ k = 5 then (match kids with | [a, b] => rcomb k (rlinP a) (rlinP b) | _ => none) else none)
theorem rcomb_some (k x m y b : Int) : rcomb k (some (x, m)) (some (y, b)) = if (0 ≤ x ∧ 0 ≤ y) ∨ (k = 5 ∧ 0 ≤ y) then none else some (max x y, if k = 5 then IntKind.i64.wrap (m - b) else IntKind.i64.wrap (m + b)) := rfl
theorem rcomb_l (k : Int) (r : Option (Int × Int)) : rcomb k none r = none := rfl
theorem rcomb_r (k : Int) (l : Option (Int × Int)) : rcomb k l none = none := by cases l <;> rfl
theorem rcut_some (x n : Int) : rcut (some (x, n)) = if n > 1099511627776 ∨ n < -1099511627776 then none else some (x, n) := rfl
/-- Of what Tame tells both are the same. -/
theorem lin_same {w : Int} (hw : 1 ≤ w) {e : Xp} (h : Tm w e) : rlinP e = linP e ∧ ∀ x n, linP e = some (x, n) → -1 ≤ x ∧ x < w ∧ -1099511627776 ≤ n ∧ n ≤ 1099511627776 := by
  induction h with
  | num n h0 h1 =>
    rw [rlinP.eq_2 _ _ _ _ (fun a b h => by cases h), linP.eq_2 _ _ _ _ (fun a b h => by cases h)]
    simp only [List.length_nil, and_self, if_true, rcut_some, amtP]
    rw [if_neg (by omega), if_neg (by omega)]
    exact ⟨rfl, fun x m e => by obtain ⟨rfl, rfl⟩ := Prod.mk.inj (Option.some.inj e); omega⟩
  | var v h0 h1 =>
    rw [rlinP.eq_2 _ _ _ _ (fun a b h => by cases h), linP.eq_2 _ _ _ _ (fun a b h => by cases h)]
    refine ⟨rfl, fun x m e => ?_⟩
    have e : some (v, (0 : Int)) = some (x, m) := e
    obtain ⟨rfl, rfl⟩ := Prod.mk.inj (Option.some.inj e); omega
  | neg a _ _ =>
    rw [rlinP.eq_2 _ _ _ _ (fun a b h => by cases h), linP.eq_2 _ _ _ _ (fun a b h => by cases h)]
    exact ⟨rfl, fun x m e => by cases e⟩
  | bin k a b h4 h8 _ _ ia ib =>
    obtain ⟨ea, ba⟩ := ia
    obtain ⟨eb, bb⟩ := ib
    rw [rlinP, linP, ea, eb]
    have k1 : ¬ (k = 1 ∧ [a, b].length = 0) := by simp
    have k2 : ¬ (k = 2 ∧ [a, b].length = 0) := by simp
    rw [if_neg k1, if_neg k2, if_neg (show ¬ k = 1 by omega), if_neg (show ¬ k = 2 by omega)]
    by_cases k45 : k = 4 ∨ k = 5
    · rw [if_pos k45, if_pos k45]
      generalize linP a = L at *
      generalize linP b = R at *
      rcases L with _ | ⟨x, m⟩
      · rw [rcomb_l, comb_l]; exact ⟨rfl, fun x m e => by cases e⟩
      · rcases R with _ | ⟨y, p⟩
        · rw [rcomb_r, comb_r]; exact ⟨rfl, fun x m e => by cases e⟩
        · have hx := ba x m rfl
          have hy := bb y p rfl
          have w1 : IntKind.i64.wrap (m - p) = m - p := wr _ (by omega)
          have w2 : IntKind.i64.wrap (m + p) = m + p := wr _ (by omega)
          rw [rcomb_some, comb_some, w1, w2]
          unfold amtP rcut
          constructor <;> grind
    · rw [if_neg k45, if_neg k45]; exact ⟨rfl, fun x m e => by cases e⟩
end Go.Proofs.YtlgmofjjjhbgkaaGreat.Sx.Z
namespace Go.Proofs.YtlgmofjjjhbgkaaGreat
open Go.RowKit

theorem wr64 (x : Int) (h1 : -9223372036854775808 ≤ x) (h2 : x ≤ 9223372036854775807) : IntKind.i64.wrap x = x := by
  simp [IntKind.wrap, IntKind.bits, IntKind.signed]
  omega
end Go.Proofs.YtlgmofjjjhbgkaaGreat
namespace Go.Proofs.YtlgmofjjjhbgkaaGreat
open Go.RowKit

theorem ofP_or (l h L H : Int) (e : ofP l h = (L, H)) : (L = 1 ∧ H = 0 ∧ (h < l ∨ h < -2147483648 ∨ 2147483647 < l)) ∨ (L ≤ H ∧ (L = l ∧ -2147483648 ≤ l ∨ L = -2147483648 ∧ l < -2147483648) ∧ (H = h ∧ h ≤ 2147483647 ∨ H = 2147483647 ∧ 2147483647 < h)) := by
  unfold ofP nrm mx mn at e
  by_cases h1 : l < -2147483648 <;> by_cases h2 : 2147483647 < h <;> simp only [h1, h2, if_true, if_false] at e <;> split at e <;> (injection e with e1 e2; omega)
theorem mn_or (x y : Int) : (mn x y = x ∧ x ≤ y) ∨ (mn x y = y ∧ y ≤ x) := by unfold mn; split <;> omega
theorem mx_or (x y : Int) : (mx x y = x ∧ y ≤ x) ∨ (mx x y = y ∧ x ≤ y) := by unfold mx; split <;> omega
end Go.Proofs.YtlgmofjjjhbgkaaGreat
namespace Go.Proofs.YtlgmofjjjhbgkaaGreat
open Go.RowKit

theorem bot_le (f : Int → Int → Int) (a0 a1 b0 b1 : Int) : bot f a0 a1 b0 b1 ≤ f a0 b0 ∧ bot f a0 a1 b0 b1 ≤ f a0 b1 ∧ bot f a0 a1 b0 b1 ≤ f a1 b0 ∧ bot f a0 a1 b0 b1 ≤ f a1 b1 := by
  unfold bot mn
  repeat' split
  all_goals omega
theorem le_top (f : Int → Int → Int) (a0 a1 b0 b1 : Int) : f a0 b0 ≤ top f a0 a1 b0 b1 ∧ f a0 b1 ≤ top f a0 a1 b0 b1 ∧ f a1 b0 ≤ top f a0 a1 b0 b1 ∧ f a1 b1 ≤ top f a0 a1 b0 b1 := by
  unfold top mx
  repeat' split
  all_goals omega
/-- What lies between two, whichever is the lesser one. -/
def Btw (x n y : Int) : Prop := (x ≤ n ∧ n ≤ y) ∨ (y ≤ n ∧ n ≤ x)
/-- The ends tell what is between. -/
theorem corner (f : Int → Int → Int) (a0 a1 b0 b1 x y : Int) (hx : Btw (f a0 y) (f x y) (f a1 y)) (h0 : Btw (f a0 b0) (f a0 y) (f a0 b1)) (h1 : Btw (f a1 b0) (f a1 y) (f a1 b1)) :
    bot f a0 a1 b0 b1 ≤ f x y ∧ f x y ≤ top f a0 a1 b0 b1 := by
  have l := bot_le f a0 a1 b0 b1
  have t := le_top f a0 a1 b0 b1
  unfold Btw at *
  omega
theorem mul_btw (a0 a1 x y : Int) (h0 : a0 ≤ x) (h1 : x ≤ a1) : Btw (a0 * y) (x * y) (a1 * y) := by
  rcases Int.le_total 0 y with hy | hy
  · exact .inl ⟨Int.mul_le_mul_of_nonneg_right h0 hy, Int.mul_le_mul_of_nonneg_right h1 hy⟩
  · exact .inr ⟨Int.mul_le_mul_of_nonpos_right h1 hy, Int.mul_le_mul_of_nonpos_right h0 hy⟩
theorem mul_in (a0 a1 b0 b1 x y : Int) (h0 : a0 ≤ x) (h1 : x ≤ a1) (g0 : b0 ≤ y) (g1 : y ≤ b1) : bot (fun x y => x * y) a0 a1 b0 b1 ≤ x * y ∧ x * y ≤ top (fun x y => x * y) a0 a1 b0 b1 := by
  refine corner (fun x y => x * y) a0 a1 b0 b1 x y (mul_btw a0 a1 x y h0 h1) ?_ ?_
  · have t := mul_btw b0 b1 y a0 g0 g1
    simp only [Int.mul_comm] at t ⊢
    exact t
  · have t := mul_btw b0 b1 y a1 g0 g1
    simp only [Int.mul_comm] at t ⊢
    exact t
/-- Quotients of what is not below nought. -/
theorem td_pos (x x' y y' : Int) (h0 : 0 ≤ x) (h1 : x ≤ x') (g0 : 0 < y') (g1 : y' ≤ y) : 0 ≤ x.tdiv y ∧ x.tdiv y ≤ x'.tdiv y' ∧ x.tdiv y ≤ x := by
  obtain ⟨X, rfl⟩ := Int.eq_ofNat_of_zero_le h0
  obtain ⟨X', rfl⟩ := Int.eq_ofNat_of_zero_le (Int.le_trans h0 h1)
  obtain ⟨Y', rfl⟩ := Int.eq_ofNat_of_zero_le (Int.le_of_lt g0)
  obtain ⟨Y, rfl⟩ := Int.eq_ofNat_of_zero_le (Int.le_trans (Int.le_of_lt g0) g1)
  have e1 : (X : Int).tdiv Y = ((X / Y : Nat) : Int) := rfl
  have e2 : (X' : Int).tdiv Y' = ((X' / Y' : Nat) : Int) := rfl
  rw [e1, e2]
  have t := Nat.div_le_div (a := X) (b := X') (c := Y) (d := Y') (by omega) (by omega) (by omega)
  have u := Nat.div_le_self X Y
  clear e1 e2
  generalize X / Y = q at *
  generalize X' / Y' = q' at *
  omega
theorem td_neg_l (x y : Int) : (-x).tdiv y = -(x.tdiv y) := Int.neg_tdiv ..
theorem td_neg_r (x y : Int) : x.tdiv (-y) = -(x.tdiv y) := Int.tdiv_neg ..
/-- By a number above nought: it rises with what is divided. -/
theorem td_mono (x x' y : Int) (h1 : x ≤ x') (g0 : 0 < y) : x.tdiv y ≤ x'.tdiv y := by
  by_cases hx : 0 ≤ x
  · exact (td_pos x x' y y hx h1 g0 (Int.le_refl _)).2.1
  · have t := td_pos 0 (-x) y y (by omega) (by omega) g0 (Int.le_refl _)
    have t2 := td_neg_l x y
    by_cases hx' : 0 ≤ x'
    · have u := td_pos x' x' y y hx' (Int.le_refl _) g0 (Int.le_refl _)
      omega
    · have v := td_pos (-x') (-x) y y (by omega) (by omega) g0 (Int.le_refl _)
      have v2 := td_neg_l x' y
      omega
theorem td_btw_x (a0 a1 x y : Int) (h0 : a0 ≤ x) (h1 : x ≤ a1) (hy : y ≠ 0) : Btw (a0.tdiv y) (x.tdiv y) (a1.tdiv y) := by
  by_cases g : 0 < y
  · exact .inl ⟨td_mono _ _ _ h0 g, td_mono _ _ _ h1 g⟩
  · have e : ∀ z : Int, z.tdiv y = -(z.tdiv (-y)) := fun z => by have := td_neg_r z (-y); rw [Int.neg_neg] at this; exact this
    rw [e a0, e x, e a1]
    have p := td_mono a0 x (-y) h0 (by omega)
    have q := td_mono x a1 (-y) h1 (by omega)
    exact .inr (by omega)
theorem td_btw_pos (x b0 b1 y : Int) (g : 0 < b0) (h0 : b0 ≤ y) (h1 : y ≤ b1) : Btw (x.tdiv b0) (x.tdiv y) (x.tdiv b1) := by
  by_cases hx : 0 ≤ x
  · exact .inr ⟨(td_pos x x b1 y hx (Int.le_refl _) (by omega) h1).2.1, (td_pos x x y b0 hx (Int.le_refl _) g h0).2.1⟩
  · have e : ∀ z : Int, x.tdiv z = -((-x).tdiv z) := fun z => by have := td_neg_l (-x) z; rw [Int.neg_neg] at this; exact this
    rw [e b0, e y, e b1]
    have p := (td_pos (-x) (-x) b1 y (by omega) (Int.le_refl _) (by omega) h1).2.1
    have q := (td_pos (-x) (-x) y b0 (by omega) (Int.le_refl _) g h0).2.1
    exact .inl (by omega)
theorem td_btw_y (x b0 b1 y : Int) (g : 0 < b0 ∨ b1 < 0) (h0 : b0 ≤ y) (h1 : y ≤ b1) : Btw (x.tdiv b0) (x.tdiv y) (x.tdiv b1) := by
  rcases g with g | g
  · exact td_btw_pos x b0 b1 y g h0 h1
  · have e : ∀ z : Int, x.tdiv z = -(x.tdiv (-z)) := fun z => by have := td_neg_r x (-z); rw [Int.neg_neg] at this; exact this
    rw [e b0, e y, e b1]
    have t := td_btw_pos x (-b1) (-b0) (-y) (by omega) (by omega) (by omega)
    unfold Btw at *
    omega
theorem quo_in (a0 a1 b0 b1 x y : Int) (g : 0 < b0 ∨ b1 < 0) (h0 : a0 ≤ x) (h1 : x ≤ a1) (g0 : b0 ≤ y) (g1 : y ≤ b1) : bot Int.tdiv a0 a1 b0 b1 ≤ x.tdiv y ∧ x.tdiv y ≤ top Int.tdiv a0 a1 b0 b1 :=
  corner Int.tdiv a0 a1 b0 b1 x y (td_btw_x a0 a1 x y h0 h1 (by omega)) (td_btw_y a0 b0 b1 y g g0 g1) (td_btw_y a1 b0 b1 y g g0 g1)
/-- A quotient is no farther from nought than what is divided. -/
theorem td_abs (x y : Int) (m : Int) (h0 : -m ≤ x) (h1 : x ≤ m) (hy : y ≠ 0) : -m ≤ x.tdiv y ∧ x.tdiv y ≤ m := by
  have p : ∀ z : Int, 0 < z → -m ≤ x.tdiv z ∧ x.tdiv z ≤ m := fun z hz => by
    by_cases hx : 0 ≤ x
    · have t := td_pos x x z z hx (Int.le_refl _) hz (Int.le_refl _); omega
    · have t := td_pos (-x) (-x) z z (by omega) (Int.le_refl _) hz (Int.le_refl _)
      have := td_neg_l x z
      omega
  by_cases g : 0 < y
  · exact p y g
  · have t := p (-y) (by omega)
    have := td_neg_r x y
    omega
/-- Rests. -/
theorem tm_pos (x y : Int) (h : 0 ≤ x) (g : 0 < y) : 0 ≤ x.tmod y ∧ x.tmod y < y ∧ x.tmod y ≤ x := by
  obtain ⟨X, rfl⟩ := Int.eq_ofNat_of_zero_le h
  obtain ⟨Y, rfl⟩ := Int.eq_ofNat_of_zero_le (Int.le_of_lt g)
  have e : (X : Int).tmod Y = ((X % Y : Nat) : Int) := rfl
  rw [e]
  have t := Nat.mod_lt X (y := Y) (by omega)
  have u := Nat.mod_le X Y
  clear e
  generalize X % Y = q at *
  omega
theorem tm_any (x y m : Int) (hy : y ≠ 0) (h0 : -m ≤ y) (h1 : y ≤ m) : -(m - 1) ≤ x.tmod y ∧ x.tmod y ≤ m - 1 ∧ ((0 ≤ x ∧ 0 ≤ x.tmod y ∧ x.tmod y ≤ x) ∨ (x ≤ 0 ∧ x ≤ x.tmod y ∧ x.tmod y ≤ 0)) := by
  have p : ∀ z : Int, 0 < z → z ≤ m → -(m - 1) ≤ x.tmod z ∧ x.tmod z ≤ m - 1 ∧ ((0 ≤ x ∧ 0 ≤ x.tmod z ∧ x.tmod z ≤ x) ∨ (x ≤ 0 ∧ x ≤ x.tmod z ∧ x.tmod z ≤ 0)) := fun z hz hm => by
    by_cases hx : 0 ≤ x
    · have t := tm_pos x z hx hz; omega
    · have t := tm_pos (-x) z (by omega) hz
      have e : (-x).tmod z = -(x.tmod z) := Int.neg_tmod ..
      omega
  by_cases g : 0 < y
  · exact p y g h1
  · have t := p (-y) (by omega) (by omega)
    have e : x.tmod (-y) = x.tmod y := Int.tmod_neg ..
    rw [e] at t
    exact t
theorem rest_eq (x y : Int) : x - x.tdiv y * y = x.tmod y := by
  have := Int.tmod_add_tdiv_mul x y
  omega
/-- What a kind makes of two numbers: the number, and which error. -/
def valP (k x y : Int) : Int := if k = 4 then x + y else if k = 5 then x - y else if k = 6 then x * y else if k = 7 then x.tdiv y else x - x.tdiv y * y
def errP (k x y : Int) : Int := if 7 ≤ k ∧ y = 0 then 3 else if valP k x y < -2147483648 ∨ 2147483647 < valP k x y then 2 else 0
theorem errP_or (k x y : Int) : (errP k x y = 3 ∧ 7 ≤ k ∧ y = 0) ∨ (errP k x y = 2 ∧ ¬ (7 ≤ k ∧ y = 0) ∧ (valP k x y < -2147483648 ∨ 2147483647 < valP k x y)) ∨ (errP k x y = 0 ∧ ¬ (7 ≤ k ∧ y = 0) ∧ -2147483648 ≤ valP k x y ∧ valP k x y ≤ 2147483647) := by
  unfold errP
  by_cases h : 7 ≤ k ∧ y = 0
  · rw [if_pos h]; exact .inl ⟨rfl, h⟩
  · rw [if_neg h]
    by_cases g : valP k x y < -2147483648 ∨ 2147483647 < valP k x y
    · rw [if_pos g]; exact .inr (.inl ⟨rfl, h, g⟩)
    · rw [if_neg g]; exact .inr (.inr ⟨rfl, h, by omega, by omega⟩)
/-- What Do tells of a kind and two Itvs, in words. -/
structure DoOk (k a0 a1 b0 b1 z0 z1 : Int) (ov dz : Bool) : Prop where
  norm : (z0 = 1 ∧ z1 = 0) ∨ (z0 ≤ z1 ∧ -2147483648 ≤ z0 ∧ z1 ≤ 2147483647)
  has : ∀ x y, a0 ≤ x → x ≤ a1 → b0 ≤ y → y ≤ b1 → errP k x y = 0 → z0 ≤ valP k x y ∧ valP k x y ≤ z1
  over : ∀ x y, a0 ≤ x → x ≤ a1 → b0 ≤ y → y ≤ b1 → errP k x y = 2 → ov = true
  zero : dz = (decide (7 ≤ k) && decide (b0 ≤ 0 ∧ 0 ≤ b1))
  sure : k ≤ 5 ∨ (a0 = a1 ∧ b0 = b1) → ov = true → ∃ x y, a0 ≤ x ∧ x ≤ a1 ∧ b0 ≤ y ∧ y ≤ b1 ∧ errP k x y = 2
  alone : a0 = a1 ∧ b0 = b1 → (errP k a0 b0 ≠ 0 → z0 = 1 ∧ z1 = 0) ∧ (errP k a0 b0 = 0 → z0 = valP k a0 b0 ∧ z1 = valP k a0 b0)
/-- From the ends' least and greatest one on. -/
theorem ends_ok (k a0 a1 b0 b1 L H z0 z1 : Int) (ov dz : Bool) (ha : a0 ≤ a1) (hb : b0 ≤ b1) (hz : dz = (decide (7 ≤ k) && decide (b0 ≤ 0 ∧ 0 ≤ b1))) (hk : k ≤ 6) (e : ofP L H = (z0, z1)) (ho : ov = (decide (L < -2147483648) || decide (2147483647 < H)))
    (hin : ∀ x y, a0 ≤ x → x ≤ a1 → b0 ≤ y → y ≤ b1 → L ≤ valP k x y ∧ valP k x y ≤ H)
    (hw : k ≤ 5 ∨ (a0 = a1 ∧ b0 = b1) → ∃ x y x' y', a0 ≤ x ∧ x ≤ a1 ∧ b0 ≤ y ∧ y ≤ b1 ∧ valP k x y = L ∧ a0 ≤ x' ∧ x' ≤ a1 ∧ b0 ≤ y' ∧ y' ≤ b1 ∧ valP k x' y' = H) : DoOk k a0 a1 b0 b1 z0 z1 ov dz := by
  have t := ofP_or L H z0 z1 e
  have e0 : ov = true ↔ L < -2147483648 ∨ 2147483647 < H := by rw [ho]; simp
  refine ⟨by omega, fun x y x0 x1 y0 y1 h => ?_, fun x y x0 x1 y0 y1 h => ?_, hz, fun hs ht => ?_, fun hal => ?_⟩
  · have u := hin x y x0 x1 y0 y1
    have v := errP_or k x y
    omega
  · have u := hin x y x0 x1 y0 y1
    have v := errP_or k x y
    exact e0.2 (by omega)
  · obtain ⟨x, y, x', y', g0, g1, g2, g3, g4, g5, g6, g7, g8, g9⟩ := hw hs
    rcases e0.1 ht with h | h
    · exact ⟨x, y, g0, g1, g2, g3, by have v := errP_or k x y; omega⟩
    · exact ⟨x', y', g5, g6, g7, g8, by have v := errP_or k x' y'; omega⟩
  · obtain ⟨x, y, x', y', g0, g1, g2, g3, g4, g5, g6, g7, g8, g9⟩ := hw (.inr hal)
    obtain ⟨rfl, rfl⟩ := hal
    obtain rfl : x = a0 := by omega
    obtain rfl : y = b0 := by omega
    obtain rfl : x' = x := by omega
    obtain rfl : y' = y := by omega
    clear hin hw e0 e ho hz
    have v := errP_or k x' y'
    exact ⟨fun h => by omega, fun h => by omega⟩
end Go.Proofs.YtlgmofjjjhbgkaaGreat
