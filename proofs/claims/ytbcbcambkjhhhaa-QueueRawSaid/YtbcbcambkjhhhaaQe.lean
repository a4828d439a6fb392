/-
  queue.None: of one to four tags.
-/
import Derived.Test.YtbcbcambkjhhhaaQd
namespace Go.Proofs.Ytbcbcambkjhhhaa
open Go.RowKit
/-- An Elem that is told: how many messages, and a row of one's own of so many Itvs. -/
def ElemOut (w : World) (l h : Int) (xs : List (Int × Int)) (e : Ending) (w' : World) : Prop := ∃ g cap, e = .returned (.agg #[.int .i64 l, .int .i64 h, .slice (some ⟨g, 0, none⟩) xs.length cap]) ∧ ElemAt w' w.heap.size 48 g cap xs ∧ Below w.heap.size w w'
theorem elem_base {W : World} {b b' : Nat} {t : TypeId} {g cap : Nat} {xs : List (Int × Int)} (h : ElemAt W b' t g cap xs) (hb : b ≤ b') : ElemAt W b t g cap xs := by
  refine ⟨h.1, ?_⟩
  rcases h.2 with h0 | ⟨g', cap', cur, e, hg, h1⟩
  · exact .inl h0
  · exact .inr ⟨g', cap', cur, e, Nat.le_trans hb hg, h1⟩
theorem elem_same {W W' : World} {b : Nat} {t : TypeId} {g cap : Nat} {xs : List (Int × Int)} (h : ElemAt W b t g cap xs) (hk : ∀ x, W.heap[g]? = some x → W'.heap[g]? = some x) : ElemAt W' b t g cap xs := own_same h hk
theorem elem_ge {W : World} {b : Nat} {t : TypeId} {g cap : Nat} {xs : List (Int × Int)} (h : ElemAt W b t g cap xs) : b ≤ g ∧ g < W.heap.size := h.lt g rfl
set_option maxRecDepth 100000 in
set_option maxHeartbeats 2000000 in
theorem none_1 (ck cs cf ct : Int) (R : Option Addr) (rn rc : Nat) (w : World) :
    Calls Try.prog 30 #[.agg #[.int .i64 ck, .int .i64 cs, .int .i64 cf, .int .i64 ct, .int .i64 1, .slice R rn rc]] w (ElemOut w 0 0 (List.replicate 1 (1, 0))) := by
  have c0 := Lib.hid (fun W => const_in 0 W (by decide) (by decide))
  go_enter Try.func30, Try.ntmps30
  go_upto_region 1 with fail
  refine wp_world (fun W => W.heap[w.heap.size]? = some (.cells #[.int .i64 ck, .int .i64 cs, .int .i64 cf, .int .i64 ct, .int .i64 1, .slice R rn rc] 71 (0, 0)) ∧ W.heap[w.heap.size + 1]? = some (.cells #[.int .i64 0, .int .i64 0, .slice none 0 0] 51 (0, 0)) ∧ Below w.heap.size w W) ⟨blkUp (blkA _ _ (by first | rfl | simp only [World.size_alloc])) _, blkA _ _ (by first | rfl | simp only [World.size_alloc]), ((Below.refl _ _).alloc (by first | exact Nat.le_refl _ | (simp only [World.size_alloc]; omega)) _).alloc (by first | exact Nat.le_refl _ | (simp only [World.size_alloc]; omega)) _⟩ ?_
  rintro w1 ⟨k0, k1, hB⟩
  have r0 := row_of k0
  have f0 := frozen_of k0
  have z0 := blk_lt k0
  have r1 := row_of k1
  have f1 := frozen_of k1
  have z1 := blk_lt k1
  go_wp2_with fail
  refine (c0.out _).mono ?_
  rintro e w2 ⟨rfl, hb⟩
  replace k0 := blk_keep hb k0
  replace k1 := blk_keep hb k1
  replace hB := hB.trans (hb.mono hB.size)
  clear r0 f0 z0 r1 f1 z1
  clear hb
  have r0 := row_of k0
  have f0 := frozen_of k0
  have z0 := blk_lt k0
  have r1 := row_of k1
  have f1 := frozen_of k1
  have z1 := blk_lt k1
  go_upto_region 2 with fail
  have hz1_0 : w.heap.size < w2.heap.size := blk_lt k0
  have hz1_1 : w.heap.size + 1 < w2.heap.size := blk_lt k1
  refine wp_world (fun W => W.heap[w.heap.size]? = some (.cells #[.int .i64 ck, .int .i64 cs, .int .i64 cf, .int .i64 ct, .int .i64 1, .slice R rn rc] 71 (0, 0)) ∧ W.heap[w.heap.size + 1]? = some (.cells #[.int .i64 0, .int .i64 0, .slice none 0 0] 51 (0, 0)) ∧ W.heap[w2.heap.size]? = some (.cells #[.int .i64 0, .int .i64 0, .slice none 0 0] 51 (0, 0)) ∧ Below w.heap.size w W) ⟨blkUp (k0) _, blkUp (k1) _, blkA _ _ (by first | rfl | simp only [World.size_alloc]), (hB).alloc (by first | exact hB.size | (simp only [World.size_alloc]; omega)) _⟩ ?_
  clear r0 f0 z0 r1 f1 z1
  clear hB k0 k1
  rintro w3 ⟨k0, k1, k2, hB⟩
  have r0 := row_of k0
  have f0 := frozen_of k0
  have z0 := blk_lt k0
  have r1 := row_of k1
  have f1 := frozen_of k1
  have z1 := blk_lt k1
  have r2 := row_of k2
  have f2 := frozen_of k2
  have z2 := blk_lt k2
  go_upto_region 3 with fail
  clear r0 f0 z0 r1 f1 z1 r2 f2 z2
  have tn0 : w.heap.size + 1 < w2.heap.size := by omega
  replace hB := hB.drew
  have s0 : w3.drew.heap[w.heap.size]? = some (.cells #[.int .i64 ck, .int .i64 cs, .int .i64 cf, .int .i64 ct, .int .i64 1, .slice R rn rc] 71 (0, 0)) := k0
  have s1 : w3.drew.heap[w.heap.size + 1]? = some (.cells #[.int .i64 0, .int .i64 0, .slice none 0 0] 51 (0, 0)) := k1
  have s2 : w3.drew.heap[w2.heap.size]? = some (.cells #[.int .i64 0, .int .i64 0, .slice none 0 0] 51 (0, 0)) := k2
  clear k0 k1 k2
  have hS0 : w3.drew.cell? ⟨w.heap.size, 4, none⟩ = some (.int .i64 1) := row_of s0 4
  go_region_held3 (fun W => W.cell? ⟨w.heap.size, 4, none⟩ = some (.int .i64 1))
      (first | assumption | exact hS0 | exact row_of s0 4 | exact row_of (blkUp s0 _) 4 | exact (row_of (blk_set s0 (by omega)) 4))
      (first
        | (go_at_call 78; (with_reducible refine (none_any _).mono ?_); rintro e wn ⟨rfl, hbS⟩; replace s0 := blk_keep hbS s0; replace s1 := blk_keep hbS s1; replace s2 := blk_keep hbS s2; replace hB := hB.trans (hbS.mono hB.size); have hS1 : wn.cell? ⟨w.heap.size, 4, none⟩ = some (.int .i64 1) := row_of s0 4)
        | (go_at_call 77; refine (repeat_1 _ _ (blkA _ _ rfl)).mono ?_; rintro e wm ⟨gg, rfl, hE, hbS⟩; replace s0 := blk_keep hbS (blkUp s0 _); replace s1 := blk_keep hbS (blkUp s1 _); have t2 := blk_lt s2; replace s2 := blk_keep hbS (blkUp s2 _); replace hB := (hB.alloc hB.size _).trans (hbS.mono (Nat.le_trans hB.size (by simp only [World.size_alloc]; omega))); have hS2 : wm.cell? ⟨w.heap.size, 4, none⟩ = some (.int .i64 1) := row_of s0 4; have r2 := row_of s2; have f2 := frozen_of s2; have z2 := blk_lt s2; have r1 := row_of s1; have f1 := frozen_of s1; have z1 := blk_lt s1; have tn : w.heap.size + 1 < w2.heap.size := tn0; have hE2 := Lib.hid (elem_base hE (show w2.heap.size + 1 ≤ _ by simp only [World.size_alloc]; omega)); clear hE))
  go_wp2_with fail
  generalize hWF : (World.setCell (World.setCell (World.setCell (World.setCell _ _ _) _ _) _ _) _ _) = WF
  obtain ⟨kF, kO, bF, _⟩ := put3 (blk_set s1 (by omega)) _ _ _ hWF.symm
  clear hWF r1 f1 r2 f2
  have rF := row_of kF
  have q := elem_ge hE2.out
  exact bodyPost_ret (v := .agg #[.int .i64 0, .int .i64 0, .slice (some ⟨gg, 0, none⟩) 1 1]) (by simp [results, Try.results30, go_sem, rF]) rfl ⟨gg, 1, rfl, elem_base (elem_same hE2.out (fun x hx => kO _ x (by omega) (blk_set hx (by omega)))) (by omega), (hB.setCell (p := ⟨w2.heap.size, 2, none⟩) (by show w.heap.size ≤ w2.heap.size; omega) _).trans (bF _ (by omega))⟩
set_option maxRecDepth 100000 in
set_option maxHeartbeats 2000000 in
theorem none_2 (ck cs cf ct : Int) (R : Option Addr) (rn rc : Nat) (w : World) :
    Calls Try.prog 30 #[.agg #[.int .i64 ck, .int .i64 cs, .int .i64 cf, .int .i64 ct, .int .i64 2, .slice R rn rc]] w (ElemOut w 0 0 (List.replicate 2 (1, 0))) := by
  have c0 := Lib.hid (fun W => const_in 0 W (by decide) (by decide))
  go_enter Try.func30, Try.ntmps30
  go_upto_region 1 with fail
  refine wp_world (fun W => W.heap[w.heap.size]? = some (.cells #[.int .i64 ck, .int .i64 cs, .int .i64 cf, .int .i64 ct, .int .i64 2, .slice R rn rc] 71 (0, 0)) ∧ W.heap[w.heap.size + 1]? = some (.cells #[.int .i64 0, .int .i64 0, .slice none 0 0] 51 (0, 0)) ∧ Below w.heap.size w W) ⟨blkUp (blkA _ _ (by first | rfl | simp only [World.size_alloc])) _, blkA _ _ (by first | rfl | simp only [World.size_alloc]), ((Below.refl _ _).alloc (by first | exact Nat.le_refl _ | (simp only [World.size_alloc]; omega)) _).alloc (by first | exact Nat.le_refl _ | (simp only [World.size_alloc]; omega)) _⟩ ?_
  rintro w1 ⟨k0, k1, hB⟩
  have r0 := row_of k0
  have f0 := frozen_of k0
  have z0 := blk_lt k0
  have r1 := row_of k1
  have f1 := frozen_of k1
  have z1 := blk_lt k1
  go_wp2_with fail
  refine (c0.out _).mono ?_
  rintro e w2 ⟨rfl, hb⟩
  replace k0 := blk_keep hb k0
  replace k1 := blk_keep hb k1
  replace hB := hB.trans (hb.mono hB.size)
  clear r0 f0 z0 r1 f1 z1
  clear hb
  have r0 := row_of k0
  have f0 := frozen_of k0
  have z0 := blk_lt k0
  have r1 := row_of k1
  have f1 := frozen_of k1
  have z1 := blk_lt k1
  go_upto_region 2 with fail
  have hz1_0 : w.heap.size < w2.heap.size := blk_lt k0
  have hz1_1 : w.heap.size + 1 < w2.heap.size := blk_lt k1
  refine wp_world (fun W => W.heap[w.heap.size]? = some (.cells #[.int .i64 ck, .int .i64 cs, .int .i64 cf, .int .i64 ct, .int .i64 2, .slice R rn rc] 71 (0, 0)) ∧ W.heap[w.heap.size + 1]? = some (.cells #[.int .i64 0, .int .i64 0, .slice none 0 0] 51 (0, 0)) ∧ W.heap[w2.heap.size]? = some (.cells #[.int .i64 0, .int .i64 0, .slice none 0 0] 51 (0, 0)) ∧ Below w.heap.size w W) ⟨blkUp (k0) _, blkUp (k1) _, blkA _ _ (by first | rfl | simp only [World.size_alloc]), (hB).alloc (by first | exact hB.size | (simp only [World.size_alloc]; omega)) _⟩ ?_
  clear r0 f0 z0 r1 f1 z1
  clear hB k0 k1
  rintro w3 ⟨k0, k1, k2, hB⟩
  have r0 := row_of k0
  have f0 := frozen_of k0
  have z0 := blk_lt k0
  have r1 := row_of k1
  have f1 := frozen_of k1
  have z1 := blk_lt k1
  have r2 := row_of k2
  have f2 := frozen_of k2
  have z2 := blk_lt k2
  go_upto_region 3 with fail
  clear r0 f0 z0 r1 f1 z1 r2 f2 z2
  have tn0 : w.heap.size + 1 < w2.heap.size := by omega
  replace hB := hB.drew
  have s0 : w3.drew.heap[w.heap.size]? = some (.cells #[.int .i64 ck, .int .i64 cs, .int .i64 cf, .int .i64 ct, .int .i64 2, .slice R rn rc] 71 (0, 0)) := k0
  have s1 : w3.drew.heap[w.heap.size + 1]? = some (.cells #[.int .i64 0, .int .i64 0, .slice none 0 0] 51 (0, 0)) := k1
  have s2 : w3.drew.heap[w2.heap.size]? = some (.cells #[.int .i64 0, .int .i64 0, .slice none 0 0] 51 (0, 0)) := k2
  clear k0 k1 k2
  have hS0 : w3.drew.cell? ⟨w.heap.size, 4, none⟩ = some (.int .i64 2) := row_of s0 4
  go_region_held3 (fun W => W.cell? ⟨w.heap.size, 4, none⟩ = some (.int .i64 2))
      (first | assumption | exact hS0 | exact row_of s0 4 | exact row_of (blkUp s0 _) 4 | exact (row_of (blk_set s0 (by omega)) 4))
      (first
        | (go_at_call 78; (with_reducible refine (none_any _).mono ?_); rintro e wn ⟨rfl, hbS⟩; replace s0 := blk_keep hbS s0; replace s1 := blk_keep hbS s1; replace s2 := blk_keep hbS s2; replace hB := hB.trans (hbS.mono hB.size); have hS1 : wn.cell? ⟨w.heap.size, 4, none⟩ = some (.int .i64 2) := row_of s0 4)
        | (go_at_call 77; refine (repeat_2 _ _ (blkA _ _ rfl)).mono ?_; rintro e wm ⟨gg, rfl, hE, hbS⟩; replace s0 := blk_keep hbS (blkUp s0 _); replace s1 := blk_keep hbS (blkUp s1 _); have t2 := blk_lt s2; replace s2 := blk_keep hbS (blkUp s2 _); replace hB := (hB.alloc hB.size _).trans (hbS.mono (Nat.le_trans hB.size (by simp only [World.size_alloc]; omega))); have hS2 : wm.cell? ⟨w.heap.size, 4, none⟩ = some (.int .i64 2) := row_of s0 4; have r2 := row_of s2; have f2 := frozen_of s2; have z2 := blk_lt s2; have r1 := row_of s1; have f1 := frozen_of s1; have z1 := blk_lt s1; have tn : w.heap.size + 1 < w2.heap.size := tn0; have hE2 := Lib.hid (elem_base hE (show w2.heap.size + 1 ≤ _ by simp only [World.size_alloc]; omega)); clear hE))
  go_wp2_with fail
  generalize hWF : (World.setCell (World.setCell (World.setCell (World.setCell _ _ _) _ _) _ _) _ _) = WF
  obtain ⟨kF, kO, bF, _⟩ := put3 (blk_set s1 (by omega)) _ _ _ hWF.symm
  clear hWF r1 f1 r2 f2
  have rF := row_of kF
  have q := elem_ge hE2.out
  exact bodyPost_ret (v := .agg #[.int .i64 0, .int .i64 0, .slice (some ⟨gg, 0, none⟩) 2 2]) (by simp [results, Try.results30, go_sem, rF]) rfl ⟨gg, 2, rfl, elem_base (elem_same hE2.out (fun x hx => kO _ x (by omega) (blk_set hx (by omega)))) (by omega), (hB.setCell (p := ⟨w2.heap.size, 2, none⟩) (by show w.heap.size ≤ w2.heap.size; omega) _).trans (bF _ (by omega))⟩
set_option maxRecDepth 100000 in
set_option maxHeartbeats 2000000 in
theorem none_3 (ck cs cf ct : Int) (R : Option Addr) (rn rc : Nat) (w : World) :
    Calls Try.prog 30 #[.agg #[.int .i64 ck, .int .i64 cs, .int .i64 cf, .int .i64 ct, .int .i64 3, .slice R rn rc]] w (ElemOut w 0 0 (List.replicate 3 (1, 0))) := by
  have c0 := Lib.hid (fun W => const_in 0 W (by decide) (by decide))
  go_enter Try.func30, Try.ntmps30
  go_upto_region 1 with fail
  refine wp_world (fun W => W.heap[w.heap.size]? = some (.cells #[.int .i64 ck, .int .i64 cs, .int .i64 cf, .int .i64 ct, .int .i64 3, .slice R rn rc] 71 (0, 0)) ∧ W.heap[w.heap.size + 1]? = some (.cells #[.int .i64 0, .int .i64 0, .slice none 0 0] 51 (0, 0)) ∧ Below w.heap.size w W) ⟨blkUp (blkA _ _ (by first | rfl | simp only [World.size_alloc])) _, blkA _ _ (by first | rfl | simp only [World.size_alloc]), ((Below.refl _ _).alloc (by first | exact Nat.le_refl _ | (simp only [World.size_alloc]; omega)) _).alloc (by first | exact Nat.le_refl _ | (simp only [World.size_alloc]; omega)) _⟩ ?_
  rintro w1 ⟨k0, k1, hB⟩
  have r0 := row_of k0
  have f0 := frozen_of k0
  have z0 := blk_lt k0
  have r1 := row_of k1
  have f1 := frozen_of k1
  have z1 := blk_lt k1
  go_wp2_with fail
  refine (c0.out _).mono ?_
  rintro e w2 ⟨rfl, hb⟩
  replace k0 := blk_keep hb k0
  replace k1 := blk_keep hb k1
  replace hB := hB.trans (hb.mono hB.size)
  clear r0 f0 z0 r1 f1 z1
  clear hb
  have r0 := row_of k0
  have f0 := frozen_of k0
  have z0 := blk_lt k0
  have r1 := row_of k1
  have f1 := frozen_of k1
  have z1 := blk_lt k1
  go_upto_region 2 with fail
  have hz1_0 : w.heap.size < w2.heap.size := blk_lt k0
  have hz1_1 : w.heap.size + 1 < w2.heap.size := blk_lt k1
  refine wp_world (fun W => W.heap[w.heap.size]? = some (.cells #[.int .i64 ck, .int .i64 cs, .int .i64 cf, .int .i64 ct, .int .i64 3, .slice R rn rc] 71 (0, 0)) ∧ W.heap[w.heap.size + 1]? = some (.cells #[.int .i64 0, .int .i64 0, .slice none 0 0] 51 (0, 0)) ∧ W.heap[w2.heap.size]? = some (.cells #[.int .i64 0, .int .i64 0, .slice none 0 0] 51 (0, 0)) ∧ Below w.heap.size w W) ⟨blkUp (k0) _, blkUp (k1) _, blkA _ _ (by first | rfl | simp only [World.size_alloc]), (hB).alloc (by first | exact hB.size | (simp only [World.size_alloc]; omega)) _⟩ ?_
  clear r0 f0 z0 r1 f1 z1
  clear hB k0 k1
  rintro w3 ⟨k0, k1, k2, hB⟩
  have r0 := row_of k0
  have f0 := frozen_of k0
  have z0 := blk_lt k0
  have r1 := row_of k1
  have f1 := frozen_of k1
  have z1 := blk_lt k1
  have r2 := row_of k2
  have f2 := frozen_of k2
  have z2 := blk_lt k2
  go_upto_region 3 with fail
  clear r0 f0 z0 r1 f1 z1 r2 f2 z2
  have tn0 : w.heap.size + 1 < w2.heap.size := by omega
  replace hB := hB.drew
  have s0 : w3.drew.heap[w.heap.size]? = some (.cells #[.int .i64 ck, .int .i64 cs, .int .i64 cf, .int .i64 ct, .int .i64 3, .slice R rn rc] 71 (0, 0)) := k0
  have s1 : w3.drew.heap[w.heap.size + 1]? = some (.cells #[.int .i64 0, .int .i64 0, .slice none 0 0] 51 (0, 0)) := k1
  have s2 : w3.drew.heap[w2.heap.size]? = some (.cells #[.int .i64 0, .int .i64 0, .slice none 0 0] 51 (0, 0)) := k2
  clear k0 k1 k2
  have hS0 : w3.drew.cell? ⟨w.heap.size, 4, none⟩ = some (.int .i64 3) := row_of s0 4
  go_region_held3 (fun W => W.cell? ⟨w.heap.size, 4, none⟩ = some (.int .i64 3))
      (first | assumption | exact hS0 | exact row_of s0 4 | exact row_of (blkUp s0 _) 4 | exact (row_of (blk_set s0 (by omega)) 4))
      (first
        | (go_at_call 78; (with_reducible refine (none_any _).mono ?_); rintro e wn ⟨rfl, hbS⟩; replace s0 := blk_keep hbS s0; replace s1 := blk_keep hbS s1; replace s2 := blk_keep hbS s2; replace hB := hB.trans (hbS.mono hB.size); have hS1 : wn.cell? ⟨w.heap.size, 4, none⟩ = some (.int .i64 3) := row_of s0 4)
        | (go_at_call 77; refine (repeat_3 _ _ (blkA _ _ rfl)).mono ?_; rintro e wm ⟨gg, rfl, hE, hbS⟩; replace s0 := blk_keep hbS (blkUp s0 _); replace s1 := blk_keep hbS (blkUp s1 _); have t2 := blk_lt s2; replace s2 := blk_keep hbS (blkUp s2 _); replace hB := (hB.alloc hB.size _).trans (hbS.mono (Nat.le_trans hB.size (by simp only [World.size_alloc]; omega))); have hS2 : wm.cell? ⟨w.heap.size, 4, none⟩ = some (.int .i64 3) := row_of s0 4; have r2 := row_of s2; have f2 := frozen_of s2; have z2 := blk_lt s2; have r1 := row_of s1; have f1 := frozen_of s1; have z1 := blk_lt s1; have tn : w.heap.size + 1 < w2.heap.size := tn0; have hE2 := Lib.hid (elem_base hE (show w2.heap.size + 1 ≤ _ by simp only [World.size_alloc]; omega)); clear hE))
  go_wp2_with fail
  generalize hWF : (World.setCell (World.setCell (World.setCell (World.setCell _ _ _) _ _) _ _) _ _) = WF
  obtain ⟨kF, kO, bF, _⟩ := put3 (blk_set s1 (by omega)) _ _ _ hWF.symm
  clear hWF r1 f1 r2 f2
  have rF := row_of kF
  have q := elem_ge hE2.out
  exact bodyPost_ret (v := .agg #[.int .i64 0, .int .i64 0, .slice (some ⟨gg, 0, none⟩) 3 3]) (by simp [results, Try.results30, go_sem, rF]) rfl ⟨gg, 3, rfl, elem_base (elem_same hE2.out (fun x hx => kO _ x (by omega) (blk_set hx (by omega)))) (by omega), (hB.setCell (p := ⟨w2.heap.size, 2, none⟩) (by show w.heap.size ≤ w2.heap.size; omega) _).trans (bF _ (by omega))⟩
set_option maxRecDepth 100000 in
set_option maxHeartbeats 2000000 in
theorem none_4 (ck cs cf ct : Int) (R : Option Addr) (rn rc : Nat) (w : World) :
    Calls Try.prog 30 #[.agg #[.int .i64 ck, .int .i64 cs, .int .i64 cf, .int .i64 ct, .int .i64 4, .slice R rn rc]] w (ElemOut w 0 0 (List.replicate 4 (1, 0))) := by
  have c0 := Lib.hid (fun W => const_in 0 W (by decide) (by decide))
  go_enter Try.func30, Try.ntmps30
  go_upto_region 1 with fail
  refine wp_world (fun W => W.heap[w.heap.size]? = some (.cells #[.int .i64 ck, .int .i64 cs, .int .i64 cf, .int .i64 ct, .int .i64 4, .slice R rn rc] 71 (0, 0)) ∧ W.heap[w.heap.size + 1]? = some (.cells #[.int .i64 0, .int .i64 0, .slice none 0 0] 51 (0, 0)) ∧ Below w.heap.size w W) ⟨blkUp (blkA _ _ (by first | rfl | simp only [World.size_alloc])) _, blkA _ _ (by first | rfl | simp only [World.size_alloc]), ((Below.refl _ _).alloc (by first | exact Nat.le_refl _ | (simp only [World.size_alloc]; omega)) _).alloc (by first | exact Nat.le_refl _ | (simp only [World.size_alloc]; omega)) _⟩ ?_
  rintro w1 ⟨k0, k1, hB⟩
  have r0 := row_of k0
  have f0 := frozen_of k0
  have z0 := blk_lt k0
  have r1 := row_of k1
  have f1 := frozen_of k1
  have z1 := blk_lt k1
  go_wp2_with fail
  refine (c0.out _).mono ?_
  rintro e w2 ⟨rfl, hb⟩
  replace k0 := blk_keep hb k0
  replace k1 := blk_keep hb k1
  replace hB := hB.trans (hb.mono hB.size)
  clear r0 f0 z0 r1 f1 z1
  clear hb
  have r0 := row_of k0
  have f0 := frozen_of k0
  have z0 := blk_lt k0
  have r1 := row_of k1
  have f1 := frozen_of k1
  have z1 := blk_lt k1
  go_upto_region 2 with fail
  have hz1_0 : w.heap.size < w2.heap.size := blk_lt k0
  have hz1_1 : w.heap.size + 1 < w2.heap.size := blk_lt k1
  refine wp_world (fun W => W.heap[w.heap.size]? = some (.cells #[.int .i64 ck, .int .i64 cs, .int .i64 cf, .int .i64 ct, .int .i64 4, .slice R rn rc] 71 (0, 0)) ∧ W.heap[w.heap.size + 1]? = some (.cells #[.int .i64 0, .int .i64 0, .slice none 0 0] 51 (0, 0)) ∧ W.heap[w2.heap.size]? = some (.cells #[.int .i64 0, .int .i64 0, .slice none 0 0] 51 (0, 0)) ∧ Below w.heap.size w W) ⟨blkUp (k0) _, blkUp (k1) _, blkA _ _ (by first | rfl | simp only [World.size_alloc]), (hB).alloc (by first | exact hB.size | (simp only [World.size_alloc]; omega)) _⟩ ?_
  clear r0 f0 z0 r1 f1 z1
  clear hB k0 k1
  rintro w3 ⟨k0, k1, k2, hB⟩
  have r0 := row_of k0
  have f0 := frozen_of k0
  have z0 := blk_lt k0
  have r1 := row_of k1
  have f1 := frozen_of k1
  have z1 := blk_lt k1
  have r2 := row_of k2
  have f2 := frozen_of k2
  have z2 := blk_lt k2
  go_upto_region 3 with fail
  clear r0 f0 z0 r1 f1 z1 r2 f2 z2
  have tn0 : w.heap.size + 1 < w2.heap.size := by omega
  replace hB := hB.drew
  have s0 : w3.drew.heap[w.heap.size]? = some (.cells #[.int .i64 ck, .int .i64 cs, .int .i64 cf, .int .i64 ct, .int .i64 4, .slice R rn rc] 71 (0, 0)) := k0
  have s1 : w3.drew.heap[w.heap.size + 1]? = some (.cells #[.int .i64 0, .int .i64 0, .slice none 0 0] 51 (0, 0)) := k1
  have s2 : w3.drew.heap[w2.heap.size]? = some (.cells #[.int .i64 0, .int .i64 0, .slice none 0 0] 51 (0, 0)) := k2
  clear k0 k1 k2
  have hS0 : w3.drew.cell? ⟨w.heap.size, 4, none⟩ = some (.int .i64 4) := row_of s0 4
  go_region_held3 (fun W => W.cell? ⟨w.heap.size, 4, none⟩ = some (.int .i64 4))
      (first | assumption | exact hS0 | exact row_of s0 4 | exact row_of (blkUp s0 _) 4 | exact (row_of (blk_set s0 (by omega)) 4))
      (first
        | (go_at_call 78; (with_reducible refine (none_any _).mono ?_); rintro e wn ⟨rfl, hbS⟩; replace s0 := blk_keep hbS s0; replace s1 := blk_keep hbS s1; replace s2 := blk_keep hbS s2; replace hB := hB.trans (hbS.mono hB.size); have hS1 : wn.cell? ⟨w.heap.size, 4, none⟩ = some (.int .i64 4) := row_of s0 4)
        | (go_at_call 77; refine (repeat_4 _ _ (blkA _ _ rfl)).mono ?_; rintro e wm ⟨gg, rfl, hE, hbS⟩; replace s0 := blk_keep hbS (blkUp s0 _); replace s1 := blk_keep hbS (blkUp s1 _); have t2 := blk_lt s2; replace s2 := blk_keep hbS (blkUp s2 _); replace hB := (hB.alloc hB.size _).trans (hbS.mono (Nat.le_trans hB.size (by simp only [World.size_alloc]; omega))); have hS2 : wm.cell? ⟨w.heap.size, 4, none⟩ = some (.int .i64 4) := row_of s0 4; have r2 := row_of s2; have f2 := frozen_of s2; have z2 := blk_lt s2; have r1 := row_of s1; have f1 := frozen_of s1; have z1 := blk_lt s1; have tn : w.heap.size + 1 < w2.heap.size := tn0; have hE2 := Lib.hid (elem_base hE (show w2.heap.size + 1 ≤ _ by simp only [World.size_alloc]; omega)); clear hE))
  go_wp2_with fail
  generalize hWF : (World.setCell (World.setCell (World.setCell (World.setCell _ _ _) _ _) _ _) _ _) = WF
  obtain ⟨kF, kO, bF, _⟩ := put3 (blk_set s1 (by omega)) _ _ _ hWF.symm
  clear hWF r1 f1 r2 f2
  have rF := row_of kF
  have q := elem_ge hE2.out
  exact bodyPost_ret (v := .agg #[.int .i64 0, .int .i64 0, .slice (some ⟨gg, 0, none⟩) 4 4]) (by simp [results, Try.results30, go_sem, rF]) rfl ⟨gg, 4, rfl, elem_base (elem_same hE2.out (fun x hx => kO _ x (by omega) (blk_set hx (by omega)))) (by omega), (hB.setCell (p := ⟨w2.heap.size, 2, none⟩) (by show w.heap.size ≤ w2.heap.size; omega) _).trans (bF _ (by omega))⟩
end Go.Proofs.Ytbcbcambkjhhhaa
