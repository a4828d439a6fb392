/-
  The reference's Send.
-/
import Derived.Test.YtgepaajhccadhaaQg
import Derived.Test.YtgepaajhccadhaaIx
namespace Go.Proofs.Ytgepaajhccadhaa
open Go.RowKit
def RElemOut (w : World) (l h : Int) (xs : List (Int × Int)) (e : Ending) (w' : World) : Prop := ∃ g cap, e = .returned (.agg #[.int .i64 l, .int .i64 h, .slice (some ⟨g, 0, none⟩) xs.length cap]) ∧ ElemAt w' w.heap.size 29 g cap xs ∧ Below w.heap.size w w'
theorem rcopy_n (l h : Int) (b c base n : Nat) (xs : List (Int × Int)) (w : World) (hm : xs.length = n) (hn : 0 < n) (hs : n ≤ 1000) (hx : ElemAt w base 29 b c xs) :
    Calls Try.prog 45 #[.agg #[.int .i64 l, .int .i64 h, .slice (some ⟨b, 0, none⟩) n c]] w fun e w' => ∃ g cap, e = .returned (.agg #[.int .i64 l, .int .i64 h, .slice (some ⟨g, 0, none⟩) n cap]) ∧ ElemAt w' w.heap.size 29 g cap xs ∧ Below w.heap.size w w' := by
  subst hm
  exact rcopy_any l h b c base xs w hn hs hx
set_option maxRecDepth 100000 in
set_option maxHeartbeats 4000000 in
theorem rsend_no1 (cs l h i0 i1 tag : Int) (b c base n : Nat) (xs : List (Int × Int)) (w : World) (hm : xs.length = n) (hn : 0 < n) (hs : n ≤ 1000) (hx : ElemAt w base 29 b c xs) (hi : i1 < i0) :
    Calls Try.prog 32 #[.int .i64 cs, .agg #[.int .i64 l, .int .i64 h, .slice (some ⟨b, 0, none⟩) n c], .int .i64 tag, .agg #[.int .i64 i0, .int .i64 i1]] w (RElemOut w l h xs) := by
  have hd0 : decide (i1 < i0) = true := decide_eq_true hi
  clear hi
  have hcp := Lib.hid (fun (W : World) (hW : Below w.heap.size w W) => rcopy_n l h b c base n xs W hm hn hs (own_keep hx hW))
  have hbw := (elem_ge hx).2
  replace hx := Lib.hid hx
  replace hm := Lib.hid hm
  go_enter Try.func32, Try.ntmps32
  go_upto_region 1 with fail
  refine wp_world (fun W => W.heap[w.heap.size]? = some (.cells #[.int .i64 l, .int .i64 h, .slice (some ⟨b, 0, none⟩) n c] 32 (0, 0)) ∧ W.heap[w.heap.size + 1]? = some (.cells #[.int .i64 i0, .int .i64 i1] 29 (0, 0)) ∧ W.heap[w.heap.size + 2]? = some (.cells #[.int .i64 0, .int .i64 0, .slice none 0 0] 32 (0, 0)) ∧ Below w.heap.size w W) ⟨blkUp (blkUp (blkA _ _ (by first | rfl | simp only [World.size_alloc])) _) _, blkUp (blkA _ _ (by first | rfl | simp only [World.size_alloc])) _, blkA _ _ (by first | rfl | simp only [World.size_alloc]), (((Below.refl _ _).alloc (by first | exact Nat.le_refl _ | (simp only [World.size_alloc]; omega)) _).alloc (by first | exact Nat.le_refl _ | (simp only [World.size_alloc]; omega)) _).alloc (by first | exact Nat.le_refl _ | (simp only [World.size_alloc]; omega)) _⟩ ?_
  rintro w1 ⟨k0, k1, k2, hB⟩
  have r0 := row_of k0
  have f0 := frozen_of k0
  have z0 := blk_lt k0
  have r1 := row_of k1
  have f1 := frozen_of k1
  have z1 := blk_lt k1
  have r2 := row_of k2
  have f2 := frozen_of k2
  have z2 := blk_lt k2
  have hq3 := blk_lt k2
  go_wp2_with fail
  refine (hcp.out _ hB).mono ?_
  rintro e w2 ⟨g, cap, rfl, hE, hb⟩
  replace k0 := blk_keep hb k0
  replace k1 := blk_keep hb k1
  replace k2 := blk_keep hb k2
  replace hB := hB.trans (hb.mono hB.size)
  clear r0 f0 z0 r1 f1 z1 r2 f2 z2
  clear hb
  have r0 := row_of k0
  have f0 := frozen_of k0
  have z0 := blk_lt k0
  have r1 := row_of k1
  have f1 := frozen_of k1
  have z1 := blk_lt k1
  have r2 := row_of k2
  have f2 := frozen_of k2
  have z2 := blk_lt k2
  go_upto_region 2 with fail
  have hz1_0 : w.heap.size < w2.heap.size := blk_lt k0
  have hz1_1 : w.heap.size + 1 < w2.heap.size := blk_lt k1
  have hz1_2 : w.heap.size + 2 < w2.heap.size := blk_lt k2
  refine wp_world (fun W => W.heap[w.heap.size]? = some (.cells #[.int .i64 l, .int .i64 h, .slice (some ⟨b, 0, none⟩) n c] 32 (0, 0)) ∧ W.heap[w.heap.size + 1]? = some (.cells #[.int .i64 i0, .int .i64 i1] 29 (0, 0)) ∧ W.heap[w.heap.size + 2]? = some (.cells #[.int .i64 0, .int .i64 0, .slice none 0 0] 32 (0, 0)) ∧ W.heap[w2.heap.size]? = some (.cells #[.int .i64 l, .int .i64 h, .slice (some ⟨g, 0, none⟩) n cap] 32 (0, 0)) ∧ ElemAt W w1.heap.size 29 g cap xs ∧ Below w.heap.size w W) ⟨blkUp (k0) _, blkUp (k1) _, blkUp (k2) _, blkA _ _ rfl, elem_up hE _, hB.alloc hB.size _⟩ ?_
  have hgg := elem_ge hE
  clear r0 f0 z0 r1 f1 z1 r2 f2 z2
  clear hE hB k0 k1 k2
  rintro w3 ⟨k0, k1, k2, k3, hE0, hB⟩
  replace hE0 := Lib.hid hE0
  have r0 := row_of k0
  have f0 := frozen_of k0
  have z0 := blk_lt k0
  have r1 := row_of k1
  have f1 := frozen_of k1
  have z1 := blk_lt k1
  have r2 := row_of k2
  have f2 := frozen_of k2
  have z2 := blk_lt k2
  have r3 := row_of k3
  have f3 := frozen_of k3
  have z3 := blk_lt k3
  go_wp2_with fail
  generalize hWF : (World.setCell (World.setCell (World.setCell _ _ _) _ _) _ _) = WF
  obtain ⟨kF, kO, bF, _⟩ := put3 k2 _ _ _ hWF.symm
  clear r0 f0 z0 r1 f1 z1 r2 f2 z2 r3 f3 z3
  clear hWF
  have rF := row_of kF
  have q := elem_ge hE0.out
  exact bodyPost_ret (v := .agg #[.int .i64 l, .int .i64 h, .slice (some ⟨g, 0, none⟩) n cap]) (by simp [results, Try.results32, go_sem, rF]) rfl ⟨g, cap, by rw [hm.out], elem_base (elem_same (hE0.out) (fun x hx => kO _ x (by omega) hx)) (by omega), hB.trans (bF _ (by omega))⟩
set_option maxRecDepth 100000 in
set_option maxHeartbeats 4000000 in
theorem rsend_no2 (cs l h i0 i1 tag : Int) (b c base n : Nat) (xs : List (Int × Int)) (w : World) (hm : xs.length = n) (hn : 0 < n) (hs : n ≤ 1000) (hx : ElemAt w base 29 b c xs) (hi : i0 ≤ i1) (ht : tag < 0) :
    Calls Try.prog 32 #[.int .i64 cs, .agg #[.int .i64 l, .int .i64 h, .slice (some ⟨b, 0, none⟩) n c], .int .i64 tag, .agg #[.int .i64 i0, .int .i64 i1]] w (RElemOut w l h xs) := by
  have hd0 : decide (i1 < i0) = false := decide_eq_false (by omega)
  have hd1 : decide (tag < 0) = true := decide_eq_true ht
  clear hi ht
  have hcp := Lib.hid (fun (W : World) (hW : Below w.heap.size w W) => rcopy_n l h b c base n xs W hm hn hs (own_keep hx hW))
  have hbw := (elem_ge hx).2
  replace hx := Lib.hid hx
  replace hm := Lib.hid hm
  go_enter Try.func32, Try.ntmps32
  go_upto_region 1 with fail
  refine wp_world (fun W => W.heap[w.heap.size]? = some (.cells #[.int .i64 l, .int .i64 h, .slice (some ⟨b, 0, none⟩) n c] 32 (0, 0)) ∧ W.heap[w.heap.size + 1]? = some (.cells #[.int .i64 i0, .int .i64 i1] 29 (0, 0)) ∧ W.heap[w.heap.size + 2]? = some (.cells #[.int .i64 0, .int .i64 0, .slice none 0 0] 32 (0, 0)) ∧ Below w.heap.size w W) ⟨blkUp (blkUp (blkA _ _ (by first | rfl | simp only [World.size_alloc])) _) _, blkUp (blkA _ _ (by first | rfl | simp only [World.size_alloc])) _, blkA _ _ (by first | rfl | simp only [World.size_alloc]), (((Below.refl _ _).alloc (by first | exact Nat.le_refl _ | (simp only [World.size_alloc]; omega)) _).alloc (by first | exact Nat.le_refl _ | (simp only [World.size_alloc]; omega)) _).alloc (by first | exact Nat.le_refl _ | (simp only [World.size_alloc]; omega)) _⟩ ?_
  rintro w1 ⟨k0, k1, k2, hB⟩
  have r0 := row_of k0
  have f0 := frozen_of k0
  have z0 := blk_lt k0
  have r1 := row_of k1
  have f1 := frozen_of k1
  have z1 := blk_lt k1
  have r2 := row_of k2
  have f2 := frozen_of k2
  have z2 := blk_lt k2
  have hq3 := blk_lt k2
  go_wp2_with fail
  refine (hcp.out _ hB).mono ?_
  rintro e w2 ⟨g, cap, rfl, hE, hb⟩
  replace k0 := blk_keep hb k0
  replace k1 := blk_keep hb k1
  replace k2 := blk_keep hb k2
  replace hB := hB.trans (hb.mono hB.size)
  clear r0 f0 z0 r1 f1 z1 r2 f2 z2
  clear hb
  have r0 := row_of k0
  have f0 := frozen_of k0
  have z0 := blk_lt k0
  have r1 := row_of k1
  have f1 := frozen_of k1
  have z1 := blk_lt k1
  have r2 := row_of k2
  have f2 := frozen_of k2
  have z2 := blk_lt k2
  go_upto_region 2 with fail
  have hz1_0 : w.heap.size < w2.heap.size := blk_lt k0
  have hz1_1 : w.heap.size + 1 < w2.heap.size := blk_lt k1
  have hz1_2 : w.heap.size + 2 < w2.heap.size := blk_lt k2
  refine wp_world (fun W => W.heap[w.heap.size]? = some (.cells #[.int .i64 l, .int .i64 h, .slice (some ⟨b, 0, none⟩) n c] 32 (0, 0)) ∧ W.heap[w.heap.size + 1]? = some (.cells #[.int .i64 i0, .int .i64 i1] 29 (0, 0)) ∧ W.heap[w.heap.size + 2]? = some (.cells #[.int .i64 0, .int .i64 0, .slice none 0 0] 32 (0, 0)) ∧ W.heap[w2.heap.size]? = some (.cells #[.int .i64 l, .int .i64 h, .slice (some ⟨g, 0, none⟩) n cap] 32 (0, 0)) ∧ ElemAt W w1.heap.size 29 g cap xs ∧ Below w.heap.size w W) ⟨blkUp (k0) _, blkUp (k1) _, blkUp (k2) _, blkA _ _ rfl, elem_up hE _, hB.alloc hB.size _⟩ ?_
  have hgg := elem_ge hE
  clear r0 f0 z0 r1 f1 z1 r2 f2 z2
  clear hE hB k0 k1 k2
  rintro w3 ⟨k0, k1, k2, k3, hE0, hB⟩
  replace hE0 := Lib.hid hE0
  have r0 := row_of k0
  have f0 := frozen_of k0
  have z0 := blk_lt k0
  have r1 := row_of k1
  have f1 := frozen_of k1
  have z1 := blk_lt k1
  have r2 := row_of k2
  have f2 := frozen_of k2
  have z2 := blk_lt k2
  have r3 := row_of k3
  have f3 := frozen_of k3
  have z3 := blk_lt k3
  go_wp2_with fail
  generalize hWF : (World.setCell (World.setCell (World.setCell _ _ _) _ _) _ _) = WF
  obtain ⟨kF, kO, bF, _⟩ := put3 k2 _ _ _ hWF.symm
  clear r0 f0 z0 r1 f1 z1 r2 f2 z2 r3 f3 z3
  clear hWF
  have rF := row_of kF
  have q := elem_ge hE0.out
  exact bodyPost_ret (v := .agg #[.int .i64 l, .int .i64 h, .slice (some ⟨g, 0, none⟩) n cap]) (by simp [results, Try.results32, go_sem, rF]) rfl ⟨g, cap, by rw [hm.out], elem_base (elem_same (hE0.out) (fun x hx => kO _ x (by omega) hx)) (by omega), hB.trans (bF _ (by omega))⟩
set_option maxRecDepth 100000 in
set_option maxHeartbeats 4000000 in
theorem rsend_no3 (cs l h i0 i1 tag : Int) (b c base n : Nat) (xs : List (Int × Int)) (w : World) (hm : xs.length = n) (hn : 0 < n) (hs : n ≤ 1000) (hx : ElemAt w base 29 b c xs) (hi : i0 ≤ i1) (ht : (n : Int) ≤ tag) :
    Calls Try.prog 32 #[.int .i64 cs, .agg #[.int .i64 l, .int .i64 h, .slice (some ⟨b, 0, none⟩) n c], .int .i64 tag, .agg #[.int .i64 i0, .int .i64 i1]] w (RElemOut w l h xs) := by
  have hd0 : decide (i1 < i0) = false := decide_eq_false (by omega)
  have hd1 : decide (tag < 0) = false := decide_eq_false (by omega)
  have hd2 : decide ((n : Int) ≤ tag) = true := decide_eq_true ht
  clear hi ht
  have hcp := Lib.hid (fun (W : World) (hW : Below w.heap.size w W) => rcopy_n l h b c base n xs W hm hn hs (own_keep hx hW))
  have hbw := (elem_ge hx).2
  replace hx := Lib.hid hx
  replace hm := Lib.hid hm
  go_enter Try.func32, Try.ntmps32
  go_upto_region 1 with fail
  refine wp_world (fun W => W.heap[w.heap.size]? = some (.cells #[.int .i64 l, .int .i64 h, .slice (some ⟨b, 0, none⟩) n c] 32 (0, 0)) ∧ W.heap[w.heap.size + 1]? = some (.cells #[.int .i64 i0, .int .i64 i1] 29 (0, 0)) ∧ W.heap[w.heap.size + 2]? = some (.cells #[.int .i64 0, .int .i64 0, .slice none 0 0] 32 (0, 0)) ∧ Below w.heap.size w W) ⟨blkUp (blkUp (blkA _ _ (by first | rfl | simp only [World.size_alloc])) _) _, blkUp (blkA _ _ (by first | rfl | simp only [World.size_alloc])) _, blkA _ _ (by first | rfl | simp only [World.size_alloc]), (((Below.refl _ _).alloc (by first | exact Nat.le_refl _ | (simp only [World.size_alloc]; omega)) _).alloc (by first | exact Nat.le_refl _ | (simp only [World.size_alloc]; omega)) _).alloc (by first | exact Nat.le_refl _ | (simp only [World.size_alloc]; omega)) _⟩ ?_
  rintro w1 ⟨k0, k1, k2, hB⟩
  have r0 := row_of k0
  have f0 := frozen_of k0
  have z0 := blk_lt k0
  have r1 := row_of k1
  have f1 := frozen_of k1
  have z1 := blk_lt k1
  have r2 := row_of k2
  have f2 := frozen_of k2
  have z2 := blk_lt k2
  have hq3 := blk_lt k2
  go_wp2_with fail
  refine (hcp.out _ hB).mono ?_
  rintro e w2 ⟨g, cap, rfl, hE, hb⟩
  replace k0 := blk_keep hb k0
  replace k1 := blk_keep hb k1
  replace k2 := blk_keep hb k2
  replace hB := hB.trans (hb.mono hB.size)
  clear r0 f0 z0 r1 f1 z1 r2 f2 z2
  clear hb
  have r0 := row_of k0
  have f0 := frozen_of k0
  have z0 := blk_lt k0
  have r1 := row_of k1
  have f1 := frozen_of k1
  have z1 := blk_lt k1
  have r2 := row_of k2
  have f2 := frozen_of k2
  have z2 := blk_lt k2
  go_upto_region 2 with fail
  have hz1_0 : w.heap.size < w2.heap.size := blk_lt k0
  have hz1_1 : w.heap.size + 1 < w2.heap.size := blk_lt k1
  have hz1_2 : w.heap.size + 2 < w2.heap.size := blk_lt k2
  refine wp_world (fun W => W.heap[w.heap.size]? = some (.cells #[.int .i64 l, .int .i64 h, .slice (some ⟨b, 0, none⟩) n c] 32 (0, 0)) ∧ W.heap[w.heap.size + 1]? = some (.cells #[.int .i64 i0, .int .i64 i1] 29 (0, 0)) ∧ W.heap[w.heap.size + 2]? = some (.cells #[.int .i64 0, .int .i64 0, .slice none 0 0] 32 (0, 0)) ∧ W.heap[w2.heap.size]? = some (.cells #[.int .i64 l, .int .i64 h, .slice (some ⟨g, 0, none⟩) n cap] 32 (0, 0)) ∧ ElemAt W w1.heap.size 29 g cap xs ∧ Below w.heap.size w W) ⟨blkUp (k0) _, blkUp (k1) _, blkUp (k2) _, blkA _ _ rfl, elem_up hE _, hB.alloc hB.size _⟩ ?_
  have hgg := elem_ge hE
  clear r0 f0 z0 r1 f1 z1 r2 f2 z2
  clear hE hB k0 k1 k2
  rintro w3 ⟨k0, k1, k2, k3, hE0, hB⟩
  replace hE0 := Lib.hid hE0
  have r0 := row_of k0
  have f0 := frozen_of k0
  have z0 := blk_lt k0
  have r1 := row_of k1
  have f1 := frozen_of k1
  have z1 := blk_lt k1
  have r2 := row_of k2
  have f2 := frozen_of k2
  have z2 := blk_lt k2
  have r3 := row_of k3
  have f3 := frozen_of k3
  have z3 := blk_lt k3
  go_wp2_with fail
  generalize hWF : (World.setCell (World.setCell (World.setCell _ _ _) _ _) _ _) = WF
  obtain ⟨kF, kO, bF, _⟩ := put3 k2 _ _ _ hWF.symm
  clear r0 f0 z0 r1 f1 z1 r2 f2 z2 r3 f3 z3
  clear hWF
  have rF := row_of kF
  have q := elem_ge hE0.out
  exact bodyPost_ret (v := .agg #[.int .i64 l, .int .i64 h, .slice (some ⟨g, 0, none⟩) n cap]) (by simp [results, Try.results32, go_sem, rF]) rfl ⟨g, cap, by rw [hm.out], elem_base (elem_same (hE0.out) (fun x hx => kO _ x (by omega) hx)) (by omega), hB.trans (bF _ (by omega))⟩
set_option maxRecDepth 100000 in
set_option maxHeartbeats 4000000 in
theorem rsend_yes (cs l h i0 i1 p0 p1 j0 j1 o1 : Int) (b c base n : Nat) (xs : List (Int × Int)) (w : World) (hm : xs.length = n) (hn : 0 < n) (hs : n ≤ 1000) (hx : ElemAt w base 29 b c xs) (k : Nat) (hi : i0 ≤ i1) (hk : k < n) (hp : xs[k]? = some (p0, p1)) (hh : -9223372036854775808 ≤ h) (hh2 : h ≤ 9223372036854775806) (hj : rjoinP p0 p1 i0 i1 = (j0, j1)) (ho : (if cs < h + 1 then cs else h + 1) = o1) :
    Calls Try.prog 32 #[.int .i64 cs, .agg #[.int .i64 l, .int .i64 h, .slice (some ⟨b, 0, none⟩) n c], .int .i64 (k : Int), .agg #[.int .i64 i0, .int .i64 i1]] w (RElemOut w 0 o1 (xs.set k (j0, j1))) := by
  have hd0 : decide (i1 < i0) = false := decide_eq_false (by omega)
  have hd1 : decide ((k : Int) < 0) = false := decide_eq_false (by omega)
  have hd2 : decide (n ≤ k) = false := decide_eq_false (by omega)
  have hd3 : decide ((n : Int) ≤ (k : Int)) = false := decide_eq_false (by omega)
  have hjn := Lib.hid (fun W => by have t := rjoin_any p0 p1 i0 i1 W; rw [hj] at t; exact t)
  replace hp := Lib.hid hp
  replace ho := Lib.hid ho
  clear hi hj
  have hcp := Lib.hid (fun (W : World) (hW : Below w.heap.size w W) => rcopy_n l h b c base n xs W hm hn hs (own_keep hx hW))
  have hbw := (elem_ge hx).2
  replace hx := Lib.hid hx
  replace hm := Lib.hid hm
  go_enter Try.func32, Try.ntmps32
  go_upto_region 1 with fail
  refine wp_world (fun W => W.heap[w.heap.size]? = some (.cells #[.int .i64 l, .int .i64 h, .slice (some ⟨b, 0, none⟩) n c] 32 (0, 0)) ∧ W.heap[w.heap.size + 1]? = some (.cells #[.int .i64 i0, .int .i64 i1] 29 (0, 0)) ∧ W.heap[w.heap.size + 2]? = some (.cells #[.int .i64 0, .int .i64 0, .slice none 0 0] 32 (0, 0)) ∧ Below w.heap.size w W) ⟨blkUp (blkUp (blkA _ _ (by first | rfl | simp only [World.size_alloc])) _) _, blkUp (blkA _ _ (by first | rfl | simp only [World.size_alloc])) _, blkA _ _ (by first | rfl | simp only [World.size_alloc]), (((Below.refl _ _).alloc (by first | exact Nat.le_refl _ | (simp only [World.size_alloc]; omega)) _).alloc (by first | exact Nat.le_refl _ | (simp only [World.size_alloc]; omega)) _).alloc (by first | exact Nat.le_refl _ | (simp only [World.size_alloc]; omega)) _⟩ ?_
  rintro w1 ⟨k0, k1, k2, hB⟩
  have r0 := row_of k0
  have f0 := frozen_of k0
  have z0 := blk_lt k0
  have r1 := row_of k1
  have f1 := frozen_of k1
  have z1 := blk_lt k1
  have r2 := row_of k2
  have f2 := frozen_of k2
  have z2 := blk_lt k2
  have hq3 := blk_lt k2
  go_wp2_with fail
  refine (hcp.out _ hB).mono ?_
  rintro e w2 ⟨g, cap, rfl, hE, hb⟩
  replace k0 := blk_keep hb k0
  replace k1 := blk_keep hb k1
  replace k2 := blk_keep hb k2
  replace hB := hB.trans (hb.mono hB.size)
  clear r0 f0 z0 r1 f1 z1 r2 f2 z2
  clear hb
  have r0 := row_of k0
  have f0 := frozen_of k0
  have z0 := blk_lt k0
  have r1 := row_of k1
  have f1 := frozen_of k1
  have z1 := blk_lt k1
  have r2 := row_of k2
  have f2 := frozen_of k2
  have z2 := blk_lt k2
  go_upto_region 2 with fail
  have hz1_0 : w.heap.size < w2.heap.size := blk_lt k0
  have hz1_1 : w.heap.size + 1 < w2.heap.size := blk_lt k1
  have hz1_2 : w.heap.size + 2 < w2.heap.size := blk_lt k2
  refine wp_world (fun W => W.heap[w.heap.size]? = some (.cells #[.int .i64 l, .int .i64 h, .slice (some ⟨b, 0, none⟩) n c] 32 (0, 0)) ∧ W.heap[w.heap.size + 1]? = some (.cells #[.int .i64 i0, .int .i64 i1] 29 (0, 0)) ∧ W.heap[w.heap.size + 2]? = some (.cells #[.int .i64 0, .int .i64 0, .slice none 0 0] 32 (0, 0)) ∧ W.heap[w2.heap.size]? = some (.cells #[.int .i64 l, .int .i64 h, .slice (some ⟨g, 0, none⟩) n cap] 32 (0, 0)) ∧ ElemAt W w1.heap.size 29 g cap xs ∧ Below w.heap.size w W) ⟨blkUp (k0) _, blkUp (k1) _, blkUp (k2) _, blkA _ _ rfl, elem_up hE _, hB.alloc hB.size _⟩ ?_
  have hgg := elem_ge hE
  clear r0 f0 z0 r1 f1 z1 r2 f2 z2
  clear hE hB k0 k1 k2
  rintro w3 ⟨k0, k1, k2, k3, hE0, hB⟩
  replace hE0 := Lib.hid hE0
  have r0 := row_of k0
  have f0 := frozen_of k0
  have z0 := blk_lt k0
  have r1 := row_of k1
  have f1 := frozen_of k1
  have z1 := blk_lt k1
  have r2 := row_of k2
  have f2 := frozen_of k2
  have z2 := blk_lt k2
  have r3 := row_of k3
  have f3 := frozen_of k3
  have z3 := blk_lt k3
  go_upto_region 4 with fail
  clear hd0 hd1 hd2 hd3
  have ho2 := ho.out
  go_upto_region 5 with fail
  clear ho2
  refine wp_world (fun W => W.heap[w.heap.size]? = some (.cells #[.int .i64 l, .int .i64 h, .slice (some ⟨b, 0, none⟩) n c] 32 (0, 0)) ∧ W.heap[w.heap.size + 1]? = some (.cells #[.int .i64 i0, .int .i64 i1] 29 (0, 0)) ∧ W.heap[w.heap.size + 2]? = some (.cells #[.int .i64 0, .int .i64 0, .slice none 0 0] 32 (0, 0)) ∧ W.heap[w2.heap.size]? = some (.cells #[.int .i64 0, .int .i64 o1, .slice (some ⟨g, 0, none⟩) n cap] 32 (0, 0)) ∧ ElemAt W w1.heap.size 29 g cap xs ∧ ElemAt W base 29 b c xs ∧ Below w.heap.size w W) ⟨blk_set (blk_set k0 (by omega)) (by omega), blk_set (blk_set k1 (by omega)) (by omega), blk_set (blk_set k2 (by omega)) (by omega), set31 k3, elem_same hE0.out (fun x hx => blk_set (blk_set hx (by omega)) (by omega)), elem_same (elem_keep hx.out hB) (fun x hx => blk_set (blk_set hx (by omega)) (by omega)), (hB.setCell (p := ⟨w2.heap.size, 0, none⟩) (by show w.heap.size ≤ w2.heap.size; omega) _).setCell (p := ⟨w2.heap.size, 1, none⟩) (by show w.heap.size ≤ w2.heap.size; omega) _⟩ ?_
  clear r0 f0 z0 r1 f1 z1 r2 f2 z2 r3 f3 z3
  clear hB hE0 k0 k1 k2 k3
  rintro w4 ⟨k0, k1, k2, k3, hE0, hX, hB⟩
  have q := elem_ge hE0
  have hX2 := elem_cells hX hm.out hk hp.out
  replace hE0 := Lib.hid hE0
  have hk0 : (0 : Int) ≤ (k : Int) := by omega
  have hk1 : (k : Int) < (n : Int) := by omega
  have hbl : b < w4.heap.size := (elem_ge hX).2
  have mkS : ∀ W, Below w4.heap.size w4 W → (fun W => W.cell? ⟨w2.heap.size, 2, none⟩ = some (.slice (some ⟨g, 0, none⟩) n cap) ∧ W.cell? ⟨w.heap.size, 2, none⟩ = some (.slice (some ⟨b, 0, none⟩) n c) ∧ W.cell? ⟨b, k * 2, none⟩ = some (.int .i64 p0) ∧ W.cell? ⟨b, k * 2 + 1, none⟩ = some (.int .i64 p1) ∧ W.cell? ⟨w.heap.size + 1, 0, none⟩ = some (.int .i64 i0) ∧ W.cell? ⟨w.heap.size + 1, 1, none⟩ = some (.int .i64 i1)) W := fun W h => ⟨row_of (blk_keep h k3) 2, row_of (blk_keep h k0) 2, (h.cell (p := ⟨b, k * 2, none⟩) hbl).trans hX2.1, (h.cell (p := ⟨b, k * 2 + 1, none⟩) hbl).trans hX2.2, row_of (blk_keep h k1) 0, row_of (blk_keep h k1) 1⟩
  have n4 : w2.heap.size ≠ g := by omega
  have n1 : w.heap.size ≠ g := by omega
  have n2 : w.heap.size + 1 ≠ g := by omega
  have n3 : w.heap.size + 2 ≠ g := by omega
  have nb : b ≠ g := by omega
  have hbm := Lib.hid (fun (W : World) (u v : Value) (h : Below w4.heap.size w4 W) => elem_cells (elem_same (elem_keep hX h) (fun x hx => blk_set (W := (W.setCell ⟨g, k * 2, none⟩ u)) (o := k * 2 + 1) (v := v) (blk_set (o := k * 2) (v := u) hx nb) nb)) hm.out hk hp.out)
  have mkT : ∀ (W : World) (u v : Value), Below w4.heap.size w4 W → (fun W => W.cell? ⟨w2.heap.size, 2, none⟩ = some (.slice (some ⟨g, 0, none⟩) n cap) ∧ W.cell? ⟨w.heap.size, 2, none⟩ = some (.slice (some ⟨b, 0, none⟩) n c) ∧ W.cell? ⟨b, k * 2, none⟩ = some (.int .i64 p0) ∧ W.cell? ⟨b, k * 2 + 1, none⟩ = some (.int .i64 p1) ∧ W.cell? ⟨w.heap.size + 1, 0, none⟩ = some (.int .i64 i0) ∧ W.cell? ⟨w.heap.size + 1, 1, none⟩ = some (.int .i64 i1)) ((W.setCell ⟨g, k * 2, none⟩ u).setCell ⟨g, k * 2 + 1, none⟩ v) := fun W u v h => ⟨row_of (blk_set (blk_set (blk_keep h k3) n4) n4) 2, row_of (blk_set (blk_set (blk_keep h k0) n1) n1) 2, (hbm.out W u v h).1, (hbm.out W u v h).2, row_of (blk_set (blk_set (blk_keep h k1) n2) n2) 0, row_of (blk_set (blk_set (blk_keep h k1) n2) n2) 1⟩
  dsimp only at mkS mkT
  clear hbm
  have hBn := Below.refl w4.heap.size w4
  have s0 := k0
  have s1 := k1
  have s2 := k2
  have s3 := k3
  clear hX hX2 k0 k1 k2 k3
  go_region_held3 (fun W => W.cell? ⟨w2.heap.size, 2, none⟩ = some (.slice (some ⟨g, 0, none⟩) n cap) ∧ W.cell? ⟨w.heap.size, 2, none⟩ = some (.slice (some ⟨b, 0, none⟩) n c) ∧ W.cell? ⟨b, k * 2, none⟩ = some (.int .i64 p0) ∧ W.cell? ⟨b, k * 2 + 1, none⟩ = some (.int .i64 p1) ∧ W.cell? ⟨w.heap.size + 1, 0, none⟩ = some (.int .i64 i0) ∧ W.cell? ⟨w.heap.size + 1, 1, none⟩ = some (.int .i64 i1))
      (first | (with_reducible exact mkS _ hBn) | (with_reducible exact mkS _ (Below.drew hBn)) | (with_reducible exact mkT _ _ _ hBn))
      (first | (go_at_call 46; (with_reducible refine (hjn.out _).mono ?_); rintro e wn ⟨rfl, hbS⟩; (try (with_reducible replace hbS := below_undrew hbS)); replace hBn := below_tr hBn hbS; have hE1 := elem_keep hE0.out hBn; have hC := elem_cells hE1 hm.out hk hp.out; obtain ⟨hC0, hC1⟩ := hC; have hF := World.ownsRow.frozenAt hE1; have hlg : g < wn.heap.size := (elem_ge hE1).2; replace hE1 := Lib.hid hE1))
  go_upto_region 6 with fail
  refine wp_world (fun W => W.heap[w.heap.size + 2]? = some (.cells #[.int .i64 0, .int .i64 0, .slice none 0 0] 32 (0, 0)) ∧ W.heap[w2.heap.size]? = some (.cells #[.int .i64 0, .int .i64 o1, .slice (some ⟨g, 0, none⟩) n cap] 32 (0, 0)) ∧ ElemAt W w1.heap.size 29 g cap (xs.set k (j0, j1)) ∧ Below w.heap.size w W) ⟨blk_set (blk_set (blk_keep hBn s2) n3) n3, blk_set (blk_set (blk_keep hBn s3) n4) n4, elem_put (p := (j0, j1)) (elem_keep hE0.out hBn), ((below_tr hB hBn).setCell (p := ⟨g, k * 2, none⟩) (by show w.heap.size ≤ g; omega) _).setCell (p := ⟨g, k * 2 + 1, none⟩) (by show w.heap.size ≤ g; omega) _⟩ ?_
  clear hC0 hC1 hF hE1 hE0 hBn hB mkS mkT s0 s1 s2 s3 hk0 hk1
  rintro w9 ⟨k2, k3, hE0, hB⟩
  have r2 := row_of k2
  have f2 := frozen_of k2
  have z2 := blk_lt k2
  have r3 := row_of k3
  have f3 := frozen_of k3
  have z3 := blk_lt k3
  replace hE0 := Lib.hid hE0
  have hml : (xs.set k (j0, j1)).length = n := by rw [List.length_set]; exact hm.out
  replace hm := Lib.hid hml
  go_wp2_with fail
  generalize hWF : (World.setCell (World.setCell (World.setCell _ _ _) _ _) _ _) = WF
  obtain ⟨kF, kO, bF, _⟩ := put3 k2 _ _ _ hWF.symm
  clear r2 f2 z2 r3 f3 z3
  clear hWF
  have rF := row_of kF
  have q := elem_ge hE0.out
  exact bodyPost_ret (v := .agg #[.int .i64 0, .int .i64 o1, .slice (some ⟨g, 0, none⟩) n cap]) (by simp [results, Try.results32, go_sem, rF]) rfl ⟨g, cap, by rw [hm.out], elem_base (elem_same (hE0.out) (fun x hx => kO _ x (by omega) hx)) (by omega), hB.trans (bF _ (by omega))⟩
end Go.Proofs.Ytgepaajhccadhaa
