/-
  check's tests of a comparison and of the statements of the kinds Assign, Input, If and While.
-/
import Derived.Test.YtmcomhjfpegieaaFb
namespace Go.Proofs.Ytmcomhjfpegieaa
open Go.RowKit


set_option maxRecDepth 100000 in
set_option maxHeartbeats 2000000 in
theorem cond_right (A : Option Addr) (n c : Nat) (p v : Int) (o x y : Int) (ho : 1 ≤ o) (ho2 : o ≤ 6) (hx : 0 ≤ x) (hx2 : x ≤ 2147483647) (hy : 0 ≤ y) (hy2 : y ≤ 2147483647) (w : World) :
    Calls Try.prog 79 #[.agg #[.slice A n c, .int .i64 p, .int .i64 v], .agg #[.int .i64 o, .int .i64 1, .int .i64 x, .int .i64 0, .slice none 0 0, .int .i64 1, .int .i64 y, .int .i64 0, .slice none 0 0]] w fun e w' => e = .returned (.bool true) ∧ Below w.heap.size w w' := by
  go_enter Try.func79, Try.ntmps79
  go_wp2_with fail
  refine (exprNum_any A n c p v _ _ (by assumption) (by assumption)).mono ?_
  rintro e w1 ⟨rfl, hb1⟩
  have k1_0 := Lib.hid (blk_keep hb1 (b := w.heap.size) (blkUp (blkA _ _ (by simp only [World.size_alloc])) _))
  have k1_1 := Lib.hid (blk_keep hb1 (b := w.heap.size + 1) (blkA _ _ (by simp only [World.size_alloc])))
  have hB1 : Below w.heap.size w w1 := bel_up (by go_grown) (Nat.le_refl _) hb1
  have hz1 : w.heap.size + 2 ≤ w1.heap.size := by have := hb1.size; simp only [World.size_alloc] at this; omega
  clear hb1
  have r1_0 := row_of k1_0.out
  have r1_1 := row_of k1_1.out
  go_wp2_with fail
  refine (exprNum_any A n c p v _ _ (by assumption) (by assumption)).mono ?_
  rintro e w2 ⟨rfl, hb2⟩
  have k2_0 := Lib.hid (blk_keep hb2 k1_0.out)
  have k2_1 := Lib.hid (blk_keep hb2 k1_1.out)
  have hB2 : Below w.heap.size w w2 := bel_up hB1 (Nat.le_refl _) hb2
  have hz2 : w.heap.size + 2 ≤ w2.heap.size := Nat.le_trans hz1 hb2.size
  clear hb2 hB1 hz1 k1_0 r1_0 k1_1 r1_1
  have r2_0 := row_of k2_0.out
  have r2_1 := row_of k2_1.out
  go_wp2_with fail
  go_ret
  exact ⟨rfl, hB2⟩


set_option maxRecDepth 100000 in
set_option maxHeartbeats 2000000 in
theorem stmt_inp (A : Option Addr) (n c : Nat) (p v : Int) (u : Int) (hu : 0 ≤ u) (hu2 : u < v) (w : World) :
    Calls Try.prog 70 #[.agg #[.slice A n c, .int .i64 p, .int .i64 v], .agg #[.int .i64 7, .int .i64 u, .int .i64 0, .int .i64 0, .int .i64 0, .int .i64 0, .int .i64 0, .slice none 0 0, .int .i64 0, .int .i64 0, .int .i64 0, .int .i64 0, .slice none 0 0, .int .i64 0, .int .i64 0, .int .i64 0, .slice none 0 0, .slice none 0 0, .slice none 0 0, .slice none 0 0]] w fun e w' => e = .returned (.bool true) ∧ Below w.heap.size w w' := by
  go_enter Try.func70, Try.ntmps70
  go_upto_region 1 with fail
  refine wp_world (fun W => W.heap[w.heap.size]? = some (.cells #[.slice A n c, .int .i64 p, .int .i64 v] 137 (0, 0)) ∧ W.heap[w.heap.size + 1]? = some (.cells #[.int .i64 7, .int .i64 u, .int .i64 0, .int .i64 0, .int .i64 0, .int .i64 0, .int .i64 0, .slice none 0 0, .int .i64 0, .int .i64 0, .int .i64 0, .int .i64 0, .slice none 0 0, .int .i64 0, .int .i64 0, .int .i64 0, .slice none 0 0, .slice none 0 0, .slice none 0 0, .slice none 0 0] 121 (0, 0)) ∧ Below w.heap.size w W ∧ W.heap.size = w.heap.size + 2) ⟨blkUp (blkA _ _ rfl) _, blkA _ _ (by simp only [World.size_alloc]), ((Below.refl _ _).alloc (Nat.le_refl _) _).alloc (by simp only [World.size_alloc]; omega) _, by first | (simp only [World.size_alloc]; done) | (simp; done) | (simp; omega)⟩ ?_
  rintro w0 ⟨k0_0, k0_1, hB0, hs0⟩
  have r0_0 := row_of k0_0
  replace k0_0 := Lib.hid k0_0
  have r0_1 := row_of k0_1
  replace k0_1 := Lib.hid k0_1
  go_upto_region 24 with (first | (refine wpList_store_new rfl 121 _ _ rfl rfl _ _ _ _ rfl (by first | assumption | (simp; done)) rfl rfl info_st rfl (by kernel_rfl) ?_) | (refine ld_row 121 _ rfl _ rfl _ _ _ _ k0_1.out Try.underlying121 rfl info_st rfl ?_))
  refine wp_world (fun W => W.heap[w.heap.size]? = some (.cells #[.slice A n c, .int .i64 p, .int .i64 v] 137 (0, 0)) ∧ W.heap[w.heap.size + 1]? = some (.cells #[.int .i64 7, .int .i64 u, .int .i64 0, .int .i64 0, .int .i64 0, .int .i64 0, .int .i64 0, .slice none 0 0, .int .i64 0, .int .i64 0, .int .i64 0, .int .i64 0, .slice none 0 0, .int .i64 0, .int .i64 0, .int .i64 0, .slice none 0 0, .slice none 0 0, .slice none 0 0, .slice none 0 0] 121 (0, 0)) ∧ W.heap[w.heap.size + 2]? = some (.cells #[.int .i64 0, .int .i64 0, .int .i64 0, .int .i64 0, .int .i64 0, .int .i64 0, .int .i64 0, .slice none 0 0, .int .i64 0, .int .i64 0, .int .i64 0, .int .i64 0, .slice none 0 0, .int .i64 0, .int .i64 0, .int .i64 0, .slice none 0 0, .slice none 0 0, .slice none 0 0, .slice none 0 0] 121 (0, 0)) ∧ Below w.heap.size w W ∧ W.heap.size = w.heap.size + 3) ⟨blkUp k0_0.out _, blkUp k0_1.out _, blkA _ _ hs0, hB0.alloc (by rw [hs0]; omega) _, by first | (simp only [World.size_alloc]; done) | (simp; done) | (simp; omega)⟩ ?_
  rintro w1 ⟨k1_0, k1_1, k1_2, hB1, hs1⟩
  have r1_0 := row_of k1_0
  replace k1_0 := Lib.hid k1_0
  have r1_1 := row_of k1_1
  replace k1_1 := Lib.hid k1_1
  have r1_2 := row_of k1_2
  replace k1_2 := Lib.hid k1_2
  clear k0_0 k0_1 r0_0 r0_1 hB0 hs0
  go_wp2_with (first | (refine ld_row 121 _ rfl _ rfl _ _ _ _ k1_2.out Try.underlying121 rfl info_st rfl ?_) | (refine ld_row 121 _ rfl _ rfl _ _ _ _ k1_1.out Try.underlying121 rfl info_st rfl ?_))
  refine (var_yes A n c p v _ _ (by assumption) (by assumption)).mono ?_
  rintro e w2 ⟨rfl, hb2⟩
  have k2_0 := Lib.hid (blk_keep hb2 k1_0.out)
  have k2_1 := Lib.hid (blk_keep hb2 k1_1.out)
  have k2_2 := Lib.hid (blk_keep hb2 k1_2.out)
  have hB2 : Below w.heap.size w w2 := bel_up hB1 (Nat.le_refl _) hb2
  clear hb2 hB1 hs1 k1_0 r1_0 k1_1 r1_1 k1_2 r1_2
  have r2_0 := row_of k2_0.out
  have r2_1 := row_of k2_1.out
  have r2_2 := row_of k2_2.out
  go_wp2_with (first | (refine ld_row 121 _ rfl _ rfl _ _ _ _ k2_2.out Try.underlying121 rfl info_st rfl ?_) | (refine ld_row 121 _ rfl _ rfl _ _ _ _ k2_1.out Try.underlying121 rfl info_st rfl ?_))
  refine (nothing_any _).mono ?_
  rintro e w3 ⟨rfl, hb3⟩
  have k3_0 := Lib.hid (blk_keep hb3 k2_0.out)
  have k3_1 := Lib.hid (blk_keep hb3 k2_1.out)
  have k3_2 := Lib.hid (blk_keep hb3 k2_2.out)
  have hB3 : Below w.heap.size w w3 := bel_up hB2 (Nat.le_refl _) hb3
  clear hb3 hB2 k2_0 r2_0 k2_1 r2_1 k2_2 r2_2
  have r3_0 := row_of k3_0.out
  have r3_1 := row_of k3_1.out
  have r3_2 := row_of k3_2.out
  go_wp2_with fail
  go_ret
  exact ⟨rfl, hB3⟩


set_option maxRecDepth 100000 in
set_option maxHeartbeats 2000000 in
theorem stmt_asg (A : Option Addr) (n c : Nat) (p v : Int) (u x : Int) (hu : 0 ≤ u) (hu2 : u < v) (hx : 0 ≤ x) (hx2 : x ≤ 2147483647) (w : World) :
    Calls Try.prog 70 #[.agg #[.slice A n c, .int .i64 p, .int .i64 v], .agg #[.int .i64 1, .int .i64 u, .int .i64 0, .int .i64 0, .int .i64 1, .int .i64 x, .int .i64 0, .slice none 0 0, .int .i64 0, .int .i64 0, .int .i64 0, .int .i64 0, .slice none 0 0, .int .i64 0, .int .i64 0, .int .i64 0, .slice none 0 0, .slice none 0 0, .slice none 0 0, .slice none 0 0]] w fun e w' => e = .returned (.bool true) ∧ Below w.heap.size w w' := by
  go_enter Try.func70, Try.ntmps70
  go_upto_region 1 with fail
  refine wp_world (fun W => W.heap[w.heap.size]? = some (.cells #[.slice A n c, .int .i64 p, .int .i64 v] 137 (0, 0)) ∧ W.heap[w.heap.size + 1]? = some (.cells #[.int .i64 1, .int .i64 u, .int .i64 0, .int .i64 0, .int .i64 1, .int .i64 x, .int .i64 0, .slice none 0 0, .int .i64 0, .int .i64 0, .int .i64 0, .int .i64 0, .slice none 0 0, .int .i64 0, .int .i64 0, .int .i64 0, .slice none 0 0, .slice none 0 0, .slice none 0 0, .slice none 0 0] 121 (0, 0)) ∧ Below w.heap.size w W ∧ W.heap.size = w.heap.size + 2) ⟨blkUp (blkA _ _ rfl) _, blkA _ _ (by simp only [World.size_alloc]), ((Below.refl _ _).alloc (Nat.le_refl _) _).alloc (by simp only [World.size_alloc]; omega) _, by first | (simp only [World.size_alloc]; done) | (simp; done) | (simp; omega)⟩ ?_
  rintro w0 ⟨k0_0, k0_1, hB0, hs0⟩
  have r0_0 := row_of k0_0
  replace k0_0 := Lib.hid k0_0
  have r0_1 := row_of k0_1
  replace k0_1 := Lib.hid k0_1
  go_upto_region 6 with (first | (refine wpList_store_new rfl 121 _ _ rfl rfl _ _ _ _ rfl (by first | assumption | (simp; done)) rfl rfl info_st rfl (by kernel_rfl) ?_) | (refine ld_row 121 _ rfl _ rfl _ _ _ _ k0_1.out Try.underlying121 rfl info_st rfl ?_))
  refine wp_world (fun W => W.heap[w.heap.size]? = some (.cells #[.slice A n c, .int .i64 p, .int .i64 v] 137 (0, 0)) ∧ W.heap[w.heap.size + 1]? = some (.cells #[.int .i64 1, .int .i64 u, .int .i64 0, .int .i64 0, .int .i64 1, .int .i64 x, .int .i64 0, .slice none 0 0, .int .i64 0, .int .i64 0, .int .i64 0, .int .i64 0, .slice none 0 0, .int .i64 0, .int .i64 0, .int .i64 0, .slice none 0 0, .slice none 0 0, .slice none 0 0, .slice none 0 0] 121 (0, 0)) ∧ W.heap[w.heap.size + 2]? = some (.cells #[.int .i64 0, .int .i64 0, .int .i64 0, .int .i64 0, .int .i64 0, .int .i64 0, .int .i64 0, .slice none 0 0, .int .i64 0, .int .i64 0, .int .i64 0, .int .i64 0, .slice none 0 0, .int .i64 0, .int .i64 0, .int .i64 0, .slice none 0 0, .slice none 0 0, .slice none 0 0, .slice none 0 0] 121 (0, 0)) ∧ Below w.heap.size w W ∧ W.heap.size = w.heap.size + 3) ⟨blkUp k0_0.out _, blkUp k0_1.out _, blkA _ _ hs0, hB0.alloc (by rw [hs0]; omega) _, by first | (simp only [World.size_alloc]; done) | (simp; done) | (simp; omega)⟩ ?_
  rintro w1 ⟨k1_0, k1_1, k1_2, hB1, hs1⟩
  have r1_0 := row_of k1_0
  replace k1_0 := Lib.hid k1_0
  have r1_1 := row_of k1_1
  replace k1_1 := Lib.hid k1_1
  have r1_2 := row_of k1_2
  replace k1_2 := Lib.hid k1_2
  clear k0_0 k0_1 r0_0 r0_1 hB0 hs0
  go_wp2_with (first | (refine ld_row 121 _ rfl _ rfl _ _ _ _ k1_2.out Try.underlying121 rfl info_st rfl ?_) | (refine ld_row 121 _ rfl _ rfl _ _ _ _ k1_1.out Try.underlying121 rfl info_st rfl ?_))
  refine (var_yes A n c p v _ _ (by assumption) (by assumption)).mono ?_
  rintro e w2 ⟨rfl, hb2⟩
  have k2_0 := Lib.hid (blk_keep hb2 k1_0.out)
  have k2_1 := Lib.hid (blk_keep hb2 k1_1.out)
  have k2_2 := Lib.hid (blk_keep hb2 k1_2.out)
  have hB2 : Below w.heap.size w w2 := bel_up hB1 (Nat.le_refl _) hb2
  clear hb2 hB1 hs1 k1_0 r1_0 k1_1 r1_1 k1_2 r1_2
  have r2_0 := row_of k2_0.out
  have r2_1 := row_of k2_1.out
  have r2_2 := row_of k2_2.out
  go_wp2_with (first | (refine ld_row 121 _ rfl _ rfl _ _ _ _ k2_2.out Try.underlying121 rfl info_st rfl ?_) | (refine ld_row 121 _ rfl _ rfl _ _ _ _ k2_1.out Try.underlying121 rfl info_st rfl ?_))
  refine (exprNum_any A n c p v _ _ (by assumption) (by assumption)).mono ?_
  rintro e w3 ⟨rfl, hb3⟩
  have k3_0 := Lib.hid (blk_keep hb3 k2_0.out)
  have k3_1 := Lib.hid (blk_keep hb3 k2_1.out)
  have k3_2 := Lib.hid (blk_keep hb3 k2_2.out)
  have hB3 : Below w.heap.size w w3 := bel_up hB2 (Nat.le_refl _) hb3
  clear hb3 hB2 k2_0 r2_0 k2_1 r2_1 k2_2 r2_2
  have r3_0 := row_of k3_0.out
  have r3_1 := row_of k3_1.out
  have r3_2 := row_of k3_2.out
  go_wp2_with (first | (refine ld_row 121 _ rfl _ rfl _ _ _ _ k3_2.out Try.underlying121 rfl info_st rfl ?_) | (refine ld_row 121 _ rfl _ rfl _ _ _ _ k3_1.out Try.underlying121 rfl info_st rfl ?_))
  refine (nothing_any _).mono ?_
  rintro e w4 ⟨rfl, hb4⟩
  have k4_0 := Lib.hid (blk_keep hb4 k3_0.out)
  have k4_1 := Lib.hid (blk_keep hb4 k3_1.out)
  have k4_2 := Lib.hid (blk_keep hb4 k3_2.out)
  have hB4 : Below w.heap.size w w4 := bel_up hB3 (Nat.le_refl _) hb4
  clear hb4 hB3 k3_0 r3_0 k3_1 r3_1 k3_2 r3_2
  have r4_0 := row_of k4_0.out
  have r4_1 := row_of k4_1.out
  have r4_2 := row_of k4_2.out
  go_wp2_with fail
  go_ret
  exact ⟨rfl, hB4⟩

end Go.Proofs.Ytmcomhjfpegieaa
