/-
  flow.statement of the edge of one assignment.
-/
import Derived.Test.YtmcomhjfpegieaaGb
import Derived.Test.YtmcomhjfpegieaaFc
namespace Go.Proofs.Ytmcomhjfpegieaa
open Go.RowKit
variable {ek em ex : Int} {EA : Option Addr} {en ec : Nat}

set_option maxRecDepth 100000 in
set_option maxHeartbeats 8000000 in
theorem statement_one (w : World) :
    Calls Try.prog 43 #[.agg #[.int .i64 0, .int .i64 1, .int .i64 1, .int .i64 0, .int .i64 0, .int .i64 0, .int .i64 ek, .int .i64 em, .int .i64 ex, .slice EA en ec, .int .i64 0, .int .i64 0, .int .i64 0, .int .i64 0, .slice none 0 0, .int .i64 0, .int .i64 0, .int .i64 0, .slice none 0 0]] w fun e w' => e = .returned (.agg #[.int .i64 1, .int .i64 0, .int .i64 0, .int .i64 0, .int .i64 ek, .int .i64 em, .int .i64 ex, .slice EA en ec, .int .i64 0, .int .i64 0, .int .i64 0, .int .i64 0, .slice none 0 0, .int .i64 0, .int .i64 0, .int .i64 0, .slice none 0 0, .slice none 0 0, .slice none 0 0, .slice none 0 0]) ∧ Below w.heap.size w w' := by
  go_enter Try.func43, Try.ntmps43
  go_upto_region 1 with fail
  refine wp_world (fun W => W.heap[w.heap.size]? = some (.cells #[.int .i64 0, .int .i64 1, .int .i64 1, .int .i64 0, .int .i64 0, .int .i64 0, .int .i64 ek, .int .i64 em, .int .i64 ex, .slice EA en ec, .int .i64 0, .int .i64 0, .int .i64 0, .int .i64 0, .slice none 0 0, .int .i64 0, .int .i64 0, .int .i64 0, .slice none 0 0] 28 (0, 0)) ∧ W.heap[w.heap.size + 1]? = some (.cells #[.int .i64 0, .int .i64 0, .int .i64 0, .int .i64 0, .int .i64 0, .int .i64 0, .int .i64 0, .slice none 0 0, .int .i64 0, .int .i64 0, .int .i64 0, .int .i64 0, .slice none 0 0, .int .i64 0, .int .i64 0, .int .i64 0, .slice none 0 0, .slice none 0 0, .slice none 0 0, .slice none 0 0] 121 (0, 0)) ∧ Below w.heap.size w W ∧ W.heap.size = w.heap.size + 2) ⟨blkUp (blkA _ _ rfl) _, blkA _ _ (by simp), ((Below.refl _ _).alloc (Nat.le_refl _) _).alloc (by simp) _, by simp⟩ ?_
  rintro w0 ⟨k0, k1, hB0, hs0⟩
  have r0 := row_of k0
  have hlt0 := blk_lt k0
  replace k0 := Lib.hid k0
  replace k1 := Lib.hid k1
  go_upto_region 3 with (refine wpList_store_new rfl 121 _ _ rfl rfl _ _ _ _ rfl (by first | assumption | (simp; done)) rfl rfl info_st rfl (by kernel_rfl) ?_)
  refine wp_world (fun W => W.heap[w.heap.size + 1]? = some (.cells #[.int .i64 0, .int .i64 0, .int .i64 0, .int .i64 0, .int .i64 0, .int .i64 0, .int .i64 0, .slice none 0 0, .int .i64 0, .int .i64 0, .int .i64 0, .int .i64 0, .slice none 0 0, .int .i64 0, .int .i64 0, .int .i64 0, .slice none 0 0, .slice none 0 0, .slice none 0 0, .slice none 0 0] 121 (0, 0)) ∧ W.heap[w.heap.size + 2]? = some (.cells #[.int .i64 0, .int .i64 0, .int .i64 0, .int .i64 0, .int .i64 ek, .int .i64 em, .int .i64 ex, .slice EA en ec, .int .i64 0, .int .i64 0, .int .i64 0, .int .i64 0, .slice none 0 0, .int .i64 0, .int .i64 0, .int .i64 0, .slice none 0 0, .slice none 0 0, .slice none 0 0, .slice none 0 0] 121 (0, 0)) ∧ Below w.heap.size w W ∧ W.heap.size = w.heap.size + 3) ⟨blkUp k1.out _, blkA _ _ hs0, hB0.alloc hB0.size _, by simp; exact hs0⟩ ?_
  rintro w1 ⟨q1, q2, hB1, hs1⟩
  clear r0 k0 k1 hB0 hs0
  have r2 := row_of q2
  have fz := frozen_of q2 0
  replace q1 := Lib.hid q1
  replace q2 := Lib.hid q2
  go_upto_region 16 with fail
  have hset : (w1.setCell ⟨w.heap.size + 2, 0, none⟩ (.int .i64 1)).heap[w.heap.size + 2]? = some (.cells #[.int .i64 1, .int .i64 0, .int .i64 0, .int .i64 0, .int .i64 ek, .int .i64 em, .int .i64 ex, .slice EA en ec, .int .i64 0, .int .i64 0, .int .i64 0, .int .i64 0, .slice none 0 0, .int .i64 0, .int .i64 0, .int .i64 0, .slice none 0 0, .slice none 0 0, .slice none 0 0, .slice none 0 0] 121 (0, 0)) := by simp [World.setCell, Array.getElem?_modify, q2.out]
  refine wp_world (fun W => W.heap[w.heap.size + 1]? = some (.cells #[.int .i64 0, .int .i64 0, .int .i64 0, .int .i64 0, .int .i64 0, .int .i64 0, .int .i64 0, .slice none 0 0, .int .i64 0, .int .i64 0, .int .i64 0, .int .i64 0, .slice none 0 0, .int .i64 0, .int .i64 0, .int .i64 0, .slice none 0 0, .slice none 0 0, .slice none 0 0, .slice none 0 0] 121 (0, 0)) ∧ W.heap[w.heap.size + 2]? = some (.cells #[.int .i64 1, .int .i64 0, .int .i64 0, .int .i64 0, .int .i64 ek, .int .i64 em, .int .i64 ex, .slice EA en ec, .int .i64 0, .int .i64 0, .int .i64 0, .int .i64 0, .slice none 0 0, .int .i64 0, .int .i64 0, .int .i64 0, .slice none 0 0, .slice none 0 0, .slice none 0 0, .slice none 0 0] 121 (0, 0)) ∧ Below w.heap.size w W) ⟨blk_set q1.out (by omega), hset, hB1.setCell (Nat.le_add_right _ _) _⟩ ?_
  rintro w2 ⟨m1, m2, hB2⟩
  clear r2 fz q1 q2 hset hB1 hs1
  replace m1 := Lib.hid m1
  replace m2 := Lib.hid m2
  go_wp2_with (first
    | (refine ld_row 121 _ rfl _ rfl _ _ _ _ m2.out Try.underlying121 rfl info_st rfl ?_)
    | (refine wpList_store_row rfl 121 _ _ rfl _ _ rfl rfl _ _ m1.out info_st rfl (by kernel_rfl) ?_))
  have hbs : Below w.heap.size w2 (w2.setRow (w.heap.size + 1) #[.int .i64 1, .int .i64 0, .int .i64 0, .int .i64 0, .int .i64 ek, .int .i64 em, .int .i64 ex, .slice EA en ec, .int .i64 0, .int .i64 0, .int .i64 0, .int .i64 0, .slice none 0 0, .int .i64 0, .int .i64 0, .int .i64 0, .slice none 0 0, .slice none 0 0, .slice none 0 0, .slice none 0 0]) := ⟨rfl, rfl, rfl, by simp, fun k hk => setRow_other _ _ _ _ (by omega)⟩
  exact bodyPost_ret (results_cell_row Try.results43 _ _ (w.heap.size + 1) _ _ _ _ rfl (setRow_heap w2 (w.heap.size + 1) _ #[.int .i64 1, .int .i64 0, .int .i64 0, .int .i64 0, .int .i64 ek, .int .i64 em, .int .i64 ex, .slice EA en ec, .int .i64 0, .int .i64 0, .int .i64 0, .int .i64 0, .slice none 0 0, .int .i64 0, .int .i64 0, .int .i64 0, .slice none 0 0, .slice none 0 0, .slice none 0 0, .slice none 0 0] _ _ m1.out) Try.underlying121 rfl info_st) rfl ⟨rfl, hB2.trans hbs⟩
end Go.Proofs.Ytmcomhjfpegieaa

