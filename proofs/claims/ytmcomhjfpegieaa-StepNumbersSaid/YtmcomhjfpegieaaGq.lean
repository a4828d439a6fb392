/-
  flow.Right of the graph of one assignment; Not.
-/
import Derived.Test.YtmcomhjfpegieaaGn
import Derived.Test.YtmcomhjfpegieaaGp
namespace Go.Proofs.Ytmcomhjfpegieaa
open Go.RowKit
variable {ek em ex : Int} {EA : Option Addr} {en ec : Nat}

set_option maxRecDepth 100000 in
set_option maxHeartbeats 8000000 in
theorem graph_right {HH : Option Addr} {hc : Nat} (G cg V cv x0 ce : Nat) (w : World) (hcg : 1 ≤ cg) (hcv : 1 ≤ cv) (hce : 1 ≤ ce) (hG : G < w.heap.size) (hV : V < w.heap.size) (hx : x0 < w.heap.size)
    (hg : w.rangeAt G 0 [.int .i64 2, .slice (some ⟨x0, 0, none⟩) 1 ce, .slice HH 0 hc]) (hv : w.cell? ⟨V, 0, none⟩ = some (.int .i64 1)) (he : w.rangeAt x0 0 [.int .i64 0, .int .i64 1, .int .i64 1, .int .i64 0, .int .i64 0, .int .i64 0, .int .i64 ek, .int .i64 em, .int .i64 ex, .slice EA en ec, .int .i64 0, .int .i64 0, .int .i64 0, .int .i64 0, .slice none 0 0, .int .i64 0, .int .i64 0, .int .i64 0, .slice none 0 0]) (hst : StOk w none 0 0 0 1 [.int .i64 1, .int .i64 0, .int .i64 0, .int .i64 0, .int .i64 ek, .int .i64 em, .int .i64 ex, .slice EA en ec, .int .i64 0, .int .i64 0, .int .i64 0, .int .i64 0, .slice none 0 0, .int .i64 0, .int .i64 0, .int .i64 0, .slice none 0 0, .slice none 0 0, .slice none 0 0, .slice none 0 0]) :
    Calls Try.prog 18 #[.agg #[.slice none 0 0, .slice (some ⟨G, 0, none⟩) 1 cg, .slice (some ⟨V, 0, none⟩) 1 cv]] w fun e w' => e = .returned (.bool true) ∧ Below w.heap.size w w' := by
  replace he := Lib.hid he
  replace hst := Lib.hid hst
  replace hg := Lib.hid hg
  replace hv := Lib.hid hv
  go_enter Try.func18, Try.ntmps18
  go_upto_region 4 with fail
  refine wp_world (fun W => W.heap[w.heap.size]? = some (.cells #[.slice none 0 0, .slice (some ⟨G, 0, none⟩) 1 cg, .slice (some ⟨V, 0, none⟩) 1 cv] 36 (0, 0)) ∧ Below w.heap.size w W ∧ W.heap.size = w.heap.size + 1) ⟨blkA _ _ rfl, (Below.refl _ _).alloc (Nat.le_refl _) _, by simp⟩ ?_
  rintro w0 ⟨k0, hB0, hs0⟩
  have r0 := row_of k0
  have hlt0 := blk_lt k0
  have hg0 := Lib.hid (range_keep hB0 hG hg.out)
  replace k0 := Lib.hid k0
  refine wp_loop_rounds 2 ?_
  rw [rounds_succ]
  go_wp2_with (refine ld_mid 32 _ rfl _ _ rfl [.int .i64 2, .slice (some ⟨x0, 0, none⟩) 1 ce, .slice HH 0 hc] _ hg0.out Try.underlying32 rfl (by kernel_rfl) rfl ?_)
  refine (shape_one x0 ce _ hce (by simp; omega) (range_keep (hB0.alloc hB0.size _) hx he.out)).mono ?_
  rintro e w1 ⟨rfl, hb1⟩
  have q0 := blk_keep hb1 (blkUp k0.out _)
  have hB1 : Below w.heap.size w w1 := (hB0.alloc hB0.size _).trans (hb1.mono (by simp; omega))
  clear hb1 r0 k0 hg0 hB0 hs0
  have r0 := row_of q0
  have hlt1 := blk_lt q0
  clear q0
  go_wp2_with fail
  rw [rounds_succ]
  go_wp2_with fail
  have hz1 := hB1.size
  refine (edges_one G cg V cv x0 ce _ hcg hcv hce (by omega) (by omega) (by omega) (range_keep hB1 hG hg.out) ((hB1.cell (p := ⟨V, 0, none⟩) hV).trans hv.out) (range_keep hB1 hx he.out) (fun W hW => hst.out W (hB1.trans (hW.mono hB1.size)))).mono ?_
  rintro e w2 ⟨rfl, hb2⟩
  have hB2 := hB1.trans (hb2.mono hB1.size)
  go_wp2_with fail
  go_ret
  exact ⟨rfl, hB2⟩

theorem not_three (w : World) : Calls Try.prog 17 #[.int .i64 3] w fun e w' => e = .returned (.int .i64 6) ∧ w = w' := by
  go_enter Try.func17, Try.ntmps17
  go_wp2
  go_ret
  exact ⟨rfl, rfl⟩
end Go.Proofs.Ytmcomhjfpegieaa

