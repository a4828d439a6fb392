/-
  flow.Out of a graph of one edge; step's mover at an assignment that errs.
-/
import Derived.Test.YtmcomhjfpegieaaHa
import Derived.Test.YtmcomhjfpegieaaSd
import Derived.Deep.RegionWith
namespace Go.Proofs.Ytmcomhjfpegieaa
open Go.RowKit
variable {ek em ex : Int} {EA : Option Addr} {en ec : Nat}

theorem bel_drewN {B : Nat} {a w : World} (h : Below B a w) (n : Nat) : Below B a (w.drewN n) := ⟨h.os, h.tape, h.output, h.size, h.block⟩
set_option maxRecDepth 100000 in
set_option maxHeartbeats 2000000 in
theorem out_one {HH : Option Addr} {hc : Nat} (N : Int) (x0 ce : Nat) (w : World) (hce : 1 ≤ ce) (h0 : x0 < w.heap.size) (he : w.rangeAt x0 0 [.int .i64 0, .int .i64 1, .int .i64 1, .int .i64 0, .int .i64 0, .int .i64 0, .int .i64 ek, .int .i64 em, .int .i64 ex, .slice EA en ec, .int .i64 0, .int .i64 0, .int .i64 0, .int .i64 0, .slice none 0 0, .int .i64 0, .int .i64 0, .int .i64 0, .slice none 0 0]) :
    Calls Try.prog 48 #[.agg #[.int .i64 N, .slice (some ⟨x0, 0, none⟩) 1 ce, .slice HH 0 hc], .int .i64 0] w (OneOut w 3 (.int .i64 0)) := by
  obtain ⟨ii, hii, iz0, iz1, iz2⟩ := info_parts info_int
  replace hii := Lib.hid hii
  replace he := Lib.hid he
  go_enter Try.func48, Try.ntmps48
  go_wp2_with fail
  refine wp_world (fun W => Below w.heap.size w W) ((Below.refl _ _).alloc (Nat.le_refl _) _) ?_
  intro w0 hB0
  have hz0 := hB0.size
  have he0 := Lib.hid (range_keep hB0 h0 he.out)
  refine wp_loop_rounds 2 ?_
  rw [rounds_succ]
  go_upto_region 5 with (first | (refine ld_mid 28 _ rfl _ _ rfl [.int .i64 0, .int .i64 1, .int .i64 1, .int .i64 0, .int .i64 0, .int .i64 0, .int .i64 ek, .int .i64 em, .int .i64 ex, .slice EA en ec, .int .i64 0, .int .i64 0, .int .i64 0, .int .i64 0, .slice none 0 0, .int .i64 0, .int .i64 0, .int .i64 0, .slice none 0 0] _ he0.out Try.underlying28 rfl info_edge rfl ?_) | (refine wpList_store_new rfl 28 _ _ rfl rfl _ _ _ _ rfl (by first | assumption | rfl | (simp; done) | (simp; omega)) rfl rfl info_edge rfl (by kernel_rfl) ?_))
  refine wp_world (fun W => W.heap[w0.heap.size]? = some (.cells #[.int .i64 0, .int .i64 1, .int .i64 1, .int .i64 0, .int .i64 0, .int .i64 0, .int .i64 ek, .int .i64 em, .int .i64 ex, .slice EA en ec, .int .i64 0, .int .i64 0, .int .i64 0, .int .i64 0, .slice none 0 0, .int .i64 0, .int .i64 0, .int .i64 0, .slice none 0 0] 28 (0, 0)) ∧ Below w.heap.size w W ∧ W.heap.size = w0.heap.size + 1) ⟨blkA _ _ rfl, hB0.alloc hB0.size _, by simp⟩ ?_
  rintro w1 ⟨k1, hB1, hs1⟩
  have hz1 := hB1.size
  have hlt1 := blk_lt k1
  clear hs1
  have r1 := row_of k1
  replace k1 := Lib.hid k1
  go_upto_region 7 with (refine wpList_append_lies _ rfl _ _ _ rfl w.heap.size 3 ii (.int .i64 0) 1 8 Try.underlying30 hii.out iz0 iz1 iz2 rfl ?c0 (.slice none 0 0) 0 [] rfl (World.ownsRow_nil _ _ _ _) ⟨w1.heap.size, 0, none⟩ 1 1 [.int .i64 0] rfl rfl (World.news_of_block (cs := #[.int .i64 0]) (t := 3) (fr := (0, 0)) (blkA _ _ rfl)) ?c1 ?c2 ?c3 ?c4 (by simp; omega) (w1.heap.size + 1) (by simp) ?_)
  case c0 => decide
  case c1 => simp [Value.oneCell']
  case c2 => decide
  case c3 => unfold maxLen; decide
  case c4 => decide
  intro g2 cap2 w2 hown2 hgrow _ _
  have hb2 : Below w.heap.size w w2 := below_grown hgrow (hB1.alloc hB1.size _) (Nat.le_refl _) (fun b hb => by simp [Value.ownBlock] at hb)
  replace hown2 := Lib.hid hown2
  clear hgrow
  go_wp2_with fail
  rw [rounds_succ]
  go_wp2_with fail
  go_ret
  exact ⟨g2, cap2, rfl, hown2.out, hb2⟩

set_option maxRecDepth 100000 in
set_option maxHeartbeats 2000000 in
theorem vars_one (m v cv b c : Nat) (w : World) (hcv : 1 ≤ cv) (h0 : w.cell? ⟨m, 0, none⟩ = some (.int .i64 0)) (h6 : w.cell? ⟨m, 6, none⟩ = some (.slice (some ⟨v, 0, none⟩) 1 cv)) (hv : w.cell? ⟨v, 0, none⟩ = some (.slice (some ⟨b, 0, none⟩) 1 c)) :
    Calls Try.prog 61 #[.pointer (some ⟨m, 0, none⟩)] w fun e w' => e = .returned (.slice (some ⟨b, 0, none⟩) 1 c) ∧ ∃ n, w' = w.drewN n := by
  go_enter Try.func61, Try.ntmps61
  go_wp2_with fail
  go_quiet (fail)
  go_wp2_with fail
  go_ret
  exact ⟨rfl, _, rfl⟩

set_option maxRecDepth 100000 in
set_option maxHeartbeats 4000000 in
theorem assign_err (f : Int) (hf : (f == 0) = false) (m v cv b c : Nat) (w : World) (hcv : 1 ≤ cv) (hm : m < w.heap.size) (hv0 : v < w.heap.size) (h0 : w.cell? ⟨m, 0, none⟩ = some (.int .i64 0)) (h6 : w.cell? ⟨m, 6, none⟩ = some (.slice (some ⟨v, 0, none⟩) 1 cv)) (hv : w.cell? ⟨v, 0, none⟩ = some (.slice (some ⟨b, 0, none⟩) 1 c))
    (hE : EvOk w (.agg #[.int .i64 ek, .int .i64 em, .int .i64 ex, .slice EA en ec]) (.slice (some ⟨b, 0, none⟩) 1 c) (0, f)) :
    Calls Try.prog 58 #[.pointer (some ⟨m, 0, none⟩), .agg #[.int .i64 0, .int .i64 1, .int .i64 1, .int .i64 0, .int .i64 0, .int .i64 0, .int .i64 ek, .int .i64 em, .int .i64 ex, .slice EA en ec, .int .i64 0, .int .i64 0, .int .i64 0, .int .i64 0, .slice none 0 0, .int .i64 0, .int .i64 0, .int .i64 0, .slice none 0 0]] w fun e w' => e = .returned (.int .i64 f) ∧ Below w.heap.size w w' := by
  replace hE := Lib.hid hE
  go_enter Try.func58, Try.ntmps58
  go_wp2_with fail
  refine wp_world (fun W => W.heap[w.heap.size]? = some (.cells #[.int .i64 0, .int .i64 1, .int .i64 1, .int .i64 0, .int .i64 0, .int .i64 0, .int .i64 ek, .int .i64 em, .int .i64 ex, .slice EA en ec, .int .i64 0, .int .i64 0, .int .i64 0, .int .i64 0, .slice none 0 0, .int .i64 0, .int .i64 0, .int .i64 0, .slice none 0 0] 28 (0, 0)) ∧ Below w.heap.size w W) ⟨blkA _ _ rfl, (Below.refl _ _).alloc (Nat.le_refl _) _⟩ ?_
  rintro w0 ⟨k0, hB0⟩
  have r0 := row_of k0
  have g0 := (hB0.cell (p := ⟨m, 0, none⟩) hm).trans h0
  have g6 := (hB0.cell (p := ⟨m, 6, none⟩) hm).trans h6
  have gv := (hB0.cell (p := ⟨v, 0, none⟩) hv0).trans hv
  replace k0 := Lib.hid k0
  clear h0 h6 hv
  go_region_with (first
    | (go_at_call 61; refine (vars_one m v cv b c _ hcv (by simp [*]) (by simp [*]) (by simp [*])).mono ?_; rintro e wv ⟨rfl, nv, rfl⟩)
    | (go_at_call 10; refine (hE.out _ (bel_drewN hB0 _)).mono ?_; rintro e w2 ⟨rfl, hb2⟩))
  all_goals
    go_wp2_with fail
    exact bodyPost_ret (v := .int .i64 f) (by simp [results, Try.results58, go_sem]) rfl ⟨rfl, hB0.trans ((bel_drewN (Below.refl _ _) _).trans (hb2.mono (Nat.le_refl _)) |>.mono hB0.size)⟩
end Go.Proofs.Ytmcomhjfpegieaa

