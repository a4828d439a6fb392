/-
  flow.shapeRight of the graph of one assignment.
-/
import Derived.Test.YtmcomhjfpegieaaGm
import Derived.Deep.CutBlock
import Derived.Deep.CutRange
namespace Go.Proofs.Ytmcomhjfpegieaa
open Go.RowKit
variable {ek em ex : Int} {EA : Option Addr} {en ec : Nat}

section
attribute [local go_sem ↓] to_LoadS

def ShapeCut (HH : Option Addr) (hc : Nat) (w : World) (x0 ce lv : Nat) (wx : World) : Prop := ∃ X cx, wx.heap[lv]? = some (.cells #[.slice (some ⟨X, 0, none⟩) 1 cx, .slice none 0 0] 29 (0, 0)) ∧ wx.ownsRow (lv + 2) 28 19 (.slice (some ⟨X, 0, none⟩) 1 cx) 1 [.int .i64 0, .int .i64 1, .int .i64 1, .int .i64 0, .int .i64 0, .int .i64 0, .int .i64 ek, .int .i64 em, .int .i64 ex, .slice EA en ec, .int .i64 0, .int .i64 0, .int .i64 0, .int .i64 0, .slice none 0 0, .int .i64 0, .int .i64 0, .int .i64 0, .slice none 0 0] ∧ wx.heap[w.heap.size]? = some (.cells #[.int .i64 2, .slice (some ⟨x0, 0, none⟩) 1 ce, .slice HH 0 hc] 32 (0, 0)) ∧ Below w.heap.size w wx

set_option maxRecDepth 100000 in
set_option maxHeartbeats 8000000 in
theorem shape_one {HH : Option Addr} {hc : Nat} (x0 ce : Nat) (w : World) (hce : 1 ≤ ce) (h0 : x0 < w.heap.size) (he : w.rangeAt x0 0 [.int .i64 0, .int .i64 1, .int .i64 1, .int .i64 0, .int .i64 0, .int .i64 0, .int .i64 ek, .int .i64 em, .int .i64 ex, .slice EA en ec, .int .i64 0, .int .i64 0, .int .i64 0, .int .i64 0, .slice none 0 0, .int .i64 0, .int .i64 0, .int .i64 0, .slice none 0 0]) :
    Calls Try.prog 30 #[.agg #[.int .i64 2, .slice (some ⟨x0, 0, none⟩) 1 ce, .slice HH 0 hc]] w fun e w' => e = .returned (.bool true) ∧ Below w.heap.size w w' := by
  replace he := Lib.hid he
  obtain ⟨ii, hii, iz0, iz1, iz2⟩ := info_parts info_edge'
  replace hii := Lib.hid hii
  go_enter Try.func30, Try.ntmps30
  go_wp2_with fail
  refine (heads_nil 2 (some ⟨x0, 0, none⟩) 1 ce _).mono ?_
  rintro e w1 ⟨rfl, hb1⟩
  have k0 := blk_keep hb1 (blkA _ _ rfl)
  have hB1 : Below w.heap.size w w1 := ((Below.refl _ _).alloc (Nat.le_refl _) _).trans (hb1.mono (by simp))
  clear hb1
  have r0 := row_of k0
  have hlt1 := blk_lt k0
  replace k0 := Lib.hid k0
  have hmk := mk2_edges
  go_upto_region 5 with fail
  clear hmk
  refine wp_world (fun W => W.heap[w.heap.size]? = some (.cells #[.int .i64 2, .slice (some ⟨x0, 0, none⟩) 1 ce, .slice HH 0 hc] 32 (0, 0)) ∧ W.heap[w1.heap.size]? = some (.cells #[.slice none 0 0, .slice none 0 0] 29 (0, 0)) ∧ Below w.heap.size w W ∧ W.heap.size = w1.heap.size + 1) ⟨blkUp k0.out _, blkA _ _ rfl, hB1.alloc hB1.size _, by simp⟩ ?_
  rintro w2 ⟨q0, q1, hB2, hs2⟩
  clear r0 k0
  have r0 := row_of q0
  have hlt2 : w.heap.size < w2.heap.size := blk_lt q0
  have he2 := Lib.hid (range_keep hB2 h0 he.out)
  replace q0 := Lib.hid q0
  replace q1 := Lib.hid q1
  refine wp_loop_rounds 2 ?_
  rw [rounds_succ]
  go_upto_block 1 with fail
  go_cut [] from 34 to 60 (fun wx => ShapeCut (ek := ek) (em := em) (ex := ex) (EA := EA) (en := en) (ec := ec) HH hc w x0 ce w1.heap.size wx)
  case first =>
    go_upto_region 7 with (first | (refine ld_mid 28 _ rfl _ _ rfl [.int .i64 0, .int .i64 1, .int .i64 1, .int .i64 0, .int .i64 0, .int .i64 0, .int .i64 ek, .int .i64 em, .int .i64 ex, .slice EA en ec, .int .i64 0, .int .i64 0, .int .i64 0, .int .i64 0, .slice none 0 0, .int .i64 0, .int .i64 0, .int .i64 0, .slice none 0 0] _ he2.out Try.underlying28 rfl info_edge rfl ?_) | (refine wpList_store_new rfl 28 _ _ rfl rfl _ _ _ _ rfl (by first | assumption | rfl | (simp; done) | (simp; omega)) rfl rfl info_edge rfl (by kernel_rfl) ?_))
    refine wp_world (fun W => W.heap[w.heap.size]? = some (.cells #[.int .i64 2, .slice (some ⟨x0, 0, none⟩) 1 ce, .slice HH 0 hc] 32 (0, 0)) ∧ W.heap[w1.heap.size]? = some (.cells #[.slice none 0 0, .slice none 0 0] 29 (0, 0)) ∧ W.heap[w1.heap.size + 1]? = some (.cells #[.int .i64 0, .int .i64 1, .int .i64 1, .int .i64 0, .int .i64 0, .int .i64 0, .int .i64 ek, .int .i64 em, .int .i64 ex, .slice EA en ec, .int .i64 0, .int .i64 0, .int .i64 0, .int .i64 0, .slice none 0 0, .int .i64 0, .int .i64 0, .int .i64 0, .slice none 0 0] 28 (0, 0)) ∧ Below w.heap.size w W ∧ W.heap.size = w1.heap.size + 2) ⟨blkUp q0.out _, blkUp q1.out _, blkA _ _ hs2, hB2.alloc hB2.size _, by simp; exact hs2⟩ ?_
    rintro w3 ⟨p0, p1, p2, hB3, hs3⟩
    clear r0 q0 q1 he2 hB2 hs2
    have r0 := row_of p0
    have c0 := row_of p2 0
    have c1 := row_of p2 1
    have hlt3 : w.heap.size < w3.heap.size := blk_lt p0
    replace p0 := Lib.hid p0
    replace p1 := Lib.hid p1
    replace p2 := Lib.hid p2
    go_wp2_with fail
    refine (node_yes 2 0 (some ⟨x0, 0, none⟩) 1 ce _ (by decide) (by decide)).mono ?_
    rintro e w4 ⟨rfl, hb4⟩
    have q0 := blk_keep hb4 p0.out
    have q1 := blk_keep hb4 p1.out
    have q2 := blk_keep hb4 p2.out
    have hB4 : Below w.heap.size w w4 := hB3.trans (hb4.mono hB3.size)
    clear hb4 r0 c0 c1 p0 p1 p2 hB3 hs3
    have r0 := row_of q0
    have c1 := row_of q2 1
    replace q0 := Lib.hid q0
    replace q1 := Lib.hid q1
    replace q2 := Lib.hid q2
    go_wp2_with fail
    refine (node_yes 2 1 (some ⟨x0, 0, none⟩) 1 ce _ (by decide) (by decide)).mono ?_
    rintro e w5 ⟨rfl, hb5⟩
    have p0 := blk_keep hb5 q0.out
    have p1 := blk_keep hb5 q1.out
    have p2 := blk_keep hb5 q2.out
    have hB5 : Below w.heap.size w w5 := hB4.trans (hb5.mono hB4.size)
    clear hb5 r0 c1 q0 q1 q2 hB4
    have c0 : w5.cell? ⟨w1.heap.size + 1, 0, none⟩ = some (.int .i64 0) := row_of p2 0
    have v0 : w5.cell? ⟨w1.heap.size, 0, none⟩ = some (.slice none 0 0) := row_of p1 0
    have ra : w5.drew.rangeAt (w1.heap.size + 1) 0 [.int .i64 0, .int .i64 1, .int .i64 1, .int .i64 0, .int .i64 0, .int .i64 0, .int .i64 ek, .int .i64 em, .int .i64 ex, .slice EA en ec, .int .i64 0, .int .i64 0, .int .i64 0, .int .i64 0, .slice none 0 0, .int .i64 0, .int .i64 0, .int .i64 0, .slice none 0 0] := fun j v hv => by rw [Nat.zero_add]; exact (row_of p2 j).trans (by simpa using hv)
    have hlt5 : w1.heap.size + 1 < w5.heap.size := blk_lt p2
    have hlt5b : w1.heap.size < w5.heap.size := blk_lt p1
    have fv := frozen_of p1 0
    have hld : (LoadS 28 (.pointer (some ⟨w1.heap.size + 1, 0, none⟩))).run Try.prog w5.drew = .ok (.agg #[.int .i64 0, .int .i64 1, .int .i64 1, .int .i64 0, .int .i64 0, .int .i64 0, .int .i64 ek, .int .i64 em, .int .i64 ex, .slice EA en ec, .int .i64 0, .int .i64 0, .int .i64 0, .int .i64 0, .slice none 0 0, .int .i64 0, .int .i64 0, .int .i64 0, .slice none 0 0]) w5.drew := run_loadAt_mid _ _ _ _ _ _ ra Try.underlying28 rfl info_edge
    clear ra
    replace p0 := Lib.hid p0
    replace p1 := Lib.hid p1
    replace p2 := Lib.hid p2
    go_upto_region 9 with fail
    go_region_law (first
      | (refine step_append_lies _ (by rfl) _ _ _ (by rfl) (w1.heap.size + 2) 28 ii _ 19 200 Try.underlying29 hii.out iz0 iz1 iz2 rfl (by omega) (.slice none 0 0) 0 [] (by rfl) (World.ownsRow_nil _ _ _ _) ⟨w5.heap.size, 0, none⟩ 1 1 [.int .i64 0, .int .i64 1, .int .i64 1, .int .i64 0, .int .i64 0, .int .i64 0, .int .i64 ek, .int .i64 em, .int .i64 ex, .slice EA en ec, .int .i64 0, .int .i64 0, .int .i64 0, .int .i64 0, .slice none 0 0, .int .i64 0, .int .i64 0, .int .i64 0, .slice none 0 0] (by rfl) (by rfl) (World.news_of_block (cs := #[.int .i64 0, .int .i64 1, .int .i64 1, .int .i64 0, .int .i64 0, .int .i64 0, .int .i64 ek, .int .i64 em, .int .i64 ex, .slice EA en ec, .int .i64 0, .int .i64 0, .int .i64 0, .int .i64 0, .slice none 0 0, .int .i64 0, .int .i64 0, .int .i64 0, .slice none 0 0]) (t := 28) (fr := (0, 0)) (blkA _ _ rfl)) (by simp [Value.oneCell']) (by omega) (by decide) (by decide) (by simp; omega) (w5.heap.size + 1) (by simp) ?_; intro gg cap w6 hown6 hgrow hat hlt6; have m0 := grown_blk hgrow (blkUp p0.out _) (by simp [Value.ownBlock]); have m1 := grown_blk hgrow (blkUp p1.out _) (by simp [Value.ownBlock]); have vv := row_of m1 0; have cc := row_of (grown_blk hgrow (blkUp p2.out _) (by simp [Value.ownBlock])) 0; have fv6 := frozen_of m1 0; have hB6 := Lib.hid (below_grown hgrow (by first | exact (hB5.alloc hB5.size _).drew | exact hB5.drew.alloc hB5.size _) (Nat.le_refl _) (fun b hb => by simp [Value.ownBlock] at hb)); replace m0 := Lib.hid m0; replace m1 := Lib.hid m1; replace hown6 := Lib.hid hown6; clear hgrow hat))
    all_goals
      go_wp2_with fail
      go_meet
      case rel =>
        have hset := m1.out
        refine ⟨gg, cap, ?_, own_set hown6.out (by omega), blk_set m0.out (by omega), hB6.out.setCell hB1.size _⟩
        simp [World.setCell, Array.getElem?_modify, hset]
  case rest =>
    obtain ⟨X, cx, n1, hX, n0, hBx⟩ := hcut
    have r0 := row_of n0
    have v0 : wc.cell? ⟨w1.heap.size, 0, none⟩ = some (.slice (some ⟨X, 0, none⟩) 1 cx) := row_of n1 0
    have v1 : wc.cell? ⟨w1.heap.size, 1, none⟩ = some (.slice none 0 0) := row_of n1 1
    have hxl := (hX.lt X rfl).2
    have hll := blk_lt n1
    have c2 : wc.cell? ⟨X, 2, none⟩ = some (.int .i64 1) := hX.cells rfl 2 _ rfl
    have hrx : wc.rangeAt X 0 [.int .i64 0, .int .i64 1, .int .i64 1, .int .i64 0, .int .i64 0, .int .i64 0, .int .i64 ek, .int .i64 em, .int .i64 ex, .slice EA en ec, .int .i64 0, .int .i64 0, .int .i64 0, .int .i64 0, .slice none 0 0, .int .i64 0, .int .i64 0, .int .i64 0, .slice none 0 0] := fun j v hv => by have := hX.cells rfl j v hv; rwa [Addr.add_mid] at this
    have hex := range_keep hBx h0 he.out
    have hcx : 1 ≤ cx := by
      rcases hX.2 with ⟨h1, _⟩ | ⟨_, _, _, h1, _, _, h2, _⟩
      · cases h1
      · cases h1; exact h2
    have hxw : x0 < wc.heap.size := Nat.lt_of_lt_of_le h0 hBx.size
    replace hrx := Lib.hid hrx
    replace hex := Lib.hid hex
    clear n1 n0 hX
    go_wp2_with fail
    rw [rounds_succ]
    go_wp2_with fail
    refine wp_loop_rounds 3 ?_
    rw [rounds_succ]
    go_wp2_with fail
    refine (leaving_one X cx _ hcx c2).mono ?_
    rintro e w7 ⟨rfl, rfl⟩
    go_wp2_with fail
    rw [rounds_succ]
    go_wp2_with fail
    refine (leaving_end _).mono ?_
    rintro e w7 ⟨rfl, rfl⟩
    go_wp2_with fail
    rw [rounds_succ]
    go_wp2_with fail
    refine (loops_one x0 w1.heap.size X ce 2 cx _ hce (by omega) hcx hxw hll hxl hex.out hrx.out v0 v1).mono ?_
    rintro e w7 ⟨rfl, hb7⟩
    have hB7 := hBx.trans (hb7.mono hBx.size)
    go_wp2_with fail
    go_ret
    exact ⟨rfl, hB7⟩
end
end Go.Proofs.Ytmcomhjfpegieaa

