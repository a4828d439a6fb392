/-
  flow.shapeRight of the graph of one assignment.; check's tests of a comparison and of the statements of the kinds Assign, Input, If and While.; flow.statement of the edge of one assignment.; check.Right of a system without channels and of one process, whose statements are right.; check.exprRight of expressions that have kids; check.stmtRight of an assignment of any expression that is right.; flow.edgesRight of the graph of one assignment.
-/
import Derived.Deep.CutBlock
import Derived.Deep.CutRange
import Derived.Test.YtdagadcflignfaaB24
import Derived.Test.YtdagadcflignfaaB22
namespace Go.Proofs.Ytdagadcflignfaa
open Go.RowKit
variable {ek em ex : Int} {EA : Option Addr} {en ec : Nat}

section
attribute [local go_sem ↓] to_LoadS

def ShapeCut (HH : Option Addr) (hc : Nat) (w : World) (x0 ce lv : Nat) (wx : World) : Prop := ∃ X cx, wx.heap[lv]? = some (.cells #[.slice (some ⟨X, 0, none⟩) 1 cx, .slice none 0 0] 47 (0, 0)) ∧ wx.ownsRow (lv + 2) 53 19 (.slice (some ⟨X, 0, none⟩) 1 cx) 1 [.int .i64 0, .int .i64 1, .int .i64 1, .int .i64 0, .int .i64 0, .int .i64 0, .int .i64 ek, .int .i64 em, .int .i64 ex, .slice EA en ec, .int .i64 0, .int .i64 0, .int .i64 0, .int .i64 0, .slice none 0 0, .int .i64 0, .int .i64 0, .int .i64 0, .slice none 0 0] ∧ wx.heap[w.heap.size]? = some (.cells #[.int .i64 2, .slice (some ⟨x0, 0, none⟩) 1 ce, .slice HH 0 hc] 49 (0, 0)) ∧ Below w.heap.size w wx

set_option maxRecDepth 100000 in
set_option maxHeartbeats 8000000 in
theorem shape_one {HH : Option Addr} {hc : Nat} (x0 ce : Nat) (w : World) (hce : 1 ≤ ce) (h0 : x0 < w.heap.size) (he : w.rangeAt x0 0 [.int .i64 0, .int .i64 1, .int .i64 1, .int .i64 0, .int .i64 0, .int .i64 0, .int .i64 ek, .int .i64 em, .int .i64 ex, .slice EA en ec, .int .i64 0, .int .i64 0, .int .i64 0, .int .i64 0, .slice none 0 0, .int .i64 0, .int .i64 0, .int .i64 0, .slice none 0 0]) :
    Calls Try.prog 67 #[.agg #[.int .i64 2, .slice (some ⟨x0, 0, none⟩) 1 ce, .slice HH 0 hc]] w fun e w' => e = .returned (.bool true) ∧ Below w.heap.size w w' := by
  replace he := Lib.hid he
  obtain ⟨ii, hii, iz0, iz1, iz2⟩ := info_parts info_edge'
  replace hii := Lib.hid hii
  go_enter Try.func67, Try.ntmps67
  go_wp2_with fail
  refine (heads_nil 2 (some ⟨x0, 0, none⟩) 1 ce _).mono ?_
  rintro e w1 ⟨rfl, hb1⟩
  have k0 := blk_keepS hb1 (blkAS _ _ rfl)
  have hB1 : Below w.heap.size w w1 := ((Below.refl _ _).alloc (Nat.le_refl _) _).trans (hb1.mono (by simp))
  clear hb1
  have r0 := row_ofS k0
  have hlt1 := blk_ltS k0
  replace k0 := Lib.hid k0
  have hmk := mk2_edges
  go_upto_region 5 with fail
  clear hmk
  refine wp_worldS (fun W => W.heap[w.heap.size]? = some (.cells #[.int .i64 2, .slice (some ⟨x0, 0, none⟩) 1 ce, .slice HH 0 hc] 49 (0, 0)) ∧ W.heap[w1.heap.size]? = some (.cells #[.slice none 0 0, .slice none 0 0] 47 (0, 0)) ∧ Below w.heap.size w W ∧ W.heap.size = w1.heap.size + 1) ⟨blkUpS k0.out _, blkAS _ _ rfl, hB1.alloc hB1.size _, by simp⟩ ?_
  rintro w2 ⟨q0, q1, hB2, hs2⟩
  clear r0 k0
  have r0 := row_ofS q0
  have hlt2 : w.heap.size < w2.heap.size := blk_ltS q0
  have he2 := Lib.hid (range_keep hB2 h0 he.out)
  replace q0 := Lib.hid q0
  replace q1 := Lib.hid q1
  refine wp_loop_rounds 2 ?_
  rw [rounds_succ]
  go_upto_block 1 with fail
  go_cut [] from 34 to 60 (fun wx => ShapeCut (ek := ek) (em := em) (ex := ex) (EA := EA) (en := en) (ec := ec) HH hc w x0 ce w1.heap.size wx)
  case first =>
    go_upto_region 7 with (first | (refine ld_mid 53 _ rfl _ _ rfl [.int .i64 0, .int .i64 1, .int .i64 1, .int .i64 0, .int .i64 0, .int .i64 0, .int .i64 ek, .int .i64 em, .int .i64 ex, .slice EA en ec, .int .i64 0, .int .i64 0, .int .i64 0, .int .i64 0, .slice none 0 0, .int .i64 0, .int .i64 0, .int .i64 0, .slice none 0 0] _ he2.out Try.underlying53 rfl info_edge rfl ?_) | (refine wpList_store_new rfl 53 _ _ rfl rfl _ _ _ _ rfl (by first | assumption | rfl | (simp; done) | (simp; omega)) rfl rfl info_edge rfl (by kernel_rfl) ?_))
    refine wp_worldS (fun W => W.heap[w.heap.size]? = some (.cells #[.int .i64 2, .slice (some ⟨x0, 0, none⟩) 1 ce, .slice HH 0 hc] 49 (0, 0)) ∧ W.heap[w1.heap.size]? = some (.cells #[.slice none 0 0, .slice none 0 0] 47 (0, 0)) ∧ W.heap[w1.heap.size + 1]? = some (.cells #[.int .i64 0, .int .i64 1, .int .i64 1, .int .i64 0, .int .i64 0, .int .i64 0, .int .i64 ek, .int .i64 em, .int .i64 ex, .slice EA en ec, .int .i64 0, .int .i64 0, .int .i64 0, .int .i64 0, .slice none 0 0, .int .i64 0, .int .i64 0, .int .i64 0, .slice none 0 0] 53 (0, 0)) ∧ Below w.heap.size w W ∧ W.heap.size = w1.heap.size + 2) ⟨blkUpS q0.out _, blkUpS q1.out _, blkAS _ _ hs2, hB2.alloc hB2.size _, by simp; exact hs2⟩ ?_
    rintro w3 ⟨p0, p1, p2, hB3, hs3⟩
    clear r0 q0 q1 he2 hB2 hs2
    have r0 := row_ofS p0
    have c0 := row_ofS p2 0
    have c1 := row_ofS p2 1
    have hlt3 : w.heap.size < w3.heap.size := blk_ltS p0
    replace p0 := Lib.hid p0
    replace p1 := Lib.hid p1
    replace p2 := Lib.hid p2
    go_wp2_with fail
    refine (node_yes 2 0 (some ⟨x0, 0, none⟩) 1 ce _ (by decide) (by decide)).mono ?_
    rintro e w4 ⟨rfl, hb4⟩
    have q0 := blk_keepS hb4 p0.out
    have q1 := blk_keepS hb4 p1.out
    have q2 := blk_keepS hb4 p2.out
    have hB4 : Below w.heap.size w w4 := hB3.trans (hb4.mono hB3.size)
    clear hb4 r0 c0 c1 p0 p1 p2 hB3 hs3
    have r0 := row_ofS q0
    have c1 := row_ofS q2 1
    replace q0 := Lib.hid q0
    replace q1 := Lib.hid q1
    replace q2 := Lib.hid q2
    go_wp2_with fail
    refine (node_yes 2 1 (some ⟨x0, 0, none⟩) 1 ce _ (by decide) (by decide)).mono ?_
    rintro e w5 ⟨rfl, hb5⟩
    have p0 := blk_keepS hb5 q0.out
    have p1 := blk_keepS hb5 q1.out
    have p2 := blk_keepS hb5 q2.out
    have hB5 : Below w.heap.size w w5 := hB4.trans (hb5.mono hB4.size)
    clear hb5 r0 c1 q0 q1 q2 hB4
    have c0 : w5.cell? ⟨w1.heap.size + 1, 0, none⟩ = some (.int .i64 0) := row_ofS p2 0
    have v0 : w5.cell? ⟨w1.heap.size, 0, none⟩ = some (.slice none 0 0) := row_ofS p1 0
    have ra : w5.drew.rangeAt (w1.heap.size + 1) 0 [.int .i64 0, .int .i64 1, .int .i64 1, .int .i64 0, .int .i64 0, .int .i64 0, .int .i64 ek, .int .i64 em, .int .i64 ex, .slice EA en ec, .int .i64 0, .int .i64 0, .int .i64 0, .int .i64 0, .slice none 0 0, .int .i64 0, .int .i64 0, .int .i64 0, .slice none 0 0] := fun j v hv => by rw [Nat.zero_add]; exact (row_ofS p2 j).trans (by simpa using hv)
    have hlt5 : w1.heap.size + 1 < w5.heap.size := blk_ltS p2
    have hlt5b : w1.heap.size < w5.heap.size := blk_ltS p1
    have fv := frozen_ofS p1 0
    have hld : (LoadS 53 (.pointer (some ⟨w1.heap.size + 1, 0, none⟩))).run Try.prog w5.drew = .ok (.agg #[.int .i64 0, .int .i64 1, .int .i64 1, .int .i64 0, .int .i64 0, .int .i64 0, .int .i64 ek, .int .i64 em, .int .i64 ex, .slice EA en ec, .int .i64 0, .int .i64 0, .int .i64 0, .int .i64 0, .slice none 0 0, .int .i64 0, .int .i64 0, .int .i64 0, .slice none 0 0]) w5.drew := run_loadAt_mid _ _ _ _ _ _ ra Try.underlying53 rfl info_edge
    clear ra
    replace p0 := Lib.hid p0
    replace p1 := Lib.hid p1
    replace p2 := Lib.hid p2
    go_upto_region 9 with fail
    go_region_law (first
      | (refine step_append_lies _ (by rfl) _ _ _ (by rfl) (w1.heap.size + 2) 53 ii _ 19 200 Try.underlying47 hii.out iz0 iz1 iz2 rfl (by omega) (.slice none 0 0) 0 [] (by rfl) (World.ownsRow_nil _ _ _ _) ⟨w5.heap.size, 0, none⟩ 1 1 [.int .i64 0, .int .i64 1, .int .i64 1, .int .i64 0, .int .i64 0, .int .i64 0, .int .i64 ek, .int .i64 em, .int .i64 ex, .slice EA en ec, .int .i64 0, .int .i64 0, .int .i64 0, .int .i64 0, .slice none 0 0, .int .i64 0, .int .i64 0, .int .i64 0, .slice none 0 0] (by rfl) (by rfl) (World.news_of_block (cs := #[.int .i64 0, .int .i64 1, .int .i64 1, .int .i64 0, .int .i64 0, .int .i64 0, .int .i64 ek, .int .i64 em, .int .i64 ex, .slice EA en ec, .int .i64 0, .int .i64 0, .int .i64 0, .int .i64 0, .slice none 0 0, .int .i64 0, .int .i64 0, .int .i64 0, .slice none 0 0]) (t := 53) (fr := (0, 0)) (blkAS _ _ rfl)) (by simp [Value.oneCell']) (by omega) (by decide) (by decide) (by simp; omega) (w5.heap.size + 1) (by simp) ?_; intro gg cap w6 hown6 hgrow hat hlt6; have m0 := grown_blk hgrow (blkUpS p0.out _) (by simp [Value.ownBlock]); have m1 := grown_blk hgrow (blkUpS p1.out _) (by simp [Value.ownBlock]); have vv := row_ofS m1 0; have cc := row_ofS (grown_blk hgrow (blkUpS p2.out _) (by simp [Value.ownBlock])) 0; have fv6 := frozen_ofS m1 0; have hB6 := Lib.hid (below_grown hgrow (by first | exact (hB5.alloc hB5.size _).drew | exact hB5.drew.alloc hB5.size _) (Nat.le_refl _) (fun b hb => by simp [Value.ownBlock] at hb)); replace m0 := Lib.hid m0; replace m1 := Lib.hid m1; replace hown6 := Lib.hid hown6; clear hgrow hat))
    all_goals
      go_wp2_with fail
      go_meet
      case rel =>
        have hset := m1.out
        refine ⟨gg, cap, ?_, own_set hown6.out (by omega), blk_setS m0.out (by omega), hB6.out.setCell hB1.size _⟩
        simp [World.setCell, Array.getElem?_modify, hset]
  case rest =>
    obtain ⟨X, cx, n1, hX, n0, hBx⟩ := hcut
    have r0 := row_ofS n0
    have v0 : wc.cell? ⟨w1.heap.size, 0, none⟩ = some (.slice (some ⟨X, 0, none⟩) 1 cx) := row_ofS n1 0
    have v1 : wc.cell? ⟨w1.heap.size, 1, none⟩ = some (.slice none 0 0) := row_ofS n1 1
    have hxl := (hX.lt X rfl).2
    have hll := blk_ltS n1
    have c2 : wc.cell? ⟨X, 2, none⟩ = some (.int .i64 1) := hX.cells rfl 2 _ rfl
    have hrx : wc.rangeAt X 0 [.int .i64 0, .int .i64 1, .int .i64 1, .int .i64 0, .int .i64 0, .int .i64 0, .int .i64 ek, .int .i64 em, .int .i64 ex, .slice EA en ec, .int .i64 0, .int .i64 0, .int .i64 0, .int .i64 0, .slice none 0 0, .int .i64 0, .int .i64 0, .int .i64 0, .slice none 0 0] := fun j v hv => by have := hX.cells rfl j v hv; rwa [Addr.add_mid] at this
    have hex := range_keep hBx h0 he.out
    have hcx : 1 ≤ cx := by
      rcases hX.2 with ⟨h1, _⟩ | ⟨_, _, _, h1, _, _, h2, _⟩
      · cases h1
      · cases h1; exact h2
    have hxw : x0 < wc.heap.size := Nat.lt_of_lt_of_le h0 hBx.size
    replace hrx := Lib.hid hrx
    replace hex := Lib.hid hex
    clear n1 n0 hX
    go_wp2_with fail
    rw [rounds_succ]
    go_wp2_with fail
    refine wp_loop_rounds 3 ?_
    rw [rounds_succ]
    go_wp2_with fail
    refine (leaving_one X cx _ hcx c2).mono ?_
    rintro e w7 ⟨rfl, rfl⟩
    go_wp2_with fail
    rw [rounds_succ]
    go_wp2_with fail
    refine (leaving_end _).mono ?_
    rintro e w7 ⟨rfl, rfl⟩
    go_wp2_with fail
    rw [rounds_succ]
    go_wp2_with fail
    refine (loops_one x0 w1.heap.size X ce 2 cx _ hce (by omega) hcx hxw hll hxl hex.out hrx.out v0 v1).mono ?_
    rintro e w7 ⟨rfl, hb7⟩
    have hB7 := hBx.trans (hb7.mono hBx.size)
    go_wp2_with fail
    go_ret
    exact ⟨rfl, hB7⟩
end
end Go.Proofs.Ytdagadcflignfaa
namespace Go.Proofs.Ytdagadcflignfaa
open Go.RowKit


set_option maxRecDepth 100000 in
set_option maxHeartbeats 2000000 in
theorem cond_right (A : Option Addr) (n c : Nat) (p v : Int) (o x y : Int) (ho : 1 ≤ o) (ho2 : o ≤ 6) (hx : 0 ≤ x) (hx2 : x ≤ 2147483647) (hy : 0 ≤ y) (hy2 : y ≤ 2147483647) (w : World) :
    Calls Try.prog 109 #[.agg #[.slice A n c, .int .i64 p, .int .i64 v], .agg #[.int .i64 o, .int .i64 1, .int .i64 x, .int .i64 0, .slice none 0 0, .int .i64 1, .int .i64 y, .int .i64 0, .slice none 0 0]] w fun e w' => e = .returned (.bool true) ∧ Below w.heap.size w w' := by
  go_enter Try.func109, Try.ntmps109
  go_wp2_with fail
  refine (exprNum_any A n c p v _ _ (by assumption) (by assumption)).mono ?_
  rintro e w1 ⟨rfl, hb1⟩
  have k1_0 := Lib.hid (blk_keepS hb1 (b := w.heap.size) (blkUpS (blkAS _ _ (by first | rfl | (simp only [World.size_alloc]))) _))
  have k1_1 := Lib.hid (blk_keepS hb1 (b := w.heap.size + 1) (blkAS _ _ (by simp only [World.size_alloc])))
  have hB1 : Below w.heap.size w w1 := bel_up (by go_grown) (Nat.le_refl _) hb1
  have hz1 : w.heap.size + 2 ≤ w1.heap.size := by have := hb1.size; simp only [World.size_alloc] at this; omega
  clear hb1
  have r1_0 := row_ofS k1_0.out
  have r1_1 := row_ofS k1_1.out
  go_wp2_with fail
  refine (exprNum_any A n c p v _ _ (by assumption) (by assumption)).mono ?_
  rintro e w2 ⟨rfl, hb2⟩
  have k2_0 := Lib.hid (blk_keepS hb2 k1_0.out)
  have k2_1 := Lib.hid (blk_keepS hb2 k1_1.out)
  have hB2 : Below w.heap.size w w2 := bel_up hB1 (Nat.le_refl _) hb2
  have hz2 : w.heap.size + 2 ≤ w2.heap.size := Nat.le_trans hz1 hb2.size
  clear hb2 hB1 hz1 k1_0 r1_0 k1_1 r1_1
  have r2_0 := row_ofS k2_0.out
  have r2_1 := row_ofS k2_1.out
  go_wp2_with fail
  go_ret
  exact ⟨rfl, hB2⟩


set_option maxRecDepth 100000 in
set_option maxHeartbeats 2000000 in
theorem stmt_inp (A : Option Addr) (n c : Nat) (p v : Int) (u : Int) (hu : 0 ≤ u) (hu2 : u < v) (w : World) :
    Calls Try.prog 83 #[.agg #[.slice A n c, .int .i64 p, .int .i64 v], .agg #[.int .i64 7, .int .i64 u, .int .i64 0, .int .i64 0, .int .i64 0, .int .i64 0, .int .i64 0, .slice none 0 0, .int .i64 0, .int .i64 0, .int .i64 0, .int .i64 0, .slice none 0 0, .int .i64 0, .int .i64 0, .int .i64 0, .slice none 0 0, .slice none 0 0, .slice none 0 0, .slice none 0 0]] w fun e w' => e = .returned (.bool true) ∧ Below w.heap.size w w' := by
  go_enter Try.func83, Try.ntmps83
  go_upto_region 1 with fail
  refine wp_worldS (fun W => W.heap[w.heap.size]? = some (.cells #[.slice A n c, .int .i64 p, .int .i64 v] 153 (0, 0)) ∧ W.heap[w.heap.size + 1]? = some (.cells #[.int .i64 7, .int .i64 u, .int .i64 0, .int .i64 0, .int .i64 0, .int .i64 0, .int .i64 0, .slice none 0 0, .int .i64 0, .int .i64 0, .int .i64 0, .int .i64 0, .slice none 0 0, .int .i64 0, .int .i64 0, .int .i64 0, .slice none 0 0, .slice none 0 0, .slice none 0 0, .slice none 0 0] 32 (0, 0)) ∧ Below w.heap.size w W ∧ W.heap.size = w.heap.size + 2) ⟨blkUpS (blkAS _ _ rfl) _, blkAS _ _ (by simp only [World.size_alloc]), ((Below.refl _ _).alloc (Nat.le_refl _) _).alloc (by simp only [World.size_alloc]; omega) _, by first | (simp only [World.size_alloc]; done) | (simp; done) | (simp; omega)⟩ ?_
  rintro w0 ⟨k0_0, k0_1, hB0, hs0⟩
  have r0_0 := row_ofS k0_0
  replace k0_0 := Lib.hid k0_0
  have r0_1 := row_ofS k0_1
  replace k0_1 := Lib.hid k0_1
  go_upto_region 24 with (first | (refine wpList_store_new rfl 32 _ _ rfl rfl _ _ _ _ rfl (by first | assumption | (simp; done)) rfl rfl info_st rfl (by kernel_rfl) ?_) | (refine ld_row 32 _ rfl _ rfl _ _ _ _ k0_1.out Try.underlying32 rfl info_st rfl ?_))
  refine wp_worldS (fun W => W.heap[w.heap.size]? = some (.cells #[.slice A n c, .int .i64 p, .int .i64 v] 153 (0, 0)) ∧ W.heap[w.heap.size + 1]? = some (.cells #[.int .i64 7, .int .i64 u, .int .i64 0, .int .i64 0, .int .i64 0, .int .i64 0, .int .i64 0, .slice none 0 0, .int .i64 0, .int .i64 0, .int .i64 0, .int .i64 0, .slice none 0 0, .int .i64 0, .int .i64 0, .int .i64 0, .slice none 0 0, .slice none 0 0, .slice none 0 0, .slice none 0 0] 32 (0, 0)) ∧ W.heap[w.heap.size + 2]? = some (.cells #[.int .i64 0, .int .i64 0, .int .i64 0, .int .i64 0, .int .i64 0, .int .i64 0, .int .i64 0, .slice none 0 0, .int .i64 0, .int .i64 0, .int .i64 0, .int .i64 0, .slice none 0 0, .int .i64 0, .int .i64 0, .int .i64 0, .slice none 0 0, .slice none 0 0, .slice none 0 0, .slice none 0 0] 32 (0, 0)) ∧ Below w.heap.size w W ∧ W.heap.size = w.heap.size + 3) ⟨blkUpS k0_0.out _, blkUpS k0_1.out _, blkAS _ _ hs0, hB0.alloc (by rw [hs0]; omega) _, by first | (simp only [World.size_alloc]; done) | (simp; done) | (simp; omega)⟩ ?_
  rintro w1 ⟨k1_0, k1_1, k1_2, hB1, hs1⟩
  have r1_0 := row_ofS k1_0
  replace k1_0 := Lib.hid k1_0
  have r1_1 := row_ofS k1_1
  replace k1_1 := Lib.hid k1_1
  have r1_2 := row_ofS k1_2
  replace k1_2 := Lib.hid k1_2
  clear k0_0 k0_1 r0_0 r0_1 hB0 hs0
  go_wp2_with (first | (refine ld_row 32 _ rfl _ rfl _ _ _ _ k1_2.out Try.underlying32 rfl info_st rfl ?_) | (refine ld_row 32 _ rfl _ rfl _ _ _ _ k1_1.out Try.underlying32 rfl info_st rfl ?_))
  refine (var_yes A n c p v _ _ (by assumption) (by assumption)).mono ?_
  rintro e w2 ⟨rfl, hb2⟩
  have k2_0 := Lib.hid (blk_keepS hb2 k1_0.out)
  have k2_1 := Lib.hid (blk_keepS hb2 k1_1.out)
  have k2_2 := Lib.hid (blk_keepS hb2 k1_2.out)
  have hB2 : Below w.heap.size w w2 := bel_up hB1 (Nat.le_refl _) hb2
  clear hb2 hB1 hs1 k1_0 r1_0 k1_1 r1_1 k1_2 r1_2
  have r2_0 := row_ofS k2_0.out
  have r2_1 := row_ofS k2_1.out
  have r2_2 := row_ofS k2_2.out
  go_wp2_with (first | (refine ld_row 32 _ rfl _ rfl _ _ _ _ k2_2.out Try.underlying32 rfl info_st rfl ?_) | (refine ld_row 32 _ rfl _ rfl _ _ _ _ k2_1.out Try.underlying32 rfl info_st rfl ?_))
  refine (nothing_any _).mono ?_
  rintro e w3 ⟨rfl, hb3⟩
  have k3_0 := Lib.hid (blk_keepS hb3 k2_0.out)
  have k3_1 := Lib.hid (blk_keepS hb3 k2_1.out)
  have k3_2 := Lib.hid (blk_keepS hb3 k2_2.out)
  have hB3 : Below w.heap.size w w3 := bel_up hB2 (Nat.le_refl _) hb3
  clear hb3 hB2 k2_0 r2_0 k2_1 r2_1 k2_2 r2_2
  have r3_0 := row_ofS k3_0.out
  have r3_1 := row_ofS k3_1.out
  have r3_2 := row_ofS k3_2.out
  go_wp2_with fail
  go_ret
  exact ⟨rfl, hB3⟩


set_option maxRecDepth 100000 in
set_option maxHeartbeats 2000000 in
theorem stmt_asg (A : Option Addr) (n c : Nat) (p v : Int) (u x : Int) (hu : 0 ≤ u) (hu2 : u < v) (hx : 0 ≤ x) (hx2 : x ≤ 2147483647) (w : World) :
    Calls Try.prog 83 #[.agg #[.slice A n c, .int .i64 p, .int .i64 v], .agg #[.int .i64 1, .int .i64 u, .int .i64 0, .int .i64 0, .int .i64 1, .int .i64 x, .int .i64 0, .slice none 0 0, .int .i64 0, .int .i64 0, .int .i64 0, .int .i64 0, .slice none 0 0, .int .i64 0, .int .i64 0, .int .i64 0, .slice none 0 0, .slice none 0 0, .slice none 0 0, .slice none 0 0]] w fun e w' => e = .returned (.bool true) ∧ Below w.heap.size w w' := by
  go_enter Try.func83, Try.ntmps83
  go_upto_region 1 with fail
  refine wp_worldS (fun W => W.heap[w.heap.size]? = some (.cells #[.slice A n c, .int .i64 p, .int .i64 v] 153 (0, 0)) ∧ W.heap[w.heap.size + 1]? = some (.cells #[.int .i64 1, .int .i64 u, .int .i64 0, .int .i64 0, .int .i64 1, .int .i64 x, .int .i64 0, .slice none 0 0, .int .i64 0, .int .i64 0, .int .i64 0, .int .i64 0, .slice none 0 0, .int .i64 0, .int .i64 0, .int .i64 0, .slice none 0 0, .slice none 0 0, .slice none 0 0, .slice none 0 0] 32 (0, 0)) ∧ Below w.heap.size w W ∧ W.heap.size = w.heap.size + 2) ⟨blkUpS (blkAS _ _ rfl) _, blkAS _ _ (by simp only [World.size_alloc]), ((Below.refl _ _).alloc (Nat.le_refl _) _).alloc (by simp only [World.size_alloc]; omega) _, by first | (simp only [World.size_alloc]; done) | (simp; done) | (simp; omega)⟩ ?_
  rintro w0 ⟨k0_0, k0_1, hB0, hs0⟩
  have r0_0 := row_ofS k0_0
  replace k0_0 := Lib.hid k0_0
  have r0_1 := row_ofS k0_1
  replace k0_1 := Lib.hid k0_1
  go_upto_region 6 with (first | (refine wpList_store_new rfl 32 _ _ rfl rfl _ _ _ _ rfl (by first | assumption | (simp; done)) rfl rfl info_st rfl (by kernel_rfl) ?_) | (refine ld_row 32 _ rfl _ rfl _ _ _ _ k0_1.out Try.underlying32 rfl info_st rfl ?_))
  refine wp_worldS (fun W => W.heap[w.heap.size]? = some (.cells #[.slice A n c, .int .i64 p, .int .i64 v] 153 (0, 0)) ∧ W.heap[w.heap.size + 1]? = some (.cells #[.int .i64 1, .int .i64 u, .int .i64 0, .int .i64 0, .int .i64 1, .int .i64 x, .int .i64 0, .slice none 0 0, .int .i64 0, .int .i64 0, .int .i64 0, .int .i64 0, .slice none 0 0, .int .i64 0, .int .i64 0, .int .i64 0, .slice none 0 0, .slice none 0 0, .slice none 0 0, .slice none 0 0] 32 (0, 0)) ∧ W.heap[w.heap.size + 2]? = some (.cells #[.int .i64 0, .int .i64 0, .int .i64 0, .int .i64 0, .int .i64 0, .int .i64 0, .int .i64 0, .slice none 0 0, .int .i64 0, .int .i64 0, .int .i64 0, .int .i64 0, .slice none 0 0, .int .i64 0, .int .i64 0, .int .i64 0, .slice none 0 0, .slice none 0 0, .slice none 0 0, .slice none 0 0] 32 (0, 0)) ∧ Below w.heap.size w W ∧ W.heap.size = w.heap.size + 3) ⟨blkUpS k0_0.out _, blkUpS k0_1.out _, blkAS _ _ hs0, hB0.alloc (by rw [hs0]; omega) _, by first | (simp only [World.size_alloc]; done) | (simp; done) | (simp; omega)⟩ ?_
  rintro w1 ⟨k1_0, k1_1, k1_2, hB1, hs1⟩
  have r1_0 := row_ofS k1_0
  replace k1_0 := Lib.hid k1_0
  have r1_1 := row_ofS k1_1
  replace k1_1 := Lib.hid k1_1
  have r1_2 := row_ofS k1_2
  replace k1_2 := Lib.hid k1_2
  clear k0_0 k0_1 r0_0 r0_1 hB0 hs0
  go_wp2_with (first | (refine ld_row 32 _ rfl _ rfl _ _ _ _ k1_2.out Try.underlying32 rfl info_st rfl ?_) | (refine ld_row 32 _ rfl _ rfl _ _ _ _ k1_1.out Try.underlying32 rfl info_st rfl ?_))
  refine (var_yes A n c p v _ _ (by assumption) (by assumption)).mono ?_
  rintro e w2 ⟨rfl, hb2⟩
  have k2_0 := Lib.hid (blk_keepS hb2 k1_0.out)
  have k2_1 := Lib.hid (blk_keepS hb2 k1_1.out)
  have k2_2 := Lib.hid (blk_keepS hb2 k1_2.out)
  have hB2 : Below w.heap.size w w2 := bel_up hB1 (Nat.le_refl _) hb2
  clear hb2 hB1 hs1 k1_0 r1_0 k1_1 r1_1 k1_2 r1_2
  have r2_0 := row_ofS k2_0.out
  have r2_1 := row_ofS k2_1.out
  have r2_2 := row_ofS k2_2.out
  go_wp2_with (first | (refine ld_row 32 _ rfl _ rfl _ _ _ _ k2_2.out Try.underlying32 rfl info_st rfl ?_) | (refine ld_row 32 _ rfl _ rfl _ _ _ _ k2_1.out Try.underlying32 rfl info_st rfl ?_))
  refine (exprNum_any A n c p v _ _ (by assumption) (by assumption)).mono ?_
  rintro e w3 ⟨rfl, hb3⟩
  have k3_0 := Lib.hid (blk_keepS hb3 k2_0.out)
  have k3_1 := Lib.hid (blk_keepS hb3 k2_1.out)
  have k3_2 := Lib.hid (blk_keepS hb3 k2_2.out)
  have hB3 : Below w.heap.size w w3 := bel_up hB2 (Nat.le_refl _) hb3
  clear hb3 hB2 k2_0 r2_0 k2_1 r2_1 k2_2 r2_2
  have r3_0 := row_ofS k3_0.out
  have r3_1 := row_ofS k3_1.out
  have r3_2 := row_ofS k3_2.out
  go_wp2_with (first | (refine ld_row 32 _ rfl _ rfl _ _ _ _ k3_2.out Try.underlying32 rfl info_st rfl ?_) | (refine ld_row 32 _ rfl _ rfl _ _ _ _ k3_1.out Try.underlying32 rfl info_st rfl ?_))
  refine (nothing_any _).mono ?_
  rintro e w4 ⟨rfl, hb4⟩
  have k4_0 := Lib.hid (blk_keepS hb4 k3_0.out)
  have k4_1 := Lib.hid (blk_keepS hb4 k3_1.out)
  have k4_2 := Lib.hid (blk_keepS hb4 k3_2.out)
  have hB4 : Below w.heap.size w w4 := bel_up hB3 (Nat.le_refl _) hb4
  clear hb4 hB3 k3_0 r3_0 k3_1 r3_1 k3_2 r3_2
  have r4_0 := row_ofS k4_0.out
  have r4_1 := row_ofS k4_1.out
  have r4_2 := row_ofS k4_2.out
  go_wp2_with fail
  go_ret
  exact ⟨rfl, hB4⟩

end Go.Proofs.Ytdagadcflignfaa
namespace Go.Proofs.Ytdagadcflignfaa
open Go.RowKit
variable {ek em ex : Int} {EA : Option Addr} {en ec : Nat}

set_option maxRecDepth 100000 in
set_option maxHeartbeats 8000000 in
theorem statement_one (w : World) :
    Calls Try.prog 93 #[.agg #[.int .i64 0, .int .i64 1, .int .i64 1, .int .i64 0, .int .i64 0, .int .i64 0, .int .i64 ek, .int .i64 em, .int .i64 ex, .slice EA en ec, .int .i64 0, .int .i64 0, .int .i64 0, .int .i64 0, .slice none 0 0, .int .i64 0, .int .i64 0, .int .i64 0, .slice none 0 0]] w fun e w' => e = .returned (.agg #[.int .i64 1, .int .i64 0, .int .i64 0, .int .i64 0, .int .i64 ek, .int .i64 em, .int .i64 ex, .slice EA en ec, .int .i64 0, .int .i64 0, .int .i64 0, .int .i64 0, .slice none 0 0, .int .i64 0, .int .i64 0, .int .i64 0, .slice none 0 0, .slice none 0 0, .slice none 0 0, .slice none 0 0]) ∧ Below w.heap.size w w' := by
  go_enter Try.func93, Try.ntmps93
  go_upto_region 1 with fail
  refine wp_worldS (fun W => W.heap[w.heap.size]? = some (.cells #[.int .i64 0, .int .i64 1, .int .i64 1, .int .i64 0, .int .i64 0, .int .i64 0, .int .i64 ek, .int .i64 em, .int .i64 ex, .slice EA en ec, .int .i64 0, .int .i64 0, .int .i64 0, .int .i64 0, .slice none 0 0, .int .i64 0, .int .i64 0, .int .i64 0, .slice none 0 0] 53 (0, 0)) ∧ W.heap[w.heap.size + 1]? = some (.cells #[.int .i64 0, .int .i64 0, .int .i64 0, .int .i64 0, .int .i64 0, .int .i64 0, .int .i64 0, .slice none 0 0, .int .i64 0, .int .i64 0, .int .i64 0, .int .i64 0, .slice none 0 0, .int .i64 0, .int .i64 0, .int .i64 0, .slice none 0 0, .slice none 0 0, .slice none 0 0, .slice none 0 0] 32 (0, 0)) ∧ Below w.heap.size w W ∧ W.heap.size = w.heap.size + 2) ⟨blkUpS (blkAS _ _ rfl) _, blkAS _ _ (by simp), ((Below.refl _ _).alloc (Nat.le_refl _) _).alloc (by simp) _, by simp⟩ ?_
  rintro w0 ⟨k0, k1, hB0, hs0⟩
  have r0 := row_ofS k0
  have hlt0 := blk_ltS k0
  replace k0 := Lib.hid k0
  replace k1 := Lib.hid k1
  go_upto_region 3 with (refine wpList_store_new rfl 32 _ _ rfl rfl _ _ _ _ rfl (by first | assumption | (simp; done)) rfl rfl info_st rfl (by kernel_rfl) ?_)
  refine wp_worldS (fun W => W.heap[w.heap.size + 1]? = some (.cells #[.int .i64 0, .int .i64 0, .int .i64 0, .int .i64 0, .int .i64 0, .int .i64 0, .int .i64 0, .slice none 0 0, .int .i64 0, .int .i64 0, .int .i64 0, .int .i64 0, .slice none 0 0, .int .i64 0, .int .i64 0, .int .i64 0, .slice none 0 0, .slice none 0 0, .slice none 0 0, .slice none 0 0] 32 (0, 0)) ∧ W.heap[w.heap.size + 2]? = some (.cells #[.int .i64 0, .int .i64 0, .int .i64 0, .int .i64 0, .int .i64 ek, .int .i64 em, .int .i64 ex, .slice EA en ec, .int .i64 0, .int .i64 0, .int .i64 0, .int .i64 0, .slice none 0 0, .int .i64 0, .int .i64 0, .int .i64 0, .slice none 0 0, .slice none 0 0, .slice none 0 0, .slice none 0 0] 32 (0, 0)) ∧ Below w.heap.size w W ∧ W.heap.size = w.heap.size + 3) ⟨blkUpS k1.out _, blkAS _ _ hs0, hB0.alloc hB0.size _, by simp; exact hs0⟩ ?_
  rintro w1 ⟨q1, q2, hB1, hs1⟩
  clear r0 k0 k1 hB0 hs0
  have r2 := row_ofS q2
  have fz := frozen_ofS q2 0
  replace q1 := Lib.hid q1
  replace q2 := Lib.hid q2
  go_upto_region 16 with fail
  have hset : (w1.setCell ⟨w.heap.size + 2, 0, none⟩ (.int .i64 1)).heap[w.heap.size + 2]? = some (.cells #[.int .i64 1, .int .i64 0, .int .i64 0, .int .i64 0, .int .i64 ek, .int .i64 em, .int .i64 ex, .slice EA en ec, .int .i64 0, .int .i64 0, .int .i64 0, .int .i64 0, .slice none 0 0, .int .i64 0, .int .i64 0, .int .i64 0, .slice none 0 0, .slice none 0 0, .slice none 0 0, .slice none 0 0] 32 (0, 0)) := by simp [World.setCell, Array.getElem?_modify, q2.out]
  refine wp_worldS (fun W => W.heap[w.heap.size + 1]? = some (.cells #[.int .i64 0, .int .i64 0, .int .i64 0, .int .i64 0, .int .i64 0, .int .i64 0, .int .i64 0, .slice none 0 0, .int .i64 0, .int .i64 0, .int .i64 0, .int .i64 0, .slice none 0 0, .int .i64 0, .int .i64 0, .int .i64 0, .slice none 0 0, .slice none 0 0, .slice none 0 0, .slice none 0 0] 32 (0, 0)) ∧ W.heap[w.heap.size + 2]? = some (.cells #[.int .i64 1, .int .i64 0, .int .i64 0, .int .i64 0, .int .i64 ek, .int .i64 em, .int .i64 ex, .slice EA en ec, .int .i64 0, .int .i64 0, .int .i64 0, .int .i64 0, .slice none 0 0, .int .i64 0, .int .i64 0, .int .i64 0, .slice none 0 0, .slice none 0 0, .slice none 0 0, .slice none 0 0] 32 (0, 0)) ∧ Below w.heap.size w W) ⟨blk_setS q1.out (by omega), hset, hB1.setCell (Nat.le_add_right _ _) _⟩ ?_
  rintro w2 ⟨m1, m2, hB2⟩
  clear r2 fz q1 q2 hset hB1 hs1
  replace m1 := Lib.hid m1
  replace m2 := Lib.hid m2
  go_wp2_with (first
    | (refine ld_row 32 _ rfl _ rfl _ _ _ _ m2.out Try.underlying32 rfl info_st rfl ?_)
    | (refine wpList_store_row rfl 32 _ _ rfl _ _ rfl rfl _ _ m1.out info_st rfl (by kernel_rfl) ?_))
  have hbs : Below w.heap.size w2 (w2.setRow (w.heap.size + 1) #[.int .i64 1, .int .i64 0, .int .i64 0, .int .i64 0, .int .i64 ek, .int .i64 em, .int .i64 ex, .slice EA en ec, .int .i64 0, .int .i64 0, .int .i64 0, .int .i64 0, .slice none 0 0, .int .i64 0, .int .i64 0, .int .i64 0, .slice none 0 0, .slice none 0 0, .slice none 0 0, .slice none 0 0]) := ⟨rfl, rfl, rfl, by simp, fun k hk => setRow_other _ _ _ _ (by omega)⟩
  exact bodyPost_ret (results_cell_row Try.results93 _ _ (w.heap.size + 1) _ _ _ _ rfl (setRow_heap w2 (w.heap.size + 1) _ #[.int .i64 1, .int .i64 0, .int .i64 0, .int .i64 0, .int .i64 ek, .int .i64 em, .int .i64 ex, .slice EA en ec, .int .i64 0, .int .i64 0, .int .i64 0, .int .i64 0, .slice none 0 0, .int .i64 0, .int .i64 0, .int .i64 0, .slice none 0 0, .slice none 0 0, .slice none 0 0, .slice none 0 0] _ _ m1.out) Try.underlying32 rfl info_st) rfl ⟨rfl, hB2.trans hbs⟩
end Go.Proofs.Ytdagadcflignfaa
namespace Go.Proofs.Ytdagadcflignfaa
open Go.RowKit

set_option maxRecDepth 100000 in
set_option maxHeartbeats 2000000 in
theorem right_one (v : Int) (h : Nat) (cp : Nat) (D : Option Addr) (k cap : Nat) (L : Nat → List Value) (w : World) (hv0 : 0 ≤ v) (hv6 : v ≤ 6) (hk : k ≤ 1000000) (hkc : k ≤ cap) (_hcp : 1 ≤ cp)
    (hh : h < w.heap.size) (hp : w.rangeAt h 0 [.int .i64 v, .slice D k cap]) (hm : ElemsAt w w.heap.size D k 20 L) (hs : ∀ i, i < k → StOk w none 0 0 0 v (L i)) :
    Calls Try.prog 32 #[.agg #[.slice none 0 0, .slice (some ⟨h, 0, none⟩) 1 cp]] w fun e w' => e = .returned (.bool true) ∧ Below w.heap.size w w' := by
  replace hm := Lib.hid hm
  replace hs := Lib.hid hs
  replace hp := Lib.hid hp
  go_enter Try.func32, Try.ntmps32
  go_wp2_with fail
  go_loop [27] (fun i => i = .int .i64 0) (fun _ => 0)
  case atStart => rfl
  case round =>
    subst hrel
    go_wp2_with fail
    go_loopw [41] (fun i wr => ∃ q : Nat, q ≤ 1 ∧ i = .int .i64 q ∧ Hid (wr.heap[w.heap.size]? = some (.cells #[.slice none 0 0, .slice (some ⟨h, 0, none⟩) 1 cp] 45 (0, 0))) ∧ Below w.heap.size w wr) (fun i _ => 1 - (intOf i).toNat)
    case atStart => exact ⟨0, by omega, rfl, Lib.hid (blkAS _ _ rfl), (Below.refl _ _).alloc (Nat.le_refl _) _⟩
    case round =>
      obtain ⟨q, hq, rfl, hk0, hB⟩ := hrel
      have r0 := row_ofS hk0.out
      have hz := blk_ltS hk0.out
      by_cases hlt : q < 1
      · obtain rfl : q = 0 := by omega
        have Hr := Lib.hid (range_keep hB hh hp.out)
        go_wp2_with (first
          | (refine ld_mid 42 _ rfl _ _ rfl _ _ Hr.out Try.underlying42 rfl (by kernel_rfl) rfl ?_))
        refine (body_right none 0 0 0 v D k cap L _ hk hkc (hm.out.below ((hB.alloc hB.size _).alloc (Nat.le_trans hB.size (by simp only [World.size_alloc]; omega)) _) (Nat.le_trans hB.size (by simp only [World.size_alloc]; omega))) (fun i hi W hW => hs.out i hi W (((hB.alloc hB.size _).alloc (Nat.le_trans hB.size (by simp only [World.size_alloc]; omega)) _).trans (hW.mono (Nat.le_trans hB.size (by simp only [World.size_alloc]; omega)))))).mono ?_
        rintro e w2 ⟨rfl, hb2⟩
        have k2 := Lib.hid (blk_keepS hb2 (blkUpS (blkUpS hk0.out _) _))
        have hB2 : Below w.heap.size w w2 := bel_up ((hB.alloc hB.size _).alloc (Nat.le_trans hB.size (by simp only [World.size_alloc]; omega)) _) (Nat.le_refl _) hb2
        clear hb2 hk0 hB r0 hz Hr
        go_wp2
        go_roundw
        case rel => exact ⟨1, by omega, by go_num, k2, hB2⟩
        case measure => simp [intOf]
      · go_wp2
        go_ret
        exact ⟨rfl, hB⟩
end Go.Proofs.Ytdagadcflignfaa
namespace Go.Proofs.Ytdagadcflignfaa
open Go.RowKit

/-- exprRight says yes to this value, whatever the memory is behind w. -/
def ExOk (w : World) (A : Option Addr) (n c : Nat) (p v : Int) (e : Value) : Prop :=
  ∀ W, Below w.heap.size w W → Calls Try.prog 107 #[.agg #[.slice A n c, .int .i64 p, .int .i64 v], e] W fun e w' => e = .returned (.bool true) ∧ Below W.heap.size W w'
theorem ExOk.up {w w' : World} {A : Option Addr} {n c : Nat} {p v : Int} {e : Value} (h : ExOk w A n c p v e) (hB : Below w.heap.size w w') : ExOk w' A n c p v e := fun W hW => h W (hB.trans (hW.mono hB.size))
theorem ExOk.num (w : World) (A : Option Addr) (n c : Nat) (p v x : Int) (h0 : 0 ≤ x) (h1 : x ≤ 2147483647) : ExOk w A n c p v (.agg #[.int .i64 1, .int .i64 x, .int .i64 0, .slice none 0 0]) := fun W _ => exprNum_any A n c p v x W h0 h1

set_option maxRecDepth 100000 in
set_option maxHeartbeats 2000000 in
theorem kids_two (A : Option Addr) (n c : Nat) (p v k : Int) (b kc : Nat) (w : World) (hb : b < w.heap.size) (_hkc : 2 ≤ kc) (k1 m1 x1 k2 m2 x2 : Int) (A1 A2 : Option Addr) (n1 c1 n2 c2 : Nat) (r10 : w.cell? ⟨b, 0, none⟩ = some (.int .i64 k1)) (r11 : w.cell? ⟨b, 1, none⟩ = some (.int .i64 m1)) (r12 : w.cell? ⟨b, 2, none⟩ = some (.int .i64 x1)) (r13 : w.cell? ⟨b, 3, none⟩ = some (.slice A1 n1 c1)) (r20 : w.cell? ⟨b, 4, none⟩ = some (.int .i64 k2)) (r21 : w.cell? ⟨b, 5, none⟩ = some (.int .i64 m2)) (r22 : w.cell? ⟨b, 6, none⟩ = some (.int .i64 x2)) (r23 : w.cell? ⟨b, 7, none⟩ = some (.slice A2 n2 c2))
    (h1 : ExOk w A n c p v (.agg #[.int .i64 k1, .int .i64 m1, .int .i64 x1, .slice A1 n1 c1])) (h2 : ExOk w A n c p v (.agg #[.int .i64 k2, .int .i64 m2, .int .i64 x2, .slice A2 n2 c2])) :
    Calls Try.prog 141 #[.agg #[.slice A n c, .int .i64 p, .int .i64 v], .agg #[.int .i64 k, .int .i64 0, .int .i64 0, .slice (some ⟨b, 0, none⟩) 2 kc]] w fun e w' => e = .returned (.bool true) ∧ Below w.heap.size w w' := by
  replace h1 := Lib.hid h1
  replace h2 := Lib.hid h2
  go_enter Try.func141, Try.ntmps141
  go_wp2_with fail
  refine wp_worldS (fun W => W.heap[w.heap.size]? = some (.cells #[.slice A n c, .int .i64 p, .int .i64 v] 153 (0, 0)) ∧ W.heap[w.heap.size + 1]? = some (.cells #[.int .i64 k, .int .i64 0, .int .i64 0, .slice (some ⟨b, 0, none⟩) 2 kc] 25 (0, 0)) ∧ Below w.heap.size w W ∧ W.heap.size = w.heap.size + 2) ⟨blkUpS (blkAS _ _ rfl) _, blkAS _ _ (by simp), ((Below.refl _ _).alloc (Nat.le_refl _) _).alloc (by simp) _, by simp⟩ ?_
  rintro w0 ⟨s0, e0, hB0, hs0⟩
  have g010 := (hB0.cell (p := ⟨b, 0, none⟩) hb).trans r10
  have g011 := (hB0.cell (p := ⟨b, 1, none⟩) hb).trans r11
  have g012 := (hB0.cell (p := ⟨b, 2, none⟩) hb).trans r12
  have g013 := (hB0.cell (p := ⟨b, 3, none⟩) hb).trans r13
  have g020 := (hB0.cell (p := ⟨b, 4, none⟩) hb).trans r20
  have g021 := (hB0.cell (p := ⟨b, 5, none⟩) hb).trans r21
  have g022 := (hB0.cell (p := ⟨b, 6, none⟩) hb).trans r22
  have g023 := (hB0.cell (p := ⟨b, 7, none⟩) hb).trans r23
  have rs0 := row_ofS s0
  have re0 := row_ofS e0
  have hl0 : b < w0.heap.size := by omega
  replace s0 := Lib.hid s0
  replace e0 := Lib.hid e0
  refine wp_loop_rounds 3 ?_
  rw [rounds_succ]
  go_wp2_with fail
  have kA := Lib.hid (blkUpS s0.out (.cells #[.int .i64 k1, .int .i64 m1, .int .i64 x1, .slice A1 n1 c1] 25))
  have kB := Lib.hid (blkUpS e0.out (.cells #[.int .i64 k1, .int .i64 m1, .int .i64 x1, .slice A1 n1 c1] 25))
  have hB0' : Below w.heap.size w (w0.alloc (.cells #[.int .i64 k1, .int .i64 m1, .int .i64 x1, .slice A1 n1 c1] 25)) := hB0.alloc hB0.size _
  refine (h1.out _ hB0').mono ?_
  rintro e w1 ⟨rfl, hb1⟩
  have s1 := blk_keepS hb1 kA.out
  have e1 := blk_keepS hb1 kB.out
  have hB1 := hB0'.trans (hb1.mono hB0'.size)
  have rs1 := row_ofS s1
  have re1 := row_ofS e1
  have hz1 : b < w1.heap.size := by have := hB1.size; omega
  have hz2 : w.heap.size < w1.heap.size := blk_ltS s1
  have hz3 : w.heap.size + 1 < w1.heap.size := blk_ltS e1
  clear g010 g011 g012 g013 g020 g021 g022 g023 rs0 re0 s0 e0 kA kB hb1 hB0 hB0' hs0 hl0
  have g110 := (hB1.cell (p := ⟨b, 0, none⟩) hb).trans r10
  have g111 := (hB1.cell (p := ⟨b, 1, none⟩) hb).trans r11
  have g112 := (hB1.cell (p := ⟨b, 2, none⟩) hb).trans r12
  have g113 := (hB1.cell (p := ⟨b, 3, none⟩) hb).trans r13
  have g120 := (hB1.cell (p := ⟨b, 4, none⟩) hb).trans r20
  have g121 := (hB1.cell (p := ⟨b, 5, none⟩) hb).trans r21
  have g122 := (hB1.cell (p := ⟨b, 6, none⟩) hb).trans r22
  have g123 := (hB1.cell (p := ⟨b, 7, none⟩) hb).trans r23
  replace s1 := Lib.hid s1
  replace e1 := Lib.hid e1
  go_wp2_with fail
  rw [rounds_succ]
  go_wp2_with fail
  have kA := Lib.hid (blkUpS s1.out (.cells #[.int .i64 k2, .int .i64 m2, .int .i64 x2, .slice A2 n2 c2] 25))
  have kB := Lib.hid (blkUpS e1.out (.cells #[.int .i64 k2, .int .i64 m2, .int .i64 x2, .slice A2 n2 c2] 25))
  have hB1' : Below w.heap.size w (w1.alloc (.cells #[.int .i64 k2, .int .i64 m2, .int .i64 x2, .slice A2 n2 c2] 25)) := hB1.alloc hB1.size _
  refine (h2.out _ hB1').mono ?_
  rintro e w2 ⟨rfl, hb2⟩
  have e2 := blk_keepS hb2 kB.out
  have hB2 := hB1'.trans (hb2.mono hB1'.size)
  have re2 := row_ofS e2
  clear g110 g111 g112 g113 g120 g121 g122 g123 rs1 re1 s1 e1 kA kB hb2 hB1 hB1' hz1 e2
  go_wp2_with fail
  rw [rounds_succ]
  go_wp2_with fail
  go_ret
  exact ⟨rfl, hB2⟩

set_option maxRecDepth 100000 in
set_option maxHeartbeats 2000000 in
theorem expr_two (A : Option Addr) (n c : Nat) (p v k : Int) (hk : 4 ≤ k ∧ k ≤ 8) (b kc : Nat) (w : World) (hkids : ∀ W, Below w.heap.size w W → Calls Try.prog 141 #[.agg #[.slice A n c, .int .i64 p, .int .i64 v], .agg #[.int .i64 k, .int .i64 0, .int .i64 0, .slice (some ⟨b, 0, none⟩) 2 kc]] W fun e w' => e = .returned (.bool true) ∧ Below W.heap.size W w') :
    Calls Try.prog 107 #[.agg #[.slice A n c, .int .i64 p, .int .i64 v], .agg #[.int .i64 k, .int .i64 0, .int .i64 0, .slice (some ⟨b, 0, none⟩) 2 kc]] w fun e w' => e = .returned (.bool true) ∧ Below w.heap.size w w' := by
  replace hkids := Lib.hid hkids
  have hk' : k = 4 ∨ k = 5 ∨ k = 6 ∨ k = 7 ∨ k = 8 := by omega
  clear hk
  rcases hk' with rfl | rfl | rfl | rfl | rfl
  all_goals
    go_enter Try.func107, Try.ntmps107
    go_wp2_with fail
    refine (hkids.out _ (((Below.refl _ _).alloc (Nat.le_refl _) _).alloc (by simp) _)).mono ?_
    rintro e w1 ⟨rfl, hb1⟩
    have hB1 : Below w.heap.size w w1 := (((Below.refl _ _).alloc (Nat.le_refl _) _).alloc (by simp) _).trans (hb1.mono (by simp; omega))
    clear hb1
    go_wp2_with fail
    go_ret
    exact ⟨rfl, hB1⟩
theorem ExOk.two {A : Option Addr} {n c : Nat} {p v k : Int} (hk : 4 ≤ k ∧ k ≤ 8) {b kc : Nat} {w : World} (hb : b < w.heap.size) (hkc : 2 ≤ kc) {k1 m1 x1 k2 m2 x2 : Int} {A1 A2 : Option Addr} {n1 c1 n2 c2 : Nat} (r10 : w.cell? ⟨b, 0, none⟩ = some (.int .i64 k1)) (r11 : w.cell? ⟨b, 1, none⟩ = some (.int .i64 m1)) (r12 : w.cell? ⟨b, 2, none⟩ = some (.int .i64 x1)) (r13 : w.cell? ⟨b, 3, none⟩ = some (.slice A1 n1 c1)) (r20 : w.cell? ⟨b, 4, none⟩ = some (.int .i64 k2)) (r21 : w.cell? ⟨b, 5, none⟩ = some (.int .i64 m2)) (r22 : w.cell? ⟨b, 6, none⟩ = some (.int .i64 x2)) (r23 : w.cell? ⟨b, 7, none⟩ = some (.slice A2 n2 c2))
    (h1 : ExOk w A n c p v (.agg #[.int .i64 k1, .int .i64 m1, .int .i64 x1, .slice A1 n1 c1])) (h2 : ExOk w A n c p v (.agg #[.int .i64 k2, .int .i64 m2, .int .i64 x2, .slice A2 n2 c2])) : ExOk w A n c p v (.agg #[.int .i64 k, .int .i64 0, .int .i64 0, .slice (some ⟨b, 0, none⟩) 2 kc]) := fun W hW =>
  expr_two A n c p v k hk b kc W (fun W' hW' => by
    have hh := hW.trans (hW'.mono hW.size)
    exact kids_two A n c p v k b kc W' (Nat.lt_of_lt_of_le hb hh.size) hkc k1 m1 x1 k2 m2 x2 A1 A2 n1 c1 n2 c2 ((hh.cell (p := ⟨b, 0, none⟩) hb).trans r10) ((hh.cell (p := ⟨b, 1, none⟩) hb).trans r11) ((hh.cell (p := ⟨b, 2, none⟩) hb).trans r12) ((hh.cell (p := ⟨b, 3, none⟩) hb).trans r13) ((hh.cell (p := ⟨b, 4, none⟩) hb).trans r20) ((hh.cell (p := ⟨b, 5, none⟩) hb).trans r21) ((hh.cell (p := ⟨b, 6, none⟩) hb).trans r22) ((hh.cell (p := ⟨b, 7, none⟩) hb).trans r23) (h1.up hh) (h2.up hh))

set_option maxRecDepth 100000 in
set_option maxHeartbeats 2000000 in
theorem stmt_asgE (A : Option Addr) (n c : Nat) (p v : Int) (u ek em ex : Int) (EA : Option Addr) (en ec : Nat) (hu : 0 ≤ u) (hu2 : u < v) (w : World) (hE : ExOk w A n c p v (.agg #[.int .i64 ek, .int .i64 em, .int .i64 ex, .slice EA en ec])) :
    Calls Try.prog 83 #[.agg #[.slice A n c, .int .i64 p, .int .i64 v], .agg #[.int .i64 1, .int .i64 u, .int .i64 0, .int .i64 0, .int .i64 ek, .int .i64 em, .int .i64 ex, .slice EA en ec, .int .i64 0, .int .i64 0, .int .i64 0, .int .i64 0, .slice none 0 0, .int .i64 0, .int .i64 0, .int .i64 0, .slice none 0 0, .slice none 0 0, .slice none 0 0, .slice none 0 0]] w fun e w' => e = .returned (.bool true) ∧ Below w.heap.size w w' := by
  replace hE := Lib.hid hE
  go_enter Try.func83, Try.ntmps83
  go_upto_region 1 with fail
  refine wp_worldS (fun W => W.heap[w.heap.size]? = some (.cells #[.slice A n c, .int .i64 p, .int .i64 v] 153 (0, 0)) ∧ W.heap[w.heap.size + 1]? = some (.cells #[.int .i64 1, .int .i64 u, .int .i64 0, .int .i64 0, .int .i64 ek, .int .i64 em, .int .i64 ex, .slice EA en ec, .int .i64 0, .int .i64 0, .int .i64 0, .int .i64 0, .slice none 0 0, .int .i64 0, .int .i64 0, .int .i64 0, .slice none 0 0, .slice none 0 0, .slice none 0 0, .slice none 0 0] 32 (0, 0)) ∧ Below w.heap.size w W ∧ W.heap.size = w.heap.size + 2) ⟨blkUpS (blkAS _ _ rfl) _, blkAS _ _ (by simp only [World.size_alloc]), ((Below.refl _ _).alloc (Nat.le_refl _) _).alloc (by simp only [World.size_alloc]; omega) _, by first | (simp only [World.size_alloc]; done) | (simp; done) | (simp; omega)⟩ ?_
  rintro w0 ⟨k0_0, k0_1, hB0, hs0⟩
  have r0_0 := row_ofS k0_0
  replace k0_0 := Lib.hid k0_0
  have r0_1 := row_ofS k0_1
  replace k0_1 := Lib.hid k0_1
  go_upto_region 6 with (first | (refine wpList_store_new rfl 32 _ _ rfl rfl _ _ _ _ rfl (by first | assumption | (simp; done)) rfl rfl info_st rfl (by kernel_rfl) ?_) | (refine ld_row 32 _ rfl _ rfl _ _ _ _ k0_1.out Try.underlying32 rfl info_st rfl ?_))
  refine wp_worldS (fun W => W.heap[w.heap.size]? = some (.cells #[.slice A n c, .int .i64 p, .int .i64 v] 153 (0, 0)) ∧ W.heap[w.heap.size + 1]? = some (.cells #[.int .i64 1, .int .i64 u, .int .i64 0, .int .i64 0, .int .i64 ek, .int .i64 em, .int .i64 ex, .slice EA en ec, .int .i64 0, .int .i64 0, .int .i64 0, .int .i64 0, .slice none 0 0, .int .i64 0, .int .i64 0, .int .i64 0, .slice none 0 0, .slice none 0 0, .slice none 0 0, .slice none 0 0] 32 (0, 0)) ∧ W.heap[w.heap.size + 2]? = some (.cells #[.int .i64 0, .int .i64 0, .int .i64 0, .int .i64 0, .int .i64 0, .int .i64 0, .int .i64 0, .slice none 0 0, .int .i64 0, .int .i64 0, .int .i64 0, .int .i64 0, .slice none 0 0, .int .i64 0, .int .i64 0, .int .i64 0, .slice none 0 0, .slice none 0 0, .slice none 0 0, .slice none 0 0] 32 (0, 0)) ∧ Below w.heap.size w W ∧ W.heap.size = w.heap.size + 3) ⟨blkUpS k0_0.out _, blkUpS k0_1.out _, blkAS _ _ hs0, hB0.alloc (by rw [hs0]; omega) _, by first | (simp only [World.size_alloc]; done) | (simp; done) | (simp; omega)⟩ ?_
  rintro w1 ⟨k1_0, k1_1, k1_2, hB1, hs1⟩
  have r1_0 := row_ofS k1_0
  replace k1_0 := Lib.hid k1_0
  have r1_1 := row_ofS k1_1
  replace k1_1 := Lib.hid k1_1
  have r1_2 := row_ofS k1_2
  replace k1_2 := Lib.hid k1_2
  clear k0_0 k0_1 r0_0 r0_1 hB0 hs0
  go_wp2_with (first | (refine ld_row 32 _ rfl _ rfl _ _ _ _ k1_2.out Try.underlying32 rfl info_st rfl ?_) | (refine ld_row 32 _ rfl _ rfl _ _ _ _ k1_1.out Try.underlying32 rfl info_st rfl ?_))
  refine (var_yes A n c p v _ _ (by assumption) (by assumption)).mono ?_
  rintro e w2 ⟨rfl, hb2⟩
  have k2_0 := Lib.hid (blk_keepS hb2 k1_0.out)
  have k2_1 := Lib.hid (blk_keepS hb2 k1_1.out)
  have k2_2 := Lib.hid (blk_keepS hb2 k1_2.out)
  have hB2 : Below w.heap.size w w2 := bel_up hB1 (Nat.le_refl _) hb2
  clear hb2 hB1 hs1 k1_0 r1_0 k1_1 r1_1 k1_2 r1_2
  have r2_0 := row_ofS k2_0.out
  have r2_1 := row_ofS k2_1.out
  have r2_2 := row_ofS k2_2.out
  go_wp2_with (first | (refine ld_row 32 _ rfl _ rfl _ _ _ _ k2_2.out Try.underlying32 rfl info_st rfl ?_) | (refine ld_row 32 _ rfl _ rfl _ _ _ _ k2_1.out Try.underlying32 rfl info_st rfl ?_))
  refine (hE.out _ hB2).mono ?_
  rintro e w3 ⟨rfl, hb3⟩
  have k3_0 := Lib.hid (blk_keepS hb3 k2_0.out)
  have k3_1 := Lib.hid (blk_keepS hb3 k2_1.out)
  have k3_2 := Lib.hid (blk_keepS hb3 k2_2.out)
  have hB3 : Below w.heap.size w w3 := bel_up hB2 (Nat.le_refl _) hb3
  clear hb3 hB2 k2_0 r2_0 k2_1 r2_1 k2_2 r2_2
  have r3_0 := row_ofS k3_0.out
  have r3_1 := row_ofS k3_1.out
  have r3_2 := row_ofS k3_2.out
  go_wp2_with (first | (refine ld_row 32 _ rfl _ rfl _ _ _ _ k3_2.out Try.underlying32 rfl info_st rfl ?_) | (refine ld_row 32 _ rfl _ rfl _ _ _ _ k3_1.out Try.underlying32 rfl info_st rfl ?_))
  refine (nothing_any _).mono ?_
  rintro e w4 ⟨rfl, hb4⟩
  have k4_0 := Lib.hid (blk_keepS hb4 k3_0.out)
  have k4_1 := Lib.hid (blk_keepS hb4 k3_1.out)
  have k4_2 := Lib.hid (blk_keepS hb4 k3_2.out)
  have hB4 : Below w.heap.size w w4 := bel_up hB3 (Nat.le_refl _) hb4
  clear hb4 hB3 k3_0 r3_0 k3_1 r3_1 k3_2 r3_2
  have r4_0 := row_ofS k4_0.out
  have r4_1 := row_ofS k4_1.out
  have r4_2 := row_ofS k4_2.out
  go_wp2_with fail
  go_ret
  exact ⟨rfl, hB4⟩

end Go.Proofs.Ytdagadcflignfaa
namespace Go.Proofs.Ytdagadcflignfaa
open Go.RowKit
variable {ek em ex : Int} {EA : Option Addr} {en ec : Nat}
theorem info_st3 : (Try.prog.info? 32).map (fun i => (i.zero, i.size, i.bytes)) = some (some (.agg #[.int .i64 0, .int .i64 0, .int .i64 0, .int .i64 0, .int .i64 0, .int .i64 0, .int .i64 0, .slice none 0 0, .int .i64 0, .int .i64 0, .int .i64 0, .int .i64 0, .slice none 0 0, .int .i64 0, .int .i64 0, .int .i64 0, .slice none 0 0, .slice none 0 0, .slice none 0 0, .slice none 0 0]), 20, 256) := by kernel_rfl
theorem info_proc3 : (Try.prog.info? 42).map (fun i => (i.zero, i.size, i.bytes)) = some (some (.agg #[.int .i64 0, .slice none 0 0]), 2, 32) := by kernel_rfl
theorem range_of_own {w : World} {b g n c : Nat} {e : TypeId} {size : Nat} {xs : List Value} (h : w.ownsRow b e size (.slice (some ⟨g, 0, none⟩) n c) n xs) : w.rangeAt g 0 xs := fun j v hv => by
  have := h.cells rfl j v hv
  rwa [Addr.add_mid] at this

def EdgesCut (w : World) (wx : World) : Prop :=
  ∃ D cD, wx.heap[w.heap.size + 1]? = some (.cells #[.slice none 0 0, .slice none 0 0] 45 (0, 0)) ∧ wx.heap[w.heap.size + 3]? = some (.cells #[.int .i64 1, .slice (some ⟨D, 0, none⟩) 1 cD] 42 (0, 0)) ∧
    wx.ownsRow (w.heap.size + 5) 32 20 (.slice (some ⟨D, 0, none⟩) 1 cD) 1 [.int .i64 1, .int .i64 0, .int .i64 0, .int .i64 0, .int .i64 ek, .int .i64 em, .int .i64 ex, .slice EA en ec, .int .i64 0, .int .i64 0, .int .i64 0, .int .i64 0, .slice none 0 0, .int .i64 0, .int .i64 0, .int .i64 0, .slice none 0 0, .slice none 0 0, .slice none 0 0, .slice none 0 0] ∧ Below w.heap.size w wx

section
attribute [local go_sem ↓] to_LoadS

set_option maxRecDepth 100000 in
set_option maxHeartbeats 8000000 in
theorem edges_one {HH : Option Addr} {hc : Nat} (G cg V cv x0 ce : Nat) (w : World) (_hcg : 1 ≤ cg) (_hcv : 1 ≤ cv) (_hce : 1 ≤ ce) (hG : G < w.heap.size) (hV : V < w.heap.size) (hx : x0 < w.heap.size)
    (hg : w.rangeAt G 0 [.int .i64 2, .slice (some ⟨x0, 0, none⟩) 1 ce, .slice HH 0 hc]) (hv : w.cell? ⟨V, 0, none⟩ = some (.int .i64 1)) (he : w.rangeAt x0 0 [.int .i64 0, .int .i64 1, .int .i64 1, .int .i64 0, .int .i64 0, .int .i64 0, .int .i64 ek, .int .i64 em, .int .i64 ex, .slice EA en ec, .int .i64 0, .int .i64 0, .int .i64 0, .int .i64 0, .slice none 0 0, .int .i64 0, .int .i64 0, .int .i64 0, .slice none 0 0]) (hst : StOk w none 0 0 0 1 [.int .i64 1, .int .i64 0, .int .i64 0, .int .i64 0, .int .i64 ek, .int .i64 em, .int .i64 ex, .slice EA en ec, .int .i64 0, .int .i64 0, .int .i64 0, .int .i64 0, .slice none 0 0, .int .i64 0, .int .i64 0, .int .i64 0, .slice none 0 0, .slice none 0 0, .slice none 0 0, .slice none 0 0]) :
    Calls Try.prog 68 #[.agg #[.slice none 0 0, .slice (some ⟨G, 0, none⟩) 1 cg, .slice (some ⟨V, 0, none⟩) 1 cv]] w fun e w' => e = .returned (.bool true) ∧ Below w.heap.size w w' := by
  replace he := Lib.hid he
  replace hst := Lib.hid hst
  replace hg := Lib.hid hg
  obtain ⟨ii, hii, iz0, iz1, iz2⟩ := info_parts info_st3
  obtain ⟨ip, hip, pz0, pz1, pz2⟩ := info_parts info_proc3
  replace hii := Lib.hid hii
  replace hip := Lib.hid hip
  go_enter Try.func68, Try.ntmps68
  go_upto_region 3 with fail
  refine wp_worldS (fun W => W.heap[w.heap.size + 1]? = some (.cells #[.slice none 0 0, .slice none 0 0] 45 (0, 0)) ∧ W.heap[w.heap.size]? = some (.cells #[.slice none 0 0, .slice (some ⟨G, 0, none⟩) 1 cg, .slice (some ⟨V, 0, none⟩) 1 cv] 37 (0, 0)) ∧ Below w.heap.size w W ∧ W.heap.size = w.heap.size + 2) ⟨blkAS _ _ (by simp), blkUpS (blkAS _ _ rfl) _, ((Below.refl _ _).alloc (Nat.le_refl _) _).alloc (by simp) _, by simp⟩ ?_
  rintro w0 ⟨k1, k0, hB0, hs0⟩
  have r0 := row_ofS k0
  have hlt0 := blk_ltS k0
  have hg0 := Lib.hid (range_keep hB0 hG hg.out)
  have he0 := Lib.hid (range_keep hB0 hx he.out)
  have hv0 := (hB0.cell (p := ⟨V, 0, none⟩) hV).trans hv
  have hV0 : V < w.heap.size + 2 := by omega
  replace k1 := Lib.hid k1
  replace k0 := Lib.hid k0
  refine wp_loop_rounds 2 ?_
  rw [rounds_succ]
  go_upto_region 7 with (refine ld_mid 49 _ rfl _ _ rfl [.int .i64 2, .slice (some ⟨x0, 0, none⟩) 1 ce, .slice HH 0 hc] _ hg0.out Try.underlying49 rfl (by kernel_rfl) rfl ?_)
  refine wp_worldS (fun W => W.heap[w.heap.size + 1]? = some (.cells #[.slice none 0 0, .slice none 0 0] 45 (0, 0)) ∧ W.heap[w.heap.size]? = some (.cells #[.slice none 0 0, .slice (some ⟨G, 0, none⟩) 1 cg, .slice (some ⟨V, 0, none⟩) 1 cv] 37 (0, 0)) ∧ W.heap[w.heap.size + 3]? = some (.cells #[.int .i64 1, .slice none 0 0] 42 (0, 0)) ∧ Below w.heap.size w W ∧ W.heap.size = w.heap.size + 4) ⟨blkUpS (blkUpS k1.out _) _, blkUpS (blkUpS k0.out _) _, blkAS _ _ (by simp; exact hs0), (hB0.alloc hB0.size _).alloc (by simp; omega) _, by simp; omega⟩ ?_
  rintro w1 ⟨q1, q0, qp, hB1, hs1⟩
  clear r0 k1 k0 hg0 he0 hv0 hV0 hB0 hs0
  have he1 := Lib.hid (range_keep hB1 hx he.out)
  replace q1 := Lib.hid q1
  replace q0 := Lib.hid q0
  replace qp := Lib.hid qp
  refine wp_loop_rounds 2 ?_
  rw [rounds_succ]
  go_upto_block 3 with fail
  go_cut [] from 30 to 46 (fun wx => EdgesCut (ek := ek) (em := em) (ex := ex) (EA := EA) (en := en) (ec := ec) w wx)
  case first =>
    go_upto_region 9 with (first | (refine ld_mid 53 _ rfl _ _ rfl [.int .i64 0, .int .i64 1, .int .i64 1, .int .i64 0, .int .i64 0, .int .i64 0, .int .i64 ek, .int .i64 em, .int .i64 ex, .slice EA en ec, .int .i64 0, .int .i64 0, .int .i64 0, .int .i64 0, .slice none 0 0, .int .i64 0, .int .i64 0, .int .i64 0, .slice none 0 0] _ he1.out Try.underlying53 rfl info_edge rfl ?_) | (refine wpList_store_new rfl 53 _ _ rfl rfl _ _ _ _ rfl (by first | assumption | (simp; done)) rfl rfl info_edge rfl (by kernel_rfl) ?_))
    refine wp_worldS (fun W => W.heap[w.heap.size + 1]? = some (.cells #[.slice none 0 0, .slice none 0 0] 45 (0, 0)) ∧ W.heap[w.heap.size + 3]? = some (.cells #[.int .i64 1, .slice none 0 0] 42 (0, 0)) ∧ W.heap[w.heap.size + 4]? = some (.cells #[.int .i64 0, .int .i64 1, .int .i64 1, .int .i64 0, .int .i64 0, .int .i64 0, .int .i64 ek, .int .i64 em, .int .i64 ex, .slice EA en ec, .int .i64 0, .int .i64 0, .int .i64 0, .int .i64 0, .slice none 0 0, .int .i64 0, .int .i64 0, .int .i64 0, .slice none 0 0] 53 (0, 0)) ∧ Below w.heap.size w W ∧ W.heap.size = w.heap.size + 5) ⟨blkUpS q1.out _, blkUpS qp.out _, blkAS _ _ hs1, hB1.alloc hB1.size _, by simp; exact hs1⟩ ?_
    rintro w2 ⟨n1, np, nx, hB2, hs2⟩
    clear q1 q0 qp he1 hB1 hs1
    have c2 := row_ofS nx 2
    have z1 : w2.cell? ⟨w.heap.size + 3, 1, none⟩ = some (.slice none 0 0) := row_ofS np 1
    have ra : w2.drew.rangeAt (w.heap.size + 4) 0 [.int .i64 0, .int .i64 1, .int .i64 1, .int .i64 0, .int .i64 0, .int .i64 0, .int .i64 ek, .int .i64 em, .int .i64 ex, .slice EA en ec, .int .i64 0, .int .i64 0, .int .i64 0, .int .i64 0, .slice none 0 0, .int .i64 0, .int .i64 0, .int .i64 0, .slice none 0 0] := fun j v hv => by rw [Nat.zero_add]; exact (row_ofS nx j).trans (by simpa using hv)
    have hld : (LoadS 53 (.pointer (some ⟨w.heap.size + 4, 0, none⟩))).run Try.prog w2.drew = .ok (.agg #[.int .i64 0, .int .i64 1, .int .i64 1, .int .i64 0, .int .i64 0, .int .i64 0, .int .i64 ek, .int .i64 em, .int .i64 ex, .slice EA en ec, .int .i64 0, .int .i64 0, .int .i64 0, .int .i64 0, .slice none 0 0, .int .i64 0, .int .i64 0, .int .i64 0, .slice none 0 0]) w2.drew := run_loadAt_mid _ _ _ _ _ _ ra Try.underlying53 rfl info_edge
    clear ra
    replace n1 := Lib.hid n1
    replace np := Lib.hid np
    replace nx := Lib.hid nx
    go_upto_region 10 with fail
    go_region_law (first
      | (refine step_append_lies _ (by rfl) _ _ _ (by rfl) (w.heap.size + 5) 32 ii _ 20 256 Try.underlying26 hii.out iz0 iz1 iz2 rfl (by omega) (.slice none 0 0) 0 [] (by rfl) (World.ownsRow_nil _ _ _ _) ⟨w3.heap.size, 0, none⟩ 1 1 [.int .i64 1, .int .i64 0, .int .i64 0, .int .i64 0, .int .i64 ek, .int .i64 em, .int .i64 ex, .slice EA en ec, .int .i64 0, .int .i64 0, .int .i64 0, .int .i64 0, .slice none 0 0, .int .i64 0, .int .i64 0, .int .i64 0, .slice none 0 0, .slice none 0 0, .slice none 0 0, .slice none 0 0] (by rfl) (by rfl) (World.news_of_block (cs := #[.int .i64 1, .int .i64 0, .int .i64 0, .int .i64 0, .int .i64 ek, .int .i64 em, .int .i64 ex, .slice EA en ec, .int .i64 0, .int .i64 0, .int .i64 0, .int .i64 0, .slice none 0 0, .int .i64 0, .int .i64 0, .int .i64 0, .slice none 0 0, .slice none 0 0, .slice none 0 0, .slice none 0 0]) (t := 32) (fr := (0, 0)) (blkAS _ _ rfl)) (by simp [Value.oneCell']) (by omega) (by decide) (by decide) (by simp; omega) (w3.heap.size + 1) (by simp) ?_; intro gg cap w6 hown6 hgrow hat hlt6; have m1 := Lib.hid (grown_blk hgrow (blkUpS o1.out _) (by simp [Value.ownBlock])); have mp := grown_blk hgrow (blkUpS op.out _) (by simp [Value.ownBlock]); have vv := row_ofS mp 1; have fv6 := frozen_ofS mp 1; have hB6 := Lib.hid (below_grown hgrow (by first | exact hB3.alloc hB3.size _ | exact (hB3.alloc hB3.size _).drew) (Nat.le_refl _) (fun b hb => by simp [Value.ownBlock] at hb)); replace mp := Lib.hid mp; replace hown6 := Lib.hid hown6; clear hgrow hat o1 op hB3)
      | (go_simp; go_at_call 93; refine (statement_one _).mono ?_; rintro e w3 ⟨rfl, hb3⟩; have o1 := Lib.hid (blk_keepS hb3 n1.out); have op := blk_keepS hb3 np.out; have z3 : w3.cell? ⟨w.heap.size + 3, 1, none⟩ = some (.slice none 0 0) := row_ofS op 1; have hl3 := blk_ltS op; have hB3 := hB2.drew.trans (hb3.mono hB2.size); have hz3 : w.heap.size + 5 ≤ w3.heap.size := Nat.le_trans (Nat.le_of_eq hs2.symm) hb3.size; replace op := Lib.hid op; clear hb3))
    all_goals
      go_wp2_with fail
      go_meet
      case rel =>
        have hset := mp.out
        refine ⟨gg, cap, blk_setS m1.out (by omega), ?_, own_set hown6.out (by omega), hB6.out.setCell (by show w.heap.size ≤ w.heap.size + 3; omega) _⟩
        simp [World.setCell, Array.getElem?_modify, hset]
  case rest =>
    obtain ⟨D, cD, n1, np, hD, hBx⟩ := hcut
    have rp := row_ofS np
    have r1 := row_ofS n1
    have fz := frozen_ofS n1 1
    have hpl := blk_ltS np
    have hpl1 := blk_ltS n1
    replace n1 := Lib.hid n1
    replace np := Lib.hid np
    replace hD := Lib.hid hD
    go_wp2_with fail
    rw [rounds_succ]
    go_upto_region 15 with (refine wpList_append_lies _ rfl _ _ _ rfl (w.heap.size + 2) 42 ip _ 2 32 Try.underlying43 hip.out pz0 pz1 pz2 rfl (by omega) (.slice none 0 0) 0 [] rfl (World.ownsRow_nil _ _ _ _) ⟨wc.heap.size, 0, none⟩ 1 1 [.int .i64 1, .slice (some ⟨D, 0, none⟩) 1 cD] rfl rfl (World.news_of_block (cs := #[.int .i64 1, .slice (some ⟨D, 0, none⟩) 1 cD]) (t := 42) (fr := (0, 0)) (blkAS _ _ rfl)) (by simp [Value.oneCell']) (by omega) (by decide) (by decide) (by simp; omega) (wc.heap.size + 1) (by simp) ?_)
    intro Hb cH w7 hH hgr7 _ hlt7
    have m1 := grown_blk hgr7 (blkUpS n1.out _) (by simp [Value.ownBlock])
    have hD7 := (hD.out.alloc _).kept hgr7 (by simp [Value.ownBlock])
    have hB7 : Below w.heap.size w w7 := below_grown hgr7 (hBx.alloc hBx.size _) (Nat.le_refl _) (fun b hb => by simp [Value.ownBlock] at hb)
    have r7 := row_ofS m1
    have f7 := frozen_ofS m1 1
    replace m1 := Lib.hid m1
    replace hD7 := Lib.hid hD7
    replace hH := Lib.hid hH
    clear hgr7 rp r1 fz n1 np hD hBx
    go_upto_region 15 with fail
    have hset := m1.out
    have hset3 : (w7.setCell ⟨w.heap.size + 1, 1, none⟩ (.slice (some ⟨Hb, 0, none⟩) 1 cH)).heap[w.heap.size + 1]? = some (.cells #[.slice none 0 0, .slice (some ⟨Hb, 0, none⟩) 1 cH] 45 (0, 0)) := by simp [World.setCell, Array.getElem?_modify, hset]
    refine wp_worldS (fun W => W.heap[w.heap.size + 1]? = some (.cells #[.slice none 0 0, .slice (some ⟨Hb, 0, none⟩) 1 cH] 45 (0, 0)) ∧ W.ownsRow (w.heap.size + 2) 32 20 (.slice (some ⟨D, 0, none⟩) 1 cD) 1 [.int .i64 1, .int .i64 0, .int .i64 0, .int .i64 0, .int .i64 ek, .int .i64 em, .int .i64 ex, .slice EA en ec, .int .i64 0, .int .i64 0, .int .i64 0, .int .i64 0, .slice none 0 0, .int .i64 0, .int .i64 0, .int .i64 0, .slice none 0 0, .slice none 0 0, .slice none 0 0, .slice none 0 0] ∧ W.ownsRow (w.heap.size + 2) 42 2 (.slice (some ⟨Hb, 0, none⟩) 1 cH) 1 [.int .i64 1, .slice (some ⟨D, 0, none⟩) 1 cD] ∧ Below w.heap.size w W) ⟨hset3, own_base (own_set hD7.out (by omega)) (by omega), own_set hH.out (by omega), hB7.setCell (Nat.le_succ _) _⟩ ?_
    rintro w8 ⟨q1, hD8, hH8, hB8⟩
    clear hset hset3 m1 hD7 hH hB7 r7 f7
    have r8 := row_ofS q1
    have hDl := (hD8.lt D rfl).2
    have hHl := (hH8.lt Hb rfl).2
    have hrD := range_of_own hD8
    have hrH := range_of_own hH8
    have hcD : 1 ≤ cD := by
      rcases hD8.2 with ⟨h1, _⟩ | ⟨_, _, _, h1, _, _, h2, _⟩
      · cases h1
      · cases h1; exact h2
    have hcH : 1 ≤ cH := by
      rcases hH8.2 with ⟨h1, _⟩ | ⟨_, _, _, h1, _, _, h2, _⟩
      · cases h1
      · cases h1; exact h2
    replace hrD := Lib.hid hrD
    replace hrH := Lib.hid hrH
    have hem : ElemsAt w8 w8.heap.size (some ⟨D, 0, none⟩) 1 20 (fun _ => [.int .i64 1, .int .i64 0, .int .i64 0, .int .i64 0, .int .i64 ek, .int .i64 em, .int .i64 ex, .slice EA en ec, .int .i64 0, .int .i64 0, .int .i64 0, .int .i64 0, .slice none 0 0, .int .i64 0, .int .i64 0, .int .i64 0, .slice none 0 0, .slice none 0 0, .slice none 0 0, .slice none 0 0]) := fun i hi => by
      obtain rfl : i = 0 := by omega
      exact ⟨D, rfl, hDl, by rw [Nat.zero_mul]; exact hrD.out, rfl, List.all_eq_true.1 (show List.all ([.int .i64 1, .int .i64 0, .int .i64 0, .int .i64 0, .int .i64 ek, .int .i64 em, .int .i64 ex, .slice EA en ec, .int .i64 0, .int .i64 0, .int .i64 0, .int .i64 0, .slice none 0 0, .int .i64 0, .int .i64 0, .int .i64 0, .slice none 0 0, .slice none 0 0, .slice none 0 0, .slice none 0 0] : List Value) (·.oneCell') = true by kernel_rfl)⟩
    replace hem := Lib.hid hem
    clear q1 hD8 hH8
    go_wp2_with fail
    rw [rounds_succ]
    go_wp2_with fail
    refine (right_one 1 Hb cH (some ⟨D, 0, none⟩) 1 cD (fun _ => [.int .i64 1, .int .i64 0, .int .i64 0, .int .i64 0, .int .i64 ek, .int .i64 em, .int .i64 ex, .slice EA en ec, .int .i64 0, .int .i64 0, .int .i64 0, .int .i64 0, .slice none 0 0, .int .i64 0, .int .i64 0, .int .i64 0, .slice none 0 0, .slice none 0 0, .slice none 0 0, .slice none 0 0]) w8 (by decide) (by decide) (by decide) hcD hcH hHl hrH.out hem.out (fun i hi W hW => hst.out W (hB8.trans (hW.mono hB8.size)))).mono ?_
    rintro e w9 ⟨rfl, hb9⟩
    have hB9 := hB8.trans (hb9.mono hB8.size)
    go_wp2_with fail
    go_ret
    exact ⟨rfl, hB9⟩
end
end Go.Proofs.Ytdagadcflignfaa
