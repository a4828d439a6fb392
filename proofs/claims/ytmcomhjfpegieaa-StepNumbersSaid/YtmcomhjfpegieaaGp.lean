/-
  flow.edgesRight of the graph of one assignment.
-/
import Derived.Test.YtmcomhjfpegieaaGo
import Derived.Test.YtmcomhjfpegieaaFe
import Derived.Test.YtmcomhjfpegieaaGc
import Derived.Deep.CutBlock
import Derived.Deep.CutRange
namespace Go.Proofs.Ytmcomhjfpegieaa
open Go.RowKit
variable {ek em ex : Int} {EA : Option Addr} {en ec : Nat}
theorem info_st3 : (Try.prog.info? 121).map (fun i => (i.zero, i.size, i.bytes)) = some (some (.agg #[.int .i64 0, .int .i64 0, .int .i64 0, .int .i64 0, .int .i64 0, .int .i64 0, .int .i64 0, .slice none 0 0, .int .i64 0, .int .i64 0, .int .i64 0, .int .i64 0, .slice none 0 0, .int .i64 0, .int .i64 0, .int .i64 0, .slice none 0 0, .slice none 0 0, .slice none 0 0, .slice none 0 0]), 20, 256) := by kernel_rfl
theorem info_proc3 : (Try.prog.info? 118).map (fun i => (i.zero, i.size, i.bytes)) = some (some (.agg #[.int .i64 0, .slice none 0 0]), 2, 32) := by kernel_rfl
theorem range_of_own {w : World} {b g n c : Nat} {e : TypeId} {size : Nat} {xs : List Value} (h : w.ownsRow b e size (.slice (some ⟨g, 0, none⟩) n c) n xs) : w.rangeAt g 0 xs := fun j v hv => by
  have := h.cells rfl j v hv
  rwa [Addr.add_mid] at this

theorem own_base {w : World} {b b' : Nat} {e : TypeId} {size n : Nat} {v : Value} {xs : List Value} (h : w.ownsRow b' e size v n xs) (hb : b ≤ b') : w.ownsRow b e size v n xs := by
  refine ⟨h.1, ?_⟩
  rcases h.2 with h0 | ⟨g, cap, cur, rfl, hg, h1⟩
  · exact .inl h0
  · exact .inr ⟨g, cap, cur, rfl, Nat.le_trans hb hg, h1⟩
def EdgesCut (w : World) (wx : World) : Prop :=
  ∃ D cD, wx.heap[w.heap.size + 1]? = some (.cells #[.slice none 0 0, .slice none 0 0] 115 (0, 0)) ∧ wx.heap[w.heap.size + 3]? = some (.cells #[.int .i64 1, .slice (some ⟨D, 0, none⟩) 1 cD] 118 (0, 0)) ∧
    wx.ownsRow (w.heap.size + 5) 121 20 (.slice (some ⟨D, 0, none⟩) 1 cD) 1 [.int .i64 1, .int .i64 0, .int .i64 0, .int .i64 0, .int .i64 ek, .int .i64 em, .int .i64 ex, .slice EA en ec, .int .i64 0, .int .i64 0, .int .i64 0, .int .i64 0, .slice none 0 0, .int .i64 0, .int .i64 0, .int .i64 0, .slice none 0 0, .slice none 0 0, .slice none 0 0, .slice none 0 0] ∧ Below w.heap.size w wx

section
attribute [local go_sem ↓] to_LoadS

set_option maxRecDepth 100000 in
set_option maxHeartbeats 8000000 in
theorem edges_one {HH : Option Addr} {hc : Nat} (G cg V cv x0 ce : Nat) (w : World) (hcg : 1 ≤ cg) (hcv : 1 ≤ cv) (hce : 1 ≤ ce) (hG : G < w.heap.size) (hV : V < w.heap.size) (hx : x0 < w.heap.size)
    (hg : w.rangeAt G 0 [.int .i64 2, .slice (some ⟨x0, 0, none⟩) 1 ce, .slice HH 0 hc]) (hv : w.cell? ⟨V, 0, none⟩ = some (.int .i64 1)) (he : w.rangeAt x0 0 [.int .i64 0, .int .i64 1, .int .i64 1, .int .i64 0, .int .i64 0, .int .i64 0, .int .i64 ek, .int .i64 em, .int .i64 ex, .slice EA en ec, .int .i64 0, .int .i64 0, .int .i64 0, .int .i64 0, .slice none 0 0, .int .i64 0, .int .i64 0, .int .i64 0, .slice none 0 0]) (hst : StOk w none 0 0 0 1 [.int .i64 1, .int .i64 0, .int .i64 0, .int .i64 0, .int .i64 ek, .int .i64 em, .int .i64 ex, .slice EA en ec, .int .i64 0, .int .i64 0, .int .i64 0, .int .i64 0, .slice none 0 0, .int .i64 0, .int .i64 0, .int .i64 0, .slice none 0 0, .slice none 0 0, .slice none 0 0, .slice none 0 0]) :
    Calls Try.prog 31 #[.agg #[.slice none 0 0, .slice (some ⟨G, 0, none⟩) 1 cg, .slice (some ⟨V, 0, none⟩) 1 cv]] w fun e w' => e = .returned (.bool true) ∧ Below w.heap.size w w' := by
  replace he := Lib.hid he
  replace hst := Lib.hid hst
  replace hg := Lib.hid hg
  obtain ⟨ii, hii, iz0, iz1, iz2⟩ := info_parts info_st3
  obtain ⟨ip, hip, pz0, pz1, pz2⟩ := info_parts info_proc3
  replace hii := Lib.hid hii
  replace hip := Lib.hid hip
  go_enter Try.func31, Try.ntmps31
  go_upto_region 3 with fail
  refine wp_world (fun W => W.heap[w.heap.size + 1]? = some (.cells #[.slice none 0 0, .slice none 0 0] 115 (0, 0)) ∧ W.heap[w.heap.size]? = some (.cells #[.slice none 0 0, .slice (some ⟨G, 0, none⟩) 1 cg, .slice (some ⟨V, 0, none⟩) 1 cv] 36 (0, 0)) ∧ Below w.heap.size w W ∧ W.heap.size = w.heap.size + 2) ⟨blkA _ _ (by simp), blkUp (blkA _ _ rfl) _, ((Below.refl _ _).alloc (Nat.le_refl _) _).alloc (by simp) _, by simp⟩ ?_
  rintro w0 ⟨k1, k0, hB0, hs0⟩
  have r0 := row_of k0
  have hlt0 := blk_lt k0
  have hg0 := Lib.hid (range_keep hB0 hG hg.out)
  have he0 := Lib.hid (range_keep hB0 hx he.out)
  have hv0 := (hB0.cell (p := ⟨V, 0, none⟩) hV).trans hv
  have hV0 : V < w.heap.size + 2 := by omega
  replace k1 := Lib.hid k1
  replace k0 := Lib.hid k0
  refine wp_loop_rounds 2 ?_
  rw [rounds_succ]
  go_upto_region 7 with (refine ld_mid 32 _ rfl _ _ rfl [.int .i64 2, .slice (some ⟨x0, 0, none⟩) 1 ce, .slice HH 0 hc] _ hg0.out Try.underlying32 rfl (by kernel_rfl) rfl ?_)
  refine wp_world (fun W => W.heap[w.heap.size + 1]? = some (.cells #[.slice none 0 0, .slice none 0 0] 115 (0, 0)) ∧ W.heap[w.heap.size]? = some (.cells #[.slice none 0 0, .slice (some ⟨G, 0, none⟩) 1 cg, .slice (some ⟨V, 0, none⟩) 1 cv] 36 (0, 0)) ∧ W.heap[w.heap.size + 3]? = some (.cells #[.int .i64 1, .slice none 0 0] 118 (0, 0)) ∧ Below w.heap.size w W ∧ W.heap.size = w.heap.size + 4) ⟨blkUp (blkUp k1.out _) _, blkUp (blkUp k0.out _) _, blkA _ _ (by simp; exact hs0), (hB0.alloc hB0.size _).alloc (by simp; omega) _, by simp; omega⟩ ?_
  rintro w1 ⟨q1, q0, qp, hB1, hs1⟩
  clear r0 k1 k0 hg0 he0 hv0 hV0 hB0 hs0
  have he1 := Lib.hid (range_keep hB1 hx he.out)
  replace q1 := Lib.hid q1
  replace q0 := Lib.hid q0
  replace qp := Lib.hid qp
  refine wp_loop_rounds 2 ?_
  rw [rounds_succ]
  go_upto_block 3 with fail
  go_cut [] from 30 to 46 (fun wx => EdgesCut (ek := ek) (em := em) (ex := ex) (EA := EA) (en := en) (ec := ec) w wx)
  case first =>
    go_upto_region 9 with (first | (refine ld_mid 28 _ rfl _ _ rfl [.int .i64 0, .int .i64 1, .int .i64 1, .int .i64 0, .int .i64 0, .int .i64 0, .int .i64 ek, .int .i64 em, .int .i64 ex, .slice EA en ec, .int .i64 0, .int .i64 0, .int .i64 0, .int .i64 0, .slice none 0 0, .int .i64 0, .int .i64 0, .int .i64 0, .slice none 0 0] _ he1.out Try.underlying28 rfl info_edge rfl ?_) | (refine wpList_store_new rfl 28 _ _ rfl rfl _ _ _ _ rfl (by first | assumption | (simp; done)) rfl rfl info_edge rfl (by kernel_rfl) ?_))
    refine wp_world (fun W => W.heap[w.heap.size + 1]? = some (.cells #[.slice none 0 0, .slice none 0 0] 115 (0, 0)) ∧ W.heap[w.heap.size + 3]? = some (.cells #[.int .i64 1, .slice none 0 0] 118 (0, 0)) ∧ W.heap[w.heap.size + 4]? = some (.cells #[.int .i64 0, .int .i64 1, .int .i64 1, .int .i64 0, .int .i64 0, .int .i64 0, .int .i64 ek, .int .i64 em, .int .i64 ex, .slice EA en ec, .int .i64 0, .int .i64 0, .int .i64 0, .int .i64 0, .slice none 0 0, .int .i64 0, .int .i64 0, .int .i64 0, .slice none 0 0] 28 (0, 0)) ∧ Below w.heap.size w W ∧ W.heap.size = w.heap.size + 5) ⟨blkUp q1.out _, blkUp qp.out _, blkA _ _ hs1, hB1.alloc hB1.size _, by simp; exact hs1⟩ ?_
    rintro w2 ⟨n1, np, nx, hB2, hs2⟩
    clear q1 q0 qp he1 hB1 hs1
    have c2 := row_of nx 2
    have z1 : w2.cell? ⟨w.heap.size + 3, 1, none⟩ = some (.slice none 0 0) := row_of np 1
    have ra : w2.drew.rangeAt (w.heap.size + 4) 0 [.int .i64 0, .int .i64 1, .int .i64 1, .int .i64 0, .int .i64 0, .int .i64 0, .int .i64 ek, .int .i64 em, .int .i64 ex, .slice EA en ec, .int .i64 0, .int .i64 0, .int .i64 0, .int .i64 0, .slice none 0 0, .int .i64 0, .int .i64 0, .int .i64 0, .slice none 0 0] := fun j v hv => by rw [Nat.zero_add]; exact (row_of nx j).trans (by simpa using hv)
    have hld : (LoadS 28 (.pointer (some ⟨w.heap.size + 4, 0, none⟩))).run Try.prog w2.drew = .ok (.agg #[.int .i64 0, .int .i64 1, .int .i64 1, .int .i64 0, .int .i64 0, .int .i64 0, .int .i64 ek, .int .i64 em, .int .i64 ex, .slice EA en ec, .int .i64 0, .int .i64 0, .int .i64 0, .int .i64 0, .slice none 0 0, .int .i64 0, .int .i64 0, .int .i64 0, .slice none 0 0]) w2.drew := run_loadAt_mid _ _ _ _ _ _ ra Try.underlying28 rfl info_edge
    clear ra
    replace n1 := Lib.hid n1
    replace np := Lib.hid np
    replace nx := Lib.hid nx
    go_upto_region 10 with fail
    go_region_law (first
      | (refine step_append_lies _ (by rfl) _ _ _ (by rfl) (w.heap.size + 5) 121 ii _ 20 256 Try.underlying116 hii.out iz0 iz1 iz2 rfl (by omega) (.slice none 0 0) 0 [] (by rfl) (World.ownsRow_nil _ _ _ _) ⟨w3.heap.size, 0, none⟩ 1 1 [.int .i64 1, .int .i64 0, .int .i64 0, .int .i64 0, .int .i64 ek, .int .i64 em, .int .i64 ex, .slice EA en ec, .int .i64 0, .int .i64 0, .int .i64 0, .int .i64 0, .slice none 0 0, .int .i64 0, .int .i64 0, .int .i64 0, .slice none 0 0, .slice none 0 0, .slice none 0 0, .slice none 0 0] (by rfl) (by rfl) (World.news_of_block (cs := #[.int .i64 1, .int .i64 0, .int .i64 0, .int .i64 0, .int .i64 ek, .int .i64 em, .int .i64 ex, .slice EA en ec, .int .i64 0, .int .i64 0, .int .i64 0, .int .i64 0, .slice none 0 0, .int .i64 0, .int .i64 0, .int .i64 0, .slice none 0 0, .slice none 0 0, .slice none 0 0, .slice none 0 0]) (t := 121) (fr := (0, 0)) (blkA _ _ rfl)) (by simp [Value.oneCell']) (by omega) (by decide) (by decide) (by simp; omega) (w3.heap.size + 1) (by simp) ?_; intro gg cap w6 hown6 hgrow hat hlt6; have m1 := Lib.hid (grown_blk hgrow (blkUp o1.out _) (by simp [Value.ownBlock])); have mp := grown_blk hgrow (blkUp op.out _) (by simp [Value.ownBlock]); have vv := row_of mp 1; have fv6 := frozen_of mp 1; have hB6 := Lib.hid (below_grown hgrow (by first | exact hB3.alloc hB3.size _ | exact (hB3.alloc hB3.size _).drew) (Nat.le_refl _) (fun b hb => by simp [Value.ownBlock] at hb)); replace mp := Lib.hid mp; replace hown6 := Lib.hid hown6; clear hgrow hat o1 op hB3)
      | (go_simp; go_at_call 43; refine (statement_one _).mono ?_; rintro e w3 ⟨rfl, hb3⟩; have o1 := Lib.hid (blk_keep hb3 n1.out); have op := blk_keep hb3 np.out; have z3 : w3.cell? ⟨w.heap.size + 3, 1, none⟩ = some (.slice none 0 0) := row_of op 1; have hl3 := blk_lt op; have hB3 := hB2.drew.trans (hb3.mono hB2.size); have hz3 : w.heap.size + 5 ≤ w3.heap.size := Nat.le_trans (Nat.le_of_eq hs2.symm) hb3.size; replace op := Lib.hid op; clear hb3))
    all_goals
      go_wp2_with fail
      go_meet
      case rel =>
        have hset := mp.out
        refine ⟨gg, cap, blk_set m1.out (by omega), ?_, own_set hown6.out (by omega), hB6.out.setCell (by show w.heap.size ≤ w.heap.size + 3; omega) _⟩
        simp [World.setCell, Array.getElem?_modify, hset]
  case rest =>
    obtain ⟨D, cD, n1, np, hD, hBx⟩ := hcut
    have rp := row_of np
    have r1 := row_of n1
    have fz := frozen_of n1 1
    have hpl := blk_lt np
    have hpl1 := blk_lt n1
    replace n1 := Lib.hid n1
    replace np := Lib.hid np
    replace hD := Lib.hid hD
    go_wp2_with fail
    rw [rounds_succ]
    go_upto_region 15 with (refine wpList_append_lies _ rfl _ _ _ rfl (w.heap.size + 2) 118 ip _ 2 32 Try.underlying113 hip.out pz0 pz1 pz2 rfl (by omega) (.slice none 0 0) 0 [] rfl (World.ownsRow_nil _ _ _ _) ⟨wc.heap.size, 0, none⟩ 1 1 [.int .i64 1, .slice (some ⟨D, 0, none⟩) 1 cD] rfl rfl (World.news_of_block (cs := #[.int .i64 1, .slice (some ⟨D, 0, none⟩) 1 cD]) (t := 118) (fr := (0, 0)) (blkA _ _ rfl)) (by simp [Value.oneCell']) (by omega) (by decide) (by decide) (by simp; omega) (wc.heap.size + 1) (by simp) ?_)
    intro Hb cH w7 hH hgr7 _ hlt7
    have m1 := grown_blk hgr7 (blkUp n1.out _) (by simp [Value.ownBlock])
    have hD7 := (hD.out.alloc _).kept hgr7 (by simp [Value.ownBlock])
    have hB7 : Below w.heap.size w w7 := below_grown hgr7 (hBx.alloc hBx.size _) (Nat.le_refl _) (fun b hb => by simp [Value.ownBlock] at hb)
    have r7 := row_of m1
    have f7 := frozen_of m1 1
    replace m1 := Lib.hid m1
    replace hD7 := Lib.hid hD7
    replace hH := Lib.hid hH
    clear hgr7 rp r1 fz n1 np hD hBx
    go_upto_region 15 with fail
    have hset := m1.out
    have hset3 : (w7.setCell ⟨w.heap.size + 1, 1, none⟩ (.slice (some ⟨Hb, 0, none⟩) 1 cH)).heap[w.heap.size + 1]? = some (.cells #[.slice none 0 0, .slice (some ⟨Hb, 0, none⟩) 1 cH] 115 (0, 0)) := by simp [World.setCell, Array.getElem?_modify, hset]
    refine wp_world (fun W => W.heap[w.heap.size + 1]? = some (.cells #[.slice none 0 0, .slice (some ⟨Hb, 0, none⟩) 1 cH] 115 (0, 0)) ∧ W.ownsRow (w.heap.size + 2) 121 20 (.slice (some ⟨D, 0, none⟩) 1 cD) 1 [.int .i64 1, .int .i64 0, .int .i64 0, .int .i64 0, .int .i64 ek, .int .i64 em, .int .i64 ex, .slice EA en ec, .int .i64 0, .int .i64 0, .int .i64 0, .int .i64 0, .slice none 0 0, .int .i64 0, .int .i64 0, .int .i64 0, .slice none 0 0, .slice none 0 0, .slice none 0 0, .slice none 0 0] ∧ W.ownsRow (w.heap.size + 2) 118 2 (.slice (some ⟨Hb, 0, none⟩) 1 cH) 1 [.int .i64 1, .slice (some ⟨D, 0, none⟩) 1 cD] ∧ Below w.heap.size w W) ⟨hset3, own_base (own_set hD7.out (by omega)) (by omega), own_set hH.out (by omega), hB7.setCell (Nat.le_succ _) _⟩ ?_
    rintro w8 ⟨q1, hD8, hH8, hB8⟩
    clear hset hset3 m1 hD7 hH hB7 r7 f7
    have r8 := row_of q1
    have hDl := (hD8.lt D rfl).2
    have hHl := (hH8.lt Hb rfl).2
    have hrD := range_of_own hD8
    have hrH := range_of_own hH8
    have hcD : 1 ≤ cD := by
      rcases hD8.2 with ⟨h1, _⟩ | ⟨_, _, _, h1, _, _, h2, _⟩
      · cases h1
      · cases h1; exact h2
    have hcH : 1 ≤ cH := by
      rcases hH8.2 with ⟨h1, _⟩ | ⟨_, _, _, h1, _, _, h2, _⟩
      · cases h1
      · cases h1; exact h2
    replace hrD := Lib.hid hrD
    replace hrH := Lib.hid hrH
    have hem : ElemsAt w8 w8.heap.size (some ⟨D, 0, none⟩) 1 20 (fun _ => [.int .i64 1, .int .i64 0, .int .i64 0, .int .i64 0, .int .i64 ek, .int .i64 em, .int .i64 ex, .slice EA en ec, .int .i64 0, .int .i64 0, .int .i64 0, .int .i64 0, .slice none 0 0, .int .i64 0, .int .i64 0, .int .i64 0, .slice none 0 0, .slice none 0 0, .slice none 0 0, .slice none 0 0]) := fun i hi => by
      obtain rfl : i = 0 := by omega
      exact ⟨D, rfl, hDl, by rw [Nat.zero_mul]; exact hrD.out, rfl, List.all_eq_true.1 (show List.all ([.int .i64 1, .int .i64 0, .int .i64 0, .int .i64 0, .int .i64 ek, .int .i64 em, .int .i64 ex, .slice EA en ec, .int .i64 0, .int .i64 0, .int .i64 0, .int .i64 0, .slice none 0 0, .int .i64 0, .int .i64 0, .int .i64 0, .slice none 0 0, .slice none 0 0, .slice none 0 0, .slice none 0 0] : List Value) (·.oneCell') = true by kernel_rfl)⟩
    replace hem := Lib.hid hem
    clear q1 hD8 hH8
    go_wp2_with fail
    rw [rounds_succ]
    go_wp2_with fail
    refine (right_one 1 Hb cH (some ⟨D, 0, none⟩) 1 cD (fun _ => [.int .i64 1, .int .i64 0, .int .i64 0, .int .i64 0, .int .i64 ek, .int .i64 em, .int .i64 ex, .slice EA en ec, .int .i64 0, .int .i64 0, .int .i64 0, .int .i64 0, .slice none 0 0, .int .i64 0, .int .i64 0, .int .i64 0, .slice none 0 0, .slice none 0 0, .slice none 0 0, .slice none 0 0]) w8 (by decide) (by decide) (by decide) hcD hcH hHl hrH.out hem.out (fun i hi W hW => hst.out W (hB8.trans (hW.mono hB8.size)))).mono ?_
    rintro e w9 ⟨rfl, hb9⟩
    have hB9 := hB8.trans (hb9.mono hB8.size)
    go_wp2_with fail
    go_ret
    exact ⟨rfl, hB9⟩
end
end Go.Proofs.Ytmcomhjfpegieaa

