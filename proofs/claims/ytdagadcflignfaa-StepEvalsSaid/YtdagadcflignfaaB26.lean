/-
  flow.Right of the graph of one assignment; Not.; conf.Start of a system of one process with one variable, and of no channels.; step.Run of one process whose first edge errs, with one pick of it.; steps, the examples of every law of step: true, whatever the memory is.
-/
import Derived.Test.YtdagadcflignfaaB25
import Derived.Test.YtdagadcflignfaaB24
namespace Go.Proofs.Ytdagadcflignfaa
open Go.RowKit
variable {ek em ex : Int} {EA : Option Addr} {en ec : Nat}

set_option maxRecDepth 100000 in
set_option maxHeartbeats 8000000 in
theorem graph_right {HH : Option Addr} {hc : Nat} (G cg V cv x0 ce : Nat) (w : World) (hcg : 1 ≤ cg) (hcv : 1 ≤ cv) (hce : 1 ≤ ce) (hG : G < w.heap.size) (hV : V < w.heap.size) (hx : x0 < w.heap.size)
    (hg : w.rangeAt G 0 [.int .i64 2, .slice (some ⟨x0, 0, none⟩) 1 ce, .slice HH 0 hc]) (hv : w.cell? ⟨V, 0, none⟩ = some (.int .i64 1)) (he : w.rangeAt x0 0 [.int .i64 0, .int .i64 1, .int .i64 1, .int .i64 0, .int .i64 0, .int .i64 0, .int .i64 ek, .int .i64 em, .int .i64 ex, .slice EA en ec, .int .i64 0, .int .i64 0, .int .i64 0, .int .i64 0, .slice none 0 0, .int .i64 0, .int .i64 0, .int .i64 0, .slice none 0 0]) (hst : StOk w none 0 0 0 1 [.int .i64 1, .int .i64 0, .int .i64 0, .int .i64 0, .int .i64 ek, .int .i64 em, .int .i64 ex, .slice EA en ec, .int .i64 0, .int .i64 0, .int .i64 0, .int .i64 0, .slice none 0 0, .int .i64 0, .int .i64 0, .int .i64 0, .slice none 0 0, .slice none 0 0, .slice none 0 0, .slice none 0 0]) :
    Calls Try.prog 35 #[.agg #[.slice none 0 0, .slice (some ⟨G, 0, none⟩) 1 cg, .slice (some ⟨V, 0, none⟩) 1 cv]] w fun e w' => e = .returned (.bool true) ∧ Below w.heap.size w w' := by
  replace he := Lib.hid he
  replace hst := Lib.hid hst
  replace hg := Lib.hid hg
  replace hv := Lib.hid hv
  go_enter Try.func35, Try.ntmps35
  go_upto_region 4 with fail
  refine wp_worldS (fun W => W.heap[w.heap.size]? = some (.cells #[.slice none 0 0, .slice (some ⟨G, 0, none⟩) 1 cg, .slice (some ⟨V, 0, none⟩) 1 cv] 37 (0, 0)) ∧ Below w.heap.size w W ∧ W.heap.size = w.heap.size + 1) ⟨blkAS _ _ rfl, (Below.refl _ _).alloc (Nat.le_refl _) _, by simp⟩ ?_
  rintro w0 ⟨k0, hB0, hs0⟩
  have r0 := row_ofS k0
  have hlt0 := blk_ltS k0
  have hg0 := Lib.hid (range_keep hB0 hG hg.out)
  replace k0 := Lib.hid k0
  refine wp_loop_rounds 2 ?_
  rw [rounds_succ]
  go_wp2_with (refine ld_mid 49 _ rfl _ _ rfl [.int .i64 2, .slice (some ⟨x0, 0, none⟩) 1 ce, .slice HH 0 hc] _ hg0.out Try.underlying49 rfl (by kernel_rfl) rfl ?_)
  refine (shape_one x0 ce _ hce (by simp; omega) (range_keep (hB0.alloc hB0.size _) hx he.out)).mono ?_
  rintro e w1 ⟨rfl, hb1⟩
  have q0 := blk_keepS hb1 (blkUpS k0.out _)
  have hB1 : Below w.heap.size w w1 := (hB0.alloc hB0.size _).trans (hb1.mono (by simp; omega))
  clear hb1 r0 k0 hg0 hB0 hs0
  have r0 := row_ofS q0
  have hlt1 := blk_ltS q0
  clear q0
  go_wp2_with fail
  rw [rounds_succ]
  go_wp2_with fail
  have hz1 := hB1.size
  refine (edges_one G cg V cv x0 ce _ hcg hcv hce (by omega) (by omega) (by omega) (range_keep hB1 hG hg.out) ((hB1.cell (p := ⟨V, 0, none⟩) hV).trans hv.out) (range_keep hB1 hx he.out) (fun W hW => hst.out W (hB1.trans (hW.mono hB1.size)))).mono ?_
  rintro e w2 ⟨rfl, hb2⟩
  have hB2 := hB1.trans (hb2.mono hB1.size)
  go_wp2_with fail
  go_ret
  exact ⟨rfl, hB2⟩

theorem not_three (w : World) : Calls Try.prog 21 #[.int .i64 3] w fun e w' => e = .returned (.int .i64 6) ∧ w = w' := by
  go_enter Try.func21, Try.ntmps21
  go_wp2
  go_ret
  exact ⟨rfl, rfl⟩
end Go.Proofs.Ytdagadcflignfaa
namespace Go.Proofs.Ytdagadcflignfaa
open Go.RowKit
variable {ek em ex : Int} {EA : Option Addr} {en ec : Nat}

theorem mk1_int (W : World) : (Instr.makeSlice 35 (.int .i64 1) (.int .i64 1)).run Try.prog W = .ok (.slice (some ⟨W.heap.size, 0, none⟩) 1 1) (W.alloc (.cells #[.int .i64 0] 3)) := by
  obtain ⟨ii, hii, iz0, iz1, iz2⟩ := info_parts info_int
  have h := run_make (P := Try.prog) W 35 3 ii (.int .i64 0) Try.underlying35 hii iz0 .i64 .i64 1 1 (by decide) (by decide) (by rw [iz2]; decide) (by decide)
  rw [iz1, show madeCells (Value.int .i64 0).cells (Int.toNat 1 * 1) = #[.int .i64 0] from by kernel_rfl] at h
  exact h
theorem mk0_int (W : World) : (Instr.makeSlice 35 (.int .i64 0) (.int .i64 0)).run Try.prog W = .ok (.slice (some ⟨W.heap.size, 0, none⟩) 0 0) (W.alloc (.cells #[] 3)) := by
  obtain ⟨ii, hii, iz0, iz1, iz2⟩ := info_parts info_int
  have h := run_make (P := Try.prog) W 35 3 ii (.int .i64 0) Try.underlying35 hii iz0 .i64 .i64 0 0 (by decide) (by decide) (by rw [iz2]; decide) (by decide)
  rw [iz1, show madeCells (Value.int .i64 0).cells (Int.toNat 0 * 1) = #[] from by kernel_rfl] at h
  exact h
theorem info_msgs : (Try.prog.info? 89).map (fun i => (i.zero, i.size, i.bytes)) = some (some (.slice none 0 0), 1, 24) := by kernel_rfl
theorem mk0_msgs (W : World) : (Instr.makeSlice 55 (.int .i64 0) (.int .i64 0)).run Try.prog W = .ok (.slice (some ⟨W.heap.size, 0, none⟩) 0 0) (W.alloc (.cells #[] 89)) := by
  obtain ⟨ii, hii, iz0, iz1, iz2⟩ := info_parts info_msgs
  have h := run_make (P := Try.prog) W 55 89 ii (.slice none 0 0) Try.underlying55 hii iz0 .i64 .i64 0 0 (by decide) (by decide) (by rw [iz2]; decide) (by decide)
  rw [iz1, show madeCells (Value.slice none 0 0).cells (Int.toNat 0 * 1) = #[] from by kernel_rfl] at h
  exact h
def StartCut (W : World) (e : Value) (wx : World) : Prop :=
  ∃ g a q u : Nat, e = .pointer (some ⟨g, 0, none⟩) ∧ wx.heap[g]? = some (.cells #[.slice (some ⟨a, 0, none⟩) 1 1, .slice none 0 0, .slice (some ⟨q, 0, none⟩) 0 0, .slice (some ⟨u, 0, none⟩) 0 0] 57 (0, 0)) ∧ wx.heap[a]? = some (.cells #[.int .i64 0] 3 (0, 0)) ∧ W.heap.size ≤ g ∧ W.heap.size ≤ a ∧ a ≠ g ∧ Below W.heap.size W wx
/-- Behind the row of the one process's variables. -/
def StartCut2 (B g a : Nat) (q u : Nat) (W : World) (wx : World) : Prop :=
  ∃ v cv b : Nat, wx.heap[g]? = some (.cells #[.slice (some ⟨a, 0, none⟩) 1 1, .slice (some ⟨v, 0, none⟩) 1 cv, .slice (some ⟨q, 0, none⟩) 0 0, .slice (some ⟨u, 0, none⟩) 0 0] 57 (0, 0)) ∧ wx.heap[a]? = some (.cells #[.int .i64 0] 3 (0, 0)) ∧ wx.heap[b]? = some (.cells #[.int .i64 0] 3 (0, 0)) ∧
    wx.ownsRow W.heap.size 35 1 (.slice (some ⟨v, 0, none⟩) 1 cv) 1 [.slice (some ⟨b, 0, none⟩) 1 1] ∧ B ≤ b ∧ Below B W wx
theorem start_next {B g a q u b v cv : Nat} {W W2 w3 : World} (hgrow : W2.grownBy w3 (Value.slice none 0 0).ownBlock) (hg : W2.heap[g]? = some (.cells #[.slice (some ⟨a, 0, none⟩) 1 1, .slice none 0 0, .slice (some ⟨q, 0, none⟩) 0 0, .slice (some ⟨u, 0, none⟩) 0 0] 57 (0, 0))) (ha : W2.heap[a]? = some (.cells #[.int .i64 0] 3 (0, 0))) (hb : W2.heap[b]? = some (.cells #[.int .i64 0] 3 (0, 0)))
    (hne : a ≠ g) (hnb : b ≠ g) (hBb : B ≤ b) (hB : B ≤ g) (hgW : g < W.heap.size) (hBW : Below B W W2) (hBs : B ≤ W2.heap.size) (hown : w3.ownsRow W.heap.size 35 1 (.slice (some ⟨v, 0, none⟩) 1 cv) 1 [.slice (some ⟨b, 0, none⟩) 1 1]) :
    StartCut2 B g a q u W (w3.setCell ⟨g, 1, none⟩ (.slice (some ⟨v, 0, none⟩) 1 cv)) := by
  have k0 := grown_blk hgrow hg (by simp [Value.ownBlock])
  have k1 := grown_blk hgrow ha (by simp [Value.ownBlock])
  have k2 := grown_blk hgrow hb (by simp [Value.ownBlock])
  have h3 : Below B W2 w3 := ⟨hgrow.os, hgrow.tape, hgrow.output, hgrow.size, fun i hi => hgrow.block i (by omega) (by simp [Value.ownBlock])⟩
  exact ⟨v, cv, b, by simp [World.setCell, Array.getElem?_modify, k0], blk_setS k1 hne, blk_setS k2 hnb, own_set hown hgW, hBb, (hBW.trans h3).setCell (p := ⟨g, 1, none⟩) hB _⟩
theorem put4 {W WF : World} {n : Nat} {t : TypeId} {z0 z1 z2 z3 : Value} (h : W.heap[n]? = some (.cells #[z0, z1, z2, z3] t (0, 0))) (v0 v1 v2 v3 : Value)
    (hW : WF = (((W.setCell ⟨n, 0, none⟩ v0).setCell ⟨n, 1, none⟩ v1).setCell ⟨n, 2, none⟩ v2).setCell ⟨n, 3, none⟩ v3) :
    (∀ o, WF.cell? ⟨n, o, none⟩ = (#[v0, v1, v2, v3] : Array Value)[o]?) ∧ (∀ B, B ≤ n → Below B W WF) ∧ (∀ (b : Nat) (x : Obj), b ≠ n → W.heap[b]? = some x → WF.heap[b]? = some x) := by
  have h4 := set4 (n := n) W v0 v1 v2 v3
  have hk : ((((W.setCell ⟨n, 0, none⟩ v0).setCell ⟨n, 1, none⟩ v1).setCell ⟨n, 2, none⟩ v2).setCell ⟨n, 3, none⟩ v3).heap[n]? = some (.cells #[v0, v1, v2, v3] t (0, 0)) := by simp [World.setCell, Array.getElem?_modify, h]
  subst hW
  exact ⟨row_ofS hk, fun B hB => h4.mono hB, fun b x hb hx => blk_setS (blk_setS (blk_setS (blk_setS hx hb) hb) hb) hb⟩
def StartOut (w : World) (e : Ending) (w' : World) : Prop :=
  ∃ a v cv b q u : Nat, e = .returned (.tuple #[.agg #[.slice (some ⟨a, 0, none⟩) 1 1, .slice (some ⟨v, 0, none⟩) 1 cv, .slice (some ⟨q, 0, none⟩) 0 0, .slice (some ⟨u, 0, none⟩) 0 0], .int .i64 0]) ∧ a < w'.heap.size ∧ v < w'.heap.size ∧ b < w'.heap.size ∧ 1 ≤ cv ∧
    w'.cell? ⟨a, 0, none⟩ = some (.int .i64 0) ∧ w'.cell? ⟨v, 0, none⟩ = some (.slice (some ⟨b, 0, none⟩) 1 1) ∧ w'.cell? ⟨b, 0, none⟩ = some (.int .i64 0) ∧ Below w.heap.size w w'

set_option maxRecDepth 100000 in
set_option maxHeartbeats 8000000 in
theorem start_one (G cg V cgv x0 ce : Nat) (HH : Option Addr) (hc : Nat) (w : World) (hcg : 1 ≤ cg) (hcv : 1 ≤ cgv) (hce : 1 ≤ ce) (hG : G < w.heap.size) (hV : V < w.heap.size) (hx0 : x0 < w.heap.size)
    (hg : w.rangeAt G 0 [.int .i64 2, .slice (some ⟨x0, 0, none⟩) 1 ce, .slice HH 0 hc]) (hv : w.cell? ⟨V, 0, none⟩ = some (.int .i64 1)) (he : w.rangeAt x0 0 [.int .i64 0, .int .i64 1, .int .i64 1, .int .i64 0, .int .i64 0, .int .i64 0, .int .i64 ek, .int .i64 em, .int .i64 ex, .slice EA en ec, .int .i64 0, .int .i64 0, .int .i64 0, .int .i64 0, .slice none 0 0, .int .i64 0, .int .i64 0, .int .i64 0, .slice none 0 0]) (hst : StOk w none 0 0 0 1 [.int .i64 1, .int .i64 0, .int .i64 0, .int .i64 0, .int .i64 ek, .int .i64 em, .int .i64 ex, .slice EA en ec, .int .i64 0, .int .i64 0, .int .i64 0, .int .i64 0, .slice none 0 0, .int .i64 0, .int .i64 0, .int .i64 0, .slice none 0 0, .slice none 0 0, .slice none 0 0, .slice none 0 0]) :
    Calls Try.prog 11 #[.agg #[.slice none 0 0, .slice (some ⟨G, 0, none⟩) 1 cg, .slice (some ⟨V, 0, none⟩) 1 cgv]] w (StartOut w) := by
  obtain ⟨ii, hii, iz0, iz1, iz2⟩ := info_parts info_ints
  replace hii := Lib.hid hii
  replace he := Lib.hid he
  replace hg := Lib.hid hg
  replace hst := Lib.hid hst
  have mk1 := mk1_int
  have mk0 := mk0_int
  have mkm := mk0_msgs
  go_enter Try.func11, Try.ntmps11
  go_upto_region 1 with fail
  refine wp_worldS (fun W => W.heap[w.heap.size]? = some (.cells #[.slice none 0 0, .slice (some ⟨G, 0, none⟩) 1 cg, .slice (some ⟨V, 0, none⟩) 1 cgv] 37 (0, 0)) ∧ W.heap[w.heap.size + 1]? = some (.cells #[.slice none 0 0, .slice none 0 0, .slice none 0 0, .slice none 0 0] 57 (0, 0)) ∧ Below w.heap.size w W ∧ w.heap.size + 2 ≤ W.heap.size) ⟨blkUpS (blkAS _ _ rfl) _, blkAS _ _ (by simp), ((Below.refl _ _).alloc (Nat.le_refl _) _).alloc (by simp) _, by simp⟩ ?_
  rintro w0 ⟨k0, k1, hB0, hz0⟩
  have q0 := row_ofS k0
  replace k0 := Lib.hid k0
  replace k1 := Lib.hid k1
  go_wp2_with fail
  refine (graph_right G cg V cgv x0 ce w0 hcg hcv hce (by omega) (by omega) (by omega) (range_keep hB0 hG hg.out) ((hB0.cell (p := ⟨V, 0, none⟩) hV).trans hv) (range_keep hB0 hx0 he.out) (fun W hW => hst.out W (hB0.trans (hW.mono hB0.size)))).mono ?_
  rintro e w1 ⟨rfl, hb1⟩
  have hB1 : Below w.heap.size w w1 := hB0.trans (hb1.mono hB0.size)
  have m0 := blk_keepS hb1 k0.out
  have m1 := blk_keepS hb1 k1.out
  have hz1 := hB1.size
  have l0 := blk_ltS m0
  have l1 := blk_ltS m1
  have p0 := row_ofS m0
  have hvc := (hB1.cell (p := ⟨V, 0, none⟩) hV).trans hv
  replace m0 := Lib.hid m0
  replace m1 := Lib.hid m1
  clear q0 k0 k1 hb1 hB0 hz0
  have x1 : w.heap.size < w1.heap.size + 1 := by omega
  have x2 : w.heap.size < w1.heap.size + 2 := by omega
  have x3 : w.heap.size < w1.heap.size + 3 := by omega
  have x4 : w.heap.size < w1.heap.size + 4 := by omega
  have x5 : w.heap.size < w1.heap.size + 1 + 1 := by omega
  have x6 : w.heap.size < w1.heap.size + 1 + 1 + 1 := by omega
  have x7 : w.heap.size < w1.heap.size + 1 + 1 + 1 + 1 := by omega
  go_upto_region 3 with fail
  go_cut [4] from 11 to 23 (fun e4 wx => StartCut w1 e4 wx)
  case first =>
    go_region
    all_goals
      go_wp2_with fail
      go_meet
      case rel =>
        repeat apply Exists.intro
        refine ⟨rfl, ?_, ?_, ?_, ?_, ?_, ?_⟩
        · first | exact blkAS _ _ (by simp) | exact blkUpS (blkAS _ _ (by simp)) _ | exact blkUpS (blkUpS (blkAS _ _ (by simp)) _) _ | exact blkUpS (blkUpS (blkUpS (blkAS _ _ (by first | rfl | (simp; done))) _) _) _
        · first | exact blkAS _ _ (by simp) | exact blkUpS (blkAS _ _ (by simp)) _ | exact blkUpS (blkUpS (blkAS _ _ (by simp)) _) _ | exact blkUpS (blkUpS (blkUpS (blkAS _ _ (by first | rfl | (simp; done))) _) _) _
        · omega
        · omega
        · omega
        · exact (((((Below.refl _ _).alloc (Nat.le_refl _) _).alloc (by simp only [World.size_alloc]; omega) _).alloc (by simp only [World.size_alloc]; omega) _).alloc (by simp only [World.size_alloc]; omega) _).drew
  case rest =>
    obtain ⟨g, a, q, u, rfl, hgb, hab, hg1, ha1, hne, hbc⟩ := hcut
    clear x1 x2 x3 x4 x5 x6 x7
    have n0 := blk_keepS hbc m0.out
    have n1 := blk_keepS hbc m1.out
    have hB2 : Below w.heap.size w wc := hB1.trans (hbc.mono hz1)
    have p2 := row_ofS n0
    have l2 := blk_ltS n0
    have l3 := blk_ltS n1
    have l4 := blk_ltS hgb
    have rg := row_ofS hgb
    have fg := frozen_ofS hgb 1
    have hvc2 := (hbc.cell (p := ⟨V, 0, none⟩) (Nat.lt_of_lt_of_le hV hz1)).trans hvc
    have hz2 := hB2.size
    have hbcB : Below w1.heap.size wc wc := Below.refl _ _
    replace n1 := Lib.hid n1
    replace hgb := Lib.hid hgb
    replace hab := Lib.hid hab
    clear m0 m1 p0 hvc l0 n0
    go_wp2_with fail
    refine wp_loop_rounds 2 ?_
    rw [rounds_succ]
    go_upto_region 7 with fail
    go_region_law (first
      | (refine step_append_lies _ (by rfl) _ _ _ (by rfl) wc.heap.size 35 ii (.slice none 0 0) 1 24 Try.underlying54 hii.out iz0 iz1 iz2 rfl (by decide) (.slice none 0 0) 0 [] (by rfl) (World.ownsRow_nil _ _ _ _) ⟨wc.heap.size + 1, 0, none⟩ 1 1 [.slice (some ⟨wc.heap.size, 0, none⟩) 1 1] (by rfl) (by rfl) (World.news_of_block (cs := #[.slice (some ⟨wc.heap.size, 0, none⟩) 1 1]) (t := 35) (fr := (0, 0)) (blkAS _ _ (by simp))) (by simp [Value.oneCell']) (by decide) (by unfold maxLen; decide) (by decide) (by simp; omega) (wc.heap.size + 1 + 1) (by simp) ?_; intro gg cap w3 hown3 hgrow hat hlt3; have k3 := grown_blk hgrow (blkUpS (blkUpS hgb.out _) _) (by simp [Value.ownBlock]); have rg3 := row_ofS k3; have fg3 := frozen_ofS k3 1; replace hown3 := Lib.hid hown3; replace hgrow := Lib.hid hgrow; clear k3 hat))
    all_goals
      have hN := Lib.hid (start_next (B := w1.heap.size) (W := wc) hgrow.out (blkUpS (blkUpS hgb.out _) _) (blkUpS (blkUpS hab.out _) _) (blkUpS (blkAS _ _ rfl) _) hne (by omega) (by omega) hg1 l4 (by first | exact (((hbcB.alloc (by omega) _).alloc (by simp; omega) _).drew) | exact ((hbcB.alloc (by omega) _).alloc (by simp; omega) _)) (by simp; omega) hown3.out)
      clear hgrow hown3
      go_wp2_with fail
      rw [rounds_succ]
      go_upto_region 9 with fail
      refine wp_worldS (fun W => StartCut2 w1.heap.size g a q u wc W) hN.out ?_
      rintro w5 ⟨v, cv, b, hg5, ha5, hb5, hv5, hBb, hbw⟩
      have hcv5 := own_cap hv5
      have hvl := hv5.lt v rfl
      have hv0 := hv5.cells rfl 0 _ rfl
      obtain ⟨curv, hvb⟩ : ∃ cur, w5.heap[v]? = some (.cells cur 35 (0, 0)) := by
        rcases hv5.2 with ⟨h1, _⟩ | ⟨g', cap', cur, h1, _, hg, _⟩
        · cases h1
        · cases h1; exact ⟨cur, hg⟩
      have k5 := (hbw.block _ l1).trans n1.out
      have hB5 : Below w.heap.size w w5 := hB2.trans (hbw.mono hz1)
      have r5 := row_ofS hg5
      have k5r := row_ofS k5
      have f0 := frozen_ofS k5 0
      have f1 := frozen_ofS k5 1
      have f2 := frozen_ofS k5 2
      have f3 := frozen_ofS k5 3
      replace k5 := Lib.hid k5
      replace hv0 := Lib.hid hv0
      clear rg fg rg3 fg3 hgb hab hN hv5 hg5
      go_wp2_with fail
      generalize hWF : (World.setCell _ ⟨w.heap.size + 1, 3, none⟩ _) = WF
      obtain ⟨c4, hbF, hoF⟩ := put4 (n := w.heap.size + 1) k5.out _ _ _ _ hWF.symm
      clear hWF
      have ea := row_ofS (hoF a _ (by omega) ha5) 0
      have eb := row_ofS (hoF b _ (by omega) hb5) 0
      have ev := (row_ofS (hoF v _ (by omega) hvb) 0).trans ((row_ofS hvb 0).symm.trans hv0.out)
      have hsz := (hbF 0 (Nat.zero_le _)).size
      have la := blk_ltS ha5
      have lb := blk_ltS hb5
      exact bodyPost_ret (v := .tuple #[.agg #[.slice (some ⟨a, 0, none⟩) 1 1, .slice (some ⟨v, 0, none⟩) 1 cv, .slice (some ⟨q, 0, none⟩) 0 0, .slice (some ⟨u, 0, none⟩) 0 0], .int .i64 0]) (by simp [results, Try.results11, go_sem, c4]) rfl
        ⟨a, v, cv, b, q, u, rfl, by omega, by omega, by omega, hcv5, ea, ev, eb, hB5.trans (hbF _ (by omega))⟩
end Go.Proofs.Ytdagadcflignfaa
namespace Go.Proofs.Ytdagadcflignfaa
open Go.RowKit
variable {ek em ex : Int} {EA : Option Addr} {en ec : Nat}

theorem put4' {W WF : World} {n : Nat} {t : TypeId} {z0 z1 z2 z3 : Value} (h : W.heap[n]? = some (.cells #[z0, z1, z2, z3] t (0, 0))) (v0 v1 v2 v3 : Value)
    (hW : WF = ((((W.setCell ⟨n, 0, none⟩ v0).setCell ⟨n, 1, none⟩ v1).setCell ⟨n, 2, none⟩ v2).setCell ⟨n, 3, none⟩ v3).drew) :
    (∀ o, WF.cell? ⟨n, o, none⟩ = (#[v0, v1, v2, v3] : Array Value)[o]?) ∧ (∀ B, B ≤ n → Below B W WF) ∧ (∀ (b : Nat) (x : Obj), b ≠ n → W.heap[b]? = some x → WF.heap[b]? = some x) := by
  obtain ⟨h1, h2, h3⟩ := put4 h v0 v1 v2 v3 rfl
  subst hW
  exact ⟨h1, fun B hB => (h2 B hB).drew, h3⟩
def RunOut (w : World) (f : Int) (e : Ending) (w' : World) : Prop :=
  ∃ (A : Option Addr) (n c : Nat), e = .returned (.tuple #[.slice A n c, .agg #[.bool false, .int .i64 f, .int .i64 0, .int .i64 0], .int .i64 0]) ∧ Below w.heap.size w w'
set_option maxRecDepth 100000 in
set_option maxHeartbeats 8000000 in
theorem run_err (d : Nat) (x : Ex) (f : Int) (hf : (f == 0) = false) (G cg V cgv x0 ce p cp : Nat) (HH : Option Addr) (hc : Nat) (w : World) (hcg : 1 ≤ cg) (hcv : 1 ≤ cgv) (hce : 1 ≤ ce) (_hcp : 1 ≤ cp) (hG : G < w.heap.size) (hV : V < w.heap.size) (hx0 : x0 < w.heap.size) (hp : p < w.heap.size)
    (hg : w.rangeAt G 0 [.int .i64 2, .slice (some ⟨x0, 0, none⟩) 1 ce, .slice HH 0 hc]) (hv : w.cell? ⟨V, 0, none⟩ = some (.int .i64 1)) (he : w.rangeAt x0 0 [.int .i64 0, .int .i64 1, .int .i64 1, .int .i64 0, .int .i64 0, .int .i64 0, .int .i64 ek, .int .i64 em, .int .i64 ex, .slice EA en ec, .int .i64 0, .int .i64 0, .int .i64 0, .int .i64 0, .slice none 0 0, .int .i64 0, .int .i64 0, .int .i64 0, .slice none 0 0]) (hpk : w.heap[p]? = some (.cells #[.int .i64 0, .bool false, .int .i64 0] 129 (0, 0))) (hst : StOk w none 0 0 0 1 [.int .i64 1, .int .i64 0, .int .i64 0, .int .i64 0, .int .i64 ek, .int .i64 em, .int .i64 ex, .slice EA en ec, .int .i64 0, .int .i64 0, .int .i64 0, .int .i64 0, .slice none 0 0, .int .i64 0, .int .i64 0, .int .i64 0, .slice none 0 0, .slice none 0 0, .slice none 0 0, .slice none 0 0])
    (hx : ExIn w w.heap.size d x (.agg #[.int .i64 ek, .int .i64 em, .int .i64 ex, .slice EA en ec])) (hev : evF [0] d x = (0, f)) :
    Calls Try.prog 45 #[.agg #[.slice none 0 0, .slice (some ⟨G, 0, none⟩) 1 cg, .slice (some ⟨V, 0, none⟩) 1 cgv], .slice (some ⟨p, 0, none⟩) 1 cp] w (RunOut w f) := by
  replace he := Lib.hid he
  replace hg := Lib.hid hg
  replace hst := Lib.hid hst
  replace hx := Lib.hid hx
  replace hev := Lib.hid hev
  replace hpk := Lib.hid hpk
  go_enter Try.func45, Try.ntmps45
  go_upto_region 1 with fail
  refine wp_worldS (fun W => W.heap[w.heap.size]? = some (.cells #[.slice none 0 0, .slice (some ⟨G, 0, none⟩) 1 cg, .slice (some ⟨V, 0, none⟩) 1 cgv] 37 (0, 0)) ∧ W.heap[w.heap.size + 1]? = some (.cells #[.bool false, .int .i64 0, .int .i64 0, .int .i64 0] 125 (0, 0)) ∧ Below w.heap.size w W ∧ w.heap.size + 2 ≤ W.heap.size) ⟨blkUpS (blkAS _ _ rfl) _, blkAS _ _ (by simp), ((Below.refl _ _).alloc (Nat.le_refl _) _).alloc (by simp) _, by simp⟩ ?_
  rintro w0 ⟨k0, k1, hB0, hz0⟩
  have q0 := row_ofS k0
  replace k0 := Lib.hid k0
  replace k1 := Lib.hid k1
  go_wp2_with fail
  refine (start_one G cg V cgv x0 ce HH hc w0 hcg hcv hce (by omega) (by omega) (by omega) (range_keep hB0 hG hg.out) ((hB0.cell (p := ⟨V, 0, none⟩) hV).trans hv) (range_keep hB0 hx0 he.out) (fun W hW => hst.out W (hB0.trans (hW.mono hB0.size)))).mono ?_
  rintro e w1 ⟨a, v, cv, b, q, u, rfl, la, lv, lb, hcv1, ea, ev, eb, hb1⟩
  have hB1 : Below w.heap.size w w1 := hB0.trans (hb1.mono hB0.size)
  have m0 := Lib.hid (blk_keepS hb1 k0.out)
  have m1 := Lib.hid (blk_keepS hb1 k1.out)
  clear q0 k0 k1 hb1 hB0 hz0
  go_upto_region 5 with fail
  refine wp_worldS (fun W => W.heap[w.heap.size]? = some (.cells #[.slice none 0 0, .slice (some ⟨G, 0, none⟩) 1 cg, .slice (some ⟨V, 0, none⟩) 1 cgv] 37 (0, 0)) ∧ W.heap[w.heap.size + 1]? = some (.cells #[.bool false, .int .i64 0, .int .i64 0, .int .i64 0] 125 (0, 0)) ∧ W.heap[w1.heap.size]? = some (.cells #[.slice (some ⟨a, 0, none⟩) 1 1, .slice (some ⟨v, 0, none⟩) 1 cv, .slice (some ⟨q, 0, none⟩) 0 0, .slice (some ⟨u, 0, none⟩) 0 0] 57 (0, 0)) ∧ Below w1.heap.size w1 W ∧ Below w.heap.size w W) ⟨blkUpS (blkUpS m0.out _) _, blkUpS (blkUpS m1.out _) _, blkUpS (blkAS _ _ rfl) _, ((Below.refl _ _).alloc (Nat.le_refl _) _).alloc (by simp) _, (hB1.alloc hB1.size _).alloc (by have := hB1.size; simp; omega) _⟩ ?_
  rintro w2 ⟨n0, n1, n2, hbw, hB2⟩
  have hz2 := hB2.size
  have hzw := hbw.size
  have ea2 := (hbw.cell (p := ⟨a, 0, none⟩) la).trans ea
  have ev2 := (hbw.cell (p := ⟨v, 0, none⟩) lv).trans ev
  have eb2 := (hbw.cell (p := ⟨b, 0, none⟩) lb).trans eb
  have pk2 := (hB2.block p hp).trans hpk.out
  have pr := row_ofS pk2
  replace n0 := Lib.hid n0
  replace n1 := Lib.hid n1
  replace n2 := Lib.hid n2
  replace pk2 := Lib.hid pk2
  clear m0 m1 hB1 ea ev eb
  go_wp2_with fail
  refine wp_loop_rounds 2 ?_
  rw [rounds_succ]
  go_upto_region 8 with fail
  refine wp_worldS (fun W => W.heap[w.heap.size]? = some (.cells #[.slice none 0 0, .slice (some ⟨G, 0, none⟩) 1 cg, .slice (some ⟨V, 0, none⟩) 1 cgv] 37 (0, 0)) ∧ W.heap[w.heap.size + 1]? = some (.cells #[.bool false, .int .i64 0, .int .i64 0, .int .i64 0] 125 (0, 0)) ∧ W.heap[w1.heap.size]? = some (.cells #[.slice (some ⟨a, 0, none⟩) 1 1, .slice (some ⟨v, 0, none⟩) 1 cv, .slice (some ⟨q, 0, none⟩) 0 0, .slice (some ⟨u, 0, none⟩) 0 0] 57 (0, 0)) ∧ W.heap[w2.heap.size]? = some (.cells #[.int .i64 0, .bool false, .int .i64 0] 129 (0, 0)) ∧ Below w2.heap.size w2 W ∧ Below w.heap.size w W) ⟨blkUpS n0.out _, blkUpS n1.out _, blkUpS n2.out _, blkAS _ _ rfl, (Below.refl _ _).alloc (Nat.le_refl _) _, hB2.alloc hB2.size _⟩ ?_
  rintro w3 ⟨s0, s1, s2, s3, hbv, hB3⟩
  have hz3 := hB3.size
  have hzv := hbv.size
  have t0 := row_ofS s0
  have t2 := row_ofS s2
  have t3 := row_ofS s3
  have ea3 := (hbv.cell (p := ⟨a, 0, none⟩) (by show a < _; omega)).trans ea2
  have ev3 := (hbv.cell (p := ⟨v, 0, none⟩) (by show v < _; omega)).trans ev2
  have eb3 := (hbv.cell (p := ⟨b, 0, none⟩) (by show b < _; omega)).trans eb2
  replace s0 := Lib.hid s0
  replace s1 := Lib.hid s1
  replace s2 := Lib.hid s2
  replace s3 := Lib.hid s3
  clear n0 n1 n2 pk2 pr hbw ea2 ev2 eb2
  go_wp2_with fail
  refine (move_err d x f hf a 1 v cv 0 0 b 1 G cg V cgv x0 ce 0 (some ⟨q, 0, none⟩) (some ⟨u, 0, none⟩) HH hc w3 hcv1 (by decide) hcg hce (by omega) (by omega) (by omega) (by omega) (by omega) ea3 ev3 eb3 (range_keep hB3 hG hg.out) (range_keep hB3 hx0 he.out) ((hx.out.below hB3).mono hB3.size) hev.out).mono ?_
  rintro e w4 ⟨A0, A1, A2, A3, i0, j0, i1, j1, i2, j2, i3, j3, rfl, hb4⟩
  have hB4 : Below w.heap.size w w4 := hB3.trans (hb4.mono hz3)
  have p1 := blk_keepS hb4 s1.out
  have y1 := row_ofS p1
  have l1 := blk_ltS p1
  have f0 := frozen_ofS p1 0
  have f1 := frozen_ofS p1 1
  have f2 := frozen_ofS p1 2
  have f3 := frozen_ofS p1 3
  replace p1 := Lib.hid p1
  clear t0 t2 t3 s0 s1 s2 s3 hb4 ea3 ev3 eb3 hbv
  have x1 : w.heap.size + 1 < w4.heap.size + 1 := by omega
  go_upto_region 10 with fail
  refine wp_worldS (fun W => W.heap[w.heap.size + 1]? = some (.cells #[.bool false, .int .i64 0, .int .i64 0, .int .i64 0] 125 (0, 0)) ∧ W.heap[w4.heap.size + 1]? = some (.cells #[.bool false, .int .i64 f, .int .i64 0, .int .i64 0] 125 (0, 0)) ∧ Below w.heap.size w W) ⟨blkUpS (blkUpS p1.out _) _, blkAS _ _ (by simp), (hB4.alloc hB4.size _).alloc (by have := hB4.size; simp; omega) _⟩ ?_
  clear y1 l1 f0 f1 f2 f3 x1
  rintro w5 ⟨g1, gd, hB5⟩
  have y1 := row_ofS g1
  have yd := row_ofS gd
  have l1 := blk_ltS g1
  have f0 := frozen_ofS g1 0
  have f1 := frozen_ofS g1 1
  have f2 := frozen_ofS g1 2
  have f3 := frozen_ofS g1 3
  replace g1 := Lib.hid g1
  replace gd := Lib.hid gd
  go_region
  all_goals
    go_wp2_with fail
    generalize hWF : (World.drew _) = WF
    obtain ⟨c4, hbF, hoF⟩ := put4' (n := w.heap.size + 1) g1.out _ _ _ _ hWF.symm
    clear hWF
    exact bodyPost_ret (v := .tuple #[.slice (some ⟨w1.heap.size + 1, 0, none⟩) 1 1, .agg #[.bool false, .int .i64 f, .int .i64 0, .int .i64 0], .int .i64 0]) (by simp [results, Try.results45, go_sem, c4]) rfl ⟨_, _, _, rfl, hB5.trans (hbF _ (by omega))⟩
end Go.Proofs.Ytdagadcflignfaa
namespace Go.Proofs.Ytdagadcflignfaa
open Go.RowKit

def divX : Ex := .mk 7 0 0 [.mk 1 7 0 [], .mk 1 0 0 []]
def addX : Ex := .mk 4 0 0 [.mk 1 2147483647 0 [], .mk 2 0 0 []]
theorem div_ev (vs : List Int) : evF vs 2 divX = (0, 3) := by simp [divX, evF, two, opI, cutI]
theorem add_0 : evF [0] 2 addX = (2147483647, 0) := by simp [addX, evF, two, opI, cutI]
theorem add_1 : evF [1] 2 addX = (0, 2) := by simp [addX, evF, two, opI, cutI]
theorem div_in {W : World} {b : Nat} (h : W.heap[b]? = some (.cells #[.int .i64 1, .int .i64 7, .int .i64 0, .slice none 0 0, .int .i64 1, .int .i64 0, .int .i64 0, .slice none 0 0] 25 (0, 0))) : ExIn W W.heap.size 2 divX (.agg #[.int .i64 7, .int .i64 0, .int .i64 0, .slice (some ⟨b, 0, none⟩) 2 2]) :=
  ExIn.two (ExIn.leaf _ _ 0 1 7 0) (ExIn.leaf _ _ 0 1 0 0) (blk_ltS h) (row_ofS h 0) (row_ofS h 1) (row_ofS h 2) (row_ofS h 3) (row_ofS h 4) (row_ofS h 5) (row_ofS h 6) (row_ofS h 7) 7 0 0 2 (Nat.le_refl _)
theorem add_in {W : World} {b : Nat} (h : W.heap[b]? = some (.cells #[.int .i64 1, .int .i64 2147483647, .int .i64 0, .slice none 0 0, .int .i64 2, .int .i64 0, .int .i64 0, .slice none 0 0] 25 (0, 0))) : ExIn W W.heap.size 2 addX (.agg #[.int .i64 4, .int .i64 0, .int .i64 0, .slice (some ⟨b, 0, none⟩) 2 2]) :=
  ExIn.two (ExIn.leaf _ _ 0 1 2147483647 0) (ExIn.leaf _ _ 0 2 0 0) (blk_ltS h) (row_ofS h 0) (row_ofS h 1) (row_ofS h 2) (row_ofS h 3) (row_ofS h 4) (row_ofS h 5) (row_ofS h 6) (row_ofS h 7) 4 0 0 2 (Nat.le_refl _)
theorem div_ok {W : World} {b : Nat} (h : W.heap[b]? = some (.cells #[.int .i64 1, .int .i64 7, .int .i64 0, .slice none 0 0, .int .i64 1, .int .i64 0, .int .i64 0, .slice none 0 0] 25 (0, 0))) : ExOk W none 0 0 0 1 (.agg #[.int .i64 7, .int .i64 0, .int .i64 0, .slice (some ⟨b, 0, none⟩) 2 2]) :=
  ExOk.two (by decide) (blk_ltS h) (Nat.le_refl _) (row_ofS h 0) (row_ofS h 1) (row_ofS h 2) (row_ofS h 3) (row_ofS h 4) (row_ofS h 5) (row_ofS h 6) (row_ofS h 7) (ExOk.num W none 0 0 0 1 7 (by decide) (by decide)) (ExOk.num W none 0 0 0 1 0 (by decide) (by decide))
theorem one_var {W : World} {b : Nat} {x : Int} (h : W.heap[b]? = some (.cells #[.int .i64 x] 3 (0, 0))) : VarsAt W W.heap.size (some ⟨b, 0, none⟩) [x] := fun i u hi => by
  match i, hi with
  | 0, hi => cases hi; exact ⟨b, rfl, blk_ltS h, row_ofS h 0⟩
  | i + 1, hi => simp at hi
theorem no_var {W : World} : VarsAt W W.heap.size none [] := fun i u hi => by simp at hi

set_option maxRecDepth 100000 in
set_option maxHeartbeats 8000000 in
theorem steps_any (w : World) : Calls Try.prog 18 #[] w fun e w' => e = .returned (.bool true) ∧ Below w.heap.size w w' := by
  go_enter Try.func18, Try.ntmps18
  go_upto_region 2 with fail
  refine wp_worldS (fun W => W.heap[w.heap.size]? = some (.cells #[.int .i64 1, .int .i64 7, .int .i64 0, .slice none 0 0, .int .i64 1, .int .i64 0, .int .i64 0, .slice none 0 0] 25 (0, 0)) ∧ W.heap[w.heap.size + 1]? = some (.cells #[.int .i64 7, .int .i64 0, .int .i64 0, .slice (some ⟨w.heap.size, 0, none⟩) 2 2] 25 (0, 0)) ∧ Below w.heap.size w W) ⟨blkUpS (blkAS _ _ rfl) _, blkAS _ _ (by simp), ((Below.refl _ _).alloc (Nat.le_refl _) _).alloc (by simp) _⟩ ?_
  rintro w0 ⟨k0, k1, hB0⟩
  have q1 := row_ofS k1
  have hev1 := eval_any [] none 0 0 rfl (Nat.le_refl _) (by decide) 2 divX _ w0 (div_in k0) no_var
  rw [div_ev] at hev1
  replace hev1 := Lib.hid hev1
  replace k0 := Lib.hid k0
  replace k1 := Lib.hid k1
  go_wp2_with fail
  refine hev1.out.mono ?_
  rintro e w1 ⟨rfl, hb1⟩
  have m0 := Lib.hid (blk_keepS hb1 k0.out)
  have m1 := Lib.hid (blk_keepS hb1 k1.out)
  have hB1 := hB0.trans (hb1.mono hB0.size)
  clear q1 k0 k1 hev1 hb1 hB0
  go_wp2_with fail
  have n0 := Lib.hid (blkUpS (blkUpS m0.out (.cells #[.int .i64 1, .int .i64 2147483647, .int .i64 0, .slice none 0 0, .int .i64 2, .int .i64 0, .int .i64 0, .slice none 0 0] 25)) (.cells #[.int .i64 0] 3))
  have n1 := Lib.hid (blkUpS (blkUpS m1.out (.cells #[.int .i64 1, .int .i64 2147483647, .int .i64 0, .slice none 0 0, .int .i64 2, .int .i64 0, .int .i64 0, .slice none 0 0] 25)) (.cells #[.int .i64 0] 3))
  have hbA : Below w1.heap.size w1 ((w1.alloc (.cells #[.int .i64 1, .int .i64 2147483647, .int .i64 0, .slice none 0 0, .int .i64 2, .int .i64 0, .int .i64 0, .slice none 0 0] 25)).alloc (.cells #[.int .i64 0] 3)) := ((Below.refl _ _).alloc (Nat.le_refl _) _).alloc (by simp) _
  refine ((by
    have h := eval_any [0] (some ⟨w1.heap.size + 1, 0, none⟩) 1 1 rfl (Nat.le_refl _) (by decide) 2 addX _ _ (add_in (blkUpS (blkAS w1 (.cells #[.int .i64 1, .int .i64 2147483647, .int .i64 0, .slice none 0 0, .int .i64 2, .int .i64 0, .int .i64 0, .slice none 0 0] 25) rfl) (.cells #[.int .i64 0] 3))) (one_var (blkAS (w1.alloc (.cells #[.int .i64 1, .int .i64 2147483647, .int .i64 0, .slice none 0 0, .int .i64 2, .int .i64 0, .int .i64 0, .slice none 0 0] 25)) (.cells #[.int .i64 0] 3) (by simp)))
    rw [add_0] at h
    exact h) : Calls _ _ _ _ fun e w' => e = .returned (.tuple #[.int .i64 2147483647, .int .i64 0]) ∧ Below _ _ w').mono ?_
  rintro e w2 ⟨rfl, hb2⟩
  have p0 := Lib.hid (blk_keepS hb2 n0.out)
  have p1 := Lib.hid (blk_keepS hb2 n1.out)
  have hB2 := (hB1.trans (hbA.mono hB1.size)).trans (hb2.mono (Nat.le_trans hB1.size hbA.size))
  clear m0 m1 n0 n1 hbA hb2 hB1
  go_wp2_with fail
  have n0 := Lib.hid (blkUpS (blkUpS p0.out (.cells #[.int .i64 1, .int .i64 2147483647, .int .i64 0, .slice none 0 0, .int .i64 2, .int .i64 0, .int .i64 0, .slice none 0 0] 25)) (.cells #[.int .i64 1] 3))
  have n1 := Lib.hid (blkUpS (blkUpS p1.out (.cells #[.int .i64 1, .int .i64 2147483647, .int .i64 0, .slice none 0 0, .int .i64 2, .int .i64 0, .int .i64 0, .slice none 0 0] 25)) (.cells #[.int .i64 1] 3))
  have hbA : Below w2.heap.size w2 ((w2.alloc (.cells #[.int .i64 1, .int .i64 2147483647, .int .i64 0, .slice none 0 0, .int .i64 2, .int .i64 0, .int .i64 0, .slice none 0 0] 25)).alloc (.cells #[.int .i64 1] 3)) := ((Below.refl _ _).alloc (Nat.le_refl _) _).alloc (by simp) _
  refine ((by
    have h := eval_any [1] (some ⟨w2.heap.size + 1, 0, none⟩) 1 1 rfl (Nat.le_refl _) (by decide) 2 addX _ _ (add_in (blkUpS (blkAS w2 (.cells #[.int .i64 1, .int .i64 2147483647, .int .i64 0, .slice none 0 0, .int .i64 2, .int .i64 0, .int .i64 0, .slice none 0 0] 25) rfl) (.cells #[.int .i64 1] 3))) (one_var (blkAS (w2.alloc (.cells #[.int .i64 1, .int .i64 2147483647, .int .i64 0, .slice none 0 0, .int .i64 2, .int .i64 0, .int .i64 0, .slice none 0 0] 25)) (.cells #[.int .i64 1] 3) (by simp)))
    rw [add_1] at h
    exact h) : Calls _ _ _ _ fun e w' => e = .returned (.tuple #[.int .i64 0, .int .i64 2]) ∧ Below _ _ w').mono ?_
  rintro e w3 ⟨rfl, hb3⟩
  have s0 := blk_keepS hb3 n0.out
  have s1 := blk_keepS hb3 n1.out
  have hB3 := (hB2.trans (hbA.mono hB2.size)).trans (hb3.mono (Nat.le_trans hB2.size hbA.size))
  have t1 := row_ofS s1
  have l1 := blk_ltS s1
  replace s0 := Lib.hid s0
  replace s1 := Lib.hid s1
  clear p0 p1 n0 n1 hbA hb3 hB2
  go_wp2_with fail
  have a0 : ((((w3.alloc (.cells #[.int .i64 0, .int .i64 1, .int .i64 1, .int .i64 0, .int .i64 0, .int .i64 0, .int .i64 7, .int .i64 0, .int .i64 0, .slice (some ⟨w.heap.size, 0, none⟩) 2 2, .int .i64 0, .int .i64 0, .int .i64 0, .int .i64 0, .slice none 0 0, .int .i64 0, .int .i64 0, .int .i64 0, .slice none 0 0] 53)).alloc (.cells #[.int .i64 2, .slice (some ⟨w3.heap.size, 0, none⟩) 1 1, .slice none 0 0] 49)).alloc (.cells #[.int .i64 1] 3)).alloc (.cells #[.int .i64 0, .bool false, .int .i64 0] 129)).heap[w3.heap.size]? = some (.cells #[.int .i64 0, .int .i64 1, .int .i64 1, .int .i64 0, .int .i64 0, .int .i64 0, .int .i64 7, .int .i64 0, .int .i64 0, .slice (some ⟨w.heap.size, 0, none⟩) 2 2, .int .i64 0, .int .i64 0, .int .i64 0, .int .i64 0, .slice none 0 0, .int .i64 0, .int .i64 0, .int .i64 0, .slice none 0 0] 53 (0, 0)) := blkUpS (blkUpS (blkUpS (blkAS _ _ rfl) _) _) _
  have a1 : ((((w3.alloc (.cells #[.int .i64 0, .int .i64 1, .int .i64 1, .int .i64 0, .int .i64 0, .int .i64 0, .int .i64 7, .int .i64 0, .int .i64 0, .slice (some ⟨w.heap.size, 0, none⟩) 2 2, .int .i64 0, .int .i64 0, .int .i64 0, .int .i64 0, .slice none 0 0, .int .i64 0, .int .i64 0, .int .i64 0, .slice none 0 0] 53)).alloc (.cells #[.int .i64 2, .slice (some ⟨w3.heap.size, 0, none⟩) 1 1, .slice none 0 0] 49)).alloc (.cells #[.int .i64 1] 3)).alloc (.cells #[.int .i64 0, .bool false, .int .i64 0] 129)).heap[w3.heap.size + 1]? = some (.cells #[.int .i64 2, .slice (some ⟨w3.heap.size, 0, none⟩) 1 1, .slice none 0 0] 49 (0, 0)) := blkUpS (blkUpS (blkAS _ _ (by simp)) _) _
  have a2 : ((((w3.alloc (.cells #[.int .i64 0, .int .i64 1, .int .i64 1, .int .i64 0, .int .i64 0, .int .i64 0, .int .i64 7, .int .i64 0, .int .i64 0, .slice (some ⟨w.heap.size, 0, none⟩) 2 2, .int .i64 0, .int .i64 0, .int .i64 0, .int .i64 0, .slice none 0 0, .int .i64 0, .int .i64 0, .int .i64 0, .slice none 0 0] 53)).alloc (.cells #[.int .i64 2, .slice (some ⟨w3.heap.size, 0, none⟩) 1 1, .slice none 0 0] 49)).alloc (.cells #[.int .i64 1] 3)).alloc (.cells #[.int .i64 0, .bool false, .int .i64 0] 129)).heap[w3.heap.size + 1 + 1]? = some (.cells #[.int .i64 1] 3 (0, 0)) := blkUpS (blkAS _ _ (by simp)) _
  have a3 : ((((w3.alloc (.cells #[.int .i64 0, .int .i64 1, .int .i64 1, .int .i64 0, .int .i64 0, .int .i64 0, .int .i64 7, .int .i64 0, .int .i64 0, .slice (some ⟨w.heap.size, 0, none⟩) 2 2, .int .i64 0, .int .i64 0, .int .i64 0, .int .i64 0, .slice none 0 0, .int .i64 0, .int .i64 0, .int .i64 0, .slice none 0 0] 53)).alloc (.cells #[.int .i64 2, .slice (some ⟨w3.heap.size, 0, none⟩) 1 1, .slice none 0 0] 49)).alloc (.cells #[.int .i64 1] 3)).alloc (.cells #[.int .i64 0, .bool false, .int .i64 0] 129)).heap[w3.heap.size + 1 + 1 + 1]? = some (.cells #[.int .i64 0, .bool false, .int .i64 0] 129 (0, 0)) := blkAS _ _ (by simp)
  have hb4 : Below w3.heap.size w3 ((((w3.alloc (.cells #[.int .i64 0, .int .i64 1, .int .i64 1, .int .i64 0, .int .i64 0, .int .i64 0, .int .i64 7, .int .i64 0, .int .i64 0, .slice (some ⟨w.heap.size, 0, none⟩) 2 2, .int .i64 0, .int .i64 0, .int .i64 0, .int .i64 0, .slice none 0 0, .int .i64 0, .int .i64 0, .int .i64 0, .slice none 0 0] 53)).alloc (.cells #[.int .i64 2, .slice (some ⟨w3.heap.size, 0, none⟩) 1 1, .slice none 0 0] 49)).alloc (.cells #[.int .i64 1] 3)).alloc (.cells #[.int .i64 0, .bool false, .int .i64 0] 129)) := ((((Below.refl _ _).alloc (Nat.le_refl _) _).alloc (by simp) _).alloc (by simp; omega) _).alloc (by simp; omega) _
  have s4 := blk_keepS hb4 s0.out
  have hB4 := hB3.trans (hb4.mono hB3.size)
  clear s0 s1 t1 l1 hb4 hB3
  generalize ((((w3.alloc (.cells #[.int .i64 0, .int .i64 1, .int .i64 1, .int .i64 0, .int .i64 0, .int .i64 0, .int .i64 7, .int .i64 0, .int .i64 0, .slice (some ⟨w.heap.size, 0, none⟩) 2 2, .int .i64 0, .int .i64 0, .int .i64 0, .int .i64 0, .slice none 0 0, .int .i64 0, .int .i64 0, .int .i64 0, .slice none 0 0] 53)).alloc (.cells #[.int .i64 2, .slice (some ⟨w3.heap.size, 0, none⟩) 1 1, .slice none 0 0] 49)).alloc (.cells #[.int .i64 1] 3)).alloc (.cells #[.int .i64 0, .bool false, .int .i64 0] 129)) = w4 at *
  refine (run_err 2 divX 3 rfl (w3.heap.size + 1) 1 (w3.heap.size + 1 + 1) 1 w3.heap.size 1 (w3.heap.size + 1 + 1 + 1) 1 none 0 w4 (by decide) (by decide) (by decide) (by decide) (blk_ltS a1) (blk_ltS a2) (blk_ltS a0) (blk_ltS a3)
    (fun j v hv => by rw [Nat.zero_add]; exact (row_ofS a1 j).trans (by simpa using hv)) (row_ofS a2 0) (fun j v hv => by rw [Nat.zero_add]; exact (row_ofS a0 j).trans (by simpa using hv)) a3
    (fun W hW => stmt_asgE none 0 0 0 1 0 7 0 0 _ 2 2 (by decide) (by decide) W (div_ok (blk_keepS hW s4))) (div_in s4) (div_ev _)).mono ?_
  rintro e w5 ⟨A, n, c, rfl, hb5⟩
  have hB5 := hB4.trans (hb5.mono hB4.size)
  clear a0 a1 a2 a3 s4 hb5 hB4
  go_wp2_with fail
  go_ret
  exact ⟨rfl, hB5.alloc hB5.size _⟩
end Go.Proofs.Ytdagadcflignfaa
