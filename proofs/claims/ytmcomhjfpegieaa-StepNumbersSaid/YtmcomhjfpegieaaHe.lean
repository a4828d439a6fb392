/-
  conf.Start of a system of one process with one variable, and of no channels.
-/
import Derived.Test.YtmcomhjfpegieaaHb
import Derived.Test.YtmcomhjfpegieaaGq
namespace Go.Proofs.Ytmcomhjfpegieaa
open Go.RowKit
variable {ek em ex : Int} {EA : Option Addr} {en ec : Nat}

theorem mk1_int (W : World) : (Instr.makeSlice 30 (.int .i64 1) (.int .i64 1)).run Try.prog W = .ok (.slice (some ⟨W.heap.size, 0, none⟩) 1 1) (W.alloc (.cells #[.int .i64 0] 3)) := by
  obtain ⟨ii, hii, iz0, iz1, iz2⟩ := info_parts info_int
  have h := run_make (P := Try.prog) W 30 3 ii (.int .i64 0) Try.underlying30 hii iz0 .i64 .i64 1 1 (by decide) (by decide) (by rw [iz2]; decide) (by decide)
  rw [iz1, show madeCells (Value.int .i64 0).cells (Int.toNat 1 * 1) = #[.int .i64 0] from by kernel_rfl] at h
  exact h
theorem mk0_int (W : World) : (Instr.makeSlice 30 (.int .i64 0) (.int .i64 0)).run Try.prog W = .ok (.slice (some ⟨W.heap.size, 0, none⟩) 0 0) (W.alloc (.cells #[] 3)) := by
  obtain ⟨ii, hii, iz0, iz1, iz2⟩ := info_parts info_int
  have h := run_make (P := Try.prog) W 30 3 ii (.int .i64 0) Try.underlying30 hii iz0 .i64 .i64 0 0 (by decide) (by decide) (by rw [iz2]; decide) (by decide)
  rw [iz1, show madeCells (Value.int .i64 0).cells (Int.toNat 0 * 1) = #[] from by kernel_rfl] at h
  exact h
theorem info_msgs : (Try.prog.info? 98).map (fun i => (i.zero, i.size, i.bytes)) = some (some (.slice none 0 0), 1, 24) := by kernel_rfl
theorem mk0_msgs (W : World) : (Instr.makeSlice 38 (.int .i64 0) (.int .i64 0)).run Try.prog W = .ok (.slice (some ⟨W.heap.size, 0, none⟩) 0 0) (W.alloc (.cells #[] 98)) := by
  obtain ⟨ii, hii, iz0, iz1, iz2⟩ := info_parts info_msgs
  have h := run_make (P := Try.prog) W 38 98 ii (.slice none 0 0) Try.underlying38 hii iz0 .i64 .i64 0 0 (by decide) (by decide) (by rw [iz2]; decide) (by decide)
  rw [iz1, show madeCells (Value.slice none 0 0).cells (Int.toNat 0 * 1) = #[] from by kernel_rfl] at h
  exact h
def StartCut (W : World) (e : Value) (wx : World) : Prop :=
  ∃ g a q u : Nat, e = .pointer (some ⟨g, 0, none⟩) ∧ wx.heap[g]? = some (.cells #[.slice (some ⟨a, 0, none⟩) 1 1, .slice none 0 0, .slice (some ⟨q, 0, none⟩) 0 0, .slice (some ⟨u, 0, none⟩) 0 0] 40 (0, 0)) ∧ wx.heap[a]? = some (.cells #[.int .i64 0] 3 (0, 0)) ∧ W.heap.size ≤ g ∧ W.heap.size ≤ a ∧ a ≠ g ∧ Below W.heap.size W wx
/-- Behind the row of the one process's variables. -/
def StartCut2 (B g a : Nat) (q u : Nat) (W : World) (wx : World) : Prop :=
  ∃ v cv b : Nat, wx.heap[g]? = some (.cells #[.slice (some ⟨a, 0, none⟩) 1 1, .slice (some ⟨v, 0, none⟩) 1 cv, .slice (some ⟨q, 0, none⟩) 0 0, .slice (some ⟨u, 0, none⟩) 0 0] 40 (0, 0)) ∧ wx.heap[a]? = some (.cells #[.int .i64 0] 3 (0, 0)) ∧ wx.heap[b]? = some (.cells #[.int .i64 0] 3 (0, 0)) ∧
    wx.ownsRow W.heap.size 30 1 (.slice (some ⟨v, 0, none⟩) 1 cv) 1 [.slice (some ⟨b, 0, none⟩) 1 1] ∧ B ≤ b ∧ Below B W wx
theorem start_next {B g a q u b v cv : Nat} {W W2 w3 : World} (hgrow : W2.grownBy w3 (Value.slice none 0 0).ownBlock) (hg : W2.heap[g]? = some (.cells #[.slice (some ⟨a, 0, none⟩) 1 1, .slice none 0 0, .slice (some ⟨q, 0, none⟩) 0 0, .slice (some ⟨u, 0, none⟩) 0 0] 40 (0, 0))) (ha : W2.heap[a]? = some (.cells #[.int .i64 0] 3 (0, 0))) (hb : W2.heap[b]? = some (.cells #[.int .i64 0] 3 (0, 0)))
    (hne : a ≠ g) (hnb : b ≠ g) (hBb : B ≤ b) (hB : B ≤ g) (hgW : g < W.heap.size) (hBW : Below B W W2) (hBs : B ≤ W2.heap.size) (hown : w3.ownsRow W.heap.size 30 1 (.slice (some ⟨v, 0, none⟩) 1 cv) 1 [.slice (some ⟨b, 0, none⟩) 1 1]) :
    StartCut2 B g a q u W (w3.setCell ⟨g, 1, none⟩ (.slice (some ⟨v, 0, none⟩) 1 cv)) := by
  have k0 := grown_blk hgrow hg (by simp [Value.ownBlock])
  have k1 := grown_blk hgrow ha (by simp [Value.ownBlock])
  have k2 := grown_blk hgrow hb (by simp [Value.ownBlock])
  have h3 : Below B W2 w3 := ⟨hgrow.os, hgrow.tape, hgrow.output, hgrow.size, fun i hi => hgrow.block i (by omega) (by simp [Value.ownBlock])⟩
  exact ⟨v, cv, b, by simp [World.setCell, Array.getElem?_modify, k0], blk_set k1 hne, blk_set k2 hnb, own_set hown hgW, hBb, (hBW.trans h3).setCell (p := ⟨g, 1, none⟩) hB _⟩
theorem put4 {W WF : World} {n : Nat} {t : TypeId} {z0 z1 z2 z3 : Value} (h : W.heap[n]? = some (.cells #[z0, z1, z2, z3] t (0, 0))) (v0 v1 v2 v3 : Value)
    (hW : WF = (((W.setCell ⟨n, 0, none⟩ v0).setCell ⟨n, 1, none⟩ v1).setCell ⟨n, 2, none⟩ v2).setCell ⟨n, 3, none⟩ v3) :
    (∀ o, WF.cell? ⟨n, o, none⟩ = (#[v0, v1, v2, v3] : Array Value)[o]?) ∧ (∀ B, B ≤ n → Below B W WF) ∧ (∀ (b : Nat) (x : Obj), b ≠ n → W.heap[b]? = some x → WF.heap[b]? = some x) := by
  have h4 := set4 (n := n) W v0 v1 v2 v3
  have hk : ((((W.setCell ⟨n, 0, none⟩ v0).setCell ⟨n, 1, none⟩ v1).setCell ⟨n, 2, none⟩ v2).setCell ⟨n, 3, none⟩ v3).heap[n]? = some (.cells #[v0, v1, v2, v3] t (0, 0)) := by simp [World.setCell, Array.getElem?_modify, h]
  subst hW
  exact ⟨row_of hk, fun B hB => h4.mono hB, fun b x hb hx => blk_set (blk_set (blk_set (blk_set hx hb) hb) hb) hb⟩
def StartOut (w : World) (e : Ending) (w' : World) : Prop :=
  ∃ a v cv b q u : Nat, e = .returned (.tuple #[.agg #[.slice (some ⟨a, 0, none⟩) 1 1, .slice (some ⟨v, 0, none⟩) 1 cv, .slice (some ⟨q, 0, none⟩) 0 0, .slice (some ⟨u, 0, none⟩) 0 0], .int .i64 0]) ∧ a < w'.heap.size ∧ v < w'.heap.size ∧ b < w'.heap.size ∧ 1 ≤ cv ∧
    w'.cell? ⟨a, 0, none⟩ = some (.int .i64 0) ∧ w'.cell? ⟨v, 0, none⟩ = some (.slice (some ⟨b, 0, none⟩) 1 1) ∧ w'.cell? ⟨b, 0, none⟩ = some (.int .i64 0) ∧ Below w.heap.size w w'

set_option maxRecDepth 100000 in
set_option maxHeartbeats 8000000 in
theorem start_one (G cg V cgv x0 ce : Nat) (HH : Option Addr) (hc : Nat) (w : World) (hcg : 1 ≤ cg) (hcv : 1 ≤ cgv) (hce : 1 ≤ ce) (hG : G < w.heap.size) (hV : V < w.heap.size) (hx0 : x0 < w.heap.size)
    (hg : w.rangeAt G 0 [.int .i64 2, .slice (some ⟨x0, 0, none⟩) 1 ce, .slice HH 0 hc]) (hv : w.cell? ⟨V, 0, none⟩ = some (.int .i64 1)) (he : w.rangeAt x0 0 [.int .i64 0, .int .i64 1, .int .i64 1, .int .i64 0, .int .i64 0, .int .i64 0, .int .i64 ek, .int .i64 em, .int .i64 ex, .slice EA en ec, .int .i64 0, .int .i64 0, .int .i64 0, .int .i64 0, .slice none 0 0, .int .i64 0, .int .i64 0, .int .i64 0, .slice none 0 0]) (hst : StOk w none 0 0 0 1 [.int .i64 1, .int .i64 0, .int .i64 0, .int .i64 0, .int .i64 ek, .int .i64 em, .int .i64 ex, .slice EA en ec, .int .i64 0, .int .i64 0, .int .i64 0, .int .i64 0, .slice none 0 0, .int .i64 0, .int .i64 0, .int .i64 0, .slice none 0 0, .slice none 0 0, .slice none 0 0, .slice none 0 0]) :
    Calls Try.prog 6 #[.agg #[.slice none 0 0, .slice (some ⟨G, 0, none⟩) 1 cg, .slice (some ⟨V, 0, none⟩) 1 cgv]] w (StartOut w) := by
  obtain ⟨ii, hii, iz0, iz1, iz2⟩ := info_parts info_ints
  replace hii := Lib.hid hii
  replace he := Lib.hid he
  replace hg := Lib.hid hg
  replace hst := Lib.hid hst
  have mk1 := mk1_int
  have mk0 := mk0_int
  have mkm := mk0_msgs
  go_enter Try.func6, Try.ntmps6
  go_upto_region 1 with fail
  refine wp_world (fun W => W.heap[w.heap.size]? = some (.cells #[.slice none 0 0, .slice (some ⟨G, 0, none⟩) 1 cg, .slice (some ⟨V, 0, none⟩) 1 cgv] 36 (0, 0)) ∧ W.heap[w.heap.size + 1]? = some (.cells #[.slice none 0 0, .slice none 0 0, .slice none 0 0, .slice none 0 0] 40 (0, 0)) ∧ Below w.heap.size w W ∧ w.heap.size + 2 ≤ W.heap.size) ⟨blkUp (blkA _ _ rfl) _, blkA _ _ (by simp), ((Below.refl _ _).alloc (Nat.le_refl _) _).alloc (by simp) _, by simp⟩ ?_
  rintro w0 ⟨k0, k1, hB0, hz0⟩
  have q0 := row_of k0
  replace k0 := Lib.hid k0
  replace k1 := Lib.hid k1
  go_wp2_with fail
  refine (graph_right G cg V cgv x0 ce w0 hcg hcv hce (by omega) (by omega) (by omega) (range_keep hB0 hG hg.out) ((hB0.cell (p := ⟨V, 0, none⟩) hV).trans hv) (range_keep hB0 hx0 he.out) (fun W hW => hst.out W (hB0.trans (hW.mono hB0.size)))).mono ?_
  rintro e w1 ⟨rfl, hb1⟩
  have hB1 : Below w.heap.size w w1 := hB0.trans (hb1.mono hB0.size)
  have m0 := blk_keep hb1 k0.out
  have m1 := blk_keep hb1 k1.out
  have hz1 := hB1.size
  have l0 := blk_lt m0
  have l1 := blk_lt m1
  have p0 := row_of m0
  have hvc := (hB1.cell (p := ⟨V, 0, none⟩) hV).trans hv
  replace m0 := Lib.hid m0
  replace m1 := Lib.hid m1
  clear q0 k0 k1 hb1 hB0 hz0
  have x1 : w.heap.size < w1.heap.size + 1 := by omega
  have x2 : w.heap.size < w1.heap.size + 2 := by omega
  have x3 : w.heap.size < w1.heap.size + 3 := by omega
  have x4 : w.heap.size < w1.heap.size + 4 := by omega
  have x5 : w.heap.size < w1.heap.size + 1 + 1 := by omega
  have x6 : w.heap.size < w1.heap.size + 1 + 1 + 1 := by omega
  have x7 : w.heap.size < w1.heap.size + 1 + 1 + 1 + 1 := by omega
  go_upto_region 3 with fail
  go_cut [4] from 11 to 23 (fun e4 wx => StartCut w1 e4 wx)
  case first =>
    go_region
    all_goals
      go_wp2_with fail
      go_meet
      case rel =>
        repeat apply Exists.intro
        refine ⟨rfl, ?_, ?_, ?_, ?_, ?_, ?_⟩
        · first | exact blkA _ _ (by simp) | exact blkUp (blkA _ _ (by simp)) _ | exact blkUp (blkUp (blkA _ _ (by simp)) _) _ | exact blkUp (blkUp (blkUp (blkA _ _ (by first | rfl | (simp; done))) _) _) _
        · first | exact blkA _ _ (by simp) | exact blkUp (blkA _ _ (by simp)) _ | exact blkUp (blkUp (blkA _ _ (by simp)) _) _ | exact blkUp (blkUp (blkUp (blkA _ _ (by first | rfl | (simp; done))) _) _) _
        · omega
        · omega
        · omega
        · exact (((((Below.refl _ _).alloc (Nat.le_refl _) _).alloc (by simp only [World.size_alloc]; omega) _).alloc (by simp only [World.size_alloc]; omega) _).alloc (by simp only [World.size_alloc]; omega) _).drew
  case rest =>
    obtain ⟨g, a, q, u, rfl, hgb, hab, hg1, ha1, hne, hbc⟩ := hcut
    clear x1 x2 x3 x4 x5 x6 x7
    have n0 := blk_keep hbc m0.out
    have n1 := blk_keep hbc m1.out
    have hB2 : Below w.heap.size w wc := hB1.trans (hbc.mono hz1)
    have p2 := row_of n0
    have l2 := blk_lt n0
    have l3 := blk_lt n1
    have l4 := blk_lt hgb
    have rg := row_of hgb
    have fg := frozen_of hgb 1
    have hvc2 := (hbc.cell (p := ⟨V, 0, none⟩) (Nat.lt_of_lt_of_le hV hz1)).trans hvc
    have hz2 := hB2.size
    have hbcB : Below w1.heap.size wc wc := Below.refl _ _
    replace n1 := Lib.hid n1
    replace hgb := Lib.hid hgb
    replace hab := Lib.hid hab
    clear m0 m1 p0 hvc l0 n0
    go_wp2_with fail
    refine wp_loop_rounds 2 ?_
    rw [rounds_succ]
    go_upto_region 7 with fail
    go_region_law (first
      | (refine step_append_lies _ (by rfl) _ _ _ (by rfl) wc.heap.size 30 ii (.slice none 0 0) 1 24 Try.underlying37 hii.out iz0 iz1 iz2 rfl (by decide) (.slice none 0 0) 0 [] (by rfl) (World.ownsRow_nil _ _ _ _) ⟨wc.heap.size + 1, 0, none⟩ 1 1 [.slice (some ⟨wc.heap.size, 0, none⟩) 1 1] (by rfl) (by rfl) (World.news_of_block (cs := #[.slice (some ⟨wc.heap.size, 0, none⟩) 1 1]) (t := 30) (fr := (0, 0)) (blkA _ _ (by simp))) (by simp [Value.oneCell']) (by decide) (by unfold maxLen; decide) (by decide) (by simp; omega) (wc.heap.size + 1 + 1) (by simp) ?_; intro gg cap w3 hown3 hgrow hat hlt3; have k3 := grown_blk hgrow (blkUp (blkUp hgb.out _) _) (by simp [Value.ownBlock]); have rg3 := row_of k3; have fg3 := frozen_of k3 1; replace hown3 := Lib.hid hown3; replace hgrow := Lib.hid hgrow; clear k3 hat))
    all_goals
      have hN := Lib.hid (start_next (B := w1.heap.size) (W := wc) hgrow.out (blkUp (blkUp hgb.out _) _) (blkUp (blkUp hab.out _) _) (blkUp (blkA _ _ rfl) _) hne (by omega) (by omega) hg1 l4 (by first | exact (((hbcB.alloc (by omega) _).alloc (by simp; omega) _).drew) | exact ((hbcB.alloc (by omega) _).alloc (by simp; omega) _)) (by simp; omega) hown3.out)
      clear hgrow hown3
      go_wp2_with fail
      rw [rounds_succ]
      go_upto_region 9 with fail
      refine wp_world (fun W => StartCut2 w1.heap.size g a q u wc W) hN.out ?_
      rintro w5 ⟨v, cv, b, hg5, ha5, hb5, hv5, hBb, hbw⟩
      have hcv5 := own_cap hv5
      have hvl := hv5.lt v rfl
      have hv0 := hv5.cells rfl 0 _ rfl
      obtain ⟨curv, hvb⟩ : ∃ cur, w5.heap[v]? = some (.cells cur 30 (0, 0)) := by
        rcases hv5.2 with ⟨h1, _⟩ | ⟨g', cap', cur, h1, _, hg, _⟩
        · cases h1
        · cases h1; exact ⟨cur, hg⟩
      have k5 := (hbw.block _ l1).trans n1.out
      have hB5 : Below w.heap.size w w5 := hB2.trans (hbw.mono hz1)
      have r5 := row_of hg5
      have k5r := row_of k5
      have f0 := frozen_of k5 0
      have f1 := frozen_of k5 1
      have f2 := frozen_of k5 2
      have f3 := frozen_of k5 3
      replace k5 := Lib.hid k5
      replace hv0 := Lib.hid hv0
      clear rg fg rg3 fg3 hgb hab hN hv5 hg5
      go_wp2_with fail
      generalize hWF : (World.setCell _ ⟨w.heap.size + 1, 3, none⟩ _) = WF
      obtain ⟨c4, hbF, hoF⟩ := put4 (n := w.heap.size + 1) k5.out _ _ _ _ hWF.symm
      clear hWF
      have ea := row_of (hoF a _ (by omega) ha5) 0
      have eb := row_of (hoF b _ (by omega) hb5) 0
      have ev := (row_of (hoF v _ (by omega) hvb) 0).trans ((row_of hvb 0).symm.trans hv0.out)
      have hsz := (hbF 0 (Nat.zero_le _)).size
      have la := blk_lt ha5
      have lb := blk_lt hb5
      exact bodyPost_ret (v := .tuple #[.agg #[.slice (some ⟨a, 0, none⟩) 1 1, .slice (some ⟨v, 0, none⟩) 1 cv, .slice (some ⟨q, 0, none⟩) 0 0, .slice (some ⟨u, 0, none⟩) 0 0], .int .i64 0]) (by simp [results, Try.results6, go_sem, c4]) rfl
        ⟨a, v, cv, b, q, u, rfl, by omega, by omega, by omega, hcv5, ea, ev, eb, hB5.trans (hbF _ (by omega))⟩
end Go.Proofs.Ytmcomhjfpegieaa

