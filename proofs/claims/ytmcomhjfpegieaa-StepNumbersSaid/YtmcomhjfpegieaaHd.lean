/-
  step's mover at a node that one edge leaves: an assignment that errs.
-/
import Derived.Test.YtmcomhjfpegieaaHc
import Derived.Test.YtmcomhjfpegieaaHb
namespace Go.Proofs.Ytmcomhjfpegieaa
open Go.RowKit
variable {ek em ex : Int} {EA : Option Addr} {en ec : Nat}

set_option maxRecDepth 100000 in
set_option maxHeartbeats 4000000 in
theorem leave_err (f : Int) (hf : (f == 0) = false) (m v cv b c o co x0 ce : Nat) (w : World) (hcv : 1 ≤ cv) (hce : 1 ≤ ce) (hm : m < w.heap.size) (hv0 : v < w.heap.size) (hx0 : x0 < w.heap.size)
    (h0 : w.cell? ⟨m, 0, none⟩ = some (.int .i64 0)) (h4 : w.cell? ⟨m, 4, none⟩ = some (.slice (some ⟨x0, 0, none⟩) 1 ce)) (h6 : w.cell? ⟨m, 6, none⟩ = some (.slice (some ⟨v, 0, none⟩) 1 cv)) (hv : w.cell? ⟨v, 0, none⟩ = some (.slice (some ⟨b, 0, none⟩) 1 c))
    (ho : w.cell? ⟨o, 0, none⟩ = some (.int .i64 0)) (he : w.rangeAt x0 0 [.int .i64 0, .int .i64 1, .int .i64 1, .int .i64 0, .int .i64 0, .int .i64 0, .int .i64 ek, .int .i64 em, .int .i64 ex, .slice EA en ec, .int .i64 0, .int .i64 0, .int .i64 0, .int .i64 0, .slice none 0 0, .int .i64 0, .int .i64 0, .int .i64 0, .slice none 0 0]) (hE : EvOk w (.agg #[.int .i64 ek, .int .i64 em, .int .i64 ex, .slice EA en ec]) (.slice (some ⟨b, 0, none⟩) 1 c) (0, f)) :
    Calls Try.prog 49 #[.pointer (some ⟨m, 0, none⟩), .slice (some ⟨o, 0, none⟩) 1 co] w fun e w' => e = .returned (.tuple #[.int .i64 0, .int .i64 f]) ∧ Below w.heap.size w w' := by
  replace hE := Lib.hid hE
  replace he := Lib.hid he
  go_enter Try.func49, Try.ntmps49
  go_upto_region 3 with (first | (refine ld_mid 28 _ rfl _ _ rfl [.int .i64 0, .int .i64 1, .int .i64 1, .int .i64 0, .int .i64 0, .int .i64 0, .int .i64 ek, .int .i64 em, .int .i64 ex, .slice EA en ec, .int .i64 0, .int .i64 0, .int .i64 0, .int .i64 0, .slice none 0 0, .int .i64 0, .int .i64 0, .int .i64 0, .slice none 0 0] _ he.out Try.underlying28 rfl info_edge rfl ?_) | (refine wpList_store_new rfl 28 _ _ rfl rfl _ _ _ _ rfl (by first | assumption | rfl | (simp; done) | (simp; omega)) rfl rfl info_edge rfl (by kernel_rfl) ?_))
  refine wp_world (fun W => W.heap[w.heap.size]? = some (.cells #[.int .i64 0, .int .i64 1, .int .i64 1, .int .i64 0, .int .i64 0, .int .i64 0, .int .i64 ek, .int .i64 em, .int .i64 ex, .slice EA en ec, .int .i64 0, .int .i64 0, .int .i64 0, .int .i64 0, .slice none 0 0, .int .i64 0, .int .i64 0, .int .i64 0, .slice none 0 0] 28 (0, 0)) ∧ Below w.heap.size w W) ⟨blkA _ _ rfl, (Below.refl _ _).alloc (Nat.le_refl _) _⟩ ?_
  rintro w0 ⟨k0, hB0⟩
  have hz0 := hB0.size
  have r0 := row_of k0
  have g0 := (hB0.cell (p := ⟨m, 0, none⟩) hm).trans h0
  have g6 := (hB0.cell (p := ⟨m, 6, none⟩) hm).trans h6
  have gv := (hB0.cell (p := ⟨v, 0, none⟩) hv0).trans hv
  replace k0 := Lib.hid k0
  clear h0 h4 h6 hv ho
  go_wp2_with (refine ld_row 28 _ rfl _ rfl _ _ _ _ k0.out Try.underlying28 rfl info_edge rfl ?_)
  refine (assign_err f hf m v cv b c _ hcv (by omega) (by omega) g0 g6 gv (fun W hW => hE.out W (hB0.trans (hW.mono hB0.size)))).mono ?_
  rintro e w1 ⟨rfl, hb1⟩
  have hB1 := hB0.trans (hb1.mono hB0.size)
  go_wp2_with fail
  exact bodyPost_ret (v := .tuple #[.int .i64 0, .int .i64 f]) (by simp [results, Try.results49, go_sem]) rfl ⟨rfl, hB1⟩

theorem put8 {W WF : World} {n k : Nat} {t u : TypeId} {z0 z1 z2 z3 d0 d1 d2 d3 : Value} (hne : n ≠ k) (h : W.heap[n]? = some (.cells #[z0, z1, z2, z3] t (0, 0))) (g : W.heap[k]? = some (.cells #[d0, d1, d2, d3] u (0, 0))) (v0 v1 v2 v3 e0 e1 e2 e3 : Value)
    (hW : WF = ((((((((W.setCell ⟨n, 0, none⟩ v0).setCell ⟨n, 1, none⟩ v1).setCell ⟨n, 2, none⟩ v2).setCell ⟨n, 3, none⟩ v3).setCell ⟨k, 0, none⟩ e0).setCell ⟨k, 1, none⟩ e1).setCell ⟨k, 2, none⟩ e2).setCell ⟨k, 3, none⟩ e3).drew) :
    (∀ o, WF.cell? ⟨n, o, none⟩ = (#[v0, v1, v2, v3] : Array Value)[o]?) ∧ (∀ o, WF.cell? ⟨k, o, none⟩ = (#[e0, e1, e2, e3] : Array Value)[o]?) ∧ (∀ B, B ≤ n → B ≤ k → Below B W WF) := by
  have h4 := set4 (n := n) W v0 v1 v2 v3
  have h8 := set4 (n := k) ((((W.setCell ⟨n, 0, none⟩ v0).setCell ⟨n, 1, none⟩ v1).setCell ⟨n, 2, none⟩ v2).setCell ⟨n, 3, none⟩ v3) e0 e1 e2 e3
  have hk : ((((W.setCell ⟨n, 0, none⟩ v0).setCell ⟨n, 1, none⟩ v1).setCell ⟨n, 2, none⟩ v2).setCell ⟨n, 3, none⟩ v3).heap[n]? = some (.cells #[v0, v1, v2, v3] t (0, 0)) := by simp [World.setCell, Array.getElem?_modify, h]
  have gk : ((((W.setCell ⟨n, 0, none⟩ v0).setCell ⟨n, 1, none⟩ v1).setCell ⟨n, 2, none⟩ v2).setCell ⟨n, 3, none⟩ v3).heap[k]? = some (.cells #[d0, d1, d2, d3] u (0, 0)) := by simp [World.setCell, Array.getElem?_modify, g, hne]
  generalize ((((W.setCell ⟨n, 0, none⟩ v0).setCell ⟨n, 1, none⟩ v1).setCell ⟨n, 2, none⟩ v2).setCell ⟨n, 3, none⟩ v3) = W4 at *
  have hk8 : ((((W4.setCell ⟨k, 0, none⟩ e0).setCell ⟨k, 1, none⟩ e1).setCell ⟨k, 2, none⟩ e2).setCell ⟨k, 3, none⟩ e3).heap[n]? = some (.cells #[v0, v1, v2, v3] t (0, 0)) := by simp [World.setCell, Array.getElem?_modify, hk, Ne.symm hne]
  have gk8 : ((((W4.setCell ⟨k, 0, none⟩ e0).setCell ⟨k, 1, none⟩ e1).setCell ⟨k, 2, none⟩ e2).setCell ⟨k, 3, none⟩ e3).heap[k]? = some (.cells #[e0, e1, e2, e3] u (0, 0)) := by simp [World.setCell, Array.getElem?_modify, gk]
  generalize ((((W4.setCell ⟨k, 0, none⟩ e0).setCell ⟨k, 1, none⟩ e1).setCell ⟨k, 2, none⟩ e2).setCell ⟨k, 3, none⟩ e3) = W8 at *
  subst hW
  exact ⟨row_of (W := W8.drew) hk8, row_of (W := W8.drew) gk8, fun B h1 h2 => ((h4.mono h1).trans (h8.mono h2)).drew⟩
/-- Before and behind a call of Out. -/
theorem OneOut.up {w2 W w' : World} {t : TypeId} {x : Value} {e : Ending} (hB : Below w2.heap.size w2 W) (h : OneOut W t x e w') : OneOut w2 t x e w' := by
  obtain ⟨g, cap, he, ho, hb⟩ := h
  exact ⟨g, cap, he, own_base ho hB.size, hB.trans (hb.mono hB.size)⟩
def MoveErr (w : World) (f : Int) (e : Ending) (w' : World) : Prop := ∃ (A0 A1 A2 A3 : Option Addr) (i0 j0 i1 j1 i2 j2 i3 j3 : Nat), e = .returned (.tuple #[.agg #[.slice A0 i0 j0, .slice A1 i1 j1, .slice A2 i2 j2, .slice A3 i3 j3], .agg #[.bool false, .int .i64 f, .int .i64 0, .int .i64 0]]) ∧ Below w.heap.size w w'
theorem info_conf : (Try.prog.info? 40).map (·.size) = some 4 := by kernel_rfl
set_option maxRecDepth 100000 in
set_option maxHeartbeats 8000000 in
theorem move_err (d : Nat) (x : Ex) (f : Int) (hf : (f == 0) = false) (a ca v cv cq cu b c G cg V cgv x0 ce : Nat) (y : Int) (Q U HH : Option Addr) (hc : Nat) (w : World) (hcv : 1 ≤ cv) (hca : 1 ≤ ca) (hcg : 1 ≤ cg) (hce : 1 ≤ ce) (ha : a < w.heap.size) (hv : v < w.heap.size) (hb : b < w.heap.size) (hG : G < w.heap.size) (hx0 : x0 < w.heap.size)
    (r0 : w.cell? ⟨a, 0, none⟩ = some (.int .i64 0)) (r1 : w.cell? ⟨v, 0, none⟩ = some (.slice (some ⟨b, 0, none⟩) 1 c)) (r2 : w.cell? ⟨b, 0, none⟩ = some (.int .i64 y)) (hg : w.rangeAt G 0 [.int .i64 2, .slice (some ⟨x0, 0, none⟩) 1 ce, .slice HH 0 hc]) (he : w.rangeAt x0 0 [.int .i64 0, .int .i64 1, .int .i64 1, .int .i64 0, .int .i64 0, .int .i64 0, .int .i64 ek, .int .i64 em, .int .i64 ex, .slice EA en ec, .int .i64 0, .int .i64 0, .int .i64 0, .int .i64 0, .slice none 0 0, .int .i64 0, .int .i64 0, .int .i64 0, .slice none 0 0])
    (hx : ExIn w w.heap.size d x (.agg #[.int .i64 ek, .int .i64 em, .int .i64 ex, .slice EA en ec])) (hev : evF [y] d x = (0, f)) :
    Calls Try.prog 38 #[.agg #[.slice none 0 0, .slice (some ⟨G, 0, none⟩) 1 cg, .slice (some ⟨V, 0, none⟩) 1 cgv], .agg #[.slice (some ⟨a, 0, none⟩) 1 ca, .slice (some ⟨v, 0, none⟩) 1 cv, .slice Q 0 cq, .slice U 0 cu], .agg #[.int .i64 0, .bool false, .int .i64 0]] w (MoveErr w f) := by
  replace he := Lib.hid he
  replace hg := Lib.hid hg
  replace hx := Lib.hid hx
  replace hev := Lib.hid hev
  go_enter Try.func38, Try.ntmps38
  go_upto_region 1 with fail
  refine wp_world (fun W => W.heap[w.heap.size]? = some (.cells #[.slice none 0 0, .slice (some ⟨G, 0, none⟩) 1 cg, .slice (some ⟨V, 0, none⟩) 1 cgv] 36 (0, 0)) ∧ W.heap[w.heap.size + 1]? = some (.cells #[.slice (some ⟨a, 0, none⟩) 1 ca, .slice (some ⟨v, 0, none⟩) 1 cv, .slice Q 0 cq, .slice U 0 cu] 40 (0, 0)) ∧ W.heap[w.heap.size + 2]? = some (.cells #[.int .i64 0, .bool false, .int .i64 0] 90 (0, 0)) ∧ W.heap[w.heap.size + 3]? = some (.cells #[.slice none 0 0, .slice none 0 0, .slice none 0 0, .slice none 0 0] 40 (0, 0)) ∧ W.heap[w.heap.size + 4]? = some (.cells #[.bool false, .int .i64 0, .int .i64 0, .int .i64 0] 86 (0, 0)) ∧ Below w.heap.size w W ∧ w.heap.size + 5 ≤ W.heap.size) ⟨blkUp (blkUp (blkUp (blkUp (blkA _ _ (by first | rfl | (simp; done))) _) _) _) _, blkUp (blkUp (blkUp (blkA _ _ (by first | rfl | (simp; done))) _) _) _, blkUp (blkUp (blkA _ _ (by first | rfl | (simp; done))) _) _, blkUp (blkA _ _ (by first | rfl | (simp; done))) _, blkA _ _ (by first | rfl | (simp; done)), ((((((Below.refl _ _).alloc (Nat.le_refl _) _).alloc (by simp) _).alloc (by simp; omega) _).alloc (by simp; omega) _).alloc (by simp; omega) _), by simp⟩ ?_
  rintro w0 ⟨k3, k4, k5, k6, k7, hB0, hz0⟩
  have q4 := row_of k4
  replace k3 := Lib.hid k3
  replace k4 := Lib.hid k4
  replace k5 := Lib.hid k5
  replace k6 := Lib.hid k6
  replace k7 := Lib.hid k7
  go_wp2_with fail
  refine (copy_one a ca v cv cq cu b c 0 y Q U _ hcv (by omega) (by omega) (by omega) ((hB0.cell (p := ⟨a, 0, none⟩) ha).trans r0) ((hB0.cell (p := ⟨v, 0, none⟩) hv).trans r1) ((hB0.cell (p := ⟨b, 0, none⟩) hb).trans r2)).mono ?_
  rintro e w1 ⟨_, rfl, ⟨a', ca', v', cv', b', c', rfl, hA, hV, hVb⟩, hb1⟩
  have hz1 := hb1.size
  have hB1 : Below w.heap.size w w1 := hB0.trans (hb1.mono hB0.size)
  have m3 := blk_keep hb1 k3.out
  have m4 := blk_keep hb1 k4.out
  have m5 := blk_keep hb1 k5.out
  have m6 := blk_keep hb1 k6.out
  have m7 := blk_keep hb1 k7.out
  have q3 := row_of m3
  have q5 := row_of m5
  have l3 := blk_lt m3
  have l4 := blk_lt m4
  have l5 := blk_lt m5
  have l6 := blk_lt m6
  have l7 := blk_lt m7
  replace m3 := Lib.hid m3
  replace m4 := Lib.hid m4
  replace m5 := Lib.hid m5
  replace m6 := Lib.hid m6
  replace m7 := Lib.hid m7
  replace hA := Lib.hid hA
  replace hV := Lib.hid hV
  replace hVb := Lib.hid hVb
  have hg1 := Lib.hid (range_keep (hB1.alloc hB1.size (.cells #[.slice (some ⟨a', 0, none⟩) 1 ca', .slice (some ⟨v', 0, none⟩) 1 cv', .slice none 0 0, .slice none 0 0] 40)) hG hg.out)
  clear q4 k3 k4 k5 k6 k7 r1 r2 hb1
  go_upto_region 5 with (refine ld_mid 32 _ rfl _ _ rfl [.int .i64 2, .slice (some ⟨x0, 0, none⟩) 1 ce, .slice HH 0 hc] _ hg1.out Try.underlying32 rfl (by kernel_rfl) rfl ?_)
  refine wp_world (fun W => W.heap[w.heap.size]? = some (.cells #[.slice none 0 0, .slice (some ⟨G, 0, none⟩) 1 cg, .slice (some ⟨V, 0, none⟩) 1 cgv] 36 (0, 0)) ∧ W.heap[w.heap.size + 1]? = some (.cells #[.slice (some ⟨a, 0, none⟩) 1 ca, .slice (some ⟨v, 0, none⟩) 1 cv, .slice Q 0 cq, .slice U 0 cu] 40 (0, 0)) ∧ W.heap[w.heap.size + 2]? = some (.cells #[.int .i64 0, .bool false, .int .i64 0] 90 (0, 0)) ∧ W.heap[w.heap.size + 3]? = some (.cells #[.slice none 0 0, .slice none 0 0, .slice none 0 0, .slice none 0 0] 40 (0, 0)) ∧ W.heap[w.heap.size + 4]? = some (.cells #[.bool false, .int .i64 0, .int .i64 0, .int .i64 0] 86 (0, 0)) ∧ W.heap[w1.heap.size]? = some (.cells #[.slice (some ⟨a', 0, none⟩) 1 ca', .slice (some ⟨v', 0, none⟩) 1 cv', .slice none 0 0, .slice none 0 0] 40 (0, 0)) ∧ W.heap[w1.heap.size + 1]? = some (.cells #[.int .i64 2, .slice (some ⟨x0, 0, none⟩) 1 ce, .slice HH 0 hc] 32 (0, 0)) ∧
    W.ownsRow w0.heap.size 30 1 (.slice (some ⟨v', 0, none⟩) 1 cv') 1 [.slice (some ⟨b', 0, none⟩) 1 c'] ∧ W.ownsRow w0.heap.size 3 1 (.slice (some ⟨b', 0, none⟩) 1 c') 1 [.int .i64 y] ∧ Below w.heap.size w W)
    ⟨blkUp (blkUp m3.out _) _, blkUp (blkUp m4.out _) _, blkUp (blkUp m5.out _) _, blkUp (blkUp m6.out _) _, blkUp (blkUp m7.out _) _, blkUp (blkA _ _ rfl) _, blkA _ _ (by simp), (hV.out.alloc _).alloc _, (hVb.out.alloc _).alloc _, (hB1.alloc hB1.size _).alloc (by simp; omega) _⟩ ?_
  clear hg1 hA hV hVb m3 m4 m5 m6 m7 q3 q5 l3 l4 l5 l6 l7 hB0 hB1
  rintro w2 ⟨n3, n4, n5, n6, n7, n8, n9, hV, hVb, hB2⟩
  have hz2 := hB2.size
  have l1 := blk_lt n8
  have hcv' := own_cap hV
  have hcb := own_cap hVb
  have vr := hV.cells rfl 0 _ rfl
  have br := hVb.cells rfl 0 _ rfl
  have vl := (hV.lt v' rfl).2
  have bl := (hVb.lt b' rfl).2
  clear hV hVb
  have mkS := Lib.hid (fun (W : World) (hW : Below w2.heap.size w2 W) => (show W.cell? ⟨w1.heap.size + 1, 0, none⟩ = some (.int .i64 2) ∧ W.cell? ⟨w1.heap.size + 1, 1, none⟩ = some (.slice (some ⟨x0, 0, none⟩) 1 ce) ∧ W.cell? ⟨w1.heap.size + 1, 2, none⟩ = some (.slice HH 0 hc) ∧ W.cell? ⟨w.heap.size + 1, 0, none⟩ = some (.slice (some ⟨a, 0, none⟩) 1 ca) ∧ W.cell? ⟨w.heap.size + 1 + 1, 0, none⟩ = some (.int .i64 0) ∧ W.cell? ⟨a, 0, none⟩ = some (.int .i64 0) ∧ Below w2.heap.size w2 W from
    ⟨(hW.cell (p := ⟨w1.heap.size + 1, 0, none⟩) (blk_lt n9)).trans (row_of n9 0), (hW.cell (p := ⟨w1.heap.size + 1, 1, none⟩) (blk_lt n9)).trans (row_of n9 1), (hW.cell (p := ⟨w1.heap.size + 1, 2, none⟩) (blk_lt n9)).trans (row_of n9 2), (hW.cell (p := ⟨w.heap.size + 1, 0, none⟩) (blk_lt n4)).trans (row_of n4 0), (hW.cell (p := ⟨w.heap.size + 1 + 1, 0, none⟩) (blk_lt n5)).trans (row_of n5 0), ((hB2.trans (hW.mono hz2)).cell (p := ⟨a, 0, none⟩) ha).trans r0, hW⟩))
  have outS := Lib.hid (fun (W : World) (hW : W.cell? ⟨w1.heap.size + 1, 0, none⟩ = some (.int .i64 2) ∧ W.cell? ⟨w1.heap.size + 1, 1, none⟩ = some (.slice (some ⟨x0, 0, none⟩) 1 ce) ∧ W.cell? ⟨w1.heap.size + 1, 2, none⟩ = some (.slice HH 0 hc) ∧ W.cell? ⟨w.heap.size + 1, 0, none⟩ = some (.slice (some ⟨a, 0, none⟩) 1 ca) ∧ W.cell? ⟨w.heap.size + 1 + 1, 0, none⟩ = some (.int .i64 0) ∧ W.cell? ⟨a, 0, none⟩ = some (.int .i64 0) ∧ Below w2.heap.size w2 W) => (out_one (HH := HH) (hc := hc) 2 x0 ce W hce (by have := hW.2.2.2.2.2.2.size; omega) (range_keep (hB2.trans (hW.2.2.2.2.2.2.mono hz2)) hx0 he.out)).mono (fun e w' h => OneOut.up hW.2.2.2.2.2.2 h))
  replace n3 := Lib.hid n3
  replace n4 := Lib.hid n4
  replace n5 := Lib.hid n5
  replace n6 := Lib.hid n6
  replace n7 := Lib.hid n7
  replace n8 := Lib.hid n8
  replace n9 := Lib.hid n9
  go_region_held3 (fun W => W.cell? ⟨w1.heap.size + 1, 0, none⟩ = some (.int .i64 2) ∧ W.cell? ⟨w1.heap.size + 1, 1, none⟩ = some (.slice (some ⟨x0, 0, none⟩) 1 ce) ∧ W.cell? ⟨w1.heap.size + 1, 2, none⟩ = some (.slice HH 0 hc) ∧ W.cell? ⟨w.heap.size + 1, 0, none⟩ = some (.slice (some ⟨a, 0, none⟩) 1 ca) ∧ W.cell? ⟨w.heap.size + 1 + 1, 0, none⟩ = some (.int .i64 0) ∧ W.cell? ⟨a, 0, none⟩ = some (.int .i64 0) ∧ Below w2.heap.size w2 W) (first | assumption | exact mkS.out _ (Below.refl _ _).drew | exact mkS.out _ hbO)
    (first | (go_at_call 48; refine (outS.out _ ?_).mono ?_; (focus assumption); rintro e wO ⟨o, co, rfl, hO, hbO⟩))
  clear mkS outS
  have hco := own_cap hO
  have go0 := hO.cells rfl 0 _ rfl
  have hol := (hO.lt o rfl).2
  have p3 := blk_keep hbO n3.out
  have p4 := blk_keep hbO n4.out
  have p5 := blk_keep hbO n5.out
  have p6 := blk_keep hbO n6.out
  have p7 := blk_keep hbO n7.out
  have p8 := blk_keep hbO n8.out
  have p9 := blk_keep hbO n9.out
  have hB3 : Below w.heap.size w wO := hB2.trans (hbO.mono hz2)
  have vr3 := (hbO.cell (p := ⟨v', 0, none⟩) vl).trans vr
  have br3 := (hbO.cell (p := ⟨b', 0, none⟩) bl).trans br
  have vl3 : v' < wO.heap.size := Nat.lt_of_lt_of_le vl hbO.size
  have bl3 : b' < wO.heap.size := Nat.lt_of_lt_of_le bl hbO.size
  have q3 := row_of p3
  have q5 := row_of p5
  have q8 := row_of p8
  have q9 := row_of p9
  have l3 := blk_lt p3
  have l5 := blk_lt p5
  have l8 := blk_lt p8
  have l9 := blk_lt p9
  replace p3 := Lib.hid p3
  replace p4 := Lib.hid p4
  replace p5 := Lib.hid p5
  replace p6 := Lib.hid p6
  replace p7 := Lib.hid p7
  replace p8 := Lib.hid p8
  replace p9 := Lib.hid p9
  clear hO hbO n3 n4 n5 n6 n7 n8 n9 vr br vl bl hB2
  go_upto_region 9 with fail
  refine wp_world (fun W => W.heap[w.heap.size + 2]? = some (.cells #[.int .i64 0, .bool false, .int .i64 0] 90 (0, 0)) ∧ W.heap[w.heap.size + 3]? = some (.cells #[.slice none 0 0, .slice none 0 0, .slice none 0 0, .slice none 0 0] 40 (0, 0)) ∧ W.heap[w.heap.size + 4]? = some (.cells #[.bool false, .int .i64 0, .int .i64 0, .int .i64 0] 86 (0, 0)) ∧
    W.heap[w1.heap.size]? = some (.cells #[.slice (some ⟨a', 0, none⟩) 1 ca', .slice (some ⟨v', 0, none⟩) 1 cv', .slice none 0 0, .slice none 0 0] 40 (0, 0)) ∧ W.heap[wO.heap.size]? = some (.cells #[.int .i64 0, .bool false, .int .i64 0, .slice none 0 0, .slice (some ⟨x0, 0, none⟩) 1 ce, .slice (some ⟨a', 0, none⟩) 1 ca', .slice (some ⟨v', 0, none⟩) 1 cv', .slice none 0 0, .slice none 0 0] 129 (0, 0)) ∧
    Below wO.heap.size wO W ∧ Below w.heap.size w W) ⟨blkUp p5.out _, blkUp p6.out _, blkUp p7.out _, blkUp p8.out _, blkA _ _ rfl, (Below.refl _ _).alloc (Nat.le_refl _) _, hB3.alloc hB3.size _⟩ ?_
  rintro w4 ⟨s5, s6, s7, s8, sm, hbw, hB4⟩
  have hz4 := hB4.size
  have lm := blk_lt sm
  have t0 := row_of sm 0
  have t4 := row_of sm 4
  have t6 := row_of sm 6
  have vr4 := (hbw.cell (p := ⟨v', 0, none⟩) vl3).trans vr3
  have go4 := (hbw.cell (p := ⟨o, 0, none⟩) hol).trans go0
  have vl4 : v' < w4.heap.size := Nat.lt_of_lt_of_le vl3 hbw.size
  have hok := Lib.hid (fun (W : World) (hW : Below w4.heap.size w4 W) => by
    have hh := hB4.trans (hW.mono hz4)
    have hvs : VarsAt W W.heap.size (some ⟨b', 0, none⟩) [y] := fun i u hi => by
      match i, hi with
      | 0, hi =>
        cases hi
        exact ⟨b', rfl, by have := hbw.size; have := hW.size; omega, ((hbw.trans (hW.mono hbw.size)).cell (p := ⟨b', 0, none⟩) bl3).trans br3⟩
      | i + 1, hi => simp at hi
    have := eval_any [y] (some ⟨b', 0, none⟩) 1 c' rfl hcb (by decide) d x _ W ((hx.out.below hh).mono hh.size) hvs
    rw [hev.out] at this
    exact this)
  replace s5 := Lib.hid s5
  replace s6 := Lib.hid s6
  replace s7 := Lib.hid s7
  replace s8 := Lib.hid s8
  clear q3 q5 q8 q9 p3 p4 p5 p6 p7 p8 p9 sm
  go_wp2_with fail
  refine (leave_err f hf wO.heap.size v' cv' b' c' o co x0 ce w4 hcv' hce lm vl4 (by omega) t0 t4 t6 vr4 go4 (range_keep hB4 hx0 he.out) hok.out).mono ?_
  rintro e w5 ⟨rfl, hb5⟩
  have hB5 : Below w.heap.size w w5 := hB4.trans (hb5.mono hz4)
  have u5 := blk_keep hb5 s5.out
  have u6 := blk_keep hb5 s6.out
  have u7 := blk_keep hb5 s7.out
  have u8 := blk_keep hb5 s8.out
  have y5 := row_of u5
  have y6 := row_of u6
  have y7 := row_of u7
  have y8 := row_of u8
  have f60 := frozen_of u6 0
  have f61 := frozen_of u6 1
  have f62 := frozen_of u6 2
  have f63 := frozen_of u6 3
  have f70 := frozen_of u7 0
  have f71 := frozen_of u7 1
  have f72 := frozen_of u7 2
  have f73 := frozen_of u7 3
  have l6 := blk_lt u6
  have l7 := blk_lt u7
  have hne : w.heap.size + 3 ≠ w1.heap.size := by omega
  replace u6 := Lib.hid u6
  replace u7 := Lib.hid u7
  clear u5 u8 hb5 s5 s6 s7 s8 t0 t4 t6 vr4 go4 hok
  go_wp2_with fail
  go_region
  all_goals
    go_wp2_with fail
    generalize hWF : World.drew _ = WF
    obtain ⟨c6, c7, hbF⟩ := put8 (n := w.heap.size + 1 + 1 + 1) (k := w.heap.size + 1 + 1 + 1 + 1) (by omega) u6.out u7.out _ _ _ _ _ _ _ _ hWF.symm
    clear hWF
    exact bodyPost_ret (v := .tuple #[.agg #[.slice (some ⟨a', 0, none⟩) 1 ca', .slice (some ⟨v', 0, none⟩) 1 cv', .slice none 0 0, .slice none 0 0], .agg #[.bool false, .int .i64 f, .int .i64 0, .int .i64 0]]) (by simp [results, Try.results38, go_sem, c6, c7]) rfl ⟨_, _, _, _, _, _, _, _, _, _, _, _, rfl, hB5.trans (hbF _ (by omega) (by omega))⟩
end Go.Proofs.Ytmcomhjfpegieaa

