/-
  flow.Out of a graph of one edge; step's mover at an assignment that errs.; conf.Copy of a configuration of one process with one variable, and of no channels.; step's mover at a node that one edge leaves: an assignment that errs.; flow's small tests of a graph without heads.; flow.loopsHaveHeads of the graph of one assignment.
-/
import Derived.Deep.RegionWith
import Derived.Test.YtdagadcflignfaaB22
import Derived.Test.YtdagadcflignfaaB23
import Derived.Deep.RegionHeld3
namespace Go.Proofs.Ytdagadcflignfaa
open Go.RowKit
variable {ek em ex : Int} {EA : Option Addr} {en ec : Nat}

theorem bel_drewN {B : Nat} {a w : World} (h : Below B a w) (n : Nat) : Below B a (w.drewN n) := ⟨h.os, h.tape, h.output, h.size, h.block⟩
set_option maxRecDepth 100000 in
set_option maxHeartbeats 2000000 in
theorem out_one {HH : Option Addr} {hc : Nat} (N : Int) (x0 ce : Nat) (w : World) (_hce : 1 ≤ ce) (h0 : x0 < w.heap.size) (he : w.rangeAt x0 0 [.int .i64 0, .int .i64 1, .int .i64 1, .int .i64 0, .int .i64 0, .int .i64 0, .int .i64 ek, .int .i64 em, .int .i64 ex, .slice EA en ec, .int .i64 0, .int .i64 0, .int .i64 0, .int .i64 0, .slice none 0 0, .int .i64 0, .int .i64 0, .int .i64 0, .slice none 0 0]) :
    Calls Try.prog 10 #[.agg #[.int .i64 N, .slice (some ⟨x0, 0, none⟩) 1 ce, .slice HH 0 hc], .int .i64 0] w (OneOut w 3 (.int .i64 0)) := by
  obtain ⟨ii, hii, iz0, iz1, iz2⟩ := info_parts info_int
  replace hii := Lib.hid hii
  replace he := Lib.hid he
  go_enter Try.func10, Try.ntmps10
  go_wp2_with fail
  refine wp_worldS (fun W => Below w.heap.size w W) ((Below.refl _ _).alloc (Nat.le_refl _) _) ?_
  intro w0 hB0
  have hz0 := hB0.size
  have he0 := Lib.hid (range_keep hB0 h0 he.out)
  refine wp_loop_rounds 2 ?_
  rw [rounds_succ]
  go_upto_region 5 with (first | (refine ld_mid 53 _ rfl _ _ rfl [.int .i64 0, .int .i64 1, .int .i64 1, .int .i64 0, .int .i64 0, .int .i64 0, .int .i64 ek, .int .i64 em, .int .i64 ex, .slice EA en ec, .int .i64 0, .int .i64 0, .int .i64 0, .int .i64 0, .slice none 0 0, .int .i64 0, .int .i64 0, .int .i64 0, .slice none 0 0] _ he0.out Try.underlying53 rfl info_edge rfl ?_) | (refine wpList_store_new rfl 53 _ _ rfl rfl _ _ _ _ rfl (by first | assumption | rfl | (simp; done) | (simp; omega)) rfl rfl info_edge rfl (by kernel_rfl) ?_))
  refine wp_worldS (fun W => W.heap[w0.heap.size]? = some (.cells #[.int .i64 0, .int .i64 1, .int .i64 1, .int .i64 0, .int .i64 0, .int .i64 0, .int .i64 ek, .int .i64 em, .int .i64 ex, .slice EA en ec, .int .i64 0, .int .i64 0, .int .i64 0, .int .i64 0, .slice none 0 0, .int .i64 0, .int .i64 0, .int .i64 0, .slice none 0 0] 53 (0, 0)) ∧ Below w.heap.size w W ∧ W.heap.size = w0.heap.size + 1) ⟨blkAS _ _ rfl, hB0.alloc hB0.size _, by simp⟩ ?_
  rintro w1 ⟨k1, hB1, hs1⟩
  have hz1 := hB1.size
  have hlt1 := blk_ltS k1
  clear hs1
  have r1 := row_ofS k1
  replace k1 := Lib.hid k1
  go_upto_region 7 with (refine wpList_append_lies _ rfl _ _ _ rfl w.heap.size 3 ii (.int .i64 0) 1 8 Try.underlying35 hii.out iz0 iz1 iz2 rfl ?c0 (.slice none 0 0) 0 [] rfl (World.ownsRow_nil _ _ _ _) ⟨w1.heap.size, 0, none⟩ 1 1 [.int .i64 0] rfl rfl (World.news_of_block (cs := #[.int .i64 0]) (t := 3) (fr := (0, 0)) (blkAS _ _ rfl)) ?c1 ?c2 ?c3 ?c4 (by simp; omega) (w1.heap.size + 1) (by simp) ?_)
  case c0 => decide
  case c1 => simp [Value.oneCell']
  case c2 => decide
  case c3 => unfold maxLen; decide
  case c4 => decide
  intro g2 cap2 w2 hown2 hgrow _ _
  have hb2 : Below w.heap.size w w2 := below_grown hgrow (hB1.alloc hB1.size _) (Nat.le_refl _) (fun b hb => by simp [Value.ownBlock] at hb)
  replace hown2 := Lib.hid hown2
  clear hgrow
  go_wp2_with fail
  rw [rounds_succ]
  go_wp2_with fail
  go_ret
  exact ⟨g2, cap2, rfl, hown2.out, hb2⟩

set_option maxRecDepth 100000 in
set_option maxHeartbeats 2000000 in
theorem vars_one (m v cv b c : Nat) (w : World) (_hcv : 1 ≤ cv) (h0 : w.cell? ⟨m, 0, none⟩ = some (.int .i64 0)) (h6 : w.cell? ⟨m, 6, none⟩ = some (.slice (some ⟨v, 0, none⟩) 1 cv)) (hv : w.cell? ⟨v, 0, none⟩ = some (.slice (some ⟨b, 0, none⟩) 1 c)) :
    Calls Try.prog 137 #[.pointer (some ⟨m, 0, none⟩)] w fun e w' => e = .returned (.slice (some ⟨b, 0, none⟩) 1 c) ∧ ∃ n, w' = w.drewN n := by
  go_enter Try.func137, Try.ntmps137
  go_wp2_with fail
  go_quiet (fail)
  go_wp2_with fail
  go_ret
  exact ⟨rfl, _, rfl⟩

set_option maxRecDepth 100000 in
set_option maxHeartbeats 4000000 in
theorem assign_err (f : Int) (hf : (f == 0) = false) (m v cv b c : Nat) (w : World) (hcv : 1 ≤ cv) (hm : m < w.heap.size) (hv0 : v < w.heap.size) (h0 : w.cell? ⟨m, 0, none⟩ = some (.int .i64 0)) (h6 : w.cell? ⟨m, 6, none⟩ = some (.slice (some ⟨v, 0, none⟩) 1 cv)) (hv : w.cell? ⟨v, 0, none⟩ = some (.slice (some ⟨b, 0, none⟩) 1 c))
    (hE : EvOk w (.agg #[.int .i64 ek, .int .i64 em, .int .i64 ex, .slice EA en ec]) (.slice (some ⟨b, 0, none⟩) 1 c) (0, f)) :
    Calls Try.prog 134 #[.pointer (some ⟨m, 0, none⟩), .agg #[.int .i64 0, .int .i64 1, .int .i64 1, .int .i64 0, .int .i64 0, .int .i64 0, .int .i64 ek, .int .i64 em, .int .i64 ex, .slice EA en ec, .int .i64 0, .int .i64 0, .int .i64 0, .int .i64 0, .slice none 0 0, .int .i64 0, .int .i64 0, .int .i64 0, .slice none 0 0]] w fun e w' => e = .returned (.int .i64 f) ∧ Below w.heap.size w w' := by
  replace hE := Lib.hid hE
  go_enter Try.func134, Try.ntmps134
  go_wp2_with fail
  refine wp_worldS (fun W => W.heap[w.heap.size]? = some (.cells #[.int .i64 0, .int .i64 1, .int .i64 1, .int .i64 0, .int .i64 0, .int .i64 0, .int .i64 ek, .int .i64 em, .int .i64 ex, .slice EA en ec, .int .i64 0, .int .i64 0, .int .i64 0, .int .i64 0, .slice none 0 0, .int .i64 0, .int .i64 0, .int .i64 0, .slice none 0 0] 53 (0, 0)) ∧ Below w.heap.size w W) ⟨blkAS _ _ rfl, (Below.refl _ _).alloc (Nat.le_refl _) _⟩ ?_
  rintro w0 ⟨k0, hB0⟩
  have r0 := row_ofS k0
  have g0 := (hB0.cell (p := ⟨m, 0, none⟩) hm).trans h0
  have g6 := (hB0.cell (p := ⟨m, 6, none⟩) hm).trans h6
  have gv := (hB0.cell (p := ⟨v, 0, none⟩) hv0).trans hv
  replace k0 := Lib.hid k0
  clear h0 h6 hv
  go_region_with (first
    | (go_at_call 137; refine (vars_one m v cv b c _ hcv (by simp [*]) (by simp [*]) (by simp [*])).mono ?_; rintro e wv ⟨rfl, nv, rfl⟩)
    | (go_at_call 15; refine (hE.out _ (bel_drewN hB0 _)).mono ?_; rintro e w2 ⟨rfl, hb2⟩))
  all_goals
    go_wp2_with fail
    exact bodyPost_ret (v := .int .i64 f) (by simp [results, Try.results134, go_sem]) rfl ⟨rfl, hB0.trans ((bel_drewN (Below.refl _ _) _).trans (hb2.mono (Nat.le_refl _)) |>.mono hB0.size)⟩
end Go.Proofs.Ytdagadcflignfaa
namespace Go.Proofs.Ytdagadcflignfaa
open Go.RowKit

/-- Such a configuration, all of its own from block B on. -/
def OneConf (B : Nat) (x y : Int) (v : Value) (w' : World) : Prop :=
  ∃ a ca v0 cv b c, v = .agg #[.slice (some ⟨a, 0, none⟩) 1 ca, .slice (some ⟨v0, 0, none⟩) 1 cv, .slice none 0 0, .slice none 0 0] ∧ w'.ownsRow B 3 1 (.slice (some ⟨a, 0, none⟩) 1 ca) 1 [.int .i64 x] ∧
    w'.ownsRow B 35 1 (.slice (some ⟨v0, 0, none⟩) 1 cv) 1 [.slice (some ⟨b, 0, none⟩) 1 c] ∧ w'.ownsRow B 3 1 (.slice (some ⟨b, 0, none⟩) 1 c) 1 [.int .i64 y]
def CopyOut (w : World) (x y : Int) (e : Ending) (w' : World) : Prop := ∃ v, e = .returned v ∧ OneConf w.heap.size x y v w' ∧ Below w.heap.size w w'
theorem keepC {a ca v cv cq cu b c : Nat} {x y : Int} {Q U : Option Addr} {w W W' : World} (ha : a < w.heap.size) (hv : v < w.heap.size) (hb : b < w.heap.size) (h : W.cell? ⟨w.heap.size, 0, none⟩ = some (.slice (some ⟨a, 0, none⟩) 1 ca) ∧ W.cell? ⟨w.heap.size, 1, none⟩ = some (.slice (some ⟨v, 0, none⟩) 1 cv) ∧ W.cell? ⟨w.heap.size, 2, none⟩ = some (.slice Q 0 cq) ∧ W.cell? ⟨w.heap.size, 3, none⟩ = some (.slice U 0 cu) ∧ W.cell? ⟨a, 0, none⟩ = some (.int .i64 x) ∧ W.cell? ⟨v, 0, none⟩ = some (.slice (some ⟨b, 0, none⟩) 1 c) ∧ W.cell? ⟨b, 0, none⟩ = some (.int .i64 y) ∧ Below w.heap.size w W ∧ w.heap.size + 2 ≤ W.heap.size) (hB : Below (w.heap.size + 1) W W') : W'.cell? ⟨w.heap.size, 0, none⟩ = some (.slice (some ⟨a, 0, none⟩) 1 ca) ∧ W'.cell? ⟨w.heap.size, 1, none⟩ = some (.slice (some ⟨v, 0, none⟩) 1 cv) ∧ W'.cell? ⟨w.heap.size, 2, none⟩ = some (.slice Q 0 cq) ∧ W'.cell? ⟨w.heap.size, 3, none⟩ = some (.slice U 0 cu) ∧ W'.cell? ⟨a, 0, none⟩ = some (.int .i64 x) ∧ W'.cell? ⟨v, 0, none⟩ = some (.slice (some ⟨b, 0, none⟩) 1 c) ∧ W'.cell? ⟨b, 0, none⟩ = some (.int .i64 y) ∧ Below w.heap.size w W' ∧ w.heap.size + 2 ≤ W'.heap.size := by
  obtain ⟨h0, h1, h2, h3, g0, g1, g2, hw, hz⟩ := h
  have l0 : w.heap.size < w.heap.size + 1 := by omega
  exact ⟨(hB.cell (p := ⟨w.heap.size, 0, none⟩) l0).trans h0, (hB.cell (p := ⟨w.heap.size, 1, none⟩) l0).trans h1, (hB.cell (p := ⟨w.heap.size, 2, none⟩) l0).trans h2, (hB.cell (p := ⟨w.heap.size, 3, none⟩) l0).trans h3,
    (hB.cell (p := ⟨a, 0, none⟩) (by show a < _; omega)).trans g0, (hB.cell (p := ⟨v, 0, none⟩) (by show v < _; omega)).trans g1, (hB.cell (p := ⟨b, 0, none⟩) (by show b < _; omega)).trans g2,
    hw.trans (hB.mono (by omega)), Nat.le_trans hz hB.size⟩
theorem keepD {a ca v cv cq cu b c : Nat} {x y : Int} {Q U : Option Addr} {w W W' : World} (ha : a < w.heap.size) (hv : v < w.heap.size) (hb : b < w.heap.size) (h : W.cell? ⟨w.heap.size, 0, none⟩ = some (.slice (some ⟨a, 0, none⟩) 1 ca) ∧ W.cell? ⟨w.heap.size, 1, none⟩ = some (.slice (some ⟨v, 0, none⟩) 1 cv) ∧ W.cell? ⟨w.heap.size, 2, none⟩ = some (.slice Q 0 cq) ∧ W.cell? ⟨w.heap.size, 3, none⟩ = some (.slice U 0 cu) ∧ W.cell? ⟨a, 0, none⟩ = some (.int .i64 x) ∧ W.cell? ⟨v, 0, none⟩ = some (.slice (some ⟨b, 0, none⟩) 1 c) ∧ W.cell? ⟨b, 0, none⟩ = some (.int .i64 y) ∧ Below w.heap.size w W ∧ w.heap.size + 2 ≤ W.heap.size) (hB : Below W.heap.size W W') : W'.cell? ⟨w.heap.size, 0, none⟩ = some (.slice (some ⟨a, 0, none⟩) 1 ca) ∧ W'.cell? ⟨w.heap.size, 1, none⟩ = some (.slice (some ⟨v, 0, none⟩) 1 cv) ∧ W'.cell? ⟨w.heap.size, 2, none⟩ = some (.slice Q 0 cq) ∧ W'.cell? ⟨w.heap.size, 3, none⟩ = some (.slice U 0 cu) ∧ W'.cell? ⟨a, 0, none⟩ = some (.int .i64 x) ∧ W'.cell? ⟨v, 0, none⟩ = some (.slice (some ⟨b, 0, none⟩) 1 c) ∧ W'.cell? ⟨b, 0, none⟩ = some (.int .i64 y) ∧ Below w.heap.size w W' ∧ w.heap.size + 2 ≤ W'.heap.size :=
  keepC ha hv hb h (hB.mono (by obtain ⟨_, _, _, _, _, _, _, _, hz⟩ := h; omega))
theorem set4 {n : Nat} (W : World) (v0 v1 v2 v3 : Value) : Below n W ((((W.setCell ⟨n, 0, none⟩ v0).setCell ⟨n, 1, none⟩ v1).setCell ⟨n, 2, none⟩ v2).setCell ⟨n, 3, none⟩ v3) :=
  (((Below.setCell (p := ⟨n, 0, none⟩) (Below.refl n W) (Nat.le_refl n) v0).setCell (p := ⟨n, 1, none⟩) (Nat.le_refl n) v1).setCell (p := ⟨n, 2, none⟩) (Nat.le_refl n) v2).setCell (p := ⟨n, 3, none⟩) (Nat.le_refl n) v3

/-- A block of a configuration that is nothing as yet. -/
def TF (n : Nat) (W : World) : Prop := W.cell? ⟨n, 0, none⟩ = some (.slice none 0 0) ∧ W.cell? ⟨n, 1, none⟩ = some (.slice none 0 0) ∧ W.cell? ⟨n, 2, none⟩ = some (.slice none 0 0) ∧ W.cell? ⟨n, 3, none⟩ = some (.slice none 0 0) ∧ W.frozen? ⟨n, 0, none⟩ = false ∧ W.frozen? ⟨n, 1, none⟩ = false ∧ W.frozen? ⟨n, 2, none⟩ = false ∧ W.frozen? ⟨n, 3, none⟩ = false
theorem TF.keep {n : Nat} {W W' : World} (h : TF n W) (hn : n < W.heap.size) (hB : Below W.heap.size W W') : TF n W' := by
  obtain ⟨h0, h1, h2, h3, f0, f1, f2, f3⟩ := h
  exact ⟨(hB.cell (p := ⟨n, 0, none⟩) hn).trans h0, (hB.cell (p := ⟨n, 1, none⟩) hn).trans h1, (hB.cell (p := ⟨n, 2, none⟩) hn).trans h2, (hB.cell (p := ⟨n, 3, none⟩) hn).trans h3, (hB.frozen (p := ⟨n, 0, none⟩) hn).trans f0, (hB.frozen (p := ⟨n, 1, none⟩) hn).trans f1, (hB.frozen (p := ⟨n, 2, none⟩) hn).trans f2, (hB.frozen (p := ⟨n, 3, none⟩) hn).trans f3⟩
theorem TF.mk {n : Nat} {W : World} {t : TypeId} (h : W.heap[n]? = some (.cells #[.slice none 0 0, .slice none 0 0, .slice none 0 0, .slice none 0 0] t (0, 0))) : TF n W :=
  ⟨row_ofS h 0, row_ofS h 1, row_ofS h 2, row_ofS h 3, frozen_ofS h 0, frozen_ofS h 1, frozen_ofS h 2, frozen_ofS h 3⟩

theorem atC {a ca v cv cq cu b c : Nat} {x y : Int} {Q U : Option Addr} {w W : World} (ha : a < w.heap.size) (h : W.cell? ⟨w.heap.size, 0, none⟩ = some (.slice (some ⟨a, 0, none⟩) 1 ca) ∧ W.cell? ⟨w.heap.size, 1, none⟩ = some (.slice (some ⟨v, 0, none⟩) 1 cv) ∧ W.cell? ⟨w.heap.size, 2, none⟩ = some (.slice Q 0 cq) ∧ W.cell? ⟨w.heap.size, 3, none⟩ = some (.slice U 0 cu) ∧ W.cell? ⟨a, 0, none⟩ = some (.int .i64 x) ∧ W.cell? ⟨v, 0, none⟩ = some (.slice (some ⟨b, 0, none⟩) 1 c) ∧ W.cell? ⟨b, 0, none⟩ = some (.int .i64 y) ∧ Below w.heap.size w W ∧ w.heap.size + 2 ≤ W.heap.size) :
    Calls Try.prog 69 #[.slice (some ⟨a, 0, none⟩) 1 ca] W (OneOut W 3 (.int .i64 x)) := by
  obtain ⟨h0, h1, h2, h3, g0, g1, g2, hw, hz⟩ := h
  exact copyInt_one a ca x W (by omega) g0
theorem varsC {a ca v cv cq cu b c : Nat} {x y : Int} {Q U : Option Addr} {w W : World} (hcv : 1 ≤ cv) (hv : v < w.heap.size) (hb : b < w.heap.size) (h : W.cell? ⟨w.heap.size, 0, none⟩ = some (.slice (some ⟨a, 0, none⟩) 1 ca) ∧ W.cell? ⟨w.heap.size, 1, none⟩ = some (.slice (some ⟨v, 0, none⟩) 1 cv) ∧ W.cell? ⟨w.heap.size, 2, none⟩ = some (.slice Q 0 cq) ∧ W.cell? ⟨w.heap.size, 3, none⟩ = some (.slice U 0 cu) ∧ W.cell? ⟨a, 0, none⟩ = some (.int .i64 x) ∧ W.cell? ⟨v, 0, none⟩ = some (.slice (some ⟨b, 0, none⟩) 1 c) ∧ W.cell? ⟨b, 0, none⟩ = some (.int .i64 y) ∧ Below w.heap.size w W ∧ w.heap.size + 2 ≤ W.heap.size) :
    Calls Try.prog 132 #[.slice (some ⟨v, 0, none⟩) 1 cv] W (OneList W y) := by
  obtain ⟨h0, h1, h2, h3, g0, g1, g2, hw, hz⟩ := h
  exact copyInts_one v cv b c y W hcv (by omega) (by omega) g1 g2

theorem own_keep {w w' : World} {b : Nat} {e : TypeId} {size n : Nat} {v : Value} {xs : List Value} (h : w.ownsRow b e size v n xs) (hb : Below w.heap.size w w') : w'.ownsRow b e size v n xs := by
  refine ⟨h.1, ?_⟩
  rcases h.2 with h0 | ⟨g, cap, cur, rfl, hg, h1, h2⟩
  · exact .inl h0
  · exact .inr ⟨g, cap, cur, rfl, hg, blk_keepS hb h1, h2⟩
theorem finAV {gA cA gV cV gB cB : Nat} {x y : Int} {w W0 W1 W2 : World} (hw : Below w.heap.size w W0) (hz : w.heap.size + 2 ≤ W0.heap.size) (hA : W1.ownsRow W0.heap.size 3 1 (.slice (some ⟨gA, 0, none⟩) 1 cA) 1 [.int .i64 x]) (h1 : Below W0.heap.size W0 W1) (hV : W2.ownsRow W1.heap.size 35 1 (.slice (some ⟨gV, 0, none⟩) 1 cV) 1 [.slice (some ⟨gB, 0, none⟩) 1 cB]) (hVb : W2.ownsRow W1.heap.size 3 1 (.slice (some ⟨gB, 0, none⟩) 1 cB) 1 [.int .i64 y]) (h2 : Below W1.heap.size W1 W2)
    (u0 u1 u2 u3 : Value) : OneConf w.heap.size x y (.agg #[.slice (some ⟨gA, 0, none⟩) 1 cA, .slice (some ⟨gV, 0, none⟩) 1 cV, .slice none 0 0, .slice none 0 0]) ((((W2.setCell ⟨w.heap.size + 1, 0, none⟩ u0).setCell ⟨w.heap.size + 1, 1, none⟩ u1).setCell ⟨w.heap.size + 1, 2, none⟩ u2).setCell ⟨w.heap.size + 1, 3, none⟩ u3) ∧
      Below w.heap.size w ((((W2.setCell ⟨w.heap.size + 1, 0, none⟩ u0).setCell ⟨w.heap.size + 1, 1, none⟩ u1).setCell ⟨w.heap.size + 1, 2, none⟩ u2).setCell ⟨w.heap.size + 1, 3, none⟩ u3) := by
  have z1 := h1.size
  refine ⟨⟨gA, cA, gV, cV, gB, cB, rfl, ?_, ?_, ?_⟩, ?_⟩
  · exact own_base (own_set (own_set (own_set (own_set (own_keep hA h2) (by omega)) (by omega)) (by omega)) (by omega)) (by omega)
  · exact own_base (own_set (own_set (own_set (own_set (id hV) (by omega)) (by omega)) (by omega)) (by omega)) (by omega)
  · exact own_base (own_set (own_set (own_set (own_set (id hVb) (by omega)) (by omega)) (by omega)) (by omega)) (by omega)
  · exact ((hw.trans (h1.mono (by omega))).trans (h2.mono (by omega))).trans ((set4 W2 u0 u1 u2 u3).mono (by omega))
theorem finVA {gA cA gV cV gB cB : Nat} {x y : Int} {w W0 W1 W2 : World} (hw : Below w.heap.size w W0) (hz : w.heap.size + 2 ≤ W0.heap.size) (hV : W1.ownsRow W0.heap.size 35 1 (.slice (some ⟨gV, 0, none⟩) 1 cV) 1 [.slice (some ⟨gB, 0, none⟩) 1 cB]) (hVb : W1.ownsRow W0.heap.size 3 1 (.slice (some ⟨gB, 0, none⟩) 1 cB) 1 [.int .i64 y]) (h1 : Below W0.heap.size W0 W1) (hA : W2.ownsRow W1.heap.size 3 1 (.slice (some ⟨gA, 0, none⟩) 1 cA) 1 [.int .i64 x]) (h2 : Below W1.heap.size W1 W2)
    (u0 u1 u2 u3 : Value) : OneConf w.heap.size x y (.agg #[.slice (some ⟨gA, 0, none⟩) 1 cA, .slice (some ⟨gV, 0, none⟩) 1 cV, .slice none 0 0, .slice none 0 0]) ((((W2.setCell ⟨w.heap.size + 1, 0, none⟩ u0).setCell ⟨w.heap.size + 1, 1, none⟩ u1).setCell ⟨w.heap.size + 1, 2, none⟩ u2).setCell ⟨w.heap.size + 1, 3, none⟩ u3) ∧
      Below w.heap.size w ((((W2.setCell ⟨w.heap.size + 1, 0, none⟩ u0).setCell ⟨w.heap.size + 1, 1, none⟩ u1).setCell ⟨w.heap.size + 1, 2, none⟩ u2).setCell ⟨w.heap.size + 1, 3, none⟩ u3) := by
  have z1 := h1.size
  refine ⟨⟨gA, cA, gV, cV, gB, cB, rfl, ?_, ?_, ?_⟩, ?_⟩
  · exact own_base (own_set (own_set (own_set (own_set (hA) (by omega)) (by omega)) (by omega)) (by omega)) (by omega)
  · exact own_base (own_set (own_set (own_set (own_set ((fun h => own_keep h h2) hV) (by omega)) (by omega)) (by omega)) (by omega)) (by omega)
  · exact own_base (own_set (own_set (own_set (own_set ((fun h => own_keep h h2) hVb) (by omega)) (by omega)) (by omega)) (by omega)) (by omega)
  · exact ((hw.trans (h1.mono (by omega))).trans (h2.mono (by omega))).trans ((set4 W2 u0 u1 u2 u3).mono (by omega))
set_option maxRecDepth 100000 in
set_option maxHeartbeats 4000000 in
theorem copy_one (a ca v cv cq cu b c : Nat) (x y : Int) (Q U : Option Addr) (w : World) (hcv : 1 ≤ cv) (ha : a < w.heap.size) (hv : v < w.heap.size) (hb : b < w.heap.size)
    (r0 : w.cell? ⟨a, 0, none⟩ = some (.int .i64 x)) (r1 : w.cell? ⟨v, 0, none⟩ = some (.slice (some ⟨b, 0, none⟩) 1 c)) (r2 : w.cell? ⟨b, 0, none⟩ = some (.int .i64 y)) :
    Calls Try.prog 96 #[.agg #[.slice (some ⟨a, 0, none⟩) 1 ca, .slice (some ⟨v, 0, none⟩) 1 cv, .slice Q 0 cq, .slice U 0 cu]] w (CopyOut w x y) := by
  go_enter Try.func96, Try.ntmps96
  go_wp2_with fail
  refine wp_worldS (fun W => (W.cell? ⟨w.heap.size, 0, none⟩ = some (.slice (some ⟨a, 0, none⟩) 1 ca) ∧ W.cell? ⟨w.heap.size, 1, none⟩ = some (.slice (some ⟨v, 0, none⟩) 1 cv) ∧ W.cell? ⟨w.heap.size, 2, none⟩ = some (.slice Q 0 cq) ∧ W.cell? ⟨w.heap.size, 3, none⟩ = some (.slice U 0 cu) ∧ W.cell? ⟨a, 0, none⟩ = some (.int .i64 x) ∧ W.cell? ⟨v, 0, none⟩ = some (.slice (some ⟨b, 0, none⟩) 1 c) ∧ W.cell? ⟨b, 0, none⟩ = some (.int .i64 y) ∧ Below w.heap.size w W ∧ w.heap.size + 2 ≤ W.heap.size) ∧ TF (w.heap.size + 1) W) ⟨⟨row_ofS (blkUpS (blkAS _ _ rfl) _) 0, row_ofS (blkUpS (blkAS _ _ rfl) _) 1, row_ofS (blkUpS (blkAS _ _ rfl) _) 2, row_ofS (blkUpS (blkAS _ _ rfl) _) 3, ?_, ?_, ?_, ((Below.refl _ _).alloc (Nat.le_refl _) _).alloc (by simp) _, by simp⟩, TF.mk (blkAS _ _ (by simp))⟩ ?_
  · exact ((((Below.refl _ _).alloc (Nat.le_refl _) _).alloc (by simp) _).cell (p := ⟨a, 0, none⟩) ha).trans r0
  · exact ((((Below.refl _ _).alloc (Nat.le_refl _) _).alloc (by simp) _).cell (p := ⟨v, 0, none⟩) hv).trans r1
  · exact ((((Below.refl _ _).alloc (Nat.le_refl _) _).alloc (by simp) _).cell (p := ⟨b, 0, none⟩) hb).trans r2
  rintro w1 ⟨hS, t⟩
  replace t : TF (w.heap.size + 1) w1.drew := t
  have hS' := hS
  obtain ⟨q0, q1, q2, q3, g0, g1, g2, hw1, hz1⟩ := hS
  have la : a < w1.heap.size := by omega
  have lv : v < w1.heap.size := by omega
  have lb : b < w1.heap.size := by omega
  clear r0 r1 r2
  go_region_held3 (fun W => W.cell? ⟨w.heap.size, 0, none⟩ = some (.slice (some ⟨a, 0, none⟩) 1 ca) ∧ W.cell? ⟨w.heap.size, 1, none⟩ = some (.slice (some ⟨v, 0, none⟩) 1 cv) ∧ W.cell? ⟨w.heap.size, 2, none⟩ = some (.slice Q 0 cq) ∧ W.cell? ⟨w.heap.size, 3, none⟩ = some (.slice U 0 cu) ∧ W.cell? ⟨a, 0, none⟩ = some (.int .i64 x) ∧ W.cell? ⟨v, 0, none⟩ = some (.slice (some ⟨b, 0, none⟩) 1 c) ∧ W.cell? ⟨b, 0, none⟩ = some (.int .i64 y) ∧ Below w.heap.size w W ∧ w.heap.size + 2 ≤ W.heap.size) (first | assumption | ((with_reducible refine keepC ha hv hb hS' ?_); exact (Below.refl _ _).drew) | ((with_reducible refine keepC ha hv hb ?_ (set4 _ _ _ _ _)); assumption) | ((with_reducible refine keepD ha hv hb ?_ hbS); assumption))
    (first
      | (go_at_call 69; refine (copyInt_none U cu _).mono ?_; rintro e wn ⟨rfl, rfl⟩)
      | (go_at_call 133; refine (copyMsgs_none Q cq _).mono ?_; rintro e wn ⟨rfl, rfl⟩)
      | (go_at_call 69; refine (atC (a := a) (ca := ca) (v := v) (cv := cv) (cq := cq) (cu := cu) (b := b) (c := c) (x := x) (y := y) (Q := Q) (U := U) (w := w) ha ?_).mono ?_; (focus assumption); rintro e wA ⟨gA, cA, rfl, hA, hbA⟩; have hbS := hbA; replace t := t.keep (by omega) hbS; have t' := t; obtain ⟨t0, t1, t2, t3, f0, f1, f2, f3⟩ := t')
      | (go_at_call 132; refine (varsC (a := a) (ca := ca) (v := v) (cv := cv) (cq := cq) (cu := cu) (b := b) (c := c) (x := x) (y := y) (Q := Q) (U := U) (w := w) hcv hv hb ?_).mono ?_; (focus assumption); rintro e wV ⟨gV, cV, gB, cB, rfl, hV, hVb, hbV⟩; have hbS := hbV; replace t := t.keep (by omega) hbS; have t' := t; obtain ⟨t0, t1, t2, t3, f0, f1, f2, f3⟩ := t'))
  all_goals
    first
      | (have hf := finAV hw1.drew hz1 hA hbA hV hVb hbV (.slice (some ⟨gA, 0, none⟩) 1 cA) (.slice (some ⟨gV, 0, none⟩) 1 cV) (.slice none 0 0) (.slice none 0 0))
      | (have hf := finVA hw1.drew hz1 hV hVb hbV hA hbA (.slice (some ⟨gA, 0, none⟩) 1 cA) (.slice (some ⟨gV, 0, none⟩) 1 cV) (.slice none 0 0) (.slice none 0 0))
    replace hf := Lib.hid hf
    clear hA hV hVb hbA hbV
    go_wp2_with fail
    exact bodyPost_ret (v := .agg #[.slice (some ⟨gA, 0, none⟩) 1 cA, .slice (some ⟨gV, 0, none⟩) 1 cV, .slice none 0 0, .slice none 0 0]) (by simp [results, Try.results96, go_sem, *]) rfl ⟨_, rfl, hf.out.1, hf.out.2⟩
end Go.Proofs.Ytdagadcflignfaa
namespace Go.Proofs.Ytdagadcflignfaa
open Go.RowKit
variable {ek em ex : Int} {EA : Option Addr} {en ec : Nat}

set_option maxRecDepth 100000 in
set_option maxHeartbeats 4000000 in
theorem leave_err (f : Int) (hf : (f == 0) = false) (m v cv b c o co x0 ce : Nat) (w : World) (hcv : 1 ≤ cv) (_hce : 1 ≤ ce) (hm : m < w.heap.size) (hv0 : v < w.heap.size) (_hx0 : x0 < w.heap.size)
    (h0 : w.cell? ⟨m, 0, none⟩ = some (.int .i64 0)) (h4 : w.cell? ⟨m, 4, none⟩ = some (.slice (some ⟨x0, 0, none⟩) 1 ce)) (h6 : w.cell? ⟨m, 6, none⟩ = some (.slice (some ⟨v, 0, none⟩) 1 cv)) (hv : w.cell? ⟨v, 0, none⟩ = some (.slice (some ⟨b, 0, none⟩) 1 c))
    (ho : w.cell? ⟨o, 0, none⟩ = some (.int .i64 0)) (he : w.rangeAt x0 0 [.int .i64 0, .int .i64 1, .int .i64 1, .int .i64 0, .int .i64 0, .int .i64 0, .int .i64 ek, .int .i64 em, .int .i64 ex, .slice EA en ec, .int .i64 0, .int .i64 0, .int .i64 0, .int .i64 0, .slice none 0 0, .int .i64 0, .int .i64 0, .int .i64 0, .slice none 0 0]) (hE : EvOk w (.agg #[.int .i64 ek, .int .i64 em, .int .i64 ex, .slice EA en ec]) (.slice (some ⟨b, 0, none⟩) 1 c) (0, f)) :
    Calls Try.prog 97 #[.pointer (some ⟨m, 0, none⟩), .slice (some ⟨o, 0, none⟩) 1 co] w fun e w' => e = .returned (.tuple #[.int .i64 0, .int .i64 f]) ∧ Below w.heap.size w w' := by
  replace hE := Lib.hid hE
  replace he := Lib.hid he
  go_enter Try.func97, Try.ntmps97
  go_upto_region 3 with (first | (refine ld_mid 53 _ rfl _ _ rfl [.int .i64 0, .int .i64 1, .int .i64 1, .int .i64 0, .int .i64 0, .int .i64 0, .int .i64 ek, .int .i64 em, .int .i64 ex, .slice EA en ec, .int .i64 0, .int .i64 0, .int .i64 0, .int .i64 0, .slice none 0 0, .int .i64 0, .int .i64 0, .int .i64 0, .slice none 0 0] _ he.out Try.underlying53 rfl info_edge rfl ?_) | (refine wpList_store_new rfl 53 _ _ rfl rfl _ _ _ _ rfl (by first | assumption | rfl | (simp; done) | (simp; omega)) rfl rfl info_edge rfl (by kernel_rfl) ?_))
  refine wp_worldS (fun W => W.heap[w.heap.size]? = some (.cells #[.int .i64 0, .int .i64 1, .int .i64 1, .int .i64 0, .int .i64 0, .int .i64 0, .int .i64 ek, .int .i64 em, .int .i64 ex, .slice EA en ec, .int .i64 0, .int .i64 0, .int .i64 0, .int .i64 0, .slice none 0 0, .int .i64 0, .int .i64 0, .int .i64 0, .slice none 0 0] 53 (0, 0)) ∧ Below w.heap.size w W) ⟨blkAS _ _ rfl, (Below.refl _ _).alloc (Nat.le_refl _) _⟩ ?_
  rintro w0 ⟨k0, hB0⟩
  have hz0 := hB0.size
  have r0 := row_ofS k0
  have g0 := (hB0.cell (p := ⟨m, 0, none⟩) hm).trans h0
  have g6 := (hB0.cell (p := ⟨m, 6, none⟩) hm).trans h6
  have gv := (hB0.cell (p := ⟨v, 0, none⟩) hv0).trans hv
  replace k0 := Lib.hid k0
  clear h0 h4 h6 hv ho
  go_wp2_with (refine ld_row 53 _ rfl _ rfl _ _ _ _ k0.out Try.underlying53 rfl info_edge rfl ?_)
  refine (assign_err f hf m v cv b c _ hcv (by omega) (by omega) g0 g6 gv (fun W hW => hE.out W (hB0.trans (hW.mono hB0.size)))).mono ?_
  rintro e w1 ⟨rfl, hb1⟩
  have hB1 := hB0.trans (hb1.mono hB0.size)
  go_wp2_with fail
  exact bodyPost_ret (v := .tuple #[.int .i64 0, .int .i64 f]) (by simp [results, Try.results97, go_sem]) rfl ⟨rfl, hB1⟩

theorem put8 {W WF : World} {n k : Nat} {t u : TypeId} {z0 z1 z2 z3 d0 d1 d2 d3 : Value} (hne : n ≠ k) (h : W.heap[n]? = some (.cells #[z0, z1, z2, z3] t (0, 0))) (g : W.heap[k]? = some (.cells #[d0, d1, d2, d3] u (0, 0))) (v0 v1 v2 v3 e0 e1 e2 e3 : Value)
    (hW : WF = ((((((((W.setCell ⟨n, 0, none⟩ v0).setCell ⟨n, 1, none⟩ v1).setCell ⟨n, 2, none⟩ v2).setCell ⟨n, 3, none⟩ v3).setCell ⟨k, 0, none⟩ e0).setCell ⟨k, 1, none⟩ e1).setCell ⟨k, 2, none⟩ e2).setCell ⟨k, 3, none⟩ e3).drew) :
    (∀ o, WF.cell? ⟨n, o, none⟩ = (#[v0, v1, v2, v3] : Array Value)[o]?) ∧ (∀ o, WF.cell? ⟨k, o, none⟩ = (#[e0, e1, e2, e3] : Array Value)[o]?) ∧ (∀ B, B ≤ n → B ≤ k → Below B W WF) := by
  have h4 := set4 (n := n) W v0 v1 v2 v3
  have h8 := set4 (n := k) ((((W.setCell ⟨n, 0, none⟩ v0).setCell ⟨n, 1, none⟩ v1).setCell ⟨n, 2, none⟩ v2).setCell ⟨n, 3, none⟩ v3) e0 e1 e2 e3
  have hk : ((((W.setCell ⟨n, 0, none⟩ v0).setCell ⟨n, 1, none⟩ v1).setCell ⟨n, 2, none⟩ v2).setCell ⟨n, 3, none⟩ v3).heap[n]? = some (.cells #[v0, v1, v2, v3] t (0, 0)) := by simp [World.setCell, Array.getElem?_modify, h]
  have gk : ((((W.setCell ⟨n, 0, none⟩ v0).setCell ⟨n, 1, none⟩ v1).setCell ⟨n, 2, none⟩ v2).setCell ⟨n, 3, none⟩ v3).heap[k]? = some (.cells #[d0, d1, d2, d3] u (0, 0)) := by simp [World.setCell, Array.getElem?_modify, g, hne]
  generalize ((((W.setCell ⟨n, 0, none⟩ v0).setCell ⟨n, 1, none⟩ v1).setCell ⟨n, 2, none⟩ v2).setCell ⟨n, 3, none⟩ v3) = W4 at *
  have hk8 : ((((W4.setCell ⟨k, 0, none⟩ e0).setCell ⟨k, 1, none⟩ e1).setCell ⟨k, 2, none⟩ e2).setCell ⟨k, 3, none⟩ e3).heap[n]? = some (.cells #[v0, v1, v2, v3] t (0, 0)) := by simp [World.setCell, Array.getElem?_modify, hk, Ne.symm hne]
  have gk8 : ((((W4.setCell ⟨k, 0, none⟩ e0).setCell ⟨k, 1, none⟩ e1).setCell ⟨k, 2, none⟩ e2).setCell ⟨k, 3, none⟩ e3).heap[k]? = some (.cells #[e0, e1, e2, e3] u (0, 0)) := by simp [World.setCell, Array.getElem?_modify, gk]
  generalize ((((W4.setCell ⟨k, 0, none⟩ e0).setCell ⟨k, 1, none⟩ e1).setCell ⟨k, 2, none⟩ e2).setCell ⟨k, 3, none⟩ e3) = W8 at *
  subst hW
  exact ⟨row_ofS (W := W8.drew) hk8, row_ofS (W := W8.drew) gk8, fun B h1 h2 => ((h4.mono h1).trans (h8.mono h2)).drew⟩
/-- Before and behind a call of Out. -/
theorem OneOut.up {w2 W w' : World} {t : TypeId} {x : Value} {e : Ending} (hB : Below w2.heap.size w2 W) (h : OneOut W t x e w') : OneOut w2 t x e w' := by
  obtain ⟨g, cap, he, ho, hb⟩ := h
  exact ⟨g, cap, he, own_base ho hB.size, hB.trans (hb.mono hB.size)⟩
def MoveErr (w : World) (f : Int) (e : Ending) (w' : World) : Prop := ∃ (A0 A1 A2 A3 : Option Addr) (i0 j0 i1 j1 i2 j2 i3 j3 : Nat), e = .returned (.tuple #[.agg #[.slice A0 i0 j0, .slice A1 i1 j1, .slice A2 i2 j2, .slice A3 i3 j3], .agg #[.bool false, .int .i64 f, .int .i64 0, .int .i64 0]]) ∧ Below w.heap.size w w'
theorem info_conf : (Try.prog.info? 57).map (·.size) = some 4 := by kernel_rfl
set_option maxRecDepth 100000 in
set_option maxHeartbeats 8000000 in
theorem move_err (d : Nat) (x : Ex) (f : Int) (hf : (f == 0) = false) (a ca v cv cq cu b c G cg V cgv x0 ce : Nat) (y : Int) (Q U HH : Option Addr) (hc : Nat) (w : World) (hcv : 1 ≤ cv) (_hca : 1 ≤ ca) (_hcg : 1 ≤ cg) (hce : 1 ≤ ce) (ha : a < w.heap.size) (hv : v < w.heap.size) (hb : b < w.heap.size) (hG : G < w.heap.size) (hx0 : x0 < w.heap.size)
    (r0 : w.cell? ⟨a, 0, none⟩ = some (.int .i64 0)) (r1 : w.cell? ⟨v, 0, none⟩ = some (.slice (some ⟨b, 0, none⟩) 1 c)) (r2 : w.cell? ⟨b, 0, none⟩ = some (.int .i64 y)) (hg : w.rangeAt G 0 [.int .i64 2, .slice (some ⟨x0, 0, none⟩) 1 ce, .slice HH 0 hc]) (he : w.rangeAt x0 0 [.int .i64 0, .int .i64 1, .int .i64 1, .int .i64 0, .int .i64 0, .int .i64 0, .int .i64 ek, .int .i64 em, .int .i64 ex, .slice EA en ec, .int .i64 0, .int .i64 0, .int .i64 0, .int .i64 0, .slice none 0 0, .int .i64 0, .int .i64 0, .int .i64 0, .slice none 0 0])
    (hx : ExIn w w.heap.size d x (.agg #[.int .i64 ek, .int .i64 em, .int .i64 ex, .slice EA en ec])) (hev : evF [y] d x = (0, f)) :
    Calls Try.prog 76 #[.agg #[.slice none 0 0, .slice (some ⟨G, 0, none⟩) 1 cg, .slice (some ⟨V, 0, none⟩) 1 cgv], .agg #[.slice (some ⟨a, 0, none⟩) 1 ca, .slice (some ⟨v, 0, none⟩) 1 cv, .slice Q 0 cq, .slice U 0 cu], .agg #[.int .i64 0, .bool false, .int .i64 0]] w (MoveErr w f) := by
  replace he := Lib.hid he
  replace hg := Lib.hid hg
  replace hx := Lib.hid hx
  replace hev := Lib.hid hev
  go_enter Try.func76, Try.ntmps76
  go_upto_region 1 with fail
  refine wp_worldS (fun W => W.heap[w.heap.size]? = some (.cells #[.slice none 0 0, .slice (some ⟨G, 0, none⟩) 1 cg, .slice (some ⟨V, 0, none⟩) 1 cgv] 37 (0, 0)) ∧ W.heap[w.heap.size + 1]? = some (.cells #[.slice (some ⟨a, 0, none⟩) 1 ca, .slice (some ⟨v, 0, none⟩) 1 cv, .slice Q 0 cq, .slice U 0 cu] 57 (0, 0)) ∧ W.heap[w.heap.size + 2]? = some (.cells #[.int .i64 0, .bool false, .int .i64 0] 129 (0, 0)) ∧ W.heap[w.heap.size + 3]? = some (.cells #[.slice none 0 0, .slice none 0 0, .slice none 0 0, .slice none 0 0] 57 (0, 0)) ∧ W.heap[w.heap.size + 4]? = some (.cells #[.bool false, .int .i64 0, .int .i64 0, .int .i64 0] 125 (0, 0)) ∧ Below w.heap.size w W ∧ w.heap.size + 5 ≤ W.heap.size) ⟨blkUpS (blkUpS (blkUpS (blkUpS (blkAS _ _ (by first | rfl | (simp; done))) _) _) _) _, blkUpS (blkUpS (blkUpS (blkAS _ _ (by first | rfl | (simp; done))) _) _) _, blkUpS (blkUpS (blkAS _ _ (by first | rfl | (simp; done))) _) _, blkUpS (blkAS _ _ (by first | rfl | (simp; done))) _, blkAS _ _ (by first | rfl | (simp; done)), ((((((Below.refl _ _).alloc (Nat.le_refl _) _).alloc (by simp) _).alloc (by simp; omega) _).alloc (by simp; omega) _).alloc (by simp; omega) _), by simp⟩ ?_
  rintro w0 ⟨k3, k4, k5, k6, k7, hB0, hz0⟩
  have q4 := row_ofS k4
  replace k3 := Lib.hid k3
  replace k4 := Lib.hid k4
  replace k5 := Lib.hid k5
  replace k6 := Lib.hid k6
  replace k7 := Lib.hid k7
  go_wp2_with fail
  refine (copy_one a ca v cv cq cu b c 0 y Q U _ hcv (by omega) (by omega) (by omega) ((hB0.cell (p := ⟨a, 0, none⟩) ha).trans r0) ((hB0.cell (p := ⟨v, 0, none⟩) hv).trans r1) ((hB0.cell (p := ⟨b, 0, none⟩) hb).trans r2)).mono ?_
  rintro e w1 ⟨_, rfl, ⟨a', ca', v', cv', b', c', rfl, hA, hV, hVb⟩, hb1⟩
  have hz1 := hb1.size
  have hB1 : Below w.heap.size w w1 := hB0.trans (hb1.mono hB0.size)
  have m3 := blk_keepS hb1 k3.out
  have m4 := blk_keepS hb1 k4.out
  have m5 := blk_keepS hb1 k5.out
  have m6 := blk_keepS hb1 k6.out
  have m7 := blk_keepS hb1 k7.out
  have q3 := row_ofS m3
  have q5 := row_ofS m5
  have l3 := blk_ltS m3
  have l4 := blk_ltS m4
  have l5 := blk_ltS m5
  have l6 := blk_ltS m6
  have l7 := blk_ltS m7
  replace m3 := Lib.hid m3
  replace m4 := Lib.hid m4
  replace m5 := Lib.hid m5
  replace m6 := Lib.hid m6
  replace m7 := Lib.hid m7
  replace hA := Lib.hid hA
  replace hV := Lib.hid hV
  replace hVb := Lib.hid hVb
  have hg1 := Lib.hid (range_keep (hB1.alloc hB1.size (.cells #[.slice (some ⟨a', 0, none⟩) 1 ca', .slice (some ⟨v', 0, none⟩) 1 cv', .slice none 0 0, .slice none 0 0] 57)) hG hg.out)
  clear q4 k3 k4 k5 k6 k7 r1 r2 hb1
  go_upto_region 5 with (refine ld_mid 49 _ rfl _ _ rfl [.int .i64 2, .slice (some ⟨x0, 0, none⟩) 1 ce, .slice HH 0 hc] _ hg1.out Try.underlying49 rfl (by kernel_rfl) rfl ?_)
  refine wp_worldS (fun W => W.heap[w.heap.size]? = some (.cells #[.slice none 0 0, .slice (some ⟨G, 0, none⟩) 1 cg, .slice (some ⟨V, 0, none⟩) 1 cgv] 37 (0, 0)) ∧ W.heap[w.heap.size + 1]? = some (.cells #[.slice (some ⟨a, 0, none⟩) 1 ca, .slice (some ⟨v, 0, none⟩) 1 cv, .slice Q 0 cq, .slice U 0 cu] 57 (0, 0)) ∧ W.heap[w.heap.size + 2]? = some (.cells #[.int .i64 0, .bool false, .int .i64 0] 129 (0, 0)) ∧ W.heap[w.heap.size + 3]? = some (.cells #[.slice none 0 0, .slice none 0 0, .slice none 0 0, .slice none 0 0] 57 (0, 0)) ∧ W.heap[w.heap.size + 4]? = some (.cells #[.bool false, .int .i64 0, .int .i64 0, .int .i64 0] 125 (0, 0)) ∧ W.heap[w1.heap.size]? = some (.cells #[.slice (some ⟨a', 0, none⟩) 1 ca', .slice (some ⟨v', 0, none⟩) 1 cv', .slice none 0 0, .slice none 0 0] 57 (0, 0)) ∧ W.heap[w1.heap.size + 1]? = some (.cells #[.int .i64 2, .slice (some ⟨x0, 0, none⟩) 1 ce, .slice HH 0 hc] 49 (0, 0)) ∧
    W.ownsRow w0.heap.size 35 1 (.slice (some ⟨v', 0, none⟩) 1 cv') 1 [.slice (some ⟨b', 0, none⟩) 1 c'] ∧ W.ownsRow w0.heap.size 3 1 (.slice (some ⟨b', 0, none⟩) 1 c') 1 [.int .i64 y] ∧ Below w.heap.size w W)
    ⟨blkUpS (blkUpS m3.out _) _, blkUpS (blkUpS m4.out _) _, blkUpS (blkUpS m5.out _) _, blkUpS (blkUpS m6.out _) _, blkUpS (blkUpS m7.out _) _, blkUpS (blkAS _ _ rfl) _, blkAS _ _ (by simp), (hV.out.alloc _).alloc _, (hVb.out.alloc _).alloc _, (hB1.alloc hB1.size _).alloc (by simp; omega) _⟩ ?_
  clear hg1 hA hV hVb m3 m4 m5 m6 m7 q3 q5 l3 l4 l5 l6 l7 hB0 hB1
  rintro w2 ⟨n3, n4, n5, n6, n7, n8, n9, hV, hVb, hB2⟩
  have hz2 := hB2.size
  have l1 := blk_ltS n8
  have hcv' := own_cap hV
  have hcb := own_cap hVb
  have vr := hV.cells rfl 0 _ rfl
  have br := hVb.cells rfl 0 _ rfl
  have vl := (hV.lt v' rfl).2
  have bl := (hVb.lt b' rfl).2
  clear hV hVb
  have mkS := Lib.hid (fun (W : World) (hW : Below w2.heap.size w2 W) => (show W.cell? ⟨w1.heap.size + 1, 0, none⟩ = some (.int .i64 2) ∧ W.cell? ⟨w1.heap.size + 1, 1, none⟩ = some (.slice (some ⟨x0, 0, none⟩) 1 ce) ∧ W.cell? ⟨w1.heap.size + 1, 2, none⟩ = some (.slice HH 0 hc) ∧ W.cell? ⟨w.heap.size + 1, 0, none⟩ = some (.slice (some ⟨a, 0, none⟩) 1 ca) ∧ W.cell? ⟨w.heap.size + 1 + 1, 0, none⟩ = some (.int .i64 0) ∧ W.cell? ⟨a, 0, none⟩ = some (.int .i64 0) ∧ Below w2.heap.size w2 W from
    ⟨(hW.cell (p := ⟨w1.heap.size + 1, 0, none⟩) (blk_ltS n9)).trans (row_ofS n9 0), (hW.cell (p := ⟨w1.heap.size + 1, 1, none⟩) (blk_ltS n9)).trans (row_ofS n9 1), (hW.cell (p := ⟨w1.heap.size + 1, 2, none⟩) (blk_ltS n9)).trans (row_ofS n9 2), (hW.cell (p := ⟨w.heap.size + 1, 0, none⟩) (blk_ltS n4)).trans (row_ofS n4 0), (hW.cell (p := ⟨w.heap.size + 1 + 1, 0, none⟩) (blk_ltS n5)).trans (row_ofS n5 0), ((hB2.trans (hW.mono hz2)).cell (p := ⟨a, 0, none⟩) ha).trans r0, hW⟩))
  have outS := Lib.hid (fun (W : World) (hW : W.cell? ⟨w1.heap.size + 1, 0, none⟩ = some (.int .i64 2) ∧ W.cell? ⟨w1.heap.size + 1, 1, none⟩ = some (.slice (some ⟨x0, 0, none⟩) 1 ce) ∧ W.cell? ⟨w1.heap.size + 1, 2, none⟩ = some (.slice HH 0 hc) ∧ W.cell? ⟨w.heap.size + 1, 0, none⟩ = some (.slice (some ⟨a, 0, none⟩) 1 ca) ∧ W.cell? ⟨w.heap.size + 1 + 1, 0, none⟩ = some (.int .i64 0) ∧ W.cell? ⟨a, 0, none⟩ = some (.int .i64 0) ∧ Below w2.heap.size w2 W) => (out_one (HH := HH) (hc := hc) 2 x0 ce W hce (by have := hW.2.2.2.2.2.2.size; omega) (range_keep (hB2.trans (hW.2.2.2.2.2.2.mono hz2)) hx0 he.out)).mono (fun e w' h => OneOut.up hW.2.2.2.2.2.2 h))
  replace n3 := Lib.hid n3
  replace n4 := Lib.hid n4
  replace n5 := Lib.hid n5
  replace n6 := Lib.hid n6
  replace n7 := Lib.hid n7
  replace n8 := Lib.hid n8
  replace n9 := Lib.hid n9
  go_region_held3 (fun W => W.cell? ⟨w1.heap.size + 1, 0, none⟩ = some (.int .i64 2) ∧ W.cell? ⟨w1.heap.size + 1, 1, none⟩ = some (.slice (some ⟨x0, 0, none⟩) 1 ce) ∧ W.cell? ⟨w1.heap.size + 1, 2, none⟩ = some (.slice HH 0 hc) ∧ W.cell? ⟨w.heap.size + 1, 0, none⟩ = some (.slice (some ⟨a, 0, none⟩) 1 ca) ∧ W.cell? ⟨w.heap.size + 1 + 1, 0, none⟩ = some (.int .i64 0) ∧ W.cell? ⟨a, 0, none⟩ = some (.int .i64 0) ∧ Below w2.heap.size w2 W) (first | assumption | exact mkS.out _ (Below.refl _ _).drew | exact mkS.out _ hbO)
    (first | (go_at_call 10; refine (outS.out _ ?_).mono ?_; (focus assumption); rintro e wO ⟨o, co, rfl, hO, hbO⟩))
  clear mkS outS
  have hco := own_cap hO
  have go0 := hO.cells rfl 0 _ rfl
  have hol := (hO.lt o rfl).2
  have p3 := blk_keepS hbO n3.out
  have p4 := blk_keepS hbO n4.out
  have p5 := blk_keepS hbO n5.out
  have p6 := blk_keepS hbO n6.out
  have p7 := blk_keepS hbO n7.out
  have p8 := blk_keepS hbO n8.out
  have p9 := blk_keepS hbO n9.out
  have hB3 : Below w.heap.size w wO := hB2.trans (hbO.mono hz2)
  have vr3 := (hbO.cell (p := ⟨v', 0, none⟩) vl).trans vr
  have br3 := (hbO.cell (p := ⟨b', 0, none⟩) bl).trans br
  have vl3 : v' < wO.heap.size := Nat.lt_of_lt_of_le vl hbO.size
  have bl3 : b' < wO.heap.size := Nat.lt_of_lt_of_le bl hbO.size
  have q3 := row_ofS p3
  have q5 := row_ofS p5
  have q8 := row_ofS p8
  have q9 := row_ofS p9
  have l3 := blk_ltS p3
  have l5 := blk_ltS p5
  have l8 := blk_ltS p8
  have l9 := blk_ltS p9
  replace p3 := Lib.hid p3
  replace p4 := Lib.hid p4
  replace p5 := Lib.hid p5
  replace p6 := Lib.hid p6
  replace p7 := Lib.hid p7
  replace p8 := Lib.hid p8
  replace p9 := Lib.hid p9
  clear hO hbO n3 n4 n5 n6 n7 n8 n9 vr br vl bl hB2
  go_upto_region 9 with fail
  refine wp_worldS (fun W => W.heap[w.heap.size + 2]? = some (.cells #[.int .i64 0, .bool false, .int .i64 0] 129 (0, 0)) ∧ W.heap[w.heap.size + 3]? = some (.cells #[.slice none 0 0, .slice none 0 0, .slice none 0 0, .slice none 0 0] 57 (0, 0)) ∧ W.heap[w.heap.size + 4]? = some (.cells #[.bool false, .int .i64 0, .int .i64 0, .int .i64 0] 125 (0, 0)) ∧
    W.heap[w1.heap.size]? = some (.cells #[.slice (some ⟨a', 0, none⟩) 1 ca', .slice (some ⟨v', 0, none⟩) 1 cv', .slice none 0 0, .slice none 0 0] 57 (0, 0)) ∧ W.heap[wO.heap.size]? = some (.cells #[.int .i64 0, .bool false, .int .i64 0, .slice none 0 0, .slice (some ⟨x0, 0, none⟩) 1 ce, .slice (some ⟨a', 0, none⟩) 1 ca', .slice (some ⟨v', 0, none⟩) 1 cv', .slice none 0 0, .slice none 0 0] 192 (0, 0)) ∧
    Below wO.heap.size wO W ∧ Below w.heap.size w W) ⟨blkUpS p5.out _, blkUpS p6.out _, blkUpS p7.out _, blkUpS p8.out _, blkAS _ _ rfl, (Below.refl _ _).alloc (Nat.le_refl _) _, hB3.alloc hB3.size _⟩ ?_
  rintro w4 ⟨s5, s6, s7, s8, sm, hbw, hB4⟩
  have hz4 := hB4.size
  have lm := blk_ltS sm
  have t0 := row_ofS sm 0
  have t4 := row_ofS sm 4
  have t6 := row_ofS sm 6
  have vr4 := (hbw.cell (p := ⟨v', 0, none⟩) vl3).trans vr3
  have go4 := (hbw.cell (p := ⟨o, 0, none⟩) hol).trans go0
  have vl4 : v' < w4.heap.size := Nat.lt_of_lt_of_le vl3 hbw.size
  have hok := Lib.hid (fun (W : World) (hW : Below w4.heap.size w4 W) => by
    have hh := hB4.trans (hW.mono hz4)
    have hvs : VarsAt W W.heap.size (some ⟨b', 0, none⟩) [y] := fun i u hi => by
      match i, hi with
      | 0, hi =>
        cases hi
        exact ⟨b', rfl, by have := hbw.size; have := hW.size; omega, ((hbw.trans (hW.mono hbw.size)).cell (p := ⟨b', 0, none⟩) bl3).trans br3⟩
      | i + 1, hi => simp at hi
    have := eval_any [y] (some ⟨b', 0, none⟩) 1 c' rfl hcb (by decide) d x _ W ((hx.out.below hh).mono hh.size) hvs
    rw [hev.out] at this
    exact this)
  replace s5 := Lib.hid s5
  replace s6 := Lib.hid s6
  replace s7 := Lib.hid s7
  replace s8 := Lib.hid s8
  clear q3 q5 q8 q9 p3 p4 p5 p6 p7 p8 p9 sm
  go_wp2_with fail
  refine (leave_err f hf wO.heap.size v' cv' b' c' o co x0 ce w4 hcv' hce lm vl4 (by omega) t0 t4 t6 vr4 go4 (range_keep hB4 hx0 he.out) hok.out).mono ?_
  rintro e w5 ⟨rfl, hb5⟩
  have hB5 : Below w.heap.size w w5 := hB4.trans (hb5.mono hz4)
  have u5 := blk_keepS hb5 s5.out
  have u6 := blk_keepS hb5 s6.out
  have u7 := blk_keepS hb5 s7.out
  have u8 := blk_keepS hb5 s8.out
  have y5 := row_ofS u5
  have y6 := row_ofS u6
  have y7 := row_ofS u7
  have y8 := row_ofS u8
  have f60 := frozen_ofS u6 0
  have f61 := frozen_ofS u6 1
  have f62 := frozen_ofS u6 2
  have f63 := frozen_ofS u6 3
  have f70 := frozen_ofS u7 0
  have f71 := frozen_ofS u7 1
  have f72 := frozen_ofS u7 2
  have f73 := frozen_ofS u7 3
  have l6 := blk_ltS u6
  have l7 := blk_ltS u7
  have hne : w.heap.size + 3 ≠ w1.heap.size := by omega
  replace u6 := Lib.hid u6
  replace u7 := Lib.hid u7
  clear u5 u8 hb5 s5 s6 s7 s8 t0 t4 t6 vr4 go4 hok
  go_wp2_with fail
  go_region
  all_goals
    go_wp2_with fail
    generalize hWF : World.drew _ = WF
    obtain ⟨c6, c7, hbF⟩ := put8 (n := w.heap.size + 1 + 1 + 1) (k := w.heap.size + 1 + 1 + 1 + 1) (by omega) u6.out u7.out _ _ _ _ _ _ _ _ hWF.symm
    clear hWF
    exact bodyPost_ret (v := .tuple #[.agg #[.slice (some ⟨a', 0, none⟩) 1 ca', .slice (some ⟨v', 0, none⟩) 1 cv', .slice none 0 0, .slice none 0 0], .agg #[.bool false, .int .i64 f, .int .i64 0, .int .i64 0]]) (by simp [results, Try.results76, go_sem, c6, c7]) rfl ⟨_, _, _, _, _, _, _, _, _, _, _, _, rfl, hB5.trans (hbF _ (by omega) (by omega))⟩
end Go.Proofs.Ytdagadcflignfaa
namespace Go.Proofs.Ytdagadcflignfaa
open Go.RowKit

set_option maxRecDepth 100000 in
set_option maxHeartbeats 2000000 in
theorem heads_nil {HH : Option Addr} {hc : Nat} (N : Int) (E : Option Addr) (ne ce : Nat) (w : World) :
    Calls Try.prog 89 #[.agg #[.int .i64 N, .slice E ne ce, .slice HH 0 hc]] w fun e w' => e = .returned (.bool true) ∧ Below w.heap.size w w' := by
  go_enter Try.func89, Try.ntmps89
  go_wp2_with fail
  refine wp_loop_rounds 1 ?_
  rw [rounds_succ]
  go_wp2_with fail
  go_ret
  exact ⟨rfl, (Below.refl _ _).alloc (Nat.le_refl _) _⟩

set_option maxRecDepth 100000 in
set_option maxHeartbeats 2000000 in
theorem node_yes {HH : Option Addr} {hc : Nat} (N x : Int) (E : Option Addr) (ne ce : Nat) (w : World) (h0 : 0 ≤ x) (h1 : x < N) :
    Calls Try.prog 90 #[.agg #[.int .i64 N, .slice E ne ce, .slice HH 0 hc], .int .i64 x] w fun e w' => e = .returned (.bool true) ∧ Below w.heap.size w w' := by
  go_enter Try.func90, Try.ntmps90
  go_wp2
  go_ret
  exact ⟨by simp, (Below.refl _ _).alloc (Nat.le_refl _) _⟩

set_option maxRecDepth 100000 in
set_option maxHeartbeats 2000000 in
theorem search_nil {HH : Option Addr} {hc : Nat} (x : Int) (w : World) :
    Calls Try.prog 153 #[.slice HH 0 hc, .int .i64 x] w fun e w' => e = .returned (.tuple #[.int .i64 0, .bool false]) ∧ w = w' := by
  go_enter Try.func153, Try.ntmps153
  go_wp2_with fail
  refine wp_loop_rounds 1 ?_
  rw [rounds_succ]
  go_wp2_with fail
  go_ret2
  exact ⟨rfl, rfl⟩

set_option maxRecDepth 100000 in
set_option maxHeartbeats 2000000 in
theorem head_no {HH : Option Addr} {hc : Nat} (N x : Int) (E : Option Addr) (ne ce : Nat) (w : World) :
    Calls Try.prog 130 #[.agg #[.int .i64 N, .slice E ne ce, .slice HH 0 hc], .int .i64 x] w fun e w' => e = .returned (.bool false) ∧ Below w.heap.size w w' := by
  go_enter Try.func130, Try.ntmps130
  go_wp2_with fail
  refine (search_nil x _).mono ?_
  rintro e w1 ⟨rfl, rfl⟩
  go_wp2_with fail
  go_ret
  exact ⟨rfl, (Below.refl _ _).alloc (Nat.le_refl _) _⟩

set_option maxRecDepth 100000 in
set_option maxHeartbeats 2000000 in
theorem leaving_end (w : World) :
    Calls Try.prog 91 #[.int .i64 1, .slice none 0 0] w fun e w' => e = .returned (.bool true) ∧ w = w' := by
  go_enter Try.func91, Try.ntmps91
  go_wp2
  go_ret
  exact ⟨rfl, rfl⟩

set_option maxRecDepth 100000 in
set_option maxHeartbeats 2000000 in
theorem leaving_one (x : Nat) (c : Nat) (w : World) (_hc : 1 ≤ c) (hk : w.cell? ⟨x, 2, none⟩ = some (.int .i64 1)) :
    Calls Try.prog 91 #[.int .i64 0, .slice (some ⟨x, 0, none⟩) 1 c] w fun e w' => e = .returned (.bool true) ∧ w = w' := by
  go_enter Try.func91, Try.ntmps91
  go_wp2
  go_ret
  exact ⟨rfl, rfl⟩
end Go.Proofs.Ytdagadcflignfaa
namespace Go.Proofs.Ytdagadcflignfaa
open Go.RowKit
variable {ek em ex : Int} {EA : Option Addr} {en ec : Nat}

theorem mk2_int (W : World) : (Instr.makeSlice 35 (.int .i64 2) (.int .i64 2)).run Try.prog W = .ok (.slice (some ⟨W.heap.size, 0, none⟩) 2 2) (W.alloc (.cells #[.int .i64 0, .int .i64 0] 3)) := by
  obtain ⟨ii, hii, iz0, iz1, iz2⟩ := info_parts info_int
  have h := run_make (P := Try.prog) W 35 3 ii (.int .i64 0) Try.underlying35 hii iz0 .i64 .i64 2 2 (by decide) (by decide) (by rw [iz2]; decide) (by decide)
  rw [iz1, show madeCells (Value.int .i64 0).cells (Int.toNat 2 * 1) = #[.int .i64 0, .int .i64 0] from by kernel_rfl] at h
  exact h
theorem info_edges : (Try.prog.info? 47).map (fun i => (i.zero, i.size, i.bytes)) = some (some (.slice none 0 0), 1, 24) := by kernel_rfl
theorem mk2_edges (W : World) : (Instr.makeSlice 184 (.int .i64 2) (.int .i64 2)).run Try.prog W = .ok (.slice (some ⟨W.heap.size, 0, none⟩) 2 2) (W.alloc (.cells #[.slice none 0 0, .slice none 0 0] 47)) := by
  obtain ⟨ii, hii, iz0, iz1, iz2⟩ := info_parts info_edges
  have h := run_make (P := Try.prog) W 184 47 ii (.slice none 0 0) Try.underlying184 hii iz0 .i64 .i64 2 2 (by decide) (by decide) (by rw [iz2]; decide) (by decide)
  rw [iz1, show madeCells (Value.slice none 0 0).cells (Int.toNat 2 * 1) = #[.slice none 0 0, .slice none 0 0] from by kernel_rfl] at h
  exact h

set_option maxRecDepth 100000 in
set_option maxHeartbeats 4000000 in
theorem loops_one {HH : Option Addr} {hc : Nat} (x0 l x ce cl cx : Nat) (w : World) (_hce : 1 ≤ ce) (_hcl : 2 ≤ cl) (_hcx : 1 ≤ cx) (h0 : x0 < w.heap.size) (hl : l < w.heap.size) (hx : x < w.heap.size) (he : w.rangeAt x0 0 [.int .i64 0, .int .i64 1, .int .i64 1, .int .i64 0, .int .i64 0, .int .i64 0, .int .i64 ek, .int .i64 em, .int .i64 ex, .slice EA en ec, .int .i64 0, .int .i64 0, .int .i64 0, .int .i64 0, .slice none 0 0, .int .i64 0, .int .i64 0, .int .i64 0, .slice none 0 0]) (hxr : w.rangeAt x 0 [.int .i64 0, .int .i64 1, .int .i64 1, .int .i64 0, .int .i64 0, .int .i64 0, .int .i64 ek, .int .i64 em, .int .i64 ex, .slice EA en ec, .int .i64 0, .int .i64 0, .int .i64 0, .int .i64 0, .slice none 0 0, .int .i64 0, .int .i64 0, .int .i64 0, .slice none 0 0])
    (c0 : w.cell? ⟨l, 0, none⟩ = some (.slice (some ⟨x, 0, none⟩) 1 cx)) (c1 : w.cell? ⟨l, 1, none⟩ = some (.slice none 0 0)) :
    Calls Try.prog 92 #[.agg #[.int .i64 2, .slice (some ⟨x0, 0, none⟩) 1 ce, .slice HH 0 hc], .slice (some ⟨l, 0, none⟩) 2 cl] w fun e w' => e = .returned (.bool true) ∧ Below w.heap.size w w' := by
  replace he := Lib.hid he
  replace hxr := Lib.hid hxr
  obtain ⟨ii, hii, iz0, iz1, iz2⟩ := info_parts info_int
  replace hii := Lib.hid hii
  go_enter Try.func92, Try.ntmps92
  have hmk := mk2_int
  go_upto_region 3 with fail
  clear hmk
  refine wp_worldS (fun W => W.heap[w.heap.size]? = some (.cells #[.int .i64 2, .slice (some ⟨x0, 0, none⟩) 1 ce, .slice HH 0 hc] 49 (0, 0)) ∧ W.heap[w.heap.size + 1]? = some (.cells #[.int .i64 0, .int .i64 0] 3 (0, 0)) ∧ Below w.heap.size w W ∧ W.heap.size = w.heap.size + 2) ⟨blkUpS (blkAS _ _ rfl) _, blkAS _ _ (by simp), ((Below.refl _ _).alloc (Nat.le_refl _) _).alloc (by simp) _, by simp⟩ ?_
  rintro w0 ⟨k0, k1, hB0, hs0⟩
  have r0 := row_ofS k0
  have r1 := row_ofS k1
  have fr1 := frozen_ofS k1 1
  have hlt0 : w.heap.size + 1 < w0.heap.size := by omega
  have he0 := Lib.hid (range_keep hB0 h0 he.out)
  have hd0 := Lib.hid (hB0)
  replace k0 := Lib.hid k0
  replace k1 := Lib.hid k1
  refine wp_loop_rounds 2 ?_
  rw [rounds_succ]
  go_wp2_with (first | (refine ld_mid 53 _ rfl _ _ rfl [.int .i64 0, .int .i64 1, .int .i64 1, .int .i64 0, .int .i64 0, .int .i64 0, .int .i64 ek, .int .i64 em, .int .i64 ex, .slice EA en ec, .int .i64 0, .int .i64 0, .int .i64 0, .int .i64 0, .slice none 0 0, .int .i64 0, .int .i64 0, .int .i64 0, .slice none 0 0] _ he0.out Try.underlying53 rfl info_edge rfl ?_) | (refine wpList_store_new rfl 53 _ _ rfl rfl _ _ _ _ rfl (by first | assumption | rfl | (simp; done) | (simp; omega)) rfl rfl info_edge rfl (by kernel_rfl) ?_))
  rw [rounds_succ]
  go_upto_region 9 with fail
  have hset1 : (w0.setCell ⟨w.heap.size + 1, 1, none⟩ (.int .i64 1)).heap[w.heap.size + 1]? = some (.cells #[.int .i64 0, .int .i64 1] 3 (0, 0)) := by simp [World.setCell, Array.getElem?_modify, k1.out]
  refine wp_worldS (fun W => W.heap[w.heap.size]? = some (.cells #[.int .i64 2, .slice (some ⟨x0, 0, none⟩) 1 ce, .slice HH 0 hc] 49 (0, 0)) ∧ W.heap[w.heap.size + 1]? = some (.cells #[.int .i64 0, .int .i64 1] 3 (0, 0)) ∧ Below w.heap.size w W) ⟨blkUpS (blk_setS k0.out (by omega)) _, blkUpS hset1 _, (hB0.setCell (Nat.le_succ _) _).alloc (by simp; omega) _⟩ ?_
  rintro w1 ⟨q0, q1, hB1⟩
  clear r0 r1 fr1 he0 hd0 k0 k1 hset1 hlt0 hs0 hB0
  have r0 := row_ofS q0
  have r1 := row_ofS q1
  have fr1 := frozen_ofS q1 1
  have hlt1 := blk_ltS q1
  have hz1 := hB1.size
  replace q0 := Lib.hid q0
  replace q1 := Lib.hid q1
  refine wp_loop_rounds 3 ?_
  rw [rounds_succ]
  go_wp2_with (refine wpList_append_lies _ rfl _ _ _ rfl w1.heap.size 3 ii _ 1 8 Try.underlying35 hii.out iz0 iz1 iz2 rfl (by omega) (.slice none 0 0) 0 [] rfl (World.ownsRow_nil _ _ _ _) ⟨w1.heap.size, 0, none⟩ 1 1 [.int .i64 0] rfl rfl (World.news_of_block (cs := #[.int .i64 0]) (t := 3) (fr := (0, 0)) (blkAS _ _ rfl)) (by simp [Value.oneCell']) (by omega) (by decide) (by decide) (by simp) (w1.heap.size + 1) (by simp) ?_)
  intro T ct w2 hT hgr2 _ hlt2
  have m0 := grown_blk hgr2 (blkUpS q0.out _) (by simp [Value.ownBlock])
  have m1 := grown_blk hgr2 (blkUpS q1.out _) (by simp [Value.ownBlock])
  have hB2 : Below w.heap.size w w2 := below_grown hgr2 (hB1.alloc hB1.size _) (Nat.le_refl _) (fun b hb => by simp [Value.ownBlock] at hb)
  clear hgr2 q0 q1 r0 r1 fr1 hB1
  have r0 := row_ofS m0
  have r1 := row_ofS m1
  replace m0 := Lib.hid m0
  replace m1 := Lib.hid m1
  replace hT := Lib.hid hT
  go_wp2_with fail
  rw [rounds_succ]
  go_wp2_with fail
  refine (head_no 2 1 (some ⟨x0, 0, none⟩) 1 ce _).mono ?_
  rintro e w3 ⟨rfl, hb3⟩
  have p0 := blk_keepS hb3 m0.out
  have p1 := blk_keepS hb3 m1.out
  have hT3 := hT.out.kept (row := none) ⟨hb3.os, hb3.tape, hb3.output, hb3.size, fun k hk _ => hb3.block k hk⟩ (by simp [Value.ownBlock])
  have hB3 : Below w.heap.size w w3 := hB2.trans (hb3.mono hB2.size)
  have ct0 : w3.cell? ⟨T, 0, none⟩ = some (.int .i64 0) := hT3.cells rfl 0 _ rfl
  clear hb3 m0 m1 r0 r1 hT hB2
  have r0 := row_ofS p0
  have r1 := row_ofS p1
  have fr1 := frozen_ofS p1 1
  have hxr3 := Lib.hid (range_keep hB3 hx hxr.out)
  have d0 := (hB3.cell (p := ⟨l, 0, none⟩) hl).trans c0
  have d1 := (hB3.cell (p := ⟨l, 1, none⟩) hl).trans c1
  have hTlt := hT3.lt T rfl
  have hlt3 := blk_ltS p1
  replace p0 := Lib.hid p0
  replace p1 := Lib.hid p1
  replace hT3 := Lib.hid hT3
  go_wp2_with fail
  rw [rounds_succ]
  go_wp2_with fail
  refine wp_loop_rounds 3 ?_
  rw [rounds_succ]
  go_wp2_with fail
  refine wp_loop_rounds 2 ?_
  rw [rounds_succ]
  go_upto_region 21 with (first | (refine ld_mid 53 _ rfl _ _ rfl [.int .i64 0, .int .i64 1, .int .i64 1, .int .i64 0, .int .i64 0, .int .i64 0, .int .i64 ek, .int .i64 em, .int .i64 ex, .slice EA en ec, .int .i64 0, .int .i64 0, .int .i64 0, .int .i64 0, .slice none 0 0, .int .i64 0, .int .i64 0, .int .i64 0, .slice none 0 0] _ hxr3.out Try.underlying53 rfl info_edge rfl ?_) | (refine wpList_store_new rfl 53 _ _ rfl rfl _ _ _ _ rfl (by first | assumption | rfl | (simp; done) | (simp; omega)) rfl rfl info_edge rfl (by kernel_rfl) ?_))
  have hset2 : (w3.setCell ⟨w.heap.size + 1, 1, none⟩ (.int .i64 0)).heap[w.heap.size + 1]? = some (.cells #[.int .i64 0, .int .i64 0] 3 (0, 0)) := by simp [World.setCell, Array.getElem?_modify, p1.out]
  refine wp_worldS (fun W => W.heap[w.heap.size]? = some (.cells #[.int .i64 2, .slice (some ⟨x0, 0, none⟩) 1 ce, .slice HH 0 hc] 49 (0, 0)) ∧ W.heap[w.heap.size + 1]? = some (.cells #[.int .i64 0, .int .i64 0] 3 (0, 0)) ∧ W.heap[w3.heap.size]? = some (.cells #[.int .i64 0, .int .i64 1, .int .i64 1, .int .i64 0, .int .i64 0, .int .i64 0, .int .i64 ek, .int .i64 em, .int .i64 ex, .slice EA en ec, .int .i64 0, .int .i64 0, .int .i64 0, .int .i64 0, .slice none 0 0, .int .i64 0, .int .i64 0, .int .i64 0, .slice none 0 0] 53 (0, 0)) ∧ W.ownsRow w1.heap.size 3 1 (.slice (some ⟨T, 0, none⟩) 1 ct) 1 [.int .i64 0] ∧ Below w.heap.size w W ∧ W.heap.size = w3.heap.size + 1)
    ⟨blkUpS (blk_setS p0.out (by omega)) _, blkUpS hset2 _, blkAS _ _ (by simp), (own_set hT3.out (by omega)).alloc _, (hB3.setCell (Nat.le_succ _) _).alloc (by simp; omega) _, by simp⟩ ?_
  rintro w4 ⟨q0, q1, q2, hT4, hB4, hs4⟩
  clear r0 r1 fr1 d0 d1 ct0 p0 p1 hT3 hset2 hB3
  have r0 := row_ofS q0
  have r1 := row_ofS q1
  have r2 := row_ofS q2 1
  replace q0 := Lib.hid q0
  replace q1 := Lib.hid q1
  clear q2
  replace hT4 := Lib.hid hT4
  have hz4 : w1.heap.size ≤ w4.heap.size := by omega
  go_wp2_with fail
  refine (head_no 2 1 (some ⟨x0, 0, none⟩) 1 ce _).mono ?_
  rintro e w5 ⟨rfl, hb5⟩
  have p0 := blk_keepS hb5 q0.out
  have hT5 := hT4.out.kept (row := none) ⟨hb5.os, hb5.tape, hb5.output, hb5.size, fun k hk _ => hb5.block k hk⟩ (by simp [Value.ownBlock])
  have hB5 : Below w.heap.size w w5 := hB4.trans (hb5.mono hB4.size)
  have hz5 : w1.heap.size ≤ w5.heap.size := Nat.le_trans hz4 hb5.size
  replace p0 := Lib.hid p0
  replace hT5 := Lib.hid hT5
  have er2 : w5.cell? ⟨w3.heap.size, 1, none⟩ = some (.int .i64 1) := (hb5.cell (p := ⟨w3.heap.size, 1, none⟩) (by rw [hs4]; exact Nat.lt_succ_self _)).trans r2
  have hlt5 : w3.heap.size < w5.heap.size := Nat.lt_of_lt_of_le (by rw [hs4]; exact Nat.lt_succ_self _) hb5.size
  clear hb5 q0 q1 r0 r1 r2 hT4 hB4 hs4
  go_upto_region 23 with (refine wpList_append_lies _ rfl _ _ _ rfl w1.heap.size 3 ii _ 1 8 Try.underlying35 hii.out iz0 iz1 iz2 rfl (by omega) (.slice (some ⟨T, 0, none⟩) 1 ct) 1 [.int .i64 0] rfl (hT5.out.alloc _) ⟨w5.heap.size, 0, none⟩ 1 1 [.int .i64 1] rfl rfl (World.news_of_block (cs := #[.int .i64 1]) (t := 3) (fr := (0, 0)) (blkAS _ _ rfl)) (by simp [Value.oneCell']) (by omega) (by decide) (by decide) (by simp; omega) (w5.heap.size + 1) (by simp) ?_)
  intro T2 c2 w6 hT6 hgr6 _ hlt6
  have m0 := grown_blk hgr6 (blkUpS p0.out _) (by simp [Value.ownBlock]; omega)
  have hB6 : Below w.heap.size w w6 := below_grown hgr6 (hB5.alloc hB5.size _) (Nat.le_refl _) (fun b hb => by simp [Value.ownBlock] at hb; omega)
  have ct1 : w6.cell? ⟨T2, 1, none⟩ = some (.int .i64 1) := hT6.cells rfl 1 _ rfl
  have d1 := (hB6.cell (p := ⟨l, 1, none⟩) hl).trans c1
  have r0 := row_ofS m0
  clear hgr6 p0 hT5 hB5 m0 hT6
  go_wp2_with fail
  rw [rounds_succ]
  go_wp2_with fail
  rw [rounds_succ]
  go_wp2_with fail
  refine wp_loop_rounds 1 ?_
  rw [rounds_succ]
  go_wp2_with fail
  rw [rounds_succ]
  go_wp2_with fail
  go_ret
  exact ⟨rfl, hB6⟩
end Go.Proofs.Ytdagadcflignfaa
