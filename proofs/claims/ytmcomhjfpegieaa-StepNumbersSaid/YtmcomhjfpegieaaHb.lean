/-
  conf.Copy of a configuration of one process with one variable, and of no channels.
-/
import Derived.Test.YtmcomhjfpegieaaHa
import Derived.Deep.RegionHeld3
namespace Go.Proofs.Ytmcomhjfpegieaa
open Go.RowKit

/-- Such a configuration, all of its own from block B on. -/
def OneConf (B : Nat) (x y : Int) (v : Value) (w' : World) : Prop :=
  ∃ a ca v0 cv b c, v = .agg #[.slice (some ⟨a, 0, none⟩) 1 ca, .slice (some ⟨v0, 0, none⟩) 1 cv, .slice none 0 0, .slice none 0 0] ∧ w'.ownsRow B 3 1 (.slice (some ⟨a, 0, none⟩) 1 ca) 1 [.int .i64 x] ∧
    w'.ownsRow B 30 1 (.slice (some ⟨v0, 0, none⟩) 1 cv) 1 [.slice (some ⟨b, 0, none⟩) 1 c] ∧ w'.ownsRow B 3 1 (.slice (some ⟨b, 0, none⟩) 1 c) 1 [.int .i64 y]
def CopyOut (w : World) (x y : Int) (e : Ending) (w' : World) : Prop := ∃ v, e = .returned v ∧ OneConf w.heap.size x y v w' ∧ Below w.heap.size w w'
theorem keepC {a ca v cv cq cu b c : Nat} {x y : Int} {Q U : Option Addr} {w W W' : World} (ha : a < w.heap.size) (hv : v < w.heap.size) (hb : b < w.heap.size) (h : W.cell? ⟨w.heap.size, 0, none⟩ = some (.slice (some ⟨a, 0, none⟩) 1 ca) ∧ W.cell? ⟨w.heap.size, 1, none⟩ = some (.slice (some ⟨v, 0, none⟩) 1 cv) ∧ W.cell? ⟨w.heap.size, 2, none⟩ = some (.slice Q 0 cq) ∧ W.cell? ⟨w.heap.size, 3, none⟩ = some (.slice U 0 cu) ∧ W.cell? ⟨a, 0, none⟩ = some (.int .i64 x) ∧ W.cell? ⟨v, 0, none⟩ = some (.slice (some ⟨b, 0, none⟩) 1 c) ∧ W.cell? ⟨b, 0, none⟩ = some (.int .i64 y) ∧ Below w.heap.size w W ∧ w.heap.size + 2 ≤ W.heap.size) (hB : Below (w.heap.size + 1) W W') : W'.cell? ⟨w.heap.size, 0, none⟩ = some (.slice (some ⟨a, 0, none⟩) 1 ca) ∧ W'.cell? ⟨w.heap.size, 1, none⟩ = some (.slice (some ⟨v, 0, none⟩) 1 cv) ∧ W'.cell? ⟨w.heap.size, 2, none⟩ = some (.slice Q 0 cq) ∧ W'.cell? ⟨w.heap.size, 3, none⟩ = some (.slice U 0 cu) ∧ W'.cell? ⟨a, 0, none⟩ = some (.int .i64 x) ∧ W'.cell? ⟨v, 0, none⟩ = some (.slice (some ⟨b, 0, none⟩) 1 c) ∧ W'.cell? ⟨b, 0, none⟩ = some (.int .i64 y) ∧ Below w.heap.size w W' ∧ w.heap.size + 2 ≤ W'.heap.size := by
  obtain ⟨h0, h1, h2, h3, g0, g1, g2, hw, hz⟩ := h
  have l0 : w.heap.size < w.heap.size + 1 := by omega
  exact ⟨(hB.cell (p := ⟨w.heap.size, 0, none⟩) l0).trans h0, (hB.cell (p := ⟨w.heap.size, 1, none⟩) l0).trans h1, (hB.cell (p := ⟨w.heap.size, 2, none⟩) l0).trans h2, (hB.cell (p := ⟨w.heap.size, 3, none⟩) l0).trans h3,
    (hB.cell (p := ⟨a, 0, none⟩) (by show a < _; omega)).trans g0, (hB.cell (p := ⟨v, 0, none⟩) (by show v < _; omega)).trans g1, (hB.cell (p := ⟨b, 0, none⟩) (by show b < _; omega)).trans g2,
    hw.trans (hB.mono (by omega)), Nat.le_trans hz hB.size⟩
theorem keepD {a ca v cv cq cu b c : Nat} {x y : Int} {Q U : Option Addr} {w W W' : World} (ha : a < w.heap.size) (hv : v < w.heap.size) (hb : b < w.heap.size) (h : W.cell? ⟨w.heap.size, 0, none⟩ = some (.slice (some ⟨a, 0, none⟩) 1 ca) ∧ W.cell? ⟨w.heap.size, 1, none⟩ = some (.slice (some ⟨v, 0, none⟩) 1 cv) ∧ W.cell? ⟨w.heap.size, 2, none⟩ = some (.slice Q 0 cq) ∧ W.cell? ⟨w.heap.size, 3, none⟩ = some (.slice U 0 cu) ∧ W.cell? ⟨a, 0, none⟩ = some (.int .i64 x) ∧ W.cell? ⟨v, 0, none⟩ = some (.slice (some ⟨b, 0, none⟩) 1 c) ∧ W.cell? ⟨b, 0, none⟩ = some (.int .i64 y) ∧ Below w.heap.size w W ∧ w.heap.size + 2 ≤ W.heap.size) (hB : Below W.heap.size W W') : W'.cell? ⟨w.heap.size, 0, none⟩ = some (.slice (some ⟨a, 0, none⟩) 1 ca) ∧ W'.cell? ⟨w.heap.size, 1, none⟩ = some (.slice (some ⟨v, 0, none⟩) 1 cv) ∧ W'.cell? ⟨w.heap.size, 2, none⟩ = some (.slice Q 0 cq) ∧ W'.cell? ⟨w.heap.size, 3, none⟩ = some (.slice U 0 cu) ∧ W'.cell? ⟨a, 0, none⟩ = some (.int .i64 x) ∧ W'.cell? ⟨v, 0, none⟩ = some (.slice (some ⟨b, 0, none⟩) 1 c) ∧ W'.cell? ⟨b, 0, none⟩ = some (.int .i64 y) ∧ Below w.heap.size w W' ∧ w.heap.size + 2 ≤ W'.heap.size :=
  keepC ha hv hb h (hB.mono (by obtain ⟨_, _, _, _, _, _, _, _, hz⟩ := h; omega))
theorem set4 {n : Nat} (W : World) (v0 v1 v2 v3 : Value) : Below n W ((((W.setCell ⟨n, 0, none⟩ v0).setCell ⟨n, 1, none⟩ v1).setCell ⟨n, 2, none⟩ v2).setCell ⟨n, 3, none⟩ v3) :=
  (((Below.setCell (p := ⟨n, 0, none⟩) (Below.refl n W) (Nat.le_refl n) v0).setCell (p := ⟨n, 1, none⟩) (Nat.le_refl n) v1).setCell (p := ⟨n, 2, none⟩) (Nat.le_refl n) v2).setCell (p := ⟨n, 3, none⟩) (Nat.le_refl n) v3

/-- A block of a configuration that is nothing as yet. -/
def TF (n : Nat) (W : World) : Prop := W.cell? ⟨n, 0, none⟩ = some (.slice none 0 0) ∧ W.cell? ⟨n, 1, none⟩ = some (.slice none 0 0) ∧ W.cell? ⟨n, 2, none⟩ = some (.slice none 0 0) ∧ W.cell? ⟨n, 3, none⟩ = some (.slice none 0 0) ∧ W.frozen? ⟨n, 0, none⟩ = false ∧ W.frozen? ⟨n, 1, none⟩ = false ∧ W.frozen? ⟨n, 2, none⟩ = false ∧ W.frozen? ⟨n, 3, none⟩ = false
theorem TF.keep {n : Nat} {W W' : World} (h : TF n W) (hn : n < W.heap.size) (hB : Below W.heap.size W W') : TF n W' := by
  obtain ⟨h0, h1, h2, h3, f0, f1, f2, f3⟩ := h
  exact ⟨(hB.cell (p := ⟨n, 0, none⟩) hn).trans h0, (hB.cell (p := ⟨n, 1, none⟩) hn).trans h1, (hB.cell (p := ⟨n, 2, none⟩) hn).trans h2, (hB.cell (p := ⟨n, 3, none⟩) hn).trans h3, (hB.frozen (p := ⟨n, 0, none⟩) hn).trans f0, (hB.frozen (p := ⟨n, 1, none⟩) hn).trans f1, (hB.frozen (p := ⟨n, 2, none⟩) hn).trans f2, (hB.frozen (p := ⟨n, 3, none⟩) hn).trans f3⟩
theorem TF.mk {n : Nat} {W : World} {t : TypeId} (h : W.heap[n]? = some (.cells #[.slice none 0 0, .slice none 0 0, .slice none 0 0, .slice none 0 0] t (0, 0))) : TF n W :=
  ⟨row_of h 0, row_of h 1, row_of h 2, row_of h 3, frozen_of h 0, frozen_of h 1, frozen_of h 2, frozen_of h 3⟩

theorem atC {a ca v cv cq cu b c : Nat} {x y : Int} {Q U : Option Addr} {w W : World} (ha : a < w.heap.size) (h : W.cell? ⟨w.heap.size, 0, none⟩ = some (.slice (some ⟨a, 0, none⟩) 1 ca) ∧ W.cell? ⟨w.heap.size, 1, none⟩ = some (.slice (some ⟨v, 0, none⟩) 1 cv) ∧ W.cell? ⟨w.heap.size, 2, none⟩ = some (.slice Q 0 cq) ∧ W.cell? ⟨w.heap.size, 3, none⟩ = some (.slice U 0 cu) ∧ W.cell? ⟨a, 0, none⟩ = some (.int .i64 x) ∧ W.cell? ⟨v, 0, none⟩ = some (.slice (some ⟨b, 0, none⟩) 1 c) ∧ W.cell? ⟨b, 0, none⟩ = some (.int .i64 y) ∧ Below w.heap.size w W ∧ w.heap.size + 2 ≤ W.heap.size) :
    Calls Try.prog 32 #[.slice (some ⟨a, 0, none⟩) 1 ca] W (OneOut W 3 (.int .i64 x)) := by
  obtain ⟨h0, h1, h2, h3, g0, g1, g2, hw, hz⟩ := h
  exact copyInt_one a ca x W (by omega) g0
theorem varsC {a ca v cv cq cu b c : Nat} {x y : Int} {Q U : Option Addr} {w W : World} (hcv : 1 ≤ cv) (hv : v < w.heap.size) (hb : b < w.heap.size) (h : W.cell? ⟨w.heap.size, 0, none⟩ = some (.slice (some ⟨a, 0, none⟩) 1 ca) ∧ W.cell? ⟨w.heap.size, 1, none⟩ = some (.slice (some ⟨v, 0, none⟩) 1 cv) ∧ W.cell? ⟨w.heap.size, 2, none⟩ = some (.slice Q 0 cq) ∧ W.cell? ⟨w.heap.size, 3, none⟩ = some (.slice U 0 cu) ∧ W.cell? ⟨a, 0, none⟩ = some (.int .i64 x) ∧ W.cell? ⟨v, 0, none⟩ = some (.slice (some ⟨b, 0, none⟩) 1 c) ∧ W.cell? ⟨b, 0, none⟩ = some (.int .i64 y) ∧ Below w.heap.size w W ∧ w.heap.size + 2 ≤ W.heap.size) :
    Calls Try.prog 56 #[.slice (some ⟨v, 0, none⟩) 1 cv] W (OneList W y) := by
  obtain ⟨h0, h1, h2, h3, g0, g1, g2, hw, hz⟩ := h
  exact copyInts_one v cv b c y W hcv (by omega) (by omega) g1 g2

theorem own_keep {w w' : World} {b : Nat} {e : TypeId} {size n : Nat} {v : Value} {xs : List Value} (h : w.ownsRow b e size v n xs) (hb : Below w.heap.size w w') : w'.ownsRow b e size v n xs := by
  refine ⟨h.1, ?_⟩
  rcases h.2 with h0 | ⟨g, cap, cur, rfl, hg, h1, h2⟩
  · exact .inl h0
  · exact .inr ⟨g, cap, cur, rfl, hg, blk_keep hb h1, h2⟩
theorem finAV {gA cA gV cV gB cB : Nat} {x y : Int} {w W0 W1 W2 : World} (hw : Below w.heap.size w W0) (hz : w.heap.size + 2 ≤ W0.heap.size) (hA : W1.ownsRow W0.heap.size 3 1 (.slice (some ⟨gA, 0, none⟩) 1 cA) 1 [.int .i64 x]) (h1 : Below W0.heap.size W0 W1) (hV : W2.ownsRow W1.heap.size 30 1 (.slice (some ⟨gV, 0, none⟩) 1 cV) 1 [.slice (some ⟨gB, 0, none⟩) 1 cB]) (hVb : W2.ownsRow W1.heap.size 3 1 (.slice (some ⟨gB, 0, none⟩) 1 cB) 1 [.int .i64 y]) (h2 : Below W1.heap.size W1 W2)
    (u0 u1 u2 u3 : Value) : OneConf w.heap.size x y (.agg #[.slice (some ⟨gA, 0, none⟩) 1 cA, .slice (some ⟨gV, 0, none⟩) 1 cV, .slice none 0 0, .slice none 0 0]) ((((W2.setCell ⟨w.heap.size + 1, 0, none⟩ u0).setCell ⟨w.heap.size + 1, 1, none⟩ u1).setCell ⟨w.heap.size + 1, 2, none⟩ u2).setCell ⟨w.heap.size + 1, 3, none⟩ u3) ∧
      Below w.heap.size w ((((W2.setCell ⟨w.heap.size + 1, 0, none⟩ u0).setCell ⟨w.heap.size + 1, 1, none⟩ u1).setCell ⟨w.heap.size + 1, 2, none⟩ u2).setCell ⟨w.heap.size + 1, 3, none⟩ u3) := by
  have z1 := h1.size
  refine ⟨⟨gA, cA, gV, cV, gB, cB, rfl, ?_, ?_, ?_⟩, ?_⟩
  · exact own_base (own_set (own_set (own_set (own_set (own_keep hA h2) (by omega)) (by omega)) (by omega)) (by omega)) (by omega)
  · exact own_base (own_set (own_set (own_set (own_set (id hV) (by omega)) (by omega)) (by omega)) (by omega)) (by omega)
  · exact own_base (own_set (own_set (own_set (own_set (id hVb) (by omega)) (by omega)) (by omega)) (by omega)) (by omega)
  · exact ((hw.trans (h1.mono (by omega))).trans (h2.mono (by omega))).trans ((set4 W2 u0 u1 u2 u3).mono (by omega))
theorem finVA {gA cA gV cV gB cB : Nat} {x y : Int} {w W0 W1 W2 : World} (hw : Below w.heap.size w W0) (hz : w.heap.size + 2 ≤ W0.heap.size) (hV : W1.ownsRow W0.heap.size 30 1 (.slice (some ⟨gV, 0, none⟩) 1 cV) 1 [.slice (some ⟨gB, 0, none⟩) 1 cB]) (hVb : W1.ownsRow W0.heap.size 3 1 (.slice (some ⟨gB, 0, none⟩) 1 cB) 1 [.int .i64 y]) (h1 : Below W0.heap.size W0 W1) (hA : W2.ownsRow W1.heap.size 3 1 (.slice (some ⟨gA, 0, none⟩) 1 cA) 1 [.int .i64 x]) (h2 : Below W1.heap.size W1 W2)
    (u0 u1 u2 u3 : Value) : OneConf w.heap.size x y (.agg #[.slice (some ⟨gA, 0, none⟩) 1 cA, .slice (some ⟨gV, 0, none⟩) 1 cV, .slice none 0 0, .slice none 0 0]) ((((W2.setCell ⟨w.heap.size + 1, 0, none⟩ u0).setCell ⟨w.heap.size + 1, 1, none⟩ u1).setCell ⟨w.heap.size + 1, 2, none⟩ u2).setCell ⟨w.heap.size + 1, 3, none⟩ u3) ∧
      Below w.heap.size w ((((W2.setCell ⟨w.heap.size + 1, 0, none⟩ u0).setCell ⟨w.heap.size + 1, 1, none⟩ u1).setCell ⟨w.heap.size + 1, 2, none⟩ u2).setCell ⟨w.heap.size + 1, 3, none⟩ u3) := by
  have z1 := h1.size
  refine ⟨⟨gA, cA, gV, cV, gB, cB, rfl, ?_, ?_, ?_⟩, ?_⟩
  · exact own_base (own_set (own_set (own_set (own_set (hA) (by omega)) (by omega)) (by omega)) (by omega)) (by omega)
  · exact own_base (own_set (own_set (own_set (own_set ((fun h => own_keep h h2) hV) (by omega)) (by omega)) (by omega)) (by omega)) (by omega)
  · exact own_base (own_set (own_set (own_set (own_set ((fun h => own_keep h h2) hVb) (by omega)) (by omega)) (by omega)) (by omega)) (by omega)
  · exact ((hw.trans (h1.mono (by omega))).trans (h2.mono (by omega))).trans ((set4 W2 u0 u1 u2 u3).mono (by omega))
set_option maxRecDepth 100000 in
set_option maxHeartbeats 4000000 in
theorem copy_one (a ca v cv cq cu b c : Nat) (x y : Int) (Q U : Option Addr) (w : World) (hcv : 1 ≤ cv) (ha : a < w.heap.size) (hv : v < w.heap.size) (hb : b < w.heap.size)
    (r0 : w.cell? ⟨a, 0, none⟩ = some (.int .i64 x)) (r1 : w.cell? ⟨v, 0, none⟩ = some (.slice (some ⟨b, 0, none⟩) 1 c)) (r2 : w.cell? ⟨b, 0, none⟩ = some (.int .i64 y)) :
    Calls Try.prog 47 #[.agg #[.slice (some ⟨a, 0, none⟩) 1 ca, .slice (some ⟨v, 0, none⟩) 1 cv, .slice Q 0 cq, .slice U 0 cu]] w (CopyOut w x y) := by
  go_enter Try.func47, Try.ntmps47
  go_wp2_with fail
  refine wp_world (fun W => (W.cell? ⟨w.heap.size, 0, none⟩ = some (.slice (some ⟨a, 0, none⟩) 1 ca) ∧ W.cell? ⟨w.heap.size, 1, none⟩ = some (.slice (some ⟨v, 0, none⟩) 1 cv) ∧ W.cell? ⟨w.heap.size, 2, none⟩ = some (.slice Q 0 cq) ∧ W.cell? ⟨w.heap.size, 3, none⟩ = some (.slice U 0 cu) ∧ W.cell? ⟨a, 0, none⟩ = some (.int .i64 x) ∧ W.cell? ⟨v, 0, none⟩ = some (.slice (some ⟨b, 0, none⟩) 1 c) ∧ W.cell? ⟨b, 0, none⟩ = some (.int .i64 y) ∧ Below w.heap.size w W ∧ w.heap.size + 2 ≤ W.heap.size) ∧ TF (w.heap.size + 1) W) ⟨⟨row_of (blkUp (blkA _ _ rfl) _) 0, row_of (blkUp (blkA _ _ rfl) _) 1, row_of (blkUp (blkA _ _ rfl) _) 2, row_of (blkUp (blkA _ _ rfl) _) 3, ?_, ?_, ?_, ((Below.refl _ _).alloc (Nat.le_refl _) _).alloc (by simp) _, by simp⟩, TF.mk (blkA _ _ (by simp))⟩ ?_
  · exact ((((Below.refl _ _).alloc (Nat.le_refl _) _).alloc (by simp) _).cell (p := ⟨a, 0, none⟩) ha).trans r0
  · exact ((((Below.refl _ _).alloc (Nat.le_refl _) _).alloc (by simp) _).cell (p := ⟨v, 0, none⟩) hv).trans r1
  · exact ((((Below.refl _ _).alloc (Nat.le_refl _) _).alloc (by simp) _).cell (p := ⟨b, 0, none⟩) hb).trans r2
  rintro w1 ⟨hS, t⟩
  replace t : TF (w.heap.size + 1) w1.drew := t
  have hS' := hS
  obtain ⟨q0, q1, q2, q3, g0, g1, g2, hw1, hz1⟩ := hS
  have la : a < w1.heap.size := by omega
  have lv : v < w1.heap.size := by omega
  have lb : b < w1.heap.size := by omega
  clear r0 r1 r2
  go_region_held3 (fun W => W.cell? ⟨w.heap.size, 0, none⟩ = some (.slice (some ⟨a, 0, none⟩) 1 ca) ∧ W.cell? ⟨w.heap.size, 1, none⟩ = some (.slice (some ⟨v, 0, none⟩) 1 cv) ∧ W.cell? ⟨w.heap.size, 2, none⟩ = some (.slice Q 0 cq) ∧ W.cell? ⟨w.heap.size, 3, none⟩ = some (.slice U 0 cu) ∧ W.cell? ⟨a, 0, none⟩ = some (.int .i64 x) ∧ W.cell? ⟨v, 0, none⟩ = some (.slice (some ⟨b, 0, none⟩) 1 c) ∧ W.cell? ⟨b, 0, none⟩ = some (.int .i64 y) ∧ Below w.heap.size w W ∧ w.heap.size + 2 ≤ W.heap.size) (first | assumption | ((with_reducible refine keepC ha hv hb hS' ?_); exact (Below.refl _ _).drew) | ((with_reducible refine keepC ha hv hb ?_ (set4 _ _ _ _ _)); assumption) | ((with_reducible refine keepD ha hv hb ?_ hbS); assumption))
    (first
      | (go_at_call 32; refine (copyInt_none U cu _).mono ?_; rintro e wn ⟨rfl, rfl⟩)
      | (go_at_call 57; refine (copyMsgs_none Q cq _).mono ?_; rintro e wn ⟨rfl, rfl⟩)
      | (go_at_call 32; refine (atC (a := a) (ca := ca) (v := v) (cv := cv) (cq := cq) (cu := cu) (b := b) (c := c) (x := x) (y := y) (Q := Q) (U := U) (w := w) ha ?_).mono ?_; (focus assumption); rintro e wA ⟨gA, cA, rfl, hA, hbA⟩; have hbS := hbA; replace t := t.keep (by omega) hbS; have t' := t; obtain ⟨t0, t1, t2, t3, f0, f1, f2, f3⟩ := t')
      | (go_at_call 56; refine (varsC (a := a) (ca := ca) (v := v) (cv := cv) (cq := cq) (cu := cu) (b := b) (c := c) (x := x) (y := y) (Q := Q) (U := U) (w := w) hcv hv hb ?_).mono ?_; (focus assumption); rintro e wV ⟨gV, cV, gB, cB, rfl, hV, hVb, hbV⟩; have hbS := hbV; replace t := t.keep (by omega) hbS; have t' := t; obtain ⟨t0, t1, t2, t3, f0, f1, f2, f3⟩ := t'))
  all_goals
    first
      | (have hf := finAV hw1.drew hz1 hA hbA hV hVb hbV (.slice (some ⟨gA, 0, none⟩) 1 cA) (.slice (some ⟨gV, 0, none⟩) 1 cV) (.slice none 0 0) (.slice none 0 0))
      | (have hf := finVA hw1.drew hz1 hV hVb hbV hA hbA (.slice (some ⟨gA, 0, none⟩) 1 cA) (.slice (some ⟨gV, 0, none⟩) 1 cV) (.slice none 0 0) (.slice none 0 0))
    replace hf := Lib.hid hf
    clear hA hV hVb hbA hbV
    go_wp2_with fail
    trace_state
    exact bodyPost_ret (v := .agg #[.slice (some ⟨gA, 0, none⟩) 1 cA, .slice (some ⟨gV, 0, none⟩) 1 cV, .slice none 0 0, .slice none 0 0]) (by simp [results, Try.results47, go_sem, *]) rfl ⟨_, rfl, hf.out.1, hf.out.2⟩
end Go.Proofs.Ytmcomhjfpegieaa

