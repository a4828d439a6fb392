/-
  QueueOrders' walk.
-/
import Derived.Test.YtgepaajhccadhaaQu
namespace Go.Proofs.Ytgepaajhccadhaa
open Go.RowKit
def cells3 (ps : List (Int × Int × Int)) : List Value := ps.flatMap fun p => [.int .i64 p.1, .int .i64 p.2.1, .int .i64 p.2.2]
theorem cells3_at (ps : List (Int × Int × Int)) (k : Nat) (p : Int × Int × Int) (h : ps[k]? = some p) : (cells3 ps)[k * 3]? = some (.int .i64 p.1) ∧ (cells3 ps)[k * 3 + 1]? = some (.int .i64 p.2.1) ∧ (cells3 ps)[k * 3 + 2]? = some (.int .i64 p.2.2) := by
  induction ps generalizing k with
  | nil => simp at h
  | cons x l ih =>
    have e : cells3 (x :: l) = .int .i64 x.1 :: .int .i64 x.2.1 :: .int .i64 x.2.2 :: cells3 l := rfl
    cases k with
    | zero => simp at h; subst h; rw [e]; exact ⟨rfl, rfl, rfl⟩
    | succ k =>
      have t := ih k (by simpa using h)
      rw [e, show (k + 1) * 3 = k * 3 + 1 + 1 + 1 by omega]
      exact t
theorem trow_cells {W : World} {g : Nat} {T : TypeId} {cs : Array Value} {ps : List (Int × Int × Int)} (h : W.heap[g]? = some (.cells cs T (0, 0))) (hc : cs.toList = cells3 ps) : TRow W (some ⟨g, 0, none⟩) ps := by
  refine .inr ⟨⟨g, 0, none⟩, rfl, blk_lt h, fun k t l hi hp => ?_⟩
  obtain ⟨c0, c1, c2⟩ := cells3_at ps k _ hp
  have hr := row_of h
  have hg : ∀ j v, (cells3 ps)[j]? = some v → W.cell? ⟨g, j, none⟩ = some v := by
    intro j v hv
    rw [hr j, ← hv, ← hc]
    simp
  have e : (⟨g, 0, none⟩ : Addr).add (k * 3) = ⟨g, k * 3, none⟩ := by simp [Addr.add]; omega
  rw [e]
  exact ⟨hg _ _ c0, hg _ _ c1, hg _ _ c2⟩
theorem build_out {n : Nat} {cs : Int} {A : Option Addr} {m ca : Nat} {ps : List (Int × Int × Int)} {w : World} {h : Int} {xs : List (Int × Int)} (hn : n = 1 ∨ n = 2 ∨ n = 3 ∨ n = 4) (hc1 : 1 ≤ cs) (hc2 : cs ≤ 2147483647) (hm : ps.length = m) (hmb : m ≤ 9223372036854775807) (hp : TRow w A ps) (hr : buildP cs n ps = (h, xs)) :
    Calls Try.prog 9 #[.int .i64 (n : Int), .int .i64 cs, .slice A m ca] w fun e w' => ∃ g cap g' cap', e = .returned (.tuple #[.agg #[.int .i64 0, .int .i64 h, .slice (some ⟨g, 0, none⟩) n cap], .agg #[.int .i64 0, .int .i64 h, .slice (some ⟨g', 0, none⟩) n cap'], .bool true]) ∧ ElemAt w' w.heap.size 25 g cap xs ∧ ElemAt w' w.heap.size 29 g' cap' xs ∧ Below w.heap.size w w' := by
  have u := build_row n cs A m ca ps w hn hc1 hc2 hm hmb hp
  rw [hr] at u
  exact u
def OrRel (w : World) (h h3 : Int) (xs : List (Int × Int)) (b2 b4 b6 b7 g1 c1 g2 c2 g3 c3 g4 c4 : Nat) (vi : Value) (wr : World) : Prop := ∃ k : Nat, k ≤ 3 ∧ vi = .int .i64 k ∧ wr.heap[b2]? = some (.cells #[.int .i64 0, .int .i64 h, .slice (some ⟨g1, 0, none⟩) 3 c1] 28 (0, 0)) ∧ wr.heap[b4]? = some (.cells #[.int .i64 0, .int .i64 h, .slice (some ⟨g2, 0, none⟩) 3 c2] 28 (0, 0)) ∧ wr.heap[b6]? = some (.cells #[.int .i64 0, .int .i64 h3, .slice (some ⟨g3, 0, none⟩) 3 c3] 28 (0, 0)) ∧ wr.heap[b7]? = some (.cells #[.int .i64 0, .int .i64 h3, .slice (some ⟨g4, 0, none⟩) 3 c4] 32 (0, 0)) ∧ ElemAt wr 0 25 g1 c1 xs ∧ ElemAt wr 0 25 g2 c2 xs ∧ ElemAt wr 0 25 g3 c3 xs ∧ ElemAt wr 0 29 g4 c4 xs ∧ Below w.heap.size w wr
set_option maxRecDepth 100000 in
set_option maxHeartbeats 8000000 in
theorem orders_probe (ta la ha tb lb hb' : Int) (w : World) :
    Calls Try.prog 7 #[.agg #[.int .i64 ta, .int .i64 la, .int .i64 ha], .agg #[.int .i64 tb, .int .i64 lb, .int .i64 hb']] w fun e w' => e = .returned (.bool true) ∧ Below w.heap.size w w' := by
  obtain ⟨o1, o2, o3⟩ := orders (ta, la, ha) (tb, lb, hb')
  obtain ⟨h, xs, hX⟩ : ∃ h xs, buildP 9 3 [(ta, la, ha), (tb, lb, hb')] = (h, xs) := ⟨_, _, rfl⟩
  obtain ⟨h3, hZ0⟩ : ∃ h3, (buildP 9 3 [(ta, la, ha), (tb, lb, hb'), (ta, la, ha)]).1 = h3 := ⟨_, rfl⟩
  have hY : buildP 9 3 [(tb, lb, hb'), (ta, la, ha)] = (h, xs) := o1.symm.trans hX
  have hZ : buildP 9 3 [(ta, la, ha), (tb, lb, hb'), (ta, la, ha)] = (h3, xs) := Prod.ext hZ0 (o2.trans (by rw [hX]))
  have hle : h ≤ h3 := by rw [hX, hZ0] at o3; exact o3
  have hI := build_inv 9 3 [(ta, la, ha), (tb, lb, hb')] (by decide) (by decide)
  rw [hX] at hI
  have hxl : xs.length = 3 := hI.1
  have hh0 : 0 ≤ h := hI.2.1
  have hin := Lib.hid (in_self (xs := xs) hh0 hle)
  have cb1 := Lib.hid (fun W A (hA : TRow W A [(ta, la, ha), (tb, lb, hb')]) => build_out (m := 2) (ca := 2) (.inr (.inr (.inl rfl))) (by decide) (by decide) rfl (by decide) hA hX)
  have cb2 := Lib.hid (fun W A (hA : TRow W A [(tb, lb, hb'), (ta, la, ha)]) => build_out (m := 2) (ca := 2) (.inr (.inr (.inl rfl))) (by decide) (by decide) rfl (by decide) hA hY)
  have cb3 := Lib.hid (fun W A (hA : TRow W A [(ta, la, ha), (tb, lb, hb'), (ta, la, ha)]) => build_out (m := 3) (ca := 3) (.inr (.inr (.inl rfl))) (by decide) (by decide) rfl (by decide) hA hZ)
  replace hxl := Lib.hid hxl
  clear o1 o2 o3 hX hY hZ hZ0 hI hle hh0
  go_enter Try.func7, Try.ntmps7
  go_upto_region 1 with fail
  refine wp_world (fun W => W.heap[w.heap.size]? = some (.cells #[.int .i64 ta, .int .i64 la, .int .i64 ha] 62 (0, 0)) ∧ W.heap[w.heap.size + 1]? = some (.cells #[.int .i64 tb, .int .i64 lb, .int .i64 hb'] 62 (0, 0)) ∧ Below w.heap.size w W) ⟨blkUp (blkA _ _ (by first | rfl | simp only [World.size_alloc])) _, blkA _ _ (by first | rfl | simp only [World.size_alloc]), ((Below.refl _ _).alloc (by first | exact Nat.le_refl _ | (simp only [World.size_alloc]; omega)) _).alloc (by first | exact Nat.le_refl _ | (simp only [World.size_alloc]; omega)) _⟩ ?_
  rintro w1 ⟨k0, k1, hB⟩
  have r0 := row_of k0
  have f0 := frozen_of k0
  have z0 := blk_lt k0
  have r1 := row_of k1
  have f1 := frozen_of k1
  have z1 := blk_lt k1
  go_wp2_with fail
  refine (cb1.out _ _ (trow_cells (blkA _ _ rfl) rfl)).mono ?_
  rintro e v1 ⟨g1, c1, g1', c1', rfl, hE1, hR1, hb⟩
  replace hb := below_tr (below_al (Below.refl _ _) _) hb
  replace k0 := blk_keep hb k0
  replace k1 := blk_keep hb k1
  replace hB := hB.trans (hb.mono hB.size)
  clear r0 f0 z0 r1 f1 z1
  clear hb
  replace hE1 := Lib.hid (elem_base (b := 0) hE1 (Nat.zero_le _))
  replace hR1 := Lib.hid (elem_base (b := 0) hR1 (Nat.zero_le _))
  go_upto_region 2 with fail
  have hv_w2_0 : w.heap.size < v1.heap.size := blk_lt k0
  have hv_w2_1 : w.heap.size + 1 < v1.heap.size := blk_lt k1
  refine wp_world (fun W => W.heap[w.heap.size]? = some (.cells #[.int .i64 ta, .int .i64 la, .int .i64 ha] 62 (0, 0)) ∧ W.heap[w.heap.size + 1]? = some (.cells #[.int .i64 tb, .int .i64 lb, .int .i64 hb'] 62 (0, 0)) ∧ W.heap[v1.heap.size]? = some (.cells #[.int .i64 0, .int .i64 h, .slice (some ⟨g1, 0, none⟩) 3 c1] 28 (0, 0)) ∧ W.heap[v1.heap.size + 1]? = some (.cells #[.int .i64 0, .int .i64 h, .slice (some ⟨g1', 0, none⟩) 3 c1'] 32 (0, 0)) ∧ ElemAt W 0 25 g1 c1 xs ∧ ElemAt W 0 29 g1' c1' xs ∧ Below w.heap.size w W) ⟨blkUp (blkUp (k0) _) _, blkUp (blkUp (k1) _) _, blkUp (blkA _ _ (by first | rfl | simp only [World.size_alloc])) _, blkA _ _ (by first | rfl | simp only [World.size_alloc]), elem_keep hE1.out (((Below.refl _ _).alloc (by first | exact Nat.le_refl _ | (simp only [World.size_alloc]; omega)) _).alloc (by first | exact Nat.le_refl _ | (simp only [World.size_alloc]; omega)) _), elem_keep hR1.out (((Below.refl _ _).alloc (by first | exact Nat.le_refl _ | (simp only [World.size_alloc]; omega)) _).alloc (by first | exact Nat.le_refl _ | (simp only [World.size_alloc]; omega)) _), ((hB).alloc (by first | exact hB.size | (have := hB.size; simp only [World.size_alloc]; omega)) _).alloc (by first | exact hB.size | (have := hB.size; simp only [World.size_alloc]; omega)) _⟩ ?_
  clear hB k0 k1 hE1 hR1
  rintro w2 ⟨k0, k1, k2, k3, hE1, hR1, hB⟩
  replace hE1 := Lib.hid hE1
  replace hR1 := Lib.hid hR1
  have r0 := row_of k0
  have f0 := frozen_of k0
  have z0 := blk_lt k0
  have r1 := row_of k1
  have f1 := frozen_of k1
  have z1 := blk_lt k1
  have r2 := row_of k2
  have f2 := frozen_of k2
  have z2 := blk_lt k2
  have r3 := row_of k3
  have f3 := frozen_of k3
  have z3 := blk_lt k3
  go_wp2_with fail
  refine (cb2.out _ _ (trow_cells (blkA _ _ rfl) rfl)).mono ?_
  rintro e v2 ⟨g2, c2, g2', c2', rfl, hE2, hR2, hb⟩
  replace hb := below_tr (below_al (Below.refl _ _) _) hb
  replace k0 := blk_keep hb k0
  replace k1 := blk_keep hb k1
  replace k2 := blk_keep hb k2
  replace k3 := blk_keep hb k3
  replace hE1 := Lib.hid (elem_keep hE1.out hb)
  replace hR1 := Lib.hid (elem_keep hR1.out hb)
  replace hB := hB.trans (hb.mono hB.size)
  clear r0 f0 z0 r1 f1 z1 r2 f2 z2 r3 f3 z3
  clear hb
  replace hE2 := Lib.hid (elem_base (b := 0) hE2 (Nat.zero_le _))
  replace hR2 := Lib.hid (elem_base (b := 0) hR2 (Nat.zero_le _))
  go_upto_region 3 with fail
  have hv_w3_0 : w.heap.size < v2.heap.size := blk_lt k0
  have hv_w3_1 : w.heap.size + 1 < v2.heap.size := blk_lt k1
  have hv_w3_2 : v1.heap.size < v2.heap.size := blk_lt k2
  have hv_w3_3 : v1.heap.size + 1 < v2.heap.size := blk_lt k3
  refine wp_world (fun W => W.heap[w.heap.size]? = some (.cells #[.int .i64 ta, .int .i64 la, .int .i64 ha] 62 (0, 0)) ∧ W.heap[w.heap.size + 1]? = some (.cells #[.int .i64 tb, .int .i64 lb, .int .i64 hb'] 62 (0, 0)) ∧ W.heap[v1.heap.size]? = some (.cells #[.int .i64 0, .int .i64 h, .slice (some ⟨g1, 0, none⟩) 3 c1] 28 (0, 0)) ∧ W.heap[v1.heap.size + 1]? = some (.cells #[.int .i64 0, .int .i64 h, .slice (some ⟨g1', 0, none⟩) 3 c1'] 32 (0, 0)) ∧ W.heap[v2.heap.size]? = some (.cells #[.int .i64 0, .int .i64 h, .slice (some ⟨g2, 0, none⟩) 3 c2] 28 (0, 0)) ∧ W.heap[v2.heap.size + 1]? = some (.cells #[.int .i64 0, .int .i64 h, .slice (some ⟨g2', 0, none⟩) 3 c2'] 32 (0, 0)) ∧ ElemAt W 0 25 g1 c1 xs ∧ ElemAt W 0 29 g1' c1' xs ∧ ElemAt W 0 25 g2 c2 xs ∧ ElemAt W 0 29 g2' c2' xs ∧ Below w.heap.size w W) ⟨blkUp (blkUp (k0) _) _, blkUp (blkUp (k1) _) _, blkUp (blkUp (k2) _) _, blkUp (blkUp (k3) _) _, blkUp (blkA _ _ (by first | rfl | simp only [World.size_alloc])) _, blkA _ _ (by first | rfl | simp only [World.size_alloc]), elem_keep hE1.out (((Below.refl _ _).alloc (by first | exact Nat.le_refl _ | (simp only [World.size_alloc]; omega)) _).alloc (by first | exact Nat.le_refl _ | (simp only [World.size_alloc]; omega)) _), elem_keep hR1.out (((Below.refl _ _).alloc (by first | exact Nat.le_refl _ | (simp only [World.size_alloc]; omega)) _).alloc (by first | exact Nat.le_refl _ | (simp only [World.size_alloc]; omega)) _), elem_keep hE2.out (((Below.refl _ _).alloc (by first | exact Nat.le_refl _ | (simp only [World.size_alloc]; omega)) _).alloc (by first | exact Nat.le_refl _ | (simp only [World.size_alloc]; omega)) _), elem_keep hR2.out (((Below.refl _ _).alloc (by first | exact Nat.le_refl _ | (simp only [World.size_alloc]; omega)) _).alloc (by first | exact Nat.le_refl _ | (simp only [World.size_alloc]; omega)) _), ((hB).alloc (by first | exact hB.size | (have := hB.size; simp only [World.size_alloc]; omega)) _).alloc (by first | exact hB.size | (have := hB.size; simp only [World.size_alloc]; omega)) _⟩ ?_
  clear hB k0 k1 k2 k3 hE1 hR1 hE2 hR2
  rintro w3 ⟨k0, k1, k2, k3, k4, k5, hE1, hR1, hE2, hR2, hB⟩
  replace hE1 := Lib.hid hE1
  replace hR1 := Lib.hid hR1
  replace hE2 := Lib.hid hE2
  replace hR2 := Lib.hid hR2
  have r0 := row_of k0
  have f0 := frozen_of k0
  have z0 := blk_lt k0
  have r1 := row_of k1
  have f1 := frozen_of k1
  have z1 := blk_lt k1
  have r2 := row_of k2
  have f2 := frozen_of k2
  have z2 := blk_lt k2
  have r3 := row_of k3
  have f3 := frozen_of k3
  have z3 := blk_lt k3
  have r4 := row_of k4
  have f4 := frozen_of k4
  have z4 := blk_lt k4
  have r5 := row_of k5
  have f5 := frozen_of k5
  have z5 := blk_lt k5
  go_wp2_with fail
  refine (cb3.out _ _ (trow_cells (blkA _ _ rfl) rfl)).mono ?_
  rintro e v3 ⟨g3, c3, g3', c3', rfl, hE3, hR3, hb⟩
  replace hb := below_tr (below_al (Below.refl _ _) _) hb
  replace k0 := blk_keep hb k0
  replace k1 := blk_keep hb k1
  replace k2 := blk_keep hb k2
  replace k3 := blk_keep hb k3
  replace k4 := blk_keep hb k4
  replace k5 := blk_keep hb k5
  replace hE1 := Lib.hid (elem_keep hE1.out hb)
  replace hR1 := Lib.hid (elem_keep hR1.out hb)
  replace hE2 := Lib.hid (elem_keep hE2.out hb)
  replace hR2 := Lib.hid (elem_keep hR2.out hb)
  replace hB := hB.trans (hb.mono hB.size)
  clear r0 f0 z0 r1 f1 z1 r2 f2 z2 r3 f3 z3 r4 f4 z4 r5 f5 z5
  clear hb
  replace hE3 := Lib.hid (elem_base (b := 0) hE3 (Nat.zero_le _))
  replace hR3 := Lib.hid (elem_base (b := 0) hR3 (Nat.zero_le _))
  go_upto_region 4 with fail
  have hv_w4_0 : w.heap.size < v3.heap.size := blk_lt k0
  have hv_w4_1 : w.heap.size + 1 < v3.heap.size := blk_lt k1
  have hv_w4_2 : v1.heap.size < v3.heap.size := blk_lt k2
  have hv_w4_3 : v1.heap.size + 1 < v3.heap.size := blk_lt k3
  have hv_w4_4 : v2.heap.size < v3.heap.size := blk_lt k4
  have hv_w4_5 : v2.heap.size + 1 < v3.heap.size := blk_lt k5
  refine wp_world (fun W => W.heap[w.heap.size]? = some (.cells #[.int .i64 ta, .int .i64 la, .int .i64 ha] 62 (0, 0)) ∧ W.heap[w.heap.size + 1]? = some (.cells #[.int .i64 tb, .int .i64 lb, .int .i64 hb'] 62 (0, 0)) ∧ W.heap[v1.heap.size]? = some (.cells #[.int .i64 0, .int .i64 h, .slice (some ⟨g1, 0, none⟩) 3 c1] 28 (0, 0)) ∧ W.heap[v1.heap.size + 1]? = some (.cells #[.int .i64 0, .int .i64 h, .slice (some ⟨g1', 0, none⟩) 3 c1'] 32 (0, 0)) ∧ W.heap[v2.heap.size]? = some (.cells #[.int .i64 0, .int .i64 h, .slice (some ⟨g2, 0, none⟩) 3 c2] 28 (0, 0)) ∧ W.heap[v2.heap.size + 1]? = some (.cells #[.int .i64 0, .int .i64 h, .slice (some ⟨g2', 0, none⟩) 3 c2'] 32 (0, 0)) ∧ W.heap[v3.heap.size]? = some (.cells #[.int .i64 0, .int .i64 h3, .slice (some ⟨g3, 0, none⟩) 3 c3] 28 (0, 0)) ∧ W.heap[v3.heap.size + 1]? = some (.cells #[.int .i64 0, .int .i64 h3, .slice (some ⟨g3', 0, none⟩) 3 c3'] 32 (0, 0)) ∧ ElemAt W 0 25 g1 c1 xs ∧ ElemAt W 0 29 g1' c1' xs ∧ ElemAt W 0 25 g2 c2 xs ∧ ElemAt W 0 29 g2' c2' xs ∧ ElemAt W 0 25 g3 c3 xs ∧ ElemAt W 0 29 g3' c3' xs ∧ Below w.heap.size w W) ⟨blkUp (blkUp (k0) _) _, blkUp (blkUp (k1) _) _, blkUp (blkUp (k2) _) _, blkUp (blkUp (k3) _) _, blkUp (blkUp (k4) _) _, blkUp (blkUp (k5) _) _, blkUp (blkA _ _ (by first | rfl | simp only [World.size_alloc])) _, blkA _ _ (by first | rfl | simp only [World.size_alloc]), elem_keep hE1.out (((Below.refl _ _).alloc (by first | exact Nat.le_refl _ | (simp only [World.size_alloc]; omega)) _).alloc (by first | exact Nat.le_refl _ | (simp only [World.size_alloc]; omega)) _), elem_keep hR1.out (((Below.refl _ _).alloc (by first | exact Nat.le_refl _ | (simp only [World.size_alloc]; omega)) _).alloc (by first | exact Nat.le_refl _ | (simp only [World.size_alloc]; omega)) _), elem_keep hE2.out (((Below.refl _ _).alloc (by first | exact Nat.le_refl _ | (simp only [World.size_alloc]; omega)) _).alloc (by first | exact Nat.le_refl _ | (simp only [World.size_alloc]; omega)) _), elem_keep hR2.out (((Below.refl _ _).alloc (by first | exact Nat.le_refl _ | (simp only [World.size_alloc]; omega)) _).alloc (by first | exact Nat.le_refl _ | (simp only [World.size_alloc]; omega)) _), elem_keep hE3.out (((Below.refl _ _).alloc (by first | exact Nat.le_refl _ | (simp only [World.size_alloc]; omega)) _).alloc (by first | exact Nat.le_refl _ | (simp only [World.size_alloc]; omega)) _), elem_keep hR3.out (((Below.refl _ _).alloc (by first | exact Nat.le_refl _ | (simp only [World.size_alloc]; omega)) _).alloc (by first | exact Nat.le_refl _ | (simp only [World.size_alloc]; omega)) _), ((hB).alloc (by first | exact hB.size | (have := hB.size; simp only [World.size_alloc]; omega)) _).alloc (by first | exact hB.size | (have := hB.size; simp only [World.size_alloc]; omega)) _⟩ ?_
  clear hB k0 k1 k2 k3 k4 k5 hE1 hR1 hE2 hR2 hE3 hR3
  rintro w4 ⟨k0, k1, k2, k3, k4, k5, k6, k7, hE1, hR1, hE2, hR2, hE3, hR3, hB⟩
  replace hE1 := Lib.hid hE1
  replace hR1 := Lib.hid hR1
  replace hE2 := Lib.hid hE2
  replace hR2 := Lib.hid hR2
  replace hE3 := Lib.hid hE3
  replace hR3 := Lib.hid hR3
  go_wp2_with fail
  refine (sends_any _).mono ?_
  rintro e w5 ⟨rfl, hb⟩
  replace k0 := blk_keep hb k0
  replace k1 := blk_keep hb k1
  replace k2 := blk_keep hb k2
  replace k3 := blk_keep hb k3
  replace k4 := blk_keep hb k4
  replace k5 := blk_keep hb k5
  replace k6 := blk_keep hb k6
  replace k7 := blk_keep hb k7
  replace hE1 := Lib.hid (elem_keep hE1.out hb)
  replace hR1 := Lib.hid (elem_keep hR1.out hb)
  replace hE2 := Lib.hid (elem_keep hE2.out hb)
  replace hR2 := Lib.hid (elem_keep hR2.out hb)
  replace hE3 := Lib.hid (elem_keep hE3.out hb)
  replace hR3 := Lib.hid (elem_keep hR3.out hb)
  replace hB := hB.trans (hb.mono hB.size)
  clear hb
  clear k0 k1 k3 k5 hR1 hR2 cb1 cb2 cb3
  go_wp2_with fail
  generalize v1.heap.size = b2 at *
  generalize v2.heap.size = b4 at *
  generalize v3.heap.size = b6 at *
  go_loopw [14] (fun vi wr => OrRel w h h3 xs b2 b4 b6 (b6 + 1) g1 c1 g2 c2 g3 c3 g3' c3' vi wr) (fun i _ => 3 - (intOf i).toNat)
  case atStart => exact ⟨0, Nat.zero_le _, rfl, k2, k4, k6, k7, hE1.out, hE2.out, hE3.out, hR3.out, hB⟩
  case round =>
    clear k2 k4 k6 k7 hE1 hE2 hE3 hR3 hB
    obtain ⟨k, hk, rfl, k2, k4, k6, k7, hE1, hE2, hE3, hR3, hB⟩ := hrel
    by_cases hlt : k < 3
    · have hlt2 : (k : Int) < 3 := by omega
      have hk0 : (0 : Int) ≤ (k : Int) := by omega
      obtain ⟨p0, p1, hp⟩ := pair_at hxl.out hlt
      have mkS : ∀ W, Below wr.heap.size wr W → W.cell? ⟨b2, 2, none⟩ = some (.slice (some ⟨g1, 0, none⟩) 3 c1) ∧ W.cell? ⟨b4, 2, none⟩ = some (.slice (some ⟨g2, 0, none⟩) 3 c2) ∧ W.cell? ⟨b6, 2, none⟩ = some (.slice (some ⟨g3, 0, none⟩) 3 c3) ∧ W.cell? ⟨b6 + 1, 2, none⟩ = some (.slice (some ⟨g3', 0, none⟩) 3 c3') ∧ W.cell? ⟨g1, k * 2, none⟩ = some (.int .i64 p0) ∧ W.cell? ⟨g1, k * 2 + 1, none⟩ = some (.int .i64 p1) ∧ W.cell? ⟨g2, k * 2, none⟩ = some (.int .i64 p0) ∧ W.cell? ⟨g2, k * 2 + 1, none⟩ = some (.int .i64 p1) ∧ W.cell? ⟨g3, k * 2, none⟩ = some (.int .i64 p0) ∧ W.cell? ⟨g3, k * 2 + 1, none⟩ = some (.int .i64 p1) ∧ W.cell? ⟨g3', k * 2, none⟩ = some (.int .i64 p0) ∧ W.cell? ⟨g3', k * 2 + 1, none⟩ = some (.int .i64 p1) := fun W hw => ⟨row_of (blk_keep hw k2) 2, row_of (blk_keep hw k4) 2, row_of (blk_keep hw k6) 2, row_of (blk_keep hw k7) 2, (elem_cells (elem_keep hE1 hw) hxl.out hlt hp).1, (elem_cells (elem_keep hE1 hw) hxl.out hlt hp).2, (elem_cells (elem_keep hE2 hw) hxl.out hlt hp).1, (elem_cells (elem_keep hE2 hw) hxl.out hlt hp).2, (elem_cells (elem_keep hE3 hw) hxl.out hlt hp).1, (elem_cells (elem_keep hE3 hw) hxl.out hlt hp).2, (elem_cells (elem_keep hR3 hw) hxl.out hlt hp).1, (elem_cells (elem_keep hR3 hw) hxl.out hlt hp).2⟩
      replace hp := Lib.hid hp
      go_upto_region 9 with fail
      have hBn := Below.refl wr.heap.size wr
      have s2 := k2
      have s4 := k4
      have s6 := k6
      have s7 := k7
      replace hE1 := Lib.hid hE1
      replace hE2 := Lib.hid hE2
      replace hE3 := Lib.hid hE3
      replace hR3 := Lib.hid hR3
      clear k2 k4 k6 k7
      go_region_held3 (fun W => W.cell? ⟨b2, 2, none⟩ = some (.slice (some ⟨g1, 0, none⟩) 3 c1) ∧ W.cell? ⟨b4, 2, none⟩ = some (.slice (some ⟨g2, 0, none⟩) 3 c2) ∧ W.cell? ⟨b6, 2, none⟩ = some (.slice (some ⟨g3, 0, none⟩) 3 c3) ∧ W.cell? ⟨b6 + 1, 2, none⟩ = some (.slice (some ⟨g3', 0, none⟩) 3 c3') ∧ W.cell? ⟨g1, k * 2, none⟩ = some (.int .i64 p0) ∧ W.cell? ⟨g1, k * 2 + 1, none⟩ = some (.int .i64 p1) ∧ W.cell? ⟨g2, k * 2, none⟩ = some (.int .i64 p0) ∧ W.cell? ⟨g2, k * 2 + 1, none⟩ = some (.int .i64 p1) ∧ W.cell? ⟨g3, k * 2, none⟩ = some (.int .i64 p0) ∧ W.cell? ⟨g3, k * 2 + 1, none⟩ = some (.int .i64 p1) ∧ W.cell? ⟨g3', k * 2, none⟩ = some (.int .i64 p0) ∧ W.cell? ⟨g3', k * 2 + 1, none⟩ = some (.int .i64 p1))
        (first | (with_reducible exact mkS _ hBn) | (with_reducible exact mkS _ (Below.drew hBn)))
        (fail)
      clear mkS hp
      go_wp2_with fail
      exact ⟨⟨k + 1, by omega, by go_num, s2, s4, s6, s7, hE1.out.drew, hE2.out.drew, hE3.out.drew, hR3.out.drew, hB.drew⟩, by simp [intOf]; omega⟩
    · have hlt2 : ¬ (k : Int) < 3 := by omega
      have cw := Lib.hid (fun W (hw : Below wr.heap.size wr W) => by have u := within_row 0 h 0 h3 (some ⟨g1, 0, none⟩) (some ⟨g3, 0, none⟩) 3 c1 c3 xs xs W hxl.out hxl.out (by decide) (prow_elem (elem_keep hE1 hw)) (prow_elem (elem_keep hE3 hw)); rw [hin.out] at u; exact u)
      have hBn := Below.refl wr.heap.size wr
      have r2 := row_of k2
      have z2 := blk_lt k2
      have r4 := row_of k4
      have z4 := blk_lt k4
      have r6 := row_of k6
      have z6 := blk_lt k6
      go_wp2_with fail
      refine (cw.out _ hBn).mono ?_
      rintro e w6 ⟨rfl, hb⟩
      go_wp2_with fail
      go_ret
      exact ⟨rfl, below_tr hB hb⟩
end Go.Proofs.Ytgepaajhccadhaa
