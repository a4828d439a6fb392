/-
  queue.Send.
-/
import Derived.Test.YtgepaajhccadhaaQe
import Derived.Outline
namespace Go.Proofs.Ytgepaajhccadhaa
open Go.RowKit
theorem cellsOf_at (xs : List (Int × Int)) (k : Nat) (p : Int × Int) (h : xs[k]? = some p) : (cellsOf xs)[k * 2]? = some (.int .i64 p.1) ∧ (cellsOf xs)[k * 2 + 1]? = some (.int .i64 p.2) := by
  induction xs generalizing k with
  | nil => simp at h
  | cons x l ih =>
    have e : cellsOf (x :: l) = .int .i64 x.1 :: .int .i64 x.2 :: cellsOf l := rfl
    cases k with
    | zero => simp at h; subst h; rw [e]; exact ⟨rfl, rfl⟩
    | succ k =>
      have t := ih k (by simpa using h)
      rw [e, show (k + 1) * 2 = k * 2 + 1 + 1 by omega]
      exact t
theorem cellsOf_set (xs : List (Int × Int)) (k : Nat) (p : Int × Int) : ((cellsOf xs).set (k * 2) (.int .i64 p.1)).set (k * 2 + 1) (.int .i64 p.2) = cellsOf (xs.set k p) := by
  induction xs generalizing k with
  | nil => simp [cellsOf]
  | cons x l ih =>
    have e : cellsOf (x :: l) = .int .i64 x.1 :: .int .i64 x.2 :: cellsOf l := rfl
    cases k with
    | zero => rw [e]; rfl
    | succ k =>
      have t := ih k
      rw [e, show (k + 1) * 2 = k * 2 + 1 + 1 by omega]
      simp only [List.set_cons_succ]
      rw [t]
      rfl
theorem copied_n (l h : Int) (b c base n : Nat) (xs : List (Int × Int)) (w : World) (hm : xs.length = n) (hn : 0 < n) (hs : n ≤ 1000) (hx : ElemAt w base 25 b c xs) :
    Calls Try.prog 37 #[.agg #[.int .i64 l, .int .i64 h, .slice (some ⟨b, 0, none⟩) n c]] w fun e w' => ∃ g cap, e = .returned (.agg #[.int .i64 l, .int .i64 h, .slice (some ⟨g, 0, none⟩) n cap]) ∧ ElemAt w' w.heap.size 25 g cap xs ∧ Below w.heap.size w w' := by
  subst hm
  exact copied_any l h b c base xs w hn hs hx
theorem elem_keep {W W' : World} {b : Nat} {t : TypeId} {g cap : Nat} {xs : List (Int × Int)} (h : ElemAt W b t g cap xs) (hb : Below W.heap.size W W') : ElemAt W' b t g cap xs := own_keep h hb
theorem elem_up {W : World} {b : Nat} {t : TypeId} {g cap : Nat} {xs : List (Int × Int)} (h : ElemAt W b t g cap xs) (x : Obj) : ElemAt (W.alloc x) b t g cap xs := World.ownsRow.alloc h x
/-- What is told behind a message more. -/
def sendP (cs l h : Int) (xs : List (Int × Int)) (tag i0 i1 : Int) : (Int × Int) × List (Int × Int) := if i1 < i0 ∨ tag < 0 ∨ (xs.length : Int) ≤ tag then ((l, h), xs) else (ofP 0 (moreP h cs), xs.set tag.toNat (joinP (xs.getD tag.toNat (1, 0)).1 (xs.getD tag.toNat (1, 0)).2 i0 i1))
set_option maxRecDepth 100000 in
set_option maxHeartbeats 4000000 in
theorem send_no1 (ck cs cf ct l h tag i0 i1 : Int) (R : Option Addr) (rn rc b c base n : Nat) (xs : List (Int × Int)) (w : World) (hm : xs.length = n) (hn : 0 < n) (hs : n ≤ 1000) (hx : ElemAt w base 25 b c xs) (hi : i1 < i0) :
    Calls Try.prog 13 #[.agg #[.int .i64 ck, .int .i64 cs, .int .i64 cf, .int .i64 ct, .int .i64 n, .slice R rn rc], .agg #[.int .i64 l, .int .i64 h, .slice (some ⟨b, 0, none⟩) n c], .int .i64 tag, .agg #[.int .i64 i0, .int .i64 i1]] w (ElemOut w l h xs) := by
  have hd := decide_eq_true hi
  clear hi
  have hcp := Lib.hid (fun (W : World) (hW : Below w.heap.size w W) => copied_n l h b c base n xs W hm hn hs (own_keep hx hW))
  have hbw := (elem_ge hx).2
  replace hx := Lib.hid hx
  replace hm := Lib.hid hm
  go_enter Try.func13, Try.ntmps13
  go_upto_region 1 with fail
  refine wp_world (fun W => W.heap[w.heap.size]? = some (.cells #[.int .i64 ck, .int .i64 cs, .int .i64 cf, .int .i64 ct, .int .i64 n, .slice R rn rc] 42 (0, 0)) ∧ W.heap[w.heap.size + 1]? = some (.cells #[.int .i64 l, .int .i64 h, .slice (some ⟨b, 0, none⟩) n c] 28 (0, 0)) ∧ W.heap[w.heap.size + 2]? = some (.cells #[.int .i64 i0, .int .i64 i1] 25 (0, 0)) ∧ W.heap[w.heap.size + 3]? = some (.cells #[.int .i64 0, .int .i64 0, .slice none 0 0] 28 (0, 0)) ∧ Below w.heap.size w W) ⟨blkUp (blkUp (blkUp (blkA _ _ (by first | rfl | simp only [World.size_alloc])) _) _) _, blkUp (blkUp (blkA _ _ (by first | rfl | simp only [World.size_alloc])) _) _, blkUp (blkA _ _ (by first | rfl | simp only [World.size_alloc])) _, blkA _ _ (by first | rfl | simp only [World.size_alloc]), ((((Below.refl _ _).alloc (by first | exact Nat.le_refl _ | (simp only [World.size_alloc]; omega)) _).alloc (by first | exact Nat.le_refl _ | (simp only [World.size_alloc]; omega)) _).alloc (by first | exact Nat.le_refl _ | (simp only [World.size_alloc]; omega)) _).alloc (by first | exact Nat.le_refl _ | (simp only [World.size_alloc]; omega)) _⟩ ?_
  rintro w1 ⟨k0, k1, k2, k3, hB⟩
  have r0 := row_of k0
  have f0 := frozen_of k0
  have z0 := blk_lt k0
  have r1 := row_of k1
  have f1 := frozen_of k1
  have z1 := blk_lt k1
  have r2 := row_of k2
  have f2 := frozen_of k2
  have z2 := blk_lt k2
  have r3 := row_of k3
  have f3 := frozen_of k3
  have z3 := blk_lt k3
  have hq3 := blk_lt k3
  go_wp2_with fail
  refine (hcp.out _ hB).mono ?_
  rintro e w2 ⟨g, cap, rfl, hE, hb⟩
  replace k0 := blk_keep hb k0
  replace k1 := blk_keep hb k1
  replace k2 := blk_keep hb k2
  replace k3 := blk_keep hb k3
  replace hB := hB.trans (hb.mono hB.size)
  clear r0 f0 z0 r1 f1 z1 r2 f2 z2 r3 f3 z3
  clear hb
  have r0 := row_of k0
  have f0 := frozen_of k0
  have z0 := blk_lt k0
  have r1 := row_of k1
  have f1 := frozen_of k1
  have z1 := blk_lt k1
  have r2 := row_of k2
  have f2 := frozen_of k2
  have z2 := blk_lt k2
  have r3 := row_of k3
  have f3 := frozen_of k3
  have z3 := blk_lt k3
  go_upto_region 2 with fail
  have hz1_0 : w.heap.size < w2.heap.size := blk_lt k0
  have hz1_1 : w.heap.size + 1 < w2.heap.size := blk_lt k1
  have hz1_2 : w.heap.size + 2 < w2.heap.size := blk_lt k2
  have hz1_3 : w.heap.size + 3 < w2.heap.size := blk_lt k3
  refine wp_world (fun W => W.heap[w.heap.size]? = some (.cells #[.int .i64 ck, .int .i64 cs, .int .i64 cf, .int .i64 ct, .int .i64 n, .slice R rn rc] 42 (0, 0)) ∧ W.heap[w.heap.size + 1]? = some (.cells #[.int .i64 l, .int .i64 h, .slice (some ⟨b, 0, none⟩) n c] 28 (0, 0)) ∧ W.heap[w.heap.size + 2]? = some (.cells #[.int .i64 i0, .int .i64 i1] 25 (0, 0)) ∧ W.heap[w.heap.size + 3]? = some (.cells #[.int .i64 0, .int .i64 0, .slice none 0 0] 28 (0, 0)) ∧ W.heap[w2.heap.size]? = some (.cells #[.int .i64 l, .int .i64 h, .slice (some ⟨g, 0, none⟩) n cap] 28 (0, 0)) ∧ ElemAt W w1.heap.size 25 g cap xs ∧ Below w.heap.size w W) ⟨blkUp (k0) _, blkUp (k1) _, blkUp (k2) _, blkUp (k3) _, blkA _ _ rfl, elem_up hE _, hB.alloc hB.size _⟩ ?_
  have hgg := elem_ge hE
  clear r0 f0 z0 r1 f1 z1 r2 f2 z2 r3 f3 z3
  clear hE hB k0 k1 k2 k3
  rintro w3 ⟨k0, k1, k2, k3, k4, hE0, hB⟩
  replace hE0 := Lib.hid hE0
  have r0 := row_of k0
  have f0 := frozen_of k0
  have z0 := blk_lt k0
  have r1 := row_of k1
  have f1 := frozen_of k1
  have z1 := blk_lt k1
  have r2 := row_of k2
  have f2 := frozen_of k2
  have z2 := blk_lt k2
  have r3 := row_of k3
  have f3 := frozen_of k3
  have z3 := blk_lt k3
  have r4 := row_of k4
  have f4 := frozen_of k4
  have z4 := blk_lt k4
  go_wp2_with fail
  refine (empty_any _ _ _).mono ?_
  rintro e w4 ⟨rfl, hb⟩
  replace k0 := blk_keep hb k0
  replace k1 := blk_keep hb k1
  replace k2 := blk_keep hb k2
  replace k3 := blk_keep hb k3
  replace k4 := blk_keep hb k4
  replace hE0 := Lib.hid (elem_keep hE0.out hb)
  replace hB := hB.trans (hb.mono hB.size)
  clear r0 f0 z0 r1 f1 z1 r2 f2 z2 r3 f3 z3 r4 f4 z4
  clear hb
  have r0 := row_of k0
  have f0 := frozen_of k0
  have z0 := blk_lt k0
  have r1 := row_of k1
  have f1 := frozen_of k1
  have z1 := blk_lt k1
  have r2 := row_of k2
  have f2 := frozen_of k2
  have z2 := blk_lt k2
  have r3 := row_of k3
  have f3 := frozen_of k3
  have z3 := blk_lt k3
  have r4 := row_of k4
  have f4 := frozen_of k4
  have z4 := blk_lt k4
  go_wp2_with fail
  generalize hWF : (World.setCell (World.setCell (World.setCell _ _ _) _ _) _ _) = WF
  obtain ⟨kF, kO, bF, _⟩ := put3 k3 _ _ _ hWF.symm
  clear r0 f0 z0 r1 f1 z1 r2 f2 z2 r3 f3 z3 r4 f4 z4
  clear hWF
  have rF := row_of kF
  have q := elem_ge hE0.out
  exact bodyPost_ret (v := .agg #[.int .i64 l, .int .i64 h, .slice (some ⟨g, 0, none⟩) n cap]) (by simp [results, Try.results13, go_sem, rF]) rfl ⟨g, cap, by rw [hm.out], elem_base (elem_same (hE0.out) (fun x hx => kO _ x (by omega) hx)) (by omega), hB.trans (bF _ (by omega))⟩
set_option maxRecDepth 100000 in
set_option maxHeartbeats 4000000 in
theorem send_no2 (ck cs cf ct l h tag i0 i1 : Int) (R : Option Addr) (rn rc b c base n : Nat) (xs : List (Int × Int)) (w : World) (hm : xs.length = n) (hn : 0 < n) (hs : n ≤ 1000) (hx : ElemAt w base 25 b c xs) (hi : i0 ≤ i1) (ht : tag < 0 ∨ (n : Int) ≤ tag) :
    Calls Try.prog 13 #[.agg #[.int .i64 ck, .int .i64 cs, .int .i64 cf, .int .i64 ct, .int .i64 n, .slice R rn rc], .agg #[.int .i64 l, .int .i64 h, .slice (some ⟨b, 0, none⟩) n c], .int .i64 tag, .agg #[.int .i64 i0, .int .i64 i1]] w (ElemOut w l h xs) := by
  have hd : decide (i1 < i0) = false := decide_eq_false (by omega)
  have hp : decide (0 ≤ tag ∧ tag < (n : Int)) = false := decide_eq_false (by omega)
  clear hi ht
  have hpl := Lib.hid (fun W => by have t := isPlace_any tag (n : Int) W; rw [hp] at t; exact t)
  clear hp
  have hcp := Lib.hid (fun (W : World) (hW : Below w.heap.size w W) => copied_n l h b c base n xs W hm hn hs (own_keep hx hW))
  have hbw := (elem_ge hx).2
  replace hx := Lib.hid hx
  replace hm := Lib.hid hm
  go_enter Try.func13, Try.ntmps13
  go_upto_region 1 with fail
  refine wp_world (fun W => W.heap[w.heap.size]? = some (.cells #[.int .i64 ck, .int .i64 cs, .int .i64 cf, .int .i64 ct, .int .i64 n, .slice R rn rc] 42 (0, 0)) ∧ W.heap[w.heap.size + 1]? = some (.cells #[.int .i64 l, .int .i64 h, .slice (some ⟨b, 0, none⟩) n c] 28 (0, 0)) ∧ W.heap[w.heap.size + 2]? = some (.cells #[.int .i64 i0, .int .i64 i1] 25 (0, 0)) ∧ W.heap[w.heap.size + 3]? = some (.cells #[.int .i64 0, .int .i64 0, .slice none 0 0] 28 (0, 0)) ∧ Below w.heap.size w W) ⟨blkUp (blkUp (blkUp (blkA _ _ (by first | rfl | simp only [World.size_alloc])) _) _) _, blkUp (blkUp (blkA _ _ (by first | rfl | simp only [World.size_alloc])) _) _, blkUp (blkA _ _ (by first | rfl | simp only [World.size_alloc])) _, blkA _ _ (by first | rfl | simp only [World.size_alloc]), ((((Below.refl _ _).alloc (by first | exact Nat.le_refl _ | (simp only [World.size_alloc]; omega)) _).alloc (by first | exact Nat.le_refl _ | (simp only [World.size_alloc]; omega)) _).alloc (by first | exact Nat.le_refl _ | (simp only [World.size_alloc]; omega)) _).alloc (by first | exact Nat.le_refl _ | (simp only [World.size_alloc]; omega)) _⟩ ?_
  rintro w1 ⟨k0, k1, k2, k3, hB⟩
  have r0 := row_of k0
  have f0 := frozen_of k0
  have z0 := blk_lt k0
  have r1 := row_of k1
  have f1 := frozen_of k1
  have z1 := blk_lt k1
  have r2 := row_of k2
  have f2 := frozen_of k2
  have z2 := blk_lt k2
  have r3 := row_of k3
  have f3 := frozen_of k3
  have z3 := blk_lt k3
  have hq3 := blk_lt k3
  go_wp2_with fail
  refine (hcp.out _ hB).mono ?_
  rintro e w2 ⟨g, cap, rfl, hE, hb⟩
  replace k0 := blk_keep hb k0
  replace k1 := blk_keep hb k1
  replace k2 := blk_keep hb k2
  replace k3 := blk_keep hb k3
  replace hB := hB.trans (hb.mono hB.size)
  clear r0 f0 z0 r1 f1 z1 r2 f2 z2 r3 f3 z3
  clear hb
  have r0 := row_of k0
  have f0 := frozen_of k0
  have z0 := blk_lt k0
  have r1 := row_of k1
  have f1 := frozen_of k1
  have z1 := blk_lt k1
  have r2 := row_of k2
  have f2 := frozen_of k2
  have z2 := blk_lt k2
  have r3 := row_of k3
  have f3 := frozen_of k3
  have z3 := blk_lt k3
  go_upto_region 2 with fail
  have hz1_0 : w.heap.size < w2.heap.size := blk_lt k0
  have hz1_1 : w.heap.size + 1 < w2.heap.size := blk_lt k1
  have hz1_2 : w.heap.size + 2 < w2.heap.size := blk_lt k2
  have hz1_3 : w.heap.size + 3 < w2.heap.size := blk_lt k3
  refine wp_world (fun W => W.heap[w.heap.size]? = some (.cells #[.int .i64 ck, .int .i64 cs, .int .i64 cf, .int .i64 ct, .int .i64 n, .slice R rn rc] 42 (0, 0)) ∧ W.heap[w.heap.size + 1]? = some (.cells #[.int .i64 l, .int .i64 h, .slice (some ⟨b, 0, none⟩) n c] 28 (0, 0)) ∧ W.heap[w.heap.size + 2]? = some (.cells #[.int .i64 i0, .int .i64 i1] 25 (0, 0)) ∧ W.heap[w.heap.size + 3]? = some (.cells #[.int .i64 0, .int .i64 0, .slice none 0 0] 28 (0, 0)) ∧ W.heap[w2.heap.size]? = some (.cells #[.int .i64 l, .int .i64 h, .slice (some ⟨g, 0, none⟩) n cap] 28 (0, 0)) ∧ ElemAt W w1.heap.size 25 g cap xs ∧ Below w.heap.size w W) ⟨blkUp (k0) _, blkUp (k1) _, blkUp (k2) _, blkUp (k3) _, blkA _ _ rfl, elem_up hE _, hB.alloc hB.size _⟩ ?_
  have hgg := elem_ge hE
  clear r0 f0 z0 r1 f1 z1 r2 f2 z2 r3 f3 z3
  clear hE hB k0 k1 k2 k3
  rintro w3 ⟨k0, k1, k2, k3, k4, hE0, hB⟩
  replace hE0 := Lib.hid hE0
  have r0 := row_of k0
  have f0 := frozen_of k0
  have z0 := blk_lt k0
  have r1 := row_of k1
  have f1 := frozen_of k1
  have z1 := blk_lt k1
  have r2 := row_of k2
  have f2 := frozen_of k2
  have z2 := blk_lt k2
  have r3 := row_of k3
  have f3 := frozen_of k3
  have z3 := blk_lt k3
  have r4 := row_of k4
  have f4 := frozen_of k4
  have z4 := blk_lt k4
  go_wp2_with fail
  refine (empty_any _ _ _).mono ?_
  rintro e w4 ⟨rfl, hb⟩
  replace k0 := blk_keep hb k0
  replace k1 := blk_keep hb k1
  replace k2 := blk_keep hb k2
  replace k3 := blk_keep hb k3
  replace k4 := blk_keep hb k4
  replace hE0 := Lib.hid (elem_keep hE0.out hb)
  replace hB := hB.trans (hb.mono hB.size)
  clear r0 f0 z0 r1 f1 z1 r2 f2 z2 r3 f3 z3 r4 f4 z4
  clear hb
  have r0 := row_of k0
  have f0 := frozen_of k0
  have z0 := blk_lt k0
  have r1 := row_of k1
  have f1 := frozen_of k1
  have z1 := blk_lt k1
  have r2 := row_of k2
  have f2 := frozen_of k2
  have z2 := blk_lt k2
  have r3 := row_of k3
  have f3 := frozen_of k3
  have z3 := blk_lt k3
  have r4 := row_of k4
  have f4 := frozen_of k4
  have z4 := blk_lt k4
  go_wp2_with fail
  refine (hpl.out _).mono ?_
  rintro e w_ ⟨rfl, rfl⟩
  go_wp2_with fail
  generalize hWF : (World.setCell (World.setCell (World.setCell _ _ _) _ _) _ _) = WF
  obtain ⟨kF, kO, bF, _⟩ := put3 k3 _ _ _ hWF.symm
  clear r0 f0 z0 r1 f1 z1 r2 f2 z2 r3 f3 z3 r4 f4 z4
  clear hWF
  have rF := row_of kF
  have q := elem_ge hE0.out
  exact bodyPost_ret (v := .agg #[.int .i64 l, .int .i64 h, .slice (some ⟨g, 0, none⟩) n cap]) (by simp [results, Try.results13, go_sem, rF]) rfl ⟨g, cap, by rw [hm.out], elem_base (elem_same (hE0.out) (fun x hx => kO _ x (by omega) hx)) (by omega), hB.trans (bF _ (by omega))⟩
theorem set31 {W : World} {n : Nat} {t : TypeId} {a b c u v : Value} (h : W.heap[n]? = some (.cells #[a, b, c] t (0, 0))) : ((W.setCell ⟨n, 0, none⟩ u).setCell ⟨n, 1, none⟩ v).heap[n]? = some (.cells #[u, v, c] t (0, 0)) := by simp [World.setCell, Array.getElem?_modify, h]
theorem elem_put {W : World} {b : Nat} {t : TypeId} {g cap k : Nat} {xs : List (Int × Int)} {p : Int × Int} (h : ElemAt W b t g cap xs) : ElemAt ((W.setCell ⟨g, k * 2, none⟩ (.int .i64 p.1)).setCell ⟨g, k * 2 + 1, none⟩ (.int .i64 p.2)) b t g cap (xs.set k p) := by
  have t1 := (World.ownsRow.stored h (k * 2) (.int .i64 p.1)).1
  have t2 := (World.ownsRow.stored t1 (k * 2 + 1) (.int .i64 p.2)).1
  rw [cellsOf_set] at t2
  unfold ElemAt
  rw [List.length_set]
  exact t2
theorem elem_cells {W : World} {b : Nat} {t : TypeId} {g cap k n : Nat} {xs : List (Int × Int)} {p0 p1 : Int} (h : ElemAt W b t g cap xs) (hm : xs.length = n) (hk : k < n) (hp : xs[k]? = some (p0, p1)) : W.cell? ⟨g, k * 2, none⟩ = some (.int .i64 p0) ∧ W.cell? ⟨g, k * 2 + 1, none⟩ = some (.int .i64 p1) := by
  have c := cellsOf_at xs k (p0, p1) hp
  exact ⟨(World.ownsRow.cellAt h (k * 2) (by omega)).trans c.1, (World.ownsRow.cellAt h (k * 2 + 1) (by omega)).trans c.2⟩
set_option maxRecDepth 100000 in
set_option maxHeartbeats 4000000 in
theorem send_yes (ck cs cf ct l h i0 i1 p0 p1 j0 j1 o0 o1 : Int) (R : Option Addr) (rn rc b c base n k : Nat) (xs : List (Int × Int)) (w : World) (hm : xs.length = n) (hn : 0 < n) (hs : n ≤ 1000) (hx : ElemAt w base 25 b c xs) (hi : i0 ≤ i1) (hk : k < n) (hp : xs[k]? = some (p0, p1)) (hh : -9223372036854775808 ≤ h) (hc : cs ≤ 9223372036854775807) (hj : joinP p0 p1 i0 i1 = (j0, j1)) (ho : ofP 0 (moreP h cs) = (o0, o1)) :
    Calls Try.prog 13 #[.agg #[.int .i64 ck, .int .i64 cs, .int .i64 cf, .int .i64 ct, .int .i64 n, .slice R rn rc], .agg #[.int .i64 l, .int .i64 h, .slice (some ⟨b, 0, none⟩) n c], .int .i64 (k : Int), .agg #[.int .i64 i0, .int .i64 i1]] w (ElemOut w o0 o1 (xs.set k (j0, j1))) := by
  have hd : decide (i1 < i0) = false := decide_eq_false (by omega)
  have hpl := Lib.hid (fun W => by have t := isPlace_any (k : Int) (n : Int) W; rw [decide_eq_true (show (0 : Int) ≤ (k : Int) ∧ (k : Int) < (n : Int) by omega)] at t; exact t)
  have hom := Lib.hid (fun W => oneMore_any h cs W hh hc)
  have hof := Lib.hid (fun W => by have t := of_any 0 (moreP h cs) W; rw [ho] at t; exact t)
  have hjn := Lib.hid (fun W => by have t := join_any p0 p1 i0 i1 W; rw [hj] at t; exact t)
  replace hp := Lib.hid hp
  clear hi hj ho
  have hcp := Lib.hid (fun (W : World) (hW : Below w.heap.size w W) => copied_n l h b c base n xs W hm hn hs (own_keep hx hW))
  have hbw := (elem_ge hx).2
  replace hx := Lib.hid hx
  replace hm := Lib.hid hm
  go_enter Try.func13, Try.ntmps13
  go_upto_region 1 with fail
  refine wp_world (fun W => W.heap[w.heap.size]? = some (.cells #[.int .i64 ck, .int .i64 cs, .int .i64 cf, .int .i64 ct, .int .i64 n, .slice R rn rc] 42 (0, 0)) ∧ W.heap[w.heap.size + 1]? = some (.cells #[.int .i64 l, .int .i64 h, .slice (some ⟨b, 0, none⟩) n c] 28 (0, 0)) ∧ W.heap[w.heap.size + 2]? = some (.cells #[.int .i64 i0, .int .i64 i1] 25 (0, 0)) ∧ W.heap[w.heap.size + 3]? = some (.cells #[.int .i64 0, .int .i64 0, .slice none 0 0] 28 (0, 0)) ∧ Below w.heap.size w W) ⟨blkUp (blkUp (blkUp (blkA _ _ (by first | rfl | simp only [World.size_alloc])) _) _) _, blkUp (blkUp (blkA _ _ (by first | rfl | simp only [World.size_alloc])) _) _, blkUp (blkA _ _ (by first | rfl | simp only [World.size_alloc])) _, blkA _ _ (by first | rfl | simp only [World.size_alloc]), ((((Below.refl _ _).alloc (by first | exact Nat.le_refl _ | (simp only [World.size_alloc]; omega)) _).alloc (by first | exact Nat.le_refl _ | (simp only [World.size_alloc]; omega)) _).alloc (by first | exact Nat.le_refl _ | (simp only [World.size_alloc]; omega)) _).alloc (by first | exact Nat.le_refl _ | (simp only [World.size_alloc]; omega)) _⟩ ?_
  rintro w1 ⟨k0, k1, k2, k3, hB⟩
  have r0 := row_of k0
  have f0 := frozen_of k0
  have z0 := blk_lt k0
  have r1 := row_of k1
  have f1 := frozen_of k1
  have z1 := blk_lt k1
  have r2 := row_of k2
  have f2 := frozen_of k2
  have z2 := blk_lt k2
  have r3 := row_of k3
  have f3 := frozen_of k3
  have z3 := blk_lt k3
  have hq3 := blk_lt k3
  go_wp2_with fail
  refine (hcp.out _ hB).mono ?_
  rintro e w2 ⟨g, cap, rfl, hE, hb⟩
  replace k0 := blk_keep hb k0
  replace k1 := blk_keep hb k1
  replace k2 := blk_keep hb k2
  replace k3 := blk_keep hb k3
  replace hB := hB.trans (hb.mono hB.size)
  clear r0 f0 z0 r1 f1 z1 r2 f2 z2 r3 f3 z3
  clear hb
  have r0 := row_of k0
  have f0 := frozen_of k0
  have z0 := blk_lt k0
  have r1 := row_of k1
  have f1 := frozen_of k1
  have z1 := blk_lt k1
  have r2 := row_of k2
  have f2 := frozen_of k2
  have z2 := blk_lt k2
  have r3 := row_of k3
  have f3 := frozen_of k3
  have z3 := blk_lt k3
  go_upto_region 2 with fail
  have hz1_0 : w.heap.size < w2.heap.size := blk_lt k0
  have hz1_1 : w.heap.size + 1 < w2.heap.size := blk_lt k1
  have hz1_2 : w.heap.size + 2 < w2.heap.size := blk_lt k2
  have hz1_3 : w.heap.size + 3 < w2.heap.size := blk_lt k3
  refine wp_world (fun W => W.heap[w.heap.size]? = some (.cells #[.int .i64 ck, .int .i64 cs, .int .i64 cf, .int .i64 ct, .int .i64 n, .slice R rn rc] 42 (0, 0)) ∧ W.heap[w.heap.size + 1]? = some (.cells #[.int .i64 l, .int .i64 h, .slice (some ⟨b, 0, none⟩) n c] 28 (0, 0)) ∧ W.heap[w.heap.size + 2]? = some (.cells #[.int .i64 i0, .int .i64 i1] 25 (0, 0)) ∧ W.heap[w.heap.size + 3]? = some (.cells #[.int .i64 0, .int .i64 0, .slice none 0 0] 28 (0, 0)) ∧ W.heap[w2.heap.size]? = some (.cells #[.int .i64 l, .int .i64 h, .slice (some ⟨g, 0, none⟩) n cap] 28 (0, 0)) ∧ ElemAt W w1.heap.size 25 g cap xs ∧ Below w.heap.size w W) ⟨blkUp (k0) _, blkUp (k1) _, blkUp (k2) _, blkUp (k3) _, blkA _ _ rfl, elem_up hE _, hB.alloc hB.size _⟩ ?_
  have hgg := elem_ge hE
  clear r0 f0 z0 r1 f1 z1 r2 f2 z2 r3 f3 z3
  clear hE hB k0 k1 k2 k3
  rintro w3 ⟨k0, k1, k2, k3, k4, hE0, hB⟩
  replace hE0 := Lib.hid hE0
  have r0 := row_of k0
  have f0 := frozen_of k0
  have z0 := blk_lt k0
  have r1 := row_of k1
  have f1 := frozen_of k1
  have z1 := blk_lt k1
  have r2 := row_of k2
  have f2 := frozen_of k2
  have z2 := blk_lt k2
  have r3 := row_of k3
  have f3 := frozen_of k3
  have z3 := blk_lt k3
  have r4 := row_of k4
  have f4 := frozen_of k4
  have z4 := blk_lt k4
  go_wp2_with fail
  refine (empty_any _ _ _).mono ?_
  rintro e w4 ⟨rfl, hb⟩
  replace k0 := blk_keep hb k0
  replace k1 := blk_keep hb k1
  replace k2 := blk_keep hb k2
  replace k3 := blk_keep hb k3
  replace k4 := blk_keep hb k4
  replace hE0 := Lib.hid (elem_keep hE0.out hb)
  replace hB := hB.trans (hb.mono hB.size)
  clear r0 f0 z0 r1 f1 z1 r2 f2 z2 r3 f3 z3 r4 f4 z4
  clear hb
  have r0 := row_of k0
  have f0 := frozen_of k0
  have z0 := blk_lt k0
  have r1 := row_of k1
  have f1 := frozen_of k1
  have z1 := blk_lt k1
  have r2 := row_of k2
  have f2 := frozen_of k2
  have z2 := blk_lt k2
  have r3 := row_of k3
  have f3 := frozen_of k3
  have z3 := blk_lt k3
  have r4 := row_of k4
  have f4 := frozen_of k4
  have z4 := blk_lt k4
  go_wp2_with fail
  refine (hpl.out _).mono ?_
  rintro e w_ ⟨rfl, rfl⟩
  go_wp2_with fail
  refine (hpl.out _).mono ?_
  rintro e w_ ⟨rfl, rfl⟩
  clear hd
  go_wp2_with fail
  refine (hom.out _).mono ?_
  rintro e w_ ⟨rfl, rfl⟩
  go_wp2_with fail
  refine (hof.out _).mono ?_
  rintro e w5 ⟨rfl, hb⟩
  replace k0 := blk_keep hb k0
  replace k1 := blk_keep hb k1
  replace k2 := blk_keep hb k2
  replace k3 := blk_keep hb k3
  replace k4 := blk_keep hb k4
  replace hE0 := Lib.hid (elem_keep hE0.out hb)
  replace hB := hB.trans (hb.mono hB.size)
  clear r0 f0 z0 r1 f1 z1 r2 f2 z2 r3 f3 z3 r4 f4 z4
  clear hb
  have r0 := row_of k0
  have f0 := frozen_of k0
  have z0 := blk_lt k0
  have r1 := row_of k1
  have f1 := frozen_of k1
  have z1 := blk_lt k1
  have r2 := row_of k2
  have f2 := frozen_of k2
  have z2 := blk_lt k2
  have r3 := row_of k3
  have f3 := frozen_of k3
  have z3 := blk_lt k3
  have r4 := row_of k4
  have f4 := frozen_of k4
  have z4 := blk_lt k4
  go_upto_region 5 with fail
  refine wp_world (fun W => W.heap[w.heap.size]? = some (.cells #[.int .i64 ck, .int .i64 cs, .int .i64 cf, .int .i64 ct, .int .i64 n, .slice R rn rc] 42 (0, 0)) ∧ W.heap[w.heap.size + 1]? = some (.cells #[.int .i64 l, .int .i64 h, .slice (some ⟨b, 0, none⟩) n c] 28 (0, 0)) ∧ W.heap[w.heap.size + 2]? = some (.cells #[.int .i64 i0, .int .i64 i1] 25 (0, 0)) ∧ W.heap[w.heap.size + 3]? = some (.cells #[.int .i64 0, .int .i64 0, .slice none 0 0] 28 (0, 0)) ∧ W.heap[w2.heap.size]? = some (.cells #[.int .i64 o0, .int .i64 o1, .slice (some ⟨g, 0, none⟩) n cap] 28 (0, 0)) ∧ ElemAt W w1.heap.size 25 g cap xs ∧ ElemAt W base 25 b c xs ∧ Below w.heap.size w W) ⟨blk_set (blk_set k0 (by omega)) (by omega), blk_set (blk_set k1 (by omega)) (by omega), blk_set (blk_set k2 (by omega)) (by omega), blk_set (blk_set k3 (by omega)) (by omega), set31 k4, elem_same hE0.out (fun x hx => blk_set (blk_set hx (by omega)) (by omega)), elem_same (elem_keep hx.out hB) (fun x hx => blk_set (blk_set hx (by omega)) (by omega)), (hB.setCell (p := ⟨w2.heap.size, 0, none⟩) (by show w.heap.size ≤ w2.heap.size; omega) _).setCell (p := ⟨w2.heap.size, 1, none⟩) (by show w.heap.size ≤ w2.heap.size; omega) _⟩ ?_
  clear r0 f0 z0 r1 f1 z1 r2 f2 z2 r3 f3 z3 r4 f4 z4
  clear hB hE0 k0 k1 k2 k3 k4
  rintro w6 ⟨k0, k1, k2, k3, k4, hE0, hX, hB⟩
  have q := elem_ge hE0
  have hX2 := elem_cells hX hm.out hk hp.out
  replace hE0 := Lib.hid hE0
  have hk0 : (0 : Int) ≤ (k : Int) := by omega
  have hk1 : (k : Int) < (n : Int) := by omega
  have hbl : b < w6.heap.size := (elem_ge hX).2
  have mkS : ∀ W, Below w6.heap.size w6 W → (fun W => W.cell? ⟨w2.heap.size, 2, none⟩ = some (.slice (some ⟨g, 0, none⟩) n cap) ∧ W.cell? ⟨w.heap.size + 1, 2, none⟩ = some (.slice (some ⟨b, 0, none⟩) n c) ∧ W.cell? ⟨b, k * 2, none⟩ = some (.int .i64 p0) ∧ W.cell? ⟨b, k * 2 + 1, none⟩ = some (.int .i64 p1) ∧ W.cell? ⟨w.heap.size + 2, 0, none⟩ = some (.int .i64 i0) ∧ W.cell? ⟨w.heap.size + 2, 1, none⟩ = some (.int .i64 i1)) W := fun W h => ⟨row_of (blk_keep h k4) 2, row_of (blk_keep h k1) 2, (h.cell (p := ⟨b, k * 2, none⟩) hbl).trans hX2.1, (h.cell (p := ⟨b, k * 2 + 1, none⟩) hbl).trans hX2.2, row_of (blk_keep h k2) 0, row_of (blk_keep h k2) 1⟩
  have n4 : w2.heap.size ≠ g := by omega
  have n1 : w.heap.size + 1 ≠ g := by omega
  have n2 : w.heap.size + 2 ≠ g := by omega
  have n3 : w.heap.size + 3 ≠ g := by omega
  have nb : b ≠ g := by omega
  have hbm := Lib.hid (fun (W : World) (u v : Value) (h : Below w6.heap.size w6 W) => elem_cells (elem_same (elem_keep hX h) (fun x hx => blk_set (W := (W.setCell ⟨g, k * 2, none⟩ u)) (o := k * 2 + 1) (v := v) (blk_set (o := k * 2) (v := u) hx nb) nb)) hm.out hk hp.out)
  have mkT : ∀ (W : World) (u v : Value), Below w6.heap.size w6 W → (fun W => W.cell? ⟨w2.heap.size, 2, none⟩ = some (.slice (some ⟨g, 0, none⟩) n cap) ∧ W.cell? ⟨w.heap.size + 1, 2, none⟩ = some (.slice (some ⟨b, 0, none⟩) n c) ∧ W.cell? ⟨b, k * 2, none⟩ = some (.int .i64 p0) ∧ W.cell? ⟨b, k * 2 + 1, none⟩ = some (.int .i64 p1) ∧ W.cell? ⟨w.heap.size + 2, 0, none⟩ = some (.int .i64 i0) ∧ W.cell? ⟨w.heap.size + 2, 1, none⟩ = some (.int .i64 i1)) ((W.setCell ⟨g, k * 2, none⟩ u).setCell ⟨g, k * 2 + 1, none⟩ v) := fun W u v h => ⟨row_of (blk_set (blk_set (blk_keep h k4) n4) n4) 2, row_of (blk_set (blk_set (blk_keep h k1) n1) n1) 2, (hbm.out W u v h).1, (hbm.out W u v h).2, row_of (blk_set (blk_set (blk_keep h k2) n2) n2) 0, row_of (blk_set (blk_set (blk_keep h k2) n2) n2) 1⟩
  dsimp only at mkS mkT
  clear hbm
  have hBn := Below.refl w6.heap.size w6
  have s0 := k0
  have s1 := k1
  have s2 := k2
  have s3 := k3
  have s4 := k4
  clear hX hX2 k0 k1 k2 k3 k4
  go_region_held3 (fun W => W.cell? ⟨w2.heap.size, 2, none⟩ = some (.slice (some ⟨g, 0, none⟩) n cap) ∧ W.cell? ⟨w.heap.size + 1, 2, none⟩ = some (.slice (some ⟨b, 0, none⟩) n c) ∧ W.cell? ⟨b, k * 2, none⟩ = some (.int .i64 p0) ∧ W.cell? ⟨b, k * 2 + 1, none⟩ = some (.int .i64 p1) ∧ W.cell? ⟨w.heap.size + 2, 0, none⟩ = some (.int .i64 i0) ∧ W.cell? ⟨w.heap.size + 2, 1, none⟩ = some (.int .i64 i1))
      (first | (with_reducible exact mkS _ hBn) | (with_reducible exact mkS _ (Below.drew hBn)) | (with_reducible exact mkT _ _ _ hBn))
      (first | (go_at_call 40; (with_reducible refine (hjn.out _).mono ?_); rintro e wn ⟨rfl, hbS⟩; (try (with_reducible replace hbS := below_undrew hbS)); replace hBn := below_tr hBn hbS; have hE1 := elem_keep hE0.out hBn; have hC := elem_cells hE1 hm.out hk hp.out; obtain ⟨hC0, hC1⟩ := hC; have hF := World.ownsRow.frozenAt hE1; have hlg : g < wn.heap.size := (elem_ge hE1).2; replace hE1 := Lib.hid hE1))
  go_upto_region 6 with fail
  refine wp_world (fun W => W.heap[w.heap.size + 3]? = some (.cells #[.int .i64 0, .int .i64 0, .slice none 0 0] 28 (0, 0)) ∧ W.heap[w2.heap.size]? = some (.cells #[.int .i64 o0, .int .i64 o1, .slice (some ⟨g, 0, none⟩) n cap] 28 (0, 0)) ∧ ElemAt W w1.heap.size 25 g cap (xs.set k (j0, j1)) ∧ Below w.heap.size w W) ⟨blk_set (blk_set (blk_keep hBn s3) n3) n3, blk_set (blk_set (blk_keep hBn s4) n4) n4, elem_put (p := (j0, j1)) (elem_keep hE0.out hBn), ((below_tr hB hBn).setCell (p := ⟨g, k * 2, none⟩) (by show w.heap.size ≤ g; omega) _).setCell (p := ⟨g, k * 2 + 1, none⟩) (by show w.heap.size ≤ g; omega) _⟩ ?_
  clear hC0 hC1 hF hE1 hE0 hBn hB mkS mkT s0 s1 s2 s3 s4 hk0 hk1
  rintro w9 ⟨k3, k4, hE0, hB⟩
  have r3 := row_of k3
  have f3 := frozen_of k3
  have z3 := blk_lt k3
  have r4 := row_of k4
  have f4 := frozen_of k4
  have z4 := blk_lt k4
  replace hE0 := Lib.hid hE0
  have hml : (xs.set k (j0, j1)).length = n := by rw [List.length_set]; exact hm.out
  replace hm := Lib.hid hml
  go_wp2_with fail
  generalize hWF : (World.setCell (World.setCell (World.setCell _ _ _) _ _) _ _) = WF
  obtain ⟨kF, kO, bF, _⟩ := put3 k3 _ _ _ hWF.symm
  clear r3 f3 z3 r4 f4 z4
  clear hWF
  have rF := row_of kF
  have q := elem_ge hE0.out
  exact bodyPost_ret (v := .agg #[.int .i64 o0, .int .i64 o1, .slice (some ⟨g, 0, none⟩) n cap]) (by simp [results, Try.results13, go_sem, rF]) rfl ⟨g, cap, by rw [hm.out], elem_base (elem_same (hE0.out) (fun x hx => kO _ x (by omega) hx)) (by omega), hB.trans (bF _ (by omega))⟩
end Go.Proofs.Ytgepaajhccadhaa
