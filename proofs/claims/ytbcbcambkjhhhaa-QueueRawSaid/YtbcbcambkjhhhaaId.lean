/-
  Do of sums and differences, and of nothing; Neg; what every law of layer 8 asks.
-/
import Derived.Test.YtbcbcambkjhhhaaIc
namespace Go.Proofs.Ytbcbcambkjhhhaa
open Go.RowKit
theorem nrm_in (l h : Int) (hh : l ≤ h) : nrm l h = (l, h) := if_neg (by omega)
theorem ofP_in (l h : Int) (h1 : -2147483648 ≤ l) (h2 : h ≤ 2147483647) (hh : l ≤ h) : ofP l h = (l, h) := by
  unfold ofP mx mn
  rw [nrm_in _ _ (by split <;> split <;> omega)]
  congr 1 <;> split <;> omega
theorem const_in (n : Int) (w : World) (h1 : -2147483648 ≤ n) (h2 : n ≤ 2147483647) :
    Calls Try.prog 34 #[.int .i64 n] w fun e w' => e = .returned (.agg #[.int .i64 n, .int .i64 n]) ∧ Below w.heap.size w w' := by
  have h := const_any n w
  rwa [ofP_in n n h1 h2 (Int.le_refl n)] at h
theorem of_in (l h : Int) (w : World) (h1 : -2147483648 ≤ l) (h2 : h ≤ 2147483647) (hh : l ≤ h) :
    Calls Try.prog 68 #[.int .i64 l, .int .i64 h] w fun e w' => e = .returned (.agg #[.int .i64 l, .int .i64 h]) ∧ Below w.heap.size w w' := by
  have h := of_any l h w
  rwa [ofP_in l _ h1 h2 hh] at h

set_option maxRecDepth 100000 in
theorem do_fadd (f : Int → Int → Int) (a0 a1 b0 b1 : Int) (w : World) (ha : a0 ≤ a1) (hb : b0 ≤ b1) (hf : FnOk 138 f a0 a1 b0 b1) :
    Calls Try.prog 112 #[.int .i64 4, .agg #[.int .i64 a0, .int .i64 a1], .agg #[.int .i64 b0, .int .i64 b1]] w fun e w' => e = .returned (.tuple #[.agg #[.int .i64 (ofP (bot f a0 a1 b0 b1) (top f a0 a1 b0 b1)).1, .int .i64 (ofP (bot f a0 a1 b0 b1) (top f a0 a1 b0 b1)).2], .agg #[.bool (decide (bot f a0 a1 b0 b1 < -2147483648) || decide (2147483647 < top f a0 a1 b0 b1)), .bool false]]) ∧ Below w.heap.size w w' := by
  have hd1 : decide (a1 < a0) = false := by simp; omega
  have hd2 : decide (b1 < b0) = false := by simp; omega
  replace hf := Lib.hid hf
  clear ha hb
  go_enter Try.func112, Try.ntmps112
  go_upto_region 1 with fail
  refine wp_world (fun W => W.heap[w.heap.size]? = some (.cells #[.int .i64 a0, .int .i64 a1] 48 (0, 0)) ∧ W.heap[w.heap.size + 1]? = some (.cells #[.int .i64 b0, .int .i64 b1] 48 (0, 0)) ∧ W.heap[w.heap.size + 2]? = some (.cells #[.int .i64 0, .int .i64 0] 48 (0, 0)) ∧ W.heap[w.heap.size + 3]? = some (.cells #[.bool false, .bool false] 96 (0, 0)) ∧ Below w.heap.size w W) ⟨blkUp (blkUp (blkUp (blkA _ _ (by first | rfl | simp only [World.size_alloc])) _) _) _, blkUp (blkUp (blkA _ _ (by first | rfl | simp only [World.size_alloc])) _) _, blkUp (blkA _ _ (by first | rfl | simp only [World.size_alloc])) _, blkA _ _ (by first | rfl | simp only [World.size_alloc]), ((((Below.refl _ _).alloc (by first | exact Nat.le_refl _ | (simp only [World.size_alloc]; omega)) _).alloc (by first | exact Nat.le_refl _ | (simp only [World.size_alloc]; omega)) _).alloc (by first | exact Nat.le_refl _ | (simp only [World.size_alloc]; omega)) _).alloc (by first | exact Nat.le_refl _ | (simp only [World.size_alloc]; omega)) _⟩ ?_
  rintro w1 ⟨k0, k1, k2, k3, hB⟩
  have r0 := row_of k0
  have f0 := frozen_of k0
  have z0 := blk_lt k0
  have r1 := row_of k1
  have f1 := frozen_of k1
  have z1 := blk_lt k1
  have r2 := row_of k2
  have f2 := frozen_of k2
  have z2 := blk_lt k2
  have r3 := row_of k3
  have f3 := frozen_of k3
  have z3 := blk_lt k3
  go_wp2_with fail
  refine (empty_any _ _ _).mono ?_
  rintro e w2 ⟨rfl, hb⟩
  replace k0 := blk_keep hb k0
  replace k1 := blk_keep hb k1
  replace k2 := blk_keep hb k2
  replace k3 := blk_keep hb k3
  replace hB := hB.trans (hb.mono hB.size)
  clear r0 f0 z0 r1 f1 z1 r2 f2 z2 r3 f3 z3
  clear hb
  have r0 := row_of k0
  have f0 := frozen_of k0
  have z0 := blk_lt k0
  have r1 := row_of k1
  have f1 := frozen_of k1
  have z1 := blk_lt k1
  have r2 := row_of k2
  have f2 := frozen_of k2
  have z2 := blk_lt k2
  have r3 := row_of k3
  have f3 := frozen_of k3
  have z3 := blk_lt k3
  go_wp2_with fail
  refine (empty_any _ _ _).mono ?_
  rintro e w3 ⟨rfl, hb⟩
  replace k0 := blk_keep hb k0
  replace k1 := blk_keep hb k1
  replace k2 := blk_keep hb k2
  replace k3 := blk_keep hb k3
  replace hB := hB.trans (hb.mono hB.size)
  clear r0 f0 z0 r1 f1 z1 r2 f2 z2 r3 f3 z3
  clear hb
  have r0 := row_of k0
  have f0 := frozen_of k0
  have z0 := blk_lt k0
  have r1 := row_of k1
  have f1 := frozen_of k1
  have z1 := blk_lt k1
  have r2 := row_of k2
  have f2 := frozen_of k2
  have z2 := blk_lt k2
  have r3 := row_of k3
  have f3 := frozen_of k3
  have z3 := blk_lt k3
  go_wp2_with fail
  refine (ends_add f _ _ _ _ _ hf.out).mono ?_
  rintro e w4 ⟨rfl, hb⟩
  replace k0 := blk_keep hb k0
  replace k1 := blk_keep hb k1
  replace k2 := blk_keep hb k2
  replace k3 := blk_keep hb k3
  replace hB := hB.trans (hb.mono hB.size)
  clear r0 f0 z0 r1 f1 z1 r2 f2 z2 r3 f3 z3
  clear hb
  have r0 := row_of k0
  have f0 := frozen_of k0
  have z0 := blk_lt k0
  have r1 := row_of k1
  have f1 := frozen_of k1
  have z1 := blk_lt k1
  have r2 := row_of k2
  have f2 := frozen_of k2
  have z2 := blk_lt k2
  have r3 := row_of k3
  have f3 := frozen_of k3
  have z3 := blk_lt k3
  go_wp2_with fail
  generalize hWF : (World.setCell (World.setCell (World.setCell (World.setCell _ _ _) _ _) _ _) _ _) = WF
  obtain ⟨kF, kG, bF⟩ := put22 (by omega) k2 k3 _ _ _ _ hWF.symm
  clear r0 f0 z0 r1 f1 z1 r2 f2 z2 r3 f3 z3
  clear hWF
  have rF := row_of kF
  have rG := row_of kG
  exact bodyPost_ret (v := .tuple #[.agg #[.int .i64 (ofP (bot f a0 a1 b0 b1) (top f a0 a1 b0 b1)).1, .int .i64 (ofP (bot f a0 a1 b0 b1) (top f a0 a1 b0 b1)).2], .agg #[.bool (decide (bot f a0 a1 b0 b1 < -2147483648) || decide (2147483647 < top f a0 a1 b0 b1)), .bool false]]) (by simp [results, Try.results112, go_sem, rF, rG]) rfl ⟨rfl, hB.trans (bF _ (by show w.heap.size ≤ w.heap.size + 2; omega) (by show w.heap.size ≤ w.heap.size + 3; omega))⟩
set_option maxRecDepth 100000 in
theorem do_fsub (f : Int → Int → Int) (a0 a1 b0 b1 : Int) (w : World) (ha : a0 ≤ a1) (hb : b0 ≤ b1) (hf : FnOk 139 f a0 a1 b0 b1) :
    Calls Try.prog 112 #[.int .i64 5, .agg #[.int .i64 a0, .int .i64 a1], .agg #[.int .i64 b0, .int .i64 b1]] w fun e w' => e = .returned (.tuple #[.agg #[.int .i64 (ofP (bot f a0 a1 b0 b1) (top f a0 a1 b0 b1)).1, .int .i64 (ofP (bot f a0 a1 b0 b1) (top f a0 a1 b0 b1)).2], .agg #[.bool (decide (bot f a0 a1 b0 b1 < -2147483648) || decide (2147483647 < top f a0 a1 b0 b1)), .bool false]]) ∧ Below w.heap.size w w' := by
  have hd1 : decide (a1 < a0) = false := by simp; omega
  have hd2 : decide (b1 < b0) = false := by simp; omega
  replace hf := Lib.hid hf
  clear ha hb
  go_enter Try.func112, Try.ntmps112
  go_upto_region 1 with fail
  refine wp_world (fun W => W.heap[w.heap.size]? = some (.cells #[.int .i64 a0, .int .i64 a1] 48 (0, 0)) ∧ W.heap[w.heap.size + 1]? = some (.cells #[.int .i64 b0, .int .i64 b1] 48 (0, 0)) ∧ W.heap[w.heap.size + 2]? = some (.cells #[.int .i64 0, .int .i64 0] 48 (0, 0)) ∧ W.heap[w.heap.size + 3]? = some (.cells #[.bool false, .bool false] 96 (0, 0)) ∧ Below w.heap.size w W) ⟨blkUp (blkUp (blkUp (blkA _ _ (by first | rfl | simp only [World.size_alloc])) _) _) _, blkUp (blkUp (blkA _ _ (by first | rfl | simp only [World.size_alloc])) _) _, blkUp (blkA _ _ (by first | rfl | simp only [World.size_alloc])) _, blkA _ _ (by first | rfl | simp only [World.size_alloc]), ((((Below.refl _ _).alloc (by first | exact Nat.le_refl _ | (simp only [World.size_alloc]; omega)) _).alloc (by first | exact Nat.le_refl _ | (simp only [World.size_alloc]; omega)) _).alloc (by first | exact Nat.le_refl _ | (simp only [World.size_alloc]; omega)) _).alloc (by first | exact Nat.le_refl _ | (simp only [World.size_alloc]; omega)) _⟩ ?_
  rintro w1 ⟨k0, k1, k2, k3, hB⟩
  have r0 := row_of k0
  have f0 := frozen_of k0
  have z0 := blk_lt k0
  have r1 := row_of k1
  have f1 := frozen_of k1
  have z1 := blk_lt k1
  have r2 := row_of k2
  have f2 := frozen_of k2
  have z2 := blk_lt k2
  have r3 := row_of k3
  have f3 := frozen_of k3
  have z3 := blk_lt k3
  go_wp2_with fail
  refine (empty_any _ _ _).mono ?_
  rintro e w2 ⟨rfl, hb⟩
  replace k0 := blk_keep hb k0
  replace k1 := blk_keep hb k1
  replace k2 := blk_keep hb k2
  replace k3 := blk_keep hb k3
  replace hB := hB.trans (hb.mono hB.size)
  clear r0 f0 z0 r1 f1 z1 r2 f2 z2 r3 f3 z3
  clear hb
  have r0 := row_of k0
  have f0 := frozen_of k0
  have z0 := blk_lt k0
  have r1 := row_of k1
  have f1 := frozen_of k1
  have z1 := blk_lt k1
  have r2 := row_of k2
  have f2 := frozen_of k2
  have z2 := blk_lt k2
  have r3 := row_of k3
  have f3 := frozen_of k3
  have z3 := blk_lt k3
  go_wp2_with fail
  refine (empty_any _ _ _).mono ?_
  rintro e w3 ⟨rfl, hb⟩
  replace k0 := blk_keep hb k0
  replace k1 := blk_keep hb k1
  replace k2 := blk_keep hb k2
  replace k3 := blk_keep hb k3
  replace hB := hB.trans (hb.mono hB.size)
  clear r0 f0 z0 r1 f1 z1 r2 f2 z2 r3 f3 z3
  clear hb
  have r0 := row_of k0
  have f0 := frozen_of k0
  have z0 := blk_lt k0
  have r1 := row_of k1
  have f1 := frozen_of k1
  have z1 := blk_lt k1
  have r2 := row_of k2
  have f2 := frozen_of k2
  have z2 := blk_lt k2
  have r3 := row_of k3
  have f3 := frozen_of k3
  have z3 := blk_lt k3
  go_wp2_with fail
  refine (ends_sub f _ _ _ _ _ hf.out).mono ?_
  rintro e w4 ⟨rfl, hb⟩
  replace k0 := blk_keep hb k0
  replace k1 := blk_keep hb k1
  replace k2 := blk_keep hb k2
  replace k3 := blk_keep hb k3
  replace hB := hB.trans (hb.mono hB.size)
  clear r0 f0 z0 r1 f1 z1 r2 f2 z2 r3 f3 z3
  clear hb
  have r0 := row_of k0
  have f0 := frozen_of k0
  have z0 := blk_lt k0
  have r1 := row_of k1
  have f1 := frozen_of k1
  have z1 := blk_lt k1
  have r2 := row_of k2
  have f2 := frozen_of k2
  have z2 := blk_lt k2
  have r3 := row_of k3
  have f3 := frozen_of k3
  have z3 := blk_lt k3
  go_wp2_with fail
  generalize hWF : (World.setCell (World.setCell (World.setCell (World.setCell _ _ _) _ _) _ _) _ _) = WF
  obtain ⟨kF, kG, bF⟩ := put22 (by omega) k2 k3 _ _ _ _ hWF.symm
  clear r0 f0 z0 r1 f1 z1 r2 f2 z2 r3 f3 z3
  clear hWF
  have rF := row_of kF
  have rG := row_of kG
  exact bodyPost_ret (v := .tuple #[.agg #[.int .i64 (ofP (bot f a0 a1 b0 b1) (top f a0 a1 b0 b1)).1, .int .i64 (ofP (bot f a0 a1 b0 b1) (top f a0 a1 b0 b1)).2], .agg #[.bool (decide (bot f a0 a1 b0 b1 < -2147483648) || decide (2147483647 < top f a0 a1 b0 b1)), .bool false]]) (by simp [results, Try.results112, go_sem, rF, rG]) rfl ⟨rfl, hB.trans (bF _ (by show w.heap.size ≤ w.heap.size + 2; omega) (by show w.heap.size ≤ w.heap.size + 3; omega))⟩
theorem do_add (a0 a1 b0 b1 : Int) (w : World) (ha : a0 ≤ a1) (hb : b0 ≤ b1) (h1 : -2147483648 ≤ a0) (h2 : a1 ≤ 2147483647) (h3 : -2147483648 ≤ b0) (h4 : b1 ≤ 2147483647) :
    Calls Try.prog 112 #[.int .i64 4, .agg #[.int .i64 a0, .int .i64 a1], .agg #[.int .i64 b0, .int .i64 b1]] w fun e w' => e = .returned (.tuple #[.agg #[.int .i64 (ofP (a0 + b0) (a1 + b1)).1, .int .i64 (ofP (a0 + b0) (a1 + b1)).2], .agg #[.bool (decide (a0 + b0 < -2147483648) || decide (2147483647 < a1 + b1)), .bool false]]) ∧ Below w.heap.size w w' := by
  have h := do_fadd (fun x y => x + y) a0 a1 b0 b1 w ha hb (fun x y w hx hy => add_fn x y w (by omega) (by omega))
  have eL : bot (fun x y => x + y) a0 a1 b0 b1 = a0 + b0 := by unfold bot mn; dsimp only; repeat' split
                                                               all_goals omega
  have eH : top (fun x y => x + y) a0 a1 b0 b1 = a1 + b1 := by unfold top mx; dsimp only; repeat' split
                                                               all_goals omega
  rwa [eL, eH] at h
theorem do_sub (a0 a1 b0 b1 : Int) (w : World) (ha : a0 ≤ a1) (hb : b0 ≤ b1) (h1 : -2147483648 ≤ a0) (h2 : a1 ≤ 2147483647) (h3 : -2147483648 ≤ b0) (h4 : b1 ≤ 2147483647) :
    Calls Try.prog 112 #[.int .i64 5, .agg #[.int .i64 a0, .int .i64 a1], .agg #[.int .i64 b0, .int .i64 b1]] w fun e w' => e = .returned (.tuple #[.agg #[.int .i64 (ofP (a0 - b1) (a1 - b0)).1, .int .i64 (ofP (a0 - b1) (a1 - b0)).2], .agg #[.bool (decide (a0 - b1 < -2147483648) || decide (2147483647 < a1 - b0)), .bool false]]) ∧ Below w.heap.size w w' := by
  have h := do_fsub (fun x y => x - y) a0 a1 b0 b1 w ha hb (fun x y w hx hy => sub_fn x y w (by omega) (by omega))
  have eL : bot (fun x y => x - y) a0 a1 b0 b1 = a0 - b1 := by unfold bot mn; dsimp only; repeat' split
                                                               all_goals omega
  have eH : top (fun x y => x - y) a0 a1 b0 b1 = a1 - b0 := by unfold top mx; dsimp only; repeat' split
                                                               all_goals omega
  rwa [eL, eH] at h
set_option maxRecDepth 100000 in
theorem do_none1 (k a0 a1 b0 b1 : Int) (w : World) (ha : a1 < a0) :
    Calls Try.prog 112 #[.int .i64 k, .agg #[.int .i64 a0, .int .i64 a1], .agg #[.int .i64 b0, .int .i64 b1]] w fun e w' => e = .returned (.tuple #[.agg #[.int .i64 1, .int .i64 0], .agg #[.bool false, .bool false]]) ∧ Below w.heap.size w w' := by
  have hd0 : decide (a1 < a0) = true := by simp; omega
  go_enter Try.func112, Try.ntmps112
  go_upto_region 1 with fail
  refine wp_world (fun W => W.heap[w.heap.size]? = some (.cells #[.int .i64 a0, .int .i64 a1] 48 (0, 0)) ∧ W.heap[w.heap.size + 1]? = some (.cells #[.int .i64 b0, .int .i64 b1] 48 (0, 0)) ∧ W.heap[w.heap.size + 2]? = some (.cells #[.int .i64 0, .int .i64 0] 48 (0, 0)) ∧ W.heap[w.heap.size + 3]? = some (.cells #[.bool false, .bool false] 96 (0, 0)) ∧ Below w.heap.size w W) ⟨blkUp (blkUp (blkUp (blkA _ _ (by first | rfl | simp only [World.size_alloc])) _) _) _, blkUp (blkUp (blkA _ _ (by first | rfl | simp only [World.size_alloc])) _) _, blkUp (blkA _ _ (by first | rfl | simp only [World.size_alloc])) _, blkA _ _ (by first | rfl | simp only [World.size_alloc]), ((((Below.refl _ _).alloc (by first | exact Nat.le_refl _ | (simp only [World.size_alloc]; omega)) _).alloc (by first | exact Nat.le_refl _ | (simp only [World.size_alloc]; omega)) _).alloc (by first | exact Nat.le_refl _ | (simp only [World.size_alloc]; omega)) _).alloc (by first | exact Nat.le_refl _ | (simp only [World.size_alloc]; omega)) _⟩ ?_
  rintro w1 ⟨k0, k1, k2, k3, hB⟩
  have r0 := row_of k0
  have f0 := frozen_of k0
  have z0 := blk_lt k0
  have r1 := row_of k1
  have f1 := frozen_of k1
  have z1 := blk_lt k1
  have r2 := row_of k2
  have f2 := frozen_of k2
  have z2 := blk_lt k2
  have r3 := row_of k3
  have f3 := frozen_of k3
  have z3 := blk_lt k3
  go_wp2_with fail
  refine (empty_any _ _ _).mono ?_
  rintro e w2 ⟨rfl, hb⟩
  replace k0 := blk_keep hb k0
  replace k1 := blk_keep hb k1
  replace k2 := blk_keep hb k2
  replace k3 := blk_keep hb k3
  replace hB := hB.trans (hb.mono hB.size)
  clear r0 f0 z0 r1 f1 z1 r2 f2 z2 r3 f3 z3
  clear hb
  have r0 := row_of k0
  have f0 := frozen_of k0
  have z0 := blk_lt k0
  have r1 := row_of k1
  have f1 := frozen_of k1
  have z1 := blk_lt k1
  have r2 := row_of k2
  have f2 := frozen_of k2
  have z2 := blk_lt k2
  have r3 := row_of k3
  have f3 := frozen_of k3
  have z3 := blk_lt k3
  go_wp2_with fail
  refine (none_any _).mono ?_
  rintro e w3 ⟨rfl, hb⟩
  replace k0 := blk_keep hb k0
  replace k1 := blk_keep hb k1
  replace k2 := blk_keep hb k2
  replace k3 := blk_keep hb k3
  replace hB := hB.trans (hb.mono hB.size)
  clear r0 f0 z0 r1 f1 z1 r2 f2 z2 r3 f3 z3
  clear hb
  have r0 := row_of k0
  have f0 := frozen_of k0
  have z0 := blk_lt k0
  have r1 := row_of k1
  have f1 := frozen_of k1
  have z1 := blk_lt k1
  have r2 := row_of k2
  have f2 := frozen_of k2
  have z2 := blk_lt k2
  have r3 := row_of k3
  have f3 := frozen_of k3
  have z3 := blk_lt k3
  go_wp2_with fail
  generalize hWF : (World.setCell (World.setCell (World.setCell (World.setCell _ _ _) _ _) _ _) _ _) = WF
  obtain ⟨kF, kG, bF⟩ := put22 (by omega) k2 k3 _ _ _ _ hWF.symm
  clear r0 f0 z0 r1 f1 z1 r2 f2 z2 r3 f3 z3
  clear hWF
  have rF := row_of kF
  have rG := row_of kG
  exact bodyPost_ret (v := .tuple #[.agg #[.int .i64 1, .int .i64 0], .agg #[.bool false, .bool false]]) (by simp [results, Try.results112, go_sem, rF, rG]) rfl ⟨rfl, hB.trans (bF _ (by show w.heap.size ≤ w.heap.size + 2; omega) (by show w.heap.size ≤ w.heap.size + 3; omega))⟩
set_option maxRecDepth 100000 in
theorem do_none2 (k a0 a1 b0 b1 : Int) (w : World) (ha : a0 ≤ a1) (hb : b1 < b0) :
    Calls Try.prog 112 #[.int .i64 k, .agg #[.int .i64 a0, .int .i64 a1], .agg #[.int .i64 b0, .int .i64 b1]] w fun e w' => e = .returned (.tuple #[.agg #[.int .i64 1, .int .i64 0], .agg #[.bool false, .bool false]]) ∧ Below w.heap.size w w' := by
  have hd0 : decide (a1 < a0) = false := by simp; omega
  have hd1 : decide (b1 < b0) = true := by simp; omega
  go_enter Try.func112, Try.ntmps112
  go_upto_region 1 with fail
  refine wp_world (fun W => W.heap[w.heap.size]? = some (.cells #[.int .i64 a0, .int .i64 a1] 48 (0, 0)) ∧ W.heap[w.heap.size + 1]? = some (.cells #[.int .i64 b0, .int .i64 b1] 48 (0, 0)) ∧ W.heap[w.heap.size + 2]? = some (.cells #[.int .i64 0, .int .i64 0] 48 (0, 0)) ∧ W.heap[w.heap.size + 3]? = some (.cells #[.bool false, .bool false] 96 (0, 0)) ∧ Below w.heap.size w W) ⟨blkUp (blkUp (blkUp (blkA _ _ (by first | rfl | simp only [World.size_alloc])) _) _) _, blkUp (blkUp (blkA _ _ (by first | rfl | simp only [World.size_alloc])) _) _, blkUp (blkA _ _ (by first | rfl | simp only [World.size_alloc])) _, blkA _ _ (by first | rfl | simp only [World.size_alloc]), ((((Below.refl _ _).alloc (by first | exact Nat.le_refl _ | (simp only [World.size_alloc]; omega)) _).alloc (by first | exact Nat.le_refl _ | (simp only [World.size_alloc]; omega)) _).alloc (by first | exact Nat.le_refl _ | (simp only [World.size_alloc]; omega)) _).alloc (by first | exact Nat.le_refl _ | (simp only [World.size_alloc]; omega)) _⟩ ?_
  rintro w1 ⟨k0, k1, k2, k3, hB⟩
  have r0 := row_of k0
  have f0 := frozen_of k0
  have z0 := blk_lt k0
  have r1 := row_of k1
  have f1 := frozen_of k1
  have z1 := blk_lt k1
  have r2 := row_of k2
  have f2 := frozen_of k2
  have z2 := blk_lt k2
  have r3 := row_of k3
  have f3 := frozen_of k3
  have z3 := blk_lt k3
  go_wp2_with fail
  refine (empty_any _ _ _).mono ?_
  rintro e w2 ⟨rfl, hb⟩
  replace k0 := blk_keep hb k0
  replace k1 := blk_keep hb k1
  replace k2 := blk_keep hb k2
  replace k3 := blk_keep hb k3
  replace hB := hB.trans (hb.mono hB.size)
  clear r0 f0 z0 r1 f1 z1 r2 f2 z2 r3 f3 z3
  clear hb
  have r0 := row_of k0
  have f0 := frozen_of k0
  have z0 := blk_lt k0
  have r1 := row_of k1
  have f1 := frozen_of k1
  have z1 := blk_lt k1
  have r2 := row_of k2
  have f2 := frozen_of k2
  have z2 := blk_lt k2
  have r3 := row_of k3
  have f3 := frozen_of k3
  have z3 := blk_lt k3
  go_wp2_with fail
  refine (empty_any _ _ _).mono ?_
  rintro e w3 ⟨rfl, hb⟩
  replace k0 := blk_keep hb k0
  replace k1 := blk_keep hb k1
  replace k2 := blk_keep hb k2
  replace k3 := blk_keep hb k3
  replace hB := hB.trans (hb.mono hB.size)
  clear r0 f0 z0 r1 f1 z1 r2 f2 z2 r3 f3 z3
  clear hb
  have r0 := row_of k0
  have f0 := frozen_of k0
  have z0 := blk_lt k0
  have r1 := row_of k1
  have f1 := frozen_of k1
  have z1 := blk_lt k1
  have r2 := row_of k2
  have f2 := frozen_of k2
  have z2 := blk_lt k2
  have r3 := row_of k3
  have f3 := frozen_of k3
  have z3 := blk_lt k3
  go_wp2_with fail
  refine (none_any _).mono ?_
  rintro e w4 ⟨rfl, hb⟩
  replace k0 := blk_keep hb k0
  replace k1 := blk_keep hb k1
  replace k2 := blk_keep hb k2
  replace k3 := blk_keep hb k3
  replace hB := hB.trans (hb.mono hB.size)
  clear r0 f0 z0 r1 f1 z1 r2 f2 z2 r3 f3 z3
  clear hb
  have r0 := row_of k0
  have f0 := frozen_of k0
  have z0 := blk_lt k0
  have r1 := row_of k1
  have f1 := frozen_of k1
  have z1 := blk_lt k1
  have r2 := row_of k2
  have f2 := frozen_of k2
  have z2 := blk_lt k2
  have r3 := row_of k3
  have f3 := frozen_of k3
  have z3 := blk_lt k3
  go_wp2_with fail
  generalize hWF : (World.setCell (World.setCell (World.setCell (World.setCell _ _ _) _ _) _ _) _ _) = WF
  obtain ⟨kF, kG, bF⟩ := put22 (by omega) k2 k3 _ _ _ _ hWF.symm
  clear r0 f0 z0 r1 f1 z1 r2 f2 z2 r3 f3 z3
  clear hWF
  have rF := row_of kF
  have rG := row_of kG
  exact bodyPost_ret (v := .tuple #[.agg #[.int .i64 1, .int .i64 0], .agg #[.bool false, .bool false]]) (by simp [results, Try.results112, go_sem, rF, rG]) rfl ⟨rfl, hB.trans (bF _ (by show w.heap.size ≤ w.heap.size + 2; omega) (by show w.heap.size ≤ w.heap.size + 3; omega))⟩
theorem do_none (k a0 a1 b0 b1 : Int) (w : World) (h : a1 < a0 ∨ b1 < b0) :
    Calls Try.prog 112 #[.int .i64 k, .agg #[.int .i64 a0, .int .i64 a1], .agg #[.int .i64 b0, .int .i64 b1]] w fun e w' => e = .returned (.tuple #[.agg #[.int .i64 1, .int .i64 0], .agg #[.bool false, .bool false]]) ∧ Below w.heap.size w w' := by
  by_cases ha : a1 < a0
  · exact do_none1 k a0 a1 b0 b1 w ha
  · exact do_none2 k a0 a1 b0 b1 w (by omega) (by omega)

/-- Two cells of a block, and how many blocks there are. -/
theorem cells_keep {n m : Nat} {a b : Value} {W W' : World} (h : W.cell? ⟨n, 0, none⟩ = some a ∧ W.cell? ⟨n, 1, none⟩ = some b ∧ n + m + 1 ≤ W.heap.size) (hB : Below W.heap.size W W') : W'.cell? ⟨n, 0, none⟩ = some a ∧ W'.cell? ⟨n, 1, none⟩ = some b ∧ n + m + 1 ≤ W'.heap.size :=
  ⟨(hB.cell (p := ⟨n, 0, none⟩) (by show n < _; omega)).trans h.1, (hB.cell (p := ⟨n, 1, none⟩) (by show n < _; omega)).trans h.2.1, Nat.le_trans h.2.2 hB.size⟩
theorem cells_put {n m k : Nat} {a b u v : Value} {W : World} (h : W.cell? ⟨n, 0, none⟩ = some a ∧ W.cell? ⟨n, 1, none⟩ = some b ∧ n + m + 1 ≤ W.heap.size) (hk : n < k) : ((W.setCell ⟨k, 0, none⟩ u).setCell ⟨k, 1, none⟩ v).cell? ⟨n, 0, none⟩ = some a ∧ ((W.setCell ⟨k, 0, none⟩ u).setCell ⟨k, 1, none⟩ v).cell? ⟨n, 1, none⟩ = some b ∧ n + m + 1 ≤ ((W.setCell ⟨k, 0, none⟩ u).setCell ⟨k, 1, none⟩ v).heap.size := by
  have hB : Below k W ((W.setCell ⟨k, 0, none⟩ u).setCell ⟨k, 1, none⟩ v) := ((Below.refl _ W).setCell (p := ⟨k, 0, none⟩) (Nat.le_refl k) u).setCell (p := ⟨k, 1, none⟩) (Nat.le_refl k) v
  exact ⟨(hB.cell (p := ⟨n, 0, none⟩) hk).trans h.1, (hB.cell (p := ⟨n, 1, none⟩) hk).trans h.2.1, Nat.le_trans h.2.2 hB.size⟩

set_option maxRecDepth 100000 in
set_option maxHeartbeats 2000000 in
theorem neg_gen (a0 a1 v0 v1 : Int) (o z : Bool) (w : World) (h : ∀ W, Calls Try.prog 112 #[.int .i64 5, .agg #[.int .i64 0, .int .i64 0], .agg #[.int .i64 a0, .int .i64 a1]] W fun e w' => e = .returned (.tuple #[.agg #[.int .i64 v0, .int .i64 v1], .agg #[.bool o, .bool z]]) ∧ Below W.heap.size W w') :
    Calls Try.prog 110 #[.agg #[.int .i64 a0, .int .i64 a1]] w fun e w' => e = .returned (.tuple #[.agg #[.int .i64 v0, .int .i64 v1], .agg #[.bool o, .bool z]]) ∧ Below w.heap.size w w' := by
  go_enter Try.func110, Try.ntmps110
  go_upto_region 1 with fail
  refine wp_world (fun W => W.heap[w.heap.size]? = some (.cells #[.int .i64 a0, .int .i64 a1] 48 (0, 0)) ∧ W.heap[w.heap.size + 1]? = some (.cells #[.int .i64 0, .int .i64 0] 48 (0, 0)) ∧ W.heap[w.heap.size + 2]? = some (.cells #[.bool false, .bool false] 96 (0, 0)) ∧ Below w.heap.size w W) ⟨blkUp (blkUp (blkA _ _ (by first | rfl | simp only [World.size_alloc])) _) _, blkUp (blkA _ _ (by first | rfl | simp only [World.size_alloc])) _, blkA _ _ (by first | rfl | simp only [World.size_alloc]), (((Below.refl _ _).alloc (by first | exact Nat.le_refl _ | (simp only [World.size_alloc]; omega)) _).alloc (by first | exact Nat.le_refl _ | (simp only [World.size_alloc]; omega)) _).alloc (by first | exact Nat.le_refl _ | (simp only [World.size_alloc]; omega)) _⟩ ?_
  rintro w1 ⟨k0, k1, k2, hB⟩
  have r0 := row_of k0
  have f0 := frozen_of k0
  have z0 := blk_lt k0
  have r1 := row_of k1
  have f1 := frozen_of k1
  have z1 := blk_lt k1
  have r2 := row_of k2
  have f2 := frozen_of k2
  have z2 := blk_lt k2
  have hS : w1.cell? ⟨w.heap.size, 0, none⟩ = some (.int .i64 a0) ∧ w1.cell? ⟨w.heap.size, 1, none⟩ = some (.int .i64 a1) ∧ w.heap.size + 2 + 1 ≤ w1.heap.size := ⟨row_of k0 0, row_of k0 1, z2⟩
  clear r0 f0 z0 r1 f1 z1 r2 f2 z2
  clear k0
  have hS2 := hS
  obtain ⟨q0, q1, q2⟩ := hS2
  have c1 := Lib.hid (fun W => const_in 0 W (by decide) (by decide))
  replace h := Lib.hid h
  replace hB := hB.drew
  go_region_held3 (fun W => W.cell? ⟨w.heap.size, 0, none⟩ = some (.int .i64 a0) ∧ W.cell? ⟨w.heap.size, 1, none⟩ = some (.int .i64 a1) ∧ w.heap.size + 2 + 1 ≤ W.heap.size) (first | assumption | exact hS | exact cells_keep hS hbS | exact cells_keep ‹_› hbS | ((with_reducible refine cells_put ?_ (by omega)); assumption))
    (first
      | (go_at_call 34; refine (c1.out _).mono ?_; rintro e wn ⟨rfl, hbS⟩; replace k1 := blk_keep hbS k1; replace k2 := blk_keep hbS k2; replace hB := hB.trans (hbS.mono hB.size); have r1 := row_of k1; have r2 := row_of k2; have f1 := frozen_of k1; have f2 := frozen_of k2; have z1 := blk_lt k1; have z2 := blk_lt k2)
      | (go_at_call 112; refine (h.out _).mono ?_; rintro e wn ⟨rfl, hbS⟩; replace k1 := blk_keep hbS k1; replace k2 := blk_keep hbS k2; replace hB := hB.trans (hbS.mono hB.size); have r1 := row_of k1; have r2 := row_of k2; have f1 := frozen_of k1; have f2 := frozen_of k2; have z1 := blk_lt k1; have z2 := blk_lt k2))
  clear r1 r2 f1 f2 z1 z2
  go_wp2_with fail
  generalize hWF : (World.setCell (World.setCell (World.setCell (World.setCell _ _ _) _ _) _ _) _ _) = WF
  obtain ⟨kF, kG, bF⟩ := put22 (by omega) k1 k2 _ _ _ _ hWF.symm
  clear hWF
  have rF := row_of kF
  have rG := row_of kG
  exact bodyPost_ret (v := .tuple #[.agg #[.int .i64 v0, .int .i64 v1], .agg #[.bool o, .bool z]]) (by simp [results, Try.results110, go_sem, rF, rG]) rfl ⟨rfl, hB.trans (bF _ (by show w.heap.size ≤ w.heap.size + 1; omega) (by show w.heap.size ≤ w.heap.size + 2; omega))⟩
theorem neg_any (a0 a1 : Int) (w : World) (h : a0 ≤ a1) (h1 : -2147483648 ≤ a0) (h2 : a1 ≤ 2147483647) :
    Calls Try.prog 110 #[.agg #[.int .i64 a0, .int .i64 a1]] w fun e w' => e = .returned (.tuple #[.agg #[.int .i64 (ofP (0 - a1) (0 - a0)).1, .int .i64 (ofP (0 - a1) (0 - a0)).2], .agg #[.bool (decide (0 - a1 < -2147483648) || decide (2147483647 < 0 - a0)), .bool false]]) ∧ Below w.heap.size w w' := neg_gen a0 a1 _ _ _ _ w (fun W => do_sub 0 0 a0 a1 W (Int.le_refl 0) h (by decide) (by decide) h1 h2)
theorem neg_none (a0 a1 : Int) (w : World) (h : a1 < a0) :
    Calls Try.prog 110 #[.agg #[.int .i64 a0, .int .i64 a1]] w fun e w' => e = .returned (.tuple #[.agg #[.int .i64 1, .int .i64 0], .agg #[.bool false, .bool false]]) ∧ Below w.heap.size w w' := neg_gen a0 a1 _ _ _ _ w (fun W => do_none 5 0 0 a0 a1 W (.inr h))
theorem do_does (w : World) : Calls Try.prog 112 #[.int .i64 4, .agg #[.int .i64 2147483646, .int .i64 2147483647], .agg #[.int .i64 1, .int .i64 1]] w fun e w' => e = .returned (.tuple #[.agg #[.int .i64 2147483647, .int .i64 2147483647], .agg #[.bool true, .bool false]]) ∧ Below w.heap.size w w' := by
  have h := do_add 2147483646 2147483647 1 1 w (by decide) (by decide) (by decide) (by decide) (by decide) (by decide)
  have e : ofP (2147483646 + 1) (2147483647 + 1) = (2147483647, 2147483647) := by decide
  rw [e] at h
  simpa using h
def S4 (n : Nat) (W : World) : Prop := W.cell? ⟨n, 0, none⟩ = some (.int .i64 2147483647) ∧ W.cell? ⟨n, 1, none⟩ = some (.int .i64 2147483647) ∧ W.cell? ⟨n + 1, 0, none⟩ = some (.bool true) ∧ W.cell? ⟨n + 1, 1, none⟩ = some (.bool false) ∧ n + 1 < W.heap.size
theorem cells4_keep {n : Nat} {W W' : World} (h : S4 n W) (hB : Below W.heap.size W W') : S4 n W' :=
  ⟨(hB.cell (p := ⟨n, 0, none⟩) (Nat.lt_of_succ_lt h.2.2.2.2)).trans h.1, (hB.cell (p := ⟨n, 1, none⟩) (Nat.lt_of_succ_lt h.2.2.2.2)).trans h.2.1, (hB.cell (p := ⟨n + 1, 0, none⟩) h.2.2.2.2).trans h.2.2.1, (hB.cell (p := ⟨n + 1, 1, none⟩) h.2.2.2.2).trans h.2.2.2.1, Nat.lt_of_lt_of_le h.2.2.2.2 hB.size⟩
end Go.Proofs.Ytbcbcambkjhhhaa
