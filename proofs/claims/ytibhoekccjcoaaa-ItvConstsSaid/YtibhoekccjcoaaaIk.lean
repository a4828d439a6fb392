/-
  ItvConsts' walk.
-/
import Derived.Test.YtibhoekccjcoaaaIu
import Derived.Test.YtibhoekccjcoaaaIh
import Derived.Deep.QuietTactic
import Derived.BigQuiet
import Derived.RegionTactic
namespace Go.Proofs.Ytibhoekccjcoaaa
open Go.RowKit

theorem below_trB {w W W' : World} (h : Below w.heap.size w W) (hb : Below W.heap.size W W') : Below w.heap.size w W' := h.trans (hb.mono h.size)
theorem holds_1 (x y : Int) (w : World) : Calls Try.prog 37 #[.int .i64 1, .int .i64 x, .int .i64 y] w fun e w' => e = .returned (.bool (decide (x = y))) ∧ w = w' := by
  go_enter Try.func37, Try.ntmps37
  go_wp2
  go_ret
  exact ⟨by first | rfl | (by_cases h : x = y <;> simp [h]), rfl⟩
theorem holds_2 (x y : Int) (w : World) : Calls Try.prog 37 #[.int .i64 2, .int .i64 x, .int .i64 y] w fun e w' => e = .returned (.bool (decide (x ≠ y))) ∧ w = w' := by
  go_enter Try.func37, Try.ntmps37
  go_wp2
  go_ret
  exact ⟨by first | rfl | (by_cases h : x = y <;> simp [h]), rfl⟩
theorem holds_3 (x y : Int) (w : World) : Calls Try.prog 37 #[.int .i64 3, .int .i64 x, .int .i64 y] w fun e w' => e = .returned (.bool (decide (x < y))) ∧ w = w' := by
  go_enter Try.func37, Try.ntmps37
  go_wp2
  go_ret
  exact ⟨by first | rfl | (by_cases h : x = y <;> simp [h]), rfl⟩
theorem holds_4 (x y : Int) (w : World) : Calls Try.prog 37 #[.int .i64 4, .int .i64 x, .int .i64 y] w fun e w' => e = .returned (.bool (decide (x ≤ y))) ∧ w = w' := by
  go_enter Try.func37, Try.ntmps37
  go_wp2
  go_ret
  exact ⟨by first | rfl | (by_cases h : x = y <;> simp [h]), rfl⟩
theorem holds_5 (x y : Int) (w : World) : Calls Try.prog 37 #[.int .i64 5, .int .i64 x, .int .i64 y] w fun e w' => e = .returned (.bool (decide (y < x))) ∧ w = w' := by
  go_enter Try.func37, Try.ntmps37
  go_wp2
  go_ret
  exact ⟨by first | rfl | (by_cases h : x = y <;> simp [h]), rfl⟩
theorem holds_6 (x y : Int) (w : World) : Calls Try.prog 37 #[.int .i64 6, .int .i64 x, .int .i64 y] w fun e w' => e = .returned (.bool (decide (y ≤ x))) ∧ w = w' := by
  go_enter Try.func37, Try.ntmps37
  go_wp2
  go_ret
  exact ⟨by first | rfl | (by_cases h : x = y <;> simp [h]), rfl⟩
set_option maxRecDepth 100000 in
set_option maxHeartbeats 4000000 in
theorem consts_true (x y op k l h m0 m1 : Int) (w : World) (hx : wrap64 x = x) (hy : wrap64 y = y) (hk : wrap64 (1 + wrap64 ((IntKind.u64.wrap op).tmod 6)) = k)
    (x1 : -2147483648 ≤ x) (x2 : x ≤ 2147483647) (y1 : -2147483648 ≤ y) (y2 : y ≤ 2147483647)
    (c1 : ∀ W, Calls Try.prog 33 #[.int .i64 k, .agg #[.int .i64 x, .int .i64 x], .agg #[.int .i64 y, .int .i64 y]] W fun e w' => e = .returned (.tuple #[.agg #[.int .i64 x, .int .i64 x], .agg #[.int .i64 y, .int .i64 y]]) ∧ Below W.heap.size W w')
    (c2 : ∀ W, Calls Try.prog 37 #[.int .i64 k, .int .i64 x, .int .i64 y] W fun e w' => e = .returned (.bool true) ∧ W = w')
    (hl : (if y < x then y else x) = l) (hh : (if x < y then y else x) = h) (hj : joinP x x y y = (l, h)) (ho : ofP l h = (l, h)) (hm : meetP x x y y = (m0, m1)) (hme : decide (m1 < m0) = decide (x ≠ y)) (hw : withinB x x y y = decide (x = y)) :
    Calls Try.prog 9 #[.int .i32 x, .int .i32 y, .int .i64 op] w fun e w' => e = .returned (.bool true) ∧ Below w.heap.size w w' := by
  replace c1 := Lib.hid c1
  replace c2 := Lib.hid c2
  replace hl := Lib.hid hl
  replace hh := Lib.hid hh
  replace hj := Lib.hid hj
  replace ho := Lib.hid ho
  replace hm := Lib.hid hm
  replace hme := Lib.hid hme
  replace hw := Lib.hid hw
  have cx := Lib.hid (fun W => const_in x W x1 x2)
  have cy := Lib.hid (fun W => const_in y W y1 y2)
  clear x1 x2 y1 y2
  go_enter Try.func9, Try.ntmps9
  go_wp2_with fail
  refine (cx.out _).mono ?_
  rintro e w1 ⟨rfl, hB⟩
  go_wp2_with fail
  refine (cy.out _).mono ?_
  rintro e w2 ⟨rfl, hb⟩
  replace hB := hB.trans (hb.mono hB.size)
  clear hb
  go_upto_region 4 with fail
  refine wp_world (fun W => W.heap[w2.heap.size]? = some (.cells #[.int .i64 x, .int .i64 x] 25 (0, 0)) ∧ W.heap[w2.heap.size + 1]? = some (.cells #[.int .i64 y, .int .i64 y] 25 (0, 0)) ∧ Below w.heap.size w W) ⟨blkUp (blkA _ _ rfl) _, blkA _ _ (by simp only [World.size_alloc]), (hB.alloc hB.size _).alloc (by simp only [World.size_alloc]; exact Nat.le_succ_of_le hB.size) _⟩ ?_
  have hz0 : w.heap.size ≤ w2.heap.size := hB.size
  clear hB
  rintro w3 ⟨k0, k1, hB⟩
  have r0 := row_of k0
  have f0 := frozen_of k0
  have z0 := blk_lt k0
  have r1 := row_of k1
  have f1 := frozen_of k1
  have z1 := blk_lt k1
  go_wp2_with fail
  refine (c1.out _).mono ?_
  rintro e w4 ⟨rfl, hb⟩
  replace k0 := blk_keep hb k0
  replace k1 := blk_keep hb k1
  replace hB := hB.trans (hb.mono hB.size)
  clear r0 f0 z0 r1 f1 z1
  clear hb
  have r0 := row_of k0
  have f0 := frozen_of k0
  have z0 := blk_lt k0
  have r1 := row_of k1
  have f1 := frozen_of k1
  have z1 := blk_lt k1
  go_upto_region 5 with fail
  have hz1 : w2.heap.size + 1 < w4.heap.size := blk_lt k1
  refine wp_world (fun W => W.heap[w2.heap.size]? = some (.cells #[.int .i64 x, .int .i64 x] 25 (0, 0)) ∧ W.heap[w2.heap.size + 1]? = some (.cells #[.int .i64 y, .int .i64 y] 25 (0, 0)) ∧ W.heap[w4.heap.size]? = some (.cells #[.int .i64 x, .int .i64 x] 25 (0, 0)) ∧ W.heap[w4.heap.size + 1]? = some (.cells #[.int .i64 y, .int .i64 y] 25 (0, 0)) ∧ Below w.heap.size w W) ⟨blkUp (blkUp (k0) _) _, blkUp (blkUp (k1) _) _, blkUp (blkA _ _ (by first | rfl | simp only [World.size_alloc])) _, blkA _ _ (by first | rfl | simp only [World.size_alloc]), ((hB).alloc (by first | exact hB.size | (simp only [World.size_alloc]; omega)) _).alloc (by first | exact hB.size | (simp only [World.size_alloc]; omega)) _⟩ ?_
  clear r0 f0 z0 r1 f1 z1
  clear hB k0 k1
  rintro w5 ⟨k0, k1, k2, k3, hB⟩
  have r0 := row_of k0
  have f0 := frozen_of k0
  have z0 := blk_lt k0
  have r1 := row_of k1
  have f1 := frozen_of k1
  have z1 := blk_lt k1
  have r2 := row_of k2
  have f2 := frozen_of k2
  have z2 := blk_lt k2
  have r3 := row_of k3
  have f3 := frozen_of k3
  have z3 := blk_lt k3
  clear r0 f0 z0 r1 f1 z1 r2 f2 z2 r3 f3 z3
  have mkA := four_of k0 k1
  have mkC := four_of k2 k3
  have mkS : ∀ W, Below w5.heap.size w5 W → (fun W => W.cell? ⟨w2.heap.size, 0, none⟩ = some (.int .i64 x) ∧ W.cell? ⟨w2.heap.size, 1, none⟩ = some (.int .i64 x) ∧ W.cell? ⟨w2.heap.size + 1, 0, none⟩ = some (.int .i64 y) ∧ W.cell? ⟨w2.heap.size + 1, 1, none⟩ = some (.int .i64 y) ∧ W.cell? ⟨w4.heap.size, 0, none⟩ = some (.int .i64 x) ∧ W.cell? ⟨w4.heap.size, 1, none⟩ = some (.int .i64 x) ∧ W.cell? ⟨w4.heap.size + 1, 0, none⟩ = some (.int .i64 y) ∧ W.cell? ⟨w4.heap.size + 1, 1, none⟩ = some (.int .i64 y)) W := fun W h => ⟨(mkA W h).1, (mkA W h).2.1, (mkA W h).2.2.1, (mkA W h).2.2.2, (mkC W h).1, (mkC W h).2.1, (mkC W h).2.2.1, (mkC W h).2.2.2⟩
  dsimp only at mkS
  clear mkA mkC
  have hBn := Below.refl w5.heap.size w5
  have q0 := k0
  have q1 := k1
  clear k0 k1 k2 k3
  refine wp_region_held_drew (S := fun W => W.cell? ⟨w2.heap.size, 0, none⟩ = some (.int .i64 x) ∧ W.cell? ⟨w2.heap.size, 1, none⟩ = some (.int .i64 x) ∧ W.cell? ⟨w2.heap.size + 1, 0, none⟩ = some (.int .i64 y) ∧ W.cell? ⟨w2.heap.size + 1, 1, none⟩ = some (.int .i64 y) ∧ W.cell? ⟨w4.heap.size, 0, none⟩ = some (.int .i64 x) ∧ W.cell? ⟨w4.heap.size, 1, none⟩ = some (.int .i64 x) ∧ W.cell? ⟨w4.heap.size + 1, 0, none⟩ = some (.int .i64 y) ∧ W.cell? ⟨w4.heap.size + 1, 1, none⟩ = some (.int .i64 y)) (by kernel_rfl) ?_ (fun hHeld => ?_)
  · first | (with_reducible exact mkS _ hBn) | (with_reducible exact mkS _ (Below.drew hBn))
  refine take_at 0 (some 34) (v := ?v0) rfl rfl (by kernel_rfl) (by kernel_rfl) (by kernel_rfl) (fun _ _ _ h => h) (Or.inl ⟨by rfl, ?hy0⟩) (by assumption) ?rest0
  case hy0 => (intro w hSw; (try dsimp only at hSw); go_simp; (try with_reducible rfl))
  (try simp only [Act.put, List.setIfInBounds_toArray, List.set_cons_zero, List.set_cons_succ])
  refine take_at 1 (some 35) (v := ?v1) rfl rfl (by kernel_rfl) (by kernel_rfl) (by kernel_rfl) (fun _ _ _ h => h) (Or.inl ⟨by rfl, ?hy1⟩) (by assumption) ?rest1
  case hy1 => (intro w hSw; (try dsimp only at hSw); go_simp; (try with_reducible rfl))
  (try simp only [Act.put, List.setIfInBounds_toArray, List.set_cons_zero, List.set_cons_succ])
  refine take_at 2 (some 36) (v := ?v2) rfl rfl (by kernel_rfl) (by kernel_rfl) (by kernel_rfl) (fun _ _ _ h => h) (Or.inl ⟨by rfl, ?hy2⟩) (by assumption) ?rest2
  case hy2 => (intro w hSw; (try dsimp only at hSw); go_simp; (try with_reducible rfl))
  (try simp only [Act.put, List.setIfInBounds_toArray, List.set_cons_zero, List.set_cons_succ])
  refine only_at 3 (some 37) _ rfl rfl rfl (by kernel_rfl) (by rfl) (fun K hK => ?_)
  go_simp
  refine (c2.out _).mono ?_
  rintro e wn ⟨rfl, rfl⟩
  refine hK.out _ _ ?_ (fun hHeld => ?_)
  · first | (with_reducible exact mkS _ hBn) | (with_reducible exact mkS _ (Below.drew hBn))
  clear hK K
  (try simp only [Act.put, List.setIfInBounds_toArray, List.set_cons_zero, List.set_cons_succ])
  refine take_at 4 (some 38) (v := ?v4) rfl rfl (by kernel_rfl) (by kernel_rfl) (by kernel_rfl) (fun _ _ _ h => h) (Or.inl ⟨by rfl, ?hy4⟩) (by assumption) ?rest4
  case hy4 => (intro w hSw; (try dsimp only at hSw); go_simp; (try with_reducible rfl))
  (try simp only [Act.put, List.setIfInBounds_toArray, List.set_cons_zero, List.set_cons_succ])
  refine take_at 5 (some 39) (v := ?v5) rfl rfl (by kernel_rfl) (by kernel_rfl) (by kernel_rfl) (fun _ _ _ h => h) (Or.inl ⟨by rfl, ?hy5⟩) (by assumption) ?rest5
  case hy5 => (intro w hSw; (try dsimp only at hSw); go_simp; (try with_reducible rfl))
  (try simp only [Act.put, List.setIfInBounds_toArray, List.set_cons_zero, List.set_cons_succ])
  refine take_at 6 (some 40) (v := ?v6) rfl rfl (by kernel_rfl) (by kernel_rfl) (by kernel_rfl) (fun _ _ _ h => h) (Or.inl ⟨by rfl, ?hy6⟩) (by assumption) ?rest6
  case hy6 => (intro w hSw; (try dsimp only at hSw); go_simp; (try with_reducible rfl))
  (try simp only [Act.put, List.setIfInBounds_toArray, List.set_cons_zero, List.set_cons_succ])
  refine take_at 7 (some 41) (v := ?v7) rfl rfl (by kernel_rfl) (by kernel_rfl) (by kernel_rfl) (fun _ _ _ h => h) (Or.inl ⟨by rfl, ?hy7⟩) (by assumption) ?rest7
  case hy7 => (intro w hSw; (try dsimp only at hSw); go_simp; (try with_reducible rfl))
  (try simp only [Act.put, List.setIfInBounds_toArray, List.set_cons_zero, List.set_cons_succ])
  refine take_at 8 (some 42) (v := ?v8) rfl rfl (by kernel_rfl) (by kernel_rfl) (by kernel_rfl) (fun _ _ _ h => h) (Or.inl ⟨by rfl, ?hy8⟩) (by assumption) ?rest8
  case hy8 => (intro w hSw; (try dsimp only at hSw); go_simp; (try with_reducible rfl))
  (try simp only [Act.put, List.setIfInBounds_toArray, List.set_cons_zero, List.set_cons_succ])
  refine take_at 9 (some 43) (v := ?v9) rfl rfl (by kernel_rfl) (by kernel_rfl) (by kernel_rfl) (fun _ _ _ h => h) (Or.inl ⟨by rfl, ?hy9⟩) (by assumption) ?rest9
  case hy9 => (intro w hSw; (try dsimp only at hSw); go_simp; (try with_reducible rfl))
  (try simp only [Act.put, List.setIfInBounds_toArray, List.set_cons_zero, List.set_cons_succ])
  refine take_at 10 (some 44) (v := ?v10) rfl rfl (by kernel_rfl) (by kernel_rfl) (by kernel_rfl) (fun _ _ _ h => h) (Or.inl ⟨by rfl, ?hy10⟩) (by assumption) ?rest10
  case hy10 => (intro w hSw; (try dsimp only at hSw); go_simp; (try with_reducible rfl))
  (try simp only [Act.put, List.setIfInBounds_toArray, List.set_cons_zero, List.set_cons_succ])
  refine take_at 11 (some 45) (v := ?v11) rfl rfl (by kernel_rfl) (by kernel_rfl) (by kernel_rfl) (fun _ _ _ h => h) (Or.inl ⟨by rfl, ?hy11⟩) (by assumption) ?rest11
  case hy11 => (intro w hSw; (try dsimp only at hSw); go_simp; (try with_reducible rfl))
  (try simp only [Act.put, List.setIfInBounds_toArray, List.set_cons_zero, List.set_cons_succ])
  refine take_at 12 (some 46) (v := ?v12) rfl rfl (by kernel_rfl) (by kernel_rfl) (by kernel_rfl) (fun _ _ _ h => h) (Or.inl ⟨by rfl, ?hy12⟩) (by assumption) ?rest12
  case hy12 => (intro w hSw; (try dsimp only at hSw); go_simp; (try with_reducible rfl))
  (try simp only [Act.put, List.setIfInBounds_toArray, List.set_cons_zero, List.set_cons_succ])
  refine take_at 13 (some 47) (v := ?v13) rfl rfl (by kernel_rfl) (by kernel_rfl) (by kernel_rfl) (fun _ _ _ h => h) (Or.inl ⟨by rfl, ?hy13⟩) (by assumption) ?rest13
  case hy13 => (intro w hSw; (try dsimp only at hSw); go_simp; (try with_reducible rfl))
  (try simp only [Act.put, List.setIfInBounds_toArray, List.set_cons_zero, List.set_cons_succ])
  refine take_at 14 (some 48) (v := ?v14) rfl rfl (by kernel_rfl) (by kernel_rfl) (by kernel_rfl) (fun _ _ _ h => h) (Or.inl ⟨by rfl, ?hy14⟩) (by assumption) ?rest14
  case hy14 => (intro w hSw; (try dsimp only at hSw); go_simp; (try with_reducible rfl))
  (try simp only [Act.put, List.setIfInBounds_toArray, List.set_cons_zero, List.set_cons_succ])
  refine take_at 15 (some 49) (v := ?v15) rfl rfl (by kernel_rfl) (by kernel_rfl) (by kernel_rfl) (fun _ _ _ h => h) (Or.inl ⟨by rfl, ?hy15⟩) (by assumption) ?rest15
  case hy15 => (intro w hSw; (try dsimp only at hSw); go_simp; (try with_reducible rfl))
  (try simp only [Act.put, List.setIfInBounds_toArray, List.set_cons_zero, List.set_cons_succ])
  refine take_at 16 (some 50) (v := ?v16) rfl rfl (by kernel_rfl) (by kernel_rfl) (by kernel_rfl) (fun _ _ _ h => h) (Or.inl ⟨by rfl, ?hy16⟩) (by assumption) ?rest16
  case hy16 => (intro w hSw; (try dsimp only at hSw); go_simp; (try with_reducible rfl))
  (try simp only [Act.put, List.setIfInBounds_toArray, List.set_cons_zero, List.set_cons_succ])
  refine take_at 17 (some 51) (v := ?v17) rfl rfl (by kernel_rfl) (by kernel_rfl) (by kernel_rfl) (fun _ _ _ h => h) (Or.inl ⟨by rfl, ?hy17⟩) (by assumption) ?rest17
  case hy17 => (intro w hSw; (try dsimp only at hSw); go_simp; (try with_reducible rfl))
  (try simp only [Act.put, List.setIfInBounds_toArray, List.set_cons_zero, List.set_cons_succ])
  refine only_at 18 (some 52) _ rfl rfl rfl (by kernel_rfl) (by rfl) (fun K hK => ?_)
  go_simp
  refine (c2.out _).mono ?_
  rintro e wn ⟨rfl, rfl⟩
  refine hK.out _ _ ?_ (fun hHeld => ?_)
  · first | (with_reducible exact mkS _ hBn) | (with_reducible exact mkS _ (Below.drew hBn))
  clear hK K
  (try simp only [Act.put, List.setIfInBounds_toArray, List.set_cons_zero, List.set_cons_succ])
  refine take_at 19 (some 53) (v := ?v19) rfl rfl (by kernel_rfl) (by kernel_rfl) (by kernel_rfl) (fun _ _ _ h => h) (Or.inl ⟨by rfl, ?hy19⟩) (by assumption) ?rest19
  case hy19 => (intro w hSw; (try dsimp only at hSw); go_simp; (try with_reducible rfl))
  (try simp only [Act.put, List.setIfInBounds_toArray, List.set_cons_zero, List.set_cons_succ])
  refine take_at 20 (some 54) (v := ?v20) rfl rfl (by kernel_rfl) (by kernel_rfl) (by kernel_rfl) (fun _ _ _ h => h) (Or.inl ⟨by rfl, ?hy20⟩) (by assumption) ?rest20
  case hy20 => (intro w hSw; (try dsimp only at hSw); go_simp; (try with_reducible rfl))
  (try simp only [Act.put, List.setIfInBounds_toArray, List.set_cons_zero, List.set_cons_succ])
  refine take_at 21 (some 55) (v := undef) rfl rfl (by kernel_rfl) (by kernel_rfl) (by kernel_rfl) (fun _ _ _ h => h) (Or.inr ⟨by rfl, rfl⟩) (by assumption) ?_
  (try simp only [Act.put, List.setIfInBounds_toArray, List.set_cons_zero, List.set_cons_succ])
  refine take_at 22 (some 56) (v := undef) rfl rfl (by kernel_rfl) (by kernel_rfl) (by kernel_rfl) (fun _ _ _ h => h) (Or.inr ⟨by rfl, rfl⟩) (by assumption) ?_
  (try simp only [Act.put, List.setIfInBounds_toArray, List.set_cons_zero, List.set_cons_succ])
  refine take_at 23 (some 57) (v := undef) rfl rfl (by kernel_rfl) (by kernel_rfl) (by kernel_rfl) (fun _ _ _ h => h) (Or.inr ⟨by rfl, rfl⟩) (by assumption) ?_
  (try simp only [Act.put, List.setIfInBounds_toArray, List.set_cons_zero, List.set_cons_succ])
  refine take_at 24 (some 58) (v := undef) rfl rfl (by kernel_rfl) (by kernel_rfl) (by kernel_rfl) (fun _ _ _ h => h) (Or.inr ⟨by rfl, rfl⟩) (by assumption) ?_
  (try simp only [Act.put, List.setIfInBounds_toArray, List.set_cons_zero, List.set_cons_succ])
  refine take_at 25 (some 59) (v := undef) rfl rfl (by kernel_rfl) (by kernel_rfl) (by kernel_rfl) (fun _ _ _ h => h) (Or.inr ⟨by rfl, rfl⟩) (by assumption) ?_
  (try simp only [Act.put, List.setIfInBounds_toArray, List.set_cons_zero, List.set_cons_succ])
  refine take_at 26 (some 60) (v := undef) rfl rfl (by kernel_rfl) (by kernel_rfl) (by kernel_rfl) (fun _ _ _ h => h) (Or.inr ⟨by rfl, rfl⟩) (by assumption) ?_
  (try simp only [Act.put, List.setIfInBounds_toArray, List.set_cons_zero, List.set_cons_succ])
  refine take_at 27 (some 61) (v := undef) rfl rfl (by kernel_rfl) (by kernel_rfl) (by kernel_rfl) (fun _ _ _ h => h) (Or.inr ⟨by rfl, rfl⟩) (by assumption) ?_
  (try simp only [Act.put, List.setIfInBounds_toArray, List.set_cons_zero, List.set_cons_succ])
  refine take_at 28 (some 62) (v := undef) rfl rfl (by kernel_rfl) (by kernel_rfl) (by kernel_rfl) (fun _ _ _ h => h) (Or.inr ⟨by rfl, rfl⟩) (by assumption) ?_
  (try simp only [Act.put, List.setIfInBounds_toArray, List.set_cons_zero, List.set_cons_succ])
  refine take_at 29 (some 63) (v := ?v29) rfl rfl (by kernel_rfl) (by kernel_rfl) (by kernel_rfl) (fun _ _ _ h => h) (Or.inl ⟨by rfl, ?hy29⟩) (by assumption) ?rest29
  case hy29 => (intro w hSw; (try dsimp only at hSw); go_simp; (try with_reducible rfl))
  (try simp only [Act.put, List.setIfInBounds_toArray, List.set_cons_zero, List.set_cons_succ])
  refine take_at 30 (some 64) (v := ?v30) rfl rfl (by kernel_rfl) (by kernel_rfl) (by kernel_rfl) (fun _ _ _ h => h) (Or.inl ⟨by rfl, ?hy30⟩) (by assumption) ?rest30
  case hy30 => (intro w hSw; (try dsimp only at hSw); go_simp; (try with_reducible rfl))
  (try simp only [Act.put, List.setIfInBounds_toArray, List.set_cons_zero, List.set_cons_succ])
  refine wpAnyH_done (by kernel_rfl) ?_ _
  go_upto_region 7 with fail
  refine wp_world (fun W => W.heap[w2.heap.size]? = some (.cells #[.int .i64 x, .int .i64 x] 25 (0, 0)) ∧ W.heap[w2.heap.size + 1]? = some (.cells #[.int .i64 y, .int .i64 y] 25 (0, 0)) ∧ Below w.heap.size w W) (by first | exact ⟨blk_keep hBn q0, blk_keep hBn q1, below_trB hB hBn⟩ | exact ⟨blk_keep (Below.drew hBn) q0, blk_keep (Below.drew hBn) q1, below_trB hB (Below.drew hBn)⟩) ?_
  clear hB hBn mkS q0 q1
  rintro w9 ⟨k0, k1, hB⟩
  have r0 := row_of k0
  have f0 := frozen_of k0
  have z0 := blk_lt k0
  have r1 := row_of k1
  have f1 := frozen_of k1
  have z1 := blk_lt k1
  have hj2 := hj.out
  have ho2 := ho.out
  have hm2 := hm.out
  have hl2 := hl.out
  have hh2 := hh.out
  go_wp2_with fail
  refine (does_any _).mono ?_
  rintro e w10 ⟨rfl, hb⟩
  replace k0 := blk_keep hb k0
  replace k1 := blk_keep hb k1
  replace hB := hB.trans (hb.mono hB.size)
  clear r0 f0 z0 r1 f1 z1
  clear hb
  have r0 := row_of k0
  have f0 := frozen_of k0
  have z0 := blk_lt k0
  have r1 := row_of k1
  have f1 := frozen_of k1
  have z1 := blk_lt k1
  go_wp2_with fail
  refine (join_any _ _ _ _ _).mono ?_
  rintro e w11 ⟨rfl, hb⟩
  replace k0 := blk_keep hb k0
  replace k1 := blk_keep hb k1
  replace hB := hB.trans (hb.mono hB.size)
  clear r0 f0 z0 r1 f1 z1
  clear hb
  have r0 := row_of k0
  have f0 := frozen_of k0
  have z0 := blk_lt k0
  have r1 := row_of k1
  have f1 := frozen_of k1
  have z1 := blk_lt k1
  go_wp2_with fail
  refine (of_any _ _ _).mono ?_
  rintro e w12 ⟨rfl, hb⟩
  replace k0 := blk_keep hb k0
  replace k1 := blk_keep hb k1
  replace hB := hB.trans (hb.mono hB.size)
  clear r0 f0 z0 r1 f1 z1
  clear hb
  have r0 := row_of k0
  have f0 := frozen_of k0
  have z0 := blk_lt k0
  have r1 := row_of k1
  have f1 := frozen_of k1
  have z1 := blk_lt k1
  go_wp2_with fail
  refine (meet_any _ _ _ _ _).mono ?_
  rintro e w13 ⟨rfl, hb⟩
  replace k0 := blk_keep hb k0
  replace k1 := blk_keep hb k1
  replace hB := hB.trans (hb.mono hB.size)
  clear r0 f0 z0 r1 f1 z1
  clear hb
  have r0 := row_of k0
  have f0 := frozen_of k0
  have z0 := blk_lt k0
  have r1 := row_of k1
  have f1 := frozen_of k1
  have z1 := blk_lt k1
  by_cases hxy : x = y
  · have he : (x == y) = true := by rw [beq_iff_eq]; exact hxy
    have hd : decide (m1 < m0) = false := by rw [hme.out]; simp [hxy]
    have hw2 : withinB x x y y = true := by rw [hw.out]; simp [hxy]
    subst hxy
    go_wp2_with fail
    refine (empty_any _ _ _).mono ?_
    rintro e w14 ⟨rfl, hb⟩
    replace k0 := blk_keep hb k0
    replace k1 := blk_keep hb k1
    replace hB := hB.trans (hb.mono hB.size)
    clear r0 f0 z0 r1 f1 z1
    clear hb
    have r0 := row_of k0
    have f0 := frozen_of k0
    have z0 := blk_lt k0
    have r1 := row_of k1
    have f1 := frozen_of k1
    have z1 := blk_lt k1
    go_wp2_with fail
    refine (within_any _ _ _ _ _).mono ?_
    rintro e w15 ⟨rfl, hb⟩
    replace k0 := blk_keep hb k0
    replace k1 := blk_keep hb k1
    replace hB := hB.trans (hb.mono hB.size)
    clear r0 f0 z0 r1 f1 z1
    clear hb
    have r0 := row_of k0
    have f0 := frozen_of k0
    have z0 := blk_lt k0
    have r1 := row_of k1
    have f1 := frozen_of k1
    have z1 := blk_lt k1
    go_wp2_with fail
    refine (has_any _ _ _ _).mono ?_
    rintro e w16 ⟨rfl, hb⟩
    replace k0 := blk_keep hb k0
    replace k1 := blk_keep hb k1
    replace hB := hB.trans (hb.mono hB.size)
    clear r0 f0 z0 r1 f1 z1
    clear hb
    have r0 := row_of k0
    have f0 := frozen_of k0
    have z0 := blk_lt k0
    have r1 := row_of k1
    have f1 := frozen_of k1
    have z1 := blk_lt k1
    go_wp2_with fail
    go_ret
    exact ⟨by first | (simp; done) | simp [hxy], hB⟩
  · have he : (x == y) = false := by rw [beq_eq_false_iff_ne]; exact hxy
    have hd : decide (m1 < m0) = true := by rw [hme.out]; simp [hxy]
    have hw2 : withinB x x y y = false := by rw [hw.out]; simp [hxy]
    clear he
    go_wp2_with fail
    refine (empty_any _ _ _).mono ?_
    rintro e w14 ⟨rfl, hb⟩
    replace k0 := blk_keep hb k0
    replace k1 := blk_keep hb k1
    replace hB := hB.trans (hb.mono hB.size)
    clear r0 f0 z0 r1 f1 z1
    clear hb
    have r0 := row_of k0
    have f0 := frozen_of k0
    have z0 := blk_lt k0
    have r1 := row_of k1
    have f1 := frozen_of k1
    have z1 := blk_lt k1
    go_wp2_with fail
    refine (within_any _ _ _ _ _).mono ?_
    rintro e w15 ⟨rfl, hb⟩
    replace k0 := blk_keep hb k0
    replace k1 := blk_keep hb k1
    replace hB := hB.trans (hb.mono hB.size)
    clear r0 f0 z0 r1 f1 z1
    clear hb
    have r0 := row_of k0
    have f0 := frozen_of k0
    have z0 := blk_lt k0
    have r1 := row_of k1
    have f1 := frozen_of k1
    have z1 := blk_lt k1
    go_wp2_with fail
    refine (has_any _ _ _ _).mono ?_
    rintro e w16 ⟨rfl, hb⟩
    replace k0 := blk_keep hb k0
    replace k1 := blk_keep hb k1
    replace hB := hB.trans (hb.mono hB.size)
    clear r0 f0 z0 r1 f1 z1
    clear hb
    have r0 := row_of k0
    have f0 := frozen_of k0
    have z0 := blk_lt k0
    have r1 := row_of k1
    have f1 := frozen_of k1
    have z1 := blk_lt k1
    go_wp2_with fail
    go_ret
    exact ⟨by first | (simp; done) | simp [hxy], hB⟩
set_option maxRecDepth 100000 in
set_option maxHeartbeats 4000000 in
theorem consts_false (x y op k l h m0 m1 : Int) (w : World) (hx : wrap64 x = x) (hy : wrap64 y = y) (hk : wrap64 (1 + wrap64 ((IntKind.u64.wrap op).tmod 6)) = k)
    (x1 : -2147483648 ≤ x) (x2 : x ≤ 2147483647) (y1 : -2147483648 ≤ y) (y2 : y ≤ 2147483647)
    (c1 : ∀ W, Calls Try.prog 33 #[.int .i64 k, .agg #[.int .i64 x, .int .i64 x], .agg #[.int .i64 y, .int .i64 y]] W fun e w' => e = .returned (.tuple #[.agg #[.int .i64 1, .int .i64 0], .agg #[.int .i64 1, .int .i64 0]]) ∧ Below W.heap.size W w')
    (c2 : ∀ W, Calls Try.prog 37 #[.int .i64 k, .int .i64 x, .int .i64 y] W fun e w' => e = .returned (.bool false) ∧ W = w')
    (hl : (if y < x then y else x) = l) (hh : (if x < y then y else x) = h) (hj : joinP x x y y = (l, h)) (ho : ofP l h = (l, h)) (hm : meetP x x y y = (m0, m1)) (hme : decide (m1 < m0) = decide (x ≠ y)) (hw : withinB x x y y = decide (x = y)) :
    Calls Try.prog 9 #[.int .i32 x, .int .i32 y, .int .i64 op] w fun e w' => e = .returned (.bool true) ∧ Below w.heap.size w w' := by
  replace c1 := Lib.hid c1
  replace c2 := Lib.hid c2
  replace hl := Lib.hid hl
  replace hh := Lib.hid hh
  replace hj := Lib.hid hj
  replace ho := Lib.hid ho
  replace hm := Lib.hid hm
  replace hme := Lib.hid hme
  replace hw := Lib.hid hw
  have cx := Lib.hid (fun W => const_in x W x1 x2)
  have cy := Lib.hid (fun W => const_in y W y1 y2)
  clear x1 x2 y1 y2
  go_enter Try.func9, Try.ntmps9
  go_wp2_with fail
  refine (cx.out _).mono ?_
  rintro e w1 ⟨rfl, hB⟩
  go_wp2_with fail
  refine (cy.out _).mono ?_
  rintro e w2 ⟨rfl, hb⟩
  replace hB := hB.trans (hb.mono hB.size)
  clear hb
  go_upto_region 4 with fail
  refine wp_world (fun W => W.heap[w2.heap.size]? = some (.cells #[.int .i64 x, .int .i64 x] 25 (0, 0)) ∧ W.heap[w2.heap.size + 1]? = some (.cells #[.int .i64 y, .int .i64 y] 25 (0, 0)) ∧ Below w.heap.size w W) ⟨blkUp (blkA _ _ rfl) _, blkA _ _ (by simp only [World.size_alloc]), (hB.alloc hB.size _).alloc (by simp only [World.size_alloc]; exact Nat.le_succ_of_le hB.size) _⟩ ?_
  have hz0 : w.heap.size ≤ w2.heap.size := hB.size
  clear hB
  rintro w3 ⟨k0, k1, hB⟩
  have r0 := row_of k0
  have f0 := frozen_of k0
  have z0 := blk_lt k0
  have r1 := row_of k1
  have f1 := frozen_of k1
  have z1 := blk_lt k1
  go_wp2_with fail
  refine (c1.out _).mono ?_
  rintro e w4 ⟨rfl, hb⟩
  replace k0 := blk_keep hb k0
  replace k1 := blk_keep hb k1
  replace hB := hB.trans (hb.mono hB.size)
  clear r0 f0 z0 r1 f1 z1
  clear hb
  have r0 := row_of k0
  have f0 := frozen_of k0
  have z0 := blk_lt k0
  have r1 := row_of k1
  have f1 := frozen_of k1
  have z1 := blk_lt k1
  go_upto_region 5 with fail
  have hz1 : w2.heap.size + 1 < w4.heap.size := blk_lt k1
  refine wp_world (fun W => W.heap[w2.heap.size]? = some (.cells #[.int .i64 x, .int .i64 x] 25 (0, 0)) ∧ W.heap[w2.heap.size + 1]? = some (.cells #[.int .i64 y, .int .i64 y] 25 (0, 0)) ∧ W.heap[w4.heap.size]? = some (.cells #[.int .i64 1, .int .i64 0] 25 (0, 0)) ∧ W.heap[w4.heap.size + 1]? = some (.cells #[.int .i64 1, .int .i64 0] 25 (0, 0)) ∧ Below w.heap.size w W) ⟨blkUp (blkUp (k0) _) _, blkUp (blkUp (k1) _) _, blkUp (blkA _ _ (by first | rfl | simp only [World.size_alloc])) _, blkA _ _ (by first | rfl | simp only [World.size_alloc]), ((hB).alloc (by first | exact hB.size | (simp only [World.size_alloc]; omega)) _).alloc (by first | exact hB.size | (simp only [World.size_alloc]; omega)) _⟩ ?_
  clear r0 f0 z0 r1 f1 z1
  clear hB k0 k1
  rintro w5 ⟨k0, k1, k2, k3, hB⟩
  have r0 := row_of k0
  have f0 := frozen_of k0
  have z0 := blk_lt k0
  have r1 := row_of k1
  have f1 := frozen_of k1
  have z1 := blk_lt k1
  have r2 := row_of k2
  have f2 := frozen_of k2
  have z2 := blk_lt k2
  have r3 := row_of k3
  have f3 := frozen_of k3
  have z3 := blk_lt k3
  clear r0 f0 z0 r1 f1 z1 r2 f2 z2 r3 f3 z3
  have mkA := four_of k0 k1
  have mkC := four_of k2 k3
  have mkS : ∀ W, Below w5.heap.size w5 W → (fun W => W.cell? ⟨w2.heap.size, 0, none⟩ = some (.int .i64 x) ∧ W.cell? ⟨w2.heap.size, 1, none⟩ = some (.int .i64 x) ∧ W.cell? ⟨w2.heap.size + 1, 0, none⟩ = some (.int .i64 y) ∧ W.cell? ⟨w2.heap.size + 1, 1, none⟩ = some (.int .i64 y) ∧ W.cell? ⟨w4.heap.size, 0, none⟩ = some (.int .i64 1) ∧ W.cell? ⟨w4.heap.size, 1, none⟩ = some (.int .i64 0) ∧ W.cell? ⟨w4.heap.size + 1, 0, none⟩ = some (.int .i64 1) ∧ W.cell? ⟨w4.heap.size + 1, 1, none⟩ = some (.int .i64 0)) W := fun W h => ⟨(mkA W h).1, (mkA W h).2.1, (mkA W h).2.2.1, (mkA W h).2.2.2, (mkC W h).1, (mkC W h).2.1, (mkC W h).2.2.1, (mkC W h).2.2.2⟩
  dsimp only at mkS
  clear mkA mkC
  have hBn := Below.refl w5.heap.size w5
  have q0 := k0
  have q1 := k1
  clear k0 k1 k2 k3
  refine wp_region_held_drew (S := fun W => W.cell? ⟨w2.heap.size, 0, none⟩ = some (.int .i64 x) ∧ W.cell? ⟨w2.heap.size, 1, none⟩ = some (.int .i64 x) ∧ W.cell? ⟨w2.heap.size + 1, 0, none⟩ = some (.int .i64 y) ∧ W.cell? ⟨w2.heap.size + 1, 1, none⟩ = some (.int .i64 y) ∧ W.cell? ⟨w4.heap.size, 0, none⟩ = some (.int .i64 1) ∧ W.cell? ⟨w4.heap.size, 1, none⟩ = some (.int .i64 0) ∧ W.cell? ⟨w4.heap.size + 1, 0, none⟩ = some (.int .i64 1) ∧ W.cell? ⟨w4.heap.size + 1, 1, none⟩ = some (.int .i64 0)) (by kernel_rfl) ?_ (fun hHeld => ?_)
  · first | (with_reducible exact mkS _ hBn) | (with_reducible exact mkS _ (Below.drew hBn))
  refine take_at 0 (some 34) (v := ?v0) rfl rfl (by kernel_rfl) (by kernel_rfl) (by kernel_rfl) (fun _ _ _ h => h) (Or.inl ⟨by rfl, ?hy0⟩) (by assumption) ?rest0
  case hy0 => (intro w hSw; (try dsimp only at hSw); go_simp; (try with_reducible rfl))
  (try simp only [Act.put, List.setIfInBounds_toArray, List.set_cons_zero, List.set_cons_succ])
  refine take_at 1 (some 35) (v := ?v1) rfl rfl (by kernel_rfl) (by kernel_rfl) (by kernel_rfl) (fun _ _ _ h => h) (Or.inl ⟨by rfl, ?hy1⟩) (by assumption) ?rest1
  case hy1 => (intro w hSw; (try dsimp only at hSw); go_simp; (try with_reducible rfl))
  (try simp only [Act.put, List.setIfInBounds_toArray, List.set_cons_zero, List.set_cons_succ])
  refine take_at 2 (some 36) (v := ?v2) rfl rfl (by kernel_rfl) (by kernel_rfl) (by kernel_rfl) (fun _ _ _ h => h) (Or.inl ⟨by rfl, ?hy2⟩) (by assumption) ?rest2
  case hy2 => (intro w hSw; (try dsimp only at hSw); go_simp; (try with_reducible rfl))
  (try simp only [Act.put, List.setIfInBounds_toArray, List.set_cons_zero, List.set_cons_succ])
  refine only_at 3 (some 37) _ rfl rfl rfl (by kernel_rfl) (by rfl) (fun K hK => ?_)
  go_simp
  refine (c2.out _).mono ?_
  rintro e wn ⟨rfl, rfl⟩
  refine hK.out _ _ ?_ (fun hHeld => ?_)
  · first | (with_reducible exact mkS _ hBn) | (with_reducible exact mkS _ (Below.drew hBn))
  clear hK K
  (try simp only [Act.put, List.setIfInBounds_toArray, List.set_cons_zero, List.set_cons_succ])
  refine take_at 4 (some 38) (v := ?v4) rfl rfl (by kernel_rfl) (by kernel_rfl) (by kernel_rfl) (fun _ _ _ h => h) (Or.inl ⟨by rfl, ?hy4⟩) (by assumption) ?rest4
  case hy4 => (intro w hSw; (try dsimp only at hSw); go_simp; (try with_reducible rfl))
  (try simp only [Act.put, List.setIfInBounds_toArray, List.set_cons_zero, List.set_cons_succ])
  refine take_at 5 (some 39) (v := undef) rfl rfl (by kernel_rfl) (by kernel_rfl) (by kernel_rfl) (fun _ _ _ h => h) (Or.inr ⟨by rfl, rfl⟩) (by assumption) ?_
  (try simp only [Act.put, List.setIfInBounds_toArray, List.set_cons_zero, List.set_cons_succ])
  refine take_at 6 (some 40) (v := undef) rfl rfl (by kernel_rfl) (by kernel_rfl) (by kernel_rfl) (fun _ _ _ h => h) (Or.inr ⟨by rfl, rfl⟩) (by assumption) ?_
  (try simp only [Act.put, List.setIfInBounds_toArray, List.set_cons_zero, List.set_cons_succ])
  refine take_at 7 (some 41) (v := undef) rfl rfl (by kernel_rfl) (by kernel_rfl) (by kernel_rfl) (fun _ _ _ h => h) (Or.inr ⟨by rfl, rfl⟩) (by assumption) ?_
  (try simp only [Act.put, List.setIfInBounds_toArray, List.set_cons_zero, List.set_cons_succ])
  refine take_at 8 (some 42) (v := undef) rfl rfl (by kernel_rfl) (by kernel_rfl) (by kernel_rfl) (fun _ _ _ h => h) (Or.inr ⟨by rfl, rfl⟩) (by assumption) ?_
  (try simp only [Act.put, List.setIfInBounds_toArray, List.set_cons_zero, List.set_cons_succ])
  refine take_at 9 (some 43) (v := undef) rfl rfl (by kernel_rfl) (by kernel_rfl) (by kernel_rfl) (fun _ _ _ h => h) (Or.inr ⟨by rfl, rfl⟩) (by assumption) ?_
  (try simp only [Act.put, List.setIfInBounds_toArray, List.set_cons_zero, List.set_cons_succ])
  refine take_at 10 (some 44) (v := undef) rfl rfl (by kernel_rfl) (by kernel_rfl) (by kernel_rfl) (fun _ _ _ h => h) (Or.inr ⟨by rfl, rfl⟩) (by assumption) ?_
  (try simp only [Act.put, List.setIfInBounds_toArray, List.set_cons_zero, List.set_cons_succ])
  refine take_at 11 (some 45) (v := undef) rfl rfl (by kernel_rfl) (by kernel_rfl) (by kernel_rfl) (fun _ _ _ h => h) (Or.inr ⟨by rfl, rfl⟩) (by assumption) ?_
  (try simp only [Act.put, List.setIfInBounds_toArray, List.set_cons_zero, List.set_cons_succ])
  refine take_at 12 (some 46) (v := undef) rfl rfl (by kernel_rfl) (by kernel_rfl) (by kernel_rfl) (fun _ _ _ h => h) (Or.inr ⟨by rfl, rfl⟩) (by assumption) ?_
  (try simp only [Act.put, List.setIfInBounds_toArray, List.set_cons_zero, List.set_cons_succ])
  refine take_at 13 (some 47) (v := ?v13) rfl rfl (by kernel_rfl) (by kernel_rfl) (by kernel_rfl) (fun _ _ _ h => h) (Or.inl ⟨by rfl, ?hy13⟩) (by assumption) ?rest13
  case hy13 => (intro w hSw; (try dsimp only at hSw); go_simp; (try with_reducible rfl))
  (try simp only [Act.put, List.setIfInBounds_toArray, List.set_cons_zero, List.set_cons_succ])
  refine take_at 14 (some 48) (v := ?v14) rfl rfl (by kernel_rfl) (by kernel_rfl) (by kernel_rfl) (fun _ _ _ h => h) (Or.inl ⟨by rfl, ?hy14⟩) (by assumption) ?rest14
  case hy14 => (intro w hSw; (try dsimp only at hSw); go_simp; (try with_reducible rfl))
  (try simp only [Act.put, List.setIfInBounds_toArray, List.set_cons_zero, List.set_cons_succ])
  refine take_at 15 (some 49) (v := ?v15) rfl rfl (by kernel_rfl) (by kernel_rfl) (by kernel_rfl) (fun _ _ _ h => h) (Or.inl ⟨by rfl, ?hy15⟩) (by assumption) ?rest15
  case hy15 => (intro w hSw; (try dsimp only at hSw); go_simp; (try with_reducible rfl))
  (try simp only [Act.put, List.setIfInBounds_toArray, List.set_cons_zero, List.set_cons_succ])
  refine take_at 16 (some 50) (v := ?v16) rfl rfl (by kernel_rfl) (by kernel_rfl) (by kernel_rfl) (fun _ _ _ h => h) (Or.inl ⟨by rfl, ?hy16⟩) (by assumption) ?rest16
  case hy16 => (intro w hSw; (try dsimp only at hSw); go_simp; (try with_reducible rfl))
  (try simp only [Act.put, List.setIfInBounds_toArray, List.set_cons_zero, List.set_cons_succ])
  refine take_at 17 (some 51) (v := ?v17) rfl rfl (by kernel_rfl) (by kernel_rfl) (by kernel_rfl) (fun _ _ _ h => h) (Or.inl ⟨by rfl, ?hy17⟩) (by assumption) ?rest17
  case hy17 => (intro w hSw; (try dsimp only at hSw); go_simp; (try with_reducible rfl))
  (try simp only [Act.put, List.setIfInBounds_toArray, List.set_cons_zero, List.set_cons_succ])
  refine only_at 18 (some 52) _ rfl rfl rfl (by kernel_rfl) (by rfl) (fun K hK => ?_)
  go_simp
  refine (c2.out _).mono ?_
  rintro e wn ⟨rfl, rfl⟩
  refine hK.out _ _ ?_ (fun hHeld => ?_)
  · first | (with_reducible exact mkS _ hBn) | (with_reducible exact mkS _ (Below.drew hBn))
  clear hK K
  (try simp only [Act.put, List.setIfInBounds_toArray, List.set_cons_zero, List.set_cons_succ])
  refine take_at 19 (some 53) (v := ?v19) rfl rfl (by kernel_rfl) (by kernel_rfl) (by kernel_rfl) (fun _ _ _ h => h) (Or.inl ⟨by rfl, ?hy19⟩) (by assumption) ?rest19
  case hy19 => (intro w hSw; (try dsimp only at hSw); go_simp; (try with_reducible rfl))
  (try simp only [Act.put, List.setIfInBounds_toArray, List.set_cons_zero, List.set_cons_succ])
  refine take_at 20 (some 54) (v := ?v20) rfl rfl (by kernel_rfl) (by kernel_rfl) (by kernel_rfl) (fun _ _ _ h => h) (Or.inl ⟨by rfl, ?hy20⟩) (by assumption) ?rest20
  case hy20 => (intro w hSw; (try dsimp only at hSw); go_simp; (try with_reducible rfl))
  (try simp only [Act.put, List.setIfInBounds_toArray, List.set_cons_zero, List.set_cons_succ])
  refine take_at 21 (some 55) (v := ?v21) rfl rfl (by kernel_rfl) (by kernel_rfl) (by kernel_rfl) (fun _ _ _ h => h) (Or.inl ⟨by rfl, ?hy21⟩) (by assumption) ?rest21
  case hy21 => (intro w hSw; (try dsimp only at hSw); go_simp; (try with_reducible rfl))
  (try simp only [Act.put, List.setIfInBounds_toArray, List.set_cons_zero, List.set_cons_succ])
  refine only_at 22 (some 56) _ rfl rfl rfl (by kernel_rfl) (by rfl) (fun K hK => ?_)
  go_simp
  refine (none_any _).mono ?_
  rintro e wn ⟨rfl, hbS⟩
  (try (with_reducible replace hbS := below_undrew hbS))
  replace hBn := below_tr hBn hbS
  refine hK.out _ _ ?_ (fun hHeld => ?_)
  · first | (with_reducible exact mkS _ hBn) | (with_reducible exact mkS _ (Below.drew hBn))
  clear hK K
  (try simp only [Act.put, List.setIfInBounds_toArray, List.set_cons_zero, List.set_cons_succ])
  refine take_at 23 (some 57) (v := ?v23) rfl rfl (by kernel_rfl) (by kernel_rfl) (by kernel_rfl) (fun _ _ _ h => h) (Or.inl ⟨by rfl, ?hy23⟩) (by assumption) ?rest23
  case hy23 => (intro w hSw; (try dsimp only at hSw); go_simp; (try with_reducible rfl))
  (try simp only [Act.put, List.setIfInBounds_toArray, List.set_cons_zero, List.set_cons_succ])
  refine take_at 24 (some 58) (v := ?v24) rfl rfl (by kernel_rfl) (by kernel_rfl) (by kernel_rfl) (fun _ _ _ h => h) (Or.inl ⟨by rfl, ?hy24⟩) (by assumption) ?rest24
  case hy24 => (intro w hSw; (try dsimp only at hSw); go_simp; (try with_reducible rfl))
  (try simp only [Act.put, List.setIfInBounds_toArray, List.set_cons_zero, List.set_cons_succ])
  refine take_at 25 (some 59) (v := ?v25) rfl rfl (by kernel_rfl) (by kernel_rfl) (by kernel_rfl) (fun _ _ _ h => h) (Or.inl ⟨by rfl, ?hy25⟩) (by assumption) ?rest25
  case hy25 => (intro w hSw; (try dsimp only at hSw); go_simp; (try with_reducible rfl))
  (try simp only [Act.put, List.setIfInBounds_toArray, List.set_cons_zero, List.set_cons_succ])
  refine only_at 26 (some 60) _ rfl rfl rfl (by kernel_rfl) (by rfl) (fun K hK => ?_)
  go_simp
  refine (none_any _).mono ?_
  rintro e wn ⟨rfl, hbS⟩
  (try (with_reducible replace hbS := below_undrew hbS))
  replace hBn := below_tr hBn hbS
  refine hK.out _ _ ?_ (fun hHeld => ?_)
  · first | (with_reducible exact mkS _ hBn) | (with_reducible exact mkS _ (Below.drew hBn))
  clear hK K
  (try simp only [Act.put, List.setIfInBounds_toArray, List.set_cons_zero, List.set_cons_succ])
  refine take_at 27 (some 61) (v := ?v27) rfl rfl (by kernel_rfl) (by kernel_rfl) (by kernel_rfl) (fun _ _ _ h => h) (Or.inl ⟨by rfl, ?hy27⟩) (by assumption) ?rest27
  case hy27 => (intro w hSw; (try dsimp only at hSw); go_simp; (try with_reducible rfl))
  (try simp only [Act.put, List.setIfInBounds_toArray, List.set_cons_zero, List.set_cons_succ])
  refine take_at 28 (some 62) (v := ?v28) rfl rfl (by kernel_rfl) (by kernel_rfl) (by kernel_rfl) (fun _ _ _ h => h) (Or.inl ⟨by rfl, ?hy28⟩) (by assumption) ?rest28
  case hy28 => (intro w hSw; (try dsimp only at hSw); go_simp; (try with_reducible rfl))
  (try simp only [Act.put, List.setIfInBounds_toArray, List.set_cons_zero, List.set_cons_succ])
  refine take_at 29 (some 63) (v := ?v29) rfl rfl (by kernel_rfl) (by kernel_rfl) (by kernel_rfl) (fun _ _ _ h => h) (Or.inl ⟨by rfl, ?hy29⟩) (by assumption) ?rest29
  case hy29 => (intro w hSw; (try dsimp only at hSw); go_simp; (try with_reducible rfl))
  (try simp only [Act.put, List.setIfInBounds_toArray, List.set_cons_zero, List.set_cons_succ])
  refine take_at 30 (some 64) (v := ?v30) rfl rfl (by kernel_rfl) (by kernel_rfl) (by kernel_rfl) (fun _ _ _ h => h) (Or.inl ⟨by rfl, ?hy30⟩) (by assumption) ?rest30
  case hy30 => (intro w hSw; (try dsimp only at hSw); go_simp; (try with_reducible rfl))
  (try simp only [Act.put, List.setIfInBounds_toArray, List.set_cons_zero, List.set_cons_succ])
  refine wpAnyH_done (by kernel_rfl) ?_ _
  go_upto_region 7 with fail
  refine wp_world (fun W => W.heap[w2.heap.size]? = some (.cells #[.int .i64 x, .int .i64 x] 25 (0, 0)) ∧ W.heap[w2.heap.size + 1]? = some (.cells #[.int .i64 y, .int .i64 y] 25 (0, 0)) ∧ Below w.heap.size w W) (by first | exact ⟨blk_keep hBn q0, blk_keep hBn q1, below_trB hB hBn⟩ | exact ⟨blk_keep (Below.drew hBn) q0, blk_keep (Below.drew hBn) q1, below_trB hB (Below.drew hBn)⟩) ?_
  clear hB hBn mkS q0 q1
  rintro w9 ⟨k0, k1, hB⟩
  have r0 := row_of k0
  have f0 := frozen_of k0
  have z0 := blk_lt k0
  have r1 := row_of k1
  have f1 := frozen_of k1
  have z1 := blk_lt k1
  have hj2 := hj.out
  have ho2 := ho.out
  have hm2 := hm.out
  have hl2 := hl.out
  have hh2 := hh.out
  go_wp2_with fail
  refine (does_any _).mono ?_
  rintro e w10 ⟨rfl, hb⟩
  replace k0 := blk_keep hb k0
  replace k1 := blk_keep hb k1
  replace hB := hB.trans (hb.mono hB.size)
  clear r0 f0 z0 r1 f1 z1
  clear hb
  have r0 := row_of k0
  have f0 := frozen_of k0
  have z0 := blk_lt k0
  have r1 := row_of k1
  have f1 := frozen_of k1
  have z1 := blk_lt k1
  go_wp2_with fail
  refine (join_any _ _ _ _ _).mono ?_
  rintro e w11 ⟨rfl, hb⟩
  replace k0 := blk_keep hb k0
  replace k1 := blk_keep hb k1
  replace hB := hB.trans (hb.mono hB.size)
  clear r0 f0 z0 r1 f1 z1
  clear hb
  have r0 := row_of k0
  have f0 := frozen_of k0
  have z0 := blk_lt k0
  have r1 := row_of k1
  have f1 := frozen_of k1
  have z1 := blk_lt k1
  go_wp2_with fail
  refine (of_any _ _ _).mono ?_
  rintro e w12 ⟨rfl, hb⟩
  replace k0 := blk_keep hb k0
  replace k1 := blk_keep hb k1
  replace hB := hB.trans (hb.mono hB.size)
  clear r0 f0 z0 r1 f1 z1
  clear hb
  have r0 := row_of k0
  have f0 := frozen_of k0
  have z0 := blk_lt k0
  have r1 := row_of k1
  have f1 := frozen_of k1
  have z1 := blk_lt k1
  go_wp2_with fail
  refine (meet_any _ _ _ _ _).mono ?_
  rintro e w13 ⟨rfl, hb⟩
  replace k0 := blk_keep hb k0
  replace k1 := blk_keep hb k1
  replace hB := hB.trans (hb.mono hB.size)
  clear r0 f0 z0 r1 f1 z1
  clear hb
  have r0 := row_of k0
  have f0 := frozen_of k0
  have z0 := blk_lt k0
  have r1 := row_of k1
  have f1 := frozen_of k1
  have z1 := blk_lt k1
  by_cases hxy : x = y
  · have he : (x == y) = true := by rw [beq_iff_eq]; exact hxy
    have hd : decide (m1 < m0) = false := by rw [hme.out]; simp [hxy]
    have hw2 : withinB x x y y = true := by rw [hw.out]; simp [hxy]
    subst hxy
    go_wp2_with fail
    refine (empty_any _ _ _).mono ?_
    rintro e w14 ⟨rfl, hb⟩
    replace k0 := blk_keep hb k0
    replace k1 := blk_keep hb k1
    replace hB := hB.trans (hb.mono hB.size)
    clear r0 f0 z0 r1 f1 z1
    clear hb
    have r0 := row_of k0
    have f0 := frozen_of k0
    have z0 := blk_lt k0
    have r1 := row_of k1
    have f1 := frozen_of k1
    have z1 := blk_lt k1
    go_wp2_with fail
    refine (within_any _ _ _ _ _).mono ?_
    rintro e w15 ⟨rfl, hb⟩
    replace k0 := blk_keep hb k0
    replace k1 := blk_keep hb k1
    replace hB := hB.trans (hb.mono hB.size)
    clear r0 f0 z0 r1 f1 z1
    clear hb
    have r0 := row_of k0
    have f0 := frozen_of k0
    have z0 := blk_lt k0
    have r1 := row_of k1
    have f1 := frozen_of k1
    have z1 := blk_lt k1
    go_wp2_with fail
    refine (has_any _ _ _ _).mono ?_
    rintro e w16 ⟨rfl, hb⟩
    replace k0 := blk_keep hb k0
    replace k1 := blk_keep hb k1
    replace hB := hB.trans (hb.mono hB.size)
    clear r0 f0 z0 r1 f1 z1
    clear hb
    have r0 := row_of k0
    have f0 := frozen_of k0
    have z0 := blk_lt k0
    have r1 := row_of k1
    have f1 := frozen_of k1
    have z1 := blk_lt k1
    go_wp2_with fail
    go_ret
    exact ⟨by first | (simp; done) | simp [hxy], hB⟩
  · have he : (x == y) = false := by rw [beq_eq_false_iff_ne]; exact hxy
    have hd : decide (m1 < m0) = true := by rw [hme.out]; simp [hxy]
    have hw2 : withinB x x y y = false := by rw [hw.out]; simp [hxy]
    clear he
    go_wp2_with fail
    refine (empty_any _ _ _).mono ?_
    rintro e w14 ⟨rfl, hb⟩
    replace k0 := blk_keep hb k0
    replace k1 := blk_keep hb k1
    replace hB := hB.trans (hb.mono hB.size)
    clear r0 f0 z0 r1 f1 z1
    clear hb
    have r0 := row_of k0
    have f0 := frozen_of k0
    have z0 := blk_lt k0
    have r1 := row_of k1
    have f1 := frozen_of k1
    have z1 := blk_lt k1
    go_wp2_with fail
    refine (within_any _ _ _ _ _).mono ?_
    rintro e w15 ⟨rfl, hb⟩
    replace k0 := blk_keep hb k0
    replace k1 := blk_keep hb k1
    replace hB := hB.trans (hb.mono hB.size)
    clear r0 f0 z0 r1 f1 z1
    clear hb
    have r0 := row_of k0
    have f0 := frozen_of k0
    have z0 := blk_lt k0
    have r1 := row_of k1
    have f1 := frozen_of k1
    have z1 := blk_lt k1
    go_wp2_with fail
    refine (has_any _ _ _ _).mono ?_
    rintro e w16 ⟨rfl, hb⟩
    replace k0 := blk_keep hb k0
    replace k1 := blk_keep hb k1
    replace hB := hB.trans (hb.mono hB.size)
    clear r0 f0 z0 r1 f1 z1
    clear hb
    have r0 := row_of k0
    have f0 := frozen_of k0
    have z0 := blk_lt k0
    have r1 := row_of k1
    have f1 := frozen_of k1
    have z1 := blk_lt k1
    go_wp2_with fail
    go_ret
    exact ⟨by first | (simp; done) | simp [hxy], hB⟩
end Go.Proofs.Ytibhoekccjcoaaa
