/-
  The least and the greatest of four numbers; what is made of the ends of two.
-/
import Derived.Test.YtbcbcambkjhhhaaIb
namespace Go.Proofs.Ytbcbcambkjhhhaa
open Go.RowKit
/-- Two pairs are stored, each into a block. -/
theorem put22 {W WF : World} {n m : Nat} {t u : TypeId} {d0 d1 c0 c1 : Value} (hne : n ≠ m) (h : W.heap[n]? = some (.cells #[d0, d1] t (0, 0))) (g : W.heap[m]? = some (.cells #[c0, c1] u (0, 0))) (v0 v1 u0 u1 : Value) (hW : WF = (((W.setCell ⟨n, 0, none⟩ v0).setCell ⟨n, 1, none⟩ v1).setCell ⟨m, 0, none⟩ u0).setCell ⟨m, 1, none⟩ u1) :
    WF.heap[n]? = some (.cells #[v0, v1] t (0, 0)) ∧ WF.heap[m]? = some (.cells #[u0, u1] u (0, 0)) ∧ (∀ B, B ≤ n → B ≤ m → Below B W WF) := by
  obtain ⟨h1, h2, h3, _⟩ := put2 h v0 v1 rfl
  have g1 := h2 m _ (Ne.symm hne) g
  obtain ⟨g2, g3, g4, _⟩ := put2 g1 u0 u1 hW
  exact ⟨g3 n _ hne h1, g2, fun B b1 b2 => (h3 B b1).trans (g4 B b2)⟩

set_option maxRecDepth 100000 in
theorem min4 (b : Nat) (e0 e1 e2 e3 : Int) (w : World) (_hb : b < w.heap.size) (c0 : w.cell? ⟨b, 0, none⟩ = some (.int .i64 e0)) (c1 : w.cell? ⟨b, 1, none⟩ = some (.int .i64 e1)) (c2 : w.cell? ⟨b, 2, none⟩ = some (.int .i64 e2)) (c3 : w.cell? ⟨b, 3, none⟩ = some (.int .i64 e3)) :
    Calls Try.prog 163 #[.slice (some ⟨b, 0, none⟩) 4 4] w fun e w' => e = .returned (.int .i64 (mn (mn (mn e0 e1) e2) e3)) ∧ w = w' := by
  have h1 : (if e1 < e0 then e1 else e0) = mn e0 e1 := rfl
  generalize hm1 : mn e0 e1 = m1 at *
  have h2 : (if e2 < m1 then e2 else m1) = mn m1 e2 := rfl
  generalize hm2 : mn m1 e2 = m2 at *
  have h3 : (if e3 < m2 then e3 else m2) = mn m2 e3 := rfl
  generalize hm3 : mn m2 e3 = m3 at *
  go_enter Try.func163, Try.ntmps163
  go_wp2_with fail
  refine wp_loop_rounds 4 ?_
  rw [rounds_succ]
  go_wp2_with fail
  rw [rounds_succ]
  go_wp2_with fail
  rw [rounds_succ]
  go_wp2_with fail
  rw [rounds_succ]
  go_wp2_with fail
  go_ret
  exact ⟨rfl, rfl⟩

set_option maxRecDepth 100000 in
theorem max4 (b : Nat) (e0 e1 e2 e3 : Int) (w : World) (_hb : b < w.heap.size) (c0 : w.cell? ⟨b, 0, none⟩ = some (.int .i64 e0)) (c1 : w.cell? ⟨b, 1, none⟩ = some (.int .i64 e1)) (c2 : w.cell? ⟨b, 2, none⟩ = some (.int .i64 e2)) (c3 : w.cell? ⟨b, 3, none⟩ = some (.int .i64 e3)) :
    Calls Try.prog 164 #[.slice (some ⟨b, 0, none⟩) 4 4] w fun e w' => e = .returned (.int .i64 (mx (mx (mx e0 e1) e2) e3)) ∧ w = w' := by
  have h1 : (if e0 < e1 then e1 else e0) = mx e0 e1 := rfl
  generalize hm1 : mx e0 e1 = m1 at *
  have h2 : (if m1 < e2 then e2 else m1) = mx m1 e2 := rfl
  generalize hm2 : mx m1 e2 = m2 at *
  have h3 : (if m2 < e3 then e3 else m2) = mx m2 e3 := rfl
  generalize hm3 : mx m2 e3 = m3 at *
  go_enter Try.func164, Try.ntmps164
  go_wp2_with fail
  refine wp_loop_rounds 4 ?_
  rw [rounds_succ]
  go_wp2_with fail
  rw [rounds_succ]
  go_wp2_with fail
  rw [rounds_succ]
  go_wp2_with fail
  rw [rounds_succ]
  go_wp2_with fail
  go_ret
  exact ⟨rfl, rfl⟩

theorem add_fn (x y : Int) (w : World) (h1 : -9223372036854775808 ≤ x + y) (h2 : x + y ≤ 9223372036854775807) :
    Calls Try.prog 138 #[.int .i64 x, .int .i64 y] w fun e w' => e = .returned (.int .i64 (x + y)) ∧ w = w' := by
  go_enter Try.func138, Try.ntmps138
  go_wp2
  go_ret
  exact ⟨by simp <;> (unfold wrap64; omega), rfl⟩

theorem sub_fn (x y : Int) (w : World) (h1 : -9223372036854775808 ≤ x - y) (h2 : x - y ≤ 9223372036854775807) :
    Calls Try.prog 139 #[.int .i64 x, .int .i64 y] w fun e w' => e = .returned (.int .i64 (x - y)) ∧ w = w' := by
  go_enter Try.func139, Try.ntmps139
  go_wp2
  go_ret
  exact ⟨by simp <;> (unfold wrap64; omega), rfl⟩

theorem mul_fn (x y : Int) (w : World) (h1 : -9223372036854775808 ≤ x * y) (h2 : x * y ≤ 9223372036854775807) :
    Calls Try.prog 140 #[.int .i64 x, .int .i64 y] w fun e w' => e = .returned (.int .i64 (x * y)) ∧ w = w' := by
  go_enter Try.func140, Try.ntmps140
  go_wp2
  go_ret
  exact ⟨by simp <;> (unfold wrap64; omega), rfl⟩

def bot (f : Int → Int → Int) (a0 a1 b0 b1 : Int) : Int := mn (mn (mn (f a0 b0) (f a0 b1)) (f a1 b0)) (f a1 b1)
def top (f : Int → Int → Int) (a0 a1 b0 b1 : Int) : Int := mx (mx (mx (f a0 b0) (f a0 b1)) (f a1 b0)) (f a1 b1)
def FnOk (n : Nat) (f : Int → Int → Int) (a0 a1 b0 b1 : Int) : Prop := ∀ (x y : Int) (w : World), (x = a0 ∨ x = a1) → (y = b0 ∨ y = b1) → Calls Try.prog n #[.int .i64 x, .int .i64 y] w fun e w' => e = .returned (.int .i64 (f x y)) ∧ w = w'

set_option maxRecDepth 100000 in
set_option maxHeartbeats 2000000 in
theorem ends_add (f : Int → Int → Int) (a0 a1 b0 b1 : Int) (w : World) (hf : FnOk 138 f a0 a1 b0 b1) :
    Calls Try.prog 137 #[.agg #[.int .i64 a0, .int .i64 a1], .agg #[.int .i64 b0, .int .i64 b1], .func (.func 138) #[] #[]] w fun e w' => e = .returned (.tuple #[.agg #[.int .i64 (ofP (bot f a0 a1 b0 b1) (top f a0 a1 b0 b1)).1, .int .i64 (ofP (bot f a0 a1 b0 b1) (top f a0 a1 b0 b1)).2], .agg #[.bool (decide (bot f a0 a1 b0 b1 < -2147483648) || decide (2147483647 < top f a0 a1 b0 b1)), .bool false]]) ∧ Below w.heap.size w w' := by
  replace hf := Lib.hid hf
  go_enter Try.func137, Try.ntmps137
  go_upto_region 1 with fail
  refine wp_world (fun W => W.heap[w.heap.size]? = some (.cells #[.int .i64 a0, .int .i64 a1] 48 (0, 0)) ∧ W.heap[w.heap.size + 1]? = some (.cells #[.int .i64 b0, .int .i64 b1] 48 (0, 0)) ∧ W.heap[w.heap.size + 2]? = some (.cells #[.int .i64 0, .int .i64 0] 48 (0, 0)) ∧ W.heap[w.heap.size + 3]? = some (.cells #[.bool false, .bool false] 96 (0, 0)) ∧ Below w.heap.size w W) ⟨blkUp (blkUp (blkUp (blkA _ _ (by first | rfl | simp only [World.size_alloc])) _) _) _, blkUp (blkUp (blkA _ _ (by first | rfl | simp only [World.size_alloc])) _) _, blkUp (blkA _ _ (by first | rfl | simp only [World.size_alloc])) _, blkA _ _ (by first | rfl | simp only [World.size_alloc]), ((((Below.refl _ _).alloc (by first | exact Nat.le_refl _ | (simp only [World.size_alloc]; omega)) _).alloc (by first | exact Nat.le_refl _ | (simp only [World.size_alloc]; omega)) _).alloc (by first | exact Nat.le_refl _ | (simp only [World.size_alloc]; omega)) _).alloc (by first | exact Nat.le_refl _ | (simp only [World.size_alloc]; omega)) _⟩ ?_
  rintro w1 ⟨k0, k1, k2, k3, hB⟩
  have r0 := row_of k0
  have f0 := frozen_of k0
  have z0 := blk_lt k0
  have r1 := row_of k1
  have f1 := frozen_of k1
  have z1 := blk_lt k1
  have r2 := row_of k2
  have f2 := frozen_of k2
  have z2 := blk_lt k2
  have r3 := row_of k3
  have f3 := frozen_of k3
  have z3 := blk_lt k3
  have hS : w1.cell? ⟨w.heap.size, 0, none⟩ = some (.int .i64 a0) ∧ w1.cell? ⟨w.heap.size, 1, none⟩ = some (.int .i64 a1) ∧ w1.cell? ⟨w.heap.size + 1, 0, none⟩ = some (.int .i64 b0) ∧ w1.cell? ⟨w.heap.size + 1, 1, none⟩ = some (.int .i64 b1) := ⟨row_of k0 0, row_of k0 1, row_of k1 0, row_of k1 1⟩
  have hS2 := hS
  obtain ⟨q0, q1, q2, q3⟩ := hS2
  clear r0 f0 z0 r1 f1 z1 r2 f2 z2 r3 f3 z3
  go_region_held3 (fun W => W.cell? ⟨w.heap.size, 0, none⟩ = some (.int .i64 a0) ∧ W.cell? ⟨w.heap.size, 1, none⟩ = some (.int .i64 a1) ∧ W.cell? ⟨w.heap.size + 1, 0, none⟩ = some (.int .i64 b0) ∧ W.cell? ⟨w.heap.size + 1, 1, none⟩ = some (.int .i64 b1)) (first | assumption | exact hS | go_keep) (first | (go_at_call 138; refine (hf.out _ _ _ (by simp) (by simp)).mono ?_; rintro e wn ⟨rfl, rfl⟩))
  go_upto_region 2 with fail
  clear hS q0 q1 q2 q3
  have hz1 : w.heap.size + 3 < w1.heap.size := blk_lt k3
  refine wp_world (fun W => W.heap[w.heap.size]? = some (.cells #[.int .i64 a0, .int .i64 a1] 48 (0, 0)) ∧ W.heap[w.heap.size + 1]? = some (.cells #[.int .i64 b0, .int .i64 b1] 48 (0, 0)) ∧ W.heap[w.heap.size + 2]? = some (.cells #[.int .i64 0, .int .i64 0] 48 (0, 0)) ∧ W.heap[w.heap.size + 3]? = some (.cells #[.bool false, .bool false] 96 (0, 0)) ∧ W.heap[w1.heap.size]? = some (.cells #[.int .i64 (f a0 b0), .int .i64 (f a0 b1), .int .i64 (f a1 b0), .int .i64 (f a1 b1)] 3 (0, 0)) ∧ Below w.heap.size w W) ⟨blkUp (k0) _, blkUp (k1) _, blkUp (k2) _, blkUp (k3) _, blkA _ _ (by first | rfl | simp only [World.size_alloc]), ((hB).alloc (by first | exact hB.size | (simp only [World.size_alloc]; omega)) _).drew⟩ ?_
  rintro w2 ⟨k0, k1, k2, k3, k4, hB⟩
  have r0 := row_of k0
  have f0 := frozen_of k0
  have z0 := blk_lt k0
  have r1 := row_of k1
  have f1 := frozen_of k1
  have z1 := blk_lt k1
  have r2 := row_of k2
  have f2 := frozen_of k2
  have z2 := blk_lt k2
  have r3 := row_of k3
  have f3 := frozen_of k3
  have z3 := blk_lt k3
  have r4 := row_of k4
  have f4 := frozen_of k4
  have z4 := blk_lt k4
  clear k0 r0 f0 z0 k1 r1 f1 z1
  go_wp2_with fail
  refine (min4 _ _ _ _ _ _ z4 (row_of k4 0) (row_of k4 1) (row_of k4 2) (row_of k4 3)).mono ?_
  rw [show mn (mn (mn (f a0 b0) (f a0 b1)) (f a1 b0)) (f a1 b1) = bot f a0 a1 b0 b1 from rfl]
  rintro e wq ⟨rfl, rfl⟩
  go_wp2_with fail
  refine (max4 _ _ _ _ _ _ z4 (row_of k4 0) (row_of k4 1) (row_of k4 2) (row_of k4 3)).mono ?_
  rw [show mx (mx (mx (f a0 b0) (f a0 b1)) (f a1 b0)) (f a1 b1) = top f a0 a1 b0 b1 from rfl]
  rintro e wq ⟨rfl, rfl⟩
  clear k4 r4 f4 z4
  generalize hLd : bot f a0 a1 b0 b1 = L
  generalize hHd : top f a0 a1 b0 b1 = H
  go_upto_region 3 with fail
  clear hf
  by_cases hL : L < -2147483648
  · have hd := decide_eq_true hL
    go_wp2_with fail
    refine (of_any _ _ _).mono ?_
    rintro e w3 ⟨rfl, hb⟩
    replace k2 := blk_keep hb k2
    replace k3 := blk_keep hb k3
    replace hB := hB.trans (hb.mono hB.size)
    clear r2 f2 z2 r3 f3 z3
    clear hb
    have r2 := row_of k2
    have f2 := frozen_of k2
    have z2 := blk_lt k2
    have r3 := row_of k3
    have f3 := frozen_of k3
    have z3 := blk_lt k3
    go_wp2_with fail
    generalize hWF : (World.setCell (World.setCell (World.setCell (World.setCell _ _ _) _ _) _ _) _ _) = WF
    obtain ⟨kF, kG, bF⟩ := put22 (by omega) k2 k3 _ _ _ _ hWF.symm
    clear r2 f2 z2 r3 f3 z3
    clear hWF
    have rF := row_of kF
    have rG := row_of kG
    exact bodyPost_ret (v := .tuple #[.agg #[.int .i64 (ofP L H).1, .int .i64 (ofP L H).2], .agg #[.bool (true), .bool false]]) (by simp [results, Try.results137, go_sem, rF, rG]) rfl ⟨by subst hLd hHd; rw [hd]; rfl, hB.trans (bF _ (by show w.heap.size ≤ w.heap.size + 2; omega) (by show w.heap.size ≤ w.heap.size + 3; omega))⟩
  · have hd := decide_eq_false hL
    go_wp2_with fail
    refine (of_any _ _ _).mono ?_
    rintro e w3 ⟨rfl, hb⟩
    replace k2 := blk_keep hb k2
    replace k3 := blk_keep hb k3
    replace hB := hB.trans (hb.mono hB.size)
    clear r2 f2 z2 r3 f3 z3
    clear hb
    have r2 := row_of k2
    have f2 := frozen_of k2
    have z2 := blk_lt k2
    have r3 := row_of k3
    have f3 := frozen_of k3
    have z3 := blk_lt k3
    go_wp2_with fail
    generalize hWF : (World.setCell (World.setCell (World.setCell (World.setCell _ _ _) _ _) _ _) _ _) = WF
    obtain ⟨kF, kG, bF⟩ := put22 (by omega) k2 k3 _ _ _ _ hWF.symm
    clear r2 f2 z2 r3 f3 z3
    clear hWF
    have rF := row_of kF
    have rG := row_of kG
    exact bodyPost_ret (v := .tuple #[.agg #[.int .i64 (ofP L H).1, .int .i64 (ofP L H).2], .agg #[.bool (decide (2147483647 < H)), .bool false]]) (by simp [results, Try.results137, go_sem, rF, rG]) rfl ⟨by subst hLd hHd; rw [hd]; rfl, hB.trans (bF _ (by show w.heap.size ≤ w.heap.size + 2; omega) (by show w.heap.size ≤ w.heap.size + 3; omega))⟩
set_option maxRecDepth 100000 in
set_option maxHeartbeats 2000000 in
theorem ends_sub (f : Int → Int → Int) (a0 a1 b0 b1 : Int) (w : World) (hf : FnOk 139 f a0 a1 b0 b1) :
    Calls Try.prog 137 #[.agg #[.int .i64 a0, .int .i64 a1], .agg #[.int .i64 b0, .int .i64 b1], .func (.func 139) #[] #[]] w fun e w' => e = .returned (.tuple #[.agg #[.int .i64 (ofP (bot f a0 a1 b0 b1) (top f a0 a1 b0 b1)).1, .int .i64 (ofP (bot f a0 a1 b0 b1) (top f a0 a1 b0 b1)).2], .agg #[.bool (decide (bot f a0 a1 b0 b1 < -2147483648) || decide (2147483647 < top f a0 a1 b0 b1)), .bool false]]) ∧ Below w.heap.size w w' := by
  replace hf := Lib.hid hf
  go_enter Try.func137, Try.ntmps137
  go_upto_region 1 with fail
  refine wp_world (fun W => W.heap[w.heap.size]? = some (.cells #[.int .i64 a0, .int .i64 a1] 48 (0, 0)) ∧ W.heap[w.heap.size + 1]? = some (.cells #[.int .i64 b0, .int .i64 b1] 48 (0, 0)) ∧ W.heap[w.heap.size + 2]? = some (.cells #[.int .i64 0, .int .i64 0] 48 (0, 0)) ∧ W.heap[w.heap.size + 3]? = some (.cells #[.bool false, .bool false] 96 (0, 0)) ∧ Below w.heap.size w W) ⟨blkUp (blkUp (blkUp (blkA _ _ (by first | rfl | simp only [World.size_alloc])) _) _) _, blkUp (blkUp (blkA _ _ (by first | rfl | simp only [World.size_alloc])) _) _, blkUp (blkA _ _ (by first | rfl | simp only [World.size_alloc])) _, blkA _ _ (by first | rfl | simp only [World.size_alloc]), ((((Below.refl _ _).alloc (by first | exact Nat.le_refl _ | (simp only [World.size_alloc]; omega)) _).alloc (by first | exact Nat.le_refl _ | (simp only [World.size_alloc]; omega)) _).alloc (by first | exact Nat.le_refl _ | (simp only [World.size_alloc]; omega)) _).alloc (by first | exact Nat.le_refl _ | (simp only [World.size_alloc]; omega)) _⟩ ?_
  rintro w1 ⟨k0, k1, k2, k3, hB⟩
  have r0 := row_of k0
  have f0 := frozen_of k0
  have z0 := blk_lt k0
  have r1 := row_of k1
  have f1 := frozen_of k1
  have z1 := blk_lt k1
  have r2 := row_of k2
  have f2 := frozen_of k2
  have z2 := blk_lt k2
  have r3 := row_of k3
  have f3 := frozen_of k3
  have z3 := blk_lt k3
  have hS : w1.cell? ⟨w.heap.size, 0, none⟩ = some (.int .i64 a0) ∧ w1.cell? ⟨w.heap.size, 1, none⟩ = some (.int .i64 a1) ∧ w1.cell? ⟨w.heap.size + 1, 0, none⟩ = some (.int .i64 b0) ∧ w1.cell? ⟨w.heap.size + 1, 1, none⟩ = some (.int .i64 b1) := ⟨row_of k0 0, row_of k0 1, row_of k1 0, row_of k1 1⟩
  have hS2 := hS
  obtain ⟨q0, q1, q2, q3⟩ := hS2
  clear r0 f0 z0 r1 f1 z1 r2 f2 z2 r3 f3 z3
  go_region_held3 (fun W => W.cell? ⟨w.heap.size, 0, none⟩ = some (.int .i64 a0) ∧ W.cell? ⟨w.heap.size, 1, none⟩ = some (.int .i64 a1) ∧ W.cell? ⟨w.heap.size + 1, 0, none⟩ = some (.int .i64 b0) ∧ W.cell? ⟨w.heap.size + 1, 1, none⟩ = some (.int .i64 b1)) (first | assumption | exact hS | go_keep) (first | (go_at_call 139; refine (hf.out _ _ _ (by simp) (by simp)).mono ?_; rintro e wn ⟨rfl, rfl⟩))
  go_upto_region 2 with fail
  clear hS q0 q1 q2 q3
  have hz1 : w.heap.size + 3 < w1.heap.size := blk_lt k3
  refine wp_world (fun W => W.heap[w.heap.size]? = some (.cells #[.int .i64 a0, .int .i64 a1] 48 (0, 0)) ∧ W.heap[w.heap.size + 1]? = some (.cells #[.int .i64 b0, .int .i64 b1] 48 (0, 0)) ∧ W.heap[w.heap.size + 2]? = some (.cells #[.int .i64 0, .int .i64 0] 48 (0, 0)) ∧ W.heap[w.heap.size + 3]? = some (.cells #[.bool false, .bool false] 96 (0, 0)) ∧ W.heap[w1.heap.size]? = some (.cells #[.int .i64 (f a0 b0), .int .i64 (f a0 b1), .int .i64 (f a1 b0), .int .i64 (f a1 b1)] 3 (0, 0)) ∧ Below w.heap.size w W) ⟨blkUp (k0) _, blkUp (k1) _, blkUp (k2) _, blkUp (k3) _, blkA _ _ (by first | rfl | simp only [World.size_alloc]), ((hB).alloc (by first | exact hB.size | (simp only [World.size_alloc]; omega)) _).drew⟩ ?_
  rintro w2 ⟨k0, k1, k2, k3, k4, hB⟩
  have r0 := row_of k0
  have f0 := frozen_of k0
  have z0 := blk_lt k0
  have r1 := row_of k1
  have f1 := frozen_of k1
  have z1 := blk_lt k1
  have r2 := row_of k2
  have f2 := frozen_of k2
  have z2 := blk_lt k2
  have r3 := row_of k3
  have f3 := frozen_of k3
  have z3 := blk_lt k3
  have r4 := row_of k4
  have f4 := frozen_of k4
  have z4 := blk_lt k4
  clear k0 r0 f0 z0 k1 r1 f1 z1
  go_wp2_with fail
  refine (min4 _ _ _ _ _ _ z4 (row_of k4 0) (row_of k4 1) (row_of k4 2) (row_of k4 3)).mono ?_
  rw [show mn (mn (mn (f a0 b0) (f a0 b1)) (f a1 b0)) (f a1 b1) = bot f a0 a1 b0 b1 from rfl]
  rintro e wq ⟨rfl, rfl⟩
  go_wp2_with fail
  refine (max4 _ _ _ _ _ _ z4 (row_of k4 0) (row_of k4 1) (row_of k4 2) (row_of k4 3)).mono ?_
  rw [show mx (mx (mx (f a0 b0) (f a0 b1)) (f a1 b0)) (f a1 b1) = top f a0 a1 b0 b1 from rfl]
  rintro e wq ⟨rfl, rfl⟩
  clear k4 r4 f4 z4
  generalize hLd : bot f a0 a1 b0 b1 = L
  generalize hHd : top f a0 a1 b0 b1 = H
  go_upto_region 3 with fail
  clear hf
  by_cases hL : L < -2147483648
  · have hd := decide_eq_true hL
    go_wp2_with fail
    refine (of_any _ _ _).mono ?_
    rintro e w3 ⟨rfl, hb⟩
    replace k2 := blk_keep hb k2
    replace k3 := blk_keep hb k3
    replace hB := hB.trans (hb.mono hB.size)
    clear r2 f2 z2 r3 f3 z3
    clear hb
    have r2 := row_of k2
    have f2 := frozen_of k2
    have z2 := blk_lt k2
    have r3 := row_of k3
    have f3 := frozen_of k3
    have z3 := blk_lt k3
    go_wp2_with fail
    generalize hWF : (World.setCell (World.setCell (World.setCell (World.setCell _ _ _) _ _) _ _) _ _) = WF
    obtain ⟨kF, kG, bF⟩ := put22 (by omega) k2 k3 _ _ _ _ hWF.symm
    clear r2 f2 z2 r3 f3 z3
    clear hWF
    have rF := row_of kF
    have rG := row_of kG
    exact bodyPost_ret (v := .tuple #[.agg #[.int .i64 (ofP L H).1, .int .i64 (ofP L H).2], .agg #[.bool (true), .bool false]]) (by simp [results, Try.results137, go_sem, rF, rG]) rfl ⟨by subst hLd hHd; rw [hd]; rfl, hB.trans (bF _ (by show w.heap.size ≤ w.heap.size + 2; omega) (by show w.heap.size ≤ w.heap.size + 3; omega))⟩
  · have hd := decide_eq_false hL
    go_wp2_with fail
    refine (of_any _ _ _).mono ?_
    rintro e w3 ⟨rfl, hb⟩
    replace k2 := blk_keep hb k2
    replace k3 := blk_keep hb k3
    replace hB := hB.trans (hb.mono hB.size)
    clear r2 f2 z2 r3 f3 z3
    clear hb
    have r2 := row_of k2
    have f2 := frozen_of k2
    have z2 := blk_lt k2
    have r3 := row_of k3
    have f3 := frozen_of k3
    have z3 := blk_lt k3
    go_wp2_with fail
    generalize hWF : (World.setCell (World.setCell (World.setCell (World.setCell _ _ _) _ _) _ _) _ _) = WF
    obtain ⟨kF, kG, bF⟩ := put22 (by omega) k2 k3 _ _ _ _ hWF.symm
    clear r2 f2 z2 r3 f3 z3
    clear hWF
    have rF := row_of kF
    have rG := row_of kG
    exact bodyPost_ret (v := .tuple #[.agg #[.int .i64 (ofP L H).1, .int .i64 (ofP L H).2], .agg #[.bool (decide (2147483647 < H)), .bool false]]) (by simp [results, Try.results137, go_sem, rF, rG]) rfl ⟨by subst hLd hHd; rw [hd]; rfl, hB.trans (bF _ (by show w.heap.size ≤ w.heap.size + 2; omega) (by show w.heap.size ≤ w.heap.size + 3; omega))⟩
end Go.Proofs.Ytbcbcambkjhhhaa
