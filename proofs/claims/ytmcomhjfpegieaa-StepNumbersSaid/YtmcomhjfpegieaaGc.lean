/-
  check.exprRight of expressions that have kids; check.stmtRight of an assignment of any expression that is right.
-/
import Derived.Test.YtmcomhjfpegieaaGb
import Derived.Test.YtmcomhjfpegieaaFc
namespace Go.Proofs.Ytmcomhjfpegieaa
open Go.RowKit

/-- exprRight says yes to this value, whatever the memory is behind w. -/
def ExOk (w : World) (A : Option Addr) (n c : Nat) (p v : Int) (e : Value) : Prop :=
  ∀ W, Below w.heap.size w W → Calls Try.prog 77 #[.agg #[.slice A n c, .int .i64 p, .int .i64 v], e] W fun e w' => e = .returned (.bool true) ∧ Below W.heap.size W w'
theorem ExOk.up {w w' : World} {A : Option Addr} {n c : Nat} {p v : Int} {e : Value} (h : ExOk w A n c p v e) (hB : Below w.heap.size w w') : ExOk w' A n c p v e := fun W hW => h W (hB.trans (hW.mono hB.size))
theorem ExOk.num (w : World) (A : Option Addr) (n c : Nat) (p v x : Int) (h0 : 0 ≤ x) (h1 : x ≤ 2147483647) : ExOk w A n c p v (.agg #[.int .i64 1, .int .i64 x, .int .i64 0, .slice none 0 0]) := fun W _ => exprNum_any A n c p v x W h0 h1

set_option maxRecDepth 100000 in
set_option maxHeartbeats 2000000 in
theorem kids_two (A : Option Addr) (n c : Nat) (p v k : Int) (b kc : Nat) (w : World) (hb : b < w.heap.size) (hkc : 2 ≤ kc) (k1 m1 x1 k2 m2 x2 : Int) (A1 A2 : Option Addr) (n1 c1 n2 c2 : Nat) (r10 : w.cell? ⟨b, 0, none⟩ = some (.int .i64 k1)) (r11 : w.cell? ⟨b, 1, none⟩ = some (.int .i64 m1)) (r12 : w.cell? ⟨b, 2, none⟩ = some (.int .i64 x1)) (r13 : w.cell? ⟨b, 3, none⟩ = some (.slice A1 n1 c1)) (r20 : w.cell? ⟨b, 4, none⟩ = some (.int .i64 k2)) (r21 : w.cell? ⟨b, 5, none⟩ = some (.int .i64 m2)) (r22 : w.cell? ⟨b, 6, none⟩ = some (.int .i64 x2)) (r23 : w.cell? ⟨b, 7, none⟩ = some (.slice A2 n2 c2))
    (h1 : ExOk w A n c p v (.agg #[.int .i64 k1, .int .i64 m1, .int .i64 x1, .slice A1 n1 c1])) (h2 : ExOk w A n c p v (.agg #[.int .i64 k2, .int .i64 m2, .int .i64 x2, .slice A2 n2 c2])) :
    Calls Try.prog 83 #[.agg #[.slice A n c, .int .i64 p, .int .i64 v], .agg #[.int .i64 k, .int .i64 0, .int .i64 0, .slice (some ⟨b, 0, none⟩) 2 kc]] w fun e w' => e = .returned (.bool true) ∧ Below w.heap.size w w' := by
  replace h1 := Lib.hid h1
  replace h2 := Lib.hid h2
  go_enter Try.func83, Try.ntmps83
  go_wp2_with fail
  refine wp_world (fun W => W.heap[w.heap.size]? = some (.cells #[.slice A n c, .int .i64 p, .int .i64 v] 137 (0, 0)) ∧ W.heap[w.heap.size + 1]? = some (.cells #[.int .i64 k, .int .i64 0, .int .i64 0, .slice (some ⟨b, 0, none⟩) 2 kc] 24 (0, 0)) ∧ Below w.heap.size w W ∧ W.heap.size = w.heap.size + 2) ⟨blkUp (blkA _ _ rfl) _, blkA _ _ (by simp), ((Below.refl _ _).alloc (Nat.le_refl _) _).alloc (by simp) _, by simp⟩ ?_
  rintro w0 ⟨s0, e0, hB0, hs0⟩
  have g010 := (hB0.cell (p := ⟨b, 0, none⟩) hb).trans r10
  have g011 := (hB0.cell (p := ⟨b, 1, none⟩) hb).trans r11
  have g012 := (hB0.cell (p := ⟨b, 2, none⟩) hb).trans r12
  have g013 := (hB0.cell (p := ⟨b, 3, none⟩) hb).trans r13
  have g020 := (hB0.cell (p := ⟨b, 4, none⟩) hb).trans r20
  have g021 := (hB0.cell (p := ⟨b, 5, none⟩) hb).trans r21
  have g022 := (hB0.cell (p := ⟨b, 6, none⟩) hb).trans r22
  have g023 := (hB0.cell (p := ⟨b, 7, none⟩) hb).trans r23
  have rs0 := row_of s0
  have re0 := row_of e0
  have hl0 : b < w0.heap.size := by omega
  replace s0 := Lib.hid s0
  replace e0 := Lib.hid e0
  refine wp_loop_rounds 3 ?_
  rw [rounds_succ]
  go_wp2_with fail
  have kA := Lib.hid (blkUp s0.out (.cells #[.int .i64 k1, .int .i64 m1, .int .i64 x1, .slice A1 n1 c1] 24))
  have kB := Lib.hid (blkUp e0.out (.cells #[.int .i64 k1, .int .i64 m1, .int .i64 x1, .slice A1 n1 c1] 24))
  have hB0' : Below w.heap.size w (w0.alloc (.cells #[.int .i64 k1, .int .i64 m1, .int .i64 x1, .slice A1 n1 c1] 24)) := hB0.alloc hB0.size _
  refine (h1.out _ hB0').mono ?_
  rintro e w1 ⟨rfl, hb1⟩
  have s1 := blk_keep hb1 kA.out
  have e1 := blk_keep hb1 kB.out
  have hB1 := hB0'.trans (hb1.mono hB0'.size)
  have rs1 := row_of s1
  have re1 := row_of e1
  have hz1 : b < w1.heap.size := by have := hB1.size; omega
  have hz2 : w.heap.size < w1.heap.size := blk_lt s1
  have hz3 : w.heap.size + 1 < w1.heap.size := blk_lt e1
  clear g010 g011 g012 g013 g020 g021 g022 g023 rs0 re0 s0 e0 kA kB hb1 hB0 hB0' hs0 hl0
  have g110 := (hB1.cell (p := ⟨b, 0, none⟩) hb).trans r10
  have g111 := (hB1.cell (p := ⟨b, 1, none⟩) hb).trans r11
  have g112 := (hB1.cell (p := ⟨b, 2, none⟩) hb).trans r12
  have g113 := (hB1.cell (p := ⟨b, 3, none⟩) hb).trans r13
  have g120 := (hB1.cell (p := ⟨b, 4, none⟩) hb).trans r20
  have g121 := (hB1.cell (p := ⟨b, 5, none⟩) hb).trans r21
  have g122 := (hB1.cell (p := ⟨b, 6, none⟩) hb).trans r22
  have g123 := (hB1.cell (p := ⟨b, 7, none⟩) hb).trans r23
  replace s1 := Lib.hid s1
  replace e1 := Lib.hid e1
  go_wp2_with fail
  rw [rounds_succ]
  go_wp2_with fail
  have kA := Lib.hid (blkUp s1.out (.cells #[.int .i64 k2, .int .i64 m2, .int .i64 x2, .slice A2 n2 c2] 24))
  have kB := Lib.hid (blkUp e1.out (.cells #[.int .i64 k2, .int .i64 m2, .int .i64 x2, .slice A2 n2 c2] 24))
  have hB1' : Below w.heap.size w (w1.alloc (.cells #[.int .i64 k2, .int .i64 m2, .int .i64 x2, .slice A2 n2 c2] 24)) := hB1.alloc hB1.size _
  refine (h2.out _ hB1').mono ?_
  rintro e w2 ⟨rfl, hb2⟩
  have e2 := blk_keep hb2 kB.out
  have hB2 := hB1'.trans (hb2.mono hB1'.size)
  have re2 := row_of e2
  clear g110 g111 g112 g113 g120 g121 g122 g123 rs1 re1 s1 e1 kA kB hb2 hB1 hB1' hz1 e2
  go_wp2_with fail
  rw [rounds_succ]
  go_wp2_with fail
  go_ret
  exact ⟨rfl, hB2⟩

set_option maxRecDepth 100000 in
set_option maxHeartbeats 2000000 in
theorem expr_two (A : Option Addr) (n c : Nat) (p v k : Int) (hk : 4 ≤ k ∧ k ≤ 8) (b kc : Nat) (w : World) (hkids : ∀ W, Below w.heap.size w W → Calls Try.prog 83 #[.agg #[.slice A n c, .int .i64 p, .int .i64 v], .agg #[.int .i64 k, .int .i64 0, .int .i64 0, .slice (some ⟨b, 0, none⟩) 2 kc]] W fun e w' => e = .returned (.bool true) ∧ Below W.heap.size W w') :
    Calls Try.prog 77 #[.agg #[.slice A n c, .int .i64 p, .int .i64 v], .agg #[.int .i64 k, .int .i64 0, .int .i64 0, .slice (some ⟨b, 0, none⟩) 2 kc]] w fun e w' => e = .returned (.bool true) ∧ Below w.heap.size w w' := by
  replace hkids := Lib.hid hkids
  have hk' : k = 4 ∨ k = 5 ∨ k = 6 ∨ k = 7 ∨ k = 8 := by omega
  clear hk
  rcases hk' with rfl | rfl | rfl | rfl | rfl
  all_goals
    go_enter Try.func77, Try.ntmps77
    go_wp2_with fail
    refine (hkids.out _ (((Below.refl _ _).alloc (Nat.le_refl _) _).alloc (by simp) _)).mono ?_
    rintro e w1 ⟨rfl, hb1⟩
    have hB1 : Below w.heap.size w w1 := (((Below.refl _ _).alloc (Nat.le_refl _) _).alloc (by simp) _).trans (hb1.mono (by simp; omega))
    clear hb1
    go_wp2_with fail
    go_ret
    exact ⟨rfl, hB1⟩
theorem ExOk.two {A : Option Addr} {n c : Nat} {p v k : Int} (hk : 4 ≤ k ∧ k ≤ 8) {b kc : Nat} {w : World} (hb : b < w.heap.size) (hkc : 2 ≤ kc) {k1 m1 x1 k2 m2 x2 : Int} {A1 A2 : Option Addr} {n1 c1 n2 c2 : Nat} (r10 : w.cell? ⟨b, 0, none⟩ = some (.int .i64 k1)) (r11 : w.cell? ⟨b, 1, none⟩ = some (.int .i64 m1)) (r12 : w.cell? ⟨b, 2, none⟩ = some (.int .i64 x1)) (r13 : w.cell? ⟨b, 3, none⟩ = some (.slice A1 n1 c1)) (r20 : w.cell? ⟨b, 4, none⟩ = some (.int .i64 k2)) (r21 : w.cell? ⟨b, 5, none⟩ = some (.int .i64 m2)) (r22 : w.cell? ⟨b, 6, none⟩ = some (.int .i64 x2)) (r23 : w.cell? ⟨b, 7, none⟩ = some (.slice A2 n2 c2))
    (h1 : ExOk w A n c p v (.agg #[.int .i64 k1, .int .i64 m1, .int .i64 x1, .slice A1 n1 c1])) (h2 : ExOk w A n c p v (.agg #[.int .i64 k2, .int .i64 m2, .int .i64 x2, .slice A2 n2 c2])) : ExOk w A n c p v (.agg #[.int .i64 k, .int .i64 0, .int .i64 0, .slice (some ⟨b, 0, none⟩) 2 kc]) := fun W hW =>
  expr_two A n c p v k hk b kc W (fun W' hW' => by
    have hh := hW.trans (hW'.mono hW.size)
    exact kids_two A n c p v k b kc W' (Nat.lt_of_lt_of_le hb hh.size) hkc k1 m1 x1 k2 m2 x2 A1 A2 n1 c1 n2 c2 ((hh.cell (p := ⟨b, 0, none⟩) hb).trans r10) ((hh.cell (p := ⟨b, 1, none⟩) hb).trans r11) ((hh.cell (p := ⟨b, 2, none⟩) hb).trans r12) ((hh.cell (p := ⟨b, 3, none⟩) hb).trans r13) ((hh.cell (p := ⟨b, 4, none⟩) hb).trans r20) ((hh.cell (p := ⟨b, 5, none⟩) hb).trans r21) ((hh.cell (p := ⟨b, 6, none⟩) hb).trans r22) ((hh.cell (p := ⟨b, 7, none⟩) hb).trans r23) (h1.up hh) (h2.up hh))

set_option maxRecDepth 100000 in
set_option maxHeartbeats 2000000 in
theorem stmt_asgE (A : Option Addr) (n c : Nat) (p v : Int) (u ek em ex : Int) (EA : Option Addr) (en ec : Nat) (hu : 0 ≤ u) (hu2 : u < v) (w : World) (hE : ExOk w A n c p v (.agg #[.int .i64 ek, .int .i64 em, .int .i64 ex, .slice EA en ec])) :
    Calls Try.prog 70 #[.agg #[.slice A n c, .int .i64 p, .int .i64 v], .agg #[.int .i64 1, .int .i64 u, .int .i64 0, .int .i64 0, .int .i64 ek, .int .i64 em, .int .i64 ex, .slice EA en ec, .int .i64 0, .int .i64 0, .int .i64 0, .int .i64 0, .slice none 0 0, .int .i64 0, .int .i64 0, .int .i64 0, .slice none 0 0, .slice none 0 0, .slice none 0 0, .slice none 0 0]] w fun e w' => e = .returned (.bool true) ∧ Below w.heap.size w w' := by
  replace hE := Lib.hid hE
  go_enter Try.func70, Try.ntmps70
  go_upto_region 1 with fail
  refine wp_world (fun W => W.heap[w.heap.size]? = some (.cells #[.slice A n c, .int .i64 p, .int .i64 v] 137 (0, 0)) ∧ W.heap[w.heap.size + 1]? = some (.cells #[.int .i64 1, .int .i64 u, .int .i64 0, .int .i64 0, .int .i64 ek, .int .i64 em, .int .i64 ex, .slice EA en ec, .int .i64 0, .int .i64 0, .int .i64 0, .int .i64 0, .slice none 0 0, .int .i64 0, .int .i64 0, .int .i64 0, .slice none 0 0, .slice none 0 0, .slice none 0 0, .slice none 0 0] 121 (0, 0)) ∧ Below w.heap.size w W ∧ W.heap.size = w.heap.size + 2) ⟨blkUp (blkA _ _ rfl) _, blkA _ _ (by simp only [World.size_alloc]), ((Below.refl _ _).alloc (Nat.le_refl _) _).alloc (by simp only [World.size_alloc]; omega) _, by first | (simp only [World.size_alloc]; done) | (simp; done) | (simp; omega)⟩ ?_
  rintro w0 ⟨k0_0, k0_1, hB0, hs0⟩
  have r0_0 := row_of k0_0
  replace k0_0 := Lib.hid k0_0
  have r0_1 := row_of k0_1
  replace k0_1 := Lib.hid k0_1
  go_upto_region 6 with (first | (refine wpList_store_new rfl 121 _ _ rfl rfl _ _ _ _ rfl (by first | assumption | (simp; done)) rfl rfl info_st rfl (by kernel_rfl) ?_) | (refine ld_row 121 _ rfl _ rfl _ _ _ _ k0_1.out Try.underlying121 rfl info_st rfl ?_))
  refine wp_world (fun W => W.heap[w.heap.size]? = some (.cells #[.slice A n c, .int .i64 p, .int .i64 v] 137 (0, 0)) ∧ W.heap[w.heap.size + 1]? = some (.cells #[.int .i64 1, .int .i64 u, .int .i64 0, .int .i64 0, .int .i64 ek, .int .i64 em, .int .i64 ex, .slice EA en ec, .int .i64 0, .int .i64 0, .int .i64 0, .int .i64 0, .slice none 0 0, .int .i64 0, .int .i64 0, .int .i64 0, .slice none 0 0, .slice none 0 0, .slice none 0 0, .slice none 0 0] 121 (0, 0)) ∧ W.heap[w.heap.size + 2]? = some (.cells #[.int .i64 0, .int .i64 0, .int .i64 0, .int .i64 0, .int .i64 0, .int .i64 0, .int .i64 0, .slice none 0 0, .int .i64 0, .int .i64 0, .int .i64 0, .int .i64 0, .slice none 0 0, .int .i64 0, .int .i64 0, .int .i64 0, .slice none 0 0, .slice none 0 0, .slice none 0 0, .slice none 0 0] 121 (0, 0)) ∧ Below w.heap.size w W ∧ W.heap.size = w.heap.size + 3) ⟨blkUp k0_0.out _, blkUp k0_1.out _, blkA _ _ hs0, hB0.alloc (by rw [hs0]; omega) _, by first | (simp only [World.size_alloc]; done) | (simp; done) | (simp; omega)⟩ ?_
  rintro w1 ⟨k1_0, k1_1, k1_2, hB1, hs1⟩
  have r1_0 := row_of k1_0
  replace k1_0 := Lib.hid k1_0
  have r1_1 := row_of k1_1
  replace k1_1 := Lib.hid k1_1
  have r1_2 := row_of k1_2
  replace k1_2 := Lib.hid k1_2
  clear k0_0 k0_1 r0_0 r0_1 hB0 hs0
  go_wp2_with (first | (refine ld_row 121 _ rfl _ rfl _ _ _ _ k1_2.out Try.underlying121 rfl info_st rfl ?_) | (refine ld_row 121 _ rfl _ rfl _ _ _ _ k1_1.out Try.underlying121 rfl info_st rfl ?_))
  refine (var_yes A n c p v _ _ (by assumption) (by assumption)).mono ?_
  rintro e w2 ⟨rfl, hb2⟩
  have k2_0 := Lib.hid (blk_keep hb2 k1_0.out)
  have k2_1 := Lib.hid (blk_keep hb2 k1_1.out)
  have k2_2 := Lib.hid (blk_keep hb2 k1_2.out)
  have hB2 : Below w.heap.size w w2 := bel_up hB1 (Nat.le_refl _) hb2
  clear hb2 hB1 hs1 k1_0 r1_0 k1_1 r1_1 k1_2 r1_2
  have r2_0 := row_of k2_0.out
  have r2_1 := row_of k2_1.out
  have r2_2 := row_of k2_2.out
  go_wp2_with (first | (refine ld_row 121 _ rfl _ rfl _ _ _ _ k2_2.out Try.underlying121 rfl info_st rfl ?_) | (refine ld_row 121 _ rfl _ rfl _ _ _ _ k2_1.out Try.underlying121 rfl info_st rfl ?_))
  refine (hE.out _ hB2).mono ?_
  rintro e w3 ⟨rfl, hb3⟩
  have k3_0 := Lib.hid (blk_keep hb3 k2_0.out)
  have k3_1 := Lib.hid (blk_keep hb3 k2_1.out)
  have k3_2 := Lib.hid (blk_keep hb3 k2_2.out)
  have hB3 : Below w.heap.size w w3 := bel_up hB2 (Nat.le_refl _) hb3
  clear hb3 hB2 k2_0 r2_0 k2_1 r2_1 k2_2 r2_2
  have r3_0 := row_of k3_0.out
  have r3_1 := row_of k3_1.out
  have r3_2 := row_of k3_2.out
  go_wp2_with (first | (refine ld_row 121 _ rfl _ rfl _ _ _ _ k3_2.out Try.underlying121 rfl info_st rfl ?_) | (refine ld_row 121 _ rfl _ rfl _ _ _ _ k3_1.out Try.underlying121 rfl info_st rfl ?_))
  refine (nothing_any _).mono ?_
  rintro e w4 ⟨rfl, hb4⟩
  have k4_0 := Lib.hid (blk_keep hb4 k3_0.out)
  have k4_1 := Lib.hid (blk_keep hb4 k3_1.out)
  have k4_2 := Lib.hid (blk_keep hb4 k3_2.out)
  have hB4 : Below w.heap.size w w4 := bel_up hB3 (Nat.le_refl _) hb4
  clear hb4 hB3 k3_0 r3_0 k3_1 r3_1 k3_2 r3_2
  have r4_0 := row_of k4_0.out
  have r4_1 := row_of k4_1.out
  have r4_2 := row_of k4_2.out
  go_wp2_with fail
  go_ret
  exact ⟨rfl, hB4⟩

end Go.Proofs.Ytmcomhjfpegieaa

