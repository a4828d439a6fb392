/-
  steps, the examples of every law of step: true, whatever the memory is.
-/
import Derived.Test.YtmcomhjfpegieaaHf
import Derived.Test.YtmcomhjfpegieaaGc
namespace Go.Proofs.Ytmcomhjfpegieaa
open Go.RowKit

def divX : Ex := .mk 7 0 0 [.mk 1 7 0 [], .mk 1 0 0 []]
def addX : Ex := .mk 4 0 0 [.mk 1 2147483647 0 [], .mk 2 0 0 []]
theorem div_ev (vs : List Int) : evF vs 2 divX = (0, 3) := by simp [divX, evF, two, opI, cutI]
theorem add_0 : evF [0] 2 addX = (2147483647, 0) := by simp [addX, evF, two, opI, cutI]
theorem add_1 : evF [1] 2 addX = (0, 2) := by simp [addX, evF, two, opI, cutI]
theorem div_in {W : World} {b : Nat} (h : W.heap[b]? = some (.cells #[.int .i64 1, .int .i64 7, .int .i64 0, .slice none 0 0, .int .i64 1, .int .i64 0, .int .i64 0, .slice none 0 0] 24 (0, 0))) : ExIn W W.heap.size 2 divX (.agg #[.int .i64 7, .int .i64 0, .int .i64 0, .slice (some ⟨b, 0, none⟩) 2 2]) :=
  ExIn.two (ExIn.leaf _ _ 0 1 7 0) (ExIn.leaf _ _ 0 1 0 0) (blk_lt h) (row_of h 0) (row_of h 1) (row_of h 2) (row_of h 3) (row_of h 4) (row_of h 5) (row_of h 6) (row_of h 7) 7 0 0 2 (Nat.le_refl _)
theorem add_in {W : World} {b : Nat} (h : W.heap[b]? = some (.cells #[.int .i64 1, .int .i64 2147483647, .int .i64 0, .slice none 0 0, .int .i64 2, .int .i64 0, .int .i64 0, .slice none 0 0] 24 (0, 0))) : ExIn W W.heap.size 2 addX (.agg #[.int .i64 4, .int .i64 0, .int .i64 0, .slice (some ⟨b, 0, none⟩) 2 2]) :=
  ExIn.two (ExIn.leaf _ _ 0 1 2147483647 0) (ExIn.leaf _ _ 0 2 0 0) (blk_lt h) (row_of h 0) (row_of h 1) (row_of h 2) (row_of h 3) (row_of h 4) (row_of h 5) (row_of h 6) (row_of h 7) 4 0 0 2 (Nat.le_refl _)
theorem div_ok {W : World} {b : Nat} (h : W.heap[b]? = some (.cells #[.int .i64 1, .int .i64 7, .int .i64 0, .slice none 0 0, .int .i64 1, .int .i64 0, .int .i64 0, .slice none 0 0] 24 (0, 0))) : ExOk W none 0 0 0 1 (.agg #[.int .i64 7, .int .i64 0, .int .i64 0, .slice (some ⟨b, 0, none⟩) 2 2]) :=
  ExOk.two (by decide) (blk_lt h) (Nat.le_refl _) (row_of h 0) (row_of h 1) (row_of h 2) (row_of h 3) (row_of h 4) (row_of h 5) (row_of h 6) (row_of h 7) (ExOk.num W none 0 0 0 1 7 (by decide) (by decide)) (ExOk.num W none 0 0 0 1 0 (by decide) (by decide))
theorem one_var {W : World} {b : Nat} {x : Int} (h : W.heap[b]? = some (.cells #[.int .i64 x] 3 (0, 0))) : VarsAt W W.heap.size (some ⟨b, 0, none⟩) [x] := fun i u hi => by
  match i, hi with
  | 0, hi => cases hi; exact ⟨b, rfl, blk_lt h, row_of h 0⟩
  | i + 1, hi => simp at hi
theorem no_var {W : World} : VarsAt W W.heap.size none [] := fun i u hi => by simp at hi

set_option maxRecDepth 100000 in
set_option maxHeartbeats 8000000 in
theorem steps_any (w : World) : Calls Try.prog 11 #[] w fun e w' => e = .returned (.bool true) ∧ Below w.heap.size w w' := by
  go_enter Try.func11, Try.ntmps11
  go_upto_region 2 with fail
  refine wp_world (fun W => W.heap[w.heap.size]? = some (.cells #[.int .i64 1, .int .i64 7, .int .i64 0, .slice none 0 0, .int .i64 1, .int .i64 0, .int .i64 0, .slice none 0 0] 24 (0, 0)) ∧ W.heap[w.heap.size + 1]? = some (.cells #[.int .i64 7, .int .i64 0, .int .i64 0, .slice (some ⟨w.heap.size, 0, none⟩) 2 2] 24 (0, 0)) ∧ Below w.heap.size w W) ⟨blkUp (blkA _ _ rfl) _, blkA _ _ (by simp), ((Below.refl _ _).alloc (Nat.le_refl _) _).alloc (by simp) _⟩ ?_
  rintro w0 ⟨k0, k1, hB0⟩
  have q1 := row_of k1
  have hev1 := eval_any [] none 0 0 rfl (Nat.le_refl _) (by decide) 2 divX _ w0 (div_in k0) no_var
  rw [div_ev] at hev1
  replace hev1 := Lib.hid hev1
  replace k0 := Lib.hid k0
  replace k1 := Lib.hid k1
  go_wp2_with fail
  refine hev1.out.mono ?_
  rintro e w1 ⟨rfl, hb1⟩
  have m0 := Lib.hid (blk_keep hb1 k0.out)
  have m1 := Lib.hid (blk_keep hb1 k1.out)
  have hB1 := hB0.trans (hb1.mono hB0.size)
  clear q1 k0 k1 hev1 hb1 hB0
  go_wp2_with fail
  have n0 := Lib.hid (blkUp (blkUp m0.out (.cells #[.int .i64 1, .int .i64 2147483647, .int .i64 0, .slice none 0 0, .int .i64 2, .int .i64 0, .int .i64 0, .slice none 0 0] 24)) (.cells #[.int .i64 0] 3))
  have n1 := Lib.hid (blkUp (blkUp m1.out (.cells #[.int .i64 1, .int .i64 2147483647, .int .i64 0, .slice none 0 0, .int .i64 2, .int .i64 0, .int .i64 0, .slice none 0 0] 24)) (.cells #[.int .i64 0] 3))
  have hbA : Below w1.heap.size w1 ((w1.alloc (.cells #[.int .i64 1, .int .i64 2147483647, .int .i64 0, .slice none 0 0, .int .i64 2, .int .i64 0, .int .i64 0, .slice none 0 0] 24)).alloc (.cells #[.int .i64 0] 3)) := ((Below.refl _ _).alloc (Nat.le_refl _) _).alloc (by simp) _
  refine ((by
    have h := eval_any [0] (some ⟨w1.heap.size + 1, 0, none⟩) 1 1 rfl (Nat.le_refl _) (by decide) 2 addX _ _ (add_in (blkUp (blkA w1 (.cells #[.int .i64 1, .int .i64 2147483647, .int .i64 0, .slice none 0 0, .int .i64 2, .int .i64 0, .int .i64 0, .slice none 0 0] 24) rfl) (.cells #[.int .i64 0] 3))) (one_var (blkA (w1.alloc (.cells #[.int .i64 1, .int .i64 2147483647, .int .i64 0, .slice none 0 0, .int .i64 2, .int .i64 0, .int .i64 0, .slice none 0 0] 24)) (.cells #[.int .i64 0] 3) (by simp)))
    rw [add_0] at h
    exact h) : Calls _ _ _ _ fun e w' => e = .returned (.tuple #[.int .i64 2147483647, .int .i64 0]) ∧ Below _ _ w').mono ?_
  rintro e w2 ⟨rfl, hb2⟩
  have p0 := Lib.hid (blk_keep hb2 n0.out)
  have p1 := Lib.hid (blk_keep hb2 n1.out)
  have hB2 := (hB1.trans (hbA.mono hB1.size)).trans (hb2.mono (Nat.le_trans hB1.size hbA.size))
  clear m0 m1 n0 n1 hbA hb2 hB1
  go_wp2_with fail
  have n0 := Lib.hid (blkUp (blkUp p0.out (.cells #[.int .i64 1, .int .i64 2147483647, .int .i64 0, .slice none 0 0, .int .i64 2, .int .i64 0, .int .i64 0, .slice none 0 0] 24)) (.cells #[.int .i64 1] 3))
  have n1 := Lib.hid (blkUp (blkUp p1.out (.cells #[.int .i64 1, .int .i64 2147483647, .int .i64 0, .slice none 0 0, .int .i64 2, .int .i64 0, .int .i64 0, .slice none 0 0] 24)) (.cells #[.int .i64 1] 3))
  have hbA : Below w2.heap.size w2 ((w2.alloc (.cells #[.int .i64 1, .int .i64 2147483647, .int .i64 0, .slice none 0 0, .int .i64 2, .int .i64 0, .int .i64 0, .slice none 0 0] 24)).alloc (.cells #[.int .i64 1] 3)) := ((Below.refl _ _).alloc (Nat.le_refl _) _).alloc (by simp) _
  refine ((by
    have h := eval_any [1] (some ⟨w2.heap.size + 1, 0, none⟩) 1 1 rfl (Nat.le_refl _) (by decide) 2 addX _ _ (add_in (blkUp (blkA w2 (.cells #[.int .i64 1, .int .i64 2147483647, .int .i64 0, .slice none 0 0, .int .i64 2, .int .i64 0, .int .i64 0, .slice none 0 0] 24) rfl) (.cells #[.int .i64 1] 3))) (one_var (blkA (w2.alloc (.cells #[.int .i64 1, .int .i64 2147483647, .int .i64 0, .slice none 0 0, .int .i64 2, .int .i64 0, .int .i64 0, .slice none 0 0] 24)) (.cells #[.int .i64 1] 3) (by simp)))
    rw [add_1] at h
    exact h) : Calls _ _ _ _ fun e w' => e = .returned (.tuple #[.int .i64 0, .int .i64 2]) ∧ Below _ _ w').mono ?_
  rintro e w3 ⟨rfl, hb3⟩
  have s0 := blk_keep hb3 n0.out
  have s1 := blk_keep hb3 n1.out
  have hB3 := (hB2.trans (hbA.mono hB2.size)).trans (hb3.mono (Nat.le_trans hB2.size hbA.size))
  have t1 := row_of s1
  have l1 := blk_lt s1
  replace s0 := Lib.hid s0
  replace s1 := Lib.hid s1
  clear p0 p1 n0 n1 hbA hb3 hB2
  go_wp2_with fail
  have a0 : ((((w3.alloc (.cells #[.int .i64 0, .int .i64 1, .int .i64 1, .int .i64 0, .int .i64 0, .int .i64 0, .int .i64 7, .int .i64 0, .int .i64 0, .slice (some ⟨w.heap.size, 0, none⟩) 2 2, .int .i64 0, .int .i64 0, .int .i64 0, .int .i64 0, .slice none 0 0, .int .i64 0, .int .i64 0, .int .i64 0, .slice none 0 0] 28)).alloc (.cells #[.int .i64 2, .slice (some ⟨w3.heap.size, 0, none⟩) 1 1, .slice none 0 0] 32)).alloc (.cells #[.int .i64 1] 3)).alloc (.cells #[.int .i64 0, .bool false, .int .i64 0] 90)).heap[w3.heap.size]? = some (.cells #[.int .i64 0, .int .i64 1, .int .i64 1, .int .i64 0, .int .i64 0, .int .i64 0, .int .i64 7, .int .i64 0, .int .i64 0, .slice (some ⟨w.heap.size, 0, none⟩) 2 2, .int .i64 0, .int .i64 0, .int .i64 0, .int .i64 0, .slice none 0 0, .int .i64 0, .int .i64 0, .int .i64 0, .slice none 0 0] 28 (0, 0)) := blkUp (blkUp (blkUp (blkA _ _ rfl) _) _) _
  have a1 : ((((w3.alloc (.cells #[.int .i64 0, .int .i64 1, .int .i64 1, .int .i64 0, .int .i64 0, .int .i64 0, .int .i64 7, .int .i64 0, .int .i64 0, .slice (some ⟨w.heap.size, 0, none⟩) 2 2, .int .i64 0, .int .i64 0, .int .i64 0, .int .i64 0, .slice none 0 0, .int .i64 0, .int .i64 0, .int .i64 0, .slice none 0 0] 28)).alloc (.cells #[.int .i64 2, .slice (some ⟨w3.heap.size, 0, none⟩) 1 1, .slice none 0 0] 32)).alloc (.cells #[.int .i64 1] 3)).alloc (.cells #[.int .i64 0, .bool false, .int .i64 0] 90)).heap[w3.heap.size + 1]? = some (.cells #[.int .i64 2, .slice (some ⟨w3.heap.size, 0, none⟩) 1 1, .slice none 0 0] 32 (0, 0)) := blkUp (blkUp (blkA _ _ (by simp)) _) _
  have a2 : ((((w3.alloc (.cells #[.int .i64 0, .int .i64 1, .int .i64 1, .int .i64 0, .int .i64 0, .int .i64 0, .int .i64 7, .int .i64 0, .int .i64 0, .slice (some ⟨w.heap.size, 0, none⟩) 2 2, .int .i64 0, .int .i64 0, .int .i64 0, .int .i64 0, .slice none 0 0, .int .i64 0, .int .i64 0, .int .i64 0, .slice none 0 0] 28)).alloc (.cells #[.int .i64 2, .slice (some ⟨w3.heap.size, 0, none⟩) 1 1, .slice none 0 0] 32)).alloc (.cells #[.int .i64 1] 3)).alloc (.cells #[.int .i64 0, .bool false, .int .i64 0] 90)).heap[w3.heap.size + 1 + 1]? = some (.cells #[.int .i64 1] 3 (0, 0)) := blkUp (blkA _ _ (by simp)) _
  have a3 : ((((w3.alloc (.cells #[.int .i64 0, .int .i64 1, .int .i64 1, .int .i64 0, .int .i64 0, .int .i64 0, .int .i64 7, .int .i64 0, .int .i64 0, .slice (some ⟨w.heap.size, 0, none⟩) 2 2, .int .i64 0, .int .i64 0, .int .i64 0, .int .i64 0, .slice none 0 0, .int .i64 0, .int .i64 0, .int .i64 0, .slice none 0 0] 28)).alloc (.cells #[.int .i64 2, .slice (some ⟨w3.heap.size, 0, none⟩) 1 1, .slice none 0 0] 32)).alloc (.cells #[.int .i64 1] 3)).alloc (.cells #[.int .i64 0, .bool false, .int .i64 0] 90)).heap[w3.heap.size + 1 + 1 + 1]? = some (.cells #[.int .i64 0, .bool false, .int .i64 0] 90 (0, 0)) := blkA _ _ (by simp)
  have hb4 : Below w3.heap.size w3 ((((w3.alloc (.cells #[.int .i64 0, .int .i64 1, .int .i64 1, .int .i64 0, .int .i64 0, .int .i64 0, .int .i64 7, .int .i64 0, .int .i64 0, .slice (some ⟨w.heap.size, 0, none⟩) 2 2, .int .i64 0, .int .i64 0, .int .i64 0, .int .i64 0, .slice none 0 0, .int .i64 0, .int .i64 0, .int .i64 0, .slice none 0 0] 28)).alloc (.cells #[.int .i64 2, .slice (some ⟨w3.heap.size, 0, none⟩) 1 1, .slice none 0 0] 32)).alloc (.cells #[.int .i64 1] 3)).alloc (.cells #[.int .i64 0, .bool false, .int .i64 0] 90)) := ((((Below.refl _ _).alloc (Nat.le_refl _) _).alloc (by simp) _).alloc (by simp; omega) _).alloc (by simp; omega) _
  have s4 := blk_keep hb4 s0.out
  have hB4 := hB3.trans (hb4.mono hB3.size)
  clear s0 s1 t1 l1 hb4 hB3
  generalize ((((w3.alloc (.cells #[.int .i64 0, .int .i64 1, .int .i64 1, .int .i64 0, .int .i64 0, .int .i64 0, .int .i64 7, .int .i64 0, .int .i64 0, .slice (some ⟨w.heap.size, 0, none⟩) 2 2, .int .i64 0, .int .i64 0, .int .i64 0, .int .i64 0, .slice none 0 0, .int .i64 0, .int .i64 0, .int .i64 0, .slice none 0 0] 28)).alloc (.cells #[.int .i64 2, .slice (some ⟨w3.heap.size, 0, none⟩) 1 1, .slice none 0 0] 32)).alloc (.cells #[.int .i64 1] 3)).alloc (.cells #[.int .i64 0, .bool false, .int .i64 0] 90)) = w4 at *
  refine (run_err 2 divX 3 rfl (w3.heap.size + 1) 1 (w3.heap.size + 1 + 1) 1 w3.heap.size 1 (w3.heap.size + 1 + 1 + 1) 1 none 0 w4 (by decide) (by decide) (by decide) (by decide) (blk_lt a1) (blk_lt a2) (blk_lt a0) (blk_lt a3)
    (fun j v hv => by rw [Nat.zero_add]; exact (row_of a1 j).trans (by simpa using hv)) (row_of a2 0) (fun j v hv => by rw [Nat.zero_add]; exact (row_of a0 j).trans (by simpa using hv)) a3
    (fun W hW => stmt_asgE none 0 0 0 1 0 7 0 0 _ 2 2 (by decide) (by decide) W (div_ok (blk_keep hW s4))) (div_in s4) (div_ev _)).mono ?_
  rintro e w5 ⟨A, n, c, rfl, hb5⟩
  have hB5 := hB4.trans (hb5.mono hB4.size)
  clear a0 a1 a2 a3 s4 hb5 hB4
  go_wp2_with fail
  go_ret
  exact ⟨rfl, hB5.alloc hB5.size _⟩
end Go.Proofs.Ytmcomhjfpegieaa

