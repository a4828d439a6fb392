/-
  step's reckoning of two numbers and of one: cut, both, negated, reckoned.
-/
import Derived.Test.YtmcomhjfpegieaaSa
namespace Go.Proofs.Ytmcomhjfpegieaa
open Go.RowKit

theorem cut_any (n : Int) (w : World) : Calls Try.prog 25 #[.int .i64 n] w fun e w' => e = .returned (.tuple #[.int .i64 (cutI n).1, .int .i64 (cutI n).2]) ∧ w = w' := by
  by_cases h : -2147483648 ≤ n ∧ n ≤ 2147483647
  · have e : cutI n = (n, 0) := if_pos h
    have hw : IntKind.i32.wrap n = n := by simp [IntKind.wrap, IntKind.bits, IntKind.signed]; omega
    rw [e]
    clear e
    go_enter Try.func25, Try.ntmps25
    go_wp2
    go_ret2
    exact ⟨rfl, rfl⟩
  · have e : cutI n = (0, 2) := if_neg h
    have hw : (IntKind.i32.wrap n == n) = false := by
      rw [beq_eq_false_iff_ne]
      simp [IntKind.wrap, IntKind.bits, IntKind.signed]
      omega
    rw [e]
    clear e h
    obtain ⟨u, hu⟩ : ∃ u, IntKind.i32.wrap n = u := ⟨_, rfl⟩
    have hu1 : -2147483648 ≤ u ∧ u ≤ 2147483647 := by rw [← hu]; simp [IntKind.wrap, IntKind.bits, IntKind.signed]; omega
    obtain ⟨hu1, hu2⟩ := hu1
    rw [hu] at hw
    go_enter Try.func25, Try.ntmps25
    go_wp2
    go_ret2
    exact ⟨rfl, rfl⟩

/-- The call of Eval at v tells r, whatever the memory is behind w. -/
def EvOk (w : World) (v A : Value) (r : Int × Int) : Prop :=
  ∀ W, Below w.heap.size w W → Calls Try.prog 10 #[v, A] W fun e w' => e = .returned (.tuple #[.int .i64 r.1, .int .i64 r.2]) ∧ Below W.heap.size W w'

/-- What both tells. -/
def twoN (l r : Int × Int) : Int × Int × Int := if l.2 ≠ 0 then (0, 0, l.2) else if r.2 ≠ 0 then (0, 0, r.2) else (l.1, r.1, 0)
set_option maxHeartbeats 1000000 in
theorem both_any (k1 m1 x1 k2 m2 x2 : Int) (A1 A2 A : Option Addr) (n1 c1 n2 c2 n c : Nat) (l r : Int × Int) (w : World) (hl : EvOk w (.agg #[.int .i64 k1, .int .i64 m1, .int .i64 x1, .slice A1 n1 c1]) (.slice A n c) l) (hr : EvOk w (.agg #[.int .i64 k2, .int .i64 m2, .int .i64 x2, .slice A2 n2 c2]) (.slice A n c) r) :
    Calls Try.prog 29 #[.agg #[.int .i64 k1, .int .i64 m1, .int .i64 x1, .slice A1 n1 c1], .agg #[.int .i64 k2, .int .i64 m2, .int .i64 x2, .slice A2 n2 c2], .slice A n c] w
      fun e w' => e = .returned (.tuple #[.int .i64 (twoN l r).1, .int .i64 (twoN l r).2.1, .int .i64 (twoN l r).2.2]) ∧ Below w.heap.size w w' := by
  replace hl := Lib.hid hl
  replace hr := Lib.hid hr
  obtain ⟨l1, l2⟩ := l
  obtain ⟨r1, r2⟩ := r
  by_cases h1 : l2 = 0
  · subst h1
    by_cases h2 : r2 = 0
    · subst h2
      have e : twoN (l1, 0) (r1, 0) = (l1, r1, 0) := by simp [twoN]
      rw [e]
      clear e
      go_enter Try.func29, Try.ntmps29
      go_wp2_with fail
      have hb0 : Below w.heap.size w ((w.alloc (.cells #[.int .i64 k1, .int .i64 m1, .int .i64 x1, .slice A1 n1 c1] 24)).alloc (.cells #[.int .i64 k2, .int .i64 m2, .int .i64 x2, .slice A2 n2 c2] 24)) := ((Below.refl _ _).alloc (Nat.le_refl _) _).alloc (by simp) _
      have k0 := Lib.hid (blkUp (blkA w (.cells #[.int .i64 k1, .int .i64 m1, .int .i64 x1, .slice A1 n1 c1] 24) rfl) (.cells #[.int .i64 k2, .int .i64 m2, .int .i64 x2, .slice A2 n2 c2] 24))
      have k1 := Lib.hid (blkA (w.alloc (.cells #[.int .i64 k1, .int .i64 m1, .int .i64 x1, .slice A1 n1 c1] 24)) (.cells #[.int .i64 k2, .int .i64 m2, .int .i64 x2, .slice A2 n2 c2] 24) (b := w.heap.size + 1) (by simp))
      refine (hl.out _ hb0).mono ?_
      rintro e w1 ⟨rfl, hb1⟩
      have q0 := blk_keep hb1 k0.out
      have q1 := blk_keep hb1 k1.out
      have hB1 : Below w.heap.size w w1 := hb0.trans (hb1.mono hb0.size)
      have r1' := row_of q1
      replace q1 := Lib.hid q1
      clear k0 k1 hb0 hb1 q0
      go_wp2_with fail
      refine (hr.out _ hB1).mono ?_
      rintro e w2 ⟨rfl, hb2⟩
      have hB2 : Below w.heap.size w w2 := hB1.trans (hb2.mono hB1.size)
      clear hb2 hB1 q1 r1'
      go_wp2_with fail
      exact bodyPost_ret (v := .tuple #[.int .i64 l1, .int .i64 r1, .int .i64 0]) (by simp [results, Try.results29, go_sem]) rfl ⟨rfl, hB2⟩
    · have e : twoN (l1, 0) (r1, r2) = (0, 0, r2) := by simp [twoN, h2]
      have h2' : (r2 == 0) = false := by rw [beq_eq_false_iff_ne]; exact h2
      rw [e]
      clear e h2
      go_enter Try.func29, Try.ntmps29
      go_wp2_with fail
      have hb0 : Below w.heap.size w ((w.alloc (.cells #[.int .i64 k1, .int .i64 m1, .int .i64 x1, .slice A1 n1 c1] 24)).alloc (.cells #[.int .i64 k2, .int .i64 m2, .int .i64 x2, .slice A2 n2 c2] 24)) := ((Below.refl _ _).alloc (Nat.le_refl _) _).alloc (by simp) _
      have k0 := Lib.hid (blkUp (blkA w (.cells #[.int .i64 k1, .int .i64 m1, .int .i64 x1, .slice A1 n1 c1] 24) rfl) (.cells #[.int .i64 k2, .int .i64 m2, .int .i64 x2, .slice A2 n2 c2] 24))
      have k1 := Lib.hid (blkA (w.alloc (.cells #[.int .i64 k1, .int .i64 m1, .int .i64 x1, .slice A1 n1 c1] 24)) (.cells #[.int .i64 k2, .int .i64 m2, .int .i64 x2, .slice A2 n2 c2] 24) (b := w.heap.size + 1) (by simp))
      refine (hl.out _ hb0).mono ?_
      rintro e w1 ⟨rfl, hb1⟩
      have q0 := blk_keep hb1 k0.out
      have q1 := blk_keep hb1 k1.out
      have hB1 : Below w.heap.size w w1 := hb0.trans (hb1.mono hb0.size)
      have r1' := row_of q1
      replace q1 := Lib.hid q1
      clear k0 k1 hb0 hb1 q0
      go_wp2_with fail
      refine (hr.out _ hB1).mono ?_
      rintro e w2 ⟨rfl, hb2⟩
      have hB2 : Below w.heap.size w w2 := hB1.trans (hb2.mono hB1.size)
      clear hb2 hB1 q1 r1'
      go_wp2_with fail
      exact bodyPost_ret (v := .tuple #[.int .i64 0, .int .i64 0, .int .i64 r2]) (by simp [results, Try.results29, go_sem]) rfl ⟨rfl, hB2⟩
  · have e : twoN (l1, l2) (r1, r2) = (0, 0, l2) := by simp [twoN, h1]
    have h1' : (l2 == 0) = false := by rw [beq_eq_false_iff_ne]; exact h1
    rw [e]
    clear e h1
    go_enter Try.func29, Try.ntmps29
    go_wp2_with fail
    have hb0 : Below w.heap.size w ((w.alloc (.cells #[.int .i64 k1, .int .i64 m1, .int .i64 x1, .slice A1 n1 c1] 24)).alloc (.cells #[.int .i64 k2, .int .i64 m2, .int .i64 x2, .slice A2 n2 c2] 24)) := ((Below.refl _ _).alloc (Nat.le_refl _) _).alloc (by simp) _
    have k0 := Lib.hid (blkUp (blkA w (.cells #[.int .i64 k1, .int .i64 m1, .int .i64 x1, .slice A1 n1 c1] 24) rfl) (.cells #[.int .i64 k2, .int .i64 m2, .int .i64 x2, .slice A2 n2 c2] 24))
    have k1 := Lib.hid (blkA (w.alloc (.cells #[.int .i64 k1, .int .i64 m1, .int .i64 x1, .slice A1 n1 c1] 24)) (.cells #[.int .i64 k2, .int .i64 m2, .int .i64 x2, .slice A2 n2 c2] 24) (b := w.heap.size + 1) (by simp))
    refine (hl.out _ hb0).mono ?_
    rintro e w1 ⟨rfl, hb1⟩
    have q0 := blk_keep hb1 k0.out
    have q1 := blk_keep hb1 k1.out
    have hB1 : Below w.heap.size w w1 := hb0.trans (hb1.mono hb0.size)
    have r1' := row_of q1
    replace q1 := Lib.hid q1
    clear k0 k1 hb0 hb1 q0
    go_wp2_with fail
    exact bodyPost_ret (v := .tuple #[.int .i64 0, .int .i64 0, .int .i64 l2]) (by simp [results, Try.results29, go_sem]) rfl ⟨rfl, hB1⟩
end Go.Proofs.Ytmcomhjfpegieaa
