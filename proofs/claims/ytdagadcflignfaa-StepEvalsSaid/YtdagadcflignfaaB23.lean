/-
  step's reckoning of two numbers and of one: cut, both, negated, reckoned.; step's negated and reckoned.; step.Eval: of every expression, comparison's side and variables the number, or the error.
-/
import Derived.Test.YtdagadcflignfaaB22
import Derived.Deep.RegionHeld3
namespace Go.Proofs.Ytdagadcflignfaa
open Go.RowKit

theorem cut_any (n : Int) (w : World) : Calls Try.prog 42 #[.int .i64 n] w fun e w' => e = .returned (.tuple #[.int .i64 (cutI n).1, .int .i64 (cutI n).2]) ∧ w = w' := by
  by_cases h : -2147483648 ≤ n ∧ n ≤ 2147483647
  · have e : cutI n = (n, 0) := if_pos h
    have hw : IntKind.i32.wrap n = n := by simp [IntKind.wrap, IntKind.bits, IntKind.signed]; omega
    rw [e]
    clear e
    go_enter Try.func42, Try.ntmps42
    go_wp2
    go_ret2
    exact ⟨rfl, rfl⟩
  · have e : cutI n = (0, 2) := if_neg h
    have hw : (IntKind.i32.wrap n == n) = false := by
      rw [beq_eq_false_iff_ne]
      simp [IntKind.wrap, IntKind.bits, IntKind.signed]
      omega
    rw [e]
    clear e h
    obtain ⟨u, hu⟩ : ∃ u, IntKind.i32.wrap n = u := ⟨_, rfl⟩
    have hu1 : -2147483648 ≤ u ∧ u ≤ 2147483647 := by rw [← hu]; simp [IntKind.wrap, IntKind.bits, IntKind.signed]; omega
    obtain ⟨hu1, hu2⟩ := hu1
    rw [hu] at hw
    go_enter Try.func42, Try.ntmps42
    go_wp2
    go_ret2
    exact ⟨rfl, rfl⟩

/-- The call of Eval at v tells r, whatever the memory is behind w. -/
def EvOk (w : World) (v A : Value) (r : Int × Int) : Prop :=
  ∀ W, Below w.heap.size w W → Calls Try.prog 15 #[v, A] W fun e w' => e = .returned (.tuple #[.int .i64 r.1, .int .i64 r.2]) ∧ Below W.heap.size W w'

/-- What both tells. -/
def twoN (l r : Int × Int) : Int × Int × Int := if l.2 ≠ 0 then (0, 0, l.2) else if r.2 ≠ 0 then (0, 0, r.2) else (l.1, r.1, 0)
set_option maxHeartbeats 1000000 in
theorem both_any (k1 m1 x1 k2 m2 x2 : Int) (A1 A2 A : Option Addr) (n1 c1 n2 c2 n c : Nat) (l r : Int × Int) (w : World) (hl : EvOk w (.agg #[.int .i64 k1, .int .i64 m1, .int .i64 x1, .slice A1 n1 c1]) (.slice A n c) l) (hr : EvOk w (.agg #[.int .i64 k2, .int .i64 m2, .int .i64 x2, .slice A2 n2 c2]) (.slice A n c) r) :
    Calls Try.prog 46 #[.agg #[.int .i64 k1, .int .i64 m1, .int .i64 x1, .slice A1 n1 c1], .agg #[.int .i64 k2, .int .i64 m2, .int .i64 x2, .slice A2 n2 c2], .slice A n c] w
      fun e w' => e = .returned (.tuple #[.int .i64 (twoN l r).1, .int .i64 (twoN l r).2.1, .int .i64 (twoN l r).2.2]) ∧ Below w.heap.size w w' := by
  replace hl := Lib.hid hl
  replace hr := Lib.hid hr
  obtain ⟨l1, l2⟩ := l
  obtain ⟨r1, r2⟩ := r
  by_cases h1 : l2 = 0
  · subst h1
    by_cases h2 : r2 = 0
    · subst h2
      have e : twoN (l1, 0) (r1, 0) = (l1, r1, 0) := by simp [twoN]
      rw [e]
      clear e
      go_enter Try.func46, Try.ntmps46
      go_wp2_with fail
      have hb0 : Below w.heap.size w ((w.alloc (.cells #[.int .i64 k1, .int .i64 m1, .int .i64 x1, .slice A1 n1 c1] 25)).alloc (.cells #[.int .i64 k2, .int .i64 m2, .int .i64 x2, .slice A2 n2 c2] 25)) := ((Below.refl _ _).alloc (Nat.le_refl _) _).alloc (by simp) _
      have k0 := Lib.hid (blkUpS (blkAS w (.cells #[.int .i64 k1, .int .i64 m1, .int .i64 x1, .slice A1 n1 c1] 25) rfl) (.cells #[.int .i64 k2, .int .i64 m2, .int .i64 x2, .slice A2 n2 c2] 25))
      have k1 := Lib.hid (blkAS (w.alloc (.cells #[.int .i64 k1, .int .i64 m1, .int .i64 x1, .slice A1 n1 c1] 25)) (.cells #[.int .i64 k2, .int .i64 m2, .int .i64 x2, .slice A2 n2 c2] 25) (b := w.heap.size + 1) (by simp))
      refine (hl.out _ hb0).mono ?_
      rintro e w1 ⟨rfl, hb1⟩
      have q0 := blk_keepS hb1 k0.out
      have q1 := blk_keepS hb1 k1.out
      have hB1 : Below w.heap.size w w1 := hb0.trans (hb1.mono hb0.size)
      have r1' := row_ofS q1
      replace q1 := Lib.hid q1
      clear k0 k1 hb0 hb1 q0
      go_wp2_with fail
      refine (hr.out _ hB1).mono ?_
      rintro e w2 ⟨rfl, hb2⟩
      have hB2 : Below w.heap.size w w2 := hB1.trans (hb2.mono hB1.size)
      clear hb2 hB1 q1 r1'
      go_wp2_with fail
      exact bodyPost_ret (v := .tuple #[.int .i64 l1, .int .i64 r1, .int .i64 0]) (by simp [results, Try.results46, go_sem]) rfl ⟨rfl, hB2⟩
    · have e : twoN (l1, 0) (r1, r2) = (0, 0, r2) := by simp [twoN, h2]
      have h2' : (r2 == 0) = false := by rw [beq_eq_false_iff_ne]; exact h2
      rw [e]
      clear e h2
      go_enter Try.func46, Try.ntmps46
      go_wp2_with fail
      have hb0 : Below w.heap.size w ((w.alloc (.cells #[.int .i64 k1, .int .i64 m1, .int .i64 x1, .slice A1 n1 c1] 25)).alloc (.cells #[.int .i64 k2, .int .i64 m2, .int .i64 x2, .slice A2 n2 c2] 25)) := ((Below.refl _ _).alloc (Nat.le_refl _) _).alloc (by simp) _
      have k0 := Lib.hid (blkUpS (blkAS w (.cells #[.int .i64 k1, .int .i64 m1, .int .i64 x1, .slice A1 n1 c1] 25) rfl) (.cells #[.int .i64 k2, .int .i64 m2, .int .i64 x2, .slice A2 n2 c2] 25))
      have k1 := Lib.hid (blkAS (w.alloc (.cells #[.int .i64 k1, .int .i64 m1, .int .i64 x1, .slice A1 n1 c1] 25)) (.cells #[.int .i64 k2, .int .i64 m2, .int .i64 x2, .slice A2 n2 c2] 25) (b := w.heap.size + 1) (by simp))
      refine (hl.out _ hb0).mono ?_
      rintro e w1 ⟨rfl, hb1⟩
      have q0 := blk_keepS hb1 k0.out
      have q1 := blk_keepS hb1 k1.out
      have hB1 : Below w.heap.size w w1 := hb0.trans (hb1.mono hb0.size)
      have r1' := row_ofS q1
      replace q1 := Lib.hid q1
      clear k0 k1 hb0 hb1 q0
      go_wp2_with fail
      refine (hr.out _ hB1).mono ?_
      rintro e w2 ⟨rfl, hb2⟩
      have hB2 : Below w.heap.size w w2 := hB1.trans (hb2.mono hB1.size)
      clear hb2 hB1 q1 r1'
      go_wp2_with fail
      exact bodyPost_ret (v := .tuple #[.int .i64 0, .int .i64 0, .int .i64 r2]) (by simp [results, Try.results46, go_sem]) rfl ⟨rfl, hB2⟩
  · have e : twoN (l1, l2) (r1, r2) = (0, 0, l2) := by simp [twoN, h1]
    have h1' : (l2 == 0) = false := by rw [beq_eq_false_iff_ne]; exact h1
    rw [e]
    clear e h1
    go_enter Try.func46, Try.ntmps46
    go_wp2_with fail
    have hb0 : Below w.heap.size w ((w.alloc (.cells #[.int .i64 k1, .int .i64 m1, .int .i64 x1, .slice A1 n1 c1] 25)).alloc (.cells #[.int .i64 k2, .int .i64 m2, .int .i64 x2, .slice A2 n2 c2] 25)) := ((Below.refl _ _).alloc (Nat.le_refl _) _).alloc (by simp) _
    have k0 := Lib.hid (blkUpS (blkAS w (.cells #[.int .i64 k1, .int .i64 m1, .int .i64 x1, .slice A1 n1 c1] 25) rfl) (.cells #[.int .i64 k2, .int .i64 m2, .int .i64 x2, .slice A2 n2 c2] 25))
    have k1 := Lib.hid (blkAS (w.alloc (.cells #[.int .i64 k1, .int .i64 m1, .int .i64 x1, .slice A1 n1 c1] 25)) (.cells #[.int .i64 k2, .int .i64 m2, .int .i64 x2, .slice A2 n2 c2] 25) (b := w.heap.size + 1) (by simp))
    refine (hl.out _ hb0).mono ?_
    rintro e w1 ⟨rfl, hb1⟩
    have q0 := blk_keepS hb1 k0.out
    have q1 := blk_keepS hb1 k1.out
    have hB1 : Below w.heap.size w w1 := hb0.trans (hb1.mono hb0.size)
    have r1' := row_ofS q1
    replace q1 := Lib.hid q1
    clear k0 k1 hb0 hb1 q0
    go_wp2_with fail
    exact bodyPost_ret (v := .tuple #[.int .i64 0, .int .i64 0, .int .i64 l2]) (by simp [results, Try.results46, go_sem]) rfl ⟨rfl, hB1⟩
end Go.Proofs.Ytdagadcflignfaa
namespace Go.Proofs.Ytdagadcflignfaa
open Go.RowKit

def negI (r : Int × Int) : Int × Int := if r.2 ≠ 0 then (0, r.2) else cutI (- r.1)
set_option maxHeartbeats 1000000 in
theorem negated_any (k1 m1 x1 : Int) (A1 A : Option Addr) (n1 c1 n c : Nat) (r : Int × Int) (w : World) (hi : InR r) (hl : EvOk w (.agg #[.int .i64 k1, .int .i64 m1, .int .i64 x1, .slice A1 n1 c1]) (.slice A n c) r) :
    Calls Try.prog 43 #[.agg #[.int .i64 k1, .int .i64 m1, .int .i64 x1, .slice A1 n1 c1], .slice A n c] w fun e w' => e = .returned (.tuple #[.int .i64 (negI r).1, .int .i64 (negI r).2]) ∧ Below w.heap.size w w' := by
  replace hl := Lib.hid hl
  obtain ⟨r1, r2⟩ := r
  obtain ⟨i1, i2, _, _⟩ := hi
  simp only at i1 i2
  by_cases h1 : r2 = 0
  · subst h1
    have e : negI (r1, 0) = cutI (- r1) := by simp [negI]
    rw [e]
    clear e
    go_enter Try.func43, Try.ntmps43
    go_wp2_with fail
    refine (hl.out _ ((Below.refl _ _).alloc (Nat.le_refl _) _)).mono ?_
    rintro e w1 ⟨rfl, hb1⟩
    have hB1 : Below w.heap.size w w1 := ((Below.refl _ _).alloc (Nat.le_refl _) _).trans (hb1.mono (by simp))
    clear hb1
    go_wp2_with fail
    refine (cut_any _ _).mono ?_
    rintro e w2 ⟨rfl, rfl⟩
    go_wp2_with fail
    exact bodyPost_ret (v := .tuple #[.int .i64 (cutI (-r1)).1, .int .i64 (cutI (-r1)).2]) (by simp [results, Try.results43, go_sem]) rfl ⟨rfl, hB1⟩
  · have e : negI (r1, r2) = (0, r2) := by simp [negI, h1]
    have h1' : (r2 == 0) = false := by rw [beq_eq_false_iff_ne]; exact h1
    rw [e]
    clear e h1
    go_enter Try.func43, Try.ntmps43
    go_wp2_with fail
    refine (hl.out _ ((Below.refl _ _).alloc (Nat.le_refl _) _)).mono ?_
    rintro e w1 ⟨rfl, hb1⟩
    have hB1 : Below w.heap.size w w1 := ((Below.refl _ _).alloc (Nat.le_refl _) _).trans (hb1.mono (by simp))
    clear hb1
    go_wp2_with fail
    exact bodyPost_ret (v := .tuple #[.int .i64 0, .int .i64 r2]) (by simp [results, Try.results43, go_sem]) rfl ⟨rfl, hB1⟩

theorem mul_inS {a b : Int} (a1 : -2147483648 ≤ a) (a2 : a ≤ 2147483647) (b1 : -2147483648 ≤ b) (b2 : b ≤ 2147483647) : -4611686018427387904 ≤ a * b ∧ a * b ≤ 4611686018427387904 := by
  have h : (a * b).natAbs ≤ 2147483648 * 2147483648 := by
    rw [Int.natAbs_mul]
    exact Nat.mul_le_mul (by omega) (by omega)
  omega
theorem tdiv_in {a b : Int} (a1 : -2147483648 ≤ a) (a2 : a ≤ 2147483647) : -2147483648 ≤ a.tdiv b ∧ a.tdiv b ≤ 2147483648 := by
  have h : (a.tdiv b).natAbs ≤ 2147483648 := by
    rw [Int.natAbs_tdiv]
    exact Nat.le_trans (Nat.div_le_self _ _) (by omega)
  omega
set_option maxHeartbeats 1000000 in
theorem reckoned_err (k k1 m1 x1 k2 m2 x2 : Int) (A1 A2 A : Option Addr) (n1 c1 n2 c2 n c : Nat) (L R : Int × Int) (w : World) (f : Int) (hf : (f == 0) = false) (ht : twoN L R = (0, 0, f)) (hl : EvOk w (.agg #[.int .i64 k1, .int .i64 m1, .int .i64 x1, .slice A1 n1 c1]) (.slice A n c) L) (hr : EvOk w (.agg #[.int .i64 k2, .int .i64 m2, .int .i64 x2, .slice A2 n2 c2]) (.slice A n c) R) :
    Calls Try.prog 44 #[.int .i64 k, .agg #[.int .i64 k1, .int .i64 m1, .int .i64 x1, .slice A1 n1 c1], .agg #[.int .i64 k2, .int .i64 m2, .int .i64 x2, .slice A2 n2 c2], .slice A n c] w
      fun e w' => e = .returned (.tuple #[.int .i64 (((0, f) : Int × Int)).1, .int .i64 (((0, f) : Int × Int)).2]) ∧ Below w.heap.size w w' := by
  replace hl := Lib.hid hl
  replace hr := Lib.hid hr
  go_enter Try.func44, Try.ntmps44
  go_wp2_with fail
  have hb0 : Below w.heap.size w ((w.alloc (.cells #[.int .i64 k1, .int .i64 m1, .int .i64 x1, .slice A1 n1 c1] 25)).alloc (.cells #[.int .i64 k2, .int .i64 m2, .int .i64 x2, .slice A2 n2 c2] 25)) := ((Below.refl _ _).alloc (Nat.le_refl _) _).alloc (by simp) _
  refine (both_any k1 m1 x1 k2 m2 x2 A1 A2 A n1 c1 n2 c2 n c L R _ (fun W hW => hl.out W (hb0.trans (hW.mono hb0.size))) (fun W hW => hr.out W (hb0.trans (hW.mono hb0.size)))).mono ?_
  rintro e w1 ⟨rfl, hb1⟩
  have hB1 : Below w.heap.size w w1 := hb0.trans (hb1.mono hb0.size)
  clear hb0 hb1
  rw [ht]
  go_wp2_with fail
  exact bodyPost_ret (v := .tuple #[.int .i64 0, .int .i64 f]) (by simp [results, Try.results44, go_sem]) rfl ⟨rfl, hB1⟩
set_option maxHeartbeats 1000000 in
theorem reckoned_ok (k k1 m1 x1 k2 m2 x2 : Int) (A1 A2 A : Option Addr) (n1 c1 n2 c2 n c : Nat) (L R : Int × Int) (w : World) (a b : Int) (a1 : -2147483648 ≤ a) (a2 : a ≤ 2147483647) (b1 : -2147483648 ≤ b) (b2 : b ≤ 2147483647) (hk : 4 ≤ k ∧ k ≤ 8) (ht : twoN L R = (a, b, 0)) (hl : EvOk w (.agg #[.int .i64 k1, .int .i64 m1, .int .i64 x1, .slice A1 n1 c1]) (.slice A n c) L) (hr : EvOk w (.agg #[.int .i64 k2, .int .i64 m2, .int .i64 x2, .slice A2 n2 c2]) (.slice A n c) R) :
    Calls Try.prog 44 #[.int .i64 k, .agg #[.int .i64 k1, .int .i64 m1, .int .i64 x1, .slice A1 n1 c1], .agg #[.int .i64 k2, .int .i64 m2, .int .i64 x2, .slice A2 n2 c2], .slice A n c] w
      fun e w' => e = .returned (.tuple #[.int .i64 (opI k a b).1, .int .i64 (opI k a b).2]) ∧ Below w.heap.size w w' := by
  replace hl := Lib.hid hl
  replace hr := Lib.hid hr
  obtain ⟨p1, p2⟩ := mul_inS a1 a2 b1 b2
  obtain ⟨q1, q2⟩ := tdiv_in (b := b) a1 a2
  have hk' : k = 4 ∨ k = 5 ∨ k = 6 ∨ k = 7 ∨ k = 8 := by omega
  clear hk
  replace ht := Lib.hid ht
  rcases hk' with rfl | rfl | rfl | rfl | rfl
  · have e : opI 4 a b = cutI (a + b) := by simp [opI]
    rw [e]
    clear e
    go_enter Try.func44, Try.ntmps44
    go_wp2_with fail
    have hb0 : Below w.heap.size w ((w.alloc (.cells #[.int .i64 k1, .int .i64 m1, .int .i64 x1, .slice A1 n1 c1] 25)).alloc (.cells #[.int .i64 k2, .int .i64 m2, .int .i64 x2, .slice A2 n2 c2] 25)) := ((Below.refl _ _).alloc (Nat.le_refl _) _).alloc (by simp) _
    refine (both_any k1 m1 x1 k2 m2 x2 A1 A2 A n1 c1 n2 c2 n c L R _ (fun W hW => hl.out W (hb0.trans (hW.mono hb0.size))) (fun W hW => hr.out W (hb0.trans (hW.mono hb0.size)))).mono ?_
    rintro e w1 ⟨rfl, hb1⟩
    have hB1 : Below w.heap.size w w1 := hb0.trans (hb1.mono hb0.size)
    clear hb0 hb1
    rw [ht.out]
    go_wp2_with fail
    refine (cut_any _ _).mono ?_
    rintro e w2 ⟨rfl, rfl⟩
    go_wp2_with fail
    exact bodyPost_ret (v := .tuple #[.int .i64 (cutI (a + b)).1, .int .i64 (cutI (a + b)).2]) (by simp [results, Try.results44, go_sem]) rfl ⟨rfl, hB1⟩
  · have e : opI 5 a b = cutI (a - b) := by simp [opI]
    rw [e]
    clear e
    go_enter Try.func44, Try.ntmps44
    go_wp2_with fail
    have hb0 : Below w.heap.size w ((w.alloc (.cells #[.int .i64 k1, .int .i64 m1, .int .i64 x1, .slice A1 n1 c1] 25)).alloc (.cells #[.int .i64 k2, .int .i64 m2, .int .i64 x2, .slice A2 n2 c2] 25)) := ((Below.refl _ _).alloc (Nat.le_refl _) _).alloc (by simp) _
    refine (both_any k1 m1 x1 k2 m2 x2 A1 A2 A n1 c1 n2 c2 n c L R _ (fun W hW => hl.out W (hb0.trans (hW.mono hb0.size))) (fun W hW => hr.out W (hb0.trans (hW.mono hb0.size)))).mono ?_
    rintro e w1 ⟨rfl, hb1⟩
    have hB1 : Below w.heap.size w w1 := hb0.trans (hb1.mono hb0.size)
    clear hb0 hb1
    rw [ht.out]
    go_wp2_with fail
    refine (cut_any _ _).mono ?_
    rintro e w2 ⟨rfl, rfl⟩
    go_wp2_with fail
    exact bodyPost_ret (v := .tuple #[.int .i64 (cutI (a - b)).1, .int .i64 (cutI (a - b)).2]) (by simp [results, Try.results44, go_sem]) rfl ⟨rfl, hB1⟩
  · have e : opI 6 a b = cutI (a * b) := by simp [opI]
    rw [e]
    clear e
    go_enter Try.func44, Try.ntmps44
    go_wp2_with fail
    have hb0 : Below w.heap.size w ((w.alloc (.cells #[.int .i64 k1, .int .i64 m1, .int .i64 x1, .slice A1 n1 c1] 25)).alloc (.cells #[.int .i64 k2, .int .i64 m2, .int .i64 x2, .slice A2 n2 c2] 25)) := ((Below.refl _ _).alloc (Nat.le_refl _) _).alloc (by simp) _
    refine (both_any k1 m1 x1 k2 m2 x2 A1 A2 A n1 c1 n2 c2 n c L R _ (fun W hW => hl.out W (hb0.trans (hW.mono hb0.size))) (fun W hW => hr.out W (hb0.trans (hW.mono hb0.size)))).mono ?_
    rintro e w1 ⟨rfl, hb1⟩
    have hB1 : Below w.heap.size w w1 := hb0.trans (hb1.mono hb0.size)
    clear hb0 hb1
    rw [ht.out]
    go_wp2_with fail
    refine (cut_any _ _).mono ?_
    rintro e w2 ⟨rfl, rfl⟩
    go_wp2_with fail
    exact bodyPost_ret (v := .tuple #[.int .i64 (cutI (a * b)).1, .int .i64 (cutI (a * b)).2]) (by simp [results, Try.results44, go_sem]) rfl ⟨rfl, hB1⟩
  · by_cases hb : b = 0
    · subst hb
      have e : opI 7 a 0 = (0, 3) := by simp [opI]
      rw [e]
      clear e
      go_enter Try.func44, Try.ntmps44
      go_wp2_with fail
      have hb0 : Below w.heap.size w ((w.alloc (.cells #[.int .i64 k1, .int .i64 m1, .int .i64 x1, .slice A1 n1 c1] 25)).alloc (.cells #[.int .i64 k2, .int .i64 m2, .int .i64 x2, .slice A2 n2 c2] 25)) := ((Below.refl _ _).alloc (Nat.le_refl _) _).alloc (by simp) _
      refine (both_any k1 m1 x1 k2 m2 x2 A1 A2 A n1 c1 n2 c2 n c L R _ (fun W hW => hl.out W (hb0.trans (hW.mono hb0.size))) (fun W hW => hr.out W (hb0.trans (hW.mono hb0.size)))).mono ?_
      rintro e w1 ⟨rfl, hb1⟩
      have hB1 : Below w.heap.size w w1 := hb0.trans (hb1.mono hb0.size)
      clear hb0 hb1
      rw [ht.out]
      go_wp2_with fail
      exact bodyPost_ret (v := .tuple #[.int .i64 0, .int .i64 3]) (by simp [results, Try.results44, go_sem]) rfl ⟨rfl, hB1⟩
    · have hb' : (b == 0) = false := by rw [beq_eq_false_iff_ne]; exact hb
      have e : opI 7 a b = cutI (a.tdiv b) := by simp [opI, hb]
      rw [e]
      clear e
      go_enter Try.func44, Try.ntmps44
      go_wp2_with fail
      have hb0 : Below w.heap.size w ((w.alloc (.cells #[.int .i64 k1, .int .i64 m1, .int .i64 x1, .slice A1 n1 c1] 25)).alloc (.cells #[.int .i64 k2, .int .i64 m2, .int .i64 x2, .slice A2 n2 c2] 25)) := ((Below.refl _ _).alloc (Nat.le_refl _) _).alloc (by simp) _
      refine (both_any k1 m1 x1 k2 m2 x2 A1 A2 A n1 c1 n2 c2 n c L R _ (fun W hW => hl.out W (hb0.trans (hW.mono hb0.size))) (fun W hW => hr.out W (hb0.trans (hW.mono hb0.size)))).mono ?_
      rintro e w1 ⟨rfl, hb1⟩
      have hB1 : Below w.heap.size w w1 := hb0.trans (hb1.mono hb0.size)
      clear hb0 hb1
      rw [ht.out]
      go_wp2_with fail
      refine (cut_any _ _).mono ?_
      rintro e w2 ⟨rfl, rfl⟩
      go_wp2_with fail
      exact bodyPost_ret (v := .tuple #[.int .i64 (cutI (a.tdiv b)).1, .int .i64 (cutI (a.tdiv b)).2]) (by simp [results, Try.results44, go_sem]) rfl ⟨rfl, hB1⟩
  · by_cases hb : b = 0
    · subst hb
      have e : opI 8 a 0 = (0, 3) := by simp [opI]
      rw [e]
      clear e
      go_enter Try.func44, Try.ntmps44
      go_wp2_with fail
      have hb0 : Below w.heap.size w ((w.alloc (.cells #[.int .i64 k1, .int .i64 m1, .int .i64 x1, .slice A1 n1 c1] 25)).alloc (.cells #[.int .i64 k2, .int .i64 m2, .int .i64 x2, .slice A2 n2 c2] 25)) := ((Below.refl _ _).alloc (Nat.le_refl _) _).alloc (by simp) _
      refine (both_any k1 m1 x1 k2 m2 x2 A1 A2 A n1 c1 n2 c2 n c L R _ (fun W hW => hl.out W (hb0.trans (hW.mono hb0.size))) (fun W hW => hr.out W (hb0.trans (hW.mono hb0.size)))).mono ?_
      rintro e w1 ⟨rfl, hb1⟩
      have hB1 : Below w.heap.size w w1 := hb0.trans (hb1.mono hb0.size)
      clear hb0 hb1
      rw [ht.out]
      go_wp2_with fail
      exact bodyPost_ret (v := .tuple #[.int .i64 0, .int .i64 3]) (by simp [results, Try.results44, go_sem]) rfl ⟨rfl, hB1⟩
    · have hb' : (b == 0) = false := by rw [beq_eq_false_iff_ne]; exact hb
      have e : opI 8 a b = cutI (a.tmod b) := by simp [opI, hb]
      rw [e]
      clear e
      go_enter Try.func44, Try.ntmps44
      go_wp2_with fail
      have hb0 : Below w.heap.size w ((w.alloc (.cells #[.int .i64 k1, .int .i64 m1, .int .i64 x1, .slice A1 n1 c1] 25)).alloc (.cells #[.int .i64 k2, .int .i64 m2, .int .i64 x2, .slice A2 n2 c2] 25)) := ((Below.refl _ _).alloc (Nat.le_refl _) _).alloc (by simp) _
      refine (both_any k1 m1 x1 k2 m2 x2 A1 A2 A n1 c1 n2 c2 n c L R _ (fun W hW => hl.out W (hb0.trans (hW.mono hb0.size))) (fun W hW => hr.out W (hb0.trans (hW.mono hb0.size)))).mono ?_
      rintro e w1 ⟨rfl, hb1⟩
      have hB1 : Below w.heap.size w w1 := hb0.trans (hb1.mono hb0.size)
      clear hb0 hb1
      rw [ht.out]
      go_wp2_with fail
      refine (cut_any _ _).mono ?_
      rintro e w2 ⟨rfl, rfl⟩
      go_wp2_with fail
      exact bodyPost_ret (v := .tuple #[.int .i64 (cutI (a.tmod b)).1, .int .i64 (cutI (a.tmod b)).2]) (by simp [results, Try.results44, go_sem]) rfl ⟨rfl, hB1⟩
end Go.Proofs.Ytdagadcflignfaa
namespace Go.Proofs.Ytdagadcflignfaa
open Go.RowKit

set_option maxRecDepth 100000 in
set_option maxHeartbeats 1000000 in
theorem ev_num (k m x : Int) (K A : Option Addr) (kn kc n c : Nat) (w : World) (hk : k = 1) :
    Calls Try.prog 15 #[.agg #[.int .i64 k, .int .i64 m, .int .i64 x, .slice K kn kc], .slice A n c] w fun e w' => e = .returned (.tuple #[.int .i64 (cutI m).1, .int .i64 (cutI m).2]) ∧ Below w.heap.size w w' := by
  subst hk
  go_enter Try.func15, Try.ntmps15
  go_wp2_with fail
  refine (cut_any _ _).mono ?_
  rintro e w1 ⟨rfl, rfl⟩
  go_wp2_with fail
  exact bodyPost_ret (v := .tuple #[.int .i64 (cutI m).1, .int .i64 (cutI m).2]) (by simp [results, Try.results15, go_sem]) rfl ⟨rfl, (Below.refl _ _).alloc (Nat.le_refl _) _⟩
set_option maxRecDepth 100000 in
set_option maxHeartbeats 1000000 in
theorem ev_var (k m _x : Int) (K A : Option Addr) (kn kc n c : Nat) (w : World) (j : Nat) (hk : k = 2) (hj : j < n) (_hn : n ≤ c) (_hc : n ≤ 1000000) (b : Nat) (hb : b < w.heap.size) (u : Int) (hA : A = some ⟨b, 0, none⟩) (hu : w.cell? ⟨b, j, none⟩ = some (.int .i64 u)) :
    Calls Try.prog 15 #[.agg #[.int .i64 k, .int .i64 m, .int .i64 (j : Int), .slice K kn kc], .slice A n c] w fun e w' => e = .returned (.tuple #[.int .i64 (cutI u).1, .int .i64 (cutI u).2]) ∧ Below w.heap.size w w' := by
  subst hk hA
  go_enter Try.func15, Try.ntmps15
  go_wp2_with fail
  refine (cut_any _ _).mono ?_
  rintro e w1 ⟨rfl, rfl⟩
  go_wp2_with fail
  exact bodyPost_ret (v := .tuple #[.int .i64 (cutI u).1, .int .i64 (cutI u).2]) (by simp [results, Try.results15, go_sem]) rfl ⟨rfl, (Below.refl _ _).alloc (Nat.le_refl _) _⟩
set_option maxRecDepth 100000 in
set_option maxHeartbeats 1000000 in
theorem ev_novar (k m x : Int) (K A : Option Addr) (kn kc n c : Nat) (w : World) (hk : k = 2) (hx : x < 0 ∨ (n : Int) ≤ x) :
    Calls Try.prog 15 #[.agg #[.int .i64 k, .int .i64 m, .int .i64 x, .slice K kn kc], .slice A n c] w fun e w' => e = .returned (.tuple #[.int .i64 (((0, 0) : Int × Int)).1, .int .i64 (((0, 0) : Int × Int)).2]) ∧ Below w.heap.size w w' := by
  subst hk
  rcases hx with hx | hx
  · have hx' : decide (0 ≤ x) = false := by simp; omega
    go_enter Try.func15, Try.ntmps15
    go_wp2_with fail
    exact bodyPost_ret (v := .tuple #[.int .i64 0, .int .i64 0]) (by simp [results, Try.results15, go_sem]) rfl ⟨rfl, (Below.refl _ _).alloc (Nat.le_refl _) _⟩
  · have hx' : decide (0 ≤ x) = true := by simp; omega
    have hx2 : decide (x < (n : Int)) = false := by simp; omega
    go_enter Try.func15, Try.ntmps15
    go_wp2_with fail
    exact bodyPost_ret (v := .tuple #[.int .i64 0, .int .i64 0]) (by simp [results, Try.results15, go_sem]) rfl ⟨rfl, (Below.refl _ _).alloc (Nat.le_refl _) _⟩
set_option maxRecDepth 100000 in
set_option maxHeartbeats 1000000 in
theorem ev_neg (k m x : Int) (K A : Option Addr) (kn kc n c : Nat) (w : World) (hk : k = 3) (hkn : kn = 1) (_hkc : 1 ≤ kc) (b : Nat) (hb : b < w.heap.size) (hK : K = some ⟨b, 0, none⟩) (k1 m1 x1 : Int) (A1 : Option Addr) (n1 c1 : Nat) (r0 : w.cell? ⟨b, 0, none⟩ = some (.int .i64 k1)) (r1 : w.cell? ⟨b, 1, none⟩ = some (.int .i64 m1)) (r2 : w.cell? ⟨b, 2, none⟩ = some (.int .i64 x1)) (r3 : w.cell? ⟨b, 3, none⟩ = some (.slice A1 n1 c1)) (r : Int × Int) (hi : InR r) (hl : EvOk w (.agg #[.int .i64 k1, .int .i64 m1, .int .i64 x1, .slice A1 n1 c1]) (.slice A n c) r) :
    Calls Try.prog 15 #[.agg #[.int .i64 k, .int .i64 m, .int .i64 x, .slice K kn kc], .slice A n c] w fun e w' => e = .returned (.tuple #[.int .i64 (negI r).1, .int .i64 (negI r).2]) ∧ Below w.heap.size w w' := by
  subst hk hkn hK
  replace hl := Lib.hid hl
  replace hi := Lib.hid hi
  go_enter Try.func15, Try.ntmps15
  go_wp2_with fail
  refine (negated_any k1 m1 x1 A1 A n1 c1 n c r _ hi.out (fun W hW => hl.out W ((((Below.refl _ _).alloc (Nat.le_refl _) _)).trans (hW.mono (by simp))))).mono ?_
  rintro e w1 ⟨rfl, hb1⟩
  have hB1 : Below w.heap.size w w1 := ((Below.refl _ _).alloc (Nat.le_refl _) _).trans (hb1.mono (by simp))
  clear hb1
  go_wp2_with fail
  exact bodyPost_ret (v := .tuple #[.int .i64 (negI r).1, .int .i64 (negI r).2]) (by simp [results, Try.results15, go_sem]) rfl ⟨rfl, hB1⟩
set_option maxRecDepth 100000 in
set_option maxHeartbeats 1000000 in
theorem ev_negno (k m x : Int) (K A : Option Addr) (kn kc n c : Nat) (w : World) (hk : k = 3) (hkn : kn ≠ 1) :
    Calls Try.prog 15 #[.agg #[.int .i64 k, .int .i64 m, .int .i64 x, .slice K kn kc], .slice A n c] w fun e w' => e = .returned (.tuple #[.int .i64 (((0, 0) : Int × Int)).1, .int .i64 (((0, 0) : Int × Int)).2]) ∧ Below w.heap.size w w' := by
  subst hk
  have h1 : ((kn : Int) == 1) = false := by rw [beq_eq_false_iff_ne]; omega
  have h2 : (kn == 1) = false := by rw [beq_eq_false_iff_ne]; exact hkn
  clear hkn
  go_enter Try.func15, Try.ntmps15
  go_wp2_with fail
  exact bodyPost_ret (v := .tuple #[.int .i64 0, .int .i64 0]) (by simp [results, Try.results15, go_sem]) rfl ⟨rfl, (Below.refl _ _).alloc (Nat.le_refl _) _⟩
theorem keepS {k m x k1 m1 x1 k2 m2 x2 : Int} {b kc n1 c1 n2 c2 : Nat} {A1 A2 : Option Addr} {w W W' : World} (hb : b < w.heap.size) (h : W.cell? ⟨w.heap.size, 0, none⟩ = some (.int .i64 k) ∧ W.cell? ⟨w.heap.size, 1, none⟩ = some (.int .i64 m) ∧ W.cell? ⟨w.heap.size, 2, none⟩ = some (.int .i64 x) ∧ W.cell? ⟨w.heap.size, 3, none⟩ = some (.slice (some ⟨b, 0, none⟩) 2 kc) ∧ W.cell? ⟨b, 0, none⟩ = some (.int .i64 k1) ∧ W.cell? ⟨b, 1, none⟩ = some (.int .i64 m1) ∧ W.cell? ⟨b, 2, none⟩ = some (.int .i64 x1) ∧ W.cell? ⟨b, 3, none⟩ = some (.slice A1 n1 c1) ∧ W.cell? ⟨b, 4, none⟩ = some (.int .i64 k2) ∧ W.cell? ⟨b, 5, none⟩ = some (.int .i64 m2) ∧ W.cell? ⟨b, 6, none⟩ = some (.int .i64 x2) ∧ W.cell? ⟨b, 7, none⟩ = some (.slice A2 n2 c2) ∧ Below w.heap.size w W ∧ w.heap.size + 1 ≤ W.heap.size) (hB : Below W.heap.size W W') : W'.cell? ⟨w.heap.size, 0, none⟩ = some (.int .i64 k) ∧ W'.cell? ⟨w.heap.size, 1, none⟩ = some (.int .i64 m) ∧ W'.cell? ⟨w.heap.size, 2, none⟩ = some (.int .i64 x) ∧ W'.cell? ⟨w.heap.size, 3, none⟩ = some (.slice (some ⟨b, 0, none⟩) 2 kc) ∧ W'.cell? ⟨b, 0, none⟩ = some (.int .i64 k1) ∧ W'.cell? ⟨b, 1, none⟩ = some (.int .i64 m1) ∧ W'.cell? ⟨b, 2, none⟩ = some (.int .i64 x1) ∧ W'.cell? ⟨b, 3, none⟩ = some (.slice A1 n1 c1) ∧ W'.cell? ⟨b, 4, none⟩ = some (.int .i64 k2) ∧ W'.cell? ⟨b, 5, none⟩ = some (.int .i64 m2) ∧ W'.cell? ⟨b, 6, none⟩ = some (.int .i64 x2) ∧ W'.cell? ⟨b, 7, none⟩ = some (.slice A2 n2 c2) ∧ Below w.heap.size w W' ∧ w.heap.size + 1 ≤ W'.heap.size := by
  obtain ⟨h0, h1, h2, h3, g0, g1, g2, g3, g4, g5, g6, g7, hw, hz⟩ := h
  have lb : b < W.heap.size := Nat.lt_of_lt_of_le hb hw.size
  have l0 : w.heap.size < W.heap.size := hz
  exact ⟨(hB.cell (p := ⟨w.heap.size, 0, none⟩) l0).trans h0, (hB.cell (p := ⟨w.heap.size, 1, none⟩) l0).trans h1, (hB.cell (p := ⟨w.heap.size, 2, none⟩) l0).trans h2, (hB.cell (p := ⟨w.heap.size, 3, none⟩) l0).trans h3,
    (hB.cell (p := ⟨b, 0, none⟩) lb).trans g0, (hB.cell (p := ⟨b, 1, none⟩) lb).trans g1, (hB.cell (p := ⟨b, 2, none⟩) lb).trans g2, (hB.cell (p := ⟨b, 3, none⟩) lb).trans g3, (hB.cell (p := ⟨b, 4, none⟩) lb).trans g4, (hB.cell (p := ⟨b, 5, none⟩) lb).trans g5, (hB.cell (p := ⟨b, 6, none⟩) lb).trans g6, (hB.cell (p := ⟨b, 7, none⟩) lb).trans g7,
    hw.trans (hB.mono hw.size), Nat.le_trans hz hB.size⟩
set_option maxRecDepth 100000 in
set_option maxHeartbeats 1000000 in
theorem ev_two4 (m x : Int) (A : Option Addr) (kc n c : Nat) (w : World) (_hkc : 2 ≤ kc) (b : Nat) (hb : b < w.heap.size) (k1 m1 x1 k2 m2 x2 : Int) (A1 A2 : Option Addr) (n1 c1 n2 c2 : Nat) (r10 : w.cell? ⟨b, 0, none⟩ = some (.int .i64 k1)) (r11 : w.cell? ⟨b, 1, none⟩ = some (.int .i64 m1)) (r12 : w.cell? ⟨b, 2, none⟩ = some (.int .i64 x1)) (r13 : w.cell? ⟨b, 3, none⟩ = some (.slice A1 n1 c1)) (r20 : w.cell? ⟨b, 4, none⟩ = some (.int .i64 k2)) (r21 : w.cell? ⟨b, 5, none⟩ = some (.int .i64 m2)) (r22 : w.cell? ⟨b, 6, none⟩ = some (.int .i64 x2)) (r23 : w.cell? ⟨b, 7, none⟩ = some (.slice A2 n2 c2)) (T1 T2 : Int) (hrk : ∀ W, Below w.heap.size w W → Calls Try.prog 44 #[.int .i64 4, .agg #[.int .i64 k1, .int .i64 m1, .int .i64 x1, .slice A1 n1 c1], .agg #[.int .i64 k2, .int .i64 m2, .int .i64 x2, .slice A2 n2 c2], .slice A n c] W fun e w' => e = .returned (.tuple #[.int .i64 T1, .int .i64 T2]) ∧ Below W.heap.size W w') :
    Calls Try.prog 15 #[.agg #[.int .i64 4, .int .i64 m, .int .i64 x, .slice (some ⟨b, 0, none⟩) 2 kc], .slice A n c] w fun e w' => e = .returned (.tuple #[.int .i64 (((T1, T2) : Int × Int)).1, .int .i64 (((T1, T2) : Int × Int)).2]) ∧ Below w.heap.size w w' := by
  replace hrk := Lib.hid hrk
  go_enter Try.func15, Try.ntmps15
  go_wp2_with fail
  have hbx : Below w.heap.size w (w.alloc (.cells #[.int .i64 4, .int .i64 m, .int .i64 x, .slice (some ⟨b, 0, none⟩) 2 kc] 25)) := (Below.refl _ _).alloc (Nat.le_refl _) _
  refine wp_worldS (fun W => W.cell? ⟨w.heap.size, 0, none⟩ = some (.int .i64 4) ∧ W.cell? ⟨w.heap.size, 1, none⟩ = some (.int .i64 m) ∧ W.cell? ⟨w.heap.size, 2, none⟩ = some (.int .i64 x) ∧ W.cell? ⟨w.heap.size, 3, none⟩ = some (.slice (some ⟨b, 0, none⟩) 2 kc) ∧ W.cell? ⟨b, 0, none⟩ = some (.int .i64 k1) ∧ W.cell? ⟨b, 1, none⟩ = some (.int .i64 m1) ∧ W.cell? ⟨b, 2, none⟩ = some (.int .i64 x1) ∧ W.cell? ⟨b, 3, none⟩ = some (.slice A1 n1 c1) ∧ W.cell? ⟨b, 4, none⟩ = some (.int .i64 k2) ∧ W.cell? ⟨b, 5, none⟩ = some (.int .i64 m2) ∧ W.cell? ⟨b, 6, none⟩ = some (.int .i64 x2) ∧ W.cell? ⟨b, 7, none⟩ = some (.slice A2 n2 c2) ∧ Below w.heap.size w W ∧ w.heap.size + 1 ≤ W.heap.size) ⟨row_ofS (blkAS _ _ rfl) 0, row_ofS (blkAS _ _ rfl) 1, row_ofS (blkAS _ _ rfl) 2, row_ofS (blkAS _ _ rfl) 3, (hbx.cell (p := ⟨b, 0, none⟩) hb).trans r10, (hbx.cell (p := ⟨b, 1, none⟩) hb).trans r11, (hbx.cell (p := ⟨b, 2, none⟩) hb).trans r12, (hbx.cell (p := ⟨b, 3, none⟩) hb).trans r13, (hbx.cell (p := ⟨b, 4, none⟩) hb).trans r20, (hbx.cell (p := ⟨b, 5, none⟩) hb).trans r21, (hbx.cell (p := ⟨b, 6, none⟩) hb).trans r22, (hbx.cell (p := ⟨b, 7, none⟩) hb).trans r23, hbx, by simp⟩ ?_
  intro w1 hS
  clear r10 r11 r12 r13 r20 r21 r22 r23
  have hS' := hS
  obtain ⟨q0, q1, q2, q3, g0, g1, g2, g3, g4, g5, g6, g7, hw1, hz1⟩ := hS
  go_region_held3 (fun W => W.cell? ⟨w.heap.size, 0, none⟩ = some (.int .i64 4) ∧ W.cell? ⟨w.heap.size, 1, none⟩ = some (.int .i64 m) ∧ W.cell? ⟨w.heap.size, 2, none⟩ = some (.int .i64 x) ∧ W.cell? ⟨w.heap.size, 3, none⟩ = some (.slice (some ⟨b, 0, none⟩) 2 kc) ∧ W.cell? ⟨b, 0, none⟩ = some (.int .i64 k1) ∧ W.cell? ⟨b, 1, none⟩ = some (.int .i64 m1) ∧ W.cell? ⟨b, 2, none⟩ = some (.int .i64 x1) ∧ W.cell? ⟨b, 3, none⟩ = some (.slice A1 n1 c1) ∧ W.cell? ⟨b, 4, none⟩ = some (.int .i64 k2) ∧ W.cell? ⟨b, 5, none⟩ = some (.int .i64 m2) ∧ W.cell? ⟨b, 6, none⟩ = some (.int .i64 x2) ∧ W.cell? ⟨b, 7, none⟩ = some (.slice A2 n2 c2) ∧ Below w.heap.size w W ∧ w.heap.size + 1 ≤ W.heap.size) (first | exact keepS hb hS' (Below.refl _ _).drew | exact keepS hb ‹_› hbS) (first | (go_at_call 44; refine (hrk.out _ (by simp [*])).mono ?_; rintro e w3 ⟨rfl, hbS⟩))
  all_goals
    go_wp2_with fail
    exact bodyPost_ret (v := .tuple #[.int .i64 T1, .int .i64 T2]) (by simp [results, Try.results15, go_sem]) rfl ⟨rfl, hw1.drew.trans (hbS.mono hw1.drew.size)⟩
set_option maxRecDepth 100000 in
set_option maxHeartbeats 1000000 in
theorem ev_two5 (m x : Int) (A : Option Addr) (kc n c : Nat) (w : World) (_hkc : 2 ≤ kc) (b : Nat) (hb : b < w.heap.size) (k1 m1 x1 k2 m2 x2 : Int) (A1 A2 : Option Addr) (n1 c1 n2 c2 : Nat) (r10 : w.cell? ⟨b, 0, none⟩ = some (.int .i64 k1)) (r11 : w.cell? ⟨b, 1, none⟩ = some (.int .i64 m1)) (r12 : w.cell? ⟨b, 2, none⟩ = some (.int .i64 x1)) (r13 : w.cell? ⟨b, 3, none⟩ = some (.slice A1 n1 c1)) (r20 : w.cell? ⟨b, 4, none⟩ = some (.int .i64 k2)) (r21 : w.cell? ⟨b, 5, none⟩ = some (.int .i64 m2)) (r22 : w.cell? ⟨b, 6, none⟩ = some (.int .i64 x2)) (r23 : w.cell? ⟨b, 7, none⟩ = some (.slice A2 n2 c2)) (T1 T2 : Int) (hrk : ∀ W, Below w.heap.size w W → Calls Try.prog 44 #[.int .i64 5, .agg #[.int .i64 k1, .int .i64 m1, .int .i64 x1, .slice A1 n1 c1], .agg #[.int .i64 k2, .int .i64 m2, .int .i64 x2, .slice A2 n2 c2], .slice A n c] W fun e w' => e = .returned (.tuple #[.int .i64 T1, .int .i64 T2]) ∧ Below W.heap.size W w') :
    Calls Try.prog 15 #[.agg #[.int .i64 5, .int .i64 m, .int .i64 x, .slice (some ⟨b, 0, none⟩) 2 kc], .slice A n c] w fun e w' => e = .returned (.tuple #[.int .i64 (((T1, T2) : Int × Int)).1, .int .i64 (((T1, T2) : Int × Int)).2]) ∧ Below w.heap.size w w' := by
  replace hrk := Lib.hid hrk
  go_enter Try.func15, Try.ntmps15
  go_wp2_with fail
  have hbx : Below w.heap.size w (w.alloc (.cells #[.int .i64 5, .int .i64 m, .int .i64 x, .slice (some ⟨b, 0, none⟩) 2 kc] 25)) := (Below.refl _ _).alloc (Nat.le_refl _) _
  refine wp_worldS (fun W => W.cell? ⟨w.heap.size, 0, none⟩ = some (.int .i64 5) ∧ W.cell? ⟨w.heap.size, 1, none⟩ = some (.int .i64 m) ∧ W.cell? ⟨w.heap.size, 2, none⟩ = some (.int .i64 x) ∧ W.cell? ⟨w.heap.size, 3, none⟩ = some (.slice (some ⟨b, 0, none⟩) 2 kc) ∧ W.cell? ⟨b, 0, none⟩ = some (.int .i64 k1) ∧ W.cell? ⟨b, 1, none⟩ = some (.int .i64 m1) ∧ W.cell? ⟨b, 2, none⟩ = some (.int .i64 x1) ∧ W.cell? ⟨b, 3, none⟩ = some (.slice A1 n1 c1) ∧ W.cell? ⟨b, 4, none⟩ = some (.int .i64 k2) ∧ W.cell? ⟨b, 5, none⟩ = some (.int .i64 m2) ∧ W.cell? ⟨b, 6, none⟩ = some (.int .i64 x2) ∧ W.cell? ⟨b, 7, none⟩ = some (.slice A2 n2 c2) ∧ Below w.heap.size w W ∧ w.heap.size + 1 ≤ W.heap.size) ⟨row_ofS (blkAS _ _ rfl) 0, row_ofS (blkAS _ _ rfl) 1, row_ofS (blkAS _ _ rfl) 2, row_ofS (blkAS _ _ rfl) 3, (hbx.cell (p := ⟨b, 0, none⟩) hb).trans r10, (hbx.cell (p := ⟨b, 1, none⟩) hb).trans r11, (hbx.cell (p := ⟨b, 2, none⟩) hb).trans r12, (hbx.cell (p := ⟨b, 3, none⟩) hb).trans r13, (hbx.cell (p := ⟨b, 4, none⟩) hb).trans r20, (hbx.cell (p := ⟨b, 5, none⟩) hb).trans r21, (hbx.cell (p := ⟨b, 6, none⟩) hb).trans r22, (hbx.cell (p := ⟨b, 7, none⟩) hb).trans r23, hbx, by simp⟩ ?_
  intro w1 hS
  clear r10 r11 r12 r13 r20 r21 r22 r23
  have hS' := hS
  obtain ⟨q0, q1, q2, q3, g0, g1, g2, g3, g4, g5, g6, g7, hw1, hz1⟩ := hS
  go_region_held3 (fun W => W.cell? ⟨w.heap.size, 0, none⟩ = some (.int .i64 5) ∧ W.cell? ⟨w.heap.size, 1, none⟩ = some (.int .i64 m) ∧ W.cell? ⟨w.heap.size, 2, none⟩ = some (.int .i64 x) ∧ W.cell? ⟨w.heap.size, 3, none⟩ = some (.slice (some ⟨b, 0, none⟩) 2 kc) ∧ W.cell? ⟨b, 0, none⟩ = some (.int .i64 k1) ∧ W.cell? ⟨b, 1, none⟩ = some (.int .i64 m1) ∧ W.cell? ⟨b, 2, none⟩ = some (.int .i64 x1) ∧ W.cell? ⟨b, 3, none⟩ = some (.slice A1 n1 c1) ∧ W.cell? ⟨b, 4, none⟩ = some (.int .i64 k2) ∧ W.cell? ⟨b, 5, none⟩ = some (.int .i64 m2) ∧ W.cell? ⟨b, 6, none⟩ = some (.int .i64 x2) ∧ W.cell? ⟨b, 7, none⟩ = some (.slice A2 n2 c2) ∧ Below w.heap.size w W ∧ w.heap.size + 1 ≤ W.heap.size) (first | exact keepS hb hS' (Below.refl _ _).drew | exact keepS hb ‹_› hbS) (first | (go_at_call 44; refine (hrk.out _ (by simp [*])).mono ?_; rintro e w3 ⟨rfl, hbS⟩))
  all_goals
    go_wp2_with fail
    exact bodyPost_ret (v := .tuple #[.int .i64 T1, .int .i64 T2]) (by simp [results, Try.results15, go_sem]) rfl ⟨rfl, hw1.drew.trans (hbS.mono hw1.drew.size)⟩
set_option maxRecDepth 100000 in
set_option maxHeartbeats 1000000 in
theorem ev_two6 (m x : Int) (A : Option Addr) (kc n c : Nat) (w : World) (_hkc : 2 ≤ kc) (b : Nat) (hb : b < w.heap.size) (k1 m1 x1 k2 m2 x2 : Int) (A1 A2 : Option Addr) (n1 c1 n2 c2 : Nat) (r10 : w.cell? ⟨b, 0, none⟩ = some (.int .i64 k1)) (r11 : w.cell? ⟨b, 1, none⟩ = some (.int .i64 m1)) (r12 : w.cell? ⟨b, 2, none⟩ = some (.int .i64 x1)) (r13 : w.cell? ⟨b, 3, none⟩ = some (.slice A1 n1 c1)) (r20 : w.cell? ⟨b, 4, none⟩ = some (.int .i64 k2)) (r21 : w.cell? ⟨b, 5, none⟩ = some (.int .i64 m2)) (r22 : w.cell? ⟨b, 6, none⟩ = some (.int .i64 x2)) (r23 : w.cell? ⟨b, 7, none⟩ = some (.slice A2 n2 c2)) (T1 T2 : Int) (hrk : ∀ W, Below w.heap.size w W → Calls Try.prog 44 #[.int .i64 6, .agg #[.int .i64 k1, .int .i64 m1, .int .i64 x1, .slice A1 n1 c1], .agg #[.int .i64 k2, .int .i64 m2, .int .i64 x2, .slice A2 n2 c2], .slice A n c] W fun e w' => e = .returned (.tuple #[.int .i64 T1, .int .i64 T2]) ∧ Below W.heap.size W w') :
    Calls Try.prog 15 #[.agg #[.int .i64 6, .int .i64 m, .int .i64 x, .slice (some ⟨b, 0, none⟩) 2 kc], .slice A n c] w fun e w' => e = .returned (.tuple #[.int .i64 (((T1, T2) : Int × Int)).1, .int .i64 (((T1, T2) : Int × Int)).2]) ∧ Below w.heap.size w w' := by
  replace hrk := Lib.hid hrk
  go_enter Try.func15, Try.ntmps15
  go_wp2_with fail
  have hbx : Below w.heap.size w (w.alloc (.cells #[.int .i64 6, .int .i64 m, .int .i64 x, .slice (some ⟨b, 0, none⟩) 2 kc] 25)) := (Below.refl _ _).alloc (Nat.le_refl _) _
  refine wp_worldS (fun W => W.cell? ⟨w.heap.size, 0, none⟩ = some (.int .i64 6) ∧ W.cell? ⟨w.heap.size, 1, none⟩ = some (.int .i64 m) ∧ W.cell? ⟨w.heap.size, 2, none⟩ = some (.int .i64 x) ∧ W.cell? ⟨w.heap.size, 3, none⟩ = some (.slice (some ⟨b, 0, none⟩) 2 kc) ∧ W.cell? ⟨b, 0, none⟩ = some (.int .i64 k1) ∧ W.cell? ⟨b, 1, none⟩ = some (.int .i64 m1) ∧ W.cell? ⟨b, 2, none⟩ = some (.int .i64 x1) ∧ W.cell? ⟨b, 3, none⟩ = some (.slice A1 n1 c1) ∧ W.cell? ⟨b, 4, none⟩ = some (.int .i64 k2) ∧ W.cell? ⟨b, 5, none⟩ = some (.int .i64 m2) ∧ W.cell? ⟨b, 6, none⟩ = some (.int .i64 x2) ∧ W.cell? ⟨b, 7, none⟩ = some (.slice A2 n2 c2) ∧ Below w.heap.size w W ∧ w.heap.size + 1 ≤ W.heap.size) ⟨row_ofS (blkAS _ _ rfl) 0, row_ofS (blkAS _ _ rfl) 1, row_ofS (blkAS _ _ rfl) 2, row_ofS (blkAS _ _ rfl) 3, (hbx.cell (p := ⟨b, 0, none⟩) hb).trans r10, (hbx.cell (p := ⟨b, 1, none⟩) hb).trans r11, (hbx.cell (p := ⟨b, 2, none⟩) hb).trans r12, (hbx.cell (p := ⟨b, 3, none⟩) hb).trans r13, (hbx.cell (p := ⟨b, 4, none⟩) hb).trans r20, (hbx.cell (p := ⟨b, 5, none⟩) hb).trans r21, (hbx.cell (p := ⟨b, 6, none⟩) hb).trans r22, (hbx.cell (p := ⟨b, 7, none⟩) hb).trans r23, hbx, by simp⟩ ?_
  intro w1 hS
  clear r10 r11 r12 r13 r20 r21 r22 r23
  have hS' := hS
  obtain ⟨q0, q1, q2, q3, g0, g1, g2, g3, g4, g5, g6, g7, hw1, hz1⟩ := hS
  go_region_held3 (fun W => W.cell? ⟨w.heap.size, 0, none⟩ = some (.int .i64 6) ∧ W.cell? ⟨w.heap.size, 1, none⟩ = some (.int .i64 m) ∧ W.cell? ⟨w.heap.size, 2, none⟩ = some (.int .i64 x) ∧ W.cell? ⟨w.heap.size, 3, none⟩ = some (.slice (some ⟨b, 0, none⟩) 2 kc) ∧ W.cell? ⟨b, 0, none⟩ = some (.int .i64 k1) ∧ W.cell? ⟨b, 1, none⟩ = some (.int .i64 m1) ∧ W.cell? ⟨b, 2, none⟩ = some (.int .i64 x1) ∧ W.cell? ⟨b, 3, none⟩ = some (.slice A1 n1 c1) ∧ W.cell? ⟨b, 4, none⟩ = some (.int .i64 k2) ∧ W.cell? ⟨b, 5, none⟩ = some (.int .i64 m2) ∧ W.cell? ⟨b, 6, none⟩ = some (.int .i64 x2) ∧ W.cell? ⟨b, 7, none⟩ = some (.slice A2 n2 c2) ∧ Below w.heap.size w W ∧ w.heap.size + 1 ≤ W.heap.size) (first | exact keepS hb hS' (Below.refl _ _).drew | exact keepS hb ‹_› hbS) (first | (go_at_call 44; refine (hrk.out _ (by simp [*])).mono ?_; rintro e w3 ⟨rfl, hbS⟩))
  all_goals
    go_wp2_with fail
    exact bodyPost_ret (v := .tuple #[.int .i64 T1, .int .i64 T2]) (by simp [results, Try.results15, go_sem]) rfl ⟨rfl, hw1.drew.trans (hbS.mono hw1.drew.size)⟩
set_option maxRecDepth 100000 in
set_option maxHeartbeats 1000000 in
theorem ev_two7 (m x : Int) (A : Option Addr) (kc n c : Nat) (w : World) (_hkc : 2 ≤ kc) (b : Nat) (hb : b < w.heap.size) (k1 m1 x1 k2 m2 x2 : Int) (A1 A2 : Option Addr) (n1 c1 n2 c2 : Nat) (r10 : w.cell? ⟨b, 0, none⟩ = some (.int .i64 k1)) (r11 : w.cell? ⟨b, 1, none⟩ = some (.int .i64 m1)) (r12 : w.cell? ⟨b, 2, none⟩ = some (.int .i64 x1)) (r13 : w.cell? ⟨b, 3, none⟩ = some (.slice A1 n1 c1)) (r20 : w.cell? ⟨b, 4, none⟩ = some (.int .i64 k2)) (r21 : w.cell? ⟨b, 5, none⟩ = some (.int .i64 m2)) (r22 : w.cell? ⟨b, 6, none⟩ = some (.int .i64 x2)) (r23 : w.cell? ⟨b, 7, none⟩ = some (.slice A2 n2 c2)) (T1 T2 : Int) (hrk : ∀ W, Below w.heap.size w W → Calls Try.prog 44 #[.int .i64 7, .agg #[.int .i64 k1, .int .i64 m1, .int .i64 x1, .slice A1 n1 c1], .agg #[.int .i64 k2, .int .i64 m2, .int .i64 x2, .slice A2 n2 c2], .slice A n c] W fun e w' => e = .returned (.tuple #[.int .i64 T1, .int .i64 T2]) ∧ Below W.heap.size W w') :
    Calls Try.prog 15 #[.agg #[.int .i64 7, .int .i64 m, .int .i64 x, .slice (some ⟨b, 0, none⟩) 2 kc], .slice A n c] w fun e w' => e = .returned (.tuple #[.int .i64 (((T1, T2) : Int × Int)).1, .int .i64 (((T1, T2) : Int × Int)).2]) ∧ Below w.heap.size w w' := by
  replace hrk := Lib.hid hrk
  go_enter Try.func15, Try.ntmps15
  go_wp2_with fail
  have hbx : Below w.heap.size w (w.alloc (.cells #[.int .i64 7, .int .i64 m, .int .i64 x, .slice (some ⟨b, 0, none⟩) 2 kc] 25)) := (Below.refl _ _).alloc (Nat.le_refl _) _
  refine wp_worldS (fun W => W.cell? ⟨w.heap.size, 0, none⟩ = some (.int .i64 7) ∧ W.cell? ⟨w.heap.size, 1, none⟩ = some (.int .i64 m) ∧ W.cell? ⟨w.heap.size, 2, none⟩ = some (.int .i64 x) ∧ W.cell? ⟨w.heap.size, 3, none⟩ = some (.slice (some ⟨b, 0, none⟩) 2 kc) ∧ W.cell? ⟨b, 0, none⟩ = some (.int .i64 k1) ∧ W.cell? ⟨b, 1, none⟩ = some (.int .i64 m1) ∧ W.cell? ⟨b, 2, none⟩ = some (.int .i64 x1) ∧ W.cell? ⟨b, 3, none⟩ = some (.slice A1 n1 c1) ∧ W.cell? ⟨b, 4, none⟩ = some (.int .i64 k2) ∧ W.cell? ⟨b, 5, none⟩ = some (.int .i64 m2) ∧ W.cell? ⟨b, 6, none⟩ = some (.int .i64 x2) ∧ W.cell? ⟨b, 7, none⟩ = some (.slice A2 n2 c2) ∧ Below w.heap.size w W ∧ w.heap.size + 1 ≤ W.heap.size) ⟨row_ofS (blkAS _ _ rfl) 0, row_ofS (blkAS _ _ rfl) 1, row_ofS (blkAS _ _ rfl) 2, row_ofS (blkAS _ _ rfl) 3, (hbx.cell (p := ⟨b, 0, none⟩) hb).trans r10, (hbx.cell (p := ⟨b, 1, none⟩) hb).trans r11, (hbx.cell (p := ⟨b, 2, none⟩) hb).trans r12, (hbx.cell (p := ⟨b, 3, none⟩) hb).trans r13, (hbx.cell (p := ⟨b, 4, none⟩) hb).trans r20, (hbx.cell (p := ⟨b, 5, none⟩) hb).trans r21, (hbx.cell (p := ⟨b, 6, none⟩) hb).trans r22, (hbx.cell (p := ⟨b, 7, none⟩) hb).trans r23, hbx, by simp⟩ ?_
  intro w1 hS
  clear r10 r11 r12 r13 r20 r21 r22 r23
  have hS' := hS
  obtain ⟨q0, q1, q2, q3, g0, g1, g2, g3, g4, g5, g6, g7, hw1, hz1⟩ := hS
  go_region_held3 (fun W => W.cell? ⟨w.heap.size, 0, none⟩ = some (.int .i64 7) ∧ W.cell? ⟨w.heap.size, 1, none⟩ = some (.int .i64 m) ∧ W.cell? ⟨w.heap.size, 2, none⟩ = some (.int .i64 x) ∧ W.cell? ⟨w.heap.size, 3, none⟩ = some (.slice (some ⟨b, 0, none⟩) 2 kc) ∧ W.cell? ⟨b, 0, none⟩ = some (.int .i64 k1) ∧ W.cell? ⟨b, 1, none⟩ = some (.int .i64 m1) ∧ W.cell? ⟨b, 2, none⟩ = some (.int .i64 x1) ∧ W.cell? ⟨b, 3, none⟩ = some (.slice A1 n1 c1) ∧ W.cell? ⟨b, 4, none⟩ = some (.int .i64 k2) ∧ W.cell? ⟨b, 5, none⟩ = some (.int .i64 m2) ∧ W.cell? ⟨b, 6, none⟩ = some (.int .i64 x2) ∧ W.cell? ⟨b, 7, none⟩ = some (.slice A2 n2 c2) ∧ Below w.heap.size w W ∧ w.heap.size + 1 ≤ W.heap.size) (first | exact keepS hb hS' (Below.refl _ _).drew | exact keepS hb ‹_› hbS) (first | (go_at_call 44; refine (hrk.out _ (by simp [*])).mono ?_; rintro e w3 ⟨rfl, hbS⟩))
  all_goals
    go_wp2_with fail
    exact bodyPost_ret (v := .tuple #[.int .i64 T1, .int .i64 T2]) (by simp [results, Try.results15, go_sem]) rfl ⟨rfl, hw1.drew.trans (hbS.mono hw1.drew.size)⟩
set_option maxRecDepth 100000 in
set_option maxHeartbeats 1000000 in
theorem ev_two8 (m x : Int) (A : Option Addr) (kc n c : Nat) (w : World) (_hkc : 2 ≤ kc) (b : Nat) (hb : b < w.heap.size) (k1 m1 x1 k2 m2 x2 : Int) (A1 A2 : Option Addr) (n1 c1 n2 c2 : Nat) (r10 : w.cell? ⟨b, 0, none⟩ = some (.int .i64 k1)) (r11 : w.cell? ⟨b, 1, none⟩ = some (.int .i64 m1)) (r12 : w.cell? ⟨b, 2, none⟩ = some (.int .i64 x1)) (r13 : w.cell? ⟨b, 3, none⟩ = some (.slice A1 n1 c1)) (r20 : w.cell? ⟨b, 4, none⟩ = some (.int .i64 k2)) (r21 : w.cell? ⟨b, 5, none⟩ = some (.int .i64 m2)) (r22 : w.cell? ⟨b, 6, none⟩ = some (.int .i64 x2)) (r23 : w.cell? ⟨b, 7, none⟩ = some (.slice A2 n2 c2)) (T1 T2 : Int) (hrk : ∀ W, Below w.heap.size w W → Calls Try.prog 44 #[.int .i64 8, .agg #[.int .i64 k1, .int .i64 m1, .int .i64 x1, .slice A1 n1 c1], .agg #[.int .i64 k2, .int .i64 m2, .int .i64 x2, .slice A2 n2 c2], .slice A n c] W fun e w' => e = .returned (.tuple #[.int .i64 T1, .int .i64 T2]) ∧ Below W.heap.size W w') :
    Calls Try.prog 15 #[.agg #[.int .i64 8, .int .i64 m, .int .i64 x, .slice (some ⟨b, 0, none⟩) 2 kc], .slice A n c] w fun e w' => e = .returned (.tuple #[.int .i64 (((T1, T2) : Int × Int)).1, .int .i64 (((T1, T2) : Int × Int)).2]) ∧ Below w.heap.size w w' := by
  replace hrk := Lib.hid hrk
  go_enter Try.func15, Try.ntmps15
  go_wp2_with fail
  have hbx : Below w.heap.size w (w.alloc (.cells #[.int .i64 8, .int .i64 m, .int .i64 x, .slice (some ⟨b, 0, none⟩) 2 kc] 25)) := (Below.refl _ _).alloc (Nat.le_refl _) _
  refine wp_worldS (fun W => W.cell? ⟨w.heap.size, 0, none⟩ = some (.int .i64 8) ∧ W.cell? ⟨w.heap.size, 1, none⟩ = some (.int .i64 m) ∧ W.cell? ⟨w.heap.size, 2, none⟩ = some (.int .i64 x) ∧ W.cell? ⟨w.heap.size, 3, none⟩ = some (.slice (some ⟨b, 0, none⟩) 2 kc) ∧ W.cell? ⟨b, 0, none⟩ = some (.int .i64 k1) ∧ W.cell? ⟨b, 1, none⟩ = some (.int .i64 m1) ∧ W.cell? ⟨b, 2, none⟩ = some (.int .i64 x1) ∧ W.cell? ⟨b, 3, none⟩ = some (.slice A1 n1 c1) ∧ W.cell? ⟨b, 4, none⟩ = some (.int .i64 k2) ∧ W.cell? ⟨b, 5, none⟩ = some (.int .i64 m2) ∧ W.cell? ⟨b, 6, none⟩ = some (.int .i64 x2) ∧ W.cell? ⟨b, 7, none⟩ = some (.slice A2 n2 c2) ∧ Below w.heap.size w W ∧ w.heap.size + 1 ≤ W.heap.size) ⟨row_ofS (blkAS _ _ rfl) 0, row_ofS (blkAS _ _ rfl) 1, row_ofS (blkAS _ _ rfl) 2, row_ofS (blkAS _ _ rfl) 3, (hbx.cell (p := ⟨b, 0, none⟩) hb).trans r10, (hbx.cell (p := ⟨b, 1, none⟩) hb).trans r11, (hbx.cell (p := ⟨b, 2, none⟩) hb).trans r12, (hbx.cell (p := ⟨b, 3, none⟩) hb).trans r13, (hbx.cell (p := ⟨b, 4, none⟩) hb).trans r20, (hbx.cell (p := ⟨b, 5, none⟩) hb).trans r21, (hbx.cell (p := ⟨b, 6, none⟩) hb).trans r22, (hbx.cell (p := ⟨b, 7, none⟩) hb).trans r23, hbx, by simp⟩ ?_
  intro w1 hS
  clear r10 r11 r12 r13 r20 r21 r22 r23
  have hS' := hS
  obtain ⟨q0, q1, q2, q3, g0, g1, g2, g3, g4, g5, g6, g7, hw1, hz1⟩ := hS
  go_region_held3 (fun W => W.cell? ⟨w.heap.size, 0, none⟩ = some (.int .i64 8) ∧ W.cell? ⟨w.heap.size, 1, none⟩ = some (.int .i64 m) ∧ W.cell? ⟨w.heap.size, 2, none⟩ = some (.int .i64 x) ∧ W.cell? ⟨w.heap.size, 3, none⟩ = some (.slice (some ⟨b, 0, none⟩) 2 kc) ∧ W.cell? ⟨b, 0, none⟩ = some (.int .i64 k1) ∧ W.cell? ⟨b, 1, none⟩ = some (.int .i64 m1) ∧ W.cell? ⟨b, 2, none⟩ = some (.int .i64 x1) ∧ W.cell? ⟨b, 3, none⟩ = some (.slice A1 n1 c1) ∧ W.cell? ⟨b, 4, none⟩ = some (.int .i64 k2) ∧ W.cell? ⟨b, 5, none⟩ = some (.int .i64 m2) ∧ W.cell? ⟨b, 6, none⟩ = some (.int .i64 x2) ∧ W.cell? ⟨b, 7, none⟩ = some (.slice A2 n2 c2) ∧ Below w.heap.size w W ∧ w.heap.size + 1 ≤ W.heap.size) (first | exact keepS hb hS' (Below.refl _ _).drew | exact keepS hb ‹_› hbS) (first | (go_at_call 44; refine (hrk.out _ (by simp [*])).mono ?_; rintro e w3 ⟨rfl, hbS⟩))
  all_goals
    go_wp2_with fail
    exact bodyPost_ret (v := .tuple #[.int .i64 T1, .int .i64 T2]) (by simp [results, Try.results15, go_sem]) rfl ⟨rfl, hw1.drew.trans (hbS.mono hw1.drew.size)⟩
set_option maxRecDepth 100000 in
set_option maxHeartbeats 1000000 in
theorem ev_two (k m x : Int) (_K A : Option Addr) (_kn kc n c : Nat) (w : World) (hk : 4 ≤ k ∧ k ≤ 8) (hkc : 2 ≤ kc) (b : Nat) (hb : b < w.heap.size) (k1 m1 x1 k2 m2 x2 : Int) (A1 A2 : Option Addr) (n1 c1 n2 c2 : Nat) (r10 : w.cell? ⟨b, 0, none⟩ = some (.int .i64 k1)) (r11 : w.cell? ⟨b, 1, none⟩ = some (.int .i64 m1)) (r12 : w.cell? ⟨b, 2, none⟩ = some (.int .i64 x1)) (r13 : w.cell? ⟨b, 3, none⟩ = some (.slice A1 n1 c1)) (r20 : w.cell? ⟨b, 4, none⟩ = some (.int .i64 k2)) (r21 : w.cell? ⟨b, 5, none⟩ = some (.int .i64 m2)) (r22 : w.cell? ⟨b, 6, none⟩ = some (.int .i64 x2)) (r23 : w.cell? ⟨b, 7, none⟩ = some (.slice A2 n2 c2)) (L R : Int × Int) (hl : EvOk w (.agg #[.int .i64 k1, .int .i64 m1, .int .i64 x1, .slice A1 n1 c1]) (.slice A n c) L) (hr : EvOk w (.agg #[.int .i64 k2, .int .i64 m2, .int .i64 x2, .slice A2 n2 c2]) (.slice A n c) R) (hL : InR L) (hR : InR R) :
    Calls Try.prog 15 #[.agg #[.int .i64 k, .int .i64 m, .int .i64 x, .slice (some ⟨b, 0, none⟩) 2 kc], .slice A n c] w fun e w' => e = .returned (.tuple #[.int .i64 (two L R (opI k)).1, .int .i64 (two L R (opI k)).2]) ∧ Below w.heap.size w w' := by
  have hrk : ∀ W, Below w.heap.size w W → Calls Try.prog 44 #[.int .i64 k, .agg #[.int .i64 k1, .int .i64 m1, .int .i64 x1, .slice A1 n1 c1], .agg #[.int .i64 k2, .int .i64 m2, .int .i64 x2, .slice A2 n2 c2], .slice A n c] W fun e w' => e = .returned (.tuple #[.int .i64 (two L R (opI k)).1, .int .i64 (two L R (opI k)).2]) ∧ Below W.heap.size W w' := by
    intro W hW
    have hl' : EvOk W (.agg #[.int .i64 k1, .int .i64 m1, .int .i64 x1, .slice A1 n1 c1]) (.slice A n c) L := fun W' h => hl W' (hW.trans (h.mono hW.size))
    have hr' : EvOk W (.agg #[.int .i64 k2, .int .i64 m2, .int .i64 x2, .slice A2 n2 c2]) (.slice A n c) R := fun W' h => hr W' (hW.trans (h.mono hW.size))
    obtain ⟨L1, L2⟩ := L
    obtain ⟨R1, R2⟩ := R
    by_cases h1 : L2 = 0
    · subst h1
      by_cases h2 : R2 = 0
      · subst h2
        have e : two (L1, 0) (R1, 0) (opI k) = opI k L1 R1 := by simp [two]
        rw [e]
        exact reckoned_ok k k1 m1 x1 k2 m2 x2 A1 A2 A n1 c1 n2 c2 n c _ _ W L1 R1 hL.1 hL.2.1 hR.1 hR.2.1 hk (by simp [twoN]) hl' hr'
      · have e : two (L1, 0) (R1, R2) (opI k) = (0, R2) := by simp [two, h2]
        rw [e]
        exact reckoned_err k k1 m1 x1 k2 m2 x2 A1 A2 A n1 c1 n2 c2 n c _ _ W R2 (by rw [beq_eq_false_iff_ne]; exact h2) (by simp [twoN, h2]) hl' hr'
    · have e : two (L1, L2) (R1, R2) (opI k) = (0, L2) := by simp [two, h1]
      rw [e]
      exact reckoned_err k k1 m1 x1 k2 m2 x2 A1 A2 A n1 c1 n2 c2 n c _ _ W L2 (by rw [beq_eq_false_iff_ne]; exact h1) (by simp [twoN, h1]) hl' hr'
  clear hl hr hL hR
  generalize two L R (opI k) = T at hrk
  obtain ⟨T1, T2⟩ := T
  have hk' : k = 4 ∨ k = 5 ∨ k = 6 ∨ k = 7 ∨ k = 8 := by omega
  clear hk
  rcases hk' with rfl | rfl | rfl | rfl | rfl
  · exact ev_two4 m x A kc n c w hkc b hb k1 m1 x1 k2 m2 x2 A1 A2 n1 c1 n2 c2 r10 r11 r12 r13 r20 r21 r22 r23 T1 T2 hrk
  · exact ev_two5 m x A kc n c w hkc b hb k1 m1 x1 k2 m2 x2 A1 A2 n1 c1 n2 c2 r10 r11 r12 r13 r20 r21 r22 r23 T1 T2 hrk
  · exact ev_two6 m x A kc n c w hkc b hb k1 m1 x1 k2 m2 x2 A1 A2 n1 c1 n2 c2 r10 r11 r12 r13 r20 r21 r22 r23 T1 T2 hrk
  · exact ev_two7 m x A kc n c w hkc b hb k1 m1 x1 k2 m2 x2 A1 A2 n1 c1 n2 c2 r10 r11 r12 r13 r20 r21 r22 r23 T1 T2 hrk
  · exact ev_two8 m x A kc n c w hkc b hb k1 m1 x1 k2 m2 x2 A1 A2 n1 c1 n2 c2 r10 r11 r12 r13 r20 r21 r22 r23 T1 T2 hrk
set_option maxRecDepth 100000 in
set_option maxHeartbeats 1000000 in
theorem ev_twono (k m x : Int) (K A : Option Addr) (kn kc n c : Nat) (w : World) (hk : 4 ≤ k ∧ k ≤ 8) (hkn : kn ≠ 2) :
    Calls Try.prog 15 #[.agg #[.int .i64 k, .int .i64 m, .int .i64 x, .slice K kn kc], .slice A n c] w fun e w' => e = .returned (.tuple #[.int .i64 (((0, 0) : Int × Int)).1, .int .i64 (((0, 0) : Int × Int)).2]) ∧ Below w.heap.size w w' := by
  have h1 : ((kn : Int) == 2) = false := by rw [beq_eq_false_iff_ne]; omega
  have h2 : (kn == 2) = false := by rw [beq_eq_false_iff_ne]; exact hkn
  have hk' : k = 4 ∨ k = 5 ∨ k = 6 ∨ k = 7 ∨ k = 8 := by omega
  clear hkn hk
  rcases hk' with rfl | rfl | rfl | rfl | rfl
  all_goals
    go_enter Try.func15, Try.ntmps15
    go_wp2_with fail
    exact bodyPost_ret (v := .tuple #[.int .i64 0, .int .i64 0]) (by simp [results, Try.results15, go_sem]) rfl ⟨rfl, (Below.refl _ _).alloc (Nat.le_refl _) _⟩
set_option maxRecDepth 100000 in
set_option maxHeartbeats 1000000 in
theorem ev_other (k m x : Int) (K A : Option Addr) (kn kc n c : Nat) (w : World) (hk : k < 1 ∨ 8 < k) :
    Calls Try.prog 15 #[.agg #[.int .i64 k, .int .i64 m, .int .i64 x, .slice K kn kc], .slice A n c] w fun e w' => e = .returned (.tuple #[.int .i64 (((0, 0) : Int × Int)).1, .int .i64 (((0, 0) : Int × Int)).2]) ∧ Below w.heap.size w w' := by
  have h1 : (k == 1) = false := by rw [beq_eq_false_iff_ne]; omega
  have h2 : (k == 2) = false := by rw [beq_eq_false_iff_ne]; omega
  have h3 : (k == 3) = false := by rw [beq_eq_false_iff_ne]; omega
  have h4 : (k == 4) = false := by rw [beq_eq_false_iff_ne]; omega
  have h5 : (k == 5) = false := by rw [beq_eq_false_iff_ne]; omega
  have h6 : (k == 6) = false := by rw [beq_eq_false_iff_ne]; omega
  have h7 : (k == 7) = false := by rw [beq_eq_false_iff_ne]; omega
  have h8 : (k == 8) = false := by rw [beq_eq_false_iff_ne]; omega
  clear hk
  go_enter Try.func15, Try.ntmps15
  go_wp2_with fail
  exact bodyPost_ret (v := .tuple #[.int .i64 0, .int .i64 0]) (by simp [results, Try.results15, go_sem]) rfl ⟨rfl, (Below.refl _ _).alloc (Nat.le_refl _) _⟩

theorem ex_parts {w : World} {B d : Nat} {e : Ex} {v0 v1 v2 v3 : Value} (h : ExIn w B d e (.agg #[v0, v1, v2, v3])) : ∃ k m x A n c, v0 = .int .i64 k ∧ v1 = .int .i64 m ∧ v2 = .int .i64 x ∧ v3 = .slice A n c := by
  obtain ⟨k, m, x, A, n, c, hv⟩ := h.form
  injection hv with hv
  simp only [Array.mk.injEq, List.cons.injEq, and_true] at hv
  exact ⟨k, m, x, A, n, c, hv.1, hv.2.1, hv.2.2.1, hv.2.2.2⟩
/-- step.Eval, of every expression in memory and of every row of variables. -/
theorem eval_any (vs : List Int) (A : Option Addr) (n c : Nat) (hn : vs.length = n) (hnc : n ≤ c) (hc : n ≤ 1000000) : ∀ (d : Nat) (e : Ex) (v : Value) (w : World), ExIn w w.heap.size d e v → VarsAt w w.heap.size A vs →
    Calls Try.prog 15 #[v, .slice A n c] w fun e' w' => e' = .returned (.tuple #[.int .i64 (evF vs d e).1, .int .i64 (evF vs d e).2]) ∧ Below w.heap.size w w' := by
  intro d
  induction d with
  | zero => intro e v w h; exact h.elim
  | succ d ih =>
    intro e v w h hv
    have hok : ∀ (e : Ex) (v : Value), ExIn w w.heap.size d e v → EvOk w v (.slice A n c) (evF vs d e) := fun e v he W hW =>
      ih e v W ((he.below hW).mono hW.size) ((hv.below hW).mono hW.size)
    match e, h with
    | .mk k m x kids, ⟨K, kn, kc, hval, hkn, hkc, hkid⟩ =>
      subst hval
      by_cases h1 : k = 1
      · have e : evF vs (d + 1) (.mk k m x kids) = cutI m := by unfold evF; rw [if_pos h1]
        rw [e]
        exact ev_num k m x K A kn kc n c w h1
      by_cases h2 : k = 2
      · by_cases hx : 0 ≤ x ∧ x < (n : Int)
        · obtain ⟨j, rfl⟩ : ∃ j : Nat, x = (j : Int) := ⟨x.toNat, by omega⟩
          have hj : j < n := by omega
          have hg : vs[j]? = some vs[j] := List.getElem?_eq_getElem (by omega)
          obtain ⟨b, hA, hb, hu⟩ := hv j _ hg
          have e : evF vs (d + 1) (.mk k m (j : Int) kids) = cutI vs[j] := by
            unfold evF
            rw [if_neg h1, if_pos h2, if_pos (by omega)]
            simp [List.getD, hg]
          rw [e]
          exact ev_var k m 0 K A kn kc n c w j h2 hj hnc hc b hb _ hA hu
        · have e : evF vs (d + 1) (.mk k m x kids) = (0, 0) := by unfold evF; rw [if_neg h1, if_pos h2, if_neg (by omega)]
          rw [e]
          exact ev_novar k m x K A kn kc n c w h2 (by omega)
      by_cases h3 : k = 3
      · by_cases hkn1 : kn = 1
        · match kids, hkn, hkid with
          | [a], _, hkid =>
            obtain ⟨b, v0, v1, v2, v3, hA, hb, a0, a1, a2, a3, hi⟩ := hkid 0 a rfl
            obtain ⟨k1, m1, x1, A1, n1, c1, rfl, rfl, rfl, rfl⟩ := ex_parts hi
            have e : evF vs (d + 1) (.mk k m x [a]) = negI (evF vs d a) := by
              conv => lhs; unfold evF
              rw [if_neg h1, if_neg h2, if_pos h3]
              rfl
            rw [e]
            simp only [Nat.zero_mul, Nat.zero_add] at a0 a1 a2 a3
            exact ev_neg k m x K A kn kc n c w h3 hkn1 (by omega) b hb hA k1 m1 x1 A1 n1 c1 a0 a1 a2 a3 _ (evF_in vs d a) (hok a _ hi)
          | [], hkn, _ => simp at hkn; omega
          | a :: b :: r, hkn, _ => simp at hkn; omega
        · have e : evF vs (d + 1) (.mk k m x kids) = (0, 0) := by
            unfold evF
            rw [if_neg h1, if_neg h2, if_pos h3]
            match kids, hkn with
            | [a], hkn => simp at hkn; omega
            | [], _ => rfl
            | a :: b :: r, _ => rfl
          rw [e]
          exact ev_negno k m x K A kn kc n c w h3 hkn1
      by_cases h4 : 4 ≤ k ∧ k ≤ 8
      · by_cases hkn2 : kn = 2
        · match kids, hkn, hkid with
          | [a, a'], _, hkid =>
            obtain ⟨b, v0, v1, v2, v3, hA, hb, a0, a1, a2, a3, hi⟩ := hkid 0 a rfl
            obtain ⟨b', u0, u1, u2, u3, hA', hb', p0, p1, p2, p3, hi'⟩ := hkid 1 a' rfl
            rw [hA] at hA'
            have hbb : b = b' := by injection hA' with e1; injection e1
            subst hbb
            subst hA hkn2
            obtain ⟨k1, m1, x1, A1, n1, c1, rfl, rfl, rfl, rfl⟩ := ex_parts hi
            obtain ⟨k2, m2, x2, A2, n2, c2, rfl, rfl, rfl, rfl⟩ := ex_parts hi'
            have e : evF vs (d + 1) (.mk k m x [a, a']) = two (evF vs d a) (evF vs d a') (opI k) := by
              conv => lhs; unfold evF
              rw [if_neg h1, if_neg h2, if_neg h3, if_pos h4]
            rw [e]
            simp only [Nat.zero_mul, Nat.zero_add, Nat.one_mul] at a0 a1 a2 a3 p0 p1 p2 p3
            exact ev_two k m x none A 0 kc n c w h4 (by omega) b hb k1 m1 x1 k2 m2 x2 A1 A2 n1 c1 n2 c2 a0 a1 a2 a3 p0 p1 p2 p3 _ _ (hok a _ hi) (hok a' _ hi') (evF_in vs d a) (evF_in vs d a')
          | [], hkn, _ => simp at hkn; omega
          | [a], hkn, _ => simp at hkn; omega
          | a :: b :: q :: r, hkn, _ => simp at hkn; omega
        · have e : evF vs (d + 1) (.mk k m x kids) = (0, 0) := by
            unfold evF
            rw [if_neg h1, if_neg h2, if_neg h3, if_pos h4]
            match kids, hkn with
            | [a, b], hkn => simp at hkn; omega
            | [], _ => rfl
            | [a], _ => rfl
            | a :: b :: q :: r, _ => rfl
          rw [e]
          exact ev_twono k m x K A kn kc n c w h4 hkn2
      · have e : evF vs (d + 1) (.mk k m x kids) = (0, 0) := by unfold evF; rw [if_neg h1, if_neg h2, if_neg h3, if_neg h4]
        rw [e]
        exact ev_other k m x K A kn kc n c w (by omega)
end Go.Proofs.Ytdagadcflignfaa
