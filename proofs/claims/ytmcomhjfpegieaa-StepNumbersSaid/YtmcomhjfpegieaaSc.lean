/-
  step's negated and reckoned.
-/
import Derived.Test.YtmcomhjfpegieaaSb
namespace Go.Proofs.Ytmcomhjfpegieaa
open Go.RowKit

def negI (r : Int × Int) : Int × Int := if r.2 ≠ 0 then (0, r.2) else cutI (- r.1)
set_option maxHeartbeats 1000000 in
theorem negated_any (k1 m1 x1 : Int) (A1 A : Option Addr) (n1 c1 n c : Nat) (r : Int × Int) (w : World) (hi : InR r) (hl : EvOk w (.agg #[.int .i64 k1, .int .i64 m1, .int .i64 x1, .slice A1 n1 c1]) (.slice A n c) r) :
    Calls Try.prog 26 #[.agg #[.int .i64 k1, .int .i64 m1, .int .i64 x1, .slice A1 n1 c1], .slice A n c] w fun e w' => e = .returned (.tuple #[.int .i64 (negI r).1, .int .i64 (negI r).2]) ∧ Below w.heap.size w w' := by
  replace hl := Lib.hid hl
  obtain ⟨r1, r2⟩ := r
  obtain ⟨i1, i2, _, _⟩ := hi
  simp only at i1 i2
  by_cases h1 : r2 = 0
  · subst h1
    have e : negI (r1, 0) = cutI (- r1) := by simp [negI]
    rw [e]
    clear e
    go_enter Try.func26, Try.ntmps26
    go_wp2_with fail
    refine (hl.out _ ((Below.refl _ _).alloc (Nat.le_refl _) _)).mono ?_
    rintro e w1 ⟨rfl, hb1⟩
    have hB1 : Below w.heap.size w w1 := ((Below.refl _ _).alloc (Nat.le_refl _) _).trans (hb1.mono (by simp))
    clear hb1
    go_wp2_with fail
    refine (cut_any _ _).mono ?_
    rintro e w2 ⟨rfl, rfl⟩
    go_wp2_with fail
    exact bodyPost_ret (v := .tuple #[.int .i64 (cutI (-r1)).1, .int .i64 (cutI (-r1)).2]) (by simp [results, Try.results26, go_sem]) rfl ⟨rfl, hB1⟩
  · have e : negI (r1, r2) = (0, r2) := by simp [negI, h1]
    have h1' : (r2 == 0) = false := by rw [beq_eq_false_iff_ne]; exact h1
    rw [e]
    clear e h1
    go_enter Try.func26, Try.ntmps26
    go_wp2_with fail
    refine (hl.out _ ((Below.refl _ _).alloc (Nat.le_refl _) _)).mono ?_
    rintro e w1 ⟨rfl, hb1⟩
    have hB1 : Below w.heap.size w w1 := ((Below.refl _ _).alloc (Nat.le_refl _) _).trans (hb1.mono (by simp))
    clear hb1
    go_wp2_with fail
    exact bodyPost_ret (v := .tuple #[.int .i64 0, .int .i64 r2]) (by simp [results, Try.results26, go_sem]) rfl ⟨rfl, hB1⟩

theorem mul_in {a b : Int} (a1 : -2147483648 ≤ a) (a2 : a ≤ 2147483647) (b1 : -2147483648 ≤ b) (b2 : b ≤ 2147483647) : -4611686018427387904 ≤ a * b ∧ a * b ≤ 4611686018427387904 := by
  have h : (a * b).natAbs ≤ 2147483648 * 2147483648 := by
    rw [Int.natAbs_mul]
    exact Nat.mul_le_mul (by omega) (by omega)
  omega
theorem tdiv_in {a b : Int} (a1 : -2147483648 ≤ a) (a2 : a ≤ 2147483647) : -2147483648 ≤ a.tdiv b ∧ a.tdiv b ≤ 2147483648 := by
  have h : (a.tdiv b).natAbs ≤ 2147483648 := by
    rw [Int.natAbs_tdiv]
    exact Nat.le_trans (Nat.div_le_self _ _) (by omega)
  omega
set_option maxHeartbeats 1000000 in
theorem reckoned_err (k k1 m1 x1 k2 m2 x2 : Int) (A1 A2 A : Option Addr) (n1 c1 n2 c2 n c : Nat) (L R : Int × Int) (w : World) (f : Int) (hf : (f == 0) = false) (ht : twoN L R = (0, 0, f)) (hl : EvOk w (.agg #[.int .i64 k1, .int .i64 m1, .int .i64 x1, .slice A1 n1 c1]) (.slice A n c) L) (hr : EvOk w (.agg #[.int .i64 k2, .int .i64 m2, .int .i64 x2, .slice A2 n2 c2]) (.slice A n c) R) :
    Calls Try.prog 27 #[.int .i64 k, .agg #[.int .i64 k1, .int .i64 m1, .int .i64 x1, .slice A1 n1 c1], .agg #[.int .i64 k2, .int .i64 m2, .int .i64 x2, .slice A2 n2 c2], .slice A n c] w
      fun e w' => e = .returned (.tuple #[.int .i64 (((0, f) : Int × Int)).1, .int .i64 (((0, f) : Int × Int)).2]) ∧ Below w.heap.size w w' := by
  replace hl := Lib.hid hl
  replace hr := Lib.hid hr
  go_enter Try.func27, Try.ntmps27
  go_wp2_with fail
  have hb0 : Below w.heap.size w ((w.alloc (.cells #[.int .i64 k1, .int .i64 m1, .int .i64 x1, .slice A1 n1 c1] 24)).alloc (.cells #[.int .i64 k2, .int .i64 m2, .int .i64 x2, .slice A2 n2 c2] 24)) := ((Below.refl _ _).alloc (Nat.le_refl _) _).alloc (by simp) _
  refine (both_any k1 m1 x1 k2 m2 x2 A1 A2 A n1 c1 n2 c2 n c L R _ (fun W hW => hl.out W (hb0.trans (hW.mono hb0.size))) (fun W hW => hr.out W (hb0.trans (hW.mono hb0.size)))).mono ?_
  rintro e w1 ⟨rfl, hb1⟩
  have hB1 : Below w.heap.size w w1 := hb0.trans (hb1.mono hb0.size)
  clear hb0 hb1
  rw [ht]
  go_wp2_with fail
  exact bodyPost_ret (v := .tuple #[.int .i64 0, .int .i64 f]) (by simp [results, Try.results27, go_sem]) rfl ⟨rfl, hB1⟩
set_option maxHeartbeats 1000000 in
theorem reckoned_ok (k k1 m1 x1 k2 m2 x2 : Int) (A1 A2 A : Option Addr) (n1 c1 n2 c2 n c : Nat) (L R : Int × Int) (w : World) (a b : Int) (a1 : -2147483648 ≤ a) (a2 : a ≤ 2147483647) (b1 : -2147483648 ≤ b) (b2 : b ≤ 2147483647) (hk : 4 ≤ k ∧ k ≤ 8) (ht : twoN L R = (a, b, 0)) (hl : EvOk w (.agg #[.int .i64 k1, .int .i64 m1, .int .i64 x1, .slice A1 n1 c1]) (.slice A n c) L) (hr : EvOk w (.agg #[.int .i64 k2, .int .i64 m2, .int .i64 x2, .slice A2 n2 c2]) (.slice A n c) R) :
    Calls Try.prog 27 #[.int .i64 k, .agg #[.int .i64 k1, .int .i64 m1, .int .i64 x1, .slice A1 n1 c1], .agg #[.int .i64 k2, .int .i64 m2, .int .i64 x2, .slice A2 n2 c2], .slice A n c] w
      fun e w' => e = .returned (.tuple #[.int .i64 (opI k a b).1, .int .i64 (opI k a b).2]) ∧ Below w.heap.size w w' := by
  replace hl := Lib.hid hl
  replace hr := Lib.hid hr
  obtain ⟨p1, p2⟩ := mul_in a1 a2 b1 b2
  obtain ⟨q1, q2⟩ := tdiv_in (b := b) a1 a2
  have hk' : k = 4 ∨ k = 5 ∨ k = 6 ∨ k = 7 ∨ k = 8 := by omega
  clear hk
  replace ht := Lib.hid ht
  rcases hk' with rfl | rfl | rfl | rfl | rfl
  · have e : opI 4 a b = cutI (a + b) := by simp [opI]
    rw [e]
    clear e
    go_enter Try.func27, Try.ntmps27
    go_wp2_with fail
    have hb0 : Below w.heap.size w ((w.alloc (.cells #[.int .i64 k1, .int .i64 m1, .int .i64 x1, .slice A1 n1 c1] 24)).alloc (.cells #[.int .i64 k2, .int .i64 m2, .int .i64 x2, .slice A2 n2 c2] 24)) := ((Below.refl _ _).alloc (Nat.le_refl _) _).alloc (by simp) _
    refine (both_any k1 m1 x1 k2 m2 x2 A1 A2 A n1 c1 n2 c2 n c L R _ (fun W hW => hl.out W (hb0.trans (hW.mono hb0.size))) (fun W hW => hr.out W (hb0.trans (hW.mono hb0.size)))).mono ?_
    rintro e w1 ⟨rfl, hb1⟩
    have hB1 : Below w.heap.size w w1 := hb0.trans (hb1.mono hb0.size)
    clear hb0 hb1
    rw [ht.out]
    go_wp2_with fail
    refine (cut_any _ _).mono ?_
    rintro e w2 ⟨rfl, rfl⟩
    go_wp2_with fail
    exact bodyPost_ret (v := .tuple #[.int .i64 (cutI (a + b)).1, .int .i64 (cutI (a + b)).2]) (by simp [results, Try.results27, go_sem]) rfl ⟨rfl, hB1⟩
  · have e : opI 5 a b = cutI (a - b) := by simp [opI]
    rw [e]
    clear e
    go_enter Try.func27, Try.ntmps27
    go_wp2_with fail
    have hb0 : Below w.heap.size w ((w.alloc (.cells #[.int .i64 k1, .int .i64 m1, .int .i64 x1, .slice A1 n1 c1] 24)).alloc (.cells #[.int .i64 k2, .int .i64 m2, .int .i64 x2, .slice A2 n2 c2] 24)) := ((Below.refl _ _).alloc (Nat.le_refl _) _).alloc (by simp) _
    refine (both_any k1 m1 x1 k2 m2 x2 A1 A2 A n1 c1 n2 c2 n c L R _ (fun W hW => hl.out W (hb0.trans (hW.mono hb0.size))) (fun W hW => hr.out W (hb0.trans (hW.mono hb0.size)))).mono ?_
    rintro e w1 ⟨rfl, hb1⟩
    have hB1 : Below w.heap.size w w1 := hb0.trans (hb1.mono hb0.size)
    clear hb0 hb1
    rw [ht.out]
    go_wp2_with fail
    refine (cut_any _ _).mono ?_
    rintro e w2 ⟨rfl, rfl⟩
    go_wp2_with fail
    exact bodyPost_ret (v := .tuple #[.int .i64 (cutI (a - b)).1, .int .i64 (cutI (a - b)).2]) (by simp [results, Try.results27, go_sem]) rfl ⟨rfl, hB1⟩
  · have e : opI 6 a b = cutI (a * b) := by simp [opI]
    rw [e]
    clear e
    go_enter Try.func27, Try.ntmps27
    go_wp2_with fail
    have hb0 : Below w.heap.size w ((w.alloc (.cells #[.int .i64 k1, .int .i64 m1, .int .i64 x1, .slice A1 n1 c1] 24)).alloc (.cells #[.int .i64 k2, .int .i64 m2, .int .i64 x2, .slice A2 n2 c2] 24)) := ((Below.refl _ _).alloc (Nat.le_refl _) _).alloc (by simp) _
    refine (both_any k1 m1 x1 k2 m2 x2 A1 A2 A n1 c1 n2 c2 n c L R _ (fun W hW => hl.out W (hb0.trans (hW.mono hb0.size))) (fun W hW => hr.out W (hb0.trans (hW.mono hb0.size)))).mono ?_
    rintro e w1 ⟨rfl, hb1⟩
    have hB1 : Below w.heap.size w w1 := hb0.trans (hb1.mono hb0.size)
    clear hb0 hb1
    rw [ht.out]
    go_wp2_with fail
    refine (cut_any _ _).mono ?_
    rintro e w2 ⟨rfl, rfl⟩
    go_wp2_with fail
    exact bodyPost_ret (v := .tuple #[.int .i64 (cutI (a * b)).1, .int .i64 (cutI (a * b)).2]) (by simp [results, Try.results27, go_sem]) rfl ⟨rfl, hB1⟩
  · by_cases hb : b = 0
    · subst hb
      have e : opI 7 a 0 = (0, 3) := by simp [opI]
      rw [e]
      clear e
      go_enter Try.func27, Try.ntmps27
      go_wp2_with fail
      have hb0 : Below w.heap.size w ((w.alloc (.cells #[.int .i64 k1, .int .i64 m1, .int .i64 x1, .slice A1 n1 c1] 24)).alloc (.cells #[.int .i64 k2, .int .i64 m2, .int .i64 x2, .slice A2 n2 c2] 24)) := ((Below.refl _ _).alloc (Nat.le_refl _) _).alloc (by simp) _
      refine (both_any k1 m1 x1 k2 m2 x2 A1 A2 A n1 c1 n2 c2 n c L R _ (fun W hW => hl.out W (hb0.trans (hW.mono hb0.size))) (fun W hW => hr.out W (hb0.trans (hW.mono hb0.size)))).mono ?_
      rintro e w1 ⟨rfl, hb1⟩
      have hB1 : Below w.heap.size w w1 := hb0.trans (hb1.mono hb0.size)
      clear hb0 hb1
      rw [ht.out]
      go_wp2_with fail
      exact bodyPost_ret (v := .tuple #[.int .i64 0, .int .i64 3]) (by simp [results, Try.results27, go_sem]) rfl ⟨rfl, hB1⟩
    · have hb' : (b == 0) = false := by rw [beq_eq_false_iff_ne]; exact hb
      have e : opI 7 a b = cutI (a.tdiv b) := by simp [opI, hb]
      rw [e]
      clear e
      go_enter Try.func27, Try.ntmps27
      go_wp2_with fail
      have hb0 : Below w.heap.size w ((w.alloc (.cells #[.int .i64 k1, .int .i64 m1, .int .i64 x1, .slice A1 n1 c1] 24)).alloc (.cells #[.int .i64 k2, .int .i64 m2, .int .i64 x2, .slice A2 n2 c2] 24)) := ((Below.refl _ _).alloc (Nat.le_refl _) _).alloc (by simp) _
      refine (both_any k1 m1 x1 k2 m2 x2 A1 A2 A n1 c1 n2 c2 n c L R _ (fun W hW => hl.out W (hb0.trans (hW.mono hb0.size))) (fun W hW => hr.out W (hb0.trans (hW.mono hb0.size)))).mono ?_
      rintro e w1 ⟨rfl, hb1⟩
      have hB1 : Below w.heap.size w w1 := hb0.trans (hb1.mono hb0.size)
      clear hb0 hb1
      rw [ht.out]
      go_wp2_with fail
      refine (cut_any _ _).mono ?_
      rintro e w2 ⟨rfl, rfl⟩
      go_wp2_with fail
      exact bodyPost_ret (v := .tuple #[.int .i64 (cutI (a.tdiv b)).1, .int .i64 (cutI (a.tdiv b)).2]) (by simp [results, Try.results27, go_sem]) rfl ⟨rfl, hB1⟩
  · by_cases hb : b = 0
    · subst hb
      have e : opI 8 a 0 = (0, 3) := by simp [opI]
      rw [e]
      clear e
      go_enter Try.func27, Try.ntmps27
      go_wp2_with fail
      have hb0 : Below w.heap.size w ((w.alloc (.cells #[.int .i64 k1, .int .i64 m1, .int .i64 x1, .slice A1 n1 c1] 24)).alloc (.cells #[.int .i64 k2, .int .i64 m2, .int .i64 x2, .slice A2 n2 c2] 24)) := ((Below.refl _ _).alloc (Nat.le_refl _) _).alloc (by simp) _
      refine (both_any k1 m1 x1 k2 m2 x2 A1 A2 A n1 c1 n2 c2 n c L R _ (fun W hW => hl.out W (hb0.trans (hW.mono hb0.size))) (fun W hW => hr.out W (hb0.trans (hW.mono hb0.size)))).mono ?_
      rintro e w1 ⟨rfl, hb1⟩
      have hB1 : Below w.heap.size w w1 := hb0.trans (hb1.mono hb0.size)
      clear hb0 hb1
      rw [ht.out]
      go_wp2_with fail
      exact bodyPost_ret (v := .tuple #[.int .i64 0, .int .i64 3]) (by simp [results, Try.results27, go_sem]) rfl ⟨rfl, hB1⟩
    · have hb' : (b == 0) = false := by rw [beq_eq_false_iff_ne]; exact hb
      have e : opI 8 a b = cutI (a.tmod b) := by simp [opI, hb]
      rw [e]
      clear e
      go_enter Try.func27, Try.ntmps27
      go_wp2_with fail
      have hb0 : Below w.heap.size w ((w.alloc (.cells #[.int .i64 k1, .int .i64 m1, .int .i64 x1, .slice A1 n1 c1] 24)).alloc (.cells #[.int .i64 k2, .int .i64 m2, .int .i64 x2, .slice A2 n2 c2] 24)) := ((Below.refl _ _).alloc (Nat.le_refl _) _).alloc (by simp) _
      refine (both_any k1 m1 x1 k2 m2 x2 A1 A2 A n1 c1 n2 c2 n c L R _ (fun W hW => hl.out W (hb0.trans (hW.mono hb0.size))) (fun W hW => hr.out W (hb0.trans (hW.mono hb0.size)))).mono ?_
      rintro e w1 ⟨rfl, hb1⟩
      have hB1 : Below w.heap.size w w1 := hb0.trans (hb1.mono hb0.size)
      clear hb0 hb1
      rw [ht.out]
      go_wp2_with fail
      refine (cut_any _ _).mono ?_
      rintro e w2 ⟨rfl, rfl⟩
      go_wp2_with fail
      exact bodyPost_ret (v := .tuple #[.int .i64 (cutI (a.tmod b)).1, .int .i64 (cutI (a.tmod b)).2]) (by simp [results, Try.results27, go_sem]) rfl ⟨rfl, hB1⟩
end Go.Proofs.Ytmcomhjfpegieaa

