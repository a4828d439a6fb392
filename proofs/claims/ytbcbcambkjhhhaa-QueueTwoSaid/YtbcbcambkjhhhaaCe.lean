/-
  The reference's Has and Same; a row of sends.
-/
import Derived.Test.YtbcbcambkjhhhaaCd
namespace Go.Proofs.Ytbcbcambkjhhhaa.Sx.Z
open Go.RowKit
theorem eq2 (a b c d : Int) : (a == c && (b == d && true)) = decide ((a, b) = (c, d)) := by
  by_cases h1 : a = c <;> by_cases h2 : b = d <;> simp [h1, h2]
theorem same_no {a b : Int × Int} {A B : D} (c : (!decide (a = b) || ((A.len : Int) != (B.len : Int))) = true) : false = sameE a A b B := by
  unfold sameE
  by_cases h1 : a = b
  · have h2 : ¬ A.len = B.len := by intro e; rw [e] at c; simp [h1] at c
    rw [decide_eq_false h2, Bool.and_false, Bool.false_and]
  · rw [decide_eq_false h1, Bool.false_and, Bool.false_and]
theorem same_ok {a b : Int × Int} {A B : D} (c : (!decide (a = b) || ((A.len : Int) != (B.len : Int))) = false) : a = b ∧ A.len = B.len := by
  simp only [Bool.or_eq_false_iff, Bool.not_eq_false', decide_eq_true_eq, bne_eq_false_iff_eq] at c
  exact ⟨c.1, by omega⟩
theorem notJ (t n : Int) (b : Bool) : (decide (t < 0) || decide (t ≥ n) || !b) = !((decide (0 ≤ t) && decide (t < n)) && b) := by
  rw [show decide (t < 0) = !decide (0 ≤ t) by by_cases h : 0 ≤ t <;> simp [h] <;> omega, show decide (t ≥ n) = !decide (t < n) by by_cases h : t < n <;> simp [h] <;> omega]
  cases decide (0 ≤ t) <;> cases decide (t < n) <;> cases b <;> rfl
theorem notJ2 {t n : Int} (h : (decide (t < 0) || decide (t ≥ n)) = false ∧ True) : 0 ≤ t ∧ t < n := by
  have h := h.1
  simp only [Bool.or_eq_false_iff, decide_eq_false_iff_not] at h
  omega
noncomputable def rsameS : FSpec := fun ds _ => match ds with
  | [.i l, .i h, .d d, .i l2, .i h2, .d d2] => some { val := .one (.sc (.bool (.sym (sameE (l, h) d (l2, h2) d2)))), vc := [d.len ≤ 8796093022208] }
  | _ => none
noncomputable def rsameC : Con := con [relA, relA] rsameS
theorem rsame_ok : ConOK Try.prog 25 rsameC := by
  refine fn_ob tt_ok mixed Try.func25 rfl (fun _ _ => by kernel_rfl) (A := fun ds => ⟨fun _ => Cons.of [], fun k => match k, ds with | 4, [.i l, .i h, .d d, .i l2, .i h2, .d d2] => some { ι := Nat, pre := fun _ k => k ≤ d.len ∧ d.len = d2.len ∧ ∀ j, j < k → pr d j = pr d2 j, μ := fun k => d.len + 1 - k, st := fun s k => famR s [(5, .one (.sc (.int .i64 (.sym ((k : Nat))))))] [2, 3, 4] [] [2, 3] } | _, _ => none, fun _ => none⟩) (fun _ _ => cons_nil) (by kernel_rfl) ?_
  intro ds fr
  unfold rsameS
  split
  · rename_i l h d l2 h2 d2
    refine kmp (q := d.len ≤ (8796093022208 : Nat) →
 ((!(l == l2 && (h == h2 && true)) || (↑d.len : Int) != (↑d2.len : Int)) = true → false = sameE (l, h) d (l2, h2) d2) ∧
 ((!(l == l2 && (h == h2 && true)) || (↑d.len : Int) != (↑d2.len : Int)) = false →
 (∃ (i : Nat),
 (i ≤ d.len ∧ d.len = d2.len ∧ ∀ (j : Nat), j < i → pr d j = pr d2 j) ∧
 (0 : Int) = (↑i : Int) ∧ false = false ∧ l = l ∧ h = h ∧ d.rows = d.rows ∧ l2 = l2 ∧ h2 = h2 ∧ d2.rows = d2.rows) ∧
 ∀ (i : Nat),
 (i ≤ d.len ∧ d.len = d2.len ∧ ∀ (j : Nat), j < i → pr d j = pr d2 j) →
 (decide ((↑i : Int) < (↑d.len : Int)) = true →
 ((0 : Int) ≤ (↑i : Int) ∧ (↑i : Int) < (↑d.len : Int)) ∧
 ((0 : Int) ≤ (↑i : Int) ∧ (↑i : Int) < (↑d2.len : Int)) ∧
 ((!((d.el (↑i : Int).toNat (0 : Nat)).toI == (d2.el (↑i : Int).toNat (0 : Nat)).toI &&
 ((d.el (↑i : Int).toNat ((0 : Nat) + (1 : Nat))).toI == (d2.el (↑i : Int).toNat ((0 : Nat) + (1 : Nat))).toI && true))) =
 true →
 false = sameE (l, h) d (l2, h2) d2) ∧
 ((!((d.el (↑i : Int).toNat (0 : Nat)).toI == (d2.el (↑i : Int).toNat (0 : Nat)).toI &&
 ((d.el (↑i : Int).toNat ((0 : Nat) + (1 : Nat))).toI == (d2.el (↑i : Int).toNat ((0 : Nat) + (1 : Nat))).toI && true))) =
 false →
 ∃ (j : Nat),
 (j ≤ d.len ∧ d.len = d2.len ∧ ∀ (j_1 : Nat), j_1 < j → pr d j_1 = pr d2 j_1) ∧
 d.len + (1 : Nat) - j < d.len + (1 : Nat) - i ∧
 IntKind.i64.wrap ((↑i : Int) + (1 : Int)) = (↑j : Int) ∧
 false = false ∧ l = l ∧ h = h ∧ d.rows = d.rows ∧ l2 = l2 ∧ h2 = h2 ∧ d2.rows = d2.rows)) ∧
 (decide ((↑i : Int) < (↑d.len : Int)) = false → true = sameE (l, h) d (l2, h2) d2))) (by kernel_rfl) ?_
    intro hd
    simp only [Int.toNat_natCast]
    have ej : ∀ i, ((d.el i 0).toI == (d2.el i 0).toI && ((d.el i (0 + 1)).toI == (d2.el i (0 + 1)).toI && true)) = decide (pr d i = pr d2 i) := fun i => eq2 _ _ _ _
    simp only [ej, eq2]
    refine ⟨fun c => same_no c, fun c => ?_⟩
    obtain ⟨c1, c2⟩ := same_ok c
    have e : sameE (l, h) d (l2, h2) d2 = allQ (fun j => decide (pr d j = pr d2 j)) d.len := by
      unfold sameE
      rw [decide_eq_true c1, decide_eq_true c2]; rfl
    rw [e]
    refine ⟨⟨0, ⟨Nat.zero_le _, c2, fun j hj => absurd hj (Nat.not_lt_zero j)⟩, rfl, ?_⟩, fun i hi => ⟨fun x => ?_, fun x => ?_⟩⟩
    · (repeat' apply And.intro) <;> first | rfl | trivial
    · have x : i < d.len := by simpa using x
      obtain ⟨i1, i2, i3⟩ := hi
      refine ⟨by omega, by omega, fun y => ?_, fun y => ⟨i + 1, ⟨by omega, i2, fun j hj => ?_⟩, by omega, wr _ (by omega), ?_⟩⟩
      · rw [allQ_no x (by simpa using y)]
      · have y : pr d i = pr d2 i := by simpa using y
        by_cases hji : j < i
        · exact i3 j hji
        · rw [show j = i by omega]; exact y
      · (repeat' apply And.intro) <;> first | rfl | trivial
    · have x : ¬ i < d.len := by simpa using x
      obtain ⟨i1, i2, i3⟩ := hi
      rw [allQ_iff.2 fun j hj => decide_eq_true (i3 j (by omega))]
  · trivial
noncomputable def rhasS : FSpec := fun ds _ => match ds with
  | [.i l, .i h, .d d, .d q] => some { val := .one (.sc (.bool (.sym (hasQ l h d q)))), vc := [q.len ≤ 8796093022208, d.len ≤ 8796093022208] }
  | _ => none
noncomputable def rhasC : Con := con [relA, .sc (.rows 60)] rhasS
theorem rhas_ok : ConOK Try.prog 29 rhasC := by
  refine fn_ob tt_ok mixed Try.func29 rfl (fun _ _ => by kernel_rfl) (A := fun ds => ⟨fun _ => Cons.of [(76, rhas8C)], fun k => match k, ds with | 4, [.i l, .i h, .d d, .d q] => some { ι := Nat, pre := fun _ k => k ≤ q.len ∧ (l ≤ q.len ∧ (q.len : Int) ≤ h) ∧ ∀ j, j < k → hasJ ((l, h), d) q j = true, μ := fun k => q.len + 1 - k, st := fun s k => famR s [(5, .one (.sc (.int .i64 (.sym ((k : Nat))))))] [1, 2, 4] [] [2] } | _, _ => none, fun _ => none⟩) (fun _ _ => (cons_cons rhas8_ok cons_nil)) (by kernel_rfl) ?_
  intro ds fr
  unfold rhasS
  split
  · rename_i l h d q
    refine kmp (q := q.len ≤ (8796093022208 : Nat) →
 d.len ≤ (8796093022208 : Nat) →
 ((decide ((↑q.len : Int) < l) || decide ((↑q.len : Int) > h)) = true → false = hasQ l h d q) ∧
 ((decide ((↑q.len : Int) < l) || decide ((↑q.len : Int) > h)) = false →
 (∃ (i : Nat),
 (i ≤ q.len ∧ (l ≤ (↑q.len : Int) ∧ (↑q.len : Int) ≤ h) ∧ ∀ (j : Nat), j < i → hasJ ((l, h), d) q j = true) ∧
 (0 : Int) = (↑i : Int) ∧ q.rows = q.rows ∧ false = false ∧ l = l ∧ h = h ∧ d.rows = d.rows) ∧
 ∀ (i : Nat),
 (i ≤ q.len ∧ (l ≤ (↑q.len : Int) ∧ (↑q.len : Int) ≤ h) ∧ ∀ (j : Nat), j < i → hasJ ((l, h), d) q j = true) →
 (decide ((↑i : Int) < (↑q.len : Int)) = true →
 ((0 : Int) ≤ (↑i : Int) ∧ (↑i : Int) < (↑q.len : Int)) ∧
 (decide ((q.el (↑i : Int).toNat ((0 : Nat) + (0 : Nat))).toI < (0 : Int)) = false ∧ True →
 (0 : Int) ≤ (↑i : Int) ∧ (↑i : Int) < (↑q.len : Int)) ∧
 ((decide ((q.el (↑i : Int).toNat ((0 : Nat) + (0 : Nat))).toI < (0 : Int)) ||
 decide ((q.el (↑i : Int).toNat ((0 : Nat) + (0 : Nat))).toI ≥ (↑d.len : Int))) =
 false ∧
 True →
 (0 : Int) ≤ (↑i : Int) ∧ (↑i : Int) < (↑q.len : Int)) ∧
 ((decide ((q.el (↑i : Int).toNat ((0 : Nat) + (0 : Nat))).toI < (0 : Int)) ||
 decide ((q.el (↑i : Int).toNat ((0 : Nat) + (0 : Nat))).toI ≥ (↑d.len : Int))) =
 false ∧
 True →
 (0 : Int) ≤ (q.el (↑i : Int).toNat ((0 : Nat) + (0 : Nat))).toI ∧
 (q.el (↑i : Int).toNat ((0 : Nat) + (0 : Nat))).toI < (↑d.len : Int)) ∧
 ((decide ((q.el (↑i : Int).toNat ((0 : Nat) + (0 : Nat))).toI < (0 : Int)) ||
 decide ((q.el (↑i : Int).toNat ((0 : Nat) + (0 : Nat))).toI ≥ (↑d.len : Int))) =
 false ∧
 True →
 (0 : Int) ≤ (↑i : Int) ∧ (↑i : Int) < (↑q.len : Int)) ∧
 ((decide ((q.el (↑i : Int).toNat ((0 : Nat) + (0 : Nat))).toI < (0 : Int)) ||
 decide ((q.el (↑i : Int).toNat ((0 : Nat) + (0 : Nat))).toI ≥ (↑d.len : Int)) ||
 !(decide
 ((d.el (q.el (↑i : Int).toNat ((0 : Nat) + (0 : Nat))).toI.toNat (0 : Nat)).toI ≤
 (q.el (↑i : Int).toNat ((0 : Nat) + (1 : Nat))).toI) &&
 decide
 ((q.el (↑i : Int).toNat ((0 : Nat) + (1 : Nat))).toI ≤
 (d.el (q.el (↑i : Int).toNat ((0 : Nat) + (0 : Nat))).toI.toNat ((0 : Nat) + (1 : Nat))).toI))) =
 true →
 false = hasQ l h d q) ∧
 ((decide ((q.el (↑i : Int).toNat ((0 : Nat) + (0 : Nat))).toI < (0 : Int)) ||
 decide ((q.el (↑i : Int).toNat ((0 : Nat) + (0 : Nat))).toI ≥ (↑d.len : Int)) ||
 !(decide
 ((d.el (q.el (↑i : Int).toNat ((0 : Nat) + (0 : Nat))).toI.toNat (0 : Nat)).toI ≤
 (q.el (↑i : Int).toNat ((0 : Nat) + (1 : Nat))).toI) &&
 decide
 ((q.el (↑i : Int).toNat ((0 : Nat) + (1 : Nat))).toI ≤
 (d.el (q.el (↑i : Int).toNat ((0 : Nat) + (0 : Nat))).toI.toNat ((0 : Nat) + (1 : Nat))).toI))) =
 false →
 ∃ (j : Nat),
 (j ≤ q.len ∧ (l ≤ (↑q.len : Int) ∧ (↑q.len : Int) ≤ h) ∧ ∀ (j_1 : Nat), j_1 < j → hasJ ((l, h), d) q j_1 = true) ∧
 q.len + (1 : Nat) - j < q.len + (1 : Nat) - i ∧
 IntKind.i64.wrap ((↑i : Int) + (1 : Int)) = (↑j : Int) ∧
 q.rows = q.rows ∧ false = false ∧ l = l ∧ h = h ∧ d.rows = d.rows)) ∧
 (decide ((↑i : Int) < (↑q.len : Int)) = false → true = hasQ l h d q))) (by kernel_rfl) ?_
    intro hq hd
    simp only [Int.toNat_natCast, notJ]
    have ej : ∀ i, (!((decide (0 ≤ (q.el i (0 + 0)).toI) && decide ((q.el i (0 + 0)).toI < (d.len : Int))) && (decide ((d.el (q.el i (0 + 0)).toI.toNat 0).toI ≤ (q.el i (0 + 1)).toI) && decide ((q.el i (0 + 1)).toI ≤ (d.el (q.el i (0 + 0)).toI.toNat (0 + 1)).toI)))) = !(hasJ ((l, h), d) q i) := fun i => rfl
    simp only [ej]
    refine ⟨fun c => ?_, fun c => ?_⟩
    · have c : ¬ (l ≤ (q.len : Int) ∧ (q.len : Int) ≤ h) := by
        simp only [Bool.or_eq_true, decide_eq_true_eq] at c
        omega
      unfold hasQ
      rw [show (decide (l ≤ (q.len : Int)) && decide ((q.len : Int) ≤ h)) = false by rw [← Bool.decide_and]; exact decide_eq_false c, Bool.and_false]
    have c : l ≤ (q.len : Int) ∧ (q.len : Int) ≤ h := by
      simp only [Bool.or_eq_false_iff, decide_eq_false_iff_not] at c
      omega
    have e : hasQ l h d q = allQ (hasJ ((l, h), d) q) q.len := by
      unfold hasQ
      rw [decide_eq_true c.1, decide_eq_true c.2]; exact Bool.and_true _
    rw [e]
    refine ⟨⟨0, ⟨Nat.zero_le _, c, fun j hj => absurd hj (Nat.not_lt_zero j)⟩, rfl, ?_⟩, fun i hi => ⟨fun x => ?_, fun x => ?_⟩⟩
    · (repeat' apply And.intro) <;> first | rfl | trivial
    · have x : i < q.len := by simpa using x
      obtain ⟨i1, i2, i3⟩ := hi
      refine ⟨by omega, fun _ => by omega, fun _ => by omega, fun y => notJ2 y, fun _ => by omega, fun y => ?_, fun y => ⟨i + 1, ⟨by omega, i2, fun j hj => ?_⟩, by omega, wr _ (by omega), ?_⟩⟩
      · rw [allQ_no x (by simpa using y)]
      · have y : hasJ ((l, h), d) q i = true := by simpa using y
        by_cases hji : j < i
        · exact i3 j hji
        · rw [show j = i by omega]; exact y
      · (repeat' apply And.intro) <;> first | rfl | trivial
    · have x : ¬ i < q.len := by simpa using x
      obtain ⟨i1, i2, i3⟩ := hi
      rw [allQ_iff.2 fun j hj => i3 j (by omega)]
  · trivial
end Go.Proofs.Ytbcbcambkjhhhaa.Sx.Z
