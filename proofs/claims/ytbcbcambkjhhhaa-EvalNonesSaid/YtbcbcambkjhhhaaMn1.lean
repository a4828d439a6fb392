/-
  The greatest zone of numbers: contracts.
-/
import Derived.Test.YtbcbcambkjhhhaaMX
import Derived.Test.YtbcbcambkjhhhaaMY
import Derived.Test.YtbcbcambkjhhhaaMP
import Derived.Test.YtbcbcambkjhhhaaMQ
import Derived.Test.YtbcbcambkjhhhaaMj1
import Derived.Test.YtbcbcambkjhhhaaMa1
namespace Go.Proofs.Ytbcbcambkjhhhaa.Sx.Z
open Go.RowKit
/-- Rows below k, of row k the columns below m. -/
def apTo (f : Nat → Int) (r k m : Nat) (o : Nat) : Int := if (o / 7 < k ∨ o / 7 = k ∧ o % 7 < m) ∧ o % 7 < r ∧ 1 ≤ o / 7 ∧ 1 ≤ o % 7 ∧ o / 7 ≠ o % 7 then f (o / 7 * 7) + f (o % 7) else f o
def apF (n : Int) (f : Nat → Int) (o : Nat) : Int := apTo f (rowsP n).toNat (rowsP n).toNat 0 o
def topTo (k : Nat) (o : Nat) : Int := if 1 ≤ o / 7 ∧ o / 7 < k ∧ o % 7 = 0 then 2147483647 else if 1 ≤ o ∧ o < k then 2147483648 else 0
def topF (n : Int) : Nat → Int := apF (topN n) (topTo (topN n + 1).toNat)
def apartS : FSpec := fun ds _ => match ds with
  | [.i n, .b c, .f f] => some { val := .one (.agg [.c (.int .i64 (.sym (n))), .c (.bool (.sym (c))), .ints .i64 (.lit 49) (apF n f)]), vc := [Sm f] }
  | _ => none
def apartC : Con := con [zA] apartS
theorem apart_ok : ConOK Try.prog 125 apartC := by
  refine fn_ob tt_ok mixed Try.func125 rfl (fun _ _ => by kernel_rfl) (A := fun ds => ⟨fun _ => Cons.of [(114, rowsC)], fun k => match k, ds with | 2, [.i n, .b c, .f f] => some { ι := Nat, pre := fun _ k => 1 ≤ k ∧ k ≤ (rowsP n).toNat, μ := fun k => 7 - k, st := fun s k => fam s [(3, .one (.sc (.int .i64 (.sym (k : Nat)))))] [1, 2] 1 (.own 89 (zs (.sym n) (.sym c) (apTo f (rowsP n).toNat k 0))) [2] } | 5, [.i n, .b c, .f f] => some { ι := Nat, pre := fun _ m => 1 ≤ m ∧ m ≤ (rowsP n).toNat, μ := fun m => 7 - m, st := fun s m => fam s [(4, .one (.sc (.int .i64 (.sym (m : Nat)))))] [1, 2, 3] 1 (.own 89 (zs (.sym n) (.sym c) (apTo f (rowsP n).toNat (slotN s 3) m))) [2] } | _, _ => none, fun _ => none⟩) (fun _ _ => (cons_cons rows_ok cons_nil)) (by kernel_rfl) ?_
  intro ds fr
  unfold apartS
  split
  · rename_i n c f
    refine kmp (q := Sm f →
 (∃ (i : Nat),
 ((1 : Nat) ≤ i ∧ i ≤ (rowsP n).toNat) ∧
 (1 : Int) = (↑i : Int) ∧
 n = n ∧
 c = c ∧
 (∀ (o : Nat), o < (49 : Nat) → f o = apTo f (rowsP n).toNat i (0 : Nat) o) ∧
 (0 : Int) = (0 : Int) ∧ false = false ∧ ∀ (o : Nat), o < (49 : Nat) → (0 : Int) = (0 : Int)) ∧
 ∀ (i : Nat),
 (1 : Nat) ≤ i ∧ i ≤ (rowsP n).toNat →
 (decide ((↑i : Int) < rowsP n) = true →
 (∃ (i_1 : Nat),
 ((1 : Nat) ≤ i_1 ∧ i_1 ≤ (rowsP n).toNat) ∧
 (1 : Int) = (↑i_1 : Int) ∧
 (↑i : Int) = (↑i : Int) ∧
 n = n ∧
 c = c ∧
 (∀ (o : Nat), o < (49 : Nat) → apTo f (rowsP n).toNat i (0 : Nat) o = apTo f (rowsP n).toNat (↑i : Int).toNat i_1 o) ∧
 (0 : Int) = (0 : Int) ∧ false = false ∧ ∀ (o : Nat), o < (49 : Nat) → (0 : Int) = (0 : Int)) ∧
 ∀ (i_1 : Nat),
 (1 : Nat) ≤ i_1 ∧ i_1 ≤ (rowsP n).toNat →
 (decide ((↑i_1 : Int) < rowsP n) = true →
 (((↑i : Int) != (↑i_1 : Int)) = true →
 ((0 : Int) ≤ (↑i : Int) ∧ (↑i : Int) < (↑(7 : Nat) : Int)) ∧
 nat_lit 0 + (↑i : Int).toNat * (7 : Nat) < (49 : Nat) ∧
 ((0 : Int) ≤ (↑i_1 : Int) ∧ (↑i_1 : Int) < (↑(7 : Nat) : Int)) ∧
 nat_lit 0 + (↑i_1 : Int).toNat * (1 : Nat) < (49 : Nat) ∧
 ((0 : Int) ≤ (↑i : Int) ∧ (↑i : Int) < (↑(7 : Nat) : Int)) ∧
 ((0 : Int) ≤ (↑i_1 : Int) ∧ (↑i_1 : Int) < (↑(7 : Nat) : Int)) ∧
 nat_lit 0 + ((↑i : Int).toNat * (7 : Nat) + (↑i_1 : Int).toNat * (1 : Nat)) + (1 : Nat) ≤ (49 : Nat) ∧
 ∃ (j : Nat),
 ((1 : Nat) ≤ j ∧ j ≤ (rowsP n).toNat) ∧
 (7 : Nat) - j < (7 : Nat) - i_1 ∧
 IntKind.i64.wrap ((↑i_1 : Int) + (1 : Int)) = (↑j : Int) ∧
 (↑i : Int) = (↑i : Int) ∧
 n = n ∧
 c = c ∧
 (∀ (o : Nat),
 o < (49 : Nat) →
 (if
 ((nat_lit 0 + ((↑i : Int).toNat * (7 : Nat) + (↑i_1 : Int).toNat * (1 : Nat))).ble o &&
 o.blt
 (nat_lit 0 + ((↑i : Int).toNat * (7 : Nat) + (↑i_1 : Int).toNat * (1 : Nat)) +
 (1 : Nat))) =
 true then
 IntKind.i64.wrap
 (apTo f (rowsP n).toNat (↑i : Int).toNat i_1 (nat_lit 0 + (↑i : Int).toNat * (7 : Nat)) +
 apTo f (rowsP n).toNat (↑i : Int).toNat i_1 (nat_lit 0 + (↑i_1 : Int).toNat * (1 : Nat)))
 else apTo f (rowsP n).toNat (↑i : Int).toNat i_1 o) =
 apTo f (rowsP n).toNat (↑i : Int).toNat j o) ∧
 (0 : Int) = (0 : Int) ∧ false = false ∧ ∀ (o : Nat), o < (49 : Nat) → (0 : Int) = (0 : Int)) ∧
 (((↑i : Int) != (↑i_1 : Int)) = false →
 ∃ (j : Nat),
 ((1 : Nat) ≤ j ∧ j ≤ (rowsP n).toNat) ∧
 (7 : Nat) - j < (7 : Nat) - i_1 ∧
 IntKind.i64.wrap ((↑i_1 : Int) + (1 : Int)) = (↑j : Int) ∧
 (↑i : Int) = (↑i : Int) ∧
 n = n ∧
 c = c ∧
 (∀ (o : Nat),
 o < (49 : Nat) → apTo f (rowsP n).toNat (↑i : Int).toNat i_1 o = apTo f (rowsP n).toNat (↑i : Int).toNat j o) ∧
 (0 : Int) = (0 : Int) ∧ false = false ∧ ∀ (o : Nat), o < (49 : Nat) → (0 : Int) = (0 : Int))) ∧
 (decide ((↑i_1 : Int) < rowsP n) = false →
 ∃ (j : Nat),
 ((1 : Nat) ≤ j ∧ j ≤ (rowsP n).toNat) ∧
 (7 : Nat) - j < (7 : Nat) - i ∧
 IntKind.i64.wrap ((↑i : Int) + (1 : Int)) = (↑j : Int) ∧
 n = n ∧
 c = c ∧
 (∀ (o : Nat), o < (49 : Nat) → apTo f (rowsP n).toNat (↑i : Int).toNat i_1 o = apTo f (rowsP n).toNat j (0 : Nat) o) ∧
 (0 : Int) = (0 : Int) ∧ false = false ∧ ∀ (o : Nat), o < (49 : Nat) → (0 : Int) = (0 : Int))) ∧
 (decide ((↑i : Int) < rowsP n) = false → n = n ∧ c = c ∧ ∀ (o : Nat), o < (49 : Nat) → apTo f (rowsP n).toNat i (0 : Nat) o = apF n f o)) (by kernel_rfl) ?_
    simp only [raw0, true_and, and_true, implies_true, Nat.mul_one, Int.toNat_natCast, c7, decide_eq_true_eq, decide_eq_false_iff_not, at_iff, bne_iff_ne, bne_eq_false_iff_eq, and_self]
    intro hs
    have hr := rowsP_le n
    obtain ⟨r, hre⟩ := Int.eq_ofNat_of_zero_le (show 0 ≤ rowsP n by omega)
    unfold apF
    rw [hre] at hr ⊢
    simp only [Int.toNat_natCast]
    refine ⟨⟨1, by omega, rfl, fun o ho => ?_⟩, fun k hk => ⟨fun h3 => ⟨⟨1, by omega, rfl, fun o ho => ?_⟩, fun m hm => ⟨fun h4 => ⟨fun h5 => ?_, fun h5 => ?_⟩, fun h4 => ?_⟩⟩, fun h3 => ?_⟩⟩
    · unfold apTo; rw [if_neg (by omega)]
    · unfold apTo; exact icg (by omega) rfl rfl
    · have e1 : apTo f r k m (k * 7) = f (k * 7) := by unfold apTo; rw [if_neg (by omega)]
      have e2 : apTo f r k m m = f m := by unfold apTo; rw [if_neg (by omega)]
      have q1 := hs (k * 7) (by omega)
      have q2 := hs m (by omega)
      rw [e1, e2, wr (f (k * 7) + f m) (by omega), wr ((m : Int) + 1) (by omega)]
      refine ⟨by omega, by omega, by omega, by omega, by omega, by omega, by omega, m + 1, by omega, by omega, by omega, fun o ho => ?_⟩
      by_cases h : o = k * 7 + m
      · rw [if_pos h]
        subst h
        unfold apTo
        rw [if_pos (by omega), (dm7 (k := k) (m := m) (by omega)).1, (dm7 (k := k) (m := m) (by omega)).2]
      · rw [if_neg h]
        unfold apTo
        exact icg (by omega) rfl rfl
    · rw [wr ((m : Int) + 1) (by omega)]
      refine ⟨m + 1, by omega, by omega, by omega, fun o ho => ?_⟩
      unfold apTo
      exact icg (by omega) rfl rfl
    · rw [wr ((k : Int) + 1) (by omega)]
      refine ⟨k + 1, by omega, by omega, by omega, fun o ho => ?_⟩
      unfold apTo
      exact icg (by omega) rfl rfl
    · intro o ho
      have : k = r := by omega
      rw [this]
  · trivial
def topS : FSpec := fun ds _ => match ds with
  | [.i n] => some { val := .one (.agg [.c (.int .i64 (.sym (topN n))), .c (.bool (.sym (false))), .ints .i64 (.lit 49) (topF n)]), vc := [] }
  | _ => none
def topC : Con := con [iA] topS
theorem top_ok : ConOK Try.prog 95 topC := by
  refine fn_ob tt_ok mixed Try.func95 rfl (fun _ _ => by kernel_rfl) (A := fun ds => ⟨fun _ => Cons.of [(98, zerosC), (125, apartC)], fun k => match k, ds with | 3, [.i n] => some { ι := Nat, pre := fun _ k => 1 ≤ k ∧ k ≤ (topN n + 1).toNat, μ := fun k => 7 - k, st := fun s k => fam s [(4, .one (.sc (.int .i64 (.sym (k : Nat)))))] [2, 3] 3 (.own 89 (zs (.sym (topN n)) (.sym false) (topTo k))) [2] } | _, _ => none, fun _ => none⟩) (fun _ _ => (cons_cons zeros_ok (cons_cons apart_ok cons_nil))) (by kernel_rfl) ?_
  intro ds fr
  unfold topS
  split
  · rename_i n
    refine kmp (q := (∃ (i : Nat),
 ((1 : Nat) ≤ i ∧ i ≤ (topN n + (1 : Int)).toNat) ∧
 (1 : Int) = (↑i : Int) ∧
 min (max n (0 : Int)) (6 : Int) = topN n ∧
 false = false ∧
 (∀ (o : Nat), o < (49 : Nat) → (0 : Int) = topTo i o) ∧
 (0 : Int) = (0 : Int) ∧ false = false ∧ ∀ (o : Nat), o < (49 : Nat) → (0 : Int) = (0 : Int)) ∧
 ∀ (i : Nat),
 (1 : Nat) ≤ i ∧ i ≤ (topN n + (1 : Int)).toNat →
 (decide ((↑i : Int) ≤ topN n) = true →
 ((0 : Int) ≤ (↑i : Int) ∧ (↑i : Int) < (↑(7 : Nat) : Int)) ∧
 nat_lit 0 + (↑i : Int).toNat * (7 : Nat) + (1 : Nat) ≤ (49 : Nat) ∧
 ((0 : Int) ≤ (↑i : Int) ∧ (↑i : Int) < (↑(7 : Nat) : Int)) ∧
 nat_lit 0 + (↑i : Int).toNat * (1 : Nat) + (1 : Nat) ≤ (49 : Nat) ∧
 ∃ (j : Nat),
 ((1 : Nat) ≤ j ∧ j ≤ (topN n + (1 : Int)).toNat) ∧
 (7 : Nat) - j < (7 : Nat) - i ∧
 IntKind.i64.wrap ((↑i : Int) + (1 : Int)) = (↑j : Int) ∧
 topN n = topN n ∧
 false = false ∧
 (∀ (o : Nat),
 o < (49 : Nat) →
 (if
 ((nat_lit 0 + (↑i : Int).toNat * (1 : Nat)).ble o && o.blt (nat_lit 0 + (↑i : Int).toNat * (1 : Nat) + (1 : Nat))) =
 true then
 (2147483648 : Int)
 else
 if
 ((nat_lit 0 + (↑i : Int).toNat * (7 : Nat)).ble o && o.blt (nat_lit 0 + (↑i : Int).toNat * (7 : Nat) + (1 : Nat))) =
 true then
 (2147483647 : Int)
 else topTo i o) =
 topTo j o) ∧
 (0 : Int) = (0 : Int) ∧ false = false ∧ ∀ (o : Nat), o < (49 : Nat) → (0 : Int) = (0 : Int)) ∧
 (decide ((↑i : Int) ≤ topN n) = false →
 Sm (topTo i) ∧ topN n = topN n ∧ false = false ∧ ∀ (o : Nat), o < (49 : Nat) → apF (topN n) (topTo i) o = topF n o)) (by kernel_rfl) ?_
    simp only [raw0, true_and, and_true, implies_true, Nat.mul_one, Int.toNat_natCast, c7, decide_eq_true_eq, decide_eq_false_iff_not, at_iff, and_self]
    have ht : 0 ≤ topN n ∧ topN n ≤ 6 := by unfold topN; omega
    refine ⟨⟨1, by omega, rfl, rfl, fun o ho => ?_⟩, fun k hk => ⟨fun h3 => ?_, fun h3 => ?_⟩⟩
    · unfold topTo; rw [if_neg (by omega), if_neg (by omega)]
    · rw [wr ((k : Int) + 1) (by omega)]
      refine ⟨by omega, by omega, by omega, by omega, k + 1, by omega, by omega, by omega, fun o ho => ?_⟩
      unfold topTo
      (repeat' split) <;> omega
    · have hk2 : k = (topN n + 1).toNat := by omega
      refine ⟨fun o ho => ?_, fun o ho => ?_⟩
      · unfold topTo; (repeat' split) <;> omega
      · unfold topF; rw [hk2]
  · trivial
theorem top_at {n : Int} {i j : Nat} (hi : i < R (topN n)) (hj : j < R (topN n)) : topF n (i * 7 + j) = if i = j then 0 else if j = 0 then 2147483647 else if i = 0 then 2147483648 else 4294967295 := by
  have hR := R_le (topN n)
  have hr : (topN n + 1).toNat = R (topN n) := by have := rows_n (topN_le n); unfold R; rw [this]
  have h7 := dm7 (k := i) (m := j) (by omega)
  unfold topF apF
  rw [hr]
  show apTo (topTo (R (topN n))) (R (topN n)) (R (topN n)) 0 (i * 7 + j) = _
  unfold apTo
  rw [h7.1, h7.2]
  by_cases h1 : i = j
  · rw [if_pos h1, if_neg (by omega)]
    unfold topTo
    rw [if_neg (by omega), if_neg (by omega)]
  · rw [if_neg h1]
    by_cases h2 : j = 0
    · rw [if_pos h2, if_neg (by omega)]
      unfold topTo
      rw [if_pos (by omega)]
    · rw [if_neg h2]
      by_cases h3 : i = 0
      · rw [if_pos h3, if_neg (by omega)]
        unfold topTo
        rw [if_neg (by omega), if_pos (by omega)]
      · rw [if_neg h3, if_pos (by omega)]
        unfold topTo
        rw [if_pos (by omega), if_neg (by omega), if_pos (by omega)]
        rfl
theorem good_top (n : Int) : Good (topN n) (false, topF n) := by
  have hR := R_le (topN n)
  have h0 := topN_le n
  have hr : (topN n + 1).toNat = R (topN n) := by have := rows_n (topN_le n); unfold R; rw [this]
  refine ⟨h0, fun i j hi hj ho => ?_, fun i hi => ?_, fun i j k hi hj hk => ?_, fun i hi => ?_, fun i hi => ?_, fun h => by cases h⟩
  · have h7 := dm7 (k := i) (m := j) hj
    show topF n (i * 7 + j) = 0
    unfold topF apF
    rw [hr]
    show apTo (topTo (R (topN n))) (R (topN n)) (R (topN n)) 0 (i * 7 + j) = _
    unfold apTo
    rw [h7.1, h7.2, if_neg (by omega)]
    unfold topTo
    rw [if_neg (by omega), if_neg (by omega)]
  · show topF n (i * 7 + i) = 0
    rw [top_at hi hi, if_pos rfl]
  · show topF n (i * 7 + j) ≤ topF n (i * 7 + k) + topF n (k * 7 + j)
    rw [top_at hi hj, top_at hi hk, top_at hk hj]
    (repeat' split) <;> omega
  · have e := top_at hi (show 0 < R (topN n) by omega)
    rw [Nat.add_zero] at e
    show topF n (i * 7) ≤ _
    rw [e]
    (repeat' split) <;> omega
  · have e := top_at (show 0 < R (topN n) by omega) hi
    rw [Nat.zero_mul, Nat.zero_add] at e
    show topF n i ≤ _
    rw [e]
    (repeat' split) <;> omega
def ntopS : FSpec := fun ds _ => match ds with
  | [.i n] => some { val := .one (.agg [.c (.bool (.sym ((false, topF n) : Zs).1)), .c (.rows 48 (itD ((topN n).toNat) (topN n) ((false, topF n)))), .c (.int .i64 (.sym (topN n))), .c (.bool (.sym ((false, topF n) : Zs).1)), .ints .i64 (.lit 49) ((false, topF n) : Zs).2]), vc := [] }
  | _ => none
def ntopC : Con := con [iA] ntopS
theorem ntop_ok : ConOK Try.prog 50 ntopC := by
  refine fn_ob tt_ok mixed Try.func50 rfl (fun _ _ => by kernel_rfl) (A := fun ds => ⟨fun _ => Cons.of [(95, topC), (96, nofC)], fun _ => none, fun _ => none⟩) (fun _ _ => (cons_cons top_ok (cons_cons nof_ok cons_nil))) (by kernel_rfl) ?_
  intro ds fr
  unfold ntopS
  split
  · rename_i n
    refine kmp (q := Sm (topF n) ∧
 ((0 : Int) ≤ topN n ∧ topN n ≤ (1000 : Int)) ∧
 false = false ∧
 List.map (fun (j : Nat) => [D.i (itvLo (topN n) false (topF n) (↑j : Int)), D.i (itvHi (topN n) false (topF n) (↑j : Int))]) (List.range (topN n).toNat) =
 List.map (fun (j : Nat) => [D.i (itvLo (topN n) false (topF n) (↑j : Int)), D.i (itvHi (topN n) false (topF n) (↑j : Int))])
 (List.range (topN n).toNat) ∧
 topN n = topN n ∧ false = false ∧ ∀ (o : Nat), o < nat_lit 49 → topF n o = topF n o) (by kernel_rfl) ?_
    simp only [and_true, implies_true, and_self]
    have g := (good_top n).sm
    have ht := topN_le n
    exact ⟨g, ht.1, by omega⟩
  · trivial
end Go.Proofs.Ytbcbcambkjhhhaa.Sx.Z
