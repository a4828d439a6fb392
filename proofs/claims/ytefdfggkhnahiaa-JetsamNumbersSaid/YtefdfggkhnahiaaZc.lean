/-
  zone.Bound, apart, Top, Forget, shifted: what they tell.
-/
import Derived.Test.YtefdfggkhnahiaaZb
namespace Go.Proofs.Ytefdfggkhnahiaa.Sx.Z
open Go.RowKit
def bndC (n : Int) (c : Bool) (f : Nat → Int) (x y by' : Int) : Bool := if (c || !isEndP n x || !isEndP n y) = true then c else bdC c f (x + 1).toNat (y + 1).toNat by'
def bndF (n : Int) (c : Bool) (f : Nat → Int) (x y by' : Int) (o : Nat) : Int := if (c || !isEndP n x || !isEndP n y) = true then f o else bdF n f (x + 1).toNat (y + 1).toNat by' o
theorem isEndP_lt {n x : Int} (h : isEndP n x = true) : -1 ≤ x ∧ x < rowsP n - 1 ∧ x ≤ 5 := by
  have := rowsP_le n
  unfold isEndP at h
  rcases Bool.or_eq_true_iff.1 h with h | h
  · have := eq_of_beq h; omega
  · have := isVarP_lt h; omega
/-- Rows below k, of row k the columns below m. -/
def apTo (f : Nat → Int) (r k m : Nat) (o : Nat) : Int := if (o / 7 < k ∨ o / 7 = k ∧ o % 7 < m) ∧ o % 7 < r ∧ 1 ≤ o / 7 ∧ 1 ≤ o % 7 ∧ o / 7 ≠ o % 7 then f (o / 7 * 7) + f (o % 7) else f o
def apF (n : Int) (f : Nat → Int) (o : Nat) : Int := apTo f (rowsP n).toNat (rowsP n).toNat 0 o
/-- Of Forget the columns and rows below k. -/
def fgTo (f : Nat → Int) (i k : Nat) (o : Nat) : Int := if o / 7 = i ∧ o % 7 ≠ i ∧ o % 7 < k then 2147483647 + f (o % 7) else if o % 7 = i ∧ o / 7 ≠ i ∧ o / 7 < k then f (o / 7 * 7) + 2147483648 else f o
def forgetF (n : Int) (c : Bool) (f : Nat → Int) (x : Int) (o : Nat) : Int := if (c || !isVarP n x) = true then f o else fgTo f (x + 1).toNat (rowsP n).toNat o
def shTo (f : Nat → Int) (i : Nat) (by' : Int) (k : Nat) (o : Nat) : Int := if o / 7 = i ∧ o % 7 ≠ i ∧ o % 7 < k then f o + by' else if o % 7 = i ∧ o / 7 ≠ i ∧ o / 7 < k then f o - by' else f o
def shiftF (n : Int) (c : Bool) (f : Nat → Int) (i : Nat) (by' : Int) (o : Nat) : Int := if c = true then f o else shTo f i by' (rowsP n).toNat o
def topN (n : Int) : Int := min (max n 0) 6
def topTo (k : Nat) (o : Nat) : Int := if 1 ≤ o / 7 ∧ o / 7 < k ∧ o % 7 = 0 then 2147483647 else if 1 ≤ o ∧ o < k then 2147483648 else 0
def topF (n : Int) : Nat → Int := apF (topN n) (topTo (topN n + 1).toNat)
def boundS : FSpec := fun ds _ => match ds with
  | [.i n, .b c, .f f, .i x, .i y, .i by_] => some { val := .one (.agg [.c (.int .i64 (.sym (n))), .c (.bool (.sym (bndC n c f x y by_))), .ints .i64 (.lit 49) (bndF n c f x y by_)]), vc := [Sm f] }
  | _ => none
def boundC : Con := con [zA, iA, iA, iA] boundS
theorem bound_ok : ConOK Try.prog 46 boundC := by
  refine fn_ob tt_ok mixed Try.func46 rfl (fun _ _ => by kernel_rfl) (A := fun ds => ⟨fun _ => Cons.of [(62, isEndC), (63, boundedC)], fun _ => none, fun _ => none⟩) (fun _ _ => (cons_cons isEnd_ok (cons_cons bounded_ok cons_nil))) (by kernel_rfl) ?_
  intro ds fr
  unfold boundS
  split
  · rename_i n c f x y by_
    refine kmp (q := Sm f →
 ((c || !isEndP n x || !isEndP n y) = true → n = n ∧ c = bndC n c f x y by_ ∧ ∀ (o : Nat), o < (49 : Nat) → f o = bndF n c f x y by_ o) ∧
 ((c || !isEndP n x || !isEndP n y) = false →
 Sm f ∧
 ((0 : Int) ≤ IntKind.i64.wrap (x + (1 : Int)) ∧ IntKind.i64.wrap (x + (1 : Int)) < (7 : Int)) ∧
 ((0 : Int) ≤ IntKind.i64.wrap (y + (1 : Int)) ∧ IntKind.i64.wrap (y + (1 : Int)) < (7 : Int)) ∧
 n = n ∧
 bdC c f (IntKind.i64.wrap (x + (1 : Int))).toNat (IntKind.i64.wrap (y + (1 : Int))).toNat by_ = bndC n c f x y by_ ∧
 ∀ (o : Nat),
 o < (49 : Nat) → bdF n f (IntKind.i64.wrap (x + (1 : Int))).toNat (IntKind.i64.wrap (y + (1 : Int))).toNat by_ o = bndF n c f x y by_ o)) (by kernel_rfl) ?_
    simp only [raw0, true_and, and_true, implies_true, Nat.mul_one, Int.toNat_natCast, c7, decide_eq_true_eq, decide_eq_false_iff_not, Nat.zero_add, forall_const, Nat.le_eq, at_iff, bne_iff_ne, bne_eq_false_iff_eq, and_self, and_self_left]
    intro hs
    refine ⟨fun h => ?_, fun h => ?_⟩
    · unfold bndC bndF; simp only [if_pos h]; exact ⟨trivial, fun _ _ => trivial⟩
    · have hx := isEndP_lt (show isEndP n x = true by revert h; cases c <;> cases isEndP n x <;> simp)
      have hy := isEndP_lt (show isEndP n y = true by revert h; cases c <;> cases isEndP n x <;> cases isEndP n y <;> simp)
      rw [wr (x + 1) (by omega), wr (y + 1) (by omega)]
      unfold bndC bndF
      simp only [h, Bool.false_eq_true, if_false]
      exact ⟨hs, by omega, by omega, trivial, fun _ _ => trivial⟩
  · trivial
def apartS : FSpec := fun ds _ => match ds with
  | [.i n, .b c, .f f] => some { val := .one (.agg [.c (.int .i64 (.sym (n))), .c (.bool (.sym (c))), .ints .i64 (.lit 49) (apF n f)]), vc := [Sm f] }
  | _ => none
def apartC : Con := con [zA] apartS
theorem apart_ok : ConOK Try.prog 61 apartC := by
  refine fn_ob tt_ok mixed Try.func61 rfl (fun _ _ => by kernel_rfl) (A := fun ds => ⟨fun _ => Cons.of [(65, rowsC)], fun k => match k, ds with | 2, [.i n, .b c, .f f] => some { ι := Nat, pre := fun _ k => 1 ≤ k ∧ k ≤ (rowsP n).toNat, μ := fun k => 7 - k, st := fun s k => fam s [(3, .one (.sc (.int .i64 (.sym (k : Nat)))))] [1, 2] 1 (.own 28 (zs (.sym n) (.sym c) (apTo f (rowsP n).toNat k 0))) [2] } | 5, [.i n, .b c, .f f] => some { ι := Nat, pre := fun _ m => 1 ≤ m ∧ m ≤ (rowsP n).toNat, μ := fun m => 7 - m, st := fun s m => fam s [(4, .one (.sc (.int .i64 (.sym (m : Nat)))))] [1, 2, 3] 1 (.own 28 (zs (.sym n) (.sym c) (apTo f (rowsP n).toNat (slotN s 3) m))) [2] } | _, _ => none, fun _ => none⟩) (fun _ _ => (cons_cons rows_ok cons_nil)) (by kernel_rfl) ?_
  intro ds fr
  unfold apartS
  split
  · rename_i n c f
    refine kmp (q := Sm f →
 (∃ (i : Nat),
 ((1 : Nat) ≤ i ∧ i ≤ (rowsP n).toNat) ∧
 (1 : Int) = (↑i : Int) ∧
 n = n ∧
 c = c ∧
 (∀ (o : Nat), o < (49 : Nat) → f o = apTo f (rowsP n).toNat i (0 : Nat) o) ∧
 (0 : Int) = (0 : Int) ∧ false = false ∧ ∀ (o : Nat), o < (49 : Nat) → (0 : Int) = (0 : Int)) ∧
 ∀ (i : Nat),
 (1 : Nat) ≤ i ∧ i ≤ (rowsP n).toNat →
 (decide ((↑i : Int) < rowsP n) = true →
 (∃ (i_1 : Nat),
 ((1 : Nat) ≤ i_1 ∧ i_1 ≤ (rowsP n).toNat) ∧
 (1 : Int) = (↑i_1 : Int) ∧
 (↑i : Int) = (↑i : Int) ∧
 n = n ∧
 c = c ∧
 (∀ (o : Nat), o < (49 : Nat) → apTo f (rowsP n).toNat i (0 : Nat) o = apTo f (rowsP n).toNat (↑i : Int).toNat i_1 o) ∧
 (0 : Int) = (0 : Int) ∧ false = false ∧ ∀ (o : Nat), o < (49 : Nat) → (0 : Int) = (0 : Int)) ∧
 ∀ (i_1 : Nat),
 (1 : Nat) ≤ i_1 ∧ i_1 ≤ (rowsP n).toNat →
 (decide ((↑i_1 : Int) < rowsP n) = true →
 (((↑i : Int) != (↑i_1 : Int)) = true →
 ((0 : Int) ≤ (↑i : Int) ∧ (↑i : Int) < (↑(7 : Nat) : Int)) ∧
 nat_lit 0 + (↑i : Int).toNat * (7 : Nat) < (49 : Nat) ∧
 ((0 : Int) ≤ (↑i_1 : Int) ∧ (↑i_1 : Int) < (↑(7 : Nat) : Int)) ∧
 nat_lit 0 + (↑i_1 : Int).toNat * (1 : Nat) < (49 : Nat) ∧
 ((0 : Int) ≤ (↑i : Int) ∧ (↑i : Int) < (↑(7 : Nat) : Int)) ∧
 ((0 : Int) ≤ (↑i_1 : Int) ∧ (↑i_1 : Int) < (↑(7 : Nat) : Int)) ∧
 nat_lit 0 + ((↑i : Int).toNat * (7 : Nat) + (↑i_1 : Int).toNat * (1 : Nat)) + (1 : Nat) ≤ (49 : Nat) ∧
 ∃ (j : Nat),
 ((1 : Nat) ≤ j ∧ j ≤ (rowsP n).toNat) ∧
 (7 : Nat) - j < (7 : Nat) - i_1 ∧
 IntKind.i64.wrap ((↑i_1 : Int) + (1 : Int)) = (↑j : Int) ∧
 (↑i : Int) = (↑i : Int) ∧
 n = n ∧
 c = c ∧
 (∀ (o : Nat),
 o < (49 : Nat) →
 (if
 ((nat_lit 0 + ((↑i : Int).toNat * (7 : Nat) + (↑i_1 : Int).toNat * (1 : Nat))).ble o &&
 o.blt
 (nat_lit 0 + ((↑i : Int).toNat * (7 : Nat) + (↑i_1 : Int).toNat * (1 : Nat)) +
 (1 : Nat))) =
 true then
 IntKind.i64.wrap
 (apTo f (rowsP n).toNat (↑i : Int).toNat i_1 (nat_lit 0 + (↑i : Int).toNat * (7 : Nat)) +
 apTo f (rowsP n).toNat (↑i : Int).toNat i_1 (nat_lit 0 + (↑i_1 : Int).toNat * (1 : Nat)))
 else apTo f (rowsP n).toNat (↑i : Int).toNat i_1 o) =
 apTo f (rowsP n).toNat (↑i : Int).toNat j o) ∧
 (0 : Int) = (0 : Int) ∧ false = false ∧ ∀ (o : Nat), o < (49 : Nat) → (0 : Int) = (0 : Int)) ∧
 (((↑i : Int) != (↑i_1 : Int)) = false →
 ∃ (j : Nat),
 ((1 : Nat) ≤ j ∧ j ≤ (rowsP n).toNat) ∧
 (7 : Nat) - j < (7 : Nat) - i_1 ∧
 IntKind.i64.wrap ((↑i_1 : Int) + (1 : Int)) = (↑j : Int) ∧
 (↑i : Int) = (↑i : Int) ∧
 n = n ∧
 c = c ∧
 (∀ (o : Nat),
 o < (49 : Nat) → apTo f (rowsP n).toNat (↑i : Int).toNat i_1 o = apTo f (rowsP n).toNat (↑i : Int).toNat j o) ∧
 (0 : Int) = (0 : Int) ∧ false = false ∧ ∀ (o : Nat), o < (49 : Nat) → (0 : Int) = (0 : Int))) ∧
 (decide ((↑i_1 : Int) < rowsP n) = false →
 ∃ (j : Nat),
 ((1 : Nat) ≤ j ∧ j ≤ (rowsP n).toNat) ∧
 (7 : Nat) - j < (7 : Nat) - i ∧
 IntKind.i64.wrap ((↑i : Int) + (1 : Int)) = (↑j : Int) ∧
 n = n ∧
 c = c ∧
 (∀ (o : Nat), o < (49 : Nat) → apTo f (rowsP n).toNat (↑i : Int).toNat i_1 o = apTo f (rowsP n).toNat j (0 : Nat) o) ∧
 (0 : Int) = (0 : Int) ∧ false = false ∧ ∀ (o : Nat), o < (49 : Nat) → (0 : Int) = (0 : Int))) ∧
 (decide ((↑i : Int) < rowsP n) = false → n = n ∧ c = c ∧ ∀ (o : Nat), o < (49 : Nat) → apTo f (rowsP n).toNat i (0 : Nat) o = apF n f o)) (by kernel_rfl) ?_
    simp only [raw0, true_and, and_true, implies_true, Nat.mul_one, Int.toNat_natCast, c7, decide_eq_true_eq, decide_eq_false_iff_not, Nat.zero_add, forall_const, Nat.le_eq, at_iff, bne_iff_ne, bne_eq_false_iff_eq, and_self, and_self_left]
    intro hs
    have hr := rowsP_le n
    obtain ⟨r, hre⟩ := Int.eq_ofNat_of_zero_le (show 0 ≤ rowsP n by omega)
    unfold apF
    rw [hre] at hr ⊢
    simp only [Int.toNat_natCast]
    refine ⟨⟨1, by omega, rfl, fun o ho => ?_⟩, fun k hk => ⟨fun h3 => ⟨⟨1, by omega, rfl, fun o ho => ?_⟩, fun m hm => ⟨fun h4 => ⟨fun h5 => ?_, fun h5 => ?_⟩, fun h4 => ?_⟩⟩, fun h3 => ?_⟩⟩
    · unfold apTo; rw [if_neg (by omega)]
    · unfold apTo; exact icg (by omega) rfl rfl
    · have e1 : apTo f r k m (k * 7) = f (k * 7) := by unfold apTo; rw [if_neg (by omega)]
      have e2 : apTo f r k m m = f m := by unfold apTo; rw [if_neg (by omega)]
      have q1 := hs (k * 7) (by omega)
      have q2 := hs m (by omega)
      rw [e1, e2, wr (f (k * 7) + f m) (by omega), wr ((m : Int) + 1) (by omega)]
      refine ⟨by omega, by omega, by omega, by omega, by omega, by omega, by omega, m + 1, by omega, by omega, by omega, fun o ho => ?_⟩
      by_cases h : o = k * 7 + m
      · rw [if_pos h]
        subst h
        unfold apTo
        rw [if_pos (by omega), (dm7 (k := k) (m := m) (by omega)).1, (dm7 (k := k) (m := m) (by omega)).2]
      · rw [if_neg h]
        unfold apTo
        exact icg (by omega) rfl rfl
    · rw [wr ((m : Int) + 1) (by omega)]
      refine ⟨m + 1, by omega, by omega, by omega, fun o ho => ?_⟩
      unfold apTo
      exact icg (by omega) rfl rfl
    · rw [wr ((k : Int) + 1) (by omega)]
      refine ⟨k + 1, by omega, by omega, by omega, fun o ho => ?_⟩
      unfold apTo
      exact icg (by omega) rfl rfl
    · intro o ho
      have : k = r := by omega
      rw [this]
  · trivial
def topS : FSpec := fun ds _ => match ds with
  | [.i n] => some { val := .one (.agg [.c (.int .i64 (.sym (topN n))), .c (.bool (.sym (false))), .ints .i64 (.lit 49) (topF n)]), vc := [] }
  | _ => none
def topC : Con := con [iA] topS
theorem top_ok : ConOK Try.prog 39 topC := by
  refine fn_ob tt_ok mixed Try.func39 rfl (fun _ _ => by kernel_rfl) (A := fun ds => ⟨fun _ => Cons.of [(42, zerosC), (61, apartC)], fun k => match k, ds with | 3, [.i n] => some { ι := Nat, pre := fun _ k => 1 ≤ k ∧ k ≤ (topN n + 1).toNat, μ := fun k => 7 - k, st := fun s k => fam s [(4, .one (.sc (.int .i64 (.sym (k : Nat)))))] [2, 3] 3 (.own 28 (zs (.sym (topN n)) (.sym false) (topTo k))) [2] } | _, _ => none, fun _ => none⟩) (fun _ _ => (cons_cons zeros_ok (cons_cons apart_ok cons_nil))) (by kernel_rfl) ?_
  intro ds fr
  unfold topS
  split
  · rename_i n
    refine kmp (q := (∃ (i : Nat),
 ((1 : Nat) ≤ i ∧ i ≤ (topN n + (1 : Int)).toNat) ∧
 (1 : Int) = (↑i : Int) ∧
 min (max n (0 : Int)) (6 : Int) = topN n ∧
 false = false ∧
 (∀ (o : Nat), o < (49 : Nat) → (0 : Int) = topTo i o) ∧
 (0 : Int) = (0 : Int) ∧ false = false ∧ ∀ (o : Nat), o < (49 : Nat) → (0 : Int) = (0 : Int)) ∧
 ∀ (i : Nat),
 (1 : Nat) ≤ i ∧ i ≤ (topN n + (1 : Int)).toNat →
 (decide ((↑i : Int) ≤ topN n) = true →
 ((0 : Int) ≤ (↑i : Int) ∧ (↑i : Int) < (↑(7 : Nat) : Int)) ∧
 nat_lit 0 + (↑i : Int).toNat * (7 : Nat) + (1 : Nat) ≤ (49 : Nat) ∧
 ((0 : Int) ≤ (↑i : Int) ∧ (↑i : Int) < (↑(7 : Nat) : Int)) ∧
 nat_lit 0 + (↑i : Int).toNat * (1 : Nat) + (1 : Nat) ≤ (49 : Nat) ∧
 ∃ (j : Nat),
 ((1 : Nat) ≤ j ∧ j ≤ (topN n + (1 : Int)).toNat) ∧
 (7 : Nat) - j < (7 : Nat) - i ∧
 IntKind.i64.wrap ((↑i : Int) + (1 : Int)) = (↑j : Int) ∧
 topN n = topN n ∧
 false = false ∧
 (∀ (o : Nat),
 o < (49 : Nat) →
 (if
 ((nat_lit 0 + (↑i : Int).toNat * (1 : Nat)).ble o && o.blt (nat_lit 0 + (↑i : Int).toNat * (1 : Nat) + (1 : Nat))) =
 true then
 (2147483648 : Int)
 else
 if
 ((nat_lit 0 + (↑i : Int).toNat * (7 : Nat)).ble o && o.blt (nat_lit 0 + (↑i : Int).toNat * (7 : Nat) + (1 : Nat))) =
 true then
 (2147483647 : Int)
 else topTo i o) =
 topTo j o) ∧
 (0 : Int) = (0 : Int) ∧ false = false ∧ ∀ (o : Nat), o < (49 : Nat) → (0 : Int) = (0 : Int)) ∧
 (decide ((↑i : Int) ≤ topN n) = false →
 Sm (topTo i) ∧ topN n = topN n ∧ false = false ∧ ∀ (o : Nat), o < (49 : Nat) → apF (topN n) (topTo i) o = topF n o)) (by kernel_rfl) ?_
    simp only [raw0, true_and, and_true, implies_true, Nat.mul_one, Int.toNat_natCast, c7, decide_eq_true_eq, decide_eq_false_iff_not, Nat.zero_add, forall_const, Nat.le_eq, at_iff, bne_iff_ne, bne_eq_false_iff_eq, and_self, and_self_left]
    have ht : 0 ≤ topN n ∧ topN n ≤ 6 := by unfold topN; omega
    refine ⟨⟨1, by omega, rfl, rfl, fun o ho => ?_⟩, fun k hk => ⟨fun h3 => ?_, fun h3 => ?_⟩⟩
    · unfold topTo; rw [if_neg (by omega), if_neg (by omega)]
    · rw [wr ((k : Int) + 1) (by omega)]
      refine ⟨by omega, by omega, by omega, by omega, k + 1, by omega, by omega, by omega, fun o ho => ?_⟩
      unfold topTo
      (repeat' split) <;> omega
    · have hk2 : k = (topN n + 1).toNat := by omega
      refine ⟨fun o ho => ?_, fun o ho => ?_⟩
      · unfold topTo; (repeat' split) <;> omega
      · unfold topF; rw [hk2]
  · trivial
def forgetS : FSpec := fun ds _ => match ds with
  | [.i n, .b c, .f f, .i x] => some { val := .one (.agg [.c (.int .i64 (.sym (n))), .c (.bool (.sym (c))), .ints .i64 (.lit 49) (forgetF n c f x)]), vc := [Sm f] }
  | _ => none
def forgetC : Con := con [zA, iA] forgetS
theorem forget_ok : ConOK Try.prog 53 forgetC := by
  refine fn_ob tt_ok mixed Try.func53 rfl (fun _ _ => by kernel_rfl) (A := fun ds => ⟨fun _ => Cons.of [(60, isVarC), (65, rowsC)], fun k => match k, ds with | 5, [.i n, .b c, .f f, .i x] => some { ι := Nat, pre := fun _ k => k ≤ (rowsP n).toNat, μ := fun k => 7 - k, st := fun s k => fam s [(20, .one (.sc (.int .i64 (.sym (k : Nat)))))] [2, 4, 5, 19] 2 (.own 28 (zs (.sym n) (.sym c) (fgTo f (x + 1).toNat k))) [4] } | _, _ => none, fun _ => none⟩) (fun _ _ => (cons_cons isVar_ok (cons_cons rows_ok cons_nil))) (by kernel_rfl) ?_
  intro ds fr
  unfold forgetS
  split
  · rename_i n c f x
    refine kmp (q := Sm f →
 ((c || !isVarP n x) = true → n = n ∧ c = c ∧ ∀ (o : Nat), o < (49 : Nat) → f o = forgetF n c f x o) ∧
 ((c || !isVarP n x) = false →
 (∃ (i : Nat),
 i.le (rowsP n).toNat ∧
 (0 : Int) = (↑i : Int) ∧
 IntKind.i64.wrap (x + (1 : Int)) = IntKind.i64.wrap (x + (1 : Int)) ∧
 rowsP n = rowsP n ∧
 n = n ∧
 c = c ∧
 (∀ (o : Nat), o < (49 : Nat) → f o = fgTo f (x + (1 : Int)).toNat i o) ∧
 (0 : Int) = (0 : Int) ∧ false = false ∧ ∀ (o : Nat), o < (49 : Nat) → (0 : Int) = (0 : Int)) ∧
 ∀ (i : Nat),
 i.le (rowsP n).toNat →
 (decide ((↑i : Int) < rowsP n) = true →
 (((↑i : Int) != IntKind.i64.wrap (x + (1 : Int))) = true →
 ((0 : Int) ≤ (↑i : Int) ∧ (↑i : Int) < (↑(7 : Nat) : Int)) ∧
 nat_lit 0 + (↑i : Int).toNat * (1 : Nat) < (49 : Nat) ∧
 ((0 : Int) ≤ IntKind.i64.wrap (x + (1 : Int)) ∧ IntKind.i64.wrap (x + (1 : Int)) < (↑(7 : Nat) : Int)) ∧
 ((0 : Int) ≤ (↑i : Int) ∧ (↑i : Int) < (↑(7 : Nat) : Int)) ∧
 nat_lit 0 + ((IntKind.i64.wrap (x + (1 : Int))).toNat * (7 : Nat) + (↑i : Int).toNat * (1 : Nat)) + (1 : Nat) ≤ (49 : Nat) ∧
 ((0 : Int) ≤ (↑i : Int) ∧ (↑i : Int) < (↑(7 : Nat) : Int)) ∧
 nat_lit 0 + (↑i : Int).toNat * (7 : Nat) < (49 : Nat) ∧
 ((0 : Int) ≤ (↑i : Int) ∧ (↑i : Int) < (↑(7 : Nat) : Int)) ∧
 ((0 : Int) ≤ IntKind.i64.wrap (x + (1 : Int)) ∧ IntKind.i64.wrap (x + (1 : Int)) < (↑(7 : Nat) : Int)) ∧
 nat_lit 0 + ((↑i : Int).toNat * (7 : Nat) + (IntKind.i64.wrap (x + (1 : Int))).toNat * (1 : Nat)) + (1 : Nat) ≤
 (49 : Nat) ∧
 ∃ (j : Nat),
 j.le (rowsP n).toNat ∧
 (7 : Nat) - j < (7 : Nat) - i ∧
 IntKind.i64.wrap ((↑i : Int) + (1 : Int)) = (↑j : Int) ∧
 IntKind.i64.wrap (x + (1 : Int)) = IntKind.i64.wrap (x + (1 : Int)) ∧
 rowsP n = rowsP n ∧
 n = n ∧
 c = c ∧
 (∀ (o : Nat),
 o < (49 : Nat) →
 (if
 ((nat_lit 0 +
 ((↑i : Int).toNat * (7 : Nat) +
 (IntKind.i64.wrap (x + (1 : Int))).toNat * (1 : Nat))).ble
 o &&
 o.blt
 (nat_lit 0 +
 ((↑i : Int).toNat * (7 : Nat) +
 (IntKind.i64.wrap (x + (1 : Int))).toNat * (1 : Nat)) +
 (1 : Nat))) =
 true then
 IntKind.i64.wrap
 ((if
 ((nat_lit 0 +
 ((IntKind.i64.wrap (x + (1 : Int))).toNat * (7 : Nat) +
 (↑i : Int).toNat * (1 : Nat))).ble
 (nat_lit 0 + (↑i : Int).toNat * (7 : Nat)) &&
 (nat_lit 0 + (↑i : Int).toNat * (7 : Nat)).blt
 (nat_lit 0 +
 ((IntKind.i64.wrap (x + (1 : Int))).toNat * (7 : Nat) +
 (↑i : Int).toNat * (1 : Nat)) +
 (1 : Nat))) =
 true then
 IntKind.i64.wrap
 ((2147483647 : Int) +
 fgTo f (x + (1 : Int)).toNat i (nat_lit 0 + (↑i : Int).toNat * (1 : Nat)))
 else fgTo f (x + (1 : Int)).toNat i (nat_lit 0 + (↑i : Int).toNat * (7 : Nat))) -
 (-2147483648 : Int))
 else
 if
 ((nat_lit 0 +
 ((IntKind.i64.wrap (x + (1 : Int))).toNat * (7 : Nat) +
 (↑i : Int).toNat * (1 : Nat))).ble
 o &&
 o.blt
 (nat_lit 0 +
 ((IntKind.i64.wrap (x + (1 : Int))).toNat * (7 : Nat) +
 (↑i : Int).toNat * (1 : Nat)) +
 (1 : Nat))) =
 true then
 IntKind.i64.wrap
 ((2147483647 : Int) +
 fgTo f (x + (1 : Int)).toNat i (nat_lit 0 + (↑i : Int).toNat * (1 : Nat)))
 else fgTo f (x + (1 : Int)).toNat i o) =
 fgTo f (x + (1 : Int)).toNat j o) ∧
 (0 : Int) = (0 : Int) ∧ false = false ∧ ∀ (o : Nat), o < (49 : Nat) → (0 : Int) = (0 : Int)) ∧
 (((↑i : Int) != IntKind.i64.wrap (x + (1 : Int))) = false →
 ∃ (j : Nat),
 j.le (rowsP n).toNat ∧
 (7 : Nat) - j < (7 : Nat) - i ∧
 IntKind.i64.wrap ((↑i : Int) + (1 : Int)) = (↑j : Int) ∧
 IntKind.i64.wrap (x + (1 : Int)) = IntKind.i64.wrap (x + (1 : Int)) ∧
 rowsP n = rowsP n ∧
 n = n ∧
 c = c ∧
 (∀ (o : Nat), o < (49 : Nat) → fgTo f (x + (1 : Int)).toNat i o = fgTo f (x + (1 : Int)).toNat j o) ∧
 (0 : Int) = (0 : Int) ∧ false = false ∧ ∀ (o : Nat), o < (49 : Nat) → (0 : Int) = (0 : Int))) ∧
 (decide ((↑i : Int) < rowsP n) = false → n = n ∧ c = c ∧ ∀ (o : Nat), o < (49 : Nat) → fgTo f (x + (1 : Int)).toNat i o = forgetF n c f x o))) (by kernel_rfl) ?_
    simp only [raw0, true_and, and_true, implies_true, Nat.mul_one, Int.toNat_natCast, c7, decide_eq_true_eq, decide_eq_false_iff_not, Nat.zero_add, forall_const, Nat.le_eq, at_iff, bne_iff_ne, bne_eq_false_iff_eq, and_self, and_self_left]
    intro hs
    refine ⟨fun h => ?_, fun h => ?_⟩
    · unfold forgetF; simp only [if_pos h]; exact fun _ _ => trivial
    · have hx := isVarP_lt (show isVarP n x = true by revert h; cases c <;> cases isVarP n x <;> simp)
      unfold forgetF
      simp only [h, Bool.false_eq_true, if_false]
      have hr := rowsP_le n
      obtain ⟨r, hre⟩ := Int.eq_ofNat_of_zero_le (show 0 ≤ rowsP n by omega)
      obtain ⟨a, ha⟩ := Int.eq_ofNat_of_zero_le (show 0 ≤ x + 1 by omega)
      rw [hre] at hr hx ⊢
      rw [wr (x + 1) (by omega), ha]
      simp only [Int.toNat_natCast]
      refine ⟨⟨0, by omega, rfl, fun o ho => ?_⟩, fun k hk => ⟨fun h3 => ⟨fun h5 => ?_, fun h5 => ?_⟩, fun h3 o ho => ?_⟩⟩
      · unfold fgTo; rw [if_neg (by omega), if_neg (by omega)]
      · have e1 : fgTo f a k k = f k := by unfold fgTo; rw [if_neg (by omega), if_neg (by omega)]
        have e2 : fgTo f a k (k * 7) = f (k * 7) := by unfold fgTo; rw [if_neg (by omega), if_neg (by omega)]
        have q1 := hs k (by omega)
        have q2 := hs (k * 7) (by omega)
        rw [e1, e2, wr (2147483647 + f k) (by omega), if_neg (show ¬ k * 7 = a * 7 + k by omega), wr (f (k * 7) - -2147483648) (by omega), wr ((k : Int) + 1) (by omega)]
        refine ⟨by omega, by omega, by omega, by omega, by omega, by omega, by omega, by omega, by omega, by omega, k + 1, by omega, by omega, by omega, fun o ho => ?_⟩
        by_cases h6 : o = k * 7 + a
        · rw [if_pos h6]
          subst h6
          unfold fgTo
          rw [if_neg (by omega), if_pos (by omega), (dm7 (k := k) (m := a) (by omega)).1]
          omega
        · rw [if_neg h6]
          by_cases h7 : o = a * 7 + k
          · rw [if_pos h7]
            subst h7
            unfold fgTo
            rw [if_pos (by omega), (dm7 (k := a) (m := k) (by omega)).2]
          · rw [if_neg h7]
            unfold fgTo
            exact icg (by omega) rfl (icg (by omega) rfl rfl)
      · rw [wr ((k : Int) + 1) (by omega)]
        refine ⟨k + 1, by omega, by omega, by omega, fun o ho => ?_⟩
        unfold fgTo
        exact icg (by omega) rfl (icg (by omega) rfl rfl)
      · have : k = r := by omega
        rw [this]
  · trivial
def shiftedS : FSpec := fun ds _ => match ds with
  | [.i n, .b c, .f f, .i i, .i by_] => some { val := .one (.agg [.c (.int .i64 (.sym (n))), .c (.bool (.sym (c))), .ints .i64 (.lit 49) (shiftF n c f i.toNat by_)]), vc := [Sm f, (0 ≤ i ∧ i < 7), (-2199023255552 ≤ by_ ∧ by_ ≤ 2199023255552)] }
  | _ => none
def shiftedC : Con := con [zA, iA, iA] shiftedS
theorem shifted_ok : ConOK Try.prog 66 shiftedC := by
  refine fn_ob tt_ok mixed Try.func66 rfl (fun _ _ => by kernel_rfl) (A := fun ds => ⟨fun _ => Cons.of [(65, rowsC)], fun k => match k, ds with | 4, [.i n, .b c, .f f, .i i, .i by_] => some { ι := Nat, pre := fun _ k => k ≤ (rowsP n).toNat, μ := fun k => 7 - k, st := fun s k => fam s [(13, .one (.sc (.int .i64 (.sym (k : Nat)))))] [1, 2, 3, 6, 12] 3 (.own 28 (zs (.sym n) (.sym c) (shTo f i.toNat by_ k))) [6] } | _, _ => none, fun _ => none⟩) (fun _ _ => (cons_cons rows_ok cons_nil)) (by kernel_rfl) ?_
  intro ds fr
  unfold shiftedS
  split
  · rename_i n c f i by_
    refine kmp (q := Sm f →
 (0 : Int) ≤ i ∧ i < (7 : Int) →
 (-2199023255552 : Int) ≤ by_ ∧ by_ ≤ (2199023255552 : Int) →
 (c = true → n = n ∧ c = c ∧ ∀ (o : Nat), o < (49 : Nat) → f o = shiftF n c f i.toNat by_ o) ∧
 (c = false →
 (∃ (i_1 : Nat),
 i_1.le (rowsP n).toNat ∧
 (0 : Int) = (↑i_1 : Int) ∧
 i = i ∧
 by_ = by_ ∧
 rowsP n = rowsP n ∧
 n = n ∧
 c = c ∧
 (∀ (o : Nat), o < (49 : Nat) → f o = shTo f i.toNat by_ i_1 o) ∧
 (0 : Int) = (0 : Int) ∧ false = false ∧ ∀ (o : Nat), o < (49 : Nat) → (0 : Int) = (0 : Int)) ∧
 ∀ (i_1 : Nat),
 i_1.le (rowsP n).toNat →
 (decide ((↑i_1 : Int) < rowsP n) = true →
 (((↑i_1 : Int) != i) = true →
 ((0 : Int) ≤ i ∧ i < (↑(7 : Nat) : Int)) ∧
 ((0 : Int) ≤ (↑i_1 : Int) ∧ (↑i_1 : Int) < (↑(7 : Nat) : Int)) ∧
 nat_lit 0 + (i.toNat * (7 : Nat) + (↑i_1 : Int).toNat * (1 : Nat)) < (49 : Nat) ∧
 ((0 : Int) ≤ i ∧ i < (↑(7 : Nat) : Int)) ∧
 ((0 : Int) ≤ (↑i_1 : Int) ∧ (↑i_1 : Int) < (↑(7 : Nat) : Int)) ∧
 nat_lit 0 + (i.toNat * (7 : Nat) + (↑i_1 : Int).toNat * (1 : Nat)) + (1 : Nat) ≤ (49 : Nat) ∧
 ((0 : Int) ≤ (↑i_1 : Int) ∧ (↑i_1 : Int) < (↑(7 : Nat) : Int)) ∧
 ((0 : Int) ≤ i ∧ i < (↑(7 : Nat) : Int)) ∧
 nat_lit 0 + ((↑i_1 : Int).toNat * (7 : Nat) + i.toNat * (1 : Nat)) < (49 : Nat) ∧
 ((0 : Int) ≤ (↑i_1 : Int) ∧ (↑i_1 : Int) < (↑(7 : Nat) : Int)) ∧
 ((0 : Int) ≤ i ∧ i < (↑(7 : Nat) : Int)) ∧
 nat_lit 0 + ((↑i_1 : Int).toNat * (7 : Nat) + i.toNat * (1 : Nat)) + (1 : Nat) ≤ (49 : Nat) ∧
 ∃ (j : Nat),
 j.le (rowsP n).toNat ∧
 (7 : Nat) - j < (7 : Nat) - i_1 ∧
 IntKind.i64.wrap ((↑i_1 : Int) + (1 : Int)) = (↑j : Int) ∧
 i = i ∧
 by_ = by_ ∧
 rowsP n = rowsP n ∧
 n = n ∧
 c = c ∧
 (∀ (o : Nat),
 o < (49 : Nat) →
 (if
 ((nat_lit 0 + ((↑i_1 : Int).toNat * (7 : Nat) + i.toNat * (1 : Nat))).ble o &&
 o.blt
 (nat_lit 0 + ((↑i_1 : Int).toNat * (7 : Nat) + i.toNat * (1 : Nat)) +
 (1 : Nat))) =
 true then
 IntKind.i64.wrap
 ((if
 ((nat_lit 0 + (i.toNat * (7 : Nat) + (↑i_1 : Int).toNat * (1 : Nat))).ble
 (nat_lit 0 +
 ((↑i_1 : Int).toNat * (7 : Nat) + i.toNat * (1 : Nat))) &&
 (nat_lit 0 + ((↑i_1 : Int).toNat * (7 : Nat) + i.toNat * (1 : Nat))).blt
 (nat_lit 0 + (i.toNat * (7 : Nat) + (↑i_1 : Int).toNat * (1 : Nat)) +
 (1 : Nat))) =
 true then
 IntKind.i64.wrap
 (shTo f i.toNat by_ i_1
 (nat_lit 0 + (i.toNat * (7 : Nat) + (↑i_1 : Int).toNat * (1 : Nat))) +
 by_)
 else
 shTo f i.toNat by_ i_1
 (nat_lit 0 + ((↑i_1 : Int).toNat * (7 : Nat) + i.toNat * (1 : Nat)))) -
 by_)
 else
 if
 ((nat_lit 0 + (i.toNat * (7 : Nat) + (↑i_1 : Int).toNat * (1 : Nat))).ble o &&
 o.blt
 (nat_lit 0 + (i.toNat * (7 : Nat) + (↑i_1 : Int).toNat * (1 : Nat)) +
 (1 : Nat))) =
 true then
 IntKind.i64.wrap
 (shTo f i.toNat by_ i_1
 (nat_lit 0 + (i.toNat * (7 : Nat) + (↑i_1 : Int).toNat * (1 : Nat))) +
 by_)
 else shTo f i.toNat by_ i_1 o) =
 shTo f i.toNat by_ j o) ∧
 (0 : Int) = (0 : Int) ∧
 false = false ∧ ∀ (o : Nat), o < (49 : Nat) → (0 : Int) = (0 : Int)) ∧
 (((↑i_1 : Int) != i) = false →
 ∃ (j : Nat),
 j.le (rowsP n).toNat ∧
 (7 : Nat) - j < (7 : Nat) - i_1 ∧
 IntKind.i64.wrap ((↑i_1 : Int) + (1 : Int)) = (↑j : Int) ∧
 i = i ∧
 by_ = by_ ∧
 rowsP n = rowsP n ∧
 n = n ∧
 c = c ∧
 (∀ (o : Nat), o < (49 : Nat) → shTo f i.toNat by_ i_1 o = shTo f i.toNat by_ j o) ∧
 (0 : Int) = (0 : Int) ∧ false = false ∧ ∀ (o : Nat), o < (49 : Nat) → (0 : Int) = (0 : Int))) ∧
 (decide ((↑i_1 : Int) < rowsP n) = false →
 n = n ∧ c = c ∧ ∀ (o : Nat), o < (49 : Nat) → shTo f i.toNat by_ i_1 o = shiftF n c f i.toNat by_ o))) (by kernel_rfl) ?_
    simp only [raw0, true_and, and_true, implies_true, Nat.mul_one, Int.toNat_natCast, c7, decide_eq_true_eq, decide_eq_false_iff_not, Nat.zero_add, forall_const, Nat.le_eq, at_iff, bne_iff_ne, bne_eq_false_iff_eq, and_self, and_self_left]
    intro hs hi hb
    refine ⟨fun h => ?_, fun h => ?_⟩
    · unfold shiftF; simp only [if_pos h]; exact fun _ _ => trivial
    · unfold shiftF
      simp only [h, Bool.false_eq_true, if_false]
      have hr := rowsP_le n
      obtain ⟨r, hre⟩ := Int.eq_ofNat_of_zero_le (show 0 ≤ rowsP n by omega)
      obtain ⟨a, rfl⟩ := Int.eq_ofNat_of_zero_le hi.1
      rw [hre] at hr ⊢
      simp only [Int.toNat_natCast]
      refine ⟨⟨0, by omega, rfl, fun o ho => ?_⟩, fun k hk => ⟨fun h3 => ⟨fun h5 => ?_, fun h5 => ?_⟩, fun h3 o ho => ?_⟩⟩
      · unfold shTo; rw [if_neg (by omega), if_neg (by omega)]
      · have e1 : shTo f a by_ k (a * 7 + k) = f (a * 7 + k) := by unfold shTo; rw [if_neg (by omega), if_neg (by omega)]
        have e2 : shTo f a by_ k (k * 7 + a) = f (k * 7 + a) := by unfold shTo; rw [if_neg (by omega), if_neg (by omega)]
        have q1 := hs (a * 7 + k) (by omega)
        have q2 := hs (k * 7 + a) (by omega)
        rw [e1, e2, if_neg (show ¬ k * 7 + a = a * 7 + k by omega), wr (f (a * 7 + k) + by_) (by omega), wr (f (k * 7 + a) - by_) (by omega), wr ((k : Int) + 1) (by omega)]
        refine ⟨by omega, by omega, by omega, by omega, by omega, by omega, by omega, by omega, by omega, by omega, by omega, by omega, k + 1, by omega, by omega, by omega, fun o ho => ?_⟩
        by_cases h6 : o = k * 7 + a
        · rw [if_pos h6]
          subst h6
          unfold shTo
          rw [if_neg (by omega), if_pos (by omega)]
        · rw [if_neg h6]
          by_cases h7 : o = a * 7 + k
          · rw [if_pos h7]
            subst h7
            unfold shTo
            rw [if_pos (by omega)]
          · rw [if_neg h7]
            unfold shTo
            exact icg (by omega) rfl (icg (by omega) rfl rfl)
      · rw [wr ((k : Int) + 1) (by omega)]
        refine ⟨k + 1, by omega, by omega, by omega, fun o ho => ?_⟩
        unfold shTo
        exact icg (by omega) rfl (icg (by omega) rfl rfl)
      · have : k = r := by omega
        rw [this]
  · trivial
end Go.Proofs.Ytefdfggkhnahiaa.Sx.Z
