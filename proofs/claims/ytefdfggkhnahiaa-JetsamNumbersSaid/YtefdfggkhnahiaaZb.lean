/-
  A bound more: zone.bounded, zone.Bound.
-/
import Derived.Test.YtefdfggkhnahiaaZa
namespace Go.Proofs.Ytefdfggkhnahiaa.Sx.Z
open Go.RowKit
def near (f : Nat → Int) (i j : Nat) (by' : Int) (o : Nat) : Int := min (f o) (f (o / 7 * 7 + i) + by' + f (j * 7 + o % 7))
def nearTo (f : Nat → Int) (i j : Nat) (by' : Int) (r k m : Nat) (o : Nat) : Int := if (o / 7 < k ∨ o / 7 = k ∧ o % 7 < m) ∧ o % 7 < r then near f i j by' o else f o
theorem raw0 (n : Nat) : nat_lit 0 + n = n := Nat.zero_add n
theorem icg {α : Sort _} {p q : Prop} [Decidable p] [Decidable q] {a b x y : α} (h : p ↔ q) (h1 : a = x) (h2 : b = y) : (if p then a else b) = (if q then x else y) := by
  by_cases hp : p
  · rw [if_pos hp, if_pos (h.1 hp), h1]
  · rw [if_neg hp, if_neg (fun k => hp (h.2 k)), h2]
theorem c7 : ((7 : Nat) : Int) = 7 := rfl
theorem at_iff (p o : Nat) : ((p.ble o && o.blt (p + 1)) = true) = (o = p) := propext ⟨fun h => by simp only [Bool.and_eq_true, Nat.ble_eq, Nat.blt_eq] at h; omega, fun h => by subst h; simp [Nat.ble_eq, Nat.blt_eq]⟩
theorem dm7 {k m : Nat} (h : m < 7) : (k * 7 + m) / 7 = k ∧ (k * 7 + m) % 7 = m := by omega
theorem nearTo_zero (f : Nat → Int) (i j : Nat) (by' : Int) (r : Nat) (o : Nat) : nearTo f i j by' r 0 0 o = f o := by unfold nearTo; rw [if_neg (by omega)]
theorem nearTo_next {f : Nat → Int} {i j : Nat} {by' : Int} {r k : Nat} (o : Nat) : nearTo f i j by' r k r o = nearTo f i j by' r (k + 1) 0 o := by
  unfold nearTo
  by_cases h : (o / 7 < k ∨ o / 7 = k ∧ o % 7 < r) ∧ o % 7 < r
  · rw [if_pos h, if_pos (by omega)]
  · rw [if_neg h, if_neg (by omega)]
theorem nearTo_step {f : Nat → Int} {i j : Nat} {by' : Int} {r k m : Nat} (hm : m < r) (hr : r ≤ 7) {V : Int} (hV : V = near f i j by' (k * 7 + m)) (o : Nat) :
    (if o = k * 7 + m then V else nearTo f i j by' r k m o) = nearTo f i j by' r k (m + 1) o := by
  by_cases h : o = k * 7 + m
  · subst h
    rw [if_pos rfl, hV]
    unfold nearTo
    rw [if_pos (by have := dm7 (k := k) (m := m) (by omega); omega)]
  · rw [if_neg h]
    unfold nearTo
    by_cases h2 : (o / 7 < k ∨ o / 7 = k ∧ o % 7 < m) ∧ o % 7 < r
    · rw [if_pos h2, if_pos (by omega)]
    · rw [if_neg h2, if_neg (by omega)]
def bdF (n : Int) (f : Nat → Int) (i j : Nat) (by' : Int) (o : Nat) : Int := if by' ≥ f (i * 7 + j) then f o else if by' < 0 - f (j * 7 + i) then 0 else if o / 7 < (rowsP n).toNat ∧ o % 7 < (rowsP n).toNat then near f i j by' o else f o
def bdC (c : Bool) (f : Nat → Int) (i j : Nat) (by' : Int) : Bool := if by' ≥ f (i * 7 + j) then c else if by' < 0 - f (j * 7 + i) then true else c
def boundedS : FSpec := fun ds _ => match ds with
  | [.i n, .b c, .f f, .i i, .i j, .i by_] => some { val := .one (.agg [.c (.int .i64 (.sym (n))), .c (.bool (.sym (bdC c f i.toNat j.toNat by_))), .ints .i64 (.lit 49) (bdF n f i.toNat j.toNat by_)]), vc := [Sm f, (0 ≤ i ∧ i < 7), (0 ≤ j ∧ j < 7)] }
  | _ => none
def boundedC : Con := con [zA, iA, iA, iA] boundedS
theorem bounded_ok : ConOK Try.prog 63 boundedC := by
  refine fn_ob tt_ok mixed Try.func63 rfl (fun _ _ => by kernel_rfl) (A := fun ds => ⟨fun _ => Cons.of [(65, rowsC)], fun k => match k, ds with | 7, [.i n, .b c, .f f, .i i, .i j, .i by_] => some { ι := Nat, pre := fun _ k => k ≤ (rowsP n).toNat, μ := fun k => 7 - k, st := fun s k => fam s [(38, .one (.sc (.int .i64 (.sym k))))] [1, 2, 3, 4, 8, 9, 37] 9 (.own 28 (zs (.sym n) (.sym c) (nearTo f i.toNat j.toNat by_ (rowsP n).toNat k 0))) [4, 8] } | 10, [.i n, .b c, .f f, .i i, .i j, .i by_] => some { ι := Nat, pre := fun _ m => m ≤ (rowsP n).toNat, μ := fun m => 7 - m, st := fun s m => fam s [(43, .one (.sc (.int .i64 (.sym m))))] [1, 2, 3, 4, 8, 9, 10, 37, 38, 42] 9 (.own 28 (zs (.sym n) (.sym c) (nearTo f i.toNat j.toNat by_ (rowsP n).toNat (slotN s 38) m))) [4, 8] } | _, _ => none, fun _ => none⟩) (fun _ _ => (cons_cons rows_ok cons_nil)) (by kernel_rfl) ?_
  intro ds fr
  unfold boundedS
  split
  · rename_i n c f i j by_
    refine kmp (q := Sm f →
 (0 : Int) ≤ i ∧ i < (7 : Int) →
 (0 : Int) ≤ j ∧ j < (7 : Int) →
 ((0 : Int) ≤ i ∧ i < (↑(7 : Nat) : Int)) ∧
 ((0 : Int) ≤ j ∧ j < (↑(7 : Nat) : Int)) ∧
 nat_lit 0 + (i.toNat * (7 : Nat) + j.toNat * (1 : Nat)) < (49 : Nat) ∧
 (decide (by_ ≥ f (nat_lit 0 + (i.toNat * (7 : Nat) + j.toNat * (1 : Nat)))) = true →
 n = n ∧ c = bdC c f i.toNat j.toNat by_ ∧ ∀ (o : Nat), o < (49 : Nat) → f o = bdF n f i.toNat j.toNat by_ o) ∧
 (decide (by_ ≥ f (nat_lit 0 + (i.toNat * (7 : Nat) + j.toNat * (1 : Nat)))) = false →
 ((0 : Int) ≤ j ∧ j < (↑(7 : Nat) : Int)) ∧
 ((0 : Int) ≤ i ∧ i < (↑(7 : Nat) : Int)) ∧
 nat_lit 0 + (j.toNat * (7 : Nat) + i.toNat * (1 : Nat)) < (49 : Nat) ∧
 (decide (by_ < IntKind.i64.wrap ((0 : Int) - f (nat_lit 0 + (j.toNat * (7 : Nat) + i.toNat * (1 : Nat))))) = true →
 n = n ∧ true = bdC c f i.toNat j.toNat by_ ∧ ∀ (o : Nat), o < (49 : Nat) → (0 : Int) = bdF n f i.toNat j.toNat by_ o) ∧
 (decide (by_ < IntKind.i64.wrap ((0 : Int) - f (nat_lit 0 + (j.toNat * (7 : Nat) + i.toNat * (1 : Nat))))) = false →
 (∃ (i_1 : Nat),
 i_1.le (rowsP n).toNat ∧
 (0 : Int) = (↑i_1 : Int) ∧
 i = i ∧
 j = j ∧
 by_ = by_ ∧
 rowsP n = rowsP n ∧
 n = n ∧
 c = c ∧
 (∀ (o : Nat), o < (49 : Nat) → f o = nearTo f i.toNat j.toNat by_ (rowsP n).toNat i_1 (0 : Nat) o) ∧
 n = n ∧
 c = c ∧
 (∀ (o : Nat), o < (49 : Nat) → f o = f o) ∧
 (0 : Int) = (0 : Int) ∧ false = false ∧ ∀ (o : Nat), o < (49 : Nat) → (0 : Int) = (0 : Int)) ∧
 ∀ (i_1 : Nat),
 i_1.le (rowsP n).toNat →
 (decide ((↑i_1 : Int) < rowsP n) = true →
 (∃ (i_2 : Nat),
 i_2.le (rowsP n).toNat ∧
 (0 : Int) = (↑i_2 : Int) ∧
 i = i ∧
 j = j ∧
 by_ = by_ ∧
 (↑i_1 : Int) = (↑i_1 : Int) ∧
 rowsP n = rowsP n ∧
 (↑i_1 : Int) = (↑i_1 : Int) ∧
 rowsP n = rowsP n ∧
 n = n ∧
 c = c ∧
 (∀ (o : Nat),
 o < (49 : Nat) →
 nearTo f i.toNat j.toNat by_ (rowsP n).toNat i_1 (0 : Nat) o =
 nearTo f i.toNat j.toNat by_ (rowsP n).toNat (↑i_1 : Int).toNat i_2 o) ∧
 n = n ∧
 c = c ∧
 (∀ (o : Nat), o < (49 : Nat) → f o = f o) ∧
 (0 : Int) = (0 : Int) ∧
 false = false ∧ ∀ (o : Nat), o < (49 : Nat) → (0 : Int) = (0 : Int)) ∧
 ∀ (i_2 : Nat),
 i_2.le (rowsP n).toNat →
 (decide ((↑i_2 : Int) < rowsP n) = true →
 ((0 : Int) ≤ (↑i_1 : Int) ∧ (↑i_1 : Int) < (↑(7 : Nat) : Int)) ∧
 ((0 : Int) ≤ (↑i_2 : Int) ∧ (↑i_2 : Int) < (↑(7 : Nat) : Int)) ∧
 nat_lit 0 + ((↑i_1 : Int).toNat * (7 : Nat) + (↑i_2 : Int).toNat * (1 : Nat)) < (49 : Nat) ∧
 ((0 : Int) ≤ (↑i_1 : Int) ∧ (↑i_1 : Int) < (↑(7 : Nat) : Int)) ∧
 ((0 : Int) ≤ i ∧ i < (↑(7 : Nat) : Int)) ∧
 nat_lit 0 + ((↑i_1 : Int).toNat * (7 : Nat) + i.toNat * (1 : Nat)) < (49 : Nat) ∧
 ((0 : Int) ≤ j ∧ j < (↑(7 : Nat) : Int)) ∧
 ((0 : Int) ≤ (↑i_2 : Int) ∧ (↑i_2 : Int) < (↑(7 : Nat) : Int)) ∧
 nat_lit 0 + (j.toNat * (7 : Nat) + (↑i_2 : Int).toNat * (1 : Nat)) < (49 : Nat) ∧
 ((0 : Int) ≤ (↑i_1 : Int) ∧ (↑i_1 : Int) < (↑(7 : Nat) : Int)) ∧
 ((0 : Int) ≤ (↑i_2 : Int) ∧ (↑i_2 : Int) < (↑(7 : Nat) : Int)) ∧
 nat_lit 0 + ((↑i_1 : Int).toNat * (7 : Nat) + (↑i_2 : Int).toNat * (1 : Nat)) + (1 : Nat) ≤
 (49 : Nat) ∧
 ∃ (j_1 : Nat),
 j_1.le (rowsP n).toNat ∧
 (7 : Nat) - j_1 < (7 : Nat) - i_2 ∧
 IntKind.i64.wrap ((↑i_2 : Int) + (1 : Int)) = (↑j_1 : Int) ∧
 i = i ∧
 j = j ∧
 by_ = by_ ∧
 (↑i_1 : Int) = (↑i_1 : Int) ∧
 rowsP n = rowsP n ∧
 (↑i_1 : Int) = (↑i_1 : Int) ∧
 rowsP n = rowsP n ∧
 n = n ∧
 c = c ∧
 (∀ (o : Nat),
 o < (49 : Nat) →
 (if
 ((nat_lit 0 +
 ((↑i_1 : Int).toNat * (7 : Nat) +
 (↑i_2 : Int).toNat * (1 : Nat))).ble
 o &&
 o.blt
 (nat_lit 0 +
 ((↑i_1 : Int).toNat * (7 : Nat) +
 (↑i_2 : Int).toNat * (1 : Nat)) +
 (1 : Nat))) =
 true then
 if
 IntKind.i64.wrap
 (IntKind.i64.wrap
 (f
 (nat_lit 0 +
 ((↑i_1 : Int).toNat * (7 : Nat) +
 i.toNat * (1 : Nat))) +
 by_) +
 f
 (nat_lit 0 +
 (j.toNat * (7 : Nat) +
 (↑i_2 : Int).toNat * (1 : Nat)))) <
 f
 (nat_lit 0 +
 ((↑i_1 : Int).toNat * (7 : Nat) +
 (↑i_2 : Int).toNat * (1 : Nat))) then
 IntKind.i64.wrap
 (IntKind.i64.wrap
 (f
 (nat_lit 0 +
 ((↑i_1 : Int).toNat * (7 : Nat) +
 i.toNat * (1 : Nat))) +
 by_) +
 f
 (nat_lit 0 +
 (j.toNat * (7 : Nat) +
 (↑i_2 : Int).toNat * (1 : Nat))))
 else
 f
 (nat_lit 0 +
 ((↑i_1 : Int).toNat * (7 : Nat) +
 (↑i_2 : Int).toNat * (1 : Nat)))
 else
 nearTo f i.toNat j.toNat by_ (rowsP n).toNat
 (↑i_1 : Int).toNat i_2 o) =
 nearTo f i.toNat j.toNat by_ (rowsP n).toNat
 (↑i_1 : Int).toNat j_1 o) ∧
 n = n ∧
 c = c ∧
 (∀ (o : Nat), o < (49 : Nat) → f o = f o) ∧
 (0 : Int) = (0 : Int) ∧
 false = false ∧
 ∀ (o : Nat),
 o < (49 : Nat) → (0 : Int) = (0 : Int)) ∧
 (decide ((↑i_2 : Int) < rowsP n) = false →
 ∃ (j_1 : Nat),
 j_1.le (rowsP n).toNat ∧
 (7 : Nat) - j_1 < (7 : Nat) - i_1 ∧
 IntKind.i64.wrap ((↑i_1 : Int) + (1 : Int)) = (↑j_1 : Int) ∧
 i = i ∧
 j = j ∧
 by_ = by_ ∧
 rowsP n = rowsP n ∧
 n = n ∧
 c = c ∧
 (∀ (o : Nat),
 o < (49 : Nat) →
 nearTo f i.toNat j.toNat by_ (rowsP n).toNat (↑i_1 : Int).toNat i_2 o =
 nearTo f i.toNat j.toNat by_ (rowsP n).toNat j_1 (0 : Nat) o) ∧
 n = n ∧
 c = c ∧
 (∀ (o : Nat), o < (49 : Nat) → f o = f o) ∧
 (0 : Int) = (0 : Int) ∧
 false = false ∧ ∀ (o : Nat), o < (49 : Nat) → (0 : Int) = (0 : Int))) ∧
 (decide ((↑i_1 : Int) < rowsP n) = false →
 n = n ∧
 c = bdC c f i.toNat j.toNat by_ ∧
 ∀ (o : Nat),
 o < (49 : Nat) → nearTo f i.toNat j.toNat by_ (rowsP n).toNat i_1 (0 : Nat) o = bdF n f i.toNat j.toNat by_ o)))) (by kernel_rfl) ?_
    simp only [raw0, true_and, and_true, implies_true, Nat.mul_one, Int.toNat_natCast, c7, decide_eq_true_eq, decide_eq_false_iff_not, Nat.zero_add, forall_const, Nat.le_eq, at_iff, bne_iff_ne, bne_eq_false_iff_eq, and_self, and_self_left]
    intro hs hi hj
    obtain ⟨a, rfl⟩ := Int.eq_ofNat_of_zero_le hi.1
    obtain ⟨b, rfl⟩ := Int.eq_ofNat_of_zero_le hj.1
    have hr := rowsP_le n
    obtain ⟨r, hre⟩ := Int.eq_ofNat_of_zero_le (show 0 ≤ rowsP n by omega)
    have ha := hs (a * 7 + b) (by omega)
    have hb := hs (b * 7 + a) (by omega)
    unfold bdC bdF
    rw [hre] at hr ⊢
    simp only [Int.toNat_natCast]
    rw [wr (0 - f (b * 7 + a)) (by omega)]
    refine ⟨hi, hj, by omega, fun h1 => ?_, fun h1 => ⟨hj, hi, by omega, fun h2 => ?_, fun h2 => ⟨⟨0, Nat.zero_le _, rfl, fun o _ => (nearTo_zero ..).symm⟩, fun k hk => ⟨fun h3 => ⟨⟨0, Nat.zero_le _, rfl, fun o _ => rfl⟩, fun m hm => ⟨fun h4 => ?_, fun h4 => ?_⟩⟩, fun h3 => ?_⟩⟩⟩⟩
    · simp only [if_pos h1]; exact ⟨trivial, fun _ _ => trivial⟩
    · simp only [if_neg h1, if_pos h2]; exact ⟨trivial, fun _ _ => trivial⟩
    · have hk7 : k * 7 + m < 49 := by omega
      have q1 := hs (k * 7 + a) (by omega)
      have q2 := hs (b * 7 + m) (by omega)
      rw [wr (f (k * 7 + a) + by_) (by omega), wr (f (k * 7 + a) + by_ + f (b * 7 + m)) (by omega), wr ((m : Int) + 1) (by omega)]
      refine ⟨by omega, by omega, by omega, by omega, by omega, by omega, by omega, by omega, by omega, by omega, by omega, by omega, m + 1, by omega, by omega, by omega, fun o ho => nearTo_step (by omega) (by omega) ?_ o⟩
      unfold near
      rw [(dm7 (k := k) (m := m) (by omega)).1, (dm7 (k := k) (m := m) (by omega)).2]
      split <;> omega
    · rw [wr ((k : Int) + 1) (by omega)]
      have : m = r := by omega
      subst this
      exact ⟨k + 1, by omega, by omega, by omega, fun o _ => nearTo_next o⟩
    · simp only [if_neg h1, if_neg h2]
      refine ⟨trivial, fun o ho => ?_⟩
      have : k = r := by omega
      subst this
      unfold nearTo
      by_cases h : (o / 7 < k ∨ o / 7 = k ∧ o % 7 < 0) ∧ o % 7 < k
      · rw [if_pos h, if_pos (by omega)]
      · rw [if_neg h, if_neg (by omega)]
  · trivial
end Go.Proofs.Ytefdfggkhnahiaa.Sx.Z
