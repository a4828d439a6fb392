/-
  The zone's small calls: what they tell.
-/
import Derived.Test.YtbcbcambkjhhhaaProg
import Derived.IntWalk
import Derived.ChangeArms
import Derived.OpenShut
import Derived.WideShapes
import Derived.ChangeShapes
import Derived.Carry
import Derived.DataReads
import Derived.KernelRfl
import Derived.Deep.LoopGhost
import Derived.Laws.Append
import Derived.Laws.AppendOwn
import Derived.Laws.MakeOwn
import Derived.Laws.StructEq
import Derived.Laws.Cells
import Derived.Laws.CopyRow
import Derived.Laws.Rows
import Derived.Below
import Derived.Orders
import Derived.ChangeKeysEq
import Derived.Test.YtbcbcambkjhhhaaMA
import Derived.Test.YtbcbcambkjhhhaaMB
import Derived.Test.YtbcbcambkjhhhaaMC
import Derived.Test.YtbcbcambkjhhhaaMD
import Derived.Test.YtbcbcambkjhhhaaME
import Derived.Test.YtbcbcambkjhhhaaMF
import Derived.Test.YtbcbcambkjhhhaaMG
import Derived.Test.YtbcbcambkjhhhaaMH
import Derived.Test.YtbcbcambkjhhhaaMI
import Derived.Test.YtbcbcambkjhhhaaMJ
import Derived.Test.YtbcbcambkjhhhaaMK
import Derived.Test.YtbcbcambkjhhhaaML
import Derived.Test.YtbcbcambkjhhhaaMM
import Derived.Test.YtbcbcambkjhhhaaMj1
namespace Go.Proofs.Ytbcbcambkjhhhaa.Sx.Z
open Go.RowKit
def zs (n : SI) (b : SB) (D : Nat → Int) : List Seg := [.c (.int .i64 n), .c (.bool b), .ints .i64 (.lit 49) D]
def i0 : Seg := .c (.int .i64 (.lit 0))
def zA : AP := .agg [.c (.int .i64), .c .bool, .ints .i64 49]
def iA : AP := .sc (.int .i64)
def itvA : AP := .agg [.c (.int .i64), .c (.int .i64)]
theorem wr (x : Int) (h : -9223372036854775808 ≤ x ∧ x ≤ 9223372036854775807) : IntKind.i64.wrap x = x := IntWalk.i64_in x h
/-- From one number to another one, as far as a variable may be. -/
def ofLo (a b : Int) : Int := if min b 2147483647 < max a (-2147483648) then 1 else max a (-2147483648)
def ofHi (a b : Int) : Int := if min b 2147483647 < max a (-2147483648) then 0 else min b 2147483647
/-- How many rows. -/
def rowsP (n : Int) : Int := 1 + min (max n 0) 6
theorem rowsP_le (n : Int) : 1 ≤ rowsP n ∧ rowsP n ≤ 7 := by unfold rowsP; omega
def isVarP (n x : Int) : Bool := decide (0 ≤ x) && decide (x < rowsP n - 1)
theorem isVarP_lt {n x : Int} (h : isVarP n x = true) : 0 ≤ x ∧ x < rowsP n - 1 ∧ x ≤ 5 := by
  have := rowsP_le n
  simp only [isVarP, Bool.and_eq_true, decide_eq_true_eq] at h
  omega
def Sm (f : Nat → Int) : Prop := ∀ o, o < 49 → -1099511627776 ≤ f o ∧ f o ≤ 1099511627776
def itvLo (n : Int) (c : Bool) (f : Nat → Int) (x : Int) : Int := if (c || !isVarP n x) = true then 1 else ofLo (0 - f (x + 1).toNat) (f ((x + 1).toNat * 7))
def itvHi (n : Int) (c : Bool) (f : Nat → Int) (x : Int) : Int := if (c || !isVarP n x) = true then 0 else ofHi (0 - f (x + 1).toNat) (f ((x + 1).toNat * 7))
def isEndP (n x : Int) : Bool := (x == -1) || isVarP n x
def emptyS : FSpec := fun ds _ => match ds with
  | [.i a, .i b] => some { val := .one (.sc (.bool (.sym (decide (b < a))))), vc := [] }
  | _ => none
def emptyC : Con := con [itvA] emptyS
theorem empty_ok : ConOK Try.prog 46 emptyC := by
  refine fn_ob tt_ok mixed Try.func46 rfl (fun _ _ => by kernel_rfl) (A := fun ds => ⟨fun _ => Cons.of [], fun _ => none, fun _ => none⟩) (fun _ _ => cons_nil) (by kernel_rfl) ?_
  intro ds fr
  unfold emptyS
  split
  · rename_i a b
    refine kmp (q := decide (a > b) = decide (b < a)) (by kernel_rfl) ?_
    rfl
  · trivial
def inoneS : FSpec := fun ds _ => match ds with
  | [] => some { val := .one (.agg [.c (.int .i64 (.sym (1))), .c (.int .i64 (.sym (0)))]), vc := [] }
  | _ => none
def inoneC : Con := con [] inoneS
theorem inone_ok : ConOK Try.prog 78 inoneC := by
  refine fn_ob tt_ok mixed Try.func78 rfl (fun _ _ => by kernel_rfl) (A := fun ds => ⟨fun _ => Cons.of [], fun _ => none, fun _ => none⟩) (fun _ _ => cons_nil) (by kernel_rfl) ?_
  intro ds fr
  unfold inoneS
  split
  · skip
    refine kmp (q := (1 : Int) = (1 : Int) ∧ (0 : Int) = (0 : Int)) (by kernel_rfl) ?_
    exact ⟨rfl, rfl⟩
  · trivial
def iallS : FSpec := fun ds _ => match ds with
  | [] => some { val := .one (.agg [.c (.int .i64 (.sym (-2147483648))), .c (.int .i64 (.sym (2147483647)))]), vc := [] }
  | _ => none
def iallC : Con := con [] iallS
theorem iall_ok : ConOK Try.prog 115 iallC := by
  refine fn_ob tt_ok mixed Try.func115 rfl (fun _ _ => by kernel_rfl) (A := fun ds => ⟨fun _ => Cons.of [], fun _ => none, fun _ => none⟩) (fun _ _ => cons_nil) (by kernel_rfl) ?_
  intro ds fr
  unfold iallS
  split
  · skip
    refine kmp (q := (-2147483648 : Int) = (-2147483648 : Int) ∧ (2147483647 : Int) = (2147483647 : Int)) (by kernel_rfl) ?_
    exact ⟨rfl, rfl⟩
  · trivial
def iofS : FSpec := fun ds _ => match ds with
  | [.i a, .i b] => some { val := .one (.agg [.c (.int .i64 (.sym (ofLo a b))), .c (.int .i64 (.sym (ofHi a b)))]), vc := [] }
  | _ => none
def iofC : Con := con [iA, iA] iofS
theorem iof_ok : ConOK Try.prog 68 iofC := by
  refine fn_ob tt_ok mixed Try.func68 rfl (fun _ _ => by kernel_rfl) (A := fun ds => ⟨fun _ => Cons.of [(46, emptyC), (78, inoneC)], fun _ => none, fun _ => none⟩) (fun _ _ => (cons_cons empty_ok (cons_cons inone_ok cons_nil))) (by kernel_rfl) ?_
  intro ds fr
  unfold iofS
  split
  · rename_i a b
    refine kmp (q := (decide ((if (2147483647 : Int) < b then (2147483647 : Int) else b) < if (-2147483648 : Int) > a then (-2147483648 : Int) else a) = true →
 (1 : Int) = ofLo a b ∧ (0 : Int) = ofHi a b) ∧
 (decide ((if (2147483647 : Int) < b then (2147483647 : Int) else b) < if (-2147483648 : Int) > a then (-2147483648 : Int) else a) = false →
 (if (-2147483648 : Int) > a then (-2147483648 : Int) else a) = ofLo a b ∧ (if (2147483647 : Int) < b then (2147483647 : Int) else b) = ofHi a b)) (by kernel_rfl) ?_
    unfold ofLo ofHi
    refine ⟨fun h => ?_, fun h => ?_⟩
    · have h := of_decide_eq_true h
      (repeat' split at h) <;> (repeat' split) <;> omega
    · have h := of_decide_eq_false h
      (repeat' split at h) <;> (repeat' split) <;> omega
  · trivial
def iconstS : FSpec := fun ds _ => match ds with
  | [.i a] => some { val := .one (.agg [.c (.int .i64 (.sym (ofLo a a))), .c (.int .i64 (.sym (ofHi a a)))]), vc := [] }
  | _ => none
def iconstC : Con := con [iA] iconstS
theorem iconst_ok : ConOK Try.prog 34 iconstC := by
  refine fn_ob tt_ok mixed Try.func34 rfl (fun _ _ => by kernel_rfl) (A := fun ds => ⟨fun _ => Cons.of [(68, iofC)], fun _ => none, fun _ => none⟩) (fun _ _ => (cons_cons iof_ok cons_nil)) (by kernel_rfl) ?_
  intro ds fr
  unfold iconstS
  split
  · rename_i a
    refine kmp (q := ofLo a a = ofLo a a ∧ ofHi a a = ofHi a a) (by kernel_rfl) ?_
    exact ⟨rfl, rfl⟩
  · trivial
def ihasS : FSpec := fun ds _ => match ds with
  | [.i a, .i b, .i n] => some { val := .one (.sc (.bool (.sym (decide (a ≤ n) && decide (n ≤ b))))), vc := [] }
  | _ => none
def ihasC : Con := con [itvA, iA] ihasS
theorem ihas_ok : ConOK Try.prog 45 ihasC := by
  refine fn_ob tt_ok mixed Try.func45 rfl (fun _ _ => by kernel_rfl) (A := fun ds => ⟨fun _ => Cons.of [], fun _ => none, fun _ => none⟩) (fun _ _ => cons_nil) (by kernel_rfl) ?_
  intro ds fr
  unfold ihasS
  split
  · rename_i a b n
    refine kmp (q := (decide (a ≤ n) && decide (n ≤ b)) = (decide (a ≤ n) && decide (n ≤ b))) (by kernel_rfl) ?_
    rfl
  · trivial
def rowsS : FSpec := fun ds _ => match ds with
  | [.i n, .b _, .f _] => some { val := .one (.sc (.int .i64 (.sym (rowsP n)))), vc := [] }
  | _ => none
def rowsC : Con := con [zA] rowsS
theorem rows_ok : ConOK Try.prog 114 rowsC := by
  refine fn_ob tt_ok mixed Try.func114 rfl (fun _ _ => by kernel_rfl) (A := fun ds => ⟨fun _ => Cons.of [], fun _ => none, fun _ => none⟩) (fun _ _ => cons_nil) (by kernel_rfl) ?_
  intro ds fr
  unfold rowsS
  split
  · rename_i n c f
    refine kmp (q := IntKind.i64.wrap ((1 : Int) + if (6 : Int) < if (0 : Int) > n then (0 : Int) else n then (6 : Int) else if (0 : Int) > n then (0 : Int) else n) = rowsP n) (by kernel_rfl) ?_
    rw [wr _ (by (repeat' split) <;> omega)]
    unfold rowsP
    (repeat' split) <;> omega
  · trivial
def isVarS : FSpec := fun ds _ => match ds with
  | [.i n, .b _, .f _, .i x] => some { val := .one (.sc (.bool (.sym (isVarP n x)))), vc := [] }
  | _ => none
def isVarC : Con := con [zA, iA] isVarS
theorem isVar_ok : ConOK Try.prog 118 isVarC := by
  refine fn_ob tt_ok mixed Try.func118 rfl (fun _ _ => by kernel_rfl) (A := fun ds => ⟨fun _ => Cons.of [(114, rowsC)], fun _ => none, fun _ => none⟩) (fun _ _ => (cons_cons rows_ok cons_nil)) (by kernel_rfl) ?_
  intro ds fr
  unfold isVarS
  split
  · rename_i n c f x
    refine kmp (q := (decide (x ≥ (0 : Int)) && decide (x < IntKind.i64.wrap (rowsP n - (1 : Int)))) = isVarP n x) (by kernel_rfl) ?_
    have := rowsP_le n
    rw [wr _ (by omega)]
    rfl
  · trivial
def isEndS : FSpec := fun ds _ => match ds with
  | [.i n, .b _, .f _, .i x] => some { val := .one (.sc (.bool (.sym (isEndP n x)))), vc := [] }
  | _ => none
def isEndC : Con := con [zA, iA] isEndS
theorem isEnd_ok : ConOK Try.prog 126 isEndC := by
  refine fn_ob tt_ok mixed Try.func126 rfl (fun _ _ => by kernel_rfl) (A := fun ds => ⟨fun _ => Cons.of [(118, isVarC)], fun _ => none, fun _ => none⟩) (fun _ _ => (cons_cons isVar_ok cons_nil)) (by kernel_rfl) ?_
  intro ds fr
  unfold isEndS
  split
  · rename_i n c f x
    refine kmp (q := (x == (-1 : Int) || isVarP n x) = isEndP n x) (by kernel_rfl) ?_
    rfl
  · trivial
def zerosS : FSpec := fun ds _ => match ds with
  | [.i n] => some { val := .one (.agg [.c (.int .i64 (.sym (min (max n 0) 6))), .c (.bool (.sym (false))), .ints .i64 (.lit 49) (fun _ => 0)]), vc := [] }
  | _ => none
def zerosC : Con := con [iA] zerosS
theorem zeros_ok : ConOK Try.prog 98 zerosC := by
  refine fn_ob tt_ok mixed Try.func98 rfl (fun _ _ => by kernel_rfl) (A := fun ds => ⟨fun _ => Cons.of [], fun _ => none, fun _ => none⟩) (fun _ _ => cons_nil) (by kernel_rfl) ?_
  intro ds fr
  unfold zerosS
  split
  · rename_i n
    refine kmp (q := (if (6 : Int) < if (0 : Int) > n then (0 : Int) else n then (6 : Int) else if (0 : Int) > n then (0 : Int) else n) = min (max n (0 : Int)) (6 : Int) ∧
 false = false ∧ ∀ (o : Nat), o < (49 : Nat) → (0 : Int) = (0 : Int)) (by kernel_rfl) ?_
    exact ⟨by (repeat' split) <;> omega, rfl, fun _ _ => rfl⟩
  · trivial
def zitvS : FSpec := fun ds _ => match ds with
  | [.i n, .b c, .f f, .i x] => some { val := .one (.agg [.c (.int .i64 (.sym (itvLo n c f x))), .c (.int .i64 (.sym (itvHi n c f x)))]), vc := [Sm f] }
  | _ => none
def zitvC : Con := con [zA, iA] zitvS
theorem zitv_ok : ConOK Try.prog 90 zitvC := by
  refine fn_ob tt_ok mixed Try.func90 rfl (fun _ _ => by kernel_rfl) (A := fun ds => ⟨fun _ => Cons.of [(118, isVarC), (78, inoneC), (68, iofC)], fun _ => none, fun _ => none⟩) (fun _ _ => (cons_cons isVar_ok (cons_cons inone_ok (cons_cons iof_ok cons_nil)))) (by kernel_rfl) ?_
  intro ds fr
  unfold zitvS
  split
  · rename_i n c f x
    refine kmp (q := Sm f →
 ((c || !isVarP n x) = true → (1 : Int) = itvLo n c f x ∧ (0 : Int) = itvHi n c f x) ∧
 ((c || !isVarP n x) = false →
 ((0 : Int) ≤ IntKind.i64.wrap (x + (1 : Int)) ∧ IntKind.i64.wrap (x + (1 : Int)) < (↑(7 : Nat) : Int)) ∧
 nat_lit 0 + (IntKind.i64.wrap (x + (1 : Int))).toNat * (1 : Nat) < (49 : Nat) ∧
 ((0 : Int) ≤ IntKind.i64.wrap (x + (1 : Int)) ∧ IntKind.i64.wrap (x + (1 : Int)) < (↑(7 : Nat) : Int)) ∧
 nat_lit 0 + (IntKind.i64.wrap (x + (1 : Int))).toNat * (7 : Nat) < (49 : Nat) ∧
 ofLo (IntKind.i64.wrap ((0 : Int) - f (nat_lit 0 + (IntKind.i64.wrap (x + (1 : Int))).toNat * (1 : Nat))))
 (f (nat_lit 0 + (IntKind.i64.wrap (x + (1 : Int))).toNat * (7 : Nat))) =
 itvLo n c f x ∧
 ofHi (IntKind.i64.wrap ((0 : Int) - f (nat_lit 0 + (IntKind.i64.wrap (x + (1 : Int))).toNat * (1 : Nat))))
 (f (nat_lit 0 + (IntKind.i64.wrap (x + (1 : Int))).toNat * (7 : Nat))) =
 itvHi n c f x)) (by kernel_rfl) ?_
    refine fun hs => ⟨fun h => ?_, fun h => ?_⟩
    · unfold itvLo itvHi; rw [h]; exact ⟨rfl, rfl⟩
    · have hv := isVarP_lt (show isVarP n x = true by revert h; cases c <;> cases isVarP n x <;> simp)
      rw [wr (x + 1) (by omega)]
      have e1 : nat_lit 0 + (x + 1).toNat * 1 = (x + 1).toNat := by rw [Nat.mul_one]; exact Nat.zero_add _
      have e2 : nat_lit 0 + (x + 1).toNat * 7 = (x + 1).toNat * 7 := Nat.zero_add _
      rw [e1, e2]
      have h1 := hs (x + 1).toNat (by omega)
      rw [wr _ (by omega)]
      unfold itvLo itvHi
      rw [h]
      exact ⟨by omega, by omega, by omega, by omega, rfl, rfl⟩
  · trivial
end Go.Proofs.Ytbcbcambkjhhhaa.Sx.Z
namespace Go.Proofs.Ytbcbcambkjhhhaa.Sx.Z
open Go.RowKit
def near (f : Nat → Int) (i j : Nat) (by' : Int) (o : Nat) : Int := min (f o) (f (o / 7 * 7 + i) + by' + f (j * 7 + o % 7))
def nearTo (f : Nat → Int) (i j : Nat) (by' : Int) (r k m : Nat) (o : Nat) : Int := if (o / 7 < k ∨ o / 7 = k ∧ o % 7 < m) ∧ o % 7 < r then near f i j by' o else f o
theorem raw0 (n : Nat) : nat_lit 0 + n = n := Nat.zero_add n
theorem icg {α : Sort _} {p q : Prop} [Decidable p] [Decidable q] {a b x y : α} (h : p ↔ q) (h1 : a = x) (h2 : b = y) : (if p then a else b) = (if q then x else y) := by
  by_cases hp : p
  · rw [if_pos hp, if_pos (h.1 hp), h1]
  · rw [if_neg hp, if_neg (fun k => hp (h.2 k)), h2]
theorem c7 : ((7 : Nat) : Int) = 7 := rfl
theorem at_iff (p o : Nat) : ((p.ble o && o.blt (p + 1)) = true) = (o = p) := propext ⟨fun h => by simp only [Bool.and_eq_true, Nat.ble_eq, Nat.blt_eq] at h; omega, fun h => by subst h; simp [Nat.ble_eq, Nat.blt_eq]⟩
theorem dm7 {k m : Nat} (h : m < 7) : (k * 7 + m) / 7 = k ∧ (k * 7 + m) % 7 = m := by omega
theorem nearTo_zero (f : Nat → Int) (i j : Nat) (by' : Int) (r : Nat) (o : Nat) : nearTo f i j by' r 0 0 o = f o := by unfold nearTo; rw [if_neg (by omega)]
theorem nearTo_next {f : Nat → Int} {i j : Nat} {by' : Int} {r k : Nat} (o : Nat) : nearTo f i j by' r k r o = nearTo f i j by' r (k + 1) 0 o := by
  unfold nearTo
  by_cases h : (o / 7 < k ∨ o / 7 = k ∧ o % 7 < r) ∧ o % 7 < r
  · rw [if_pos h, if_pos (by omega)]
  · rw [if_neg h, if_neg (by omega)]
theorem nearTo_step {f : Nat → Int} {i j : Nat} {by' : Int} {r k m : Nat} (hm : m < r) (hr : r ≤ 7) {V : Int} (hV : V = near f i j by' (k * 7 + m)) (o : Nat) :
    (if o = k * 7 + m then V else nearTo f i j by' r k m o) = nearTo f i j by' r k (m + 1) o := by
  by_cases h : o = k * 7 + m
  · subst h
    rw [if_pos rfl, hV]
    unfold nearTo
    rw [if_pos (by have := dm7 (k := k) (m := m) (by omega); omega)]
  · rw [if_neg h]
    unfold nearTo
    by_cases h2 : (o / 7 < k ∨ o / 7 = k ∧ o % 7 < m) ∧ o % 7 < r
    · rw [if_pos h2, if_pos (by omega)]
    · rw [if_neg h2, if_neg (by omega)]
def bdF (n : Int) (f : Nat → Int) (i j : Nat) (by' : Int) (o : Nat) : Int := if by' ≥ f (i * 7 + j) then f o else if by' < 0 - f (j * 7 + i) then 0 else if o / 7 < (rowsP n).toNat ∧ o % 7 < (rowsP n).toNat then near f i j by' o else f o
def bdC (c : Bool) (f : Nat → Int) (i j : Nat) (by' : Int) : Bool := if by' ≥ f (i * 7 + j) then c else if by' < 0 - f (j * 7 + i) then true else c
def boundedS : FSpec := fun ds _ => match ds with
  | [.i n, .b c, .f f, .i i, .i j, .i by_] => some { val := .one (.agg [.c (.int .i64 (.sym (n))), .c (.bool (.sym (bdC c f i.toNat j.toNat by_))), .ints .i64 (.lit 49) (bdF n f i.toNat j.toNat by_)]), vc := [Sm f, (0 ≤ i ∧ i < 7), (0 ≤ j ∧ j < 7)] }
  | _ => none
def boundedC : Con := con [zA, iA, iA, iA] boundedS
theorem bounded_ok : ConOK Try.prog 127 boundedC := by
  refine fn_ob tt_ok mixed Try.func127 rfl (fun _ _ => by kernel_rfl) (A := fun ds => ⟨fun _ => Cons.of [(114, rowsC)], fun k => match k, ds with | 7, [.i n, .b c, .f f, .i i, .i j, .i by_] => some { ι := Nat, pre := fun _ k => k ≤ (rowsP n).toNat, μ := fun k => 7 - k, st := fun s k => fam s [(38, .one (.sc (.int .i64 (.sym k))))] [1, 2, 3, 4, 8, 9, 37] 9 (.own 89 (zs (.sym n) (.sym c) (nearTo f i.toNat j.toNat by_ (rowsP n).toNat k 0))) [4, 8] } | 10, [.i n, .b c, .f f, .i i, .i j, .i by_] => some { ι := Nat, pre := fun _ m => m ≤ (rowsP n).toNat, μ := fun m => 7 - m, st := fun s m => fam s [(43, .one (.sc (.int .i64 (.sym m))))] [1, 2, 3, 4, 8, 9, 10, 37, 38, 42] 9 (.own 89 (zs (.sym n) (.sym c) (nearTo f i.toNat j.toNat by_ (rowsP n).toNat (slotN s 38) m))) [4, 8] } | _, _ => none, fun _ => none⟩) (fun _ _ => (cons_cons rows_ok cons_nil)) (by kernel_rfl) ?_
  intro ds fr
  unfold boundedS
  split
  · rename_i n c f i j by_
    refine kmp (q := Sm f →
 (0 : Int) ≤ i ∧ i < (7 : Int) →
 (0 : Int) ≤ j ∧ j < (7 : Int) →
 ((0 : Int) ≤ i ∧ i < (↑(7 : Nat) : Int)) ∧
 ((0 : Int) ≤ j ∧ j < (↑(7 : Nat) : Int)) ∧
 nat_lit 0 + (i.toNat * (7 : Nat) + j.toNat * (1 : Nat)) < (49 : Nat) ∧
 (decide (by_ ≥ f (nat_lit 0 + (i.toNat * (7 : Nat) + j.toNat * (1 : Nat)))) = true →
 n = n ∧ c = bdC c f i.toNat j.toNat by_ ∧ ∀ (o : Nat), o < (49 : Nat) → f o = bdF n f i.toNat j.toNat by_ o) ∧
 (decide (by_ ≥ f (nat_lit 0 + (i.toNat * (7 : Nat) + j.toNat * (1 : Nat)))) = false →
 ((0 : Int) ≤ j ∧ j < (↑(7 : Nat) : Int)) ∧
 ((0 : Int) ≤ i ∧ i < (↑(7 : Nat) : Int)) ∧
 nat_lit 0 + (j.toNat * (7 : Nat) + i.toNat * (1 : Nat)) < (49 : Nat) ∧
 (decide (by_ < IntKind.i64.wrap ((0 : Int) - f (nat_lit 0 + (j.toNat * (7 : Nat) + i.toNat * (1 : Nat))))) = true →
 n = n ∧ true = bdC c f i.toNat j.toNat by_ ∧ ∀ (o : Nat), o < (49 : Nat) → (0 : Int) = bdF n f i.toNat j.toNat by_ o) ∧
 (decide (by_ < IntKind.i64.wrap ((0 : Int) - f (nat_lit 0 + (j.toNat * (7 : Nat) + i.toNat * (1 : Nat))))) = false →
 (∃ (i_1 : Nat),
 i_1.le (rowsP n).toNat ∧
 (0 : Int) = (↑i_1 : Int) ∧
 i = i ∧
 j = j ∧
 by_ = by_ ∧
 rowsP n = rowsP n ∧
 n = n ∧
 c = c ∧
 (∀ (o : Nat), o < (49 : Nat) → f o = nearTo f i.toNat j.toNat by_ (rowsP n).toNat i_1 (0 : Nat) o) ∧
 n = n ∧
 c = c ∧
 (∀ (o : Nat), o < (49 : Nat) → f o = f o) ∧
 (0 : Int) = (0 : Int) ∧ false = false ∧ ∀ (o : Nat), o < (49 : Nat) → (0 : Int) = (0 : Int)) ∧
 ∀ (i_1 : Nat),
 i_1.le (rowsP n).toNat →
 (decide ((↑i_1 : Int) < rowsP n) = true →
 (∃ (i_2 : Nat),
 i_2.le (rowsP n).toNat ∧
 (0 : Int) = (↑i_2 : Int) ∧
 i = i ∧
 j = j ∧
 by_ = by_ ∧
 (↑i_1 : Int) = (↑i_1 : Int) ∧
 rowsP n = rowsP n ∧
 (↑i_1 : Int) = (↑i_1 : Int) ∧
 rowsP n = rowsP n ∧
 n = n ∧
 c = c ∧
 (∀ (o : Nat),
 o < (49 : Nat) →
 nearTo f i.toNat j.toNat by_ (rowsP n).toNat i_1 (0 : Nat) o =
 nearTo f i.toNat j.toNat by_ (rowsP n).toNat (↑i_1 : Int).toNat i_2 o) ∧
 n = n ∧
 c = c ∧
 (∀ (o : Nat), o < (49 : Nat) → f o = f o) ∧
 (0 : Int) = (0 : Int) ∧
 false = false ∧ ∀ (o : Nat), o < (49 : Nat) → (0 : Int) = (0 : Int)) ∧
 ∀ (i_2 : Nat),
 i_2.le (rowsP n).toNat →
 (decide ((↑i_2 : Int) < rowsP n) = true →
 ((0 : Int) ≤ (↑i_1 : Int) ∧ (↑i_1 : Int) < (↑(7 : Nat) : Int)) ∧
 ((0 : Int) ≤ (↑i_2 : Int) ∧ (↑i_2 : Int) < (↑(7 : Nat) : Int)) ∧
 nat_lit 0 + ((↑i_1 : Int).toNat * (7 : Nat) + (↑i_2 : Int).toNat * (1 : Nat)) < (49 : Nat) ∧
 ((0 : Int) ≤ (↑i_1 : Int) ∧ (↑i_1 : Int) < (↑(7 : Nat) : Int)) ∧
 ((0 : Int) ≤ i ∧ i < (↑(7 : Nat) : Int)) ∧
 nat_lit 0 + ((↑i_1 : Int).toNat * (7 : Nat) + i.toNat * (1 : Nat)) < (49 : Nat) ∧
 ((0 : Int) ≤ j ∧ j < (↑(7 : Nat) : Int)) ∧
 ((0 : Int) ≤ (↑i_2 : Int) ∧ (↑i_2 : Int) < (↑(7 : Nat) : Int)) ∧
 nat_lit 0 + (j.toNat * (7 : Nat) + (↑i_2 : Int).toNat * (1 : Nat)) < (49 : Nat) ∧
 ((0 : Int) ≤ (↑i_1 : Int) ∧ (↑i_1 : Int) < (↑(7 : Nat) : Int)) ∧
 ((0 : Int) ≤ (↑i_2 : Int) ∧ (↑i_2 : Int) < (↑(7 : Nat) : Int)) ∧
 nat_lit 0 + ((↑i_1 : Int).toNat * (7 : Nat) + (↑i_2 : Int).toNat * (1 : Nat)) + (1 : Nat) ≤
 (49 : Nat) ∧
 ∃ (j_1 : Nat),
 j_1.le (rowsP n).toNat ∧
 (7 : Nat) - j_1 < (7 : Nat) - i_2 ∧
 IntKind.i64.wrap ((↑i_2 : Int) + (1 : Int)) = (↑j_1 : Int) ∧
 i = i ∧
 j = j ∧
 by_ = by_ ∧
 (↑i_1 : Int) = (↑i_1 : Int) ∧
 rowsP n = rowsP n ∧
 (↑i_1 : Int) = (↑i_1 : Int) ∧
 rowsP n = rowsP n ∧
 n = n ∧
 c = c ∧
 (∀ (o : Nat),
 o < (49 : Nat) →
 (if
 ((nat_lit 0 +
 ((↑i_1 : Int).toNat * (7 : Nat) +
 (↑i_2 : Int).toNat * (1 : Nat))).ble
 o &&
 o.blt
 (nat_lit 0 +
 ((↑i_1 : Int).toNat * (7 : Nat) +
 (↑i_2 : Int).toNat * (1 : Nat)) +
 (1 : Nat))) =
 true then
 if
 IntKind.i64.wrap
 (IntKind.i64.wrap
 (f
 (nat_lit 0 +
 ((↑i_1 : Int).toNat * (7 : Nat) +
 i.toNat * (1 : Nat))) +
 by_) +
 f
 (nat_lit 0 +
 (j.toNat * (7 : Nat) +
 (↑i_2 : Int).toNat * (1 : Nat)))) <
 f
 (nat_lit 0 +
 ((↑i_1 : Int).toNat * (7 : Nat) +
 (↑i_2 : Int).toNat * (1 : Nat))) then
 IntKind.i64.wrap
 (IntKind.i64.wrap
 (f
 (nat_lit 0 +
 ((↑i_1 : Int).toNat * (7 : Nat) +
 i.toNat * (1 : Nat))) +
 by_) +
 f
 (nat_lit 0 +
 (j.toNat * (7 : Nat) +
 (↑i_2 : Int).toNat * (1 : Nat))))
 else
 f
 (nat_lit 0 +
 ((↑i_1 : Int).toNat * (7 : Nat) +
 (↑i_2 : Int).toNat * (1 : Nat)))
 else
 nearTo f i.toNat j.toNat by_ (rowsP n).toNat
 (↑i_1 : Int).toNat i_2 o) =
 nearTo f i.toNat j.toNat by_ (rowsP n).toNat
 (↑i_1 : Int).toNat j_1 o) ∧
 n = n ∧
 c = c ∧
 (∀ (o : Nat), o < (49 : Nat) → f o = f o) ∧
 (0 : Int) = (0 : Int) ∧
 false = false ∧
 ∀ (o : Nat),
 o < (49 : Nat) → (0 : Int) = (0 : Int)) ∧
 (decide ((↑i_2 : Int) < rowsP n) = false →
 ∃ (j_1 : Nat),
 j_1.le (rowsP n).toNat ∧
 (7 : Nat) - j_1 < (7 : Nat) - i_1 ∧
 IntKind.i64.wrap ((↑i_1 : Int) + (1 : Int)) = (↑j_1 : Int) ∧
 i = i ∧
 j = j ∧
 by_ = by_ ∧
 rowsP n = rowsP n ∧
 n = n ∧
 c = c ∧
 (∀ (o : Nat),
 o < (49 : Nat) →
 nearTo f i.toNat j.toNat by_ (rowsP n).toNat (↑i_1 : Int).toNat i_2 o =
 nearTo f i.toNat j.toNat by_ (rowsP n).toNat j_1 (0 : Nat) o) ∧
 n = n ∧
 c = c ∧
 (∀ (o : Nat), o < (49 : Nat) → f o = f o) ∧
 (0 : Int) = (0 : Int) ∧
 false = false ∧ ∀ (o : Nat), o < (49 : Nat) → (0 : Int) = (0 : Int))) ∧
 (decide ((↑i_1 : Int) < rowsP n) = false →
 n = n ∧
 c = bdC c f i.toNat j.toNat by_ ∧
 ∀ (o : Nat),
 o < (49 : Nat) → nearTo f i.toNat j.toNat by_ (rowsP n).toNat i_1 (0 : Nat) o = bdF n f i.toNat j.toNat by_ o)))) (by kernel_rfl) ?_
    simp only [raw0, true_and, and_true, implies_true, Nat.mul_one, Int.toNat_natCast, c7, decide_eq_true_eq, decide_eq_false_iff_not, Nat.le_eq, at_iff, and_self]
    intro hs hi hj
    obtain ⟨a, rfl⟩ := Int.eq_ofNat_of_zero_le hi.1
    obtain ⟨b, rfl⟩ := Int.eq_ofNat_of_zero_le hj.1
    have hr := rowsP_le n
    obtain ⟨r, hre⟩ := Int.eq_ofNat_of_zero_le (show 0 ≤ rowsP n by omega)
    have ha := hs (a * 7 + b) (by omega)
    have hb := hs (b * 7 + a) (by omega)
    unfold bdC bdF
    rw [hre] at hr ⊢
    simp only [Int.toNat_natCast]
    rw [wr (0 - f (b * 7 + a)) (by omega)]
    refine ⟨hi, hj, by omega, fun h1 => ?_, fun h1 => ⟨hj, hi, by omega, fun h2 => ?_, fun h2 => ⟨⟨0, Nat.zero_le _, rfl, fun o _ => (nearTo_zero ..).symm⟩, fun k hk => ⟨fun h3 => ⟨⟨0, Nat.zero_le _, rfl, fun o _ => rfl⟩, fun m hm => ⟨fun h4 => ?_, fun h4 => ?_⟩⟩, fun h3 => ?_⟩⟩⟩⟩
    · simp only [if_pos h1]; exact ⟨trivial, fun _ _ => trivial⟩
    · simp only [if_neg h1, if_pos h2]; exact ⟨trivial, fun _ _ => trivial⟩
    · have hk7 : k * 7 + m < 49 := by omega
      have q1 := hs (k * 7 + a) (by omega)
      have q2 := hs (b * 7 + m) (by omega)
      rw [wr (f (k * 7 + a) + by_) (by omega), wr (f (k * 7 + a) + by_ + f (b * 7 + m)) (by omega), wr ((m : Int) + 1) (by omega)]
      refine ⟨by omega, by omega, by omega, by omega, by omega, by omega, by omega, by omega, by omega, by omega, by omega, by omega, m + 1, by omega, by omega, by omega, fun o ho => nearTo_step (by omega) (by omega) ?_ o⟩
      unfold near
      rw [(dm7 (k := k) (m := m) (by omega)).1, (dm7 (k := k) (m := m) (by omega)).2]
      split <;> omega
    · rw [wr ((k : Int) + 1) (by omega)]
      have : m = r := by omega
      subst this
      exact ⟨k + 1, by omega, by omega, by omega, fun o _ => nearTo_next o⟩
    · simp only [if_neg h1, if_neg h2]
      refine ⟨trivial, fun o ho => ?_⟩
      have : k = r := by omega
      subst this
      unfold nearTo
      by_cases h : (o / 7 < k ∨ o / 7 = k ∧ o % 7 < 0) ∧ o % 7 < k
      · rw [if_pos h, if_pos (by omega)]
      · rw [if_neg h, if_neg (by omega)]
  · trivial
end Go.Proofs.Ytbcbcambkjhhhaa.Sx.Z
namespace Go.Proofs.Ytbcbcambkjhhhaa.Sx.Z
open Go.RowKit
def bndC (n : Int) (c : Bool) (f : Nat → Int) (x y by' : Int) : Bool := if (c || !isEndP n x || !isEndP n y) = true then c else bdC c f (x + 1).toNat (y + 1).toNat by'
def bndF (n : Int) (c : Bool) (f : Nat → Int) (x y by' : Int) (o : Nat) : Int := if (c || !isEndP n x || !isEndP n y) = true then f o else bdF n f (x + 1).toNat (y + 1).toNat by' o
theorem isEndP_lt {n x : Int} (h : isEndP n x = true) : -1 ≤ x ∧ x < rowsP n - 1 ∧ x ≤ 5 := by
  have := rowsP_le n
  unfold isEndP at h
  rcases Bool.or_eq_true_iff.1 h with h | h
  · have := eq_of_beq h; omega
  · have := isVarP_lt h; omega
/-- Of Forget the columns and rows below k. -/
def fgTo (f : Nat → Int) (i k : Nat) (o : Nat) : Int := if o / 7 = i ∧ o % 7 ≠ i ∧ o % 7 < k then 2147483647 + f (o % 7) else if o % 7 = i ∧ o / 7 ≠ i ∧ o / 7 < k then f (o / 7 * 7) + 2147483648 else f o
def forgetF (n : Int) (c : Bool) (f : Nat → Int) (x : Int) (o : Nat) : Int := if (c || !isVarP n x) = true then f o else fgTo f (x + 1).toNat (rowsP n).toNat o
def shTo (f : Nat → Int) (i : Nat) (by' : Int) (k : Nat) (o : Nat) : Int := if o / 7 = i ∧ o % 7 ≠ i ∧ o % 7 < k then f o + by' else if o % 7 = i ∧ o / 7 ≠ i ∧ o / 7 < k then f o - by' else f o
def shiftF (n : Int) (c : Bool) (f : Nat → Int) (i : Nat) (by' : Int) (o : Nat) : Int := if c = true then f o else shTo f i by' (rowsP n).toNat o
def topN (n : Int) : Int := min (max n 0) 6
def boundS : FSpec := fun ds _ => match ds with
  | [.i n, .b c, .f f, .i x, .i y, .i by_] => some { val := .one (.agg [.c (.int .i64 (.sym (n))), .c (.bool (.sym (bndC n c f x y by_))), .ints .i64 (.lit 49) (bndF n c f x y by_)]), vc := [Sm f] }
  | _ => none
def boundC : Con := con [zA, iA, iA, iA] boundS
theorem bound_ok : ConOK Try.prog 97 boundC := by
  refine fn_ob tt_ok mixed Try.func97 rfl (fun _ _ => by kernel_rfl) (A := fun ds => ⟨fun _ => Cons.of [(126, isEndC), (127, boundedC)], fun _ => none, fun _ => none⟩) (fun _ _ => (cons_cons isEnd_ok (cons_cons bounded_ok cons_nil))) (by kernel_rfl) ?_
  intro ds fr
  unfold boundS
  split
  · rename_i n c f x y by_
    refine kmp (q := Sm f →
 ((c || !isEndP n x || !isEndP n y) = true → n = n ∧ c = bndC n c f x y by_ ∧ ∀ (o : Nat), o < (49 : Nat) → f o = bndF n c f x y by_ o) ∧
 ((c || !isEndP n x || !isEndP n y) = false →
 Sm f ∧
 ((0 : Int) ≤ IntKind.i64.wrap (x + (1 : Int)) ∧ IntKind.i64.wrap (x + (1 : Int)) < (7 : Int)) ∧
 ((0 : Int) ≤ IntKind.i64.wrap (y + (1 : Int)) ∧ IntKind.i64.wrap (y + (1 : Int)) < (7 : Int)) ∧
 n = n ∧
 bdC c f (IntKind.i64.wrap (x + (1 : Int))).toNat (IntKind.i64.wrap (y + (1 : Int))).toNat by_ = bndC n c f x y by_ ∧
 ∀ (o : Nat),
 o < (49 : Nat) → bdF n f (IntKind.i64.wrap (x + (1 : Int))).toNat (IntKind.i64.wrap (y + (1 : Int))).toNat by_ o = bndF n c f x y by_ o)) (by kernel_rfl) ?_
    simp only [true_and]
    intro hs
    refine ⟨fun h => ?_, fun h => ?_⟩
    · unfold bndC bndF; simp only [if_pos h]; exact ⟨trivial, fun _ _ => trivial⟩
    · have hx := isEndP_lt (show isEndP n x = true by revert h; cases c <;> cases isEndP n x <;> simp)
      have hy := isEndP_lt (show isEndP n y = true by revert h; cases c <;> cases isEndP n x <;> cases isEndP n y <;> simp)
      rw [wr (x + 1) (by omega), wr (y + 1) (by omega)]
      unfold bndC bndF
      simp only [h, Bool.false_eq_true, if_false]
      exact ⟨hs, by omega, by omega, trivial, fun _ _ => trivial⟩
  · trivial
def forgetS : FSpec := fun ds _ => match ds with
  | [.i n, .b c, .f f, .i x] => some { val := .one (.agg [.c (.int .i64 (.sym (n))), .c (.bool (.sym (c))), .ints .i64 (.lit 49) (forgetF n c f x)]), vc := [Sm f] }
  | _ => none
def forgetC : Con := con [zA, iA] forgetS
theorem forget_ok : ConOK Try.prog 100 forgetC := by
  refine fn_ob tt_ok mixed Try.func100 rfl (fun _ _ => by kernel_rfl) (A := fun ds => ⟨fun _ => Cons.of [(118, isVarC), (114, rowsC)], fun k => match k, ds with | 5, [.i n, .b c, .f f, .i x] => some { ι := Nat, pre := fun _ k => k ≤ (rowsP n).toNat, μ := fun k => 7 - k, st := fun s k => fam s [(20, .one (.sc (.int .i64 (.sym (k : Nat)))))] [2, 4, 5, 19] 2 (.own 89 (zs (.sym n) (.sym c) (fgTo f (x + 1).toNat k))) [4] } | _, _ => none, fun _ => none⟩) (fun _ _ => (cons_cons isVar_ok (cons_cons rows_ok cons_nil))) (by kernel_rfl) ?_
  intro ds fr
  unfold forgetS
  split
  · rename_i n c f x
    refine kmp (q := Sm f →
 ((c || !isVarP n x) = true → n = n ∧ c = c ∧ ∀ (o : Nat), o < (49 : Nat) → f o = forgetF n c f x o) ∧
 ((c || !isVarP n x) = false →
 (∃ (i : Nat),
 i.le (rowsP n).toNat ∧
 (0 : Int) = (↑i : Int) ∧
 IntKind.i64.wrap (x + (1 : Int)) = IntKind.i64.wrap (x + (1 : Int)) ∧
 rowsP n = rowsP n ∧
 n = n ∧
 c = c ∧
 (∀ (o : Nat), o < (49 : Nat) → f o = fgTo f (x + (1 : Int)).toNat i o) ∧
 (0 : Int) = (0 : Int) ∧ false = false ∧ ∀ (o : Nat), o < (49 : Nat) → (0 : Int) = (0 : Int)) ∧
 ∀ (i : Nat),
 i.le (rowsP n).toNat →
 (decide ((↑i : Int) < rowsP n) = true →
 (((↑i : Int) != IntKind.i64.wrap (x + (1 : Int))) = true →
 ((0 : Int) ≤ (↑i : Int) ∧ (↑i : Int) < (↑(7 : Nat) : Int)) ∧
 nat_lit 0 + (↑i : Int).toNat * (1 : Nat) < (49 : Nat) ∧
 ((0 : Int) ≤ IntKind.i64.wrap (x + (1 : Int)) ∧ IntKind.i64.wrap (x + (1 : Int)) < (↑(7 : Nat) : Int)) ∧
 ((0 : Int) ≤ (↑i : Int) ∧ (↑i : Int) < (↑(7 : Nat) : Int)) ∧
 nat_lit 0 + ((IntKind.i64.wrap (x + (1 : Int))).toNat * (7 : Nat) + (↑i : Int).toNat * (1 : Nat)) + (1 : Nat) ≤ (49 : Nat) ∧
 ((0 : Int) ≤ (↑i : Int) ∧ (↑i : Int) < (↑(7 : Nat) : Int)) ∧
 nat_lit 0 + (↑i : Int).toNat * (7 : Nat) < (49 : Nat) ∧
 ((0 : Int) ≤ (↑i : Int) ∧ (↑i : Int) < (↑(7 : Nat) : Int)) ∧
 ((0 : Int) ≤ IntKind.i64.wrap (x + (1 : Int)) ∧ IntKind.i64.wrap (x + (1 : Int)) < (↑(7 : Nat) : Int)) ∧
 nat_lit 0 + ((↑i : Int).toNat * (7 : Nat) + (IntKind.i64.wrap (x + (1 : Int))).toNat * (1 : Nat)) + (1 : Nat) ≤
 (49 : Nat) ∧
 ∃ (j : Nat),
 j.le (rowsP n).toNat ∧
 (7 : Nat) - j < (7 : Nat) - i ∧
 IntKind.i64.wrap ((↑i : Int) + (1 : Int)) = (↑j : Int) ∧
 IntKind.i64.wrap (x + (1 : Int)) = IntKind.i64.wrap (x + (1 : Int)) ∧
 rowsP n = rowsP n ∧
 n = n ∧
 c = c ∧
 (∀ (o : Nat),
 o < (49 : Nat) →
 (if
 ((nat_lit 0 +
 ((↑i : Int).toNat * (7 : Nat) +
 (IntKind.i64.wrap (x + (1 : Int))).toNat * (1 : Nat))).ble
 o &&
 o.blt
 (nat_lit 0 +
 ((↑i : Int).toNat * (7 : Nat) +
 (IntKind.i64.wrap (x + (1 : Int))).toNat * (1 : Nat)) +
 (1 : Nat))) =
 true then
 IntKind.i64.wrap
 ((if
 ((nat_lit 0 +
 ((IntKind.i64.wrap (x + (1 : Int))).toNat * (7 : Nat) +
 (↑i : Int).toNat * (1 : Nat))).ble
 (nat_lit 0 + (↑i : Int).toNat * (7 : Nat)) &&
 (nat_lit 0 + (↑i : Int).toNat * (7 : Nat)).blt
 (nat_lit 0 +
 ((IntKind.i64.wrap (x + (1 : Int))).toNat * (7 : Nat) +
 (↑i : Int).toNat * (1 : Nat)) +
 (1 : Nat))) =
 true then
 IntKind.i64.wrap
 ((2147483647 : Int) +
 fgTo f (x + (1 : Int)).toNat i (nat_lit 0 + (↑i : Int).toNat * (1 : Nat)))
 else fgTo f (x + (1 : Int)).toNat i (nat_lit 0 + (↑i : Int).toNat * (7 : Nat))) -
 (-2147483648 : Int))
 else
 if
 ((nat_lit 0 +
 ((IntKind.i64.wrap (x + (1 : Int))).toNat * (7 : Nat) +
 (↑i : Int).toNat * (1 : Nat))).ble
 o &&
 o.blt
 (nat_lit 0 +
 ((IntKind.i64.wrap (x + (1 : Int))).toNat * (7 : Nat) +
 (↑i : Int).toNat * (1 : Nat)) +
 (1 : Nat))) =
 true then
 IntKind.i64.wrap
 ((2147483647 : Int) +
 fgTo f (x + (1 : Int)).toNat i (nat_lit 0 + (↑i : Int).toNat * (1 : Nat)))
 else fgTo f (x + (1 : Int)).toNat i o) =
 fgTo f (x + (1 : Int)).toNat j o) ∧
 (0 : Int) = (0 : Int) ∧ false = false ∧ ∀ (o : Nat), o < (49 : Nat) → (0 : Int) = (0 : Int)) ∧
 (((↑i : Int) != IntKind.i64.wrap (x + (1 : Int))) = false →
 ∃ (j : Nat),
 j.le (rowsP n).toNat ∧
 (7 : Nat) - j < (7 : Nat) - i ∧
 IntKind.i64.wrap ((↑i : Int) + (1 : Int)) = (↑j : Int) ∧
 IntKind.i64.wrap (x + (1 : Int)) = IntKind.i64.wrap (x + (1 : Int)) ∧
 rowsP n = rowsP n ∧
 n = n ∧
 c = c ∧
 (∀ (o : Nat), o < (49 : Nat) → fgTo f (x + (1 : Int)).toNat i o = fgTo f (x + (1 : Int)).toNat j o) ∧
 (0 : Int) = (0 : Int) ∧ false = false ∧ ∀ (o : Nat), o < (49 : Nat) → (0 : Int) = (0 : Int))) ∧
 (decide ((↑i : Int) < rowsP n) = false → n = n ∧ c = c ∧ ∀ (o : Nat), o < (49 : Nat) → fgTo f (x + (1 : Int)).toNat i o = forgetF n c f x o))) (by kernel_rfl) ?_
    simp only [raw0, true_and, and_true, implies_true, Nat.mul_one, Int.toNat_natCast, c7, decide_eq_true_eq, decide_eq_false_iff_not, Nat.le_eq, at_iff, bne_iff_ne, bne_eq_false_iff_eq, and_self]
    intro hs
    refine ⟨fun h => ?_, fun h => ?_⟩
    · unfold forgetF; simp only [if_pos h]; exact fun _ _ => trivial
    · have hx := isVarP_lt (show isVarP n x = true by revert h; cases c <;> cases isVarP n x <;> simp)
      unfold forgetF
      simp only [h, Bool.false_eq_true, if_false]
      have hr := rowsP_le n
      obtain ⟨r, hre⟩ := Int.eq_ofNat_of_zero_le (show 0 ≤ rowsP n by omega)
      obtain ⟨a, ha⟩ := Int.eq_ofNat_of_zero_le (show 0 ≤ x + 1 by omega)
      rw [hre] at hr hx ⊢
      rw [wr (x + 1) (by omega), ha]
      simp only [Int.toNat_natCast]
      refine ⟨⟨0, by omega, rfl, fun o ho => ?_⟩, fun k hk => ⟨fun h3 => ⟨fun h5 => ?_, fun h5 => ?_⟩, fun h3 o ho => ?_⟩⟩
      · unfold fgTo; rw [if_neg (by omega), if_neg (by omega)]
      · have e1 : fgTo f a k k = f k := by unfold fgTo; rw [if_neg (by omega), if_neg (by omega)]
        have e2 : fgTo f a k (k * 7) = f (k * 7) := by unfold fgTo; rw [if_neg (by omega), if_neg (by omega)]
        have q1 := hs k (by omega)
        have q2 := hs (k * 7) (by omega)
        rw [e1, e2, wr (2147483647 + f k) (by omega), if_neg (show ¬ k * 7 = a * 7 + k by omega), wr (f (k * 7) - -2147483648) (by omega), wr ((k : Int) + 1) (by omega)]
        refine ⟨by omega, by omega, by omega, by omega, by omega, by omega, by omega, by omega, by omega, by omega, k + 1, by omega, by omega, by omega, fun o ho => ?_⟩
        by_cases h6 : o = k * 7 + a
        · rw [if_pos h6]
          subst h6
          unfold fgTo
          rw [if_neg (by omega), if_pos (by omega), (dm7 (k := k) (m := a) (by omega)).1]
          omega
        · rw [if_neg h6]
          by_cases h7 : o = a * 7 + k
          · rw [if_pos h7]
            subst h7
            unfold fgTo
            rw [if_pos (by omega), (dm7 (k := a) (m := k) (by omega)).2]
          · rw [if_neg h7]
            unfold fgTo
            exact icg (by omega) rfl (icg (by omega) rfl rfl)
      · rw [wr ((k : Int) + 1) (by omega)]
        refine ⟨k + 1, by omega, by omega, by omega, fun o ho => ?_⟩
        unfold fgTo
        exact icg (by omega) rfl (icg (by omega) rfl rfl)
      · have : k = r := by omega
        rw [this]
  · trivial
def shiftedS : FSpec := fun ds _ => match ds with
  | [.i n, .b c, .f f, .i i, .i by_] => some { val := .one (.agg [.c (.int .i64 (.sym (n))), .c (.bool (.sym (c))), .ints .i64 (.lit 49) (shiftF n c f i.toNat by_)]), vc := [Sm f, (0 ≤ i ∧ i < 7), (-2199023255552 ≤ by_ ∧ by_ ≤ 2199023255552)] }
  | _ => none
def shiftedC : Con := con [zA, iA, iA] shiftedS
theorem shifted_ok : ConOK Try.prog 143 shiftedC := by
  refine fn_ob tt_ok mixed Try.func143 rfl (fun _ _ => by kernel_rfl) (A := fun ds => ⟨fun _ => Cons.of [(114, rowsC)], fun k => match k, ds with | 4, [.i n, .b c, .f f, .i i, .i by_] => some { ι := Nat, pre := fun _ k => k ≤ (rowsP n).toNat, μ := fun k => 7 - k, st := fun s k => fam s [(13, .one (.sc (.int .i64 (.sym (k : Nat)))))] [1, 2, 3, 6, 12] 3 (.own 89 (zs (.sym n) (.sym c) (shTo f i.toNat by_ k))) [6] } | _, _ => none, fun _ => none⟩) (fun _ _ => (cons_cons rows_ok cons_nil)) (by kernel_rfl) ?_
  intro ds fr
  unfold shiftedS
  split
  · rename_i n c f i by_
    refine kmp (q := Sm f →
 (0 : Int) ≤ i ∧ i < (7 : Int) →
 (-2199023255552 : Int) ≤ by_ ∧ by_ ≤ (2199023255552 : Int) →
 (c = true → n = n ∧ c = c ∧ ∀ (o : Nat), o < (49 : Nat) → f o = shiftF n c f i.toNat by_ o) ∧
 (c = false →
 (∃ (i_1 : Nat),
 i_1.le (rowsP n).toNat ∧
 (0 : Int) = (↑i_1 : Int) ∧
 i = i ∧
 by_ = by_ ∧
 rowsP n = rowsP n ∧
 n = n ∧
 c = c ∧
 (∀ (o : Nat), o < (49 : Nat) → f o = shTo f i.toNat by_ i_1 o) ∧
 (0 : Int) = (0 : Int) ∧ false = false ∧ ∀ (o : Nat), o < (49 : Nat) → (0 : Int) = (0 : Int)) ∧
 ∀ (i_1 : Nat),
 i_1.le (rowsP n).toNat →
 (decide ((↑i_1 : Int) < rowsP n) = true →
 (((↑i_1 : Int) != i) = true →
 ((0 : Int) ≤ i ∧ i < (↑(7 : Nat) : Int)) ∧
 ((0 : Int) ≤ (↑i_1 : Int) ∧ (↑i_1 : Int) < (↑(7 : Nat) : Int)) ∧
 nat_lit 0 + (i.toNat * (7 : Nat) + (↑i_1 : Int).toNat * (1 : Nat)) < (49 : Nat) ∧
 ((0 : Int) ≤ i ∧ i < (↑(7 : Nat) : Int)) ∧
 ((0 : Int) ≤ (↑i_1 : Int) ∧ (↑i_1 : Int) < (↑(7 : Nat) : Int)) ∧
 nat_lit 0 + (i.toNat * (7 : Nat) + (↑i_1 : Int).toNat * (1 : Nat)) + (1 : Nat) ≤ (49 : Nat) ∧
 ((0 : Int) ≤ (↑i_1 : Int) ∧ (↑i_1 : Int) < (↑(7 : Nat) : Int)) ∧
 ((0 : Int) ≤ i ∧ i < (↑(7 : Nat) : Int)) ∧
 nat_lit 0 + ((↑i_1 : Int).toNat * (7 : Nat) + i.toNat * (1 : Nat)) < (49 : Nat) ∧
 ((0 : Int) ≤ (↑i_1 : Int) ∧ (↑i_1 : Int) < (↑(7 : Nat) : Int)) ∧
 ((0 : Int) ≤ i ∧ i < (↑(7 : Nat) : Int)) ∧
 nat_lit 0 + ((↑i_1 : Int).toNat * (7 : Nat) + i.toNat * (1 : Nat)) + (1 : Nat) ≤ (49 : Nat) ∧
 ∃ (j : Nat),
 j.le (rowsP n).toNat ∧
 (7 : Nat) - j < (7 : Nat) - i_1 ∧
 IntKind.i64.wrap ((↑i_1 : Int) + (1 : Int)) = (↑j : Int) ∧
 i = i ∧
 by_ = by_ ∧
 rowsP n = rowsP n ∧
 n = n ∧
 c = c ∧
 (∀ (o : Nat),
 o < (49 : Nat) →
 (if
 ((nat_lit 0 + ((↑i_1 : Int).toNat * (7 : Nat) + i.toNat * (1 : Nat))).ble o &&
 o.blt
 (nat_lit 0 + ((↑i_1 : Int).toNat * (7 : Nat) + i.toNat * (1 : Nat)) +
 (1 : Nat))) =
 true then
 IntKind.i64.wrap
 ((if
 ((nat_lit 0 + (i.toNat * (7 : Nat) + (↑i_1 : Int).toNat * (1 : Nat))).ble
 (nat_lit 0 +
 ((↑i_1 : Int).toNat * (7 : Nat) + i.toNat * (1 : Nat))) &&
 (nat_lit 0 + ((↑i_1 : Int).toNat * (7 : Nat) + i.toNat * (1 : Nat))).blt
 (nat_lit 0 + (i.toNat * (7 : Nat) + (↑i_1 : Int).toNat * (1 : Nat)) +
 (1 : Nat))) =
 true then
 IntKind.i64.wrap
 (shTo f i.toNat by_ i_1
 (nat_lit 0 + (i.toNat * (7 : Nat) + (↑i_1 : Int).toNat * (1 : Nat))) +
 by_)
 else
 shTo f i.toNat by_ i_1
 (nat_lit 0 + ((↑i_1 : Int).toNat * (7 : Nat) + i.toNat * (1 : Nat)))) -
 by_)
 else
 if
 ((nat_lit 0 + (i.toNat * (7 : Nat) + (↑i_1 : Int).toNat * (1 : Nat))).ble o &&
 o.blt
 (nat_lit 0 + (i.toNat * (7 : Nat) + (↑i_1 : Int).toNat * (1 : Nat)) +
 (1 : Nat))) =
 true then
 IntKind.i64.wrap
 (shTo f i.toNat by_ i_1
 (nat_lit 0 + (i.toNat * (7 : Nat) + (↑i_1 : Int).toNat * (1 : Nat))) +
 by_)
 else shTo f i.toNat by_ i_1 o) =
 shTo f i.toNat by_ j o) ∧
 (0 : Int) = (0 : Int) ∧
 false = false ∧ ∀ (o : Nat), o < (49 : Nat) → (0 : Int) = (0 : Int)) ∧
 (((↑i_1 : Int) != i) = false →
 ∃ (j : Nat),
 j.le (rowsP n).toNat ∧
 (7 : Nat) - j < (7 : Nat) - i_1 ∧
 IntKind.i64.wrap ((↑i_1 : Int) + (1 : Int)) = (↑j : Int) ∧
 i = i ∧
 by_ = by_ ∧
 rowsP n = rowsP n ∧
 n = n ∧
 c = c ∧
 (∀ (o : Nat), o < (49 : Nat) → shTo f i.toNat by_ i_1 o = shTo f i.toNat by_ j o) ∧
 (0 : Int) = (0 : Int) ∧ false = false ∧ ∀ (o : Nat), o < (49 : Nat) → (0 : Int) = (0 : Int))) ∧
 (decide ((↑i_1 : Int) < rowsP n) = false →
 n = n ∧ c = c ∧ ∀ (o : Nat), o < (49 : Nat) → shTo f i.toNat by_ i_1 o = shiftF n c f i.toNat by_ o))) (by kernel_rfl) ?_
    simp only [raw0, true_and, and_true, implies_true, Nat.mul_one, Int.toNat_natCast, c7, decide_eq_true_eq, decide_eq_false_iff_not, Nat.le_eq, at_iff, bne_iff_ne, bne_eq_false_iff_eq, and_self]
    intro hs hi hb
    refine ⟨fun h => ?_, fun h => ?_⟩
    · unfold shiftF; simp only [if_pos h]; exact fun _ _ => trivial
    · unfold shiftF
      simp only [h, Bool.false_eq_true, if_false]
      have hr := rowsP_le n
      obtain ⟨r, hre⟩ := Int.eq_ofNat_of_zero_le (show 0 ≤ rowsP n by omega)
      obtain ⟨a, rfl⟩ := Int.eq_ofNat_of_zero_le hi.1
      rw [hre] at hr ⊢
      simp only [Int.toNat_natCast]
      refine ⟨⟨0, by omega, rfl, fun o ho => ?_⟩, fun k hk => ⟨fun h3 => ⟨fun h5 => ?_, fun h5 => ?_⟩, fun h3 o ho => ?_⟩⟩
      · unfold shTo; rw [if_neg (by omega), if_neg (by omega)]
      · have e1 : shTo f a by_ k (a * 7 + k) = f (a * 7 + k) := by unfold shTo; rw [if_neg (by omega), if_neg (by omega)]
        have e2 : shTo f a by_ k (k * 7 + a) = f (k * 7 + a) := by unfold shTo; rw [if_neg (by omega), if_neg (by omega)]
        have q1 := hs (a * 7 + k) (by omega)
        have q2 := hs (k * 7 + a) (by omega)
        rw [e1, e2, if_neg (show ¬ k * 7 + a = a * 7 + k by omega), wr (f (a * 7 + k) + by_) (by omega), wr (f (k * 7 + a) - by_) (by omega), wr ((k : Int) + 1) (by omega)]
        refine ⟨by omega, by omega, by omega, by omega, by omega, by omega, by omega, by omega, by omega, by omega, by omega, by omega, k + 1, by omega, by omega, by omega, fun o ho => ?_⟩
        by_cases h6 : o = k * 7 + a
        · rw [if_pos h6]
          subst h6
          unfold shTo
          rw [if_neg (by omega), if_pos (by omega)]
        · rw [if_neg h6]
          by_cases h7 : o = a * 7 + k
          · rw [if_pos h7]
            subst h7
            unfold shTo
            rw [if_pos (by omega)]
          · rw [if_neg h7]
            unfold shTo
            exact icg (by omega) rfl (icg (by omega) rfl rfl)
      · rw [wr ((k : Int) + 1) (by omega)]
        refine ⟨k + 1, by omega, by omega, by omega, fun o ho => ?_⟩
        unfold shTo
        exact icg (by omega) rfl (icg (by omega) rfl rfl)
      · have : k = r := by omega
        rw [this]
  · trivial
end Go.Proofs.Ytbcbcambkjhhhaa.Sx.Z
