/-
  The zone's small calls: what they tell.
-/
import Derived.Test.YtbcbcambkjhhhaaTt
import Derived.IntWalk
namespace Go.Proofs.Ytbcbcambkjhhhaa.Sx.Z
open Go.RowKit
def zs (n : SI) (b : SB) (D : Nat → Int) : List Seg := [.c (.int .i64 n), .c (.bool b), .ints .i64 (.lit 49) D]
def i0 : Seg := .c (.int .i64 (.lit 0))
def zA : AP := .agg [.c (.int .i64), .c .bool, .ints .i64 49]
def iA : AP := .sc (.int .i64)
def itvA : AP := .agg [.c (.int .i64), .c (.int .i64)]
theorem wr (x : Int) (h : -9223372036854775808 ≤ x ∧ x ≤ 9223372036854775807) : IntKind.i64.wrap x = x := IntWalk.i64_in x h
/-- From one number to another one, as far as a variable may be. -/
def ofLo (a b : Int) : Int := if min b 2147483647 < max a (-2147483648) then 1 else max a (-2147483648)
def ofHi (a b : Int) : Int := if min b 2147483647 < max a (-2147483648) then 0 else min b 2147483647
/-- How many rows. -/
def rowsP (n : Int) : Int := 1 + min (max n 0) 6
theorem rowsP_le (n : Int) : 1 ≤ rowsP n ∧ rowsP n ≤ 7 := by unfold rowsP; omega
def isVarP (n x : Int) : Bool := decide (0 ≤ x) && decide (x < rowsP n - 1)
theorem isVarP_lt {n x : Int} (h : isVarP n x = true) : 0 ≤ x ∧ x < rowsP n - 1 ∧ x ≤ 5 := by
  have := rowsP_le n
  simp only [isVarP, Bool.and_eq_true, decide_eq_true_eq] at h
  omega
def Sm (f : Nat → Int) : Prop := ∀ o, o < 49 → -1099511627776 ≤ f o ∧ f o ≤ 1099511627776
def itvLo (n : Int) (c : Bool) (f : Nat → Int) (x : Int) : Int := if (c || !isVarP n x) = true then 1 else ofLo (0 - f (x + 1).toNat) (f ((x + 1).toNat * 7))
def itvHi (n : Int) (c : Bool) (f : Nat → Int) (x : Int) : Int := if (c || !isVarP n x) = true then 0 else ofHi (0 - f (x + 1).toNat) (f ((x + 1).toNat * 7))
def isEndP (n x : Int) : Bool := (x == -1) || isVarP n x
def emptyS : FSpec := fun ds _ => match ds with
  | [.i a, .i b] => some { val := .one (.sc (.bool (.sym (decide (b < a))))), vc := [] }
  | _ => none
def emptyC : Con := con [itvA] emptyS
theorem empty_ok : ConOK Try.prog 46 emptyC := by
  refine fn_ob tt_ok mixed Try.func46 rfl (fun _ _ => by kernel_rfl) (A := fun ds => ⟨fun _ => Cons.of [], fun _ => none, fun _ => none⟩) (fun _ _ => cons_nil) (by kernel_rfl) ?_
  intro ds fr
  unfold emptyS
  split
  · rename_i a b
    refine kmp (q := decide (a > b) = decide (b < a)) (by kernel_rfl) ?_
    rfl
  · trivial
def inoneS : FSpec := fun ds _ => match ds with
  | [] => some { val := .one (.agg [.c (.int .i64 (.sym (1))), .c (.int .i64 (.sym (0)))]), vc := [] }
  | _ => none
def inoneC : Con := con [] inoneS
theorem inone_ok : ConOK Try.prog 78 inoneC := by
  refine fn_ob tt_ok mixed Try.func78 rfl (fun _ _ => by kernel_rfl) (A := fun ds => ⟨fun _ => Cons.of [], fun _ => none, fun _ => none⟩) (fun _ _ => cons_nil) (by kernel_rfl) ?_
  intro ds fr
  unfold inoneS
  split
  · skip
    refine kmp (q := (1 : Int) = (1 : Int) ∧ (0 : Int) = (0 : Int)) (by kernel_rfl) ?_
    exact ⟨rfl, rfl⟩
  · trivial
def iallS : FSpec := fun ds _ => match ds with
  | [] => some { val := .one (.agg [.c (.int .i64 (.sym (-2147483648))), .c (.int .i64 (.sym (2147483647)))]), vc := [] }
  | _ => none
def iallC : Con := con [] iallS
theorem iall_ok : ConOK Try.prog 115 iallC := by
  refine fn_ob tt_ok mixed Try.func115 rfl (fun _ _ => by kernel_rfl) (A := fun ds => ⟨fun _ => Cons.of [], fun _ => none, fun _ => none⟩) (fun _ _ => cons_nil) (by kernel_rfl) ?_
  intro ds fr
  unfold iallS
  split
  · skip
    refine kmp (q := (-2147483648 : Int) = (-2147483648 : Int) ∧ (2147483647 : Int) = (2147483647 : Int)) (by kernel_rfl) ?_
    exact ⟨rfl, rfl⟩
  · trivial
def iofS : FSpec := fun ds _ => match ds with
  | [.i a, .i b] => some { val := .one (.agg [.c (.int .i64 (.sym (ofLo a b))), .c (.int .i64 (.sym (ofHi a b)))]), vc := [] }
  | _ => none
def iofC : Con := con [iA, iA] iofS
theorem iof_ok : ConOK Try.prog 68 iofC := by
  refine fn_ob tt_ok mixed Try.func68 rfl (fun _ _ => by kernel_rfl) (A := fun ds => ⟨fun _ => Cons.of [(46, emptyC), (78, inoneC)], fun _ => none, fun _ => none⟩) (fun _ _ => (cons_cons empty_ok (cons_cons inone_ok cons_nil))) (by kernel_rfl) ?_
  intro ds fr
  unfold iofS
  split
  · rename_i a b
    refine kmp (q := (decide ((if (2147483647 : Int) < b then (2147483647 : Int) else b) < if (-2147483648 : Int) > a then (-2147483648 : Int) else a) = true →
 (1 : Int) = ofLo a b ∧ (0 : Int) = ofHi a b) ∧
 (decide ((if (2147483647 : Int) < b then (2147483647 : Int) else b) < if (-2147483648 : Int) > a then (-2147483648 : Int) else a) = false →
 (if (-2147483648 : Int) > a then (-2147483648 : Int) else a) = ofLo a b ∧ (if (2147483647 : Int) < b then (2147483647 : Int) else b) = ofHi a b)) (by kernel_rfl) ?_
    unfold ofLo ofHi
    refine ⟨fun h => ?_, fun h => ?_⟩
    · have h := of_decide_eq_true h
      (repeat' split at h) <;> (repeat' split) <;> omega
    · have h := of_decide_eq_false h
      (repeat' split at h) <;> (repeat' split) <;> omega
  · trivial
def iconstS : FSpec := fun ds _ => match ds with
  | [.i a] => some { val := .one (.agg [.c (.int .i64 (.sym (ofLo a a))), .c (.int .i64 (.sym (ofHi a a)))]), vc := [] }
  | _ => none
def iconstC : Con := con [iA] iconstS
theorem iconst_ok : ConOK Try.prog 34 iconstC := by
  refine fn_ob tt_ok mixed Try.func34 rfl (fun _ _ => by kernel_rfl) (A := fun ds => ⟨fun _ => Cons.of [(68, iofC)], fun _ => none, fun _ => none⟩) (fun _ _ => (cons_cons iof_ok cons_nil)) (by kernel_rfl) ?_
  intro ds fr
  unfold iconstS
  split
  · rename_i a
    refine kmp (q := ofLo a a = ofLo a a ∧ ofHi a a = ofHi a a) (by kernel_rfl) ?_
    exact ⟨rfl, rfl⟩
  · trivial
def ihasS : FSpec := fun ds _ => match ds with
  | [.i a, .i b, .i n] => some { val := .one (.sc (.bool (.sym (decide (a ≤ n) && decide (n ≤ b))))), vc := [] }
  | _ => none
def ihasC : Con := con [itvA, iA] ihasS
theorem ihas_ok : ConOK Try.prog 45 ihasC := by
  refine fn_ob tt_ok mixed Try.func45 rfl (fun _ _ => by kernel_rfl) (A := fun ds => ⟨fun _ => Cons.of [], fun _ => none, fun _ => none⟩) (fun _ _ => cons_nil) (by kernel_rfl) ?_
  intro ds fr
  unfold ihasS
  split
  · rename_i a b n
    refine kmp (q := (decide (a ≤ n) && decide (n ≤ b)) = (decide (a ≤ n) && decide (n ≤ b))) (by kernel_rfl) ?_
    rfl
  · trivial
def rowsS : FSpec := fun ds _ => match ds with
  | [.i n, .b _, .f _] => some { val := .one (.sc (.int .i64 (.sym (rowsP n)))), vc := [] }
  | _ => none
def rowsC : Con := con [zA] rowsS
theorem rows_ok : ConOK Try.prog 114 rowsC := by
  refine fn_ob tt_ok mixed Try.func114 rfl (fun _ _ => by kernel_rfl) (A := fun ds => ⟨fun _ => Cons.of [], fun _ => none, fun _ => none⟩) (fun _ _ => cons_nil) (by kernel_rfl) ?_
  intro ds fr
  unfold rowsS
  split
  · rename_i n c f
    refine kmp (q := IntKind.i64.wrap ((1 : Int) + if (6 : Int) < if (0 : Int) > n then (0 : Int) else n then (6 : Int) else if (0 : Int) > n then (0 : Int) else n) = rowsP n) (by kernel_rfl) ?_
    rw [wr _ (by (repeat' split) <;> omega)]
    unfold rowsP
    (repeat' split) <;> omega
  · trivial
def isVarS : FSpec := fun ds _ => match ds with
  | [.i n, .b _, .f _, .i x] => some { val := .one (.sc (.bool (.sym (isVarP n x)))), vc := [] }
  | _ => none
def isVarC : Con := con [zA, iA] isVarS
theorem isVar_ok : ConOK Try.prog 118 isVarC := by
  refine fn_ob tt_ok mixed Try.func118 rfl (fun _ _ => by kernel_rfl) (A := fun ds => ⟨fun _ => Cons.of [(114, rowsC)], fun _ => none, fun _ => none⟩) (fun _ _ => (cons_cons rows_ok cons_nil)) (by kernel_rfl) ?_
  intro ds fr
  unfold isVarS
  split
  · rename_i n c f x
    refine kmp (q := (decide (x ≥ (0 : Int)) && decide (x < IntKind.i64.wrap (rowsP n - (1 : Int)))) = isVarP n x) (by kernel_rfl) ?_
    have := rowsP_le n
    rw [wr _ (by omega)]
    rfl
  · trivial
def isEndS : FSpec := fun ds _ => match ds with
  | [.i n, .b _, .f _, .i x] => some { val := .one (.sc (.bool (.sym (isEndP n x)))), vc := [] }
  | _ => none
def isEndC : Con := con [zA, iA] isEndS
theorem isEnd_ok : ConOK Try.prog 126 isEndC := by
  refine fn_ob tt_ok mixed Try.func126 rfl (fun _ _ => by kernel_rfl) (A := fun ds => ⟨fun _ => Cons.of [(118, isVarC)], fun _ => none, fun _ => none⟩) (fun _ _ => (cons_cons isVar_ok cons_nil)) (by kernel_rfl) ?_
  intro ds fr
  unfold isEndS
  split
  · rename_i n c f x
    refine kmp (q := (x == (-1 : Int) || isVarP n x) = isEndP n x) (by kernel_rfl) ?_
    rfl
  · trivial
def zerosS : FSpec := fun ds _ => match ds with
  | [.i n] => some { val := .one (.agg [.c (.int .i64 (.sym (min (max n 0) 6))), .c (.bool (.sym (false))), .ints .i64 (.lit 49) (fun _ => 0)]), vc := [] }
  | _ => none
def zerosC : Con := con [iA] zerosS
theorem zeros_ok : ConOK Try.prog 98 zerosC := by
  refine fn_ob tt_ok mixed Try.func98 rfl (fun _ _ => by kernel_rfl) (A := fun ds => ⟨fun _ => Cons.of [], fun _ => none, fun _ => none⟩) (fun _ _ => cons_nil) (by kernel_rfl) ?_
  intro ds fr
  unfold zerosS
  split
  · rename_i n
    refine kmp (q := (if (6 : Int) < if (0 : Int) > n then (0 : Int) else n then (6 : Int) else if (0 : Int) > n then (0 : Int) else n) = min (max n (0 : Int)) (6 : Int) ∧
 false = false ∧ ∀ (o : Nat), o < (49 : Nat) → (0 : Int) = (0 : Int)) (by kernel_rfl) ?_
    exact ⟨by (repeat' split) <;> omega, rfl, fun _ _ => rfl⟩
  · trivial
def zitvS : FSpec := fun ds _ => match ds with
  | [.i n, .b c, .f f, .i x] => some { val := .one (.agg [.c (.int .i64 (.sym (itvLo n c f x))), .c (.int .i64 (.sym (itvHi n c f x)))]), vc := [Sm f] }
  | _ => none
def zitvC : Con := con [zA, iA] zitvS
theorem zitv_ok : ConOK Try.prog 90 zitvC := by
  refine fn_ob tt_ok mixed Try.func90 rfl (fun _ _ => by kernel_rfl) (A := fun ds => ⟨fun _ => Cons.of [(118, isVarC), (78, inoneC), (68, iofC)], fun _ => none, fun _ => none⟩) (fun _ _ => (cons_cons isVar_ok (cons_cons inone_ok (cons_cons iof_ok cons_nil)))) (by kernel_rfl) ?_
  intro ds fr
  unfold zitvS
  split
  · rename_i n c f x
    refine kmp (q := Sm f →
 ((c || !isVarP n x) = true → (1 : Int) = itvLo n c f x ∧ (0 : Int) = itvHi n c f x) ∧
 ((c || !isVarP n x) = false →
 ((0 : Int) ≤ IntKind.i64.wrap (x + (1 : Int)) ∧ IntKind.i64.wrap (x + (1 : Int)) < (↑(7 : Nat) : Int)) ∧
 nat_lit 0 + (IntKind.i64.wrap (x + (1 : Int))).toNat * (1 : Nat) < (49 : Nat) ∧
 ((0 : Int) ≤ IntKind.i64.wrap (x + (1 : Int)) ∧ IntKind.i64.wrap (x + (1 : Int)) < (↑(7 : Nat) : Int)) ∧
 nat_lit 0 + (IntKind.i64.wrap (x + (1 : Int))).toNat * (7 : Nat) < (49 : Nat) ∧
 ofLo (IntKind.i64.wrap ((0 : Int) - f (nat_lit 0 + (IntKind.i64.wrap (x + (1 : Int))).toNat * (1 : Nat))))
 (f (nat_lit 0 + (IntKind.i64.wrap (x + (1 : Int))).toNat * (7 : Nat))) =
 itvLo n c f x ∧
 ofHi (IntKind.i64.wrap ((0 : Int) - f (nat_lit 0 + (IntKind.i64.wrap (x + (1 : Int))).toNat * (1 : Nat))))
 (f (nat_lit 0 + (IntKind.i64.wrap (x + (1 : Int))).toNat * (7 : Nat))) =
 itvHi n c f x)) (by kernel_rfl) ?_
    refine fun hs => ⟨fun h => ?_, fun h => ?_⟩
    · unfold itvLo itvHi; rw [h]; exact ⟨rfl, rfl⟩
    · have hv := isVarP_lt (show isVarP n x = true by revert h; cases c <;> cases isVarP n x <;> simp)
      rw [wr (x + 1) (by omega)]
      have e1 : nat_lit 0 + (x + 1).toNat * 1 = (x + 1).toNat := by rw [Nat.mul_one]; exact Nat.zero_add _
      have e2 : nat_lit 0 + (x + 1).toNat * 7 = (x + 1).toNat * 7 := Nat.zero_add _
      rw [e1, e2]
      have h1 := hs (x + 1).toNat (by omega)
      rw [wr _ (by omega)]
      unfold itvLo itvHi
      rw [h]
      exact ⟨by omega, by omega, by omega, by omega, rfl, rfl⟩
  · trivial
def zfromS : FSpec := fun ds _ => match ds with
  | [.i n, .b c, .f f] => some { val := .one (.agg [.c (.int .i64 (.sym (n))), .c (.bool (.sym (c))), .ints .i64 (.lit 49) (f)]), vc := [] }
  | _ => none
def zfromC : Con := con [zA] zfromS
end Go.Proofs.Ytbcbcambkjhhhaa.Sx.Z
