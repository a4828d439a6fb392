/-
  StepEvals' contract.
-/
import Derived.Test.YtdagadcflignfaaB22
import Derived.Test.YtdagadcflignfaaB27
namespace Go.Proofs.Ytdagadcflignfaa.Sx.Z
open Go.RowKit
def g3 (h : Nat → Int) : D := .l [[.i (h 0)], [.i (h 1)], [.i (h 2)]]
def R3 (h : Nat → Int) : Prop := ∀ j, j < 3 → -2147483648 ≤ h j ∧ h j ≤ 2147483647
noncomputable def sevalsS : FSpec := fun ds _ => match ds with
  | [.i k, .i n, .i v, .d d, .i k2, .i n2, .i v2, .d d2, .f h] => some { val := .one (.sc (.bool (.lit true))), vc := [R3 h] }
  | _ => none
noncomputable def sevalsC : Con := con [rxpA, rxpA, .agg [.ints .i32 3]] sevalsS
theorem sevals_ok : ConOK Try.prog 5 sevalsC := by
  refine fn_ob tt_ok mixed Try.func5 rfl (fun _ _ => by kernel_rfl) (A := fun ds => ⟨fun _ => Cons.of [(14, tame7C), (16, copyXC), (15, sevC), (17, revC), (18, steps7C), (19, holdsC), (20, rholdsC), (21, fnotC)], fun k => match k, ds with | 8, [.i k, .i n, .i v, .d d, .i k2, .i n2, .i v2, .d d2, .f h] => some { ι := Nat, pre := fun _ k => 1 ≤ k ∧ k ≤ 7, μ := fun k => 8 - k, st := fun s k => famR s [(12, .one (.sc (.int .i64 (.sym ((k : Nat))))))] [3, 4, 7] [] [3, 4, 7] } | _, _ => none, fun _ => none⟩) (fun _ _ => (cons_cons tame7_ok (cons_cons copyX_ok (cons_cons sev_ok (cons_cons rev_ok (cons_cons steps7_ok (cons_cons holds_ok (cons_cons rholds_ok (cons_cons fnot_ok cons_nil))))))))) (by kernel_rfl) ?_
  intro ds fr
  unfold sevalsS
  split
  · rename_i k n v d k2 n2 v2 d2 h
    refine kmp (q := R3 h →
 ((0 : Int) ≤ (8 : Int) ∧ (8 : Int) ≤ (100 : Int)) ∧
 ((0 : Int) ≤ (8 : Int) ∧ (8 : Int) ≤ (100 : Int)) ∧
 Small
 (ex (tamP (3 : Int) (Int.toNat (8 : Int)) (ex k n v d)).k (tamP (3 : Int) (Int.toNat (8 : Int)) (ex k n v d)).n
 (tamP (3 : Int) (Int.toNat (8 : Int)) (ex k n v d)).v (dE (tamP (3 : Int) (Int.toNat (8 : Int)) (ex k n v d)).kids)) ∧
 nat_lit 0 + nat_lit 3 ≤
 (D.l
 [[D.i (IntKind.i64.wrap (h (nat_lit 0 + nat_lit 0 * (1 : Nat))))], [D.i (IntKind.i64.wrap (h (nat_lit 0 + nat_lit 1 * (1 : Nat))))],
 [D.i (IntKind.i64.wrap (h (nat_lit 0 + nat_lit 2 * (1 : Nat))))]]).len ∧
 Tm
 (↑((D.l
 [[D.i (IntKind.i64.wrap (h (nat_lit 0 + nat_lit 0 * (1 : Nat))))], [D.i (IntKind.i64.wrap (h (nat_lit 0 + nat_lit 1 * (1 : Nat))))],
 [D.i (IntKind.i64.wrap (h (nat_lit 0 + nat_lit 2 * (1 : Nat))))]]).sub
 (nat_lit 0) (nat_lit 0 + nat_lit 3)).len :
 Int)
 (ex
 (ex (tamP (3 : Int) (Int.toNat (8 : Int)) (ex k n v d)).k (tamP (3 : Int) (Int.toNat (8 : Int)) (ex k n v d)).n
 (tamP (3 : Int) (Int.toNat (8 : Int)) (ex k n v d)).v (dE (tamP (3 : Int) (Int.toNat (8 : Int)) (ex k n v d)).kids)).k
 (ex (tamP (3 : Int) (Int.toNat (8 : Int)) (ex k n v d)).k (tamP (3 : Int) (Int.toNat (8 : Int)) (ex k n v d)).n
 (tamP (3 : Int) (Int.toNat (8 : Int)) (ex k n v d)).v (dE (tamP (3 : Int) (Int.toNat (8 : Int)) (ex k n v d)).kids)).n
 (ex (tamP (3 : Int) (Int.toNat (8 : Int)) (ex k n v d)).k (tamP (3 : Int) (Int.toNat (8 : Int)) (ex k n v d)).n
 (tamP (3 : Int) (Int.toNat (8 : Int)) (ex k n v d)).v (dE (tamP (3 : Int) (Int.toNat (8 : Int)) (ex k n v d)).kids)).v
 (dE
 (ex (tamP (3 : Int) (Int.toNat (8 : Int)) (ex k n v d)).k (tamP (3 : Int) (Int.toNat (8 : Int)) (ex k n v d)).n
 (tamP (3 : Int) (Int.toNat (8 : Int)) (ex k n v d)).v (dE (tamP (3 : Int) (Int.toNat (8 : Int)) (ex k n v d)).kids)).kids)) ∧
 InV
 (↑((D.l
 [[D.i (IntKind.i64.wrap (h (nat_lit 0 + nat_lit 0 * (1 : Nat))))], [D.i (IntKind.i64.wrap (h (nat_lit 0 + nat_lit 1 * (1 : Nat))))],
 [D.i (IntKind.i64.wrap (h (nat_lit 0 + nat_lit 2 * (1 : Nat))))]]).sub
 (nat_lit 0) (nat_lit 0 + nat_lit 3)).len :
 Int)
 (vD
 ((D.l
 [[D.i (IntKind.i64.wrap (h (nat_lit 0 + nat_lit 0 * (1 : Nat))))], [D.i (IntKind.i64.wrap (h (nat_lit 0 + nat_lit 1 * (1 : Nat))))],
 [D.i (IntKind.i64.wrap (h (nat_lit 0 + nat_lit 2 * (1 : Nat))))]]).sub
 (nat_lit 0) (nat_lit 0 + nat_lit 3))) ∧
 nat_lit 0 + nat_lit 3 ≤
 (D.l
 [[D.i (IntKind.i64.wrap (h (nat_lit 0 + nat_lit 0 * (1 : Nat))))], [D.i (IntKind.i64.wrap (h (nat_lit 0 + nat_lit 1 * (1 : Nat))))],
 [D.i (IntKind.i64.wrap (h (nat_lit 0 + nat_lit 2 * (1 : Nat))))]]).len ∧
 Tm
 (↑((D.l
 [[D.i (IntKind.i64.wrap (h (nat_lit 0 + nat_lit 0 * (1 : Nat))))],
 [D.i (IntKind.i64.wrap (h (nat_lit 0 + nat_lit 1 * (1 : Nat))))],
 [D.i (IntKind.i64.wrap (h (nat_lit 0 + nat_lit 2 * (1 : Nat))))]]).sub
 (nat_lit 0) (nat_lit 0 + nat_lit 3)).len :
 Int)
 (ex (tamP (3 : Int) (Int.toNat (8 : Int)) (ex k n v d)).k (tamP (3 : Int) (Int.toNat (8 : Int)) (ex k n v d)).n
 (tamP (3 : Int) (Int.toNat (8 : Int)) (ex k n v d)).v (dE (tamP (3 : Int) (Int.toNat (8 : Int)) (ex k n v d)).kids)) ∧
 InV
 (↑((D.l
 [[D.i (IntKind.i64.wrap (h (nat_lit 0 + nat_lit 0 * (1 : Nat))))],
 [D.i (IntKind.i64.wrap (h (nat_lit 0 + nat_lit 1 * (1 : Nat))))],
 [D.i (IntKind.i64.wrap (h (nat_lit 0 + nat_lit 2 * (1 : Nat))))]]).sub
 (nat_lit 0) (nat_lit 0 + nat_lit 3)).len :
 Int)
 (vD
 ((D.l
 [[D.i (IntKind.i64.wrap (h (nat_lit 0 + nat_lit 0 * (1 : Nat))))],
 [D.i (IntKind.i64.wrap (h (nat_lit 0 + nat_lit 1 * (1 : Nat))))],
 [D.i (IntKind.i64.wrap (h (nat_lit 0 + nat_lit 2 * (1 : Nat))))]]).sub
 (nat_lit 0) (nat_lit 0 + nat_lit 3))) ∧
 ((!true ||
 (evT
 (vD
 ((D.l
 [[D.i (IntKind.i64.wrap (h (nat_lit 0 + nat_lit 0 * (1 : Nat))))],
 [D.i (IntKind.i64.wrap (h (nat_lit 0 + nat_lit 1 * (1 : Nat))))],
 [D.i (IntKind.i64.wrap (h (nat_lit 0 + nat_lit 2 * (1 : Nat))))]]).sub
 (nat_lit 0) (nat_lit 0 + nat_lit 3)))
 (ex
 (ex (tamP (3 : Int) (Int.toNat (8 : Int)) (ex k n v d)).k (tamP (3 : Int) (Int.toNat (8 : Int)) (ex k n v d)).n
 (tamP (3 : Int) (Int.toNat (8 : Int)) (ex k n v d)).v (dE (tamP (3 : Int) (Int.toNat (8 : Int)) (ex k n v d)).kids)).k
 (ex (tamP (3 : Int) (Int.toNat (8 : Int)) (ex k n v d)).k (tamP (3 : Int) (Int.toNat (8 : Int)) (ex k n v d)).n
 (tamP (3 : Int) (Int.toNat (8 : Int)) (ex k n v d)).v (dE (tamP (3 : Int) (Int.toNat (8 : Int)) (ex k n v d)).kids)).n
 (ex (tamP (3 : Int) (Int.toNat (8 : Int)) (ex k n v d)).k (tamP (3 : Int) (Int.toNat (8 : Int)) (ex k n v d)).n
 (tamP (3 : Int) (Int.toNat (8 : Int)) (ex k n v d)).v (dE (tamP (3 : Int) (Int.toNat (8 : Int)) (ex k n v d)).kids)).v
 (dE
 (ex (tamP (3 : Int) (Int.toNat (8 : Int)) (ex k n v d)).k (tamP (3 : Int) (Int.toNat (8 : Int)) (ex k n v d)).n
 (tamP (3 : Int) (Int.toNat (8 : Int)) (ex k n v d)).v
 (dE (tamP (3 : Int) (Int.toNat (8 : Int)) (ex k n v d)).kids)).kids))).fst !=
 (evT
 (vD
 ((D.l
 [[D.i (IntKind.i64.wrap (h (nat_lit 0 + nat_lit 0 * (1 : Nat))))],
 [D.i (IntKind.i64.wrap (h (nat_lit 0 + nat_lit 1 * (1 : Nat))))],
 [D.i (IntKind.i64.wrap (h (nat_lit 0 + nat_lit 2 * (1 : Nat))))]]).sub
 (nat_lit 0) (nat_lit 0 + nat_lit 3)))
 (ex (tamP (3 : Int) (Int.toNat (8 : Int)) (ex k n v d)).k (tamP (3 : Int) (Int.toNat (8 : Int)) (ex k n v d)).n
 (tamP (3 : Int) (Int.toNat (8 : Int)) (ex k n v d)).v
 (dE (tamP (3 : Int) (Int.toNat (8 : Int)) (ex k n v d)).kids))).fst ||
 (evT
 (vD
 ((D.l
 [[D.i (IntKind.i64.wrap (h (nat_lit 0 + nat_lit 0 * (1 : Nat))))],
 [D.i (IntKind.i64.wrap (h (nat_lit 0 + nat_lit 1 * (1 : Nat))))],
 [D.i (IntKind.i64.wrap (h (nat_lit 0 + nat_lit 2 * (1 : Nat))))]]).sub
 (nat_lit 0) (nat_lit 0 + nat_lit 3)))
 (ex
 (ex (tamP (3 : Int) (Int.toNat (8 : Int)) (ex k n v d)).k (tamP (3 : Int) (Int.toNat (8 : Int)) (ex k n v d)).n
 (tamP (3 : Int) (Int.toNat (8 : Int)) (ex k n v d)).v (dE (tamP (3 : Int) (Int.toNat (8 : Int)) (ex k n v d)).kids)).k
 (ex (tamP (3 : Int) (Int.toNat (8 : Int)) (ex k n v d)).k (tamP (3 : Int) (Int.toNat (8 : Int)) (ex k n v d)).n
 (tamP (3 : Int) (Int.toNat (8 : Int)) (ex k n v d)).v (dE (tamP (3 : Int) (Int.toNat (8 : Int)) (ex k n v d)).kids)).n
 (ex (tamP (3 : Int) (Int.toNat (8 : Int)) (ex k n v d)).k (tamP (3 : Int) (Int.toNat (8 : Int)) (ex k n v d)).n
 (tamP (3 : Int) (Int.toNat (8 : Int)) (ex k n v d)).v (dE (tamP (3 : Int) (Int.toNat (8 : Int)) (ex k n v d)).kids)).v
 (dE
 (ex (tamP (3 : Int) (Int.toNat (8 : Int)) (ex k n v d)).k (tamP (3 : Int) (Int.toNat (8 : Int)) (ex k n v d)).n
 (tamP (3 : Int) (Int.toNat (8 : Int)) (ex k n v d)).v
 (dE (tamP (3 : Int) (Int.toNat (8 : Int)) (ex k n v d)).kids)).kids))).snd !=
 (evT
 (vD
 ((D.l
 [[D.i (IntKind.i64.wrap (h (nat_lit 0 + nat_lit 0 * (1 : Nat))))],
 [D.i (IntKind.i64.wrap (h (nat_lit 0 + nat_lit 1 * (1 : Nat))))],
 [D.i (IntKind.i64.wrap (h (nat_lit 0 + nat_lit 2 * (1 : Nat))))]]).sub
 (nat_lit 0) (nat_lit 0 + nat_lit 3)))
 (ex (tamP (3 : Int) (Int.toNat (8 : Int)) (ex k n v d)).k (tamP (3 : Int) (Int.toNat (8 : Int)) (ex k n v d)).n
 (tamP (3 : Int) (Int.toNat (8 : Int)) (ex k n v d)).v (dE (tamP (3 : Int) (Int.toNat (8 : Int)) (ex k n v d)).kids))).snd) =
 true →
 false = true) ∧
 ((!true ||
 (evT
 (vD
 ((D.l
 [[D.i (IntKind.i64.wrap (h (nat_lit 0 + nat_lit 0 * (1 : Nat))))],
 [D.i (IntKind.i64.wrap (h (nat_lit 0 + nat_lit 1 * (1 : Nat))))],
 [D.i (IntKind.i64.wrap (h (nat_lit 0 + nat_lit 2 * (1 : Nat))))]]).sub
 (nat_lit 0) (nat_lit 0 + nat_lit 3)))
 (ex
 (ex (tamP (3 : Int) (Int.toNat (8 : Int)) (ex k n v d)).k (tamP (3 : Int) (Int.toNat (8 : Int)) (ex k n v d)).n
 (tamP (3 : Int) (Int.toNat (8 : Int)) (ex k n v d)).v (dE (tamP (3 : Int) (Int.toNat (8 : Int)) (ex k n v d)).kids)).k
 (ex (tamP (3 : Int) (Int.toNat (8 : Int)) (ex k n v d)).k (tamP (3 : Int) (Int.toNat (8 : Int)) (ex k n v d)).n
 (tamP (3 : Int) (Int.toNat (8 : Int)) (ex k n v d)).v (dE (tamP (3 : Int) (Int.toNat (8 : Int)) (ex k n v d)).kids)).n
 (ex (tamP (3 : Int) (Int.toNat (8 : Int)) (ex k n v d)).k (tamP (3 : Int) (Int.toNat (8 : Int)) (ex k n v d)).n
 (tamP (3 : Int) (Int.toNat (8 : Int)) (ex k n v d)).v (dE (tamP (3 : Int) (Int.toNat (8 : Int)) (ex k n v d)).kids)).v
 (dE
 (ex (tamP (3 : Int) (Int.toNat (8 : Int)) (ex k n v d)).k (tamP (3 : Int) (Int.toNat (8 : Int)) (ex k n v d)).n
 (tamP (3 : Int) (Int.toNat (8 : Int)) (ex k n v d)).v
 (dE (tamP (3 : Int) (Int.toNat (8 : Int)) (ex k n v d)).kids)).kids))).fst !=
 (evT
 (vD
 ((D.l
 [[D.i (IntKind.i64.wrap (h (nat_lit 0 + nat_lit 0 * (1 : Nat))))],
 [D.i (IntKind.i64.wrap (h (nat_lit 0 + nat_lit 1 * (1 : Nat))))],
 [D.i (IntKind.i64.wrap (h (nat_lit 0 + nat_lit 2 * (1 : Nat))))]]).sub
 (nat_lit 0) (nat_lit 0 + nat_lit 3)))
 (ex (tamP (3 : Int) (Int.toNat (8 : Int)) (ex k n v d)).k (tamP (3 : Int) (Int.toNat (8 : Int)) (ex k n v d)).n
 (tamP (3 : Int) (Int.toNat (8 : Int)) (ex k n v d)).v
 (dE (tamP (3 : Int) (Int.toNat (8 : Int)) (ex k n v d)).kids))).fst ||
 (evT
 (vD
 ((D.l
 [[D.i (IntKind.i64.wrap (h (nat_lit 0 + nat_lit 0 * (1 : Nat))))],
 [D.i (IntKind.i64.wrap (h (nat_lit 0 + nat_lit 1 * (1 : Nat))))],
 [D.i (IntKind.i64.wrap (h (nat_lit 0 + nat_lit 2 * (1 : Nat))))]]).sub
 (nat_lit 0) (nat_lit 0 + nat_lit 3)))
 (ex
 (ex (tamP (3 : Int) (Int.toNat (8 : Int)) (ex k n v d)).k (tamP (3 : Int) (Int.toNat (8 : Int)) (ex k n v d)).n
 (tamP (3 : Int) (Int.toNat (8 : Int)) (ex k n v d)).v (dE (tamP (3 : Int) (Int.toNat (8 : Int)) (ex k n v d)).kids)).k
 (ex (tamP (3 : Int) (Int.toNat (8 : Int)) (ex k n v d)).k (tamP (3 : Int) (Int.toNat (8 : Int)) (ex k n v d)).n
 (tamP (3 : Int) (Int.toNat (8 : Int)) (ex k n v d)).v (dE (tamP (3 : Int) (Int.toNat (8 : Int)) (ex k n v d)).kids)).n
 (ex (tamP (3 : Int) (Int.toNat (8 : Int)) (ex k n v d)).k (tamP (3 : Int) (Int.toNat (8 : Int)) (ex k n v d)).n
 (tamP (3 : Int) (Int.toNat (8 : Int)) (ex k n v d)).v (dE (tamP (3 : Int) (Int.toNat (8 : Int)) (ex k n v d)).kids)).v
 (dE
 (ex (tamP (3 : Int) (Int.toNat (8 : Int)) (ex k n v d)).k (tamP (3 : Int) (Int.toNat (8 : Int)) (ex k n v d)).n
 (tamP (3 : Int) (Int.toNat (8 : Int)) (ex k n v d)).v
 (dE (tamP (3 : Int) (Int.toNat (8 : Int)) (ex k n v d)).kids)).kids))).snd !=
 (evT
 (vD
 ((D.l
 [[D.i (IntKind.i64.wrap (h (nat_lit 0 + nat_lit 0 * (1 : Nat))))],
 [D.i (IntKind.i64.wrap (h (nat_lit 0 + nat_lit 1 * (1 : Nat))))],
 [D.i (IntKind.i64.wrap (h (nat_lit 0 + nat_lit 2 * (1 : Nat))))]]).sub
 (nat_lit 0) (nat_lit 0 + nat_lit 3)))
 (ex (tamP (3 : Int) (Int.toNat (8 : Int)) (ex k n v d)).k (tamP (3 : Int) (Int.toNat (8 : Int)) (ex k n v d)).n
 (tamP (3 : Int) (Int.toNat (8 : Int)) (ex k n v d)).v (dE (tamP (3 : Int) (Int.toNat (8 : Int)) (ex k n v d)).kids))).snd) =
 false →
 (∃ (i : Nat),
 ((1 : Nat) ≤ i ∧ i ≤ (7 : Nat)) ∧
 (1 : Int) = (↑i : Int) ∧
 nat_lit 3 = nat_lit 3 ∧
 (tamP (3 : Int) (Int.toNat (8 : Int)) (ex k n v d)).k = (tamP (3 : Int) (Int.toNat (8 : Int)) (ex k n v d)).k ∧
 (tamP (3 : Int) (Int.toNat (8 : Int)) (ex k n v d)).n = (tamP (3 : Int) (Int.toNat (8 : Int)) (ex k n v d)).n ∧
 (tamP (3 : Int) (Int.toNat (8 : Int)) (ex k n v d)).v = (tamP (3 : Int) (Int.toNat (8 : Int)) (ex k n v d)).v ∧
 List.map encE (tamP (3 : Int) (Int.toNat (8 : Int)) (ex k n v d)).kids =
 List.map encE (tamP (3 : Int) (Int.toNat (8 : Int)) (ex k n v d)).kids ∧
 (tamP (3 : Int) (Int.toNat (8 : Int)) (ex k2 n2 v2 d2)).k =
 (tamP (3 : Int) (Int.toNat (8 : Int)) (ex k2 n2 v2 d2)).k ∧
 (tamP (3 : Int) (Int.toNat (8 : Int)) (ex k2 n2 v2 d2)).n =
 (tamP (3 : Int) (Int.toNat (8 : Int)) (ex k2 n2 v2 d2)).n ∧
 (tamP (3 : Int) (Int.toNat (8 : Int)) (ex k2 n2 v2 d2)).v =
 (tamP (3 : Int) (Int.toNat (8 : Int)) (ex k2 n2 v2 d2)).v ∧
 List.map encE (tamP (3 : Int) (Int.toNat (8 : Int)) (ex k2 n2 v2 d2)).kids =
 List.map encE (tamP (3 : Int) (Int.toNat (8 : Int)) (ex k2 n2 v2 d2)).kids ∧
 [[D.i (IntKind.i64.wrap (h (nat_lit 0 + nat_lit 0 * (1 : Nat))))],
 [D.i (IntKind.i64.wrap (h (nat_lit 0 + nat_lit 1 * (1 : Nat))))],
 [D.i (IntKind.i64.wrap (h (nat_lit 0 + nat_lit 2 * (1 : Nat))))]] =
 [[D.i (IntKind.i64.wrap (h (nat_lit 0 + nat_lit 0 * (1 : Nat))))],
 [D.i (IntKind.i64.wrap (h (nat_lit 0 + nat_lit 1 * (1 : Nat))))],
 [D.i (IntKind.i64.wrap (h (nat_lit 0 + nat_lit 2 * (1 : Nat))))]]) ∧
 ∀ (i : Nat),
 (1 : Nat) ≤ i ∧ i ≤ (7 : Nat) →
 (decide ((↑i : Int) < (7 : Int)) = true →
 Small
 (ex (tamP (3 : Int) (Int.toNat (8 : Int)) (ex k n v d)).k (tamP (3 : Int) (Int.toNat (8 : Int)) (ex k n v d)).n
 (tamP (3 : Int) (Int.toNat (8 : Int)) (ex k n v d)).v (dE (tamP (3 : Int) (Int.toNat (8 : Int)) (ex k n v d)).kids)) ∧
 Small
 (ex (tamP (3 : Int) (Int.toNat (8 : Int)) (ex k2 n2 v2 d2)).k (tamP (3 : Int) (Int.toNat (8 : Int)) (ex k2 n2 v2 d2)).n
 (tamP (3 : Int) (Int.toNat (8 : Int)) (ex k2 n2 v2 d2)).v
 (dE (tamP (3 : Int) (Int.toNat (8 : Int)) (ex k2 n2 v2 d2)).kids)) ∧
 nat_lit 0 + nat_lit 3 ≤
 (D.l
 [[D.i (IntKind.i64.wrap (h (nat_lit 0 + nat_lit 0 * (1 : Nat))))],
 [D.i (IntKind.i64.wrap (h (nat_lit 0 + nat_lit 1 * (1 : Nat))))],
 [D.i (IntKind.i64.wrap (h (nat_lit 0 + nat_lit 2 * (1 : Nat))))]]).len ∧
 Tm
 (↑((D.l
 [[D.i (IntKind.i64.wrap (h (nat_lit 0 + nat_lit 0 * (1 : Nat))))],
 [D.i (IntKind.i64.wrap (h (nat_lit 0 + nat_lit 1 * (1 : Nat))))],
 [D.i (IntKind.i64.wrap (h (nat_lit 0 + nat_lit 2 * (1 : Nat))))]]).sub
 (nat_lit 0) (nat_lit 0 + nat_lit 3)).len :
 Int)
 (ex
 (ex (tamP (3 : Int) (Int.toNat (8 : Int)) (ex k n v d)).k (tamP (3 : Int) (Int.toNat (8 : Int)) (ex k n v d)).n
 (tamP (3 : Int) (Int.toNat (8 : Int)) (ex k n v d)).v
 (dE (tamP (3 : Int) (Int.toNat (8 : Int)) (ex k n v d)).kids)).k
 (ex (tamP (3 : Int) (Int.toNat (8 : Int)) (ex k n v d)).k (tamP (3 : Int) (Int.toNat (8 : Int)) (ex k n v d)).n
 (tamP (3 : Int) (Int.toNat (8 : Int)) (ex k n v d)).v
 (dE (tamP (3 : Int) (Int.toNat (8 : Int)) (ex k n v d)).kids)).n
 (ex (tamP (3 : Int) (Int.toNat (8 : Int)) (ex k n v d)).k (tamP (3 : Int) (Int.toNat (8 : Int)) (ex k n v d)).n
 (tamP (3 : Int) (Int.toNat (8 : Int)) (ex k n v d)).v
 (dE (tamP (3 : Int) (Int.toNat (8 : Int)) (ex k n v d)).kids)).v
 (dE
 (ex (tamP (3 : Int) (Int.toNat (8 : Int)) (ex k n v d)).k (tamP (3 : Int) (Int.toNat (8 : Int)) (ex k n v d)).n
 (tamP (3 : Int) (Int.toNat (8 : Int)) (ex k n v d)).v
 (dE (tamP (3 : Int) (Int.toNat (8 : Int)) (ex k n v d)).kids)).kids)) ∧
 Tm
 (↑((D.l
 [[D.i (IntKind.i64.wrap (h (nat_lit 0 + nat_lit 0 * (1 : Nat))))],
 [D.i (IntKind.i64.wrap (h (nat_lit 0 + nat_lit 1 * (1 : Nat))))],
 [D.i (IntKind.i64.wrap (h (nat_lit 0 + nat_lit 2 * (1 : Nat))))]]).sub
 (nat_lit 0) (nat_lit 0 + nat_lit 3)).len :
 Int)
 (ex
 (ex (tamP (3 : Int) (Int.toNat (8 : Int)) (ex k2 n2 v2 d2)).k
 (tamP (3 : Int) (Int.toNat (8 : Int)) (ex k2 n2 v2 d2)).n
 (tamP (3 : Int) (Int.toNat (8 : Int)) (ex k2 n2 v2 d2)).v
 (dE (tamP (3 : Int) (Int.toNat (8 : Int)) (ex k2 n2 v2 d2)).kids)).k
 (ex (tamP (3 : Int) (Int.toNat (8 : Int)) (ex k2 n2 v2 d2)).k
 (tamP (3 : Int) (Int.toNat (8 : Int)) (ex k2 n2 v2 d2)).n
 (tamP (3 : Int) (Int.toNat (8 : Int)) (ex k2 n2 v2 d2)).v
 (dE (tamP (3 : Int) (Int.toNat (8 : Int)) (ex k2 n2 v2 d2)).kids)).n
 (ex (tamP (3 : Int) (Int.toNat (8 : Int)) (ex k2 n2 v2 d2)).k
 (tamP (3 : Int) (Int.toNat (8 : Int)) (ex k2 n2 v2 d2)).n
 (tamP (3 : Int) (Int.toNat (8 : Int)) (ex k2 n2 v2 d2)).v
 (dE (tamP (3 : Int) (Int.toNat (8 : Int)) (ex k2 n2 v2 d2)).kids)).v
 (dE
 (ex (tamP (3 : Int) (Int.toNat (8 : Int)) (ex k2 n2 v2 d2)).k
 (tamP (3 : Int) (Int.toNat (8 : Int)) (ex k2 n2 v2 d2)).n
 (tamP (3 : Int) (Int.toNat (8 : Int)) (ex k2 n2 v2 d2)).v
 (dE (tamP (3 : Int) (Int.toNat (8 : Int)) (ex k2 n2 v2 d2)).kids)).kids)) ∧
 InV
 (↑((D.l
 [[D.i (IntKind.i64.wrap (h (nat_lit 0 + nat_lit 0 * (1 : Nat))))],
 [D.i (IntKind.i64.wrap (h (nat_lit 0 + nat_lit 1 * (1 : Nat))))],
 [D.i (IntKind.i64.wrap (h (nat_lit 0 + nat_lit 2 * (1 : Nat))))]]).sub
 (nat_lit 0) (nat_lit 0 + nat_lit 3)).len :
 Int)
 (vD
 ((D.l
 [[D.i (IntKind.i64.wrap (h (nat_lit 0 + nat_lit 0 * (1 : Nat))))],
 [D.i (IntKind.i64.wrap (h (nat_lit 0 + nat_lit 1 * (1 : Nat))))],
 [D.i (IntKind.i64.wrap (h (nat_lit 0 + nat_lit 2 * (1 : Nat))))]]).sub
 (nat_lit 0) (nat_lit 0 + nat_lit 3))) ∧
 nat_lit 0 + nat_lit 3 ≤
 (D.l
 [[D.i (IntKind.i64.wrap (h (nat_lit 0 + nat_lit 0 * (1 : Nat))))],
 [D.i (IntKind.i64.wrap (h (nat_lit 0 + nat_lit 1 * (1 : Nat))))],
 [D.i (IntKind.i64.wrap (h (nat_lit 0 + nat_lit 2 * (1 : Nat))))]]).len ∧
 Tm
 (↑((D.l
 [[D.i (IntKind.i64.wrap (h (nat_lit 0 + nat_lit 0 * (1 : Nat))))],
 [D.i (IntKind.i64.wrap (h (nat_lit 0 + nat_lit 1 * (1 : Nat))))],
 [D.i (IntKind.i64.wrap (h (nat_lit 0 + nat_lit 2 * (1 : Nat))))]]).sub
 (nat_lit 0) (nat_lit 0 + nat_lit 3)).len :
 Int)
 (ex (tamP (3 : Int) (Int.toNat (8 : Int)) (ex k n v d)).k
 (tamP (3 : Int) (Int.toNat (8 : Int)) (ex k n v d)).n
 (tamP (3 : Int) (Int.toNat (8 : Int)) (ex k n v d)).v
 (dE (tamP (3 : Int) (Int.toNat (8 : Int)) (ex k n v d)).kids)) ∧
 Tm
 (↑((D.l
 [[D.i (IntKind.i64.wrap (h (nat_lit 0 + nat_lit 0 * (1 : Nat))))],
 [D.i (IntKind.i64.wrap (h (nat_lit 0 + nat_lit 1 * (1 : Nat))))],
 [D.i (IntKind.i64.wrap (h (nat_lit 0 + nat_lit 2 * (1 : Nat))))]]).sub
 (nat_lit 0) (nat_lit 0 + nat_lit 3)).len :
 Int)
 (ex (tamP (3 : Int) (Int.toNat (8 : Int)) (ex k2 n2 v2 d2)).k
 (tamP (3 : Int) (Int.toNat (8 : Int)) (ex k2 n2 v2 d2)).n
 (tamP (3 : Int) (Int.toNat (8 : Int)) (ex k2 n2 v2 d2)).v
 (dE (tamP (3 : Int) (Int.toNat (8 : Int)) (ex k2 n2 v2 d2)).kids)) ∧
 InV
 (↑((D.l
 [[D.i (IntKind.i64.wrap (h (nat_lit 0 + nat_lit 0 * (1 : Nat))))],
 [D.i (IntKind.i64.wrap (h (nat_lit 0 + nat_lit 1 * (1 : Nat))))],
 [D.i (IntKind.i64.wrap (h (nat_lit 0 + nat_lit 2 * (1 : Nat))))]]).sub
 (nat_lit 0) (nat_lit 0 + nat_lit 3)).len :
 Int)
 (vD
 ((D.l
 [[D.i (IntKind.i64.wrap (h (nat_lit 0 + nat_lit 0 * (1 : Nat))))],
 [D.i (IntKind.i64.wrap (h (nat_lit 0 + nat_lit 1 * (1 : Nat))))],
 [D.i (IntKind.i64.wrap (h (nat_lit 0 + nat_lit 2 * (1 : Nat))))]]).sub
 (nat_lit 0) (nat_lit 0 + nat_lit 3))) ∧
 Small
 (ex (tamP (3 : Int) (Int.toNat (8 : Int)) (ex k n v d)).k
 (tamP (3 : Int) (Int.toNat (8 : Int)) (ex k n v d)).n
 (tamP (3 : Int) (Int.toNat (8 : Int)) (ex k n v d)).v
 (dE (tamP (3 : Int) (Int.toNat (8 : Int)) (ex k n v d)).kids)) ∧
 Small
 (ex (tamP (3 : Int) (Int.toNat (8 : Int)) (ex k2 n2 v2 d2)).k
 (tamP (3 : Int) (Int.toNat (8 : Int)) (ex k2 n2 v2 d2)).n
 (tamP (3 : Int) (Int.toNat (8 : Int)) (ex k2 n2 v2 d2)).v
 (dE (tamP (3 : Int) (Int.toNat (8 : Int)) (ex k2 n2 v2 d2)).kids)) ∧
 nat_lit 0 + nat_lit 3 ≤
 (D.l
 [[D.i (IntKind.i64.wrap (h (nat_lit 0 + nat_lit 0 * (1 : Nat))))],
 [D.i (IntKind.i64.wrap (h (nat_lit 0 + nat_lit 1 * (1 : Nat))))],
 [D.i (IntKind.i64.wrap (h (nat_lit 0 + nat_lit 2 * (1 : Nat))))]]).len ∧
 Tm
 (↑((D.l
 [[D.i (IntKind.i64.wrap (h (nat_lit 0 + nat_lit 0 * (1 : Nat))))],
 [D.i (IntKind.i64.wrap (h (nat_lit 0 + nat_lit 1 * (1 : Nat))))],
 [D.i (IntKind.i64.wrap (h (nat_lit 0 + nat_lit 2 * (1 : Nat))))]]).sub
 (nat_lit 0) (nat_lit 0 + nat_lit 3)).len :
 Int)
 (ex
 (ex (tamP (3 : Int) (Int.toNat (8 : Int)) (ex k n v d)).k
 (tamP (3 : Int) (Int.toNat (8 : Int)) (ex k n v d)).n
 (tamP (3 : Int) (Int.toNat (8 : Int)) (ex k n v d)).v
 (dE (tamP (3 : Int) (Int.toNat (8 : Int)) (ex k n v d)).kids)).k
 (ex (tamP (3 : Int) (Int.toNat (8 : Int)) (ex k n v d)).k
 (tamP (3 : Int) (Int.toNat (8 : Int)) (ex k n v d)).n
 (tamP (3 : Int) (Int.toNat (8 : Int)) (ex k n v d)).v
 (dE (tamP (3 : Int) (Int.toNat (8 : Int)) (ex k n v d)).kids)).n
 (ex (tamP (3 : Int) (Int.toNat (8 : Int)) (ex k n v d)).k
 (tamP (3 : Int) (Int.toNat (8 : Int)) (ex k n v d)).n
 (tamP (3 : Int) (Int.toNat (8 : Int)) (ex k n v d)).v
 (dE (tamP (3 : Int) (Int.toNat (8 : Int)) (ex k n v d)).kids)).v
 (dE
 (ex (tamP (3 : Int) (Int.toNat (8 : Int)) (ex k n v d)).k
 (tamP (3 : Int) (Int.toNat (8 : Int)) (ex k n v d)).n
 (tamP (3 : Int) (Int.toNat (8 : Int)) (ex k n v d)).v
 (dE (tamP (3 : Int) (Int.toNat (8 : Int)) (ex k n v d)).kids)).kids)) ∧
 Tm
 (↑((D.l
 [[D.i (IntKind.i64.wrap (h (nat_lit 0 + nat_lit 0 * (1 : Nat))))],
 [D.i (IntKind.i64.wrap (h (nat_lit 0 + nat_lit 1 * (1 : Nat))))],
 [D.i (IntKind.i64.wrap (h (nat_lit 0 + nat_lit 2 * (1 : Nat))))]]).sub
 (nat_lit 0) (nat_lit 0 + nat_lit 3)).len :
 Int)
 (ex
 (ex (tamP (3 : Int) (Int.toNat (8 : Int)) (ex k2 n2 v2 d2)).k
 (tamP (3 : Int) (Int.toNat (8 : Int)) (ex k2 n2 v2 d2)).n
 (tamP (3 : Int) (Int.toNat (8 : Int)) (ex k2 n2 v2 d2)).v
 (dE (tamP (3 : Int) (Int.toNat (8 : Int)) (ex k2 n2 v2 d2)).kids)).k
 (ex (tamP (3 : Int) (Int.toNat (8 : Int)) (ex k2 n2 v2 d2)).k
 (tamP (3 : Int) (Int.toNat (8 : Int)) (ex k2 n2 v2 d2)).n
 (tamP (3 : Int) (Int.toNat (8 : Int)) (ex k2 n2 v2 d2)).v
 (dE (tamP (3 : Int) (Int.toNat (8 : Int)) (ex k2 n2 v2 d2)).kids)).n
 (ex (tamP (3 : Int) (Int.toNat (8 : Int)) (ex k2 n2 v2 d2)).k
 (tamP (3 : Int) (Int.toNat (8 : Int)) (ex k2 n2 v2 d2)).n
 (tamP (3 : Int) (Int.toNat (8 : Int)) (ex k2 n2 v2 d2)).v
 (dE (tamP (3 : Int) (Int.toNat (8 : Int)) (ex k2 n2 v2 d2)).kids)).v
 (dE
 (ex (tamP (3 : Int) (Int.toNat (8 : Int)) (ex k2 n2 v2 d2)).k
 (tamP (3 : Int) (Int.toNat (8 : Int)) (ex k2 n2 v2 d2)).n
 (tamP (3 : Int) (Int.toNat (8 : Int)) (ex k2 n2 v2 d2)).v
 (dE (tamP (3 : Int) (Int.toNat (8 : Int)) (ex k2 n2 v2 d2)).kids)).kids)) ∧
 InV
 (↑((D.l
 [[D.i (IntKind.i64.wrap (h (nat_lit 0 + nat_lit 0 * (1 : Nat))))],
 [D.i (IntKind.i64.wrap (h (nat_lit 0 + nat_lit 1 * (1 : Nat))))],
 [D.i (IntKind.i64.wrap (h (nat_lit 0 + nat_lit 2 * (1 : Nat))))]]).sub
 (nat_lit 0) (nat_lit 0 + nat_lit 3)).len :
 Int)
 (vD
 ((D.l
 [[D.i (IntKind.i64.wrap (h (nat_lit 0 + nat_lit 0 * (1 : Nat))))],
 [D.i (IntKind.i64.wrap (h (nat_lit 0 + nat_lit 1 * (1 : Nat))))],
 [D.i (IntKind.i64.wrap (h (nat_lit 0 + nat_lit 2 * (1 : Nat))))]]).sub
 (nat_lit 0) (nat_lit 0 + nat_lit 3))) ∧
 ((!(hdP (↑i : Int)
 (evT
 (vD
 ((D.l
 [[D.i (IntKind.i64.wrap (h (nat_lit 0 + nat_lit 0 * (1 : Nat))))],
 [D.i
 (IntKind.i64.wrap (h (nat_lit 0 + nat_lit 1 * (1 : Nat))))],
 [D.i
 (IntKind.i64.wrap
 (h (nat_lit 0 + nat_lit 2 * (1 : Nat))))]]).sub
 (nat_lit 0) (nat_lit 0 + nat_lit 3)))
 (ex
 (ex (tamP (3 : Int) (Int.toNat (8 : Int)) (ex k n v d)).k
 (tamP (3 : Int) (Int.toNat (8 : Int)) (ex k n v d)).n
 (tamP (3 : Int) (Int.toNat (8 : Int)) (ex k n v d)).v
 (dE (tamP (3 : Int) (Int.toNat (8 : Int)) (ex k n v d)).kids)).k
 (ex (tamP (3 : Int) (Int.toNat (8 : Int)) (ex k n v d)).k
 (tamP (3 : Int) (Int.toNat (8 : Int)) (ex k n v d)).n
 (tamP (3 : Int) (Int.toNat (8 : Int)) (ex k n v d)).v
 (dE (tamP (3 : Int) (Int.toNat (8 : Int)) (ex k n v d)).kids)).n
 (ex (tamP (3 : Int) (Int.toNat (8 : Int)) (ex k n v d)).k
 (tamP (3 : Int) (Int.toNat (8 : Int)) (ex k n v d)).n
 (tamP (3 : Int) (Int.toNat (8 : Int)) (ex k n v d)).v
 (dE (tamP (3 : Int) (Int.toNat (8 : Int)) (ex k n v d)).kids)).v
 (dE
 (ex (tamP (3 : Int) (Int.toNat (8 : Int)) (ex k n v d)).k
 (tamP (3 : Int) (Int.toNat (8 : Int)) (ex k n v d)).n
 (tamP (3 : Int) (Int.toNat (8 : Int)) (ex k n v d)).v
 (dE
 (tamP (3 : Int) (Int.toNat (8 : Int))
 (ex k n v d)).kids)).kids)))
 (evT
 (vD
 ((D.l
 [[D.i (IntKind.i64.wrap (h (nat_lit 0 + nat_lit 0 * (1 : Nat))))],
 [D.i
 (IntKind.i64.wrap (h (nat_lit 0 + nat_lit 1 * (1 : Nat))))],
 [D.i
 (IntKind.i64.wrap
 (h (nat_lit 0 + nat_lit 2 * (1 : Nat))))]]).sub
 (nat_lit 0) (nat_lit 0 + nat_lit 3)))
 (ex
 (ex (tamP (3 : Int) (Int.toNat (8 : Int)) (ex k2 n2 v2 d2)).k
 (tamP (3 : Int) (Int.toNat (8 : Int)) (ex k2 n2 v2 d2)).n
 (tamP (3 : Int) (Int.toNat (8 : Int)) (ex k2 n2 v2 d2)).v
 (dE (tamP (3 : Int) (Int.toNat (8 : Int)) (ex k2 n2 v2 d2)).kids)).k
 (ex (tamP (3 : Int) (Int.toNat (8 : Int)) (ex k2 n2 v2 d2)).k
 (tamP (3 : Int) (Int.toNat (8 : Int)) (ex k2 n2 v2 d2)).n
 (tamP (3 : Int) (Int.toNat (8 : Int)) (ex k2 n2 v2 d2)).v
 (dE (tamP (3 : Int) (Int.toNat (8 : Int)) (ex k2 n2 v2 d2)).kids)).n
 (ex (tamP (3 : Int) (Int.toNat (8 : Int)) (ex k2 n2 v2 d2)).k
 (tamP (3 : Int) (Int.toNat (8 : Int)) (ex k2 n2 v2 d2)).n
 (tamP (3 : Int) (Int.toNat (8 : Int)) (ex k2 n2 v2 d2)).v
 (dE (tamP (3 : Int) (Int.toNat (8 : Int)) (ex k2 n2 v2 d2)).kids)).v
 (dE
 (ex (tamP (3 : Int) (Int.toNat (8 : Int)) (ex k2 n2 v2 d2)).k
 (tamP (3 : Int) (Int.toNat (8 : Int)) (ex k2 n2 v2 d2)).n
 (tamP (3 : Int) (Int.toNat (8 : Int)) (ex k2 n2 v2 d2)).v
 (dE
 (tamP (3 : Int) (Int.toNat (8 : Int))
 (ex k2 n2 v2 d2)).kids)).kids)))).fst ==
 (hdP (↑i : Int)
 (evT
 (vD
 ((D.l
 [[D.i (IntKind.i64.wrap (h (nat_lit 0 + nat_lit 0 * (1 : Nat))))],
 [D.i
 (IntKind.i64.wrap (h (nat_lit 0 + nat_lit 1 * (1 : Nat))))],
 [D.i
 (IntKind.i64.wrap
 (h (nat_lit 0 + nat_lit 2 * (1 : Nat))))]]).sub
 (nat_lit 0) (nat_lit 0 + nat_lit 3)))
 (ex (tamP (3 : Int) (Int.toNat (8 : Int)) (ex k n v d)).k
 (tamP (3 : Int) (Int.toNat (8 : Int)) (ex k n v d)).n
 (tamP (3 : Int) (Int.toNat (8 : Int)) (ex k n v d)).v
 (dE (tamP (3 : Int) (Int.toNat (8 : Int)) (ex k n v d)).kids)))
 (evT
 (vD
 ((D.l
 [[D.i (IntKind.i64.wrap (h (nat_lit 0 + nat_lit 0 * (1 : Nat))))],
 [D.i
 (IntKind.i64.wrap (h (nat_lit 0 + nat_lit 1 * (1 : Nat))))],
 [D.i
 (IntKind.i64.wrap
 (h (nat_lit 0 + nat_lit 2 * (1 : Nat))))]]).sub
 (nat_lit 0) (nat_lit 0 + nat_lit 3)))
 (ex (tamP (3 : Int) (Int.toNat (8 : Int)) (ex k2 n2 v2 d2)).k
 (tamP (3 : Int) (Int.toNat (8 : Int)) (ex k2 n2 v2 d2)).n
 (tamP (3 : Int) (Int.toNat (8 : Int)) (ex k2 n2 v2 d2)).v
 (dE
 (tamP (3 : Int) (Int.toNat (8 : Int))
 (ex k2 n2 v2 d2)).kids)))).fst ||
 (hdP (↑i : Int)
 (evT
 (vD
 ((D.l
 [[D.i (IntKind.i64.wrap (h (nat_lit 0 + nat_lit 0 * (1 : Nat))))],
 [D.i (IntKind.i64.wrap (h (nat_lit 0 + nat_lit 1 * (1 : Nat))))],
 [D.i
 (IntKind.i64.wrap
 (h (nat_lit 0 + nat_lit 2 * (1 : Nat))))]]).sub
 (nat_lit 0) (nat_lit 0 + nat_lit 3)))
 (ex
 (ex (tamP (3 : Int) (Int.toNat (8 : Int)) (ex k n v d)).k
 (tamP (3 : Int) (Int.toNat (8 : Int)) (ex k n v d)).n
 (tamP (3 : Int) (Int.toNat (8 : Int)) (ex k n v d)).v
 (dE (tamP (3 : Int) (Int.toNat (8 : Int)) (ex k n v d)).kids)).k
 (ex (tamP (3 : Int) (Int.toNat (8 : Int)) (ex k n v d)).k
 (tamP (3 : Int) (Int.toNat (8 : Int)) (ex k n v d)).n
 (tamP (3 : Int) (Int.toNat (8 : Int)) (ex k n v d)).v
 (dE (tamP (3 : Int) (Int.toNat (8 : Int)) (ex k n v d)).kids)).n
 (ex (tamP (3 : Int) (Int.toNat (8 : Int)) (ex k n v d)).k
 (tamP (3 : Int) (Int.toNat (8 : Int)) (ex k n v d)).n
 (tamP (3 : Int) (Int.toNat (8 : Int)) (ex k n v d)).v
 (dE (tamP (3 : Int) (Int.toNat (8 : Int)) (ex k n v d)).kids)).v
 (dE
 (ex (tamP (3 : Int) (Int.toNat (8 : Int)) (ex k n v d)).k
 (tamP (3 : Int) (Int.toNat (8 : Int)) (ex k n v d)).n
 (tamP (3 : Int) (Int.toNat (8 : Int)) (ex k n v d)).v
 (dE
 (tamP (3 : Int) (Int.toNat (8 : Int)) (ex k n v d)).kids)).kids)))
 (evT
 (vD
 ((D.l
 [[D.i (IntKind.i64.wrap (h (nat_lit 0 + nat_lit 0 * (1 : Nat))))],
 [D.i (IntKind.i64.wrap (h (nat_lit 0 + nat_lit 1 * (1 : Nat))))],
 [D.i
 (IntKind.i64.wrap
 (h (nat_lit 0 + nat_lit 2 * (1 : Nat))))]]).sub
 (nat_lit 0) (nat_lit 0 + nat_lit 3)))
 (ex
 (ex (tamP (3 : Int) (Int.toNat (8 : Int)) (ex k2 n2 v2 d2)).k
 (tamP (3 : Int) (Int.toNat (8 : Int)) (ex k2 n2 v2 d2)).n
 (tamP (3 : Int) (Int.toNat (8 : Int)) (ex k2 n2 v2 d2)).v
 (dE (tamP (3 : Int) (Int.toNat (8 : Int)) (ex k2 n2 v2 d2)).kids)).k
 (ex (tamP (3 : Int) (Int.toNat (8 : Int)) (ex k2 n2 v2 d2)).k
 (tamP (3 : Int) (Int.toNat (8 : Int)) (ex k2 n2 v2 d2)).n
 (tamP (3 : Int) (Int.toNat (8 : Int)) (ex k2 n2 v2 d2)).v
 (dE (tamP (3 : Int) (Int.toNat (8 : Int)) (ex k2 n2 v2 d2)).kids)).n
 (ex (tamP (3 : Int) (Int.toNat (8 : Int)) (ex k2 n2 v2 d2)).k
 (tamP (3 : Int) (Int.toNat (8 : Int)) (ex k2 n2 v2 d2)).n
 (tamP (3 : Int) (Int.toNat (8 : Int)) (ex k2 n2 v2 d2)).v
 (dE (tamP (3 : Int) (Int.toNat (8 : Int)) (ex k2 n2 v2 d2)).kids)).v
 (dE
 (ex (tamP (3 : Int) (Int.toNat (8 : Int)) (ex k2 n2 v2 d2)).k
 (tamP (3 : Int) (Int.toNat (8 : Int)) (ex k2 n2 v2 d2)).n
 (tamP (3 : Int) (Int.toNat (8 : Int)) (ex k2 n2 v2 d2)).v
 (dE
 (tamP (3 : Int) (Int.toNat (8 : Int))
 (ex k2 n2 v2 d2)).kids)).kids)))).snd !=
 (hdP (↑i : Int)
 (evT
 (vD
 ((D.l
 [[D.i (IntKind.i64.wrap (h (nat_lit 0 + nat_lit 0 * (1 : Nat))))],
 [D.i (IntKind.i64.wrap (h (nat_lit 0 + nat_lit 1 * (1 : Nat))))],
 [D.i
 (IntKind.i64.wrap
 (h (nat_lit 0 + nat_lit 2 * (1 : Nat))))]]).sub
 (nat_lit 0) (nat_lit 0 + nat_lit 3)))
 (ex (tamP (3 : Int) (Int.toNat (8 : Int)) (ex k n v d)).k
 (tamP (3 : Int) (Int.toNat (8 : Int)) (ex k n v d)).n
 (tamP (3 : Int) (Int.toNat (8 : Int)) (ex k n v d)).v
 (dE (tamP (3 : Int) (Int.toNat (8 : Int)) (ex k n v d)).kids)))
 (evT
 (vD
 ((D.l
 [[D.i (IntKind.i64.wrap (h (nat_lit 0 + nat_lit 0 * (1 : Nat))))],
 [D.i (IntKind.i64.wrap (h (nat_lit 0 + nat_lit 1 * (1 : Nat))))],
 [D.i
 (IntKind.i64.wrap
 (h (nat_lit 0 + nat_lit 2 * (1 : Nat))))]]).sub
 (nat_lit 0) (nat_lit 0 + nat_lit 3)))
 (ex (tamP (3 : Int) (Int.toNat (8 : Int)) (ex k2 n2 v2 d2)).k
 (tamP (3 : Int) (Int.toNat (8 : Int)) (ex k2 n2 v2 d2)).n
 (tamP (3 : Int) (Int.toNat (8 : Int)) (ex k2 n2 v2 d2)).v
 (dE
 (tamP (3 : Int) (Int.toNat (8 : Int)) (ex k2 n2 v2 d2)).kids)))).snd ||
 (hdP (↑i : Int)
 (evT
 (vD
 ((D.l
 [[D.i (IntKind.i64.wrap (h (nat_lit 0 + nat_lit 0 * (1 : Nat))))],
 [D.i (IntKind.i64.wrap (h (nat_lit 0 + nat_lit 1 * (1 : Nat))))],
 [D.i
 (IntKind.i64.wrap
 (h (nat_lit 0 + nat_lit 2 * (1 : Nat))))]]).sub
 (nat_lit 0) (nat_lit 0 + nat_lit 3)))
 (ex
 (ex (tamP (3 : Int) (Int.toNat (8 : Int)) (ex k n v d)).k
 (tamP (3 : Int) (Int.toNat (8 : Int)) (ex k n v d)).n
 (tamP (3 : Int) (Int.toNat (8 : Int)) (ex k n v d)).v
 (dE (tamP (3 : Int) (Int.toNat (8 : Int)) (ex k n v d)).kids)).k
 (ex (tamP (3 : Int) (Int.toNat (8 : Int)) (ex k n v d)).k
 (tamP (3 : Int) (Int.toNat (8 : Int)) (ex k n v d)).n
 (tamP (3 : Int) (Int.toNat (8 : Int)) (ex k n v d)).v
 (dE (tamP (3 : Int) (Int.toNat (8 : Int)) (ex k n v d)).kids)).n
 (ex (tamP (3 : Int) (Int.toNat (8 : Int)) (ex k n v d)).k
 (tamP (3 : Int) (Int.toNat (8 : Int)) (ex k n v d)).n
 (tamP (3 : Int) (Int.toNat (8 : Int)) (ex k n v d)).v
 (dE (tamP (3 : Int) (Int.toNat (8 : Int)) (ex k n v d)).kids)).v
 (dE
 (ex (tamP (3 : Int) (Int.toNat (8 : Int)) (ex k n v d)).k
 (tamP (3 : Int) (Int.toNat (8 : Int)) (ex k n v d)).n
 (tamP (3 : Int) (Int.toNat (8 : Int)) (ex k n v d)).v
 (dE
 (tamP (3 : Int) (Int.toNat (8 : Int)) (ex k n v d)).kids)).kids)))
 (evT
 (vD
 ((D.l
 [[D.i (IntKind.i64.wrap (h (nat_lit 0 + nat_lit 0 * (1 : Nat))))],
 [D.i (IntKind.i64.wrap (h (nat_lit 0 + nat_lit 1 * (1 : Nat))))],
 [D.i
 (IntKind.i64.wrap
 (h (nat_lit 0 + nat_lit 2 * (1 : Nat))))]]).sub
 (nat_lit 0) (nat_lit 0 + nat_lit 3)))
 (ex
 (ex (tamP (3 : Int) (Int.toNat (8 : Int)) (ex k2 n2 v2 d2)).k
 (tamP (3 : Int) (Int.toNat (8 : Int)) (ex k2 n2 v2 d2)).n
 (tamP (3 : Int) (Int.toNat (8 : Int)) (ex k2 n2 v2 d2)).v
 (dE (tamP (3 : Int) (Int.toNat (8 : Int)) (ex k2 n2 v2 d2)).kids)).k
 (ex (tamP (3 : Int) (Int.toNat (8 : Int)) (ex k2 n2 v2 d2)).k
 (tamP (3 : Int) (Int.toNat (8 : Int)) (ex k2 n2 v2 d2)).n
 (tamP (3 : Int) (Int.toNat (8 : Int)) (ex k2 n2 v2 d2)).v
 (dE (tamP (3 : Int) (Int.toNat (8 : Int)) (ex k2 n2 v2 d2)).kids)).n
 (ex (tamP (3 : Int) (Int.toNat (8 : Int)) (ex k2 n2 v2 d2)).k
 (tamP (3 : Int) (Int.toNat (8 : Int)) (ex k2 n2 v2 d2)).n
 (tamP (3 : Int) (Int.toNat (8 : Int)) (ex k2 n2 v2 d2)).v
 (dE (tamP (3 : Int) (Int.toNat (8 : Int)) (ex k2 n2 v2 d2)).kids)).v
 (dE
 (ex (tamP (3 : Int) (Int.toNat (8 : Int)) (ex k2 n2 v2 d2)).k
 (tamP (3 : Int) (Int.toNat (8 : Int)) (ex k2 n2 v2 d2)).n
 (tamP (3 : Int) (Int.toNat (8 : Int)) (ex k2 n2 v2 d2)).v
 (dE
 (tamP (3 : Int) (Int.toNat (8 : Int))
 (ex k2 n2 v2 d2)).kids)).kids)))).snd ==
 (0 : Int) &&
 (hdP (notP (↑i : Int))
 (evT
 (vD
 ((D.l
 [[D.i (IntKind.i64.wrap (h (nat_lit 0 + nat_lit 0 * (1 : Nat))))],
 [D.i (IntKind.i64.wrap (h (nat_lit 0 + nat_lit 1 * (1 : Nat))))],
 [D.i
 (IntKind.i64.wrap
 (h (nat_lit 0 + nat_lit 2 * (1 : Nat))))]]).sub
 (nat_lit 0) (nat_lit 0 + nat_lit 3)))
 (ex
 (ex (tamP (3 : Int) (Int.toNat (8 : Int)) (ex k n v d)).k
 (tamP (3 : Int) (Int.toNat (8 : Int)) (ex k n v d)).n
 (tamP (3 : Int) (Int.toNat (8 : Int)) (ex k n v d)).v
 (dE (tamP (3 : Int) (Int.toNat (8 : Int)) (ex k n v d)).kids)).k
 (ex (tamP (3 : Int) (Int.toNat (8 : Int)) (ex k n v d)).k
 (tamP (3 : Int) (Int.toNat (8 : Int)) (ex k n v d)).n
 (tamP (3 : Int) (Int.toNat (8 : Int)) (ex k n v d)).v
 (dE (tamP (3 : Int) (Int.toNat (8 : Int)) (ex k n v d)).kids)).n
 (ex (tamP (3 : Int) (Int.toNat (8 : Int)) (ex k n v d)).k
 (tamP (3 : Int) (Int.toNat (8 : Int)) (ex k n v d)).n
 (tamP (3 : Int) (Int.toNat (8 : Int)) (ex k n v d)).v
 (dE (tamP (3 : Int) (Int.toNat (8 : Int)) (ex k n v d)).kids)).v
 (dE
 (ex (tamP (3 : Int) (Int.toNat (8 : Int)) (ex k n v d)).k
 (tamP (3 : Int) (Int.toNat (8 : Int)) (ex k n v d)).n
 (tamP (3 : Int) (Int.toNat (8 : Int)) (ex k n v d)).v
 (dE
 (tamP (3 : Int) (Int.toNat (8 : Int)) (ex k n v d)).kids)).kids)))
 (evT
 (vD
 ((D.l
 [[D.i (IntKind.i64.wrap (h (nat_lit 0 + nat_lit 0 * (1 : Nat))))],
 [D.i (IntKind.i64.wrap (h (nat_lit 0 + nat_lit 1 * (1 : Nat))))],
 [D.i
 (IntKind.i64.wrap
 (h (nat_lit 0 + nat_lit 2 * (1 : Nat))))]]).sub
 (nat_lit 0) (nat_lit 0 + nat_lit 3)))
 (ex
 (ex (tamP (3 : Int) (Int.toNat (8 : Int)) (ex k2 n2 v2 d2)).k
 (tamP (3 : Int) (Int.toNat (8 : Int)) (ex k2 n2 v2 d2)).n
 (tamP (3 : Int) (Int.toNat (8 : Int)) (ex k2 n2 v2 d2)).v
 (dE (tamP (3 : Int) (Int.toNat (8 : Int)) (ex k2 n2 v2 d2)).kids)).k
 (ex (tamP (3 : Int) (Int.toNat (8 : Int)) (ex k2 n2 v2 d2)).k
 (tamP (3 : Int) (Int.toNat (8 : Int)) (ex k2 n2 v2 d2)).n
 (tamP (3 : Int) (Int.toNat (8 : Int)) (ex k2 n2 v2 d2)).v
 (dE (tamP (3 : Int) (Int.toNat (8 : Int)) (ex k2 n2 v2 d2)).kids)).n
 (ex (tamP (3 : Int) (Int.toNat (8 : Int)) (ex k2 n2 v2 d2)).k
 (tamP (3 : Int) (Int.toNat (8 : Int)) (ex k2 n2 v2 d2)).n
 (tamP (3 : Int) (Int.toNat (8 : Int)) (ex k2 n2 v2 d2)).v
 (dE (tamP (3 : Int) (Int.toNat (8 : Int)) (ex k2 n2 v2 d2)).kids)).v
 (dE
 (ex (tamP (3 : Int) (Int.toNat (8 : Int)) (ex k2 n2 v2 d2)).k
 (tamP (3 : Int) (Int.toNat (8 : Int)) (ex k2 n2 v2 d2)).n
 (tamP (3 : Int) (Int.toNat (8 : Int)) (ex k2 n2 v2 d2)).v
 (dE
 (tamP (3 : Int) (Int.toNat (8 : Int))
 (ex k2 n2 v2 d2)).kids)).kids)))).fst ==
 (hdP (↑i : Int)
 (evT
 (vD
 ((D.l
 [[D.i (IntKind.i64.wrap (h (nat_lit 0 + nat_lit 0 * (1 : Nat))))],
 [D.i (IntKind.i64.wrap (h (nat_lit 0 + nat_lit 1 * (1 : Nat))))],
 [D.i
 (IntKind.i64.wrap
 (h (nat_lit 0 + nat_lit 2 * (1 : Nat))))]]).sub
 (nat_lit 0) (nat_lit 0 + nat_lit 3)))
 (ex
 (ex (tamP (3 : Int) (Int.toNat (8 : Int)) (ex k n v d)).k
 (tamP (3 : Int) (Int.toNat (8 : Int)) (ex k n v d)).n
 (tamP (3 : Int) (Int.toNat (8 : Int)) (ex k n v d)).v
 (dE (tamP (3 : Int) (Int.toNat (8 : Int)) (ex k n v d)).kids)).k
 (ex (tamP (3 : Int) (Int.toNat (8 : Int)) (ex k n v d)).k
 (tamP (3 : Int) (Int.toNat (8 : Int)) (ex k n v d)).n
 (tamP (3 : Int) (Int.toNat (8 : Int)) (ex k n v d)).v
 (dE (tamP (3 : Int) (Int.toNat (8 : Int)) (ex k n v d)).kids)).n
 (ex (tamP (3 : Int) (Int.toNat (8 : Int)) (ex k n v d)).k
 (tamP (3 : Int) (Int.toNat (8 : Int)) (ex k n v d)).n
 (tamP (3 : Int) (Int.toNat (8 : Int)) (ex k n v d)).v
 (dE (tamP (3 : Int) (Int.toNat (8 : Int)) (ex k n v d)).kids)).v
 (dE
 (ex (tamP (3 : Int) (Int.toNat (8 : Int)) (ex k n v d)).k
 (tamP (3 : Int) (Int.toNat (8 : Int)) (ex k n v d)).n
 (tamP (3 : Int) (Int.toNat (8 : Int)) (ex k n v d)).v
 (dE
 (tamP (3 : Int) (Int.toNat (8 : Int)) (ex k n v d)).kids)).kids)))
 (evT
 (vD
 ((D.l
 [[D.i (IntKind.i64.wrap (h (nat_lit 0 + nat_lit 0 * (1 : Nat))))],
 [D.i (IntKind.i64.wrap (h (nat_lit 0 + nat_lit 1 * (1 : Nat))))],
 [D.i
 (IntKind.i64.wrap
 (h (nat_lit 0 + nat_lit 2 * (1 : Nat))))]]).sub
 (nat_lit 0) (nat_lit 0 + nat_lit 3)))
 (ex
 (ex (tamP (3 : Int) (Int.toNat (8 : Int)) (ex k2 n2 v2 d2)).k
 (tamP (3 : Int) (Int.toNat (8 : Int)) (ex k2 n2 v2 d2)).n
 (tamP (3 : Int) (Int.toNat (8 : Int)) (ex k2 n2 v2 d2)).v
 (dE (tamP (3 : Int) (Int.toNat (8 : Int)) (ex k2 n2 v2 d2)).kids)).k
 (ex (tamP (3 : Int) (Int.toNat (8 : Int)) (ex k2 n2 v2 d2)).k
 (tamP (3 : Int) (Int.toNat (8 : Int)) (ex k2 n2 v2 d2)).n
 (tamP (3 : Int) (Int.toNat (8 : Int)) (ex k2 n2 v2 d2)).v
 (dE (tamP (3 : Int) (Int.toNat (8 : Int)) (ex k2 n2 v2 d2)).kids)).n
 (ex (tamP (3 : Int) (Int.toNat (8 : Int)) (ex k2 n2 v2 d2)).k
 (tamP (3 : Int) (Int.toNat (8 : Int)) (ex k2 n2 v2 d2)).n
 (tamP (3 : Int) (Int.toNat (8 : Int)) (ex k2 n2 v2 d2)).v
 (dE (tamP (3 : Int) (Int.toNat (8 : Int)) (ex k2 n2 v2 d2)).kids)).v
 (dE
 (ex (tamP (3 : Int) (Int.toNat (8 : Int)) (ex k2 n2 v2 d2)).k
 (tamP (3 : Int) (Int.toNat (8 : Int)) (ex k2 n2 v2 d2)).n
 (tamP (3 : Int) (Int.toNat (8 : Int)) (ex k2 n2 v2 d2)).v
 (dE
 (tamP (3 : Int) (Int.toNat (8 : Int))
 (ex k2 n2 v2 d2)).kids)).kids)))).fst) =
 true →
 false = true) ∧
 ((!(hdP (↑i : Int)
 (evT
 (vD
 ((D.l
 [[D.i (IntKind.i64.wrap (h (nat_lit 0 + nat_lit 0 * (1 : Nat))))],
 [D.i
 (IntKind.i64.wrap (h (nat_lit 0 + nat_lit 1 * (1 : Nat))))],
 [D.i
 (IntKind.i64.wrap
 (h (nat_lit 0 + nat_lit 2 * (1 : Nat))))]]).sub
 (nat_lit 0) (nat_lit 0 + nat_lit 3)))
 (ex
 (ex (tamP (3 : Int) (Int.toNat (8 : Int)) (ex k n v d)).k
 (tamP (3 : Int) (Int.toNat (8 : Int)) (ex k n v d)).n
 (tamP (3 : Int) (Int.toNat (8 : Int)) (ex k n v d)).v
 (dE (tamP (3 : Int) (Int.toNat (8 : Int)) (ex k n v d)).kids)).k
 (ex (tamP (3 : Int) (Int.toNat (8 : Int)) (ex k n v d)).k
 (tamP (3 : Int) (Int.toNat (8 : Int)) (ex k n v d)).n
 (tamP (3 : Int) (Int.toNat (8 : Int)) (ex k n v d)).v
 (dE (tamP (3 : Int) (Int.toNat (8 : Int)) (ex k n v d)).kids)).n
 (ex (tamP (3 : Int) (Int.toNat (8 : Int)) (ex k n v d)).k
 (tamP (3 : Int) (Int.toNat (8 : Int)) (ex k n v d)).n
 (tamP (3 : Int) (Int.toNat (8 : Int)) (ex k n v d)).v
 (dE (tamP (3 : Int) (Int.toNat (8 : Int)) (ex k n v d)).kids)).v
 (dE
 (ex (tamP (3 : Int) (Int.toNat (8 : Int)) (ex k n v d)).k
 (tamP (3 : Int) (Int.toNat (8 : Int)) (ex k n v d)).n
 (tamP (3 : Int) (Int.toNat (8 : Int)) (ex k n v d)).v
 (dE
 (tamP (3 : Int) (Int.toNat (8 : Int))
 (ex k n v d)).kids)).kids)))
 (evT
 (vD
 ((D.l
 [[D.i (IntKind.i64.wrap (h (nat_lit 0 + nat_lit 0 * (1 : Nat))))],
 [D.i
 (IntKind.i64.wrap (h (nat_lit 0 + nat_lit 1 * (1 : Nat))))],
 [D.i
 (IntKind.i64.wrap
 (h (nat_lit 0 + nat_lit 2 * (1 : Nat))))]]).sub
 (nat_lit 0) (nat_lit 0 + nat_lit 3)))
 (ex
 (ex (tamP (3 : Int) (Int.toNat (8 : Int)) (ex k2 n2 v2 d2)).k
 (tamP (3 : Int) (Int.toNat (8 : Int)) (ex k2 n2 v2 d2)).n
 (tamP (3 : Int) (Int.toNat (8 : Int)) (ex k2 n2 v2 d2)).v
 (dE (tamP (3 : Int) (Int.toNat (8 : Int)) (ex k2 n2 v2 d2)).kids)).k
 (ex (tamP (3 : Int) (Int.toNat (8 : Int)) (ex k2 n2 v2 d2)).k
 (tamP (3 : Int) (Int.toNat (8 : Int)) (ex k2 n2 v2 d2)).n
 (tamP (3 : Int) (Int.toNat (8 : Int)) (ex k2 n2 v2 d2)).v
 (dE (tamP (3 : Int) (Int.toNat (8 : Int)) (ex k2 n2 v2 d2)).kids)).n
 (ex (tamP (3 : Int) (Int.toNat (8 : Int)) (ex k2 n2 v2 d2)).k
 (tamP (3 : Int) (Int.toNat (8 : Int)) (ex k2 n2 v2 d2)).n
 (tamP (3 : Int) (Int.toNat (8 : Int)) (ex k2 n2 v2 d2)).v
 (dE (tamP (3 : Int) (Int.toNat (8 : Int)) (ex k2 n2 v2 d2)).kids)).v
 (dE
 (ex (tamP (3 : Int) (Int.toNat (8 : Int)) (ex k2 n2 v2 d2)).k
 (tamP (3 : Int) (Int.toNat (8 : Int)) (ex k2 n2 v2 d2)).n
 (tamP (3 : Int) (Int.toNat (8 : Int)) (ex k2 n2 v2 d2)).v
 (dE
 (tamP (3 : Int) (Int.toNat (8 : Int))
 (ex k2 n2 v2 d2)).kids)).kids)))).fst ==
 (hdP (↑i : Int)
 (evT
 (vD
 ((D.l
 [[D.i (IntKind.i64.wrap (h (nat_lit 0 + nat_lit 0 * (1 : Nat))))],
 [D.i
 (IntKind.i64.wrap (h (nat_lit 0 + nat_lit 1 * (1 : Nat))))],
 [D.i
 (IntKind.i64.wrap
 (h (nat_lit 0 + nat_lit 2 * (1 : Nat))))]]).sub
 (nat_lit 0) (nat_lit 0 + nat_lit 3)))
 (ex (tamP (3 : Int) (Int.toNat (8 : Int)) (ex k n v d)).k
 (tamP (3 : Int) (Int.toNat (8 : Int)) (ex k n v d)).n
 (tamP (3 : Int) (Int.toNat (8 : Int)) (ex k n v d)).v
 (dE (tamP (3 : Int) (Int.toNat (8 : Int)) (ex k n v d)).kids)))
 (evT
 (vD
 ((D.l
 [[D.i (IntKind.i64.wrap (h (nat_lit 0 + nat_lit 0 * (1 : Nat))))],
 [D.i
 (IntKind.i64.wrap (h (nat_lit 0 + nat_lit 1 * (1 : Nat))))],
 [D.i
 (IntKind.i64.wrap
 (h (nat_lit 0 + nat_lit 2 * (1 : Nat))))]]).sub
 (nat_lit 0) (nat_lit 0 + nat_lit 3)))
 (ex (tamP (3 : Int) (Int.toNat (8 : Int)) (ex k2 n2 v2 d2)).k
 (tamP (3 : Int) (Int.toNat (8 : Int)) (ex k2 n2 v2 d2)).n
 (tamP (3 : Int) (Int.toNat (8 : Int)) (ex k2 n2 v2 d2)).v
 (dE
 (tamP (3 : Int) (Int.toNat (8 : Int))
 (ex k2 n2 v2 d2)).kids)))).fst ||
 (hdP (↑i : Int)
 (evT
 (vD
 ((D.l
 [[D.i (IntKind.i64.wrap (h (nat_lit 0 + nat_lit 0 * (1 : Nat))))],
 [D.i (IntKind.i64.wrap (h (nat_lit 0 + nat_lit 1 * (1 : Nat))))],
 [D.i
 (IntKind.i64.wrap
 (h (nat_lit 0 + nat_lit 2 * (1 : Nat))))]]).sub
 (nat_lit 0) (nat_lit 0 + nat_lit 3)))
 (ex
 (ex (tamP (3 : Int) (Int.toNat (8 : Int)) (ex k n v d)).k
 (tamP (3 : Int) (Int.toNat (8 : Int)) (ex k n v d)).n
 (tamP (3 : Int) (Int.toNat (8 : Int)) (ex k n v d)).v
 (dE (tamP (3 : Int) (Int.toNat (8 : Int)) (ex k n v d)).kids)).k
 (ex (tamP (3 : Int) (Int.toNat (8 : Int)) (ex k n v d)).k
 (tamP (3 : Int) (Int.toNat (8 : Int)) (ex k n v d)).n
 (tamP (3 : Int) (Int.toNat (8 : Int)) (ex k n v d)).v
 (dE (tamP (3 : Int) (Int.toNat (8 : Int)) (ex k n v d)).kids)).n
 (ex (tamP (3 : Int) (Int.toNat (8 : Int)) (ex k n v d)).k
 (tamP (3 : Int) (Int.toNat (8 : Int)) (ex k n v d)).n
 (tamP (3 : Int) (Int.toNat (8 : Int)) (ex k n v d)).v
 (dE (tamP (3 : Int) (Int.toNat (8 : Int)) (ex k n v d)).kids)).v
 (dE
 (ex (tamP (3 : Int) (Int.toNat (8 : Int)) (ex k n v d)).k
 (tamP (3 : Int) (Int.toNat (8 : Int)) (ex k n v d)).n
 (tamP (3 : Int) (Int.toNat (8 : Int)) (ex k n v d)).v
 (dE
 (tamP (3 : Int) (Int.toNat (8 : Int)) (ex k n v d)).kids)).kids)))
 (evT
 (vD
 ((D.l
 [[D.i (IntKind.i64.wrap (h (nat_lit 0 + nat_lit 0 * (1 : Nat))))],
 [D.i (IntKind.i64.wrap (h (nat_lit 0 + nat_lit 1 * (1 : Nat))))],
 [D.i
 (IntKind.i64.wrap
 (h (nat_lit 0 + nat_lit 2 * (1 : Nat))))]]).sub
 (nat_lit 0) (nat_lit 0 + nat_lit 3)))
 (ex
 (ex (tamP (3 : Int) (Int.toNat (8 : Int)) (ex k2 n2 v2 d2)).k
 (tamP (3 : Int) (Int.toNat (8 : Int)) (ex k2 n2 v2 d2)).n
 (tamP (3 : Int) (Int.toNat (8 : Int)) (ex k2 n2 v2 d2)).v
 (dE (tamP (3 : Int) (Int.toNat (8 : Int)) (ex k2 n2 v2 d2)).kids)).k
 (ex (tamP (3 : Int) (Int.toNat (8 : Int)) (ex k2 n2 v2 d2)).k
 (tamP (3 : Int) (Int.toNat (8 : Int)) (ex k2 n2 v2 d2)).n
 (tamP (3 : Int) (Int.toNat (8 : Int)) (ex k2 n2 v2 d2)).v
 (dE (tamP (3 : Int) (Int.toNat (8 : Int)) (ex k2 n2 v2 d2)).kids)).n
 (ex (tamP (3 : Int) (Int.toNat (8 : Int)) (ex k2 n2 v2 d2)).k
 (tamP (3 : Int) (Int.toNat (8 : Int)) (ex k2 n2 v2 d2)).n
 (tamP (3 : Int) (Int.toNat (8 : Int)) (ex k2 n2 v2 d2)).v
 (dE (tamP (3 : Int) (Int.toNat (8 : Int)) (ex k2 n2 v2 d2)).kids)).v
 (dE
 (ex (tamP (3 : Int) (Int.toNat (8 : Int)) (ex k2 n2 v2 d2)).k
 (tamP (3 : Int) (Int.toNat (8 : Int)) (ex k2 n2 v2 d2)).n
 (tamP (3 : Int) (Int.toNat (8 : Int)) (ex k2 n2 v2 d2)).v
 (dE
 (tamP (3 : Int) (Int.toNat (8 : Int))
 (ex k2 n2 v2 d2)).kids)).kids)))).snd !=
 (hdP (↑i : Int)
 (evT
 (vD
 ((D.l
 [[D.i (IntKind.i64.wrap (h (nat_lit 0 + nat_lit 0 * (1 : Nat))))],
 [D.i (IntKind.i64.wrap (h (nat_lit 0 + nat_lit 1 * (1 : Nat))))],
 [D.i
 (IntKind.i64.wrap
 (h (nat_lit 0 + nat_lit 2 * (1 : Nat))))]]).sub
 (nat_lit 0) (nat_lit 0 + nat_lit 3)))
 (ex (tamP (3 : Int) (Int.toNat (8 : Int)) (ex k n v d)).k
 (tamP (3 : Int) (Int.toNat (8 : Int)) (ex k n v d)).n
 (tamP (3 : Int) (Int.toNat (8 : Int)) (ex k n v d)).v
 (dE (tamP (3 : Int) (Int.toNat (8 : Int)) (ex k n v d)).kids)))
 (evT
 (vD
 ((D.l
 [[D.i (IntKind.i64.wrap (h (nat_lit 0 + nat_lit 0 * (1 : Nat))))],
 [D.i (IntKind.i64.wrap (h (nat_lit 0 + nat_lit 1 * (1 : Nat))))],
 [D.i
 (IntKind.i64.wrap
 (h (nat_lit 0 + nat_lit 2 * (1 : Nat))))]]).sub
 (nat_lit 0) (nat_lit 0 + nat_lit 3)))
 (ex (tamP (3 : Int) (Int.toNat (8 : Int)) (ex k2 n2 v2 d2)).k
 (tamP (3 : Int) (Int.toNat (8 : Int)) (ex k2 n2 v2 d2)).n
 (tamP (3 : Int) (Int.toNat (8 : Int)) (ex k2 n2 v2 d2)).v
 (dE
 (tamP (3 : Int) (Int.toNat (8 : Int)) (ex k2 n2 v2 d2)).kids)))).snd ||
 (hdP (↑i : Int)
 (evT
 (vD
 ((D.l
 [[D.i (IntKind.i64.wrap (h (nat_lit 0 + nat_lit 0 * (1 : Nat))))],
 [D.i (IntKind.i64.wrap (h (nat_lit 0 + nat_lit 1 * (1 : Nat))))],
 [D.i
 (IntKind.i64.wrap
 (h (nat_lit 0 + nat_lit 2 * (1 : Nat))))]]).sub
 (nat_lit 0) (nat_lit 0 + nat_lit 3)))
 (ex
 (ex (tamP (3 : Int) (Int.toNat (8 : Int)) (ex k n v d)).k
 (tamP (3 : Int) (Int.toNat (8 : Int)) (ex k n v d)).n
 (tamP (3 : Int) (Int.toNat (8 : Int)) (ex k n v d)).v
 (dE (tamP (3 : Int) (Int.toNat (8 : Int)) (ex k n v d)).kids)).k
 (ex (tamP (3 : Int) (Int.toNat (8 : Int)) (ex k n v d)).k
 (tamP (3 : Int) (Int.toNat (8 : Int)) (ex k n v d)).n
 (tamP (3 : Int) (Int.toNat (8 : Int)) (ex k n v d)).v
 (dE (tamP (3 : Int) (Int.toNat (8 : Int)) (ex k n v d)).kids)).n
 (ex (tamP (3 : Int) (Int.toNat (8 : Int)) (ex k n v d)).k
 (tamP (3 : Int) (Int.toNat (8 : Int)) (ex k n v d)).n
 (tamP (3 : Int) (Int.toNat (8 : Int)) (ex k n v d)).v
 (dE (tamP (3 : Int) (Int.toNat (8 : Int)) (ex k n v d)).kids)).v
 (dE
 (ex (tamP (3 : Int) (Int.toNat (8 : Int)) (ex k n v d)).k
 (tamP (3 : Int) (Int.toNat (8 : Int)) (ex k n v d)).n
 (tamP (3 : Int) (Int.toNat (8 : Int)) (ex k n v d)).v
 (dE
 (tamP (3 : Int) (Int.toNat (8 : Int)) (ex k n v d)).kids)).kids)))
 (evT
 (vD
 ((D.l
 [[D.i (IntKind.i64.wrap (h (nat_lit 0 + nat_lit 0 * (1 : Nat))))],
 [D.i (IntKind.i64.wrap (h (nat_lit 0 + nat_lit 1 * (1 : Nat))))],
 [D.i
 (IntKind.i64.wrap
 (h (nat_lit 0 + nat_lit 2 * (1 : Nat))))]]).sub
 (nat_lit 0) (nat_lit 0 + nat_lit 3)))
 (ex
 (ex (tamP (3 : Int) (Int.toNat (8 : Int)) (ex k2 n2 v2 d2)).k
 (tamP (3 : Int) (Int.toNat (8 : Int)) (ex k2 n2 v2 d2)).n
 (tamP (3 : Int) (Int.toNat (8 : Int)) (ex k2 n2 v2 d2)).v
 (dE (tamP (3 : Int) (Int.toNat (8 : Int)) (ex k2 n2 v2 d2)).kids)).k
 (ex (tamP (3 : Int) (Int.toNat (8 : Int)) (ex k2 n2 v2 d2)).k
 (tamP (3 : Int) (Int.toNat (8 : Int)) (ex k2 n2 v2 d2)).n
 (tamP (3 : Int) (Int.toNat (8 : Int)) (ex k2 n2 v2 d2)).v
 (dE (tamP (3 : Int) (Int.toNat (8 : Int)) (ex k2 n2 v2 d2)).kids)).n
 (ex (tamP (3 : Int) (Int.toNat (8 : Int)) (ex k2 n2 v2 d2)).k
 (tamP (3 : Int) (Int.toNat (8 : Int)) (ex k2 n2 v2 d2)).n
 (tamP (3 : Int) (Int.toNat (8 : Int)) (ex k2 n2 v2 d2)).v
 (dE (tamP (3 : Int) (Int.toNat (8 : Int)) (ex k2 n2 v2 d2)).kids)).v
 (dE
 (ex (tamP (3 : Int) (Int.toNat (8 : Int)) (ex k2 n2 v2 d2)).k
 (tamP (3 : Int) (Int.toNat (8 : Int)) (ex k2 n2 v2 d2)).n
 (tamP (3 : Int) (Int.toNat (8 : Int)) (ex k2 n2 v2 d2)).v
 (dE
 (tamP (3 : Int) (Int.toNat (8 : Int))
 (ex k2 n2 v2 d2)).kids)).kids)))).snd ==
 (0 : Int) &&
 (hdP (notP (↑i : Int))
 (evT
 (vD
 ((D.l
 [[D.i (IntKind.i64.wrap (h (nat_lit 0 + nat_lit 0 * (1 : Nat))))],
 [D.i (IntKind.i64.wrap (h (nat_lit 0 + nat_lit 1 * (1 : Nat))))],
 [D.i
 (IntKind.i64.wrap
 (h (nat_lit 0 + nat_lit 2 * (1 : Nat))))]]).sub
 (nat_lit 0) (nat_lit 0 + nat_lit 3)))
 (ex
 (ex (tamP (3 : Int) (Int.toNat (8 : Int)) (ex k n v d)).k
 (tamP (3 : Int) (Int.toNat (8 : Int)) (ex k n v d)).n
 (tamP (3 : Int) (Int.toNat (8 : Int)) (ex k n v d)).v
 (dE (tamP (3 : Int) (Int.toNat (8 : Int)) (ex k n v d)).kids)).k
 (ex (tamP (3 : Int) (Int.toNat (8 : Int)) (ex k n v d)).k
 (tamP (3 : Int) (Int.toNat (8 : Int)) (ex k n v d)).n
 (tamP (3 : Int) (Int.toNat (8 : Int)) (ex k n v d)).v
 (dE (tamP (3 : Int) (Int.toNat (8 : Int)) (ex k n v d)).kids)).n
 (ex (tamP (3 : Int) (Int.toNat (8 : Int)) (ex k n v d)).k
 (tamP (3 : Int) (Int.toNat (8 : Int)) (ex k n v d)).n
 (tamP (3 : Int) (Int.toNat (8 : Int)) (ex k n v d)).v
 (dE (tamP (3 : Int) (Int.toNat (8 : Int)) (ex k n v d)).kids)).v
 (dE
 (ex (tamP (3 : Int) (Int.toNat (8 : Int)) (ex k n v d)).k
 (tamP (3 : Int) (Int.toNat (8 : Int)) (ex k n v d)).n
 (tamP (3 : Int) (Int.toNat (8 : Int)) (ex k n v d)).v
 (dE
 (tamP (3 : Int) (Int.toNat (8 : Int)) (ex k n v d)).kids)).kids)))
 (evT
 (vD
 ((D.l
 [[D.i (IntKind.i64.wrap (h (nat_lit 0 + nat_lit 0 * (1 : Nat))))],
 [D.i (IntKind.i64.wrap (h (nat_lit 0 + nat_lit 1 * (1 : Nat))))],
 [D.i
 (IntKind.i64.wrap
 (h (nat_lit 0 + nat_lit 2 * (1 : Nat))))]]).sub
 (nat_lit 0) (nat_lit 0 + nat_lit 3)))
 (ex
 (ex (tamP (3 : Int) (Int.toNat (8 : Int)) (ex k2 n2 v2 d2)).k
 (tamP (3 : Int) (Int.toNat (8 : Int)) (ex k2 n2 v2 d2)).n
 (tamP (3 : Int) (Int.toNat (8 : Int)) (ex k2 n2 v2 d2)).v
 (dE (tamP (3 : Int) (Int.toNat (8 : Int)) (ex k2 n2 v2 d2)).kids)).k
 (ex (tamP (3 : Int) (Int.toNat (8 : Int)) (ex k2 n2 v2 d2)).k
 (tamP (3 : Int) (Int.toNat (8 : Int)) (ex k2 n2 v2 d2)).n
 (tamP (3 : Int) (Int.toNat (8 : Int)) (ex k2 n2 v2 d2)).v
 (dE (tamP (3 : Int) (Int.toNat (8 : Int)) (ex k2 n2 v2 d2)).kids)).n
 (ex (tamP (3 : Int) (Int.toNat (8 : Int)) (ex k2 n2 v2 d2)).k
 (tamP (3 : Int) (Int.toNat (8 : Int)) (ex k2 n2 v2 d2)).n
 (tamP (3 : Int) (Int.toNat (8 : Int)) (ex k2 n2 v2 d2)).v
 (dE (tamP (3 : Int) (Int.toNat (8 : Int)) (ex k2 n2 v2 d2)).kids)).v
 (dE
 (ex (tamP (3 : Int) (Int.toNat (8 : Int)) (ex k2 n2 v2 d2)).k
 (tamP (3 : Int) (Int.toNat (8 : Int)) (ex k2 n2 v2 d2)).n
 (tamP (3 : Int) (Int.toNat (8 : Int)) (ex k2 n2 v2 d2)).v
 (dE
 (tamP (3 : Int) (Int.toNat (8 : Int))
 (ex k2 n2 v2 d2)).kids)).kids)))).fst ==
 (hdP (↑i : Int)
 (evT
 (vD
 ((D.l
 [[D.i (IntKind.i64.wrap (h (nat_lit 0 + nat_lit 0 * (1 : Nat))))],
 [D.i (IntKind.i64.wrap (h (nat_lit 0 + nat_lit 1 * (1 : Nat))))],
 [D.i
 (IntKind.i64.wrap
 (h (nat_lit 0 + nat_lit 2 * (1 : Nat))))]]).sub
 (nat_lit 0) (nat_lit 0 + nat_lit 3)))
 (ex
 (ex (tamP (3 : Int) (Int.toNat (8 : Int)) (ex k n v d)).k
 (tamP (3 : Int) (Int.toNat (8 : Int)) (ex k n v d)).n
 (tamP (3 : Int) (Int.toNat (8 : Int)) (ex k n v d)).v
 (dE (tamP (3 : Int) (Int.toNat (8 : Int)) (ex k n v d)).kids)).k
 (ex (tamP (3 : Int) (Int.toNat (8 : Int)) (ex k n v d)).k
 (tamP (3 : Int) (Int.toNat (8 : Int)) (ex k n v d)).n
 (tamP (3 : Int) (Int.toNat (8 : Int)) (ex k n v d)).v
 (dE (tamP (3 : Int) (Int.toNat (8 : Int)) (ex k n v d)).kids)).n
 (ex (tamP (3 : Int) (Int.toNat (8 : Int)) (ex k n v d)).k
 (tamP (3 : Int) (Int.toNat (8 : Int)) (ex k n v d)).n
 (tamP (3 : Int) (Int.toNat (8 : Int)) (ex k n v d)).v
 (dE (tamP (3 : Int) (Int.toNat (8 : Int)) (ex k n v d)).kids)).v
 (dE
 (ex (tamP (3 : Int) (Int.toNat (8 : Int)) (ex k n v d)).k
 (tamP (3 : Int) (Int.toNat (8 : Int)) (ex k n v d)).n
 (tamP (3 : Int) (Int.toNat (8 : Int)) (ex k n v d)).v
 (dE
 (tamP (3 : Int) (Int.toNat (8 : Int)) (ex k n v d)).kids)).kids)))
 (evT
 (vD
 ((D.l
 [[D.i (IntKind.i64.wrap (h (nat_lit 0 + nat_lit 0 * (1 : Nat))))],
 [D.i (IntKind.i64.wrap (h (nat_lit 0 + nat_lit 1 * (1 : Nat))))],
 [D.i
 (IntKind.i64.wrap
 (h (nat_lit 0 + nat_lit 2 * (1 : Nat))))]]).sub
 (nat_lit 0) (nat_lit 0 + nat_lit 3)))
 (ex
 (ex (tamP (3 : Int) (Int.toNat (8 : Int)) (ex k2 n2 v2 d2)).k
 (tamP (3 : Int) (Int.toNat (8 : Int)) (ex k2 n2 v2 d2)).n
 (tamP (3 : Int) (Int.toNat (8 : Int)) (ex k2 n2 v2 d2)).v
 (dE (tamP (3 : Int) (Int.toNat (8 : Int)) (ex k2 n2 v2 d2)).kids)).k
 (ex (tamP (3 : Int) (Int.toNat (8 : Int)) (ex k2 n2 v2 d2)).k
 (tamP (3 : Int) (Int.toNat (8 : Int)) (ex k2 n2 v2 d2)).n
 (tamP (3 : Int) (Int.toNat (8 : Int)) (ex k2 n2 v2 d2)).v
 (dE (tamP (3 : Int) (Int.toNat (8 : Int)) (ex k2 n2 v2 d2)).kids)).n
 (ex (tamP (3 : Int) (Int.toNat (8 : Int)) (ex k2 n2 v2 d2)).k
 (tamP (3 : Int) (Int.toNat (8 : Int)) (ex k2 n2 v2 d2)).n
 (tamP (3 : Int) (Int.toNat (8 : Int)) (ex k2 n2 v2 d2)).v
 (dE (tamP (3 : Int) (Int.toNat (8 : Int)) (ex k2 n2 v2 d2)).kids)).v
 (dE
 (ex (tamP (3 : Int) (Int.toNat (8 : Int)) (ex k2 n2 v2 d2)).k
 (tamP (3 : Int) (Int.toNat (8 : Int)) (ex k2 n2 v2 d2)).n
 (tamP (3 : Int) (Int.toNat (8 : Int)) (ex k2 n2 v2 d2)).v
 (dE
 (tamP (3 : Int) (Int.toNat (8 : Int))
 (ex k2 n2 v2 d2)).kids)).kids)))).fst) =
 false →
 ∃ (j : Nat),
 ((1 : Nat) ≤ j ∧ j ≤ (7 : Nat)) ∧
 (8 : Nat) - j < (8 : Nat) - i ∧
 IntKind.i64.wrap ((↑i : Int) + (1 : Int)) = (↑j : Int) ∧
 nat_lit 3 = nat_lit 3 ∧
 (tamP (3 : Int) (Int.toNat (8 : Int)) (ex k n v d)).k =
 (tamP (3 : Int) (Int.toNat (8 : Int)) (ex k n v d)).k ∧
 (tamP (3 : Int) (Int.toNat (8 : Int)) (ex k n v d)).n =
 (tamP (3 : Int) (Int.toNat (8 : Int)) (ex k n v d)).n ∧
 (tamP (3 : Int) (Int.toNat (8 : Int)) (ex k n v d)).v =
 (tamP (3 : Int) (Int.toNat (8 : Int)) (ex k n v d)).v ∧
 List.map encE (tamP (3 : Int) (Int.toNat (8 : Int)) (ex k n v d)).kids =
 List.map encE
 (tamP (3 : Int) (Int.toNat (8 : Int)) (ex k n v d)).kids ∧
 (tamP (3 : Int) (Int.toNat (8 : Int)) (ex k2 n2 v2 d2)).k =
 (tamP (3 : Int) (Int.toNat (8 : Int)) (ex k2 n2 v2 d2)).k ∧
 (tamP (3 : Int) (Int.toNat (8 : Int)) (ex k2 n2 v2 d2)).n =
 (tamP (3 : Int) (Int.toNat (8 : Int)) (ex k2 n2 v2 d2)).n ∧
 (tamP (3 : Int) (Int.toNat (8 : Int)) (ex k2 n2 v2 d2)).v =
 (tamP (3 : Int) (Int.toNat (8 : Int)) (ex k2 n2 v2 d2)).v ∧
 List.map encE
 (tamP (3 : Int) (Int.toNat (8 : Int))
 (ex k2 n2 v2 d2)).kids =
 List.map encE
 (tamP (3 : Int) (Int.toNat (8 : Int))
 (ex k2 n2 v2 d2)).kids ∧
 [[D.i
 (IntKind.i64.wrap
 (h (nat_lit 0 + nat_lit 0 * (1 : Nat))))],
 [D.i
 (IntKind.i64.wrap
 (h (nat_lit 0 + nat_lit 1 * (1 : Nat))))],
 [D.i
 (IntKind.i64.wrap
 (h (nat_lit 0 + nat_lit 2 * (1 : Nat))))]] =
 [[D.i
 (IntKind.i64.wrap
 (h (nat_lit 0 + nat_lit 0 * (1 : Nat))))],
 [D.i
 (IntKind.i64.wrap
 (h (nat_lit 0 + nat_lit 1 * (1 : Nat))))],
 [D.i
 (IntKind.i64.wrap
 (h (nat_lit 0 + nat_lit 2 * (1 : Nat))))]])) ∧
 (decide ((↑i : Int) < (7 : Int)) = false → true = true))) (by kernel_rfl) ?_
    intro hh
    have r0 := hh 0 (by omega)
    have r1 := hh 1 (by omega)
    have r2 := hh 2 (by omega)
    have w0 : IntKind.i64.wrap (h (0 + 0 * 1)) = h 0 := wr _ (by show -9223372036854775808 ≤ h 0 ∧ h 0 ≤ 9223372036854775807; omega)
    have w1 : IntKind.i64.wrap (h (0 + 1 * 1)) = h 1 := wr _ (by show -9223372036854775808 ≤ h 1 ∧ h 1 ≤ 9223372036854775807; omega)
    have w2 : IntKind.i64.wrap (h (0 + 2 * 1)) = h 2 := wr _ (by show -9223372036854775808 ≤ h 2 ∧ h 2 ≤ 9223372036854775807; omega)
    have ge : (D.l [[D.i (h 0)], [D.i (h 1)], [D.i (h 2)]]).sub 0 (0 + 3) = g3 h := rfl
    have gl : ((g3 h).len : Int) = 3 := rfl
    have l3 : (D.l [[D.i (h 0)], [D.i (h 1)], [D.i (h 2)]]).len = 3 := rfl
    have hI : InV 3 (vD (g3 h)) := fun v h0 h3 => by
      have : v = 0 ∨ v = 1 ∨ v = 2 := by omega
      rcases this with rfl | rfl | rfl
      · exact r0
      · exact r1
      · exact r2
    have T1 := tam_tm (w := 3) (by omega) (Int.toNat 8) (ex k n v d)
    have T2 := tam_tm (w := 3) (by omega) (Int.toNat 8) (ex k2 n2 v2 d2)
    simp only [ex_of, w0, w1, w2, ge, gl, l3]
    generalize tamP 3 (Int.toNat 8) (ex k n v d) = t1 at *
    generalize tamP 3 (Int.toNat 8) (ex k2 n2 v2 d2) = t2 at *
    generalize evT (vD (g3 h)) t1 = e1 at *
    generalize evT (vD (g3 h)) t2 = e2 at *
    have S1 := tm_small T1
    have S2 := tm_small T2
    refine ⟨by omega, by omega, S1, by omega, T1, hI, by omega, T1, hI, fun e => by simp at e, fun _ => ⟨⟨1, by omega, rfl, by simp⟩, fun i hi => ⟨fun hlt => ?_, fun _ => trivial⟩⟩⟩
    have hlt : (i : Int) < 7 := by simpa using hlt
    have nb := not_hd (op := (i : Int)) (by omega) e1 e2
    have bad : (!(hdP (↑i) e1 e2).fst == (hdP (↑i) e1 e2).fst || (hdP (↑i) e1 e2).snd != (hdP (↑i) e1 e2).snd || (hdP (↑i) e1 e2).snd == 0 && (hdP (notP ↑i) e1 e2).fst == (hdP (↑i) e1 e2).fst) = false := by
      by_cases q : (hdP (↑i) e1 e2).snd = 0
      · rw [nb q]; simp
      · simp [q]
    rw [bad]
    exact ⟨S1, S2, by omega, T1, T2, hI, by omega, T1, T2, hI, S1, S2, by omega, T1, T2, hI, fun e => absurd e (by decide), fun _ => ⟨i + 1, by omega, by omega, wr _ (by omega), by simp⟩⟩
  · trivial
end Go.Proofs.Ytdagadcflignfaa.Sx.Z
