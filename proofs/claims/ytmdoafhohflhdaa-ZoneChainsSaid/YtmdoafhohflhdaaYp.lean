/-
  ZoneJoins' contract.
-/
import Derived.Test.YtmdoafhohflhdaaYo
namespace Go.Proofs.Ytmdoafhohflhdaa.Sx.Z
open Go.RowKit
def zjoinsS : FSpec := fun ds _ => match ds with
  | [.i n, .d ra, .d rb] => some { val := .one (.sc (.bool (.sym (true)))), vc := [] }
  | _ => none
def zjoinsC : Con := con [iA, .sc (.rows 44), .sc (.rows 44)] zjoinsS
theorem zjoins_ok : ConOK Try.prog 5 zjoinsC := by
  refine fn_ob tt_ok mixed Try.func5 rfl (fun _ _ => by kernel_rfl) (A := fun ds => ⟨fun _ => Cons.of [(12, topC), (13, rtopC), (18, applyC), (16, copiesC), (25, joinC), (26, widenC), (17, zfromC), (27, rjoinC), (28, rwidenC), (29, zrightC), (30, withinC), (31, rwithinC)], fun _ => none, fun k => match k, ds with | 4, [.i n, .d ra, .d rb] => some { ι := Bool, pre := fun _ _ => True, μ := fun _ => 0, st := fun s _ => famR s [(7, .one (.sc (.int .i64 (.sym (kz n))))), (10, .one (.sc (.bool (.sym (true))))), (13, .one (.sc (.bool (.sym (true))))), (11, .one (.sc (.ptr (s.nx - 1) (.lit 0)))), (12, .one (.sc (.ptr (s.nx - 2) (.lit 0))))] [8, 9] [(idOf s 8, .own 27 (zs (.sym (kz n)) (.sym (ZA (kz n) ra).1) (ZA (kz n) ra).2)), (idOf s 9, .own 29 (zs (.sym (kz n)) (.sym (ZA (kz n) ra).1) (ZA (kz n) ra).2)), (s.nx - 1, .own 27 (zs (.sym (kz n)) (.sym (ZA (kz n) rb).1) (ZA (kz n) rb).2)), (s.nx - 2, .own 29 (zs (.sym (kz n)) (.sym (ZA (kz n) rb).1) (ZA (kz n) rb).2))] [] } | 7, [.i n, .d ra, .d rb] => some { ι := Bool, pre := fun _ _ => True, μ := fun _ => 0, st := fun s _ => famR s [(14, .one (.sc (.ptr (s.nx - 1) (.lit 0)))), (15, .one (.sc (.ptr (s.nx - 2) (.lit 0))))] [7, 8, 9, 11, 12] [(s.nx - 1, .own 27 (zs (.sym (kz n)) (.sym (jnZ (kz n) (ZA (kz n) ra) (ZA (kz n) rb)).1) (jnZ (kz n) (ZA (kz n) ra) (ZA (kz n) rb)).2)), (s.nx - 2, .own 27 (zs (.sym (kz n)) (.sym (wdZ (kz n) (ZA (kz n) ra) (ZA (kz n) rb)).1) (wdZ (kz n) (ZA (kz n) ra) (ZA (kz n) rb)).2))] [8, 9, 11, 12] } | _, _ => none⟩) (fun _ _ => (cons_cons top_ok (cons_cons rtop_ok (cons_cons apply_ok (cons_cons copies_ok (cons_cons join_ok (cons_cons widen_ok (cons_cons zfrom_ok (cons_cons rjoin_ok (cons_cons rwiden_ok (cons_cons zright_ok (cons_cons within_ok (cons_cons rwithin_ok cons_nil))))))))))))) (by kernel_rfl) ?_
  intro ds fr
  unfold zjoinsS
  split
  · rename_i n ra rb
    refine kmp (q := Good (topN (IntKind.i64.wrap ((IntKind.u64.wrap n).tmod (7 : Int)))) (false, topF (IntKind.i64.wrap ((IntKind.u64.wrap n).tmod (7 : Int)))) ∧
 topN (IntKind.i64.wrap ((IntKind.u64.wrap n).tmod (7 : Int))) = topN (IntKind.i64.wrap ((IntKind.u64.wrap n).tmod (7 : Int))) ∧
 false = false ∧
 (∀ (o : Nat),
 o < (49 : Nat) → topF (IntKind.i64.wrap ((IntKind.u64.wrap n).tmod (7 : Int))) o = topF (IntKind.i64.wrap ((IntKind.u64.wrap n).tmod (7 : Int))) o) ∧
 (Good (topN (IntKind.i64.wrap ((IntKind.u64.wrap n).tmod (7 : Int)))) (false, topF (IntKind.i64.wrap ((IntKind.u64.wrap n).tmod (7 : Int)))) ∧
 topN (IntKind.i64.wrap ((IntKind.u64.wrap n).tmod (7 : Int))) = topN (IntKind.i64.wrap ((IntKind.u64.wrap n).tmod (7 : Int))) ∧
 false = false ∧
 (∀ (o : Nat),
 o < (49 : Nat) →
 topF (IntKind.i64.wrap ((IntKind.u64.wrap n).tmod (7 : Int))) o = topF (IntKind.i64.wrap ((IntKind.u64.wrap n).tmod (7 : Int))) o) ∧
 ∃ (i : Bool),
 True ∧
 IntKind.i64.wrap ((IntKind.u64.wrap n).tmod (7 : Int)) = kz n ∧
 true = true ∧
 true = true ∧
 topN (IntKind.i64.wrap ((IntKind.u64.wrap n).tmod (7 : Int))) = kz n ∧
 (actsZ (topN (IntKind.i64.wrap ((IntKind.u64.wrap n).tmod (7 : Int)))) ra
 (false, topF (IntKind.i64.wrap ((IntKind.u64.wrap n).tmod (7 : Int))))).fst =
 (ZA (kz n) ra).fst ∧
 (∀ (o : Nat),
 o < nat_lit 49 →
 (actsZ (topN (IntKind.i64.wrap ((IntKind.u64.wrap n).tmod (7 : Int)))) ra
 (false, topF (IntKind.i64.wrap ((IntKind.u64.wrap n).tmod (7 : Int))))).snd
 o =
 (ZA (kz n) ra).snd o) ∧
 topN (IntKind.i64.wrap ((IntKind.u64.wrap n).tmod (7 : Int))) = kz n ∧
 (actsZ (topN (IntKind.i64.wrap ((IntKind.u64.wrap n).tmod (7 : Int)))) ra
 (false, topF (IntKind.i64.wrap ((IntKind.u64.wrap n).tmod (7 : Int))))).fst =
 (ZA (kz n) ra).fst ∧
 (∀ (o : Nat),
 o < nat_lit 49 →
 (actsZ (topN (IntKind.i64.wrap ((IntKind.u64.wrap n).tmod (7 : Int)))) ra
 (false, topF (IntKind.i64.wrap ((IntKind.u64.wrap n).tmod (7 : Int))))).snd
 o =
 (ZA (kz n) ra).snd o) ∧
 topN (IntKind.i64.wrap ((IntKind.u64.wrap n).tmod (7 : Int))) = kz n ∧
 (actsZ (topN (IntKind.i64.wrap ((IntKind.u64.wrap n).tmod (7 : Int)))) rb
 (false, topF (IntKind.i64.wrap ((IntKind.u64.wrap n).tmod (7 : Int))))).fst =
 (ZA (kz n) rb).fst ∧
 (∀ (o : Nat),
 o < nat_lit 49 →
 (actsZ (topN (IntKind.i64.wrap ((IntKind.u64.wrap n).tmod (7 : Int)))) rb
 (false, topF (IntKind.i64.wrap ((IntKind.u64.wrap n).tmod (7 : Int))))).snd
 o =
 (ZA (kz n) rb).snd o) ∧
 topN (IntKind.i64.wrap ((IntKind.u64.wrap n).tmod (7 : Int))) = kz n ∧
 (actsZ (topN (IntKind.i64.wrap ((IntKind.u64.wrap n).tmod (7 : Int)))) rb
 (false, topF (IntKind.i64.wrap ((IntKind.u64.wrap n).tmod (7 : Int))))).fst =
 (ZA (kz n) rb).fst ∧
 ∀ (o : Nat),
 o < nat_lit 49 →
 (actsZ (topN (IntKind.i64.wrap ((IntKind.u64.wrap n).tmod (7 : Int)))) rb
 (false, topF (IntKind.i64.wrap ((IntKind.u64.wrap n).tmod (7 : Int))))).snd
 o =
 (ZA (kz n) rb).snd o) ∧
 ∀ (i : Bool),
 True →
 ((!true || !true || !true) = true → false = true) ∧
 ((!true || !true || !true) = false →
 (Sm (ZA (kz n) ra).snd ∧
 Sm (ZA (kz n) rb).snd ∧
 ∃ (i : Bool),
 True ∧
 kz n = kz n ∧
 kz n = kz n ∧
 jnC (kz n) (ZA (kz n) ra).fst (kz n) (ZA (kz n) rb).fst = (jnZ (kz n) (ZA (kz n) ra) (ZA (kz n) rb)).fst ∧
 (∀ (o : Nat),
 o < nat_lit 49 →
 jnF (kz n) (ZA (kz n) ra).fst (ZA (kz n) ra).snd (kz n) (ZA (kz n) rb).fst (ZA (kz n) rb).snd o =
 (jnZ (kz n) (ZA (kz n) ra) (ZA (kz n) rb)).snd o) ∧
 kz n = kz n ∧
 widC (kz n) (ZA (kz n) ra).fst (ZA (kz n) ra).snd (kz n) (ZA (kz n) rb).fst (ZA (kz n) rb).snd =
 (wdZ (kz n) (ZA (kz n) ra) (ZA (kz n) rb)).fst ∧
 (∀ (o : Nat),
 o < nat_lit 49 →
 widF (kz n) (ZA (kz n) ra).fst (ZA (kz n) ra).snd (kz n) (ZA (kz n) rb).fst (ZA (kz n) rb).snd o =
 (wdZ (kz n) (ZA (kz n) ra) (ZA (kz n) rb)).snd o) ∧
 kz n = kz n ∧
 (ZA (kz n) ra).fst = (ZA (kz n) ra).fst ∧
 (∀ (o : Nat), o < nat_lit 49 → (ZA (kz n) ra).snd o = (ZA (kz n) ra).snd o) ∧
 kz n = kz n ∧
 (ZA (kz n) ra).fst = (ZA (kz n) ra).fst ∧
 (∀ (o : Nat), o < nat_lit 49 → (ZA (kz n) ra).snd o = (ZA (kz n) ra).snd o) ∧
 kz n = kz n ∧
 (ZA (kz n) rb).fst = (ZA (kz n) rb).fst ∧
 (∀ (o : Nat), o < nat_lit 49 → (ZA (kz n) rb).snd o = (ZA (kz n) rb).snd o) ∧
 kz n = kz n ∧
 (ZA (kz n) rb).fst = (ZA (kz n) rb).fst ∧
 ∀ (o : Nat), o < nat_lit 49 → (ZA (kz n) rb).snd o = (ZA (kz n) rb).snd o) ∧
 ∀ (i : Bool),
 True →
 kz n = kz n ∧
 Good (kz n) ((ZA (kz n) ra).fst, (ZA (kz n) ra).snd) ∧
 Good (kz n) ((ZA (kz n) rb).fst, (ZA (kz n) rb).snd) ∧
 ((kz n == kz n &&
 ((jnZ (kz n) (ZA (kz n) ra) (ZA (kz n) rb)).fst ==
 (jnZ (kz n) ((ZA (kz n) ra).fst, (ZA (kz n) ra).snd) ((ZA (kz n) rb).fst, (ZA (kz n) rb).snd)).fst &&
 (decide
 (∀ (o : Nat),
 o < (49 : Nat) →
 (jnZ (kz n) (ZA (kz n) ra) (ZA (kz n) rb)).snd o =
 (jnZ (kz n) ((ZA (kz n) ra).fst, (ZA (kz n) ra).snd) ((ZA (kz n) rb).fst, (ZA (kz n) rb).snd)).snd o) &&
 true))) =
 true ∧
 True →
 kz n = kz n) ∧
 ((kz n == kz n &&
 ((jnZ (kz n) (ZA (kz n) ra) (ZA (kz n) rb)).fst ==
 (jnZ (kz n) ((ZA (kz n) ra).fst, (ZA (kz n) ra).snd) ((ZA (kz n) rb).fst, (ZA (kz n) rb).snd)).fst &&
 (decide
 (∀ (o : Nat),
 o < (49 : Nat) →
 (jnZ (kz n) (ZA (kz n) ra) (ZA (kz n) rb)).snd o =
 (jnZ (kz n) ((ZA (kz n) ra).fst, (ZA (kz n) ra).snd) ((ZA (kz n) rb).fst, (ZA (kz n) rb).snd)).snd o) &&
 true))) =
 true ∧
 True →
 Good (kz n) ((ZA (kz n) ra).fst, (ZA (kz n) ra).snd)) ∧
 ((kz n == kz n &&
 ((jnZ (kz n) (ZA (kz n) ra) (ZA (kz n) rb)).fst ==
 (jnZ (kz n) ((ZA (kz n) ra).fst, (ZA (kz n) ra).snd) ((ZA (kz n) rb).fst, (ZA (kz n) rb).snd)).fst &&
 (decide
 (∀ (o : Nat),
 o < (49 : Nat) →
 (jnZ (kz n) (ZA (kz n) ra) (ZA (kz n) rb)).snd o =
 (jnZ (kz n) ((ZA (kz n) ra).fst, (ZA (kz n) ra).snd) ((ZA (kz n) rb).fst, (ZA (kz n) rb).snd)).snd o) &&
 true))) =
 true ∧
 True →
 Good (kz n) ((ZA (kz n) rb).fst, (ZA (kz n) rb).snd)) ∧
 ((kz n == kz n &&
 ((jnZ (kz n) (ZA (kz n) ra) (ZA (kz n) rb)).fst ==
 (jnZ (kz n) ((ZA (kz n) ra).fst, (ZA (kz n) ra).snd)
 ((ZA (kz n) rb).fst, (ZA (kz n) rb).snd)).fst &&
 (decide
 (∀ (o : Nat),
 o < (49 : Nat) →
 (jnZ (kz n) (ZA (kz n) ra) (ZA (kz n) rb)).snd o =
 (jnZ (kz n) ((ZA (kz n) ra).fst, (ZA (kz n) ra).snd)
 ((ZA (kz n) rb).fst, (ZA (kz n) rb).snd)).snd
 o) &&
 true)) &&
 (kz n == kz n &&
 ((wdZ (kz n) (ZA (kz n) ra) (ZA (kz n) rb)).fst ==
 (wdZ (kz n) ((ZA (kz n) ra).fst, (ZA (kz n) ra).snd)
 ((ZA (kz n) rb).fst, (ZA (kz n) rb).snd)).fst &&
 (decide
 (∀ (o : Nat),
 o < (49 : Nat) →
 (wdZ (kz n) (ZA (kz n) ra) (ZA (kz n) rb)).snd o =
 (wdZ (kz n) ((ZA (kz n) ra).fst, (ZA (kz n) ra).snd)
 ((ZA (kz n) rb).fst, (ZA (kz n) rb).snd)).snd
 o) &&
 true))) &&
 rightP (kz n) (jnZ (kz n) (ZA (kz n) ra) (ZA (kz n) rb)).fst
 (jnZ (kz n) (ZA (kz n) ra) (ZA (kz n) rb)).snd &&
 rightP (kz n) (wdZ (kz n) (ZA (kz n) ra) (ZA (kz n) rb)).fst
 (wdZ (kz n) (ZA (kz n) ra) (ZA (kz n) rb)).snd &&
 withinP (kz n) (ZA (kz n) ra).fst (ZA (kz n) ra).snd (kz n) (jnZ (kz n) (ZA (kz n) ra) (ZA (kz n) rb)).fst
 (jnZ (kz n) (ZA (kz n) ra) (ZA (kz n) rb)).snd &&
 withinP (kz n) (ZA (kz n) rb).fst (ZA (kz n) rb).snd (kz n) (jnZ (kz n) (ZA (kz n) ra) (ZA (kz n) rb)).fst
 (jnZ (kz n) (ZA (kz n) ra) (ZA (kz n) rb)).snd &&
 withinP (kz n) (jnZ (kz n) (ZA (kz n) ra) (ZA (kz n) rb)).fst (jnZ (kz n) (ZA (kz n) ra) (ZA (kz n) rb)).snd
 (kz n) (wdZ (kz n) (ZA (kz n) ra) (ZA (kz n) rb)).fst (wdZ (kz n) (ZA (kz n) ra) (ZA (kz n) rb)).snd) =
 true ∧
 True →
 (0 : Int) ≤ kz n ∧ kz n ≤ (6 : Int)) ∧
 ((kz n == kz n &&
 ((jnZ (kz n) (ZA (kz n) ra) (ZA (kz n) rb)).fst ==
 (jnZ (kz n) ((ZA (kz n) ra).fst, (ZA (kz n) ra).snd)
 ((ZA (kz n) rb).fst, (ZA (kz n) rb).snd)).fst &&
 (decide
 (∀ (o : Nat),
 o < (49 : Nat) →
 (jnZ (kz n) (ZA (kz n) ra) (ZA (kz n) rb)).snd o =
 (jnZ (kz n) ((ZA (kz n) ra).fst, (ZA (kz n) ra).snd)
 ((ZA (kz n) rb).fst, (ZA (kz n) rb).snd)).snd
 o) &&
 true)) &&
 (kz n == kz n &&
 ((wdZ (kz n) (ZA (kz n) ra) (ZA (kz n) rb)).fst ==
 (wdZ (kz n) ((ZA (kz n) ra).fst, (ZA (kz n) ra).snd)
 ((ZA (kz n) rb).fst, (ZA (kz n) rb).snd)).fst &&
 (decide
 (∀ (o : Nat),
 o < (49 : Nat) →
 (wdZ (kz n) (ZA (kz n) ra) (ZA (kz n) rb)).snd o =
 (wdZ (kz n) ((ZA (kz n) ra).fst, (ZA (kz n) ra).snd)
 ((ZA (kz n) rb).fst, (ZA (kz n) rb).snd)).snd
 o) &&
 true))) &&
 rightP (kz n) (jnZ (kz n) (ZA (kz n) ra) (ZA (kz n) rb)).fst
 (jnZ (kz n) (ZA (kz n) ra) (ZA (kz n) rb)).snd &&
 rightP (kz n) (wdZ (kz n) (ZA (kz n) ra) (ZA (kz n) rb)).fst
 (wdZ (kz n) (ZA (kz n) ra) (ZA (kz n) rb)).snd &&
 withinP (kz n) (ZA (kz n) ra).fst (ZA (kz n) ra).snd (kz n) (jnZ (kz n) (ZA (kz n) ra) (ZA (kz n) rb)).fst
 (jnZ (kz n) (ZA (kz n) ra) (ZA (kz n) rb)).snd &&
 withinP (kz n) (ZA (kz n) rb).fst (ZA (kz n) rb).snd (kz n) (jnZ (kz n) (ZA (kz n) ra) (ZA (kz n) rb)).fst
 (jnZ (kz n) (ZA (kz n) ra) (ZA (kz n) rb)).snd &&
 withinP (kz n) (jnZ (kz n) (ZA (kz n) ra) (ZA (kz n) rb)).fst (jnZ (kz n) (ZA (kz n) ra) (ZA (kz n) rb)).snd
 (kz n) (wdZ (kz n) (ZA (kz n) ra) (ZA (kz n) rb)).fst (wdZ (kz n) (ZA (kz n) ra) (ZA (kz n) rb)).snd) =
 true ∧
 True →
 kz n = kz n) ∧
 ((kz n == kz n &&
 ((jnZ (kz n) (ZA (kz n) ra) (ZA (kz n) rb)).fst ==
 (jnZ (kz n) ((ZA (kz n) ra).fst, (ZA (kz n) ra).snd)
 ((ZA (kz n) rb).fst, (ZA (kz n) rb).snd)).fst &&
 (decide
 (∀ (o : Nat),
 o < (49 : Nat) →
 (jnZ (kz n) (ZA (kz n) ra) (ZA (kz n) rb)).snd o =
 (jnZ (kz n) ((ZA (kz n) ra).fst, (ZA (kz n) ra).snd)
 ((ZA (kz n) rb).fst, (ZA (kz n) rb).snd)).snd
 o) &&
 true)) &&
 (kz n == kz n &&
 ((wdZ (kz n) (ZA (kz n) ra) (ZA (kz n) rb)).fst ==
 (wdZ (kz n) ((ZA (kz n) ra).fst, (ZA (kz n) ra).snd)
 ((ZA (kz n) rb).fst, (ZA (kz n) rb).snd)).fst &&
 (decide
 (∀ (o : Nat),
 o < (49 : Nat) →
 (wdZ (kz n) (ZA (kz n) ra) (ZA (kz n) rb)).snd o =
 (wdZ (kz n) ((ZA (kz n) ra).fst, (ZA (kz n) ra).snd)
 ((ZA (kz n) rb).fst, (ZA (kz n) rb).snd)).snd
 o) &&
 true))) &&
 rightP (kz n) (jnZ (kz n) (ZA (kz n) ra) (ZA (kz n) rb)).fst
 (jnZ (kz n) (ZA (kz n) ra) (ZA (kz n) rb)).snd &&
 rightP (kz n) (wdZ (kz n) (ZA (kz n) ra) (ZA (kz n) rb)).fst
 (wdZ (kz n) (ZA (kz n) ra) (ZA (kz n) rb)).snd &&
 withinP (kz n) (ZA (kz n) ra).fst (ZA (kz n) ra).snd (kz n)
 (jnZ (kz n) (ZA (kz n) ra) (ZA (kz n) rb)).fst (jnZ (kz n) (ZA (kz n) ra) (ZA (kz n) rb)).snd &&
 withinP (kz n) (ZA (kz n) rb).fst (ZA (kz n) rb).snd (kz n)
 (jnZ (kz n) (ZA (kz n) ra) (ZA (kz n) rb)).fst (jnZ (kz n) (ZA (kz n) ra) (ZA (kz n) rb)).snd &&
 withinP (kz n) (jnZ (kz n) (ZA (kz n) ra) (ZA (kz n) rb)).fst
 (jnZ (kz n) (ZA (kz n) ra) (ZA (kz n) rb)).snd (kz n) (wdZ (kz n) (ZA (kz n) ra) (ZA (kz n) rb)).fst
 (wdZ (kz n) (ZA (kz n) ra) (ZA (kz n) rb)).snd &&
 withinP (kz n) (ZA (kz n) ra).fst (ZA (kz n) ra).snd (kz n) (ZA (kz n) rb).fst (ZA (kz n) rb).snd ==
 withinP (kz n) (ZA (kz n) ra).fst (ZA (kz n) ra).snd (kz n) (ZA (kz n) rb).fst (ZA (kz n) rb).snd &&
 (kz n == kz n &&
 (jnC (kz n) (ZA (kz n) ra).fst (topN ((IntKind.i64.wrap (kz n + (1 : Int))).tmod (7 : Int))) false ==
 (ZA (kz n) ra).fst &&
 (decide
 (∀ (o : Nat),
 o < (49 : Nat) →
 jnF (kz n) (ZA (kz n) ra).fst (ZA (kz n) ra).snd
 (topN ((IntKind.i64.wrap (kz n + (1 : Int))).tmod (7 : Int))) false
 (topF ((IntKind.i64.wrap (kz n + (1 : Int))).tmod (7 : Int))) o =
 (ZA (kz n) ra).snd o) &&
 true)))) =
 true ∧
 True →
 Sm (ZA (kz n) ra).snd) ∧
 ((kz n == kz n &&
 ((jnZ (kz n) (ZA (kz n) ra) (ZA (kz n) rb)).fst ==
 (jnZ (kz n) ((ZA (kz n) ra).fst, (ZA (kz n) ra).snd)
 ((ZA (kz n) rb).fst, (ZA (kz n) rb).snd)).fst &&
 (decide
 (∀ (o : Nat),
 o < (49 : Nat) →
 (jnZ (kz n) (ZA (kz n) ra) (ZA (kz n) rb)).snd o =
 (jnZ (kz n) ((ZA (kz n) ra).fst, (ZA (kz n) ra).snd)
 ((ZA (kz n) rb).fst, (ZA (kz n) rb).snd)).snd
 o) &&
 true)) &&
 (kz n == kz n &&
 ((wdZ (kz n) (ZA (kz n) ra) (ZA (kz n) rb)).fst ==
 (wdZ (kz n) ((ZA (kz n) ra).fst, (ZA (kz n) ra).snd)
 ((ZA (kz n) rb).fst, (ZA (kz n) rb).snd)).fst &&
 (decide
 (∀ (o : Nat),
 o < (49 : Nat) →
 (wdZ (kz n) (ZA (kz n) ra) (ZA (kz n) rb)).snd o =
 (wdZ (kz n) ((ZA (kz n) ra).fst, (ZA (kz n) ra).snd)
 ((ZA (kz n) rb).fst, (ZA (kz n) rb).snd)).snd
 o) &&
 true))) &&
 rightP (kz n) (jnZ (kz n) (ZA (kz n) ra) (ZA (kz n) rb)).fst
 (jnZ (kz n) (ZA (kz n) ra) (ZA (kz n) rb)).snd &&
 rightP (kz n) (wdZ (kz n) (ZA (kz n) ra) (ZA (kz n) rb)).fst
 (wdZ (kz n) (ZA (kz n) ra) (ZA (kz n) rb)).snd &&
 withinP (kz n) (ZA (kz n) ra).fst (ZA (kz n) ra).snd (kz n)
 (jnZ (kz n) (ZA (kz n) ra) (ZA (kz n) rb)).fst (jnZ (kz n) (ZA (kz n) ra) (ZA (kz n) rb)).snd &&
 withinP (kz n) (ZA (kz n) rb).fst (ZA (kz n) rb).snd (kz n)
 (jnZ (kz n) (ZA (kz n) ra) (ZA (kz n) rb)).fst (jnZ (kz n) (ZA (kz n) ra) (ZA (kz n) rb)).snd &&
 withinP (kz n) (jnZ (kz n) (ZA (kz n) ra) (ZA (kz n) rb)).fst
 (jnZ (kz n) (ZA (kz n) ra) (ZA (kz n) rb)).snd (kz n) (wdZ (kz n) (ZA (kz n) ra) (ZA (kz n) rb)).fst
 (wdZ (kz n) (ZA (kz n) ra) (ZA (kz n) rb)).snd &&
 withinP (kz n) (ZA (kz n) ra).fst (ZA (kz n) ra).snd (kz n) (ZA (kz n) rb).fst (ZA (kz n) rb).snd ==
 withinP (kz n) (ZA (kz n) ra).fst (ZA (kz n) ra).snd (kz n) (ZA (kz n) rb).fst (ZA (kz n) rb).snd &&
 (kz n == kz n &&
 (jnC (kz n) (ZA (kz n) ra).fst (topN ((IntKind.i64.wrap (kz n + (1 : Int))).tmod (7 : Int))) false ==
 (ZA (kz n) ra).fst &&
 (decide
 (∀ (o : Nat),
 o < (49 : Nat) →
 jnF (kz n) (ZA (kz n) ra).fst (ZA (kz n) ra).snd
 (topN ((IntKind.i64.wrap (kz n + (1 : Int))).tmod (7 : Int))) false
 (topF ((IntKind.i64.wrap (kz n + (1 : Int))).tmod (7 : Int))) o =
 (ZA (kz n) ra).snd o) &&
 true)))) =
 true ∧
 True →
 Sm (topF ((IntKind.i64.wrap (kz n + (1 : Int))).tmod (7 : Int)))) ∧
 (kz n == kz n &&
 ((jnZ (kz n) (ZA (kz n) ra) (ZA (kz n) rb)).fst ==
 (jnZ (kz n) ((ZA (kz n) ra).fst, (ZA (kz n) ra).snd)
 ((ZA (kz n) rb).fst, (ZA (kz n) rb).snd)).fst &&
 (decide
 (∀ (o : Nat),
 o < (49 : Nat) →
 (jnZ (kz n) (ZA (kz n) ra) (ZA (kz n) rb)).snd o =
 (jnZ (kz n) ((ZA (kz n) ra).fst, (ZA (kz n) ra).snd)
 ((ZA (kz n) rb).fst, (ZA (kz n) rb).snd)).snd
 o) &&
 true)) &&
 (kz n == kz n &&
 ((wdZ (kz n) (ZA (kz n) ra) (ZA (kz n) rb)).fst ==
 (wdZ (kz n) ((ZA (kz n) ra).fst, (ZA (kz n) ra).snd)
 ((ZA (kz n) rb).fst, (ZA (kz n) rb).snd)).fst &&
 (decide
 (∀ (o : Nat),
 o < (49 : Nat) →
 (wdZ (kz n) (ZA (kz n) ra) (ZA (kz n) rb)).snd o =
 (wdZ (kz n) ((ZA (kz n) ra).fst, (ZA (kz n) ra).snd)
 ((ZA (kz n) rb).fst, (ZA (kz n) rb).snd)).snd
 o) &&
 true))) &&
 rightP (kz n) (jnZ (kz n) (ZA (kz n) ra) (ZA (kz n) rb)).fst
 (jnZ (kz n) (ZA (kz n) ra) (ZA (kz n) rb)).snd &&
 rightP (kz n) (wdZ (kz n) (ZA (kz n) ra) (ZA (kz n) rb)).fst
 (wdZ (kz n) (ZA (kz n) ra) (ZA (kz n) rb)).snd &&
 withinP (kz n) (ZA (kz n) ra).fst (ZA (kz n) ra).snd (kz n)
 (jnZ (kz n) (ZA (kz n) ra) (ZA (kz n) rb)).fst (jnZ (kz n) (ZA (kz n) ra) (ZA (kz n) rb)).snd &&
 withinP (kz n) (ZA (kz n) rb).fst (ZA (kz n) rb).snd (kz n)
 (jnZ (kz n) (ZA (kz n) ra) (ZA (kz n) rb)).fst (jnZ (kz n) (ZA (kz n) ra) (ZA (kz n) rb)).snd &&
 withinP (kz n) (jnZ (kz n) (ZA (kz n) ra) (ZA (kz n) rb)).fst
 (jnZ (kz n) (ZA (kz n) ra) (ZA (kz n) rb)).snd (kz n) (wdZ (kz n) (ZA (kz n) ra) (ZA (kz n) rb)).fst
 (wdZ (kz n) (ZA (kz n) ra) (ZA (kz n) rb)).snd &&
 withinP (kz n) (ZA (kz n) ra).fst (ZA (kz n) ra).snd (kz n) (ZA (kz n) rb).fst (ZA (kz n) rb).snd ==
 withinP (kz n) (ZA (kz n) ra).fst (ZA (kz n) ra).snd (kz n) (ZA (kz n) rb).fst (ZA (kz n) rb).snd &&
 (kz n == kz n &&
 (jnC (kz n) (ZA (kz n) ra).fst (topN ((IntKind.i64.wrap (kz n + (1 : Int))).tmod (7 : Int))) false ==
 (ZA (kz n) ra).fst &&
 (decide
 (∀ (o : Nat),
 o < (49 : Nat) →
 jnF (kz n) (ZA (kz n) ra).fst (ZA (kz n) ra).snd
 (topN ((IntKind.i64.wrap (kz n + (1 : Int))).tmod (7 : Int))) false
 (topF ((IntKind.i64.wrap (kz n + (1 : Int))).tmod (7 : Int))) o =
 (ZA (kz n) ra).snd o) &&
 true))) &&
 (kz n == kz n &&
 (widC (kz n) (ZA (kz n) ra).fst (ZA (kz n) ra).snd
 (topN ((IntKind.i64.wrap (kz n + (1 : Int))).tmod (7 : Int))) false
 (topF ((IntKind.i64.wrap (kz n + (1 : Int))).tmod (7 : Int))) ==
 (ZA (kz n) ra).fst &&
 (decide
 (∀ (o : Nat),
 o < (49 : Nat) →
 widF (kz n) (ZA (kz n) ra).fst (ZA (kz n) ra).snd
 (topN ((IntKind.i64.wrap (kz n + (1 : Int))).tmod (7 : Int))) false
 (topF ((IntKind.i64.wrap (kz n + (1 : Int))).tmod (7 : Int))) o =
 (ZA (kz n) ra).snd o) &&
 true))) &&
 !withinP (kz n) (ZA (kz n) ra).fst (ZA (kz n) ra).snd
 (topN ((IntKind.i64.wrap (kz n + (1 : Int))).tmod (7 : Int))) false
 (topF ((IntKind.i64.wrap (kz n + (1 : Int))).tmod (7 : Int)))) =
 true)) (by kernel_rfl) ?_
    simp only [raw0, true_and, and_true, implies_true, Nat.mul_one, Int.toNat_natCast, c7, decide_eq_true_eq, decide_eq_false_iff_not, Nat.zero_add, forall_const, Nat.le_eq, at_iff, bne_iff_ne, bne_eq_false_iff_eq, and_self, and_self_left, Nat.reduceAdd]
    have hk := kz_in n
    have htop : topN (kz n) = kz n := by unfold topN; omega
    have gT := good_top (kz n)
    have gA := ZA_good hk ra
    have gB := ZA_good hk rb
    have ek : IntKind.i64.wrap ((IntKind.u64.wrap n).tmod 7) = kz n := rfl
    rw [htop] at gT
    rw [ek, htop]
    have eA : ∀ r, actsZ (kz n) r (false, topF (kz n)) = ZA (kz n) r := fun _ => rfl
    rw [eA, eA]
    generalize ZA (kz n) ra = a at *
    generalize ZA (kz n) rb = b at *
    have hm : topN ((IntKind.i64.wrap (kz n + 1)).tmod 7) ≠ kz n := by
      rw [wr _ (by omega), Int.tmod_eq_emod_of_nonneg (by omega)]
      unfold topN; omega
    have sT := (good_top ((IntKind.i64.wrap (kz n + 1)).tmod 7)).sm
    dsimp only at sT
    generalize topF ((IntKind.i64.wrap (kz n + 1)).tmod 7) = tf at *
    generalize topN ((IntKind.i64.wrap (kz n + 1)).tmod 7) = m at *
    refine ⟨gT, ⟨gT, true, rfl, rfl, rfl, fun _ _ => rfl, rfl, rfl, fun _ _ => rfl, rfl, rfl, fun _ _ => rfl, rfl, rfl, fun _ _ => rfl⟩, (fun h => by simp at h), fun _ => ⟨⟨gA.sm, gB.sm, true, rfl, fun _ _ => rfl, rfl, fun _ _ => rfl⟩, ?_⟩⟩
    have gJ := good_jn gA gB
    have gW := good_wd gA gB
    have r1 := good_right gJ
    have r2 := good_right gW
    have w1 := wi_iff.2 (wi_jl (n := kz n) a b)
    have w2 := wi_iff.2 (wi_jr (n := kz n) a b)
    have w0 := wi_wl gA gB
    have w3 := wi_iff.2 (wi_j w0.1 w0.2)
    have bm : (kz n != m) = true := by simpa using Ne.symm hm
    have j1 : jnC (kz n) a.1 m false = a.1 := if_pos (by rw [bm]; simp)
    have j2 : jnF (kz n) a.1 a.2 m false tf = a.2 := funext fun o => if_pos (by rw [bm]; simp)
    have v1 : widC (kz n) a.1 a.2 m false tf = a.1 := if_pos (by rw [bm]; simp)
    have v2 : widF (kz n) a.1 a.2 m false tf = a.2 := funext fun o => if_pos (by rw [bm]; simp)
    have q1 : withinP (kz n) a.1 a.2 m false tf = false := (if_pos (by rw [bm]; simp)).trans (by
      have : (kz n == m) = false := by simpa using Ne.symm hm
      rw [this]; rfl)
    have ea : ((a.1, a.2) : Zs) = a := rfl
    have eb : ((b.1, b.2) : Zs) = b := rfl
    have sA := gA.sm
    have sB := gB.sm
    have sJ := gJ.sm
    have sW := gW.sm
    simp only [ea, eb, j1, j2, v1, v2, q1, w1, w2, w3, r1, r2, hk, gA, gB, sA, sT]
    simp
  · trivial
end Go.Proofs.Ytmdoafhohflhdaa.Sx.Z
