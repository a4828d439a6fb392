/-
  ZoneNobody's contract.
-/
import Derived.Test.YtmdoafhohflhdaaYh
namespace Go.Proofs.Ytmdoafhohflhdaa.Sx.Z
open Go.RowKit
theorem bnd_out {n x y b : Int} {z : Zs} (h : isEndP n x = false ∨ isEndP n y = false) : bndC n z.1 z.2 x y b = z.1 ∧ bndF n z.1 z.2 x y b = z.2 := by
  rcases bnd_cases n x y b z with ⟨e, _⟩ | ⟨_, h1, h2, _⟩
  · exact ⟨congrArg Prod.fst e, congrArg Prod.snd e⟩
  · rcases h with h | h
    · rw [h] at h1; cases h1
    · rw [h] at h2; cases h2
theorem fg_out {n x : Int} {z : Zs} (h : isVarP n x = false) : forgetF n z.1 z.2 x = z.2 := by
  funext o
  unfold forgetF
  rw [if_pos (by rw [h]; simp)]
theorem cp_out {n x y b : Int} {z : Zs} (h : isVarP n x = false ∨ isEndP n y = false) : copyZ n x y b z = z := by
  unfold copyZ
  rw [if_pos]
  rcases h with h | h <;> rw [h] <;> simp
def znobodyS : FSpec := fun ds _ => match ds with
  | [.i n, .d row, .i x] => some { val := .one (.sc (.bool (.sym (true)))), vc := [] }
  | _ => none
def znobodyC : Con := con [iA, .sc (.rows 44), iA] znobodyS
theorem znobody_ok : ConOK Try.prog 7 znobodyC := by
  refine fn_ob tt_ok mixed Try.func7 rfl (fun _ _ => by kernel_rfl) (A := fun ds => ⟨fun _ => Cons.of [(12, topC), (13, rtopC), (18, applyC), (21, boundC), (22, forgetC), (23, copyC), (16, copiesC), (19, zitvC), (20, inoneC)], fun _ => none, fun k => match k, ds with | 6, [.i n, .d row, .i x] => some { ι := Int, pre := fun _ q => q ≤ -1 ∨ kz n ≤ q, μ := fun _ => 0, st := fun s q => famR s [(7, .one (.sc (.int .i64 (.sym (kz n))))), (10, .one (.sc (.bool (.sym (true))))), (11, .one (.sc (.int .i64 (.sym (q)))))] [8] [(idOf s 8, .own 27 (zs (.sym (kz n)) (.sym (ZA (kz n) row).1) (ZA (kz n) row).2))] [] } | 8, [.i n, .d row, .i x] => some { ι := Int, pre := fun _ q => q < -1 ∨ kz n ≤ q, μ := fun _ => 0, st := fun s q => famR s [(7, .one (.sc (.int .i64 (.sym (kz n))))), (10, .one (.sc (.bool (.sym (true))))), (11, .one (.sc (.int .i64 (.sym (q)))))] [8] [(idOf s 8, .own 27 (zs (.sym (kz n)) (.sym (ZA (kz n) row).1) (ZA (kz n) row).2))] [] } | _, _ => none⟩) (fun _ _ => (cons_cons top_ok (cons_cons rtop_ok (cons_cons apply_ok (cons_cons bound_ok (cons_cons forget_ok (cons_cons copy_ok (cons_cons copies_ok (cons_cons zitv_ok (cons_cons inone_ok cons_nil)))))))))) (by kernel_rfl) ?_
  intro ds fr
  unfold znobodyS
  split
  · rename_i n row x
    refine kmp (q := Good (topN (IntKind.i64.wrap ((IntKind.u64.wrap n).tmod (7 : Int)))) (false, topF (IntKind.i64.wrap ((IntKind.u64.wrap n).tmod (7 : Int)))) ∧
 topN (IntKind.i64.wrap ((IntKind.u64.wrap n).tmod (7 : Int))) = topN (IntKind.i64.wrap ((IntKind.u64.wrap n).tmod (7 : Int))) ∧
 false = false ∧
 (∀ (o : Nat),
 o < (49 : Nat) → topF (IntKind.i64.wrap ((IntKind.u64.wrap n).tmod (7 : Int))) o = topF (IntKind.i64.wrap ((IntKind.u64.wrap n).tmod (7 : Int))) o) ∧
 (((decide (x ≥ (0 : Int)) && decide (x < IntKind.i64.wrap ((IntKind.u64.wrap n).tmod (7 : Int)))) = true →
 ∃ (i : Int),
 (i ≤ (-1 : Int) ∨ kz n ≤ i) ∧
 IntKind.i64.wrap ((IntKind.u64.wrap n).tmod (7 : Int)) = kz n ∧
 true = true ∧
 IntKind.i64.wrap (IntKind.i64.wrap ((IntKind.u64.wrap n).tmod (7 : Int)) + x) = i ∧
 topN (IntKind.i64.wrap ((IntKind.u64.wrap n).tmod (7 : Int))) = kz n ∧
 (actsZ (topN (IntKind.i64.wrap ((IntKind.u64.wrap n).tmod (7 : Int)))) row
 (false, topF (IntKind.i64.wrap ((IntKind.u64.wrap n).tmod (7 : Int))))).fst =
 (ZA (kz n) row).fst ∧
 ∀ (o : Nat),
 o < nat_lit 49 →
 (actsZ (topN (IntKind.i64.wrap ((IntKind.u64.wrap n).tmod (7 : Int)))) row
 (false, topF (IntKind.i64.wrap ((IntKind.u64.wrap n).tmod (7 : Int))))).snd
 o =
 (ZA (kz n) row).snd o) ∧
 ((decide (x ≥ (0 : Int)) && decide (x < IntKind.i64.wrap ((IntKind.u64.wrap n).tmod (7 : Int)))) = false →
 ∃ (i : Int),
 (i ≤ (-1 : Int) ∨ kz n ≤ i) ∧
 IntKind.i64.wrap ((IntKind.u64.wrap n).tmod (7 : Int)) = kz n ∧
 true = true ∧
 x = i ∧
 topN (IntKind.i64.wrap ((IntKind.u64.wrap n).tmod (7 : Int))) = kz n ∧
 (actsZ (topN (IntKind.i64.wrap ((IntKind.u64.wrap n).tmod (7 : Int)))) row
 (false, topF (IntKind.i64.wrap ((IntKind.u64.wrap n).tmod (7 : Int))))).fst =
 (ZA (kz n) row).fst ∧
 ∀ (o : Nat),
 o < nat_lit 49 →
 (actsZ (topN (IntKind.i64.wrap ((IntKind.u64.wrap n).tmod (7 : Int)))) row
 (false, topF (IntKind.i64.wrap ((IntKind.u64.wrap n).tmod (7 : Int))))).snd
 o =
 (ZA (kz n) row).snd o)) ∧
 ∀ (i : Int),
 i ≤ (-1 : Int) ∨ kz n ≤ i →
 (((i == (-1 : Int)) = true →
 ∃ (i : Int),
 (i < (-1 : Int) ∨ kz n ≤ i) ∧
 kz n = kz n ∧
 true = true ∧
 (-2 : Int) = i ∧
 kz n = kz n ∧
 (ZA (kz n) row).fst = (ZA (kz n) row).fst ∧ ∀ (o : Nat), o < nat_lit 49 → (ZA (kz n) row).snd o = (ZA (kz n) row).snd o) ∧
 ((i == (-1 : Int)) = false →
 ∃ (i_1 : Int),
 (i_1 < (-1 : Int) ∨ kz n ≤ i_1) ∧
 kz n = kz n ∧
 true = true ∧
 i = i_1 ∧
 kz n = kz n ∧
 (ZA (kz n) row).fst = (ZA (kz n) row).fst ∧ ∀ (o : Nat), o < nat_lit 49 → (ZA (kz n) row).snd o = (ZA (kz n) row).snd o)) ∧
 ∀ (i : Int),
 i < (-1 : Int) ∨ kz n ≤ i →
 ((true && true) = true ∧ True → Sm (ZA (kz n) row).snd) ∧
 ((true && true &&
 (kz n == kz n &&
 (bndC (kz n) (ZA (kz n) row).fst (ZA (kz n) row).snd i (-1 : Int) (3 : Int) == (ZA (kz n) row).fst &&
 (decide
 (∀ (o : Nat),
 o < (49 : Nat) →
 bndF (kz n) (ZA (kz n) row).fst (ZA (kz n) row).snd i (-1 : Int) (3 : Int) o = (ZA (kz n) row).snd o) &&
 true)))) =
 true ∧
 True →
 Sm (ZA (kz n) row).snd) ∧
 ((true && true &&
 (kz n == kz n &&
 (bndC (kz n) (ZA (kz n) row).fst (ZA (kz n) row).snd i (-1 : Int) (3 : Int) == (ZA (kz n) row).fst &&
 (decide
 (∀ (o : Nat),
 o < (49 : Nat) →
 bndF (kz n) (ZA (kz n) row).fst (ZA (kz n) row).snd i (-1 : Int) (3 : Int) o = (ZA (kz n) row).snd o) &&
 true))) &&
 (kz n == kz n &&
 (bndC (kz n) (ZA (kz n) row).fst (ZA (kz n) row).snd (-1 : Int) i (3 : Int) == (ZA (kz n) row).fst &&
 (decide
 (∀ (o : Nat),
 o < (49 : Nat) →
 bndF (kz n) (ZA (kz n) row).fst (ZA (kz n) row).snd (-1 : Int) i (3 : Int) o = (ZA (kz n) row).snd o) &&
 true)))) =
 true ∧
 True →
 Sm (ZA (kz n) row).snd) ∧
 ((true && true &&
 (kz n == kz n &&
 (bndC (kz n) (ZA (kz n) row).fst (ZA (kz n) row).snd i (-1 : Int) (3 : Int) == (ZA (kz n) row).fst &&
 (decide
 (∀ (o : Nat),
 o < (49 : Nat) →
 bndF (kz n) (ZA (kz n) row).fst (ZA (kz n) row).snd i (-1 : Int) (3 : Int) o = (ZA (kz n) row).snd o) &&
 true))) &&
 (kz n == kz n &&
 (bndC (kz n) (ZA (kz n) row).fst (ZA (kz n) row).snd (-1 : Int) i (3 : Int) == (ZA (kz n) row).fst &&
 (decide
 (∀ (o : Nat),
 o < (49 : Nat) →
 bndF (kz n) (ZA (kz n) row).fst (ZA (kz n) row).snd (-1 : Int) i (3 : Int) o = (ZA (kz n) row).snd o) &&
 true))) &&
 (kz n == kz n &&
 ((ZA (kz n) row).fst == (ZA (kz n) row).fst &&
 (decide
 (∀ (o : Nat),
 o < (49 : Nat) → forgetF (kz n) (ZA (kz n) row).fst (ZA (kz n) row).snd i o = (ZA (kz n) row).snd o) &&
 true)))) =
 true ∧
 True →
 Sm (ZA (kz n) row).snd) ∧
 ((true && true &&
 (kz n == kz n &&
 (bndC (kz n) (ZA (kz n) row).fst (ZA (kz n) row).snd i (-1 : Int) (3 : Int) == (ZA (kz n) row).fst &&
 (decide
 (∀ (o : Nat),
 o < (49 : Nat) →
 bndF (kz n) (ZA (kz n) row).fst (ZA (kz n) row).snd i (-1 : Int) (3 : Int) o = (ZA (kz n) row).snd o) &&
 true))) &&
 (kz n == kz n &&
 (bndC (kz n) (ZA (kz n) row).fst (ZA (kz n) row).snd (-1 : Int) i (3 : Int) == (ZA (kz n) row).fst &&
 (decide
 (∀ (o : Nat),
 o < (49 : Nat) →
 bndF (kz n) (ZA (kz n) row).fst (ZA (kz n) row).snd (-1 : Int) i (3 : Int) o = (ZA (kz n) row).snd o) &&
 true))) &&
 (kz n == kz n &&
 ((ZA (kz n) row).fst == (ZA (kz n) row).fst &&
 (decide
 (∀ (o : Nat),
 o < (49 : Nat) → forgetF (kz n) (ZA (kz n) row).fst (ZA (kz n) row).snd i o = (ZA (kz n) row).snd o) &&
 true))) &&
 (kz n == kz n &&
 ((ZA (kz n) row).fst == (ZA (kz n) row).fst &&
 (decide
 (∀ (o : Nat),
 o < (49 : Nat) → forgetF (kz n) (ZA (kz n) row).fst (ZA (kz n) row).snd (-1 : Int) o = (ZA (kz n) row).snd o) &&
 true)))) =
 true ∧
 True →
 Good (kz n) ((ZA (kz n) row).fst, (ZA (kz n) row).snd)) ∧
 ((true && true &&
 (kz n == kz n &&
 (bndC (kz n) (ZA (kz n) row).fst (ZA (kz n) row).snd i (-1 : Int) (3 : Int) == (ZA (kz n) row).fst &&
 (decide
 (∀ (o : Nat),
 o < (49 : Nat) →
 bndF (kz n) (ZA (kz n) row).fst (ZA (kz n) row).snd i (-1 : Int) (3 : Int) o =
 (ZA (kz n) row).snd o) &&
 true))) &&
 (kz n == kz n &&
 (bndC (kz n) (ZA (kz n) row).fst (ZA (kz n) row).snd (-1 : Int) i (3 : Int) == (ZA (kz n) row).fst &&
 (decide
 (∀ (o : Nat),
 o < (49 : Nat) →
 bndF (kz n) (ZA (kz n) row).fst (ZA (kz n) row).snd (-1 : Int) i (3 : Int) o =
 (ZA (kz n) row).snd o) &&
 true))) &&
 (kz n == kz n &&
 ((ZA (kz n) row).fst == (ZA (kz n) row).fst &&
 (decide
 (∀ (o : Nat),
 o < (49 : Nat) → forgetF (kz n) (ZA (kz n) row).fst (ZA (kz n) row).snd i o = (ZA (kz n) row).snd o) &&
 true))) &&
 (kz n == kz n &&
 ((ZA (kz n) row).fst == (ZA (kz n) row).fst &&
 (decide
 (∀ (o : Nat),
 o < (49 : Nat) →
 forgetF (kz n) (ZA (kz n) row).fst (ZA (kz n) row).snd (-1 : Int) o = (ZA (kz n) row).snd o) &&
 true))) &&
 (kz n == kz n &&
 ((copyZ (kz n) i (-1 : Int) (3 : Int) ((ZA (kz n) row).fst, (ZA (kz n) row).snd)).fst == (ZA (kz n) row).fst &&
 (decide
 (∀ (o : Nat),
 o < (49 : Nat) →
 (copyZ (kz n) i (-1 : Int) (3 : Int) ((ZA (kz n) row).fst, (ZA (kz n) row).snd)).snd o =
 (ZA (kz n) row).snd o) &&
 true)))) =
 true ∧
 True →
 Good (kz n) ((ZA (kz n) row).fst, (ZA (kz n) row).snd)) ∧
 ((kz n == (0 : Int)) = false ∧
 (true && true &&
 (kz n == kz n &&
 (bndC (kz n) (ZA (kz n) row).fst (ZA (kz n) row).snd i (-1 : Int) (3 : Int) == (ZA (kz n) row).fst &&
 (decide
 (∀ (o : Nat),
 o < (49 : Nat) →
 bndF (kz n) (ZA (kz n) row).fst (ZA (kz n) row).snd i (-1 : Int) (3 : Int) o =
 (ZA (kz n) row).snd o) &&
 true))) &&
 (kz n == kz n &&
 (bndC (kz n) (ZA (kz n) row).fst (ZA (kz n) row).snd (-1 : Int) i (3 : Int) == (ZA (kz n) row).fst &&
 (decide
 (∀ (o : Nat),
 o < (49 : Nat) →
 bndF (kz n) (ZA (kz n) row).fst (ZA (kz n) row).snd (-1 : Int) i (3 : Int) o =
 (ZA (kz n) row).snd o) &&
 true))) &&
 (kz n == kz n &&
 ((ZA (kz n) row).fst == (ZA (kz n) row).fst &&
 (decide
 (∀ (o : Nat),
 o < (49 : Nat) →
 forgetF (kz n) (ZA (kz n) row).fst (ZA (kz n) row).snd i o = (ZA (kz n) row).snd o) &&
 true))) &&
 (kz n == kz n &&
 ((ZA (kz n) row).fst == (ZA (kz n) row).fst &&
 (decide
 (∀ (o : Nat),
 o < (49 : Nat) →
 forgetF (kz n) (ZA (kz n) row).fst (ZA (kz n) row).snd (-1 : Int) o = (ZA (kz n) row).snd o) &&
 true))) &&
 (kz n == kz n &&
 ((copyZ (kz n) i (-1 : Int) (3 : Int) ((ZA (kz n) row).fst, (ZA (kz n) row).snd)).fst == (ZA (kz n) row).fst &&
 (decide
 (∀ (o : Nat),
 o < (49 : Nat) →
 (copyZ (kz n) i (-1 : Int) (3 : Int) ((ZA (kz n) row).fst, (ZA (kz n) row).snd)).snd o =
 (ZA (kz n) row).snd o) &&
 true))) &&
 (kz n == kz n &&
 ((copyZ (kz n) (-1 : Int) (-1 : Int) (3 : Int) ((ZA (kz n) row).fst, (ZA (kz n) row).snd)).fst ==
 (ZA (kz n) row).fst &&
 (decide
 (∀ (o : Nat),
 o < (49 : Nat) →
 (copyZ (kz n) (-1 : Int) (-1 : Int) (3 : Int) ((ZA (kz n) row).fst, (ZA (kz n) row).snd)).snd o =
 (ZA (kz n) row).snd o) &&
 true)))) =
 true ∧
 True →
 Good (kz n) ((ZA (kz n) row).fst, (ZA (kz n) row).snd)) ∧
 ((true && true &&
 (kz n == kz n &&
 (bndC (kz n) (ZA (kz n) row).fst (ZA (kz n) row).snd i (-1 : Int) (3 : Int) == (ZA (kz n) row).fst &&
 (decide
 (∀ (o : Nat),
 o < (49 : Nat) →
 bndF (kz n) (ZA (kz n) row).fst (ZA (kz n) row).snd i (-1 : Int) (3 : Int) o =
 (ZA (kz n) row).snd o) &&
 true))) &&
 (kz n == kz n &&
 (bndC (kz n) (ZA (kz n) row).fst (ZA (kz n) row).snd (-1 : Int) i (3 : Int) == (ZA (kz n) row).fst &&
 (decide
 (∀ (o : Nat),
 o < (49 : Nat) →
 bndF (kz n) (ZA (kz n) row).fst (ZA (kz n) row).snd (-1 : Int) i (3 : Int) o =
 (ZA (kz n) row).snd o) &&
 true))) &&
 (kz n == kz n &&
 ((ZA (kz n) row).fst == (ZA (kz n) row).fst &&
 (decide
 (∀ (o : Nat),
 o < (49 : Nat) →
 forgetF (kz n) (ZA (kz n) row).fst (ZA (kz n) row).snd i o = (ZA (kz n) row).snd o) &&
 true))) &&
 (kz n == kz n &&
 ((ZA (kz n) row).fst == (ZA (kz n) row).fst &&
 (decide
 (∀ (o : Nat),
 o < (49 : Nat) →
 forgetF (kz n) (ZA (kz n) row).fst (ZA (kz n) row).snd (-1 : Int) o = (ZA (kz n) row).snd o) &&
 true))) &&
 (kz n == kz n &&
 ((copyZ (kz n) i (-1 : Int) (3 : Int) ((ZA (kz n) row).fst, (ZA (kz n) row).snd)).fst ==
 (ZA (kz n) row).fst &&
 (decide
 (∀ (o : Nat),
 o < (49 : Nat) →
 (copyZ (kz n) i (-1 : Int) (3 : Int) ((ZA (kz n) row).fst, (ZA (kz n) row).snd)).snd o =
 (ZA (kz n) row).snd o) &&
 true))) &&
 (kz n == kz n &&
 ((copyZ (kz n) (-1 : Int) (-1 : Int) (3 : Int) ((ZA (kz n) row).fst, (ZA (kz n) row).snd)).fst ==
 (ZA (kz n) row).fst &&
 (decide
 (∀ (o : Nat),
 o < (49 : Nat) →
 (copyZ (kz n) (-1 : Int) (-1 : Int) (3 : Int) ((ZA (kz n) row).fst, (ZA (kz n) row).snd)).snd o =
 (ZA (kz n) row).snd o) &&
 true))) &&
 (kz n == (0 : Int) ||
 kz n == kz n &&
 ((copyZ (kz n) (0 : Int) i (3 : Int) ((ZA (kz n) row).fst, (ZA (kz n) row).snd)).fst == (ZA (kz n) row).fst &&
 (decide
 (∀ (o : Nat),
 o < (49 : Nat) →
 (copyZ (kz n) (0 : Int) i (3 : Int) ((ZA (kz n) row).fst, (ZA (kz n) row).snd)).snd o =
 (ZA (kz n) row).snd o) &&
 true)))) =
 true ∧
 True →
 Sm (ZA (kz n) row).snd) ∧
 (true && true &&
 (kz n == kz n &&
 (bndC (kz n) (ZA (kz n) row).fst (ZA (kz n) row).snd i (-1 : Int) (3 : Int) == (ZA (kz n) row).fst &&
 (decide
 (∀ (o : Nat),
 o < (49 : Nat) →
 bndF (kz n) (ZA (kz n) row).fst (ZA (kz n) row).snd i (-1 : Int) (3 : Int) o =
 (ZA (kz n) row).snd o) &&
 true))) &&
 (kz n == kz n &&
 (bndC (kz n) (ZA (kz n) row).fst (ZA (kz n) row).snd (-1 : Int) i (3 : Int) == (ZA (kz n) row).fst &&
 (decide
 (∀ (o : Nat),
 o < (49 : Nat) →
 bndF (kz n) (ZA (kz n) row).fst (ZA (kz n) row).snd (-1 : Int) i (3 : Int) o =
 (ZA (kz n) row).snd o) &&
 true))) &&
 (kz n == kz n &&
 ((ZA (kz n) row).fst == (ZA (kz n) row).fst &&
 (decide
 (∀ (o : Nat),
 o < (49 : Nat) →
 forgetF (kz n) (ZA (kz n) row).fst (ZA (kz n) row).snd i o = (ZA (kz n) row).snd o) &&
 true))) &&
 (kz n == kz n &&
 ((ZA (kz n) row).fst == (ZA (kz n) row).fst &&
 (decide
 (∀ (o : Nat),
 o < (49 : Nat) →
 forgetF (kz n) (ZA (kz n) row).fst (ZA (kz n) row).snd (-1 : Int) o = (ZA (kz n) row).snd o) &&
 true))) &&
 (kz n == kz n &&
 ((copyZ (kz n) i (-1 : Int) (3 : Int) ((ZA (kz n) row).fst, (ZA (kz n) row).snd)).fst == (ZA (kz n) row).fst &&
 (decide
 (∀ (o : Nat),
 o < (49 : Nat) →
 (copyZ (kz n) i (-1 : Int) (3 : Int) ((ZA (kz n) row).fst, (ZA (kz n) row).snd)).snd o =
 (ZA (kz n) row).snd o) &&
 true))) &&
 (kz n == kz n &&
 ((copyZ (kz n) (-1 : Int) (-1 : Int) (3 : Int) ((ZA (kz n) row).fst, (ZA (kz n) row).snd)).fst ==
 (ZA (kz n) row).fst &&
 (decide
 (∀ (o : Nat),
 o < (49 : Nat) →
 (copyZ (kz n) (-1 : Int) (-1 : Int) (3 : Int) ((ZA (kz n) row).fst, (ZA (kz n) row).snd)).snd o =
 (ZA (kz n) row).snd o) &&
 true))) &&
 (kz n == (0 : Int) ||
 kz n == kz n &&
 ((copyZ (kz n) (0 : Int) i (3 : Int) ((ZA (kz n) row).fst, (ZA (kz n) row).snd)).fst == (ZA (kz n) row).fst &&
 (decide
 (∀ (o : Nat),
 o < (49 : Nat) →
 (copyZ (kz n) (0 : Int) i (3 : Int) ((ZA (kz n) row).fst, (ZA (kz n) row).snd)).snd o =
 (ZA (kz n) row).snd o) &&
 true))) &&
 (itvLo (kz n) (ZA (kz n) row).fst (ZA (kz n) row).snd i == (1 : Int) &&
 (itvHi (kz n) (ZA (kz n) row).fst (ZA (kz n) row).snd i == (0 : Int) && true))) =
 true) (by kernel_rfl) ?_
    simp only [raw0, true_and, and_true, implies_true, Nat.mul_one, Int.toNat_natCast, c7, decide_eq_true_eq, decide_eq_false_iff_not, Nat.zero_add, forall_const, Nat.le_eq, at_iff, bne_iff_ne, bne_eq_false_iff_eq, and_self, and_self_left, Nat.reduceAdd]
    have hk := kz_in n
    have htop : topN (kz n) = kz n := by unfold topN; omega
    have gT := good_top (kz n)
    have gA := ZA_good hk row
    have ek : IntKind.i64.wrap ((IntKind.u64.wrap n).tmod 7) = kz n := rfl
    rw [htop] at gT
    rw [ek, htop]
    have eA : actsZ (kz n) row (false, topF (kz n)) = ZA (kz n) row := rfl
    rw [eA]
    generalize ZA (kz n) row = z at *
    refine ⟨gT, ⟨fun h => ⟨IntKind.i64.wrap (kz n + x), ?_, rfl, rfl, rfl, rfl, fun _ _ => rfl⟩, fun h => ⟨x, ?_, rfl, rfl, rfl, rfl, fun _ _ => rfl⟩⟩, fun q hq => ⟨⟨fun h => ⟨-2, .inl (by omega), rfl⟩, fun h => ⟨q, ?_, rfl⟩⟩, fun v hv => ?_⟩⟩
    · simp only [Bool.and_eq_true, decide_eq_true_eq] at h
      rw [wr _ (by omega)]; omega
    · simp only [Bool.and_eq_false_iff, decide_eq_false_iff_not] at h; omega
    · have : q ≠ -1 := by simpa using h
      omega
    · have hrn := rows_n hk
      have v1 : isVarP (kz n) v = false := by
        unfold isVarP; rw [hrn, Bool.and_eq_false_iff, decide_eq_false_iff_not, decide_eq_false_iff_not]; omega
      have v2 : isEndP (kz n) v = false := by
        unfold isEndP; rw [v1, Bool.or_false]; simp; omega
      have v3 : isVarP (kz n) (-1) = false := by
        unfold isVarP; rw [Bool.and_eq_false_iff, decide_eq_false_iff_not]; omega
      obtain ⟨a1, a2⟩ := bnd_out (y := -1) (b := 3) (z := z) (.inl v2)
      obtain ⟨b1, b2⟩ := bnd_out (x := -1) (b := 3) (z := z) (.inr v2)
      have c1 := fg_out (z := z) v1
      have c2 := fg_out (z := z) v3
      have d1 := cp_out (y := -1) (b := 3) (z := z) (.inl v1)
      have d2 := cp_out (y := -1) (b := 3) (z := z) (.inl v3)
      have d3 := cp_out (x := 0) (b := 3) (z := z) (.inr v2)
      have s1 := gA.sm
      have g1 : Good (kz n) (z.1, z.2) := gA
      have l1 : itvLo (kz n) z.1 z.2 v = 1 := if_pos (by rw [v1]; simp)
      have l2 : itvHi (kz n) z.1 z.2 v = 0 := if_pos (by rw [v1]; simp)
      have d1' : copyZ (kz n) v (-1) 3 (z.1, z.2) = z := d1
      have d2' : copyZ (kz n) (-1) (-1) 3 (z.1, z.2) = z := d2
      have d3' : copyZ (kz n) 0 v 3 (z.1, z.2) = z := d3
      simp only [a1, a2, b1, b2, c1, c2, d1', d2', d3', l1, l2, s1, g1]
      simp
  · trivial
end Go.Proofs.Ytmdoafhohflhdaa.Sx.Z
