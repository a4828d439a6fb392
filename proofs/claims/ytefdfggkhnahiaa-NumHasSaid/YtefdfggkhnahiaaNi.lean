/-
  NumHas' contract.
-/
import Derived.Test.YtefdfggkhnahiaaNq
namespace Go.Proofs.Ytefdfggkhnahiaa.Sx.Z
open Go.RowKit
theorem of_of {p q c : Int} (h : p ≤ c ∧ c ≤ q) (r : -2147483648 ≤ c ∧ c ≤ 2147483647) : ofLo (ofLo p q) (ofHi p q) ≤ c ∧ c ≤ ofHi (ofLo p q) (ofHi p q) := by
  unfold ofLo ofHi
  (repeat' split) <;> omega
theorem px4 (x : Int) : 0 ≤ IntKind.i64.wrap ((IntKind.u64.wrap x).tmod 4) ∧ IntKind.i64.wrap ((IntKind.u64.wrap x).tmod 4) < 4 := by
  have h := u64_in x
  have h2 := tmod_in h.1 (show (0 : Int) < 4 by omega)
  rw [wr _ (by omega)]; exact h2
theorem px5 (x : Int) : 0 ≤ IntKind.i64.wrap ((IntKind.u64.wrap x).tmod 5) ∧ IntKind.i64.wrap ((IntKind.u64.wrap x).tmod 5) < 5 := by
  have h := u64_in x
  have h2 := tmod_in h.1 (show (0 : Int) < 5 by omega)
  rw [wr _ (by omega)]; exact h2
def nnhasS : FSpec := fun ds _ => match ds with
  | [.f f, .d row] => some { val := .one (.sc (.bool (.sym (true)))), vc := [∀ o, o < 4 → -2147483648 ≤ f o ∧ f o ≤ 2147483647] }
  | _ => none
def nnhasC : Con := con [.agg [.ints .i32 4], .sc (.rows 50)] nnhasS
theorem nnhas_ok : ConOK Try.prog 5 nnhasC := by
  refine fn_ob tt_ok mixed Try.func5 rfl (fun _ _ => by kernel_rfl) (A := fun ds => ⟨fun _ => Cons.of [(11, ntopC), (27, bendC), (26, normC), (29, iofC), (28, nsetC), (30, nmeetC), (31, ncopyC), (32, nboundC), (33, nhasC), (15, meetsC)], fun k => match k, ds with | 4, [.f f, .d row] => some { ι := Nat × Zs × (Nat → Int), pre := fun _ q => Good 4 q.2.1 ∧ Pt 4 q.2.1 (vz q.2.2), μ := fun q => 20 - q.1, st := fun s q => famR s [(7, .one (.sc (.int .i64 (.sym ((q.1 : Nat)))))), (6, .one (.sc (.osl 3 (idOf s 6) (.lit 0) (.sym (4)))))] [1, 5] [(idOf s 6, .orow 3 (rowI 4 q.2.2)), (idOf s 5, .own 30 ([.c (.bool (.sym (q.2.1 : Zs).1)), .c (.rows 53 (itD 4 4 (q.2.1))), .c (.int .i64 (.sym 4)), .c (.bool (.sym (q.2.1 : Zs).1)), .ints .i64 (.lit 49) (q.2.1 : Zs).2]))] [] } | _, _ => none, fun k => match k, ds with | 8, [.f f, .d row] => some { ι := Int × Int, pre := fun _ q => isVarP 4 q.1 = true ∧ isEndP 4 q.2 = true, μ := fun _ => 0, st := fun s q => famR s [(9, .one (.sc (.int .i64 (.sym (q.1))))), (10, .one (.sc (.int .i64 (.sym (q.2)))))] [1, 5, 6, 7, 8] [] [5, 6, 8] } | 9, [.f f, .d row] => some { ι := Int, pre := fun _ q => -999 ≤ q ∧ q ≤ 999, μ := fun _ => 0, st := fun s q => famR s [(11, .one (.sc (.int .i64 (.sym (q)))))] [1, 5, 6, 7, 8, 9, 10] [] [5, 6, 8] } | 10, [.f f, .d row] => some { ι := Int × Int, pre := fun _ q => (-2147483648 ≤ q.1 ∧ q.1 ≤ 2147483647) ∧ (-2147483648 ≤ q.2 ∧ q.2 ≤ 2147483647), μ := fun _ => 0, st := fun s q => famR s [(12, .one (.sc (.ptr (s.nx - 1) (.lit 0))))] [1, 5, 6, 7, 8, 9, 10, 11] [(s.nx - 1, .own 36 ([.c (.int .i64 (.sym q.1)), .c (.int .i64 (.sym q.2))]))] [5, 6, 8] } | 13, [.f f, .d row] => some { ι := Int, pre := fun s q => q = if slotI s 10 ≥ 0 then ((dOf s 6).el (slotI s 10).toNat 0).toI else 0, μ := fun _ => 0, st := fun s q => famR s [(13, .one (.sc (.int .i64 (.sym (q)))))] [1, 5, 6, 7, 8, 9, 10, 11, 12] [] [5, 6, 8, 12] } | 28, [.f f, .d row] => some { ι := Zs × (Nat → Int), pre := fun _ q => Good 4 q.1 ∧ Pt 4 q.1 (vz q.2), μ := fun _ => 0, st := fun s q => famR s [] [1, 5, 6, 7] [(idOf s 6, .orow 3 (rowI 4 q.2)), (idOf s 5, .own 30 ([.c (.bool (.sym (q.1 : Zs).1)), .c (.rows 53 (itD 4 4 (q.1))), .c (.int .i64 (.sym 4)), .c (.bool (.sym (q.1 : Zs).1)), .ints .i64 (.lit 49) (q.1 : Zs).2]))] [] } | _, _ => none⟩) (fun _ _ => (cons_cons ntop_ok (cons_cons bend_ok (cons_cons norm_ok (cons_cons iof_ok (cons_cons nset_ok (cons_cons nmeet_ok (cons_cons ncopy_ok (cons_cons nbound_ok (cons_cons nhas_ok (cons_cons meets_ok cons_nil))))))))))) (by kernel_rfl) ?_
  intro ds fr
  unfold nnhasS
  split
  · rename_i f row
    refine kmp (q := (∀ (o : Nat), o < (4 : Nat) → (-2147483648 : Int) ≤ f o ∧ f o ≤ (2147483647 : Int)) →
 (∃ (i : Nat × Zs × (Nat → Int)),
 (Good (4 : Int) i.snd.fst ∧ Pt (4 : Int) i.snd.fst (vz i.snd.snd)) ∧
 (0 : Int) = (↑i.fst : Int) ∧
 nat_lit 4 = nat_lit 4 ∧
 row.rows = row.rows ∧
 [[D.i (IntKind.i64.wrap (f (nat_lit 0 + nat_lit 0 * (1 : Nat))))], [D.i (IntKind.i64.wrap (f (nat_lit 0 + nat_lit 1 * (1 : Nat))))],
 [D.i (IntKind.i64.wrap (f (nat_lit 0 + nat_lit 2 * (1 : Nat))))], [D.i (IntKind.i64.wrap (f (nat_lit 0 + nat_lit 3 * (1 : Nat))))]] =
 List.map (fun (j : Nat) => [D.i (i.snd.snd j)]) (List.range (4 : Nat)) ∧
 false = i.snd.fst.fst ∧
 List.map
 (fun (j : Nat) =>
 [D.i (itvLo (topN (4 : Int)) false (topF (4 : Int)) (↑j : Int)), D.i (itvHi (topN (4 : Int)) false (topF (4 : Int)) (↑j : Int))])
 (List.range (topN (4 : Int)).toNat) =
 List.map
 (fun (j : Nat) =>
 [D.i (itvLo (4 : Int) i.snd.fst.fst i.snd.fst.snd (↑j : Int)), D.i (itvHi (4 : Int) i.snd.fst.fst i.snd.fst.snd (↑j : Int))])
 (List.range (4 : Nat)) ∧
 topN (4 : Int) = (4 : Int) ∧ false = i.snd.fst.fst ∧ ∀ (o : Nat), o < nat_lit 49 → topF (4 : Int) o = i.snd.fst.snd o) ∧
 ∀ (i : Nat × Zs × (Nat → Int)),
 Good (4 : Int) i.snd.fst ∧ Pt (4 : Int) i.snd.fst (vz i.snd.snd) →
 ((decide ((↑i.fst : Int) < (↑row.len : Int)) && decide ((↑i.fst : Int) < (16 : Int))) = true →
 ((0 : Int) ≤ (↑i.fst : Int) ∧ (↑i.fst : Int) < (↑row.len : Int)) ∧
 (∃ (i_1 : Int × Int),
 (isVarP (4 : Int) i_1.fst = true ∧ isEndP (4 : Int) i_1.snd = true) ∧
 IntKind.i64.wrap ((IntKind.u64.wrap (row.el (↑i.fst : Int).toNat ((0 : Nat) + (1 : Nat))).toI).tmod (4 : Int)) = i_1.fst ∧
 IntKind.i64.wrap
 (IntKind.i64.wrap ((IntKind.u64.wrap (row.el (↑i.fst : Int).toNat ((0 : Nat) + (1 : Nat) + (1 : Nat))).toI).tmod (5 : Int)) -
 (1 : Int)) =
 i_1.snd ∧
 row.rows = row.rows ∧
 nat_lit 4 = nat_lit 4 ∧
 (↑i.fst : Int) = (↑i.fst : Int) ∧
 i.snd.fst.fst = i.snd.fst.fst ∧
 List.map
 (fun (j : Nat) =>
 [D.i (itvLo (4 : Int) i.snd.fst.fst i.snd.fst.snd (↑j : Int)),
 D.i (itvHi (4 : Int) i.snd.fst.fst i.snd.fst.snd (↑j : Int))])
 (List.range (4 : Nat)) =
 List.map
 (fun (j : Nat) =>
 [D.i (itvLo (4 : Int) i.snd.fst.fst i.snd.fst.snd (↑j : Int)),
 D.i (itvHi (4 : Int) i.snd.fst.fst i.snd.fst.snd (↑j : Int))])
 (List.range (4 : Nat)) ∧
 (4 : Int) = (4 : Int) ∧
 i.snd.fst.fst = i.snd.fst.fst ∧
 (∀ (o : Nat), o < nat_lit 49 → i.snd.fst.snd o = i.snd.fst.snd o) ∧
 List.map (fun (j : Nat) => [D.i (i.snd.snd j)]) (List.range (4 : Nat)) =
 List.map (fun (j : Nat) => [D.i (i.snd.snd j)]) (List.range (4 : Nat)) ∧
 (row.el (↑i.fst : Int).toNat (0 : Nat)).toI = (row.el (↑i.fst : Int).toNat (0 : Nat)).toI ∧
 (row.el (↑i.fst : Int).toNat ((0 : Nat) + (1 : Nat))).toI =
 (row.el (↑i.fst : Int).toNat ((0 : Nat) + (1 : Nat))).toI ∧
 (row.el (↑i.fst : Int).toNat ((0 : Nat) + (1 : Nat) + (1 : Nat))).toI =
 (row.el (↑i.fst : Int).toNat ((0 : Nat) + (1 : Nat) + (1 : Nat))).toI ∧
 (row.el (↑i.fst : Int).toNat ((0 : Nat) + (1 : Nat) + (1 : Nat) + (1 : Nat))).toI =
 (row.el (↑i.fst : Int).toNat ((0 : Nat) + (1 : Nat) + (1 : Nat) + (1 : Nat))).toI ∧
 (row.el (↑i.fst : Int).toNat ((0 : Nat) + (1 : Nat) + (1 : Nat) + (1 : Nat) + (1 : Nat))).toI =
 (row.el (↑i.fst : Int).toNat ((0 : Nat) + (1 : Nat) + (1 : Nat) + (1 : Nat) + (1 : Nat))).toI ∧
 (row.el (↑i.fst : Int).toNat ((0 : Nat) + (1 : Nat) + (1 : Nat) + (1 : Nat) + (1 : Nat) + (1 : Nat))).toI =
 (row.el (↑i.fst : Int).toNat
 ((0 : Nat) + (1 : Nat) + (1 : Nat) + (1 : Nat) + (1 : Nat) + (1 : Nat))).toI) ∧
 ∀ (i_1 : Int × Int),
 isVarP (4 : Int) i_1.fst = true ∧ isEndP (4 : Int) i_1.snd = true →
 (∃ (i_2 : Int),
 ((-999 : Int) ≤ i_2 ∧ i_2 ≤ (999 : Int)) ∧
 (IntKind.i64.wrap (IntKind.i32.wrap (row.el (↑i.fst : Int).toNat ((0 : Nat) + (1 : Nat) + (1 : Nat) + (1 : Nat))).toI)).tmod
 (1000 : Int) =
 i_2 ∧
 row.rows = row.rows ∧
 nat_lit 4 = nat_lit 4 ∧
 (↑i.fst : Int) = (↑i.fst : Int) ∧
 i_1.fst = i_1.fst ∧
 i_1.snd = i_1.snd ∧
 i.snd.fst.fst = i.snd.fst.fst ∧
 List.map
 (fun (j : Nat) =>
 [D.i (itvLo (4 : Int) i.snd.fst.fst i.snd.fst.snd (↑j : Int)),
 D.i (itvHi (4 : Int) i.snd.fst.fst i.snd.fst.snd (↑j : Int))])
 (List.range (4 : Nat)) =
 List.map
 (fun (j : Nat) =>
 [D.i (itvLo (4 : Int) i.snd.fst.fst i.snd.fst.snd (↑j : Int)),
 D.i (itvHi (4 : Int) i.snd.fst.fst i.snd.fst.snd (↑j : Int))])
 (List.range (4 : Nat)) ∧
 (4 : Int) = (4 : Int) ∧
 i.snd.fst.fst = i.snd.fst.fst ∧
 (∀ (o : Nat), o < nat_lit 49 → i.snd.fst.snd o = i.snd.fst.snd o) ∧
 List.map (fun (j : Nat) => [D.i (i.snd.snd j)]) (List.range (4 : Nat)) =
 List.map (fun (j : Nat) => [D.i (i.snd.snd j)]) (List.range (4 : Nat)) ∧
 (row.el (↑i.fst : Int).toNat (0 : Nat)).toI = (row.el (↑i.fst : Int).toNat (0 : Nat)).toI ∧
 (row.el (↑i.fst : Int).toNat ((0 : Nat) + (1 : Nat))).toI =
 (row.el (↑i.fst : Int).toNat ((0 : Nat) + (1 : Nat))).toI ∧
 (row.el (↑i.fst : Int).toNat ((0 : Nat) + (1 : Nat) + (1 : Nat))).toI =
 (row.el (↑i.fst : Int).toNat ((0 : Nat) + (1 : Nat) + (1 : Nat))).toI ∧
 (row.el (↑i.fst : Int).toNat ((0 : Nat) + (1 : Nat) + (1 : Nat) + (1 : Nat))).toI =
 (row.el (↑i.fst : Int).toNat ((0 : Nat) + (1 : Nat) + (1 : Nat) + (1 : Nat))).toI ∧
 (row.el (↑i.fst : Int).toNat ((0 : Nat) + (1 : Nat) + (1 : Nat) + (1 : Nat) + (1 : Nat))).toI =
 (row.el (↑i.fst : Int).toNat ((0 : Nat) + (1 : Nat) + (1 : Nat) + (1 : Nat) + (1 : Nat))).toI ∧
 (row.el (↑i.fst : Int).toNat
 ((0 : Nat) + (1 : Nat) + (1 : Nat) + (1 : Nat) + (1 : Nat) + (1 : Nat))).toI =
 (row.el (↑i.fst : Int).toNat
 ((0 : Nat) + (1 : Nat) + (1 : Nat) + (1 : Nat) + (1 : Nat) + (1 : Nat))).toI) ∧
 ∀ (i_2 : Int),
 (-999 : Int) ≤ i_2 ∧ i_2 ≤ (999 : Int) →
 (∃ (i_3 : Int × Int),
 (((-2147483648 : Int) ≤ i_3.fst ∧ i_3.fst ≤ (2147483647 : Int)) ∧ (-2147483648 : Int) ≤ i_3.snd ∧ i_3.snd ≤ (2147483647 : Int)) ∧
 row.rows = row.rows ∧
 nat_lit 4 = nat_lit 4 ∧
 (↑i.fst : Int) = (↑i.fst : Int) ∧
 i_1.fst = i_1.fst ∧
 i_1.snd = i_1.snd ∧
 i_2 = i_2 ∧
 normLo (bend (row.el (↑i.fst : Int).toNat ((0 : Nat) + (1 : Nat) + (1 : Nat) + (1 : Nat) + (1 : Nat))).toI)
 (bend
 (row.el (↑i.fst : Int).toNat ((0 : Nat) + (1 : Nat) + (1 : Nat) + (1 : Nat) + (1 : Nat) + (1 : Nat))).toI) =
 i_3.fst ∧
 normHi (bend (row.el (↑i.fst : Int).toNat ((0 : Nat) + (1 : Nat) + (1 : Nat) + (1 : Nat) + (1 : Nat))).toI)
 (bend
 (row.el (↑i.fst : Int).toNat
 ((0 : Nat) + (1 : Nat) + (1 : Nat) + (1 : Nat) + (1 : Nat) + (1 : Nat))).toI) =
 i_3.snd ∧
 i.snd.fst.fst = i.snd.fst.fst ∧
 List.map
 (fun (j : Nat) =>
 [D.i (itvLo (4 : Int) i.snd.fst.fst i.snd.fst.snd (↑j : Int)),
 D.i (itvHi (4 : Int) i.snd.fst.fst i.snd.fst.snd (↑j : Int))])
 (List.range (4 : Nat)) =
 List.map
 (fun (j : Nat) =>
 [D.i (itvLo (4 : Int) i.snd.fst.fst i.snd.fst.snd (↑j : Int)),
 D.i (itvHi (4 : Int) i.snd.fst.fst i.snd.fst.snd (↑j : Int))])
 (List.range (4 : Nat)) ∧
 (4 : Int) = (4 : Int) ∧
 i.snd.fst.fst = i.snd.fst.fst ∧
 (∀ (o : Nat), o < nat_lit 49 → i.snd.fst.snd o = i.snd.fst.snd o) ∧
 List.map (fun (j : Nat) => [D.i (i.snd.snd j)]) (List.range (4 : Nat)) =
 List.map (fun (j : Nat) => [D.i (i.snd.snd j)]) (List.range (4 : Nat)) ∧
 (row.el (↑i.fst : Int).toNat (0 : Nat)).toI = (row.el (↑i.fst : Int).toNat (0 : Nat)).toI ∧
 (row.el (↑i.fst : Int).toNat ((0 : Nat) + (1 : Nat))).toI =
 (row.el (↑i.fst : Int).toNat ((0 : Nat) + (1 : Nat))).toI ∧
 (row.el (↑i.fst : Int).toNat ((0 : Nat) + (1 : Nat) + (1 : Nat))).toI =
 (row.el (↑i.fst : Int).toNat ((0 : Nat) + (1 : Nat) + (1 : Nat))).toI ∧
 (row.el (↑i.fst : Int).toNat ((0 : Nat) + (1 : Nat) + (1 : Nat) + (1 : Nat))).toI =
 (row.el (↑i.fst : Int).toNat ((0 : Nat) + (1 : Nat) + (1 : Nat) + (1 : Nat))).toI ∧
 (row.el (↑i.fst : Int).toNat
 ((0 : Nat) + (1 : Nat) + (1 : Nat) + (1 : Nat) + (1 : Nat))).toI =
 (row.el (↑i.fst : Int).toNat
 ((0 : Nat) + (1 : Nat) + (1 : Nat) + (1 : Nat) + (1 : Nat))).toI ∧
 (row.el (↑i.fst : Int).toNat
 ((0 : Nat) + (1 : Nat) + (1 : Nat) + (1 : Nat) + (1 : Nat) + (1 : Nat))).toI =
 (row.el (↑i.fst : Int).toNat
 ((0 : Nat) + (1 : Nat) + (1 : Nat) + (1 : Nat) + (1 : Nat) + (1 : Nat))).toI) ∧
 ∀ (i_3 : Int × Int),
 ((-2147483648 : Int) ≤ i_3.fst ∧ i_3.fst ≤ (2147483647 : Int)) ∧ (-2147483648 : Int) ≤ i_3.snd ∧ i_3.snd ≤ (2147483647 : Int) →
 ((decide (i_1.snd ≥ (0 : Int)) = true →
 ((0 : Int) ≤ i_1.snd ∧ i_1.snd < (↑(nat_lit 4) : Int)) ∧
 i_1.snd.toNat < (rowI (4 : Nat) i.snd.snd).len ∧
 ∃ (i_4 : Int),
 (i_4 = if i_1.snd ≥ (0 : Int) then ((rowI (4 : Nat) i.snd.snd).el i_1.snd.toNat (0 : Nat)).toI else (0 : Int)) ∧
 ((rowI (4 : Nat) i.snd.snd).el i_1.snd.toNat (0 : Nat)).toI = i_4 ∧
 row.rows = row.rows ∧
 nat_lit 4 = nat_lit 4 ∧
 (↑i.fst : Int) = (↑i.fst : Int) ∧
 i_1.fst = i_1.fst ∧
 i_1.snd = i_1.snd ∧
 i_2 = i_2 ∧
 i.snd.fst.fst = i.snd.fst.fst ∧
 List.map
 (fun (j : Nat) =>
 [D.i (itvLo (4 : Int) i.snd.fst.fst i.snd.fst.snd (↑j : Int)),
 D.i (itvHi (4 : Int) i.snd.fst.fst i.snd.fst.snd (↑j : Int))])
 (List.range (4 : Nat)) =
 List.map
 (fun (j : Nat) =>
 [D.i (itvLo (4 : Int) i.snd.fst.fst i.snd.fst.snd (↑j : Int)),
 D.i (itvHi (4 : Int) i.snd.fst.fst i.snd.fst.snd (↑j : Int))])
 (List.range (4 : Nat)) ∧
 (4 : Int) = (4 : Int) ∧
 i.snd.fst.fst = i.snd.fst.fst ∧
 (∀ (o : Nat), o < nat_lit 49 → i.snd.fst.snd o = i.snd.fst.snd o) ∧
 List.map (fun (j : Nat) => [D.i (i.snd.snd j)]) (List.range (4 : Nat)) =
 List.map (fun (j : Nat) => [D.i (i.snd.snd j)]) (List.range (4 : Nat)) ∧
 (row.el (↑i.fst : Int).toNat (0 : Nat)).toI =
 (row.el (↑i.fst : Int).toNat (0 : Nat)).toI ∧
 (row.el (↑i.fst : Int).toNat ((0 : Nat) + (1 : Nat))).toI =
 (row.el (↑i.fst : Int).toNat ((0 : Nat) + (1 : Nat))).toI ∧
 (row.el (↑i.fst : Int).toNat ((0 : Nat) + (1 : Nat) + (1 : Nat))).toI =
 (row.el (↑i.fst : Int).toNat ((0 : Nat) + (1 : Nat) + (1 : Nat))).toI ∧
 (row.el (↑i.fst : Int).toNat
 ((0 : Nat) + (1 : Nat) + (1 : Nat) + (1 : Nat))).toI =
 (row.el (↑i.fst : Int).toNat
 ((0 : Nat) + (1 : Nat) + (1 : Nat) + (1 : Nat))).toI ∧
 (row.el (↑i.fst : Int).toNat
 ((0 : Nat) + (1 : Nat) + (1 : Nat) + (1 : Nat) + (1 : Nat))).toI =
 (row.el (↑i.fst : Int).toNat
 ((0 : Nat) + (1 : Nat) + (1 : Nat) + (1 : Nat) + (1 : Nat))).toI ∧
 (row.el (↑i.fst : Int).toNat
 ((0 : Nat) + (1 : Nat) + (1 : Nat) + (1 : Nat) + (1 : Nat) +
 (1 : Nat))).toI =
 (row.el (↑i.fst : Int).toNat
 ((0 : Nat) + (1 : Nat) + (1 : Nat) + (1 : Nat) + (1 : Nat) +
 (1 : Nat))).toI ∧
 i_3.fst = i_3.fst ∧ i_3.snd = i_3.snd) ∧
 (decide (i_1.snd ≥ (0 : Int)) = false →
 ∃ (i_4 : Int),
 (i_4 = if i_1.snd ≥ (0 : Int) then ((rowI (4 : Nat) i.snd.snd).el i_1.snd.toNat (0 : Nat)).toI else (0 : Int)) ∧
 (0 : Int) = i_4 ∧
 row.rows = row.rows ∧
 nat_lit 4 = nat_lit 4 ∧
 (↑i.fst : Int) = (↑i.fst : Int) ∧
 i_1.fst = i_1.fst ∧
 i_1.snd = i_1.snd ∧
 i_2 = i_2 ∧
 i.snd.fst.fst = i.snd.fst.fst ∧
 List.map
 (fun (j : Nat) =>
 [D.i (itvLo (4 : Int) i.snd.fst.fst i.snd.fst.snd (↑j : Int)),
 D.i (itvHi (4 : Int) i.snd.fst.fst i.snd.fst.snd (↑j : Int))])
 (List.range (4 : Nat)) =
 List.map
 (fun (j : Nat) =>
 [D.i (itvLo (4 : Int) i.snd.fst.fst i.snd.fst.snd (↑j : Int)),
 D.i (itvHi (4 : Int) i.snd.fst.fst i.snd.fst.snd (↑j : Int))])
 (List.range (4 : Nat)) ∧
 (4 : Int) = (4 : Int) ∧
 i.snd.fst.fst = i.snd.fst.fst ∧
 (∀ (o : Nat), o < nat_lit 49 → i.snd.fst.snd o = i.snd.fst.snd o) ∧
 List.map (fun (j : Nat) => [D.i (i.snd.snd j)]) (List.range (4 : Nat)) =
 List.map (fun (j : Nat) => [D.i (i.snd.snd j)]) (List.range (4 : Nat)) ∧
 (row.el (↑i.fst : Int).toNat (0 : Nat)).toI = (row.el (↑i.fst : Int).toNat (0 : Nat)).toI ∧
 (row.el (↑i.fst : Int).toNat ((0 : Nat) + (1 : Nat))).toI =
 (row.el (↑i.fst : Int).toNat ((0 : Nat) + (1 : Nat))).toI ∧
 (row.el (↑i.fst : Int).toNat ((0 : Nat) + (1 : Nat) + (1 : Nat))).toI =
 (row.el (↑i.fst : Int).toNat ((0 : Nat) + (1 : Nat) + (1 : Nat))).toI ∧
 (row.el (↑i.fst : Int).toNat ((0 : Nat) + (1 : Nat) + (1 : Nat) + (1 : Nat))).toI =
 (row.el (↑i.fst : Int).toNat
 ((0 : Nat) + (1 : Nat) + (1 : Nat) + (1 : Nat))).toI ∧
 (row.el (↑i.fst : Int).toNat
 ((0 : Nat) + (1 : Nat) + (1 : Nat) + (1 : Nat) + (1 : Nat))).toI =
 (row.el (↑i.fst : Int).toNat
 ((0 : Nat) + (1 : Nat) + (1 : Nat) + (1 : Nat) + (1 : Nat))).toI ∧
 (row.el (↑i.fst : Int).toNat
 ((0 : Nat) + (1 : Nat) + (1 : Nat) + (1 : Nat) + (1 : Nat) +
 (1 : Nat))).toI =
 (row.el (↑i.fst : Int).toNat
 ((0 : Nat) + (1 : Nat) + (1 : Nat) + (1 : Nat) + (1 : Nat) +
 (1 : Nat))).toI ∧
 i_3.fst = i_3.fst ∧ i_3.snd = i_3.snd)) ∧
 ∀ (i_4 : Int),
 (i_4 = if i_1.snd ≥ (0 : Int) then ((rowI (4 : Nat) i.snd.snd).el i_1.snd.toNat (0 : Nat)).toI else (0 : Int)) →
 (((IntKind.i64.wrap ((IntKind.u64.wrap (row.el (↑i.fst : Int).toNat (0 : Nat)).toI).tmod (5 : Int)) == (0 : Int)) = true →
 (decide (i_3.fst ≤ i_3.snd) = true →
 Good (4 : Int) (i.snd.fst.fst, i.snd.fst.snd) ∧
 (itD (4 : Nat) (4 : Int) i.snd.fst).len ≤ (1000 : Nat) ∧
 ((0 : Int) ≤ i_1.fst ∧ i_1.fst < (↑(nat_lit 4) : Int)) ∧
 i_1.fst.toNat < (rowI (4 : Nat) i.snd.snd).len ∧
 ∃ (i_5 : Zs × (Nat → Int)),
 (Good (4 : Int) i_5.fst ∧ Pt (4 : Int) i_5.fst (vz i_5.snd)) ∧
 row.rows = row.rows ∧
 nat_lit 4 = nat_lit 4 ∧
 (↑i.fst : Int) = (↑i.fst : Int) ∧
 (List.map (fun (j : Nat) => [D.i (i.snd.snd j)]) (List.range (4 : Nat))).set i_1.fst.toNat
 [D.i i_3.fst] =
 List.map (fun (j : Nat) => [D.i (i_5.snd j)]) (List.range (4 : Nat)) ∧
 (metZ (4 : Int) i_1.fst (ofLo i_3.fst i_3.snd) (ofHi i_3.fst i_3.snd)
 (fgZ (4 : Int) i_1.fst (i.snd.fst.fst, i.snd.fst.snd))).fst =
 i_5.fst.fst ∧
 List.map
 (fun (j : Nat) =>
 [D.i
 (itvLo (4 : Int)
 (metZ (4 : Int) i_1.fst (ofLo i_3.fst i_3.snd) (ofHi i_3.fst i_3.snd)
 (fgZ (4 : Int) i_1.fst (i.snd.fst.fst, i.snd.fst.snd))).fst
 (metZ (4 : Int) i_1.fst (ofLo i_3.fst i_3.snd) (ofHi i_3.fst i_3.snd)
 (fgZ (4 : Int) i_1.fst (i.snd.fst.fst, i.snd.fst.snd))).snd
 (↑j : Int)),
 D.i
 (itvHi (4 : Int)
 (metZ (4 : Int) i_1.fst (ofLo i_3.fst i_3.snd) (ofHi i_3.fst i_3.snd)
 (fgZ (4 : Int) i_1.fst (i.snd.fst.fst, i.snd.fst.snd))).fst
 (metZ (4 : Int) i_1.fst (ofLo i_3.fst i_3.snd) (ofHi i_3.fst i_3.snd)
 (fgZ (4 : Int) i_1.fst (i.snd.fst.fst, i.snd.fst.snd))).snd
 (↑j : Int))])
 (List.range (itD (4 : Nat) (4 : Int) i.snd.fst).len) =
 List.map
 (fun (j : Nat) =>
 [D.i (itvLo (4 : Int) i_5.fst.fst i_5.fst.snd (↑j : Int)),
 D.i (itvHi (4 : Int) i_5.fst.fst i_5.fst.snd (↑j : Int))])
 (List.range (4 : Nat)) ∧
 (4 : Int) = (4 : Int) ∧
 (metZ (4 : Int) i_1.fst (ofLo i_3.fst i_3.snd) (ofHi i_3.fst i_3.snd)
 (fgZ (4 : Int) i_1.fst (i.snd.fst.fst, i.snd.fst.snd))).fst =
 i_5.fst.fst ∧
 ∀ (o : Nat),
 o < nat_lit 49 →
 (metZ (4 : Int) i_1.fst (ofLo i_3.fst i_3.snd) (ofHi i_3.fst i_3.snd)
 (fgZ (4 : Int) i_1.fst (i.snd.fst.fst, i.snd.fst.snd))).snd
 o =
 i_5.fst.snd o) ∧
 (decide (i_3.fst ≤ i_3.snd) = false →
 ∃ (i_5 : Zs × (Nat → Int)),
 (Good (4 : Int) i_5.fst ∧ Pt (4 : Int) i_5.fst (vz i_5.snd)) ∧
 row.rows = row.rows ∧
 nat_lit 4 = nat_lit 4 ∧
 (↑i.fst : Int) = (↑i.fst : Int) ∧
 List.map (fun (j : Nat) => [D.i (i.snd.snd j)]) (List.range (4 : Nat)) =
 List.map (fun (j : Nat) => [D.i (i_5.snd j)]) (List.range (4 : Nat)) ∧
 i.snd.fst.fst = i_5.fst.fst ∧
 List.map
 (fun (j : Nat) =>
 [D.i (itvLo (4 : Int) i.snd.fst.fst i.snd.fst.snd (↑j : Int)),
 D.i (itvHi (4 : Int) i.snd.fst.fst i.snd.fst.snd (↑j : Int))])
 (List.range (4 : Nat)) =
 List.map
 (fun (j : Nat) =>
 [D.i (itvLo (4 : Int) i_5.fst.fst i_5.fst.snd (↑j : Int)),
 D.i (itvHi (4 : Int) i_5.fst.fst i_5.fst.snd (↑j : Int))])
 (List.range (4 : Nat)) ∧
 (4 : Int) = (4 : Int) ∧
 i.snd.fst.fst = i_5.fst.fst ∧
 ∀ (o : Nat), o < nat_lit 49 → i.snd.fst.snd o = i_5.fst.snd o)) ∧
 ((IntKind.i64.wrap ((IntKind.u64.wrap (row.el (↑i.fst : Int).toNat (0 : Nat)).toI).tmod (5 : Int)) == (0 : Int)) =
 false →
 ((IntKind.i64.wrap ((IntKind.u64.wrap (row.el (↑i.fst : Int).toNat (0 : Nat)).toI).tmod (5 : Int)) == (1 : Int)) =
 true →
 ((IntKind.i64.wrap ((IntKind.u64.wrap (row.el (↑i.fst : Int).toNat (0 : Nat)).toI).tmod (5 : Int)) ==
 (1 : Int)) =
 true →
 ((0 : Int) ≤ i_1.fst ∧ i_1.fst < (↑(nat_lit 4) : Int)) ∧
 i_1.fst.toNat < (rowI (4 : Nat) i.snd.snd).len ∧
 ((0 : Int) ≤ i_1.fst ∧ i_1.fst < (↑(nat_lit 4) : Int)) ∧
 i_1.fst.toNat < (rowI (4 : Nat) i.snd.snd).len ∧
 Good (4 : Int) (i.snd.fst.fst, i.snd.fst.snd) ∧
 (itD (4 : Nat) (4 : Int) i.snd.fst).len ≤ (1000 : Nat) ∧
 ∃ (i_5 : Zs × (Nat → Int)),
 (Good (4 : Int) i_5.fst ∧ Pt (4 : Int) i_5.fst (vz i_5.snd)) ∧
 row.rows = row.rows ∧
 nat_lit 4 = nat_lit 4 ∧
 (↑i.fst : Int) = (↑i.fst : Int) ∧
 List.map (fun (j : Nat) => [D.i (i.snd.snd j)]) (List.range (4 : Nat)) =
 List.map (fun (j : Nat) => [D.i (i_5.snd j)]) (List.range (4 : Nat)) ∧
 (metZ (4 : Int) i_1.fst
 (ofLo
 (if
 i_3.fst <
 ((rowI (4 : Nat) i.snd.snd).el i_1.fst.toNat (0 : Nat)).toI then
 i_3.fst
 else ((rowI (4 : Nat) i.snd.snd).el i_1.fst.toNat (0 : Nat)).toI)
 (if
 i_3.snd >
 ((rowI (4 : Nat) i.snd.snd).el i_1.fst.toNat (0 : Nat)).toI then
 i_3.snd
 else ((rowI (4 : Nat) i.snd.snd).el i_1.fst.toNat (0 : Nat)).toI))
 (ofHi
 (if
 i_3.fst <
 ((rowI (4 : Nat) i.snd.snd).el i_1.fst.toNat (0 : Nat)).toI then
 i_3.fst
 else ((rowI (4 : Nat) i.snd.snd).el i_1.fst.toNat (0 : Nat)).toI)
 (if
 i_3.snd >
 ((rowI (4 : Nat) i.snd.snd).el i_1.fst.toNat (0 : Nat)).toI then
 i_3.snd
 else ((rowI (4 : Nat) i.snd.snd).el i_1.fst.toNat (0 : Nat)).toI))
 (i.snd.fst.fst, i.snd.fst.snd)).fst =
 i_5.fst.fst ∧
 List.map
 (fun (j : Nat) =>
 [D.i
 (itvLo (4 : Int)
 (metZ (4 : Int) i_1.fst
 (ofLo
 (if
 i_3.fst <
 ((rowI (4 : Nat) i.snd.snd).el i_1.fst.toNat
 (0 : Nat)).toI then
 i_3.fst
 else
 ((rowI (4 : Nat) i.snd.snd).el i_1.fst.toNat (0 : Nat)).toI)
 (if
 i_3.snd >
 ((rowI (4 : Nat) i.snd.snd).el i_1.fst.toNat
 (0 : Nat)).toI then
 i_3.snd
 else
 ((rowI (4 : Nat) i.snd.snd).el i_1.fst.toNat
 (0 : Nat)).toI))
 (ofHi
 (if
 i_3.fst <
 ((rowI (4 : Nat) i.snd.snd).el i_1.fst.toNat
 (0 : Nat)).toI then
 i_3.fst
 else
 ((rowI (4 : Nat) i.snd.snd).el i_1.fst.toNat (0 : Nat)).toI)
 (if
 i_3.snd >
 ((rowI (4 : Nat) i.snd.snd).el i_1.fst.toNat
 (0 : Nat)).toI then
 i_3.snd
 else
 ((rowI (4 : Nat) i.snd.snd).el i_1.fst.toNat
 (0 : Nat)).toI))
 (i.snd.fst.fst, i.snd.fst.snd)).fst
 (metZ (4 : Int) i_1.fst
 (ofLo
 (if
 i_3.fst <
 ((rowI (4 : Nat) i.snd.snd).el i_1.fst.toNat
 (0 : Nat)).toI then
 i_3.fst
 else
 ((rowI (4 : Nat) i.snd.snd).el i_1.fst.toNat (0 : Nat)).toI)
 (if
 i_3.snd >
 ((rowI (4 : Nat) i.snd.snd).el i_1.fst.toNat
 (0 : Nat)).toI then
 i_3.snd
 else
 ((rowI (4 : Nat) i.snd.snd).el i_1.fst.toNat
 (0 : Nat)).toI))
 (ofHi
 (if
 i_3.fst <
 ((rowI (4 : Nat) i.snd.snd).el i_1.fst.toNat
 (0 : Nat)).toI then
 i_3.fst
 else
 ((rowI (4 : Nat) i.snd.snd).el i_1.fst.toNat (0 : Nat)).toI)
 (if
 i_3.snd >
 ((rowI (4 : Nat) i.snd.snd).el i_1.fst.toNat
 (0 : Nat)).toI then
 i_3.snd
 else
 ((rowI (4 : Nat) i.snd.snd).el i_1.fst.toNat
 (0 : Nat)).toI))
 (i.snd.fst.fst, i.snd.fst.snd)).snd
 (↑j : Int)),
 D.i
 (itvHi (4 : Int)
 (metZ (4 : Int) i_1.fst
 (ofLo
 (if
 i_3.fst <
 ((rowI (4 : Nat) i.snd.snd).el i_1.fst.toNat
 (0 : Nat)).toI then
 i_3.fst
 else
 ((rowI (4 : Nat) i.snd.snd).el i_1.fst.toNat (0 : Nat)).toI)
 (if
 i_3.snd >
 ((rowI (4 : Nat) i.snd.snd).el i_1.fst.toNat
 (0 : Nat)).toI then
 i_3.snd
 else
 ((rowI (4 : Nat) i.snd.snd).el i_1.fst.toNat
 (0 : Nat)).toI))
 (ofHi
 (if
 i_3.fst <
 ((rowI (4 : Nat) i.snd.snd).el i_1.fst.toNat
 (0 : Nat)).toI then
 i_3.fst
 else
 ((rowI (4 : Nat) i.snd.snd).el i_1.fst.toNat (0 : Nat)).toI)
 (if
 i_3.snd >
 ((rowI (4 : Nat) i.snd.snd).el i_1.fst.toNat
 (0 : Nat)).toI then
 i_3.snd
 else
 ((rowI (4 : Nat) i.snd.snd).el i_1.fst.toNat
 (0 : Nat)).toI))
 (i.snd.fst.fst, i.snd.fst.snd)).fst
 (metZ (4 : Int) i_1.fst
 (ofLo
 (if
 i_3.fst <
 ((rowI (4 : Nat) i.snd.snd).el i_1.fst.toNat
 (0 : Nat)).toI then
 i_3.fst
 else
 ((rowI (4 : Nat) i.snd.snd).el i_1.fst.toNat (0 : Nat)).toI)
 (if
 i_3.snd >
 ((rowI (4 : Nat) i.snd.snd).el i_1.fst.toNat
 (0 : Nat)).toI then
 i_3.snd
 else
 ((rowI (4 : Nat) i.snd.snd).el i_1.fst.toNat
 (0 : Nat)).toI))
 (ofHi
 (if
 i_3.fst <
 ((rowI (4 : Nat) i.snd.snd).el i_1.fst.toNat
 (0 : Nat)).toI then
 i_3.fst
 else
 ((rowI (4 : Nat) i.snd.snd).el i_1.fst.toNat (0 : Nat)).toI)
 (if
 i_3.snd >
 ((rowI (4 : Nat) i.snd.snd).el i_1.fst.toNat
 (0 : Nat)).toI then
 i_3.snd
 else
 ((rowI (4 : Nat) i.snd.snd).el i_1.fst.toNat
 (0 : Nat)).toI))
 (i.snd.fst.fst, i.snd.fst.snd)).snd
 (↑j : Int))])
 (List.range (itD (4 : Nat) (4 : Int) i.snd.fst).len) =
 List.map
 (fun (j : Nat) =>
 [D.i (itvLo (4 : Int) i_5.fst.fst i_5.fst.snd (↑j : Int)),
 D.i (itvHi (4 : Int) i_5.fst.fst i_5.fst.snd (↑j : Int))])
 (List.range (4 : Nat)) ∧
 (4 : Int) = (4 : Int) ∧
 (metZ (4 : Int) i_1.fst
 (ofLo
 (if
 i_3.fst <
 ((rowI (4 : Nat) i.snd.snd).el i_1.fst.toNat
 (0 : Nat)).toI then
 i_3.fst
 else ((rowI (4 : Nat) i.snd.snd).el i_1.fst.toNat (0 : Nat)).toI)
 (if
 i_3.snd >
 ((rowI (4 : Nat) i.snd.snd).el i_1.fst.toNat
 (0 : Nat)).toI then
 i_3.snd
 else ((rowI (4 : Nat) i.snd.snd).el i_1.fst.toNat (0 : Nat)).toI))
 (ofHi
 (if
 i_3.fst <
 ((rowI (4 : Nat) i.snd.snd).el i_1.fst.toNat
 (0 : Nat)).toI then
 i_3.fst
 else ((rowI (4 : Nat) i.snd.snd).el i_1.fst.toNat (0 : Nat)).toI)
 (if
 i_3.snd >
 ((rowI (4 : Nat) i.snd.snd).el i_1.fst.toNat
 (0 : Nat)).toI then
 i_3.snd
 else ((rowI (4 : Nat) i.snd.snd).el i_1.fst.toNat (0 : Nat)).toI))
 (i.snd.fst.fst, i.snd.fst.snd)).fst =
 i_5.fst.fst ∧
 ∀ (o : Nat),
 o < nat_lit 49 →
 (metZ (4 : Int) i_1.fst
 (ofLo
 (if
 i_3.fst <
 ((rowI (4 : Nat) i.snd.snd).el i_1.fst.toNat
 (0 : Nat)).toI then
 i_3.fst
 else
 ((rowI (4 : Nat) i.snd.snd).el i_1.fst.toNat (0 : Nat)).toI)
 (if
 i_3.snd >
 ((rowI (4 : Nat) i.snd.snd).el i_1.fst.toNat
 (0 : Nat)).toI then
 i_3.snd
 else
 ((rowI (4 : Nat) i.snd.snd).el i_1.fst.toNat
 (0 : Nat)).toI))
 (ofHi
 (if
 i_3.fst <
 ((rowI (4 : Nat) i.snd.snd).el i_1.fst.toNat
 (0 : Nat)).toI then
 i_3.fst
 else
 ((rowI (4 : Nat) i.snd.snd).el i_1.fst.toNat (0 : Nat)).toI)
 (if
 i_3.snd >
 ((rowI (4 : Nat) i.snd.snd).el i_1.fst.toNat
 (0 : Nat)).toI then
 i_3.snd
 else
 ((rowI (4 : Nat) i.snd.snd).el i_1.fst.toNat
 (0 : Nat)).toI))
 (i.snd.fst.fst, i.snd.fst.snd)).snd
 o =
 i_5.fst.snd o) ∧
 ((IntKind.i64.wrap ((IntKind.u64.wrap (row.el (↑i.fst : Int).toNat (0 : Nat)).toI).tmod (5 : Int)) ==
 (1 : Int)) =
 false →
 ((IntKind.i64.wrap ((IntKind.u64.wrap (row.el (↑i.fst : Int).toNat (0 : Nat)).toI).tmod (5 : Int)) ==
 (3 : Int)) =
 true →
 ((decide (IntKind.i64.wrap (i_4 + i_2) ≥ (-2147483648 : Int)) &&
 decide (IntKind.i64.wrap (i_4 + i_2) ≤ (2147483647 : Int))) =
 true →
 Good (4 : Int) (i.snd.fst.fst, i.snd.fst.snd) ∧
 (itD (4 : Nat) (4 : Int) i.snd.fst).len ≤ (1000 : Nat) ∧
 ((0 : Int) ≤ i_1.fst ∧ i_1.fst < (↑(nat_lit 4) : Int)) ∧
 i_1.fst.toNat < (rowI (4 : Nat) i.snd.snd).len ∧
 ∃ (i_5 : Zs × (Nat → Int)),
 (Good (4 : Int) i_5.fst ∧ Pt (4 : Int) i_5.fst (vz i_5.snd)) ∧
 row.rows = row.rows ∧
 nat_lit 4 = nat_lit 4 ∧
 (↑i.fst : Int) = (↑i.fst : Int) ∧
 (List.map (fun (j : Nat) => [D.i (i.snd.snd j)]) (List.range (4 : Nat))).set
 i_1.fst.toNat [D.i (IntKind.i64.wrap (i_4 + i_2))] =
 List.map (fun (j : Nat) => [D.i (i_5.snd j)]) (List.range (4 : Nat)) ∧
 (copyZ (4 : Int) i_1.fst i_1.snd i_2 (i.snd.fst.fst, i.snd.fst.snd)).fst =
 i_5.fst.fst ∧
 List.map
 (fun (j : Nat) =>
 [D.i
 (itvLo (4 : Int)
 (copyZ (4 : Int) i_1.fst i_1.snd i_2
 (i.snd.fst.fst, i.snd.fst.snd)).fst
 (copyZ (4 : Int) i_1.fst i_1.snd i_2
 (i.snd.fst.fst, i.snd.fst.snd)).snd
 (↑j : Int)),
 D.i
 (itvHi (4 : Int)
 (copyZ (4 : Int) i_1.fst i_1.snd i_2
 (i.snd.fst.fst, i.snd.fst.snd)).fst
 (copyZ (4 : Int) i_1.fst i_1.snd i_2
 (i.snd.fst.fst, i.snd.fst.snd)).snd
 (↑j : Int))])
 (List.range (itD (4 : Nat) (4 : Int) i.snd.fst).len) =
 List.map
 (fun (j : Nat) =>
 [D.i (itvLo (4 : Int) i_5.fst.fst i_5.fst.snd (↑j : Int)),
 D.i (itvHi (4 : Int) i_5.fst.fst i_5.fst.snd (↑j : Int))])
 (List.range (4 : Nat)) ∧
 (4 : Int) = (4 : Int) ∧
 (copyZ (4 : Int) i_1.fst i_1.snd i_2 (i.snd.fst.fst, i.snd.fst.snd)).fst =
 i_5.fst.fst ∧
 ∀ (o : Nat),
 o < nat_lit 49 →
 (copyZ (4 : Int) i_1.fst i_1.snd i_2
 (i.snd.fst.fst, i.snd.fst.snd)).snd
 o =
 i_5.fst.snd o) ∧
 ((decide (IntKind.i64.wrap (i_4 + i_2) ≥ (-2147483648 : Int)) &&
 decide (IntKind.i64.wrap (i_4 + i_2) ≤ (2147483647 : Int))) =
 false →
 ∃ (i_5 : Zs × (Nat → Int)),
 (Good (4 : Int) i_5.fst ∧ Pt (4 : Int) i_5.fst (vz i_5.snd)) ∧
 row.rows = row.rows ∧
 nat_lit 4 = nat_lit 4 ∧
 (↑i.fst : Int) = (↑i.fst : Int) ∧
 List.map (fun (j : Nat) => [D.i (i.snd.snd j)]) (List.range (4 : Nat)) =
 List.map (fun (j : Nat) => [D.i (i_5.snd j)]) (List.range (4 : Nat)) ∧
 i.snd.fst.fst = i_5.fst.fst ∧
 List.map
 (fun (j : Nat) =>
 [D.i (itvLo (4 : Int) i.snd.fst.fst i.snd.fst.snd (↑j : Int)),
 D.i (itvHi (4 : Int) i.snd.fst.fst i.snd.fst.snd (↑j : Int))])
 (List.range (4 : Nat)) =
 List.map
 (fun (j : Nat) =>
 [D.i (itvLo (4 : Int) i_5.fst.fst i_5.fst.snd (↑j : Int)),
 D.i (itvHi (4 : Int) i_5.fst.fst i_5.fst.snd (↑j : Int))])
 (List.range (4 : Nat)) ∧
 (4 : Int) = (4 : Int) ∧
 i.snd.fst.fst = i_5.fst.fst ∧
 ∀ (o : Nat), o < nat_lit 49 → i.snd.fst.snd o = i_5.fst.snd o)) ∧
 ((IntKind.i64.wrap ((IntKind.u64.wrap (row.el (↑i.fst : Int).toNat (0 : Nat)).toI).tmod (5 : Int)) ==
 (3 : Int)) =
 false →
 ((IntKind.i64.wrap ((IntKind.u64.wrap (row.el (↑i.fst : Int).toNat (0 : Nat)).toI).tmod (5 : Int)) ==
 (4 : Int)) =
 true →
 ((i_1.fst != i_1.snd) = true →
 ((0 : Int) ≤ i_1.fst ∧ i_1.fst < (↑(nat_lit 4) : Int)) ∧
 i_1.fst.toNat < (rowI (4 : Nat) i.snd.snd).len ∧
 Good (4 : Int) (i.snd.fst.fst, i.snd.fst.snd) ∧
 (itD (4 : Nat) (4 : Int) i.snd.fst).len ≤ (1000 : Nat) ∧
 ∃ (i_5 : Zs × (Nat → Int)),
 (Good (4 : Int) i_5.fst ∧ Pt (4 : Int) i_5.fst (vz i_5.snd)) ∧
 row.rows = row.rows ∧
 nat_lit 4 = nat_lit 4 ∧
 (↑i.fst : Int) = (↑i.fst : Int) ∧
 List.map (fun (j : Nat) => [D.i (i.snd.snd j)]) (List.range (4 : Nat)) =
 List.map (fun (j : Nat) => [D.i (i_5.snd j)]) (List.range (4 : Nat)) ∧
 (bndZ (4 : Int) i_1.fst i_1.snd
 (IntKind.i64.wrap
 (IntKind.i64.wrap
 (((rowI (4 : Nat) i.snd.snd).el i_1.fst.toNat (0 : Nat)).toI -
 i_4) +
 if (0 : Int) > i_2 then (0 : Int) else i_2))
 (i.snd.fst.fst, i.snd.fst.snd)).fst =
 i_5.fst.fst ∧
 List.map
 (fun (j : Nat) =>
 [D.i
 (itvLo (4 : Int)
 (bndZ (4 : Int) i_1.fst i_1.snd
 (IntKind.i64.wrap
 (IntKind.i64.wrap
 (((rowI (4 : Nat) i.snd.snd).el i_1.fst.toNat
 (0 : Nat)).toI -
 i_4) +
 if (0 : Int) > i_2 then (0 : Int) else i_2))
 (i.snd.fst.fst, i.snd.fst.snd)).fst
 (bndZ (4 : Int) i_1.fst i_1.snd
 (IntKind.i64.wrap
 (IntKind.i64.wrap
 (((rowI (4 : Nat) i.snd.snd).el i_1.fst.toNat
 (0 : Nat)).toI -
 i_4) +
 if (0 : Int) > i_2 then (0 : Int) else i_2))
 (i.snd.fst.fst, i.snd.fst.snd)).snd
 (↑j : Int)),
 D.i
 (itvHi (4 : Int)
 (bndZ (4 : Int) i_1.fst i_1.snd
 (IntKind.i64.wrap
 (IntKind.i64.wrap
 (((rowI (4 : Nat) i.snd.snd).el i_1.fst.toNat
 (0 : Nat)).toI -
 i_4) +
 if (0 : Int) > i_2 then (0 : Int) else i_2))
 (i.snd.fst.fst, i.snd.fst.snd)).fst
 (bndZ (4 : Int) i_1.fst i_1.snd
 (IntKind.i64.wrap
 (IntKind.i64.wrap
 (((rowI (4 : Nat) i.snd.snd).el i_1.fst.toNat
 (0 : Nat)).toI -
 i_4) +
 if (0 : Int) > i_2 then (0 : Int) else i_2))
 (i.snd.fst.fst, i.snd.fst.snd)).snd
 (↑j : Int))])
 (List.range (itD (4 : Nat) (4 : Int) i.snd.fst).len) =
 List.map
 (fun (j : Nat) =>
 [D.i (itvLo (4 : Int) i_5.fst.fst i_5.fst.snd (↑j : Int)),
 D.i (itvHi (4 : Int) i_5.fst.fst i_5.fst.snd (↑j : Int))])
 (List.range (4 : Nat)) ∧
 (4 : Int) = (4 : Int) ∧
 (bndZ (4 : Int) i_1.fst i_1.snd
 (IntKind.i64.wrap
 (IntKind.i64.wrap
 (((rowI (4 : Nat) i.snd.snd).el i_1.fst.toNat
 (0 : Nat)).toI -
 i_4) +
 if (0 : Int) > i_2 then (0 : Int) else i_2))
 (i.snd.fst.fst, i.snd.fst.snd)).fst =
 i_5.fst.fst ∧
 ∀ (o : Nat),
 o < nat_lit 49 →
 (bndZ (4 : Int) i_1.fst i_1.snd
 (IntKind.i64.wrap
 (IntKind.i64.wrap
 (((rowI (4 : Nat) i.snd.snd).el i_1.fst.toNat
 (0 : Nat)).toI -
 i_4) +
 if (0 : Int) > i_2 then (0 : Int) else i_2))
 (i.snd.fst.fst, i.snd.fst.snd)).snd
 o =
 i_5.fst.snd o) ∧
 ((i_1.fst != i_1.snd) = false →
 ∃ (i_5 : Zs × (Nat → Int)),
 (Good (4 : Int) i_5.fst ∧ Pt (4 : Int) i_5.fst (vz i_5.snd)) ∧
 row.rows = row.rows ∧
 nat_lit 4 = nat_lit 4 ∧
 (↑i.fst : Int) = (↑i.fst : Int) ∧
 List.map (fun (j : Nat) => [D.i (i.snd.snd j)]) (List.range (4 : Nat)) =
 List.map (fun (j : Nat) => [D.i (i_5.snd j)]) (List.range (4 : Nat)) ∧
 i.snd.fst.fst = i_5.fst.fst ∧
 List.map
 (fun (j : Nat) =>
 [D.i (itvLo (4 : Int) i.snd.fst.fst i.snd.fst.snd (↑j : Int)),
 D.i (itvHi (4 : Int) i.snd.fst.fst i.snd.fst.snd (↑j : Int))])
 (List.range (4 : Nat)) =
 List.map
 (fun (j : Nat) =>
 [D.i (itvLo (4 : Int) i_5.fst.fst i_5.fst.snd (↑j : Int)),
 D.i (itvHi (4 : Int) i_5.fst.fst i_5.fst.snd (↑j : Int))])
 (List.range (4 : Nat)) ∧
 (4 : Int) = (4 : Int) ∧
 i.snd.fst.fst = i_5.fst.fst ∧
 ∀ (o : Nat), o < nat_lit 49 → i.snd.fst.snd o = i_5.fst.snd o)) ∧
 ((IntKind.i64.wrap ((IntKind.u64.wrap (row.el (↑i.fst : Int).toNat (0 : Nat)).toI).tmod (5 : Int)) ==
 (4 : Int)) =
 false →
 ∃ (i_5 : Zs × (Nat → Int)),
 (Good (4 : Int) i_5.fst ∧ Pt (4 : Int) i_5.fst (vz i_5.snd)) ∧
 row.rows = row.rows ∧
 nat_lit 4 = nat_lit 4 ∧
 (↑i.fst : Int) = (↑i.fst : Int) ∧
 List.map (fun (j : Nat) => [D.i (i.snd.snd j)]) (List.range (4 : Nat)) =
 List.map (fun (j : Nat) => [D.i (i_5.snd j)]) (List.range (4 : Nat)) ∧
 i.snd.fst.fst = i_5.fst.fst ∧
 List.map
 (fun (j : Nat) =>
 [D.i (itvLo (4 : Int) i.snd.fst.fst i.snd.fst.snd (↑j : Int)),
 D.i (itvHi (4 : Int) i.snd.fst.fst i.snd.fst.snd (↑j : Int))])
 (List.range (4 : Nat)) =
 List.map
 (fun (j : Nat) =>
 [D.i (itvLo (4 : Int) i_5.fst.fst i_5.fst.snd (↑j : Int)),
 D.i (itvHi (4 : Int) i_5.fst.fst i_5.fst.snd (↑j : Int))])
 (List.range (4 : Nat)) ∧
 (4 : Int) = (4 : Int) ∧
 i.snd.fst.fst = i_5.fst.fst ∧
 ∀ (o : Nat), o < nat_lit 49 → i.snd.fst.snd o = i_5.fst.snd o)))) ∧
 ((IntKind.i64.wrap ((IntKind.u64.wrap (row.el (↑i.fst : Int).toNat (0 : Nat)).toI).tmod (5 : Int)) == (1 : Int)) =
 false →
 ((IntKind.i64.wrap ((IntKind.u64.wrap (row.el (↑i.fst : Int).toNat (0 : Nat)).toI).tmod (5 : Int)) ==
 (2 : Int)) =
 true →
 ((0 : Int) ≤ i_1.fst ∧ i_1.fst < (↑(nat_lit 4) : Int)) ∧
 i_1.fst.toNat < (rowI (4 : Nat) i.snd.snd).len ∧
 ((0 : Int) ≤ i_1.fst ∧ i_1.fst < (↑(nat_lit 4) : Int)) ∧
 i_1.fst.toNat < (rowI (4 : Nat) i.snd.snd).len ∧
 Good (4 : Int) (i.snd.fst.fst, i.snd.fst.snd) ∧
 (itD (4 : Nat) (4 : Int) i.snd.fst).len ≤ (1000 : Nat) ∧
 ∃ (i_5 : Zs × (Nat → Int)),
 (Good (4 : Int) i_5.fst ∧ Pt (4 : Int) i_5.fst (vz i_5.snd)) ∧
 row.rows = row.rows ∧
 nat_lit 4 = nat_lit 4 ∧
 (↑i.fst : Int) = (↑i.fst : Int) ∧
 List.map (fun (j : Nat) => [D.i (i.snd.snd j)]) (List.range (4 : Nat)) =
 List.map (fun (j : Nat) => [D.i (i_5.snd j)]) (List.range (4 : Nat)) ∧
 (metZ (4 : Int) i_1.fst
 (ofLo
 (if
 i_3.fst <
 ((rowI (4 : Nat) i.snd.snd).el i_1.fst.toNat (0 : Nat)).toI then
 i_3.fst
 else ((rowI (4 : Nat) i.snd.snd).el i_1.fst.toNat (0 : Nat)).toI)
 (if
 i_3.snd >
 ((rowI (4 : Nat) i.snd.snd).el i_1.fst.toNat (0 : Nat)).toI then
 i_3.snd
 else ((rowI (4 : Nat) i.snd.snd).el i_1.fst.toNat (0 : Nat)).toI))
 (ofHi
 (if
 i_3.fst <
 ((rowI (4 : Nat) i.snd.snd).el i_1.fst.toNat (0 : Nat)).toI then
 i_3.fst
 else ((rowI (4 : Nat) i.snd.snd).el i_1.fst.toNat (0 : Nat)).toI)
 (if
 i_3.snd >
 ((rowI (4 : Nat) i.snd.snd).el i_1.fst.toNat (0 : Nat)).toI then
 i_3.snd
 else ((rowI (4 : Nat) i.snd.snd).el i_1.fst.toNat (0 : Nat)).toI))
 (i.snd.fst.fst, i.snd.fst.snd)).fst =
 i_5.fst.fst ∧
 List.map
 (fun (j : Nat) =>
 [D.i
 (itvLo (4 : Int)
 (metZ (4 : Int) i_1.fst
 (ofLo
 (if
 i_3.fst <
 ((rowI (4 : Nat) i.snd.snd).el i_1.fst.toNat
 (0 : Nat)).toI then
 i_3.fst
 else
 ((rowI (4 : Nat) i.snd.snd).el i_1.fst.toNat (0 : Nat)).toI)
 (if
 i_3.snd >
 ((rowI (4 : Nat) i.snd.snd).el i_1.fst.toNat
 (0 : Nat)).toI then
 i_3.snd
 else
 ((rowI (4 : Nat) i.snd.snd).el i_1.fst.toNat
 (0 : Nat)).toI))
 (ofHi
 (if
 i_3.fst <
 ((rowI (4 : Nat) i.snd.snd).el i_1.fst.toNat
 (0 : Nat)).toI then
 i_3.fst
 else
 ((rowI (4 : Nat) i.snd.snd).el i_1.fst.toNat (0 : Nat)).toI)
 (if
 i_3.snd >
 ((rowI (4 : Nat) i.snd.snd).el i_1.fst.toNat
 (0 : Nat)).toI then
 i_3.snd
 else
 ((rowI (4 : Nat) i.snd.snd).el i_1.fst.toNat
 (0 : Nat)).toI))
 (i.snd.fst.fst, i.snd.fst.snd)).fst
 (metZ (4 : Int) i_1.fst
 (ofLo
 (if
 i_3.fst <
 ((rowI (4 : Nat) i.snd.snd).el i_1.fst.toNat
 (0 : Nat)).toI then
 i_3.fst
 else
 ((rowI (4 : Nat) i.snd.snd).el i_1.fst.toNat (0 : Nat)).toI)
 (if
 i_3.snd >
 ((rowI (4 : Nat) i.snd.snd).el i_1.fst.toNat
 (0 : Nat)).toI then
 i_3.snd
 else
 ((rowI (4 : Nat) i.snd.snd).el i_1.fst.toNat
 (0 : Nat)).toI))
 (ofHi
 (if
 i_3.fst <
 ((rowI (4 : Nat) i.snd.snd).el i_1.fst.toNat
 (0 : Nat)).toI then
 i_3.fst
 else
 ((rowI (4 : Nat) i.snd.snd).el i_1.fst.toNat (0 : Nat)).toI)
 (if
 i_3.snd >
 ((rowI (4 : Nat) i.snd.snd).el i_1.fst.toNat
 (0 : Nat)).toI then
 i_3.snd
 else
 ((rowI (4 : Nat) i.snd.snd).el i_1.fst.toNat
 (0 : Nat)).toI))
 (i.snd.fst.fst, i.snd.fst.snd)).snd
 (↑j : Int)),
 D.i
 (itvHi (4 : Int)
 (metZ (4 : Int) i_1.fst
 (ofLo
 (if
 i_3.fst <
 ((rowI (4 : Nat) i.snd.snd).el i_1.fst.toNat
 (0 : Nat)).toI then
 i_3.fst
 else
 ((rowI (4 : Nat) i.snd.snd).el i_1.fst.toNat (0 : Nat)).toI)
 (if
 i_3.snd >
 ((rowI (4 : Nat) i.snd.snd).el i_1.fst.toNat
 (0 : Nat)).toI then
 i_3.snd
 else
 ((rowI (4 : Nat) i.snd.snd).el i_1.fst.toNat
 (0 : Nat)).toI))
 (ofHi
 (if
 i_3.fst <
 ((rowI (4 : Nat) i.snd.snd).el i_1.fst.toNat
 (0 : Nat)).toI then
 i_3.fst
 else
 ((rowI (4 : Nat) i.snd.snd).el i_1.fst.toNat (0 : Nat)).toI)
 (if
 i_3.snd >
 ((rowI (4 : Nat) i.snd.snd).el i_1.fst.toNat
 (0 : Nat)).toI then
 i_3.snd
 else
 ((rowI (4 : Nat) i.snd.snd).el i_1.fst.toNat
 (0 : Nat)).toI))
 (i.snd.fst.fst, i.snd.fst.snd)).fst
 (metZ (4 : Int) i_1.fst
 (ofLo
 (if
 i_3.fst <
 ((rowI (4 : Nat) i.snd.snd).el i_1.fst.toNat
 (0 : Nat)).toI then
 i_3.fst
 else
 ((rowI (4 : Nat) i.snd.snd).el i_1.fst.toNat (0 : Nat)).toI)
 (if
 i_3.snd >
 ((rowI (4 : Nat) i.snd.snd).el i_1.fst.toNat
 (0 : Nat)).toI then
 i_3.snd
 else
 ((rowI (4 : Nat) i.snd.snd).el i_1.fst.toNat
 (0 : Nat)).toI))
 (ofHi
 (if
 i_3.fst <
 ((rowI (4 : Nat) i.snd.snd).el i_1.fst.toNat
 (0 : Nat)).toI then
 i_3.fst
 else
 ((rowI (4 : Nat) i.snd.snd).el i_1.fst.toNat (0 : Nat)).toI)
 (if
 i_3.snd >
 ((rowI (4 : Nat) i.snd.snd).el i_1.fst.toNat
 (0 : Nat)).toI then
 i_3.snd
 else
 ((rowI (4 : Nat) i.snd.snd).el i_1.fst.toNat
 (0 : Nat)).toI))
 (i.snd.fst.fst, i.snd.fst.snd)).snd
 (↑j : Int))])
 (List.range (itD (4 : Nat) (4 : Int) i.snd.fst).len) =
 List.map
 (fun (j : Nat) =>
 [D.i (itvLo (4 : Int) i_5.fst.fst i_5.fst.snd (↑j : Int)),
 D.i (itvHi (4 : Int) i_5.fst.fst i_5.fst.snd (↑j : Int))])
 (List.range (4 : Nat)) ∧
 (4 : Int) = (4 : Int) ∧
 (metZ (4 : Int) i_1.fst
 (ofLo
 (if
 i_3.fst <
 ((rowI (4 : Nat) i.snd.snd).el i_1.fst.toNat
 (0 : Nat)).toI then
 i_3.fst
 else ((rowI (4 : Nat) i.snd.snd).el i_1.fst.toNat (0 : Nat)).toI)
 (if
 i_3.snd >
 ((rowI (4 : Nat) i.snd.snd).el i_1.fst.toNat
 (0 : Nat)).toI then
 i_3.snd
 else ((rowI (4 : Nat) i.snd.snd).el i_1.fst.toNat (0 : Nat)).toI))
 (ofHi
 (if
 i_3.fst <
 ((rowI (4 : Nat) i.snd.snd).el i_1.fst.toNat
 (0 : Nat)).toI then
 i_3.fst
 else ((rowI (4 : Nat) i.snd.snd).el i_1.fst.toNat (0 : Nat)).toI)
 (if
 i_3.snd >
 ((rowI (4 : Nat) i.snd.snd).el i_1.fst.toNat
 (0 : Nat)).toI then
 i_3.snd
 else ((rowI (4 : Nat) i.snd.snd).el i_1.fst.toNat (0 : Nat)).toI))
 (i.snd.fst.fst, i.snd.fst.snd)).fst =
 i_5.fst.fst ∧
 ∀ (o : Nat),
 o < nat_lit 49 →
 (metZ (4 : Int) i_1.fst
 (ofLo
 (if
 i_3.fst <
 ((rowI (4 : Nat) i.snd.snd).el i_1.fst.toNat
 (0 : Nat)).toI then
 i_3.fst
 else
 ((rowI (4 : Nat) i.snd.snd).el i_1.fst.toNat (0 : Nat)).toI)
 (if
 i_3.snd >
 ((rowI (4 : Nat) i.snd.snd).el i_1.fst.toNat
 (0 : Nat)).toI then
 i_3.snd
 else
 ((rowI (4 : Nat) i.snd.snd).el i_1.fst.toNat
 (0 : Nat)).toI))
 (ofHi
 (if
 i_3.fst <
 ((rowI (4 : Nat) i.snd.snd).el i_1.fst.toNat
 (0 : Nat)).toI then
 i_3.fst
 else
 ((rowI (4 : Nat) i.snd.snd).el i_1.fst.toNat (0 : Nat)).toI)
 (if
 i_3.snd >
 ((rowI (4 : Nat) i.snd.snd).el i_1.fst.toNat
 (0 : Nat)).toI then
 i_3.snd
 else
 ((rowI (4 : Nat) i.snd.snd).el i_1.fst.toNat
 (0 : Nat)).toI))
 (i.snd.fst.fst, i.snd.fst.snd)).snd
 o =
 i_5.fst.snd o) ∧
 ((IntKind.i64.wrap ((IntKind.u64.wrap (row.el (↑i.fst : Int).toNat (0 : Nat)).toI).tmod (5 : Int)) ==
 (2 : Int)) =
 false →
 ((IntKind.i64.wrap ((IntKind.u64.wrap (row.el (↑i.fst : Int).toNat (0 : Nat)).toI).tmod (5 : Int)) ==
 (3 : Int)) =
 true →
 ((decide (IntKind.i64.wrap (i_4 + i_2) ≥ (-2147483648 : Int)) &&
 decide (IntKind.i64.wrap (i_4 + i_2) ≤ (2147483647 : Int))) =
 true →
 Good (4 : Int) (i.snd.fst.fst, i.snd.fst.snd) ∧
 (itD (4 : Nat) (4 : Int) i.snd.fst).len ≤ (1000 : Nat) ∧
 ((0 : Int) ≤ i_1.fst ∧ i_1.fst < (↑(nat_lit 4) : Int)) ∧
 i_1.fst.toNat < (rowI (4 : Nat) i.snd.snd).len ∧
 ∃ (i_5 : Zs × (Nat → Int)),
 (Good (4 : Int) i_5.fst ∧ Pt (4 : Int) i_5.fst (vz i_5.snd)) ∧
 row.rows = row.rows ∧
 nat_lit 4 = nat_lit 4 ∧
 (↑i.fst : Int) = (↑i.fst : Int) ∧
 (List.map (fun (j : Nat) => [D.i (i.snd.snd j)]) (List.range (4 : Nat))).set
 i_1.fst.toNat [D.i (IntKind.i64.wrap (i_4 + i_2))] =
 List.map (fun (j : Nat) => [D.i (i_5.snd j)]) (List.range (4 : Nat)) ∧
 (copyZ (4 : Int) i_1.fst i_1.snd i_2 (i.snd.fst.fst, i.snd.fst.snd)).fst =
 i_5.fst.fst ∧
 List.map
 (fun (j : Nat) =>
 [D.i
 (itvLo (4 : Int)
 (copyZ (4 : Int) i_1.fst i_1.snd i_2
 (i.snd.fst.fst, i.snd.fst.snd)).fst
 (copyZ (4 : Int) i_1.fst i_1.snd i_2
 (i.snd.fst.fst, i.snd.fst.snd)).snd
 (↑j : Int)),
 D.i
 (itvHi (4 : Int)
 (copyZ (4 : Int) i_1.fst i_1.snd i_2
 (i.snd.fst.fst, i.snd.fst.snd)).fst
 (copyZ (4 : Int) i_1.fst i_1.snd i_2
 (i.snd.fst.fst, i.snd.fst.snd)).snd
 (↑j : Int))])
 (List.range (itD (4 : Nat) (4 : Int) i.snd.fst).len) =
 List.map
 (fun (j : Nat) =>
 [D.i (itvLo (4 : Int) i_5.fst.fst i_5.fst.snd (↑j : Int)),
 D.i (itvHi (4 : Int) i_5.fst.fst i_5.fst.snd (↑j : Int))])
 (List.range (4 : Nat)) ∧
 (4 : Int) = (4 : Int) ∧
 (copyZ (4 : Int) i_1.fst i_1.snd i_2 (i.snd.fst.fst, i.snd.fst.snd)).fst =
 i_5.fst.fst ∧
 ∀ (o : Nat),
 o < nat_lit 49 →
 (copyZ (4 : Int) i_1.fst i_1.snd i_2
 (i.snd.fst.fst, i.snd.fst.snd)).snd
 o =
 i_5.fst.snd o) ∧
 ((decide (IntKind.i64.wrap (i_4 + i_2) ≥ (-2147483648 : Int)) &&
 decide (IntKind.i64.wrap (i_4 + i_2) ≤ (2147483647 : Int))) =
 false →
 ∃ (i_5 : Zs × (Nat → Int)),
 (Good (4 : Int) i_5.fst ∧ Pt (4 : Int) i_5.fst (vz i_5.snd)) ∧
 row.rows = row.rows ∧
 nat_lit 4 = nat_lit 4 ∧
 (↑i.fst : Int) = (↑i.fst : Int) ∧
 List.map (fun (j : Nat) => [D.i (i.snd.snd j)]) (List.range (4 : Nat)) =
 List.map (fun (j : Nat) => [D.i (i_5.snd j)]) (List.range (4 : Nat)) ∧
 i.snd.fst.fst = i_5.fst.fst ∧
 List.map
 (fun (j : Nat) =>
 [D.i (itvLo (4 : Int) i.snd.fst.fst i.snd.fst.snd (↑j : Int)),
 D.i (itvHi (4 : Int) i.snd.fst.fst i.snd.fst.snd (↑j : Int))])
 (List.range (4 : Nat)) =
 List.map
 (fun (j : Nat) =>
 [D.i (itvLo (4 : Int) i_5.fst.fst i_5.fst.snd (↑j : Int)),
 D.i (itvHi (4 : Int) i_5.fst.fst i_5.fst.snd (↑j : Int))])
 (List.range (4 : Nat)) ∧
 (4 : Int) = (4 : Int) ∧
 i.snd.fst.fst = i_5.fst.fst ∧
 ∀ (o : Nat), o < nat_lit 49 → i.snd.fst.snd o = i_5.fst.snd o)) ∧
 ((IntKind.i64.wrap ((IntKind.u64.wrap (row.el (↑i.fst : Int).toNat (0 : Nat)).toI).tmod (5 : Int)) ==
 (3 : Int)) =
 false →
 ((IntKind.i64.wrap ((IntKind.u64.wrap (row.el (↑i.fst : Int).toNat (0 : Nat)).toI).tmod (5 : Int)) ==
 (4 : Int)) =
 true →
 ((i_1.fst != i_1.snd) = true →
 ((0 : Int) ≤ i_1.fst ∧ i_1.fst < (↑(nat_lit 4) : Int)) ∧
 i_1.fst.toNat < (rowI (4 : Nat) i.snd.snd).len ∧
 Good (4 : Int) (i.snd.fst.fst, i.snd.fst.snd) ∧
 (itD (4 : Nat) (4 : Int) i.snd.fst).len ≤ (1000 : Nat) ∧
 ∃ (i_5 : Zs × (Nat → Int)),
 (Good (4 : Int) i_5.fst ∧ Pt (4 : Int) i_5.fst (vz i_5.snd)) ∧
 row.rows = row.rows ∧
 nat_lit 4 = nat_lit 4 ∧
 (↑i.fst : Int) = (↑i.fst : Int) ∧
 List.map (fun (j : Nat) => [D.i (i.snd.snd j)]) (List.range (4 : Nat)) =
 List.map (fun (j : Nat) => [D.i (i_5.snd j)]) (List.range (4 : Nat)) ∧
 (bndZ (4 : Int) i_1.fst i_1.snd
 (IntKind.i64.wrap
 (IntKind.i64.wrap
 (((rowI (4 : Nat) i.snd.snd).el i_1.fst.toNat (0 : Nat)).toI -
 i_4) +
 if (0 : Int) > i_2 then (0 : Int) else i_2))
 (i.snd.fst.fst, i.snd.fst.snd)).fst =
 i_5.fst.fst ∧
 List.map
 (fun (j : Nat) =>
 [D.i
 (itvLo (4 : Int)
 (bndZ (4 : Int) i_1.fst i_1.snd
 (IntKind.i64.wrap
 (IntKind.i64.wrap
 (((rowI (4 : Nat) i.snd.snd).el i_1.fst.toNat
 (0 : Nat)).toI -
 i_4) +
 if (0 : Int) > i_2 then (0 : Int) else i_2))
 (i.snd.fst.fst, i.snd.fst.snd)).fst
 (bndZ (4 : Int) i_1.fst i_1.snd
 (IntKind.i64.wrap
 (IntKind.i64.wrap
 (((rowI (4 : Nat) i.snd.snd).el i_1.fst.toNat
 (0 : Nat)).toI -
 i_4) +
 if (0 : Int) > i_2 then (0 : Int) else i_2))
 (i.snd.fst.fst, i.snd.fst.snd)).snd
 (↑j : Int)),
 D.i
 (itvHi (4 : Int)
 (bndZ (4 : Int) i_1.fst i_1.snd
 (IntKind.i64.wrap
 (IntKind.i64.wrap
 (((rowI (4 : Nat) i.snd.snd).el i_1.fst.toNat
 (0 : Nat)).toI -
 i_4) +
 if (0 : Int) > i_2 then (0 : Int) else i_2))
 (i.snd.fst.fst, i.snd.fst.snd)).fst
 (bndZ (4 : Int) i_1.fst i_1.snd
 (IntKind.i64.wrap
 (IntKind.i64.wrap
 (((rowI (4 : Nat) i.snd.snd).el i_1.fst.toNat
 (0 : Nat)).toI -
 i_4) +
 if (0 : Int) > i_2 then (0 : Int) else i_2))
 (i.snd.fst.fst, i.snd.fst.snd)).snd
 (↑j : Int))])
 (List.range (itD (4 : Nat) (4 : Int) i.snd.fst).len) =
 List.map
 (fun (j : Nat) =>
 [D.i (itvLo (4 : Int) i_5.fst.fst i_5.fst.snd (↑j : Int)),
 D.i (itvHi (4 : Int) i_5.fst.fst i_5.fst.snd (↑j : Int))])
 (List.range (4 : Nat)) ∧
 (4 : Int) = (4 : Int) ∧
 (bndZ (4 : Int) i_1.fst i_1.snd
 (IntKind.i64.wrap
 (IntKind.i64.wrap
 (((rowI (4 : Nat) i.snd.snd).el i_1.fst.toNat
 (0 : Nat)).toI -
 i_4) +
 if (0 : Int) > i_2 then (0 : Int) else i_2))
 (i.snd.fst.fst, i.snd.fst.snd)).fst =
 i_5.fst.fst ∧
 ∀ (o : Nat),
 o < nat_lit 49 →
 (bndZ (4 : Int) i_1.fst i_1.snd
 (IntKind.i64.wrap
 (IntKind.i64.wrap
 (((rowI (4 : Nat) i.snd.snd).el i_1.fst.toNat
 (0 : Nat)).toI -
 i_4) +
 if (0 : Int) > i_2 then (0 : Int) else i_2))
 (i.snd.fst.fst, i.snd.fst.snd)).snd
 o =
 i_5.fst.snd o) ∧
 ((i_1.fst != i_1.snd) = false →
 ∃ (i_5 : Zs × (Nat → Int)),
 (Good (4 : Int) i_5.fst ∧ Pt (4 : Int) i_5.fst (vz i_5.snd)) ∧
 row.rows = row.rows ∧
 nat_lit 4 = nat_lit 4 ∧
 (↑i.fst : Int) = (↑i.fst : Int) ∧
 List.map (fun (j : Nat) => [D.i (i.snd.snd j)]) (List.range (4 : Nat)) =
 List.map (fun (j : Nat) => [D.i (i_5.snd j)]) (List.range (4 : Nat)) ∧
 i.snd.fst.fst = i_5.fst.fst ∧
 List.map
 (fun (j : Nat) =>
 [D.i (itvLo (4 : Int) i.snd.fst.fst i.snd.fst.snd (↑j : Int)),
 D.i (itvHi (4 : Int) i.snd.fst.fst i.snd.fst.snd (↑j : Int))])
 (List.range (4 : Nat)) =
 List.map
 (fun (j : Nat) =>
 [D.i (itvLo (4 : Int) i_5.fst.fst i_5.fst.snd (↑j : Int)),
 D.i (itvHi (4 : Int) i_5.fst.fst i_5.fst.snd (↑j : Int))])
 (List.range (4 : Nat)) ∧
 (4 : Int) = (4 : Int) ∧
 i.snd.fst.fst = i_5.fst.fst ∧
 ∀ (o : Nat), o < nat_lit 49 → i.snd.fst.snd o = i_5.fst.snd o)) ∧
 ((IntKind.i64.wrap ((IntKind.u64.wrap (row.el (↑i.fst : Int).toNat (0 : Nat)).toI).tmod (5 : Int)) ==
 (4 : Int)) =
 false →
 ∃ (i_5 : Zs × (Nat → Int)),
 (Good (4 : Int) i_5.fst ∧ Pt (4 : Int) i_5.fst (vz i_5.snd)) ∧
 row.rows = row.rows ∧
 nat_lit 4 = nat_lit 4 ∧
 (↑i.fst : Int) = (↑i.fst : Int) ∧
 List.map (fun (j : Nat) => [D.i (i.snd.snd j)]) (List.range (4 : Nat)) =
 List.map (fun (j : Nat) => [D.i (i_5.snd j)]) (List.range (4 : Nat)) ∧
 i.snd.fst.fst = i_5.fst.fst ∧
 List.map
 (fun (j : Nat) =>
 [D.i (itvLo (4 : Int) i.snd.fst.fst i.snd.fst.snd (↑j : Int)),
 D.i (itvHi (4 : Int) i.snd.fst.fst i.snd.fst.snd (↑j : Int))])
 (List.range (4 : Nat)) =
 List.map
 (fun (j : Nat) =>
 [D.i (itvLo (4 : Int) i_5.fst.fst i_5.fst.snd (↑j : Int)),
 D.i (itvHi (4 : Int) i_5.fst.fst i_5.fst.snd (↑j : Int))])
 (List.range (4 : Nat)) ∧
 (4 : Int) = (4 : Int) ∧
 i.snd.fst.fst = i_5.fst.fst ∧
 ∀ (o : Nat), o < nat_lit 49 → i.snd.fst.snd o = i_5.fst.snd o)))))) ∧
 ∀ (i_5 : Zs × (Nat → Int)),
 Good (4 : Int) i_5.fst ∧ Pt (4 : Int) i_5.fst (vz i_5.snd) →
 nat_lit 0 + nat_lit 4 ≤ (rowI (4 : Nat) i_5.snd).len ∧
 (itD (4 : Nat) (4 : Int) i_5.fst).len ≤ (1000 : Nat) ∧
 ((!nhasP i_5.fst.fst (itD (4 : Nat) (4 : Int) i_5.fst) (4 : Int) i_5.fst.fst i_5.fst.snd
 ((rowI (4 : Nat) i_5.snd).sub (nat_lit 0) (nat_lit 0 + nat_lit 4)) ||
 i_5.fst.fst) =
 true →
 false = true) ∧
 ((!nhasP i_5.fst.fst (itD (4 : Nat) (4 : Int) i_5.fst) (4 : Int) i_5.fst.fst i_5.fst.snd
 ((rowI (4 : Nat) i_5.snd).sub (nat_lit 0) (nat_lit 0 + nat_lit 4)) ||
 i_5.fst.fst) =
 false →
 ∃ (j : Nat × Zs × (Nat → Int)),
 (Good (4 : Int) j.snd.fst ∧ Pt (4 : Int) j.snd.fst (vz j.snd.snd)) ∧
 (20 : Nat) - j.fst < (20 : Nat) - i.fst ∧
 IntKind.i64.wrap ((↑i.fst : Int) + (1 : Int)) = (↑j.fst : Int) ∧
 nat_lit 4 = nat_lit 4 ∧
 row.rows = row.rows ∧
 List.map (fun (j : Nat) => [D.i (i_5.snd j)]) (List.range (4 : Nat)) =
 List.map (fun (j_1 : Nat) => [D.i (j.snd.snd j_1)]) (List.range (4 : Nat)) ∧
 i_5.fst.fst = j.snd.fst.fst ∧
 List.map
 (fun (j : Nat) =>
 [D.i (itvLo (4 : Int) i_5.fst.fst i_5.fst.snd (↑j : Int)),
 D.i (itvHi (4 : Int) i_5.fst.fst i_5.fst.snd (↑j : Int))])
 (List.range (4 : Nat)) =
 List.map
 (fun (j_1 : Nat) =>
 [D.i (itvLo (4 : Int) j.snd.fst.fst j.snd.fst.snd (↑j_1 : Int)),
 D.i (itvHi (4 : Int) j.snd.fst.fst j.snd.fst.snd (↑j_1 : Int))])
 (List.range (4 : Nat)) ∧
 (4 : Int) = (4 : Int) ∧
 i_5.fst.fst = j.snd.fst.fst ∧
 ∀ (o : Nat), o < nat_lit 49 → i_5.fst.snd o = j.snd.fst.snd o)) ∧
 ((decide ((↑i.fst : Int) < (↑row.len : Int)) && decide ((↑i.fst : Int) < (16 : Int))) = false →
 (true = true ∧ True → nat_lit 0 + nat_lit 4 ≤ (rowI (4 : Nat) i.snd.snd).len) ∧
 (true = true ∧ True → (itD (4 : Nat) (4 : Int) i.snd.fst).len ≤ (1000 : Nat)) ∧
 ((true &&
 nhasP i.snd.fst.fst (itD (4 : Nat) (4 : Int) i.snd.fst) (4 : Int) i.snd.fst.fst i.snd.fst.snd
 ((rowI (4 : Nat) i.snd.snd).sub (nat_lit 0) (nat_lit 0 + nat_lit 4))) =
 true ∧
 True →
 nat_lit 3 ≤ nat_lit 4) ∧
 ((true &&
 nhasP i.snd.fst.fst (itD (4 : Nat) (4 : Int) i.snd.fst) (4 : Int) i.snd.fst.fst i.snd.fst.snd
 ((rowI (4 : Nat) i.snd.snd).sub (nat_lit 0) (nat_lit 0 + nat_lit 4))) =
 true ∧
 True →
 nat_lit 0 + (0 : Nat) + (nat_lit 3 - (0 : Nat)) ≤ (rowI (4 : Nat) i.snd.snd).len) ∧
 ((true &&
 nhasP i.snd.fst.fst (itD (4 : Nat) (4 : Int) i.snd.fst) (4 : Int) i.snd.fst.fst i.snd.fst.snd
 ((rowI (4 : Nat) i.snd.snd).sub (nat_lit 0) (nat_lit 0 + nat_lit 4))) =
 true ∧
 True →
 (itD (4 : Nat) (4 : Int) i.snd.fst).len ≤ (1000 : Nat)) ∧
 (true &&
 nhasP i.snd.fst.fst (itD (4 : Nat) (4 : Int) i.snd.fst) (4 : Int) i.snd.fst.fst i.snd.fst.snd
 ((rowI (4 : Nat) i.snd.snd).sub (nat_lit 0) (nat_lit 0 + nat_lit 4)) &&
 !nhasP i.snd.fst.fst (itD (4 : Nat) (4 : Int) i.snd.fst) (4 : Int) i.snd.fst.fst i.snd.fst.snd
 ((rowI (4 : Nat) i.snd.snd).sub (nat_lit 0 + (0 : Nat)) (nat_lit 0 + (0 : Nat) + (nat_lit 3 - (0 : Nat))))) =
 true)) (by kernel_rfl) ?_
    simp only [raw0, true_and, and_true, implies_true, Nat.mul_one, Int.toNat_natCast, c7, decide_eq_true_eq, decide_eq_false_iff_not, Nat.zero_add, forall_const, Nat.le_eq, at_iff, bne_iff_ne, bne_eq_false_iff_eq, and_self, and_self_left, Nat.reduceAdd]
    intro hf
    have ht : topN 4 = 4 := rfl
    rw [ht]
    refine ⟨?_, fun q hq => ⟨fun h2 => ?_, fun h2 => ?_⟩⟩
    · have gt := good_top 4
      rw [ht] at gt
      have hp := (top_pt (n := 4) (vz fun j => IntKind.i64.wrap (f j))).2 ⟨rfl, fun i hi => by
        rw [ht, R4] at hi
        unfold vz
        split
        · omega
        · have := hf (i - 1) (by omega)
          show -2147483648 ≤ IntKind.i64.wrap (f (i - 1)) ∧ IntKind.i64.wrap (f (i - 1)) ≤ 2147483647
          rw [wr _ (by omega)]; exact this⟩
      exact ⟨(0, (false, topF 4), fun j => IntKind.i64.wrap (f j)), ⟨gt, hp⟩, rfl, rfl, rfl, rfl, rfl, rfl, fun _ _ => rfl⟩
    · obtain ⟨q0, z, g⟩ := q
      obtain ⟨hG, hP⟩ := hq
      dsimp only at hG hP h2 ⊢
      simp only [Bool.and_eq_true, decide_eq_true_eq] at h2
      obtain ⟨h3, h4⟩ := h2
      have p1 := px4 (row.el q0 1).toI
      have p2 := px5 (row.el q0 2).toI
      have hL : (itD 4 4 z).len = 4 := itD_len _ _ _
      have h46 : (0 : Int) ≤ 4 ∧ (4 : Int) ≤ 6 := by omega
      rw [hL]
      generalize IntKind.i64.wrap ((IntKind.u64.wrap (row.el q0 1).toI).tmod 4) = X at p1 ⊢
      generalize IntKind.i64.wrap ((IntKind.u64.wrap (row.el q0 2).toI).tmod 5) = Y at p2 ⊢
      rw [wr (Y - 1) (by omega)]
      have hnm := norm_in (bend_in (row.el q0 4).toI) (bend_in (row.el q0 5).toI)
      refine ⟨⟨by omega, h3⟩, ⟨(X, Y - 1), ⟨isVar_of h46 (by omega), isEnd_of h46 (by omega)⟩, rfl, rfl⟩, fun xy hxy => ⟨⟨_, tmod_any _, rfl⟩, fun by' hby => ⟨⟨(_, _), ⟨⟨hnm.1, hnm.2.1⟩, hnm.2.2⟩, rfl, rfl⟩, fun k hk => ⟨⟨fun h6 => ?_, fun h6 => ⟨_, rfl, (if_neg h6).symm⟩⟩, fun at' hat => ⟨?_, fun w hw => ?_⟩⟩⟩⟩⟩
      · have := isEndP_lt hxy.2
        have e4 : rowsP 4 = 5 := rfl
        rw [e4] at this
        refine ⟨by omega, by rw [rowI_len]; omega, _, rfl, (if_pos h6).symm⟩
      · obtain ⟨x, y⟩ := xy
        obtain ⟨hx, hy⟩ := hxy
        obtain ⟨lo, hi⟩ := k
        obtain ⟨hlo, hhi⟩ := hk
        dsimp only at hx hy hat hlo hhi ⊢
        have hrn : rowsP 4 = 5 := rfl
        have hxl := isVarP_lt hx
        have hyl := isEndP_lt hy
        rw [hrn] at hxl hyl
        obtain ⟨x1, x2, x3⟩ := isVar_R hx
        obtain ⟨y1, y2⟩ := isEnd_R hy
        have hav : at' = vz g (y + 1).toNat := by
          rw [hat]; unfold vz
          by_cases h : y ≥ 0
          · rw [if_pos h, if_neg (by omega), rowI_el (by omega), show (y + 1).toNat - 1 = y.toNat by omega]
          · rw [if_neg h, if_pos (by omega)]
        have hxv : ((rowI 4 g).el x.toNat 0).toI = vz g (x + 1).toNat := by
          unfold vz
          rw [if_neg (by omega), rowI_el (by omega), show (x + 1).toNat - 1 = x.toNat by omega]
        have r1 := pt_range hG hP x1
        have r2 := pt_range hG hP y1
        have hset := fun b => rowI_set (n := 4) (x := x.toNat) (by omega) g b
        have hup := fun b => vz_upd g (a := (x + 1).toNat) x3 b
        rw [show (x + 1).toNat - 1 = x.toNat by omega] at hup
        rw [hxv]
        rw [← hav] at r2
        have hB : vz g (x + 1).toNat - vz g (y + 1).toNat ≤ IntKind.i64.wrap (IntKind.i64.wrap (vz g (x + 1).toNat - at') + if 0 > by' then 0 else by') := by
          rw [wr (_ - at') (by omega), wr _ (by split <;> omega), hav]
          split <;> omega
        generalize IntKind.i64.wrap (IntKind.i64.wrap (vz g (x + 1).toNat - at') + if 0 > by' then 0 else by') = B at hB ⊢
        rw [wr (at' + by') (by omega)]
        have hBG := good_bnd hG x y B
        have hBP := pt_bnd hG (isVar_end hx) hy hP hB
        have hFG := good_fg hG x
        have hSG := good_met hFG x (ofLo lo hi) (ofHi lo hi)
        have hSP := fun h => (met_pt hFG hx _).2 ⟨pt_fg hG hx hP (b := lo) hlo, by rw [upd_at]; exact of_of (p := lo) (q := hi) h hlo⟩
        rw [hup] at hSP
        have hCG := good_copy hG x y by'
        have hCP := fun h => pt_copy hG hx hy (b := by') (by omega) hP h
        rw [← hav, hup] at hCP
        have hmm : (if lo < vz g (x + 1).toNat then lo else vz g (x + 1).toNat) ≤ vz g (x + 1).toNat ∧ vz g (x + 1).toNat ≤ (if hi > vz g (x + 1).toNat then hi else vz g (x + 1).toNat) := ⟨by split <;> omega, by split <;> omega⟩
        generalize (if lo < vz g (x + 1).toNat then lo else vz g (x + 1).toNat) = M1 at hmm ⊢
        generalize (if hi > vz g (x + 1).toNat then hi else vz g (x + 1).toNat) = M2 at hmm ⊢
        have hMG := good_met hG x (ofLo M1 M2) (ofHi M1 M2)
        have hMP := (met_pt hG hx _).2 ⟨hP, of_of hmm r1⟩
        have hxr : x.toNat < (rowI 4 g).len := by rw [rowI_len]; omega
        have hxn : 0 ≤ x ∧ x < ((4 : Nat) : Int) := by omega
        clear hat hav hxv r1 r2 hup p1 p2 hrn h3 h4 hf hmm hB
        repeat' first
          | exact ⟨(z, g), ⟨hG, hP⟩, rfl, rfl, rfl, rfl, fun _ _ => rfl⟩
          | exact ⟨hG, Nat.le_of_ble_eq_true rfl, hxn, hxr, (metZ 4 x (ofLo lo hi) (ofHi lo hi) (fgZ 4 x z), upd g x.toNat lo), ⟨hSG, hSP ⟨Int.le_refl _, by assumption⟩⟩, hset _, rfl, rfl, rfl, fun _ _ => rfl⟩
          | exact ⟨hxn, hxr, hxn, hxr, hG, Nat.le_of_ble_eq_true rfl, (metZ 4 x (ofLo M1 M2) (ofHi M1 M2) z, g), ⟨hMG, hMP⟩, rfl, rfl, rfl, rfl, fun _ _ => rfl⟩
          | exact ⟨fun h => ⟨hG, Nat.le_of_ble_eq_true rfl, hxn, hxr, (copyZ 4 x y by' z, upd g x.toNat (at' + by')), ⟨hCG, hCP (by simpa using h)⟩, hset _, rfl, rfl, rfl, fun _ _ => rfl⟩, fun _ => ⟨(z, g), ⟨hG, hP⟩, rfl, rfl, rfl, rfl, fun _ _ => rfl⟩⟩
          | exact ⟨fun _ => ⟨hxn, hxr, hG, Nat.le_of_ble_eq_true rfl, (bndZ 4 x y B z, g), ⟨hBG, hBP⟩, rfl, rfl, rfl, rfl, fun _ _ => rfl⟩, fun _ => ⟨(z, g), ⟨hG, hP⟩, rfl, rfl, rfl, rfl, fun _ _ => rfl⟩⟩
          | refine ⟨fun _ => ?_, fun _ => ?_⟩
          | intro _
      · obtain ⟨z', g'⟩ := w
        obtain ⟨hG', hP'⟩ := hw
        dsimp only at hG' hP' ⊢
        have hn : nhasP z'.1 (itD 4 4 z') 4 z'.1 z'.2 ((rowI 4 g').sub 0 4) = true := nhas_pt hG' hP' (by have := sub_all (rowI 4 g') (n := 4) (rowI_len 4 g').symm; rwa [Nat.zero_add] at this)
        rw [hn, hP'.1, rowI_len, itD_len]
        exact ⟨Nat.le_refl _, Nat.le_of_ble_eq_true rfl, (fun h => by cases h), fun _ => ⟨(q0 + 1, z', g'), ⟨hG', hP'⟩, by omega, wr _ (by omega), rfl, hP'.1.symm, by rw [hP'.1], hP'.1.symm, fun _ _ => rfl⟩⟩
    · obtain ⟨q0, z, g⟩ := q
      obtain ⟨hG, hP⟩ := hq
      dsimp only at hG hP h2 ⊢
      have hn : nhasP z.1 (itD 4 4 z) 4 z.1 z.2 ((rowI 4 g).sub 0 4) = true := nhas_pt hG hP (by have := sub_all (rowI 4 g) (n := 4) (rowI_len 4 g).symm; rwa [Nat.zero_add] at this)
      have hn2 : nhasP z.1 (itD 4 4 z) 4 z.1 z.2 ((rowI 4 g).sub 0 (3 - 0)) = false := nhas_len (by rw [D.sub_len _ (by rw [rowI_len]; omega), itD_len]; omega)
      rw [hn, hn2, rowI_len, itD_len]
      exact ⟨Nat.le_refl _, Nat.le_of_ble_eq_true rfl, fun _ => by omega, fun _ => by omega, fun _ => by omega, rfl⟩
  · trivial
end Go.Proofs.Ytefdfggkhnahiaa.Sx.Z
