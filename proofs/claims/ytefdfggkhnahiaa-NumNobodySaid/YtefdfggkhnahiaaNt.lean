/-
  NumNobody's contract.
-/
import Derived.Test.YtefdfggkhnahiaaNq
namespace Go.Proofs.Ytefdfggkhnahiaa.Sx.Z
open Go.RowKit
def k6 (x : Int) : Int := IntKind.i64.wrap ((IntKind.u64.wrap x).tmod 6)
theorem k6_in (x : Int) : 0 ≤ k6 x ∧ k6 x < 6 := by
  have h := u64_in x
  have h2 := tmod_in h.1 (show (0 : Int) < 6 by omega)
  unfold k6
  rw [wr _ (by omega)]; exact h2
def nnobodyS : FSpec := fun ds _ => match ds with
  | [.i n, .i x, .i i1, .i i2] => some { val := .one (.sc (.bool (.sym (true)))), vc := [] }
  | _ => none
def nnobodyC : Con := con [iA, iA, itvA] nnobodyS
theorem nnobody_ok : ConOK Try.prog 6 nnobodyC := by
  refine fn_ob tt_ok mixed Try.func6 rfl (fun _ _ => by kernel_rfl) (A := fun ds => ⟨fun _ => Cons.of [(13, nzerosC), (19, zerosNC), (11, ntopC), (28, nsetC), (31, ncopyC), (30, nmeetC), (32, nboundC), (20, njoinC), (22, nwidenC), (24, nwithinC), (33, nhasC), (34, nrightC), (16, likeC), (15, meetsC)], fun _ => none, fun k => match k, ds with | 4, [.i n, .i x, .i i1, .i i2] => some { ι := Bool, pre := fun _ _ => True, μ := fun _ => 0, st := fun s _ => famR s [(7, .one (.sc (.int .i64 (.sym (k6 n))))), (9, .one (.sc (.int .i64 (.sym (x))))), (8, .one (.sc (.ptr (s.nx - 1) (.lit 0))))] [1, 5] [(s.nx - 1, .own 30 ([.c (.bool (.sym ((false, fun _ => 0) : Zs).1)), .c (.rows 53 (itD ((k6 n).toNat) (k6 n) ((false, fun _ => 0)))), .c (.int .i64 (.sym (k6 n))), .c (.bool (.sym ((false, fun _ => 0) : Zs).1)), .ints .i64 (.lit 49) ((false, fun _ => 0) : Zs).2]))] [5] } | 6, [.i n, .i x, .i i1, .i i2] => some { ι := Int, pre := fun _ q => q < 0 ∨ k6 n ≤ q, μ := fun _ => 0, st := fun s q => famR s [(9, .one (.sc (.int .i64 (.sym (q)))))] [5, 7, 8] [] [5, 8] } | 9, [.i n, .i x, .i i1, .i i2] => some { ι := Bool, pre := fun _ _ => True, μ := fun _ => 0, st := fun s _ => famR s [(12, .one (.sc (.ptr (s.nx - 1) (.lit 0))))] [5, 7, 8, 9, 10, 11] [(s.nx - 1, .own 30 ([.c (.bool (.sym false)), .c (.rows 53 (.l [[.i i1, .i i2], [.i i1, .i i2]])), .c (.int .i64 (.sym 0)), .c (.bool (.sym false)), .ints .i64 (.lit 49) (fun _ => 0)])), (s.nx + 16, .gone)] [5, 8, 10, 11] } | _, _ => none⟩) (fun _ _ => (cons_cons nzeros_ok (cons_cons zerosN_ok (cons_cons ntop_ok (cons_cons nset_ok (cons_cons ncopy_ok (cons_cons nmeet_ok (cons_cons nbound_ok (cons_cons njoin_ok (cons_cons nwiden_ok (cons_cons nwithin_ok (cons_cons nhas_ok (cons_cons nright_ok (cons_cons like_ok (cons_cons meets_ok cons_nil))))))))))))))) (by kernel_rfl) ?_
  intro ds fr
  unfold nnobodyS
  split
  · rename_i n x i1 i2
    refine kmp (q := (∃ (i : Bool),
 True ∧
 IntKind.i64.wrap ((IntKind.u64.wrap n).tmod (6 : Int)) = k6 n ∧
 x = x ∧
 x = x ∧
 false = false ∧
 List.map
 (fun (j : Nat) =>
 [D.i (itvLo (topN (IntKind.i64.wrap ((IntKind.u64.wrap n).tmod (6 : Int)))) false (fun (x : Nat) => (0 : Int)) (↑j : Int)),
 D.i (itvHi (topN (IntKind.i64.wrap ((IntKind.u64.wrap n).tmod (6 : Int)))) false (fun (x : Nat) => (0 : Int)) (↑j : Int))])
 (List.range (topN (IntKind.i64.wrap ((IntKind.u64.wrap n).tmod (6 : Int)))).toNat) =
 List.map
 (fun (j : Nat) =>
 [D.i (itvLo (k6 n) false (fun (x : Nat) => (0 : Int)) (↑j : Int)), D.i (itvHi (k6 n) false (fun (x : Nat) => (0 : Int)) (↑j : Int))])
 (List.range (k6 n).toNat) ∧
 topN (IntKind.i64.wrap ((IntKind.u64.wrap n).tmod (6 : Int))) = k6 n ∧
 false = false ∧ (∀ (o : Nat), o < nat_lit 49 → (0 : Int) = (0 : Int)) ∧ i1 = i1 ∧ i2 = i2) ∧
 ∀ (i : Bool),
 True →
 (((decide (x ≥ (0 : Int)) && decide (x < k6 n)) = true →
 ∃ (i : Int),
 (i < (0 : Int) ∨ k6 n ≤ i) ∧
 IntKind.i64.wrap (k6 n + x) = i ∧
 k6 n = k6 n ∧
 i1 = i1 ∧
 i2 = i2 ∧
 false = false ∧
 List.map
 (fun (j : Nat) =>
 [D.i (itvLo (k6 n) false (fun (x : Nat) => (0 : Int)) (↑j : Int)),
 D.i (itvHi (k6 n) false (fun (x : Nat) => (0 : Int)) (↑j : Int))])
 (List.range (k6 n).toNat) =
 List.map
 (fun (j : Nat) =>
 [D.i (itvLo (k6 n) false (fun (x : Nat) => (0 : Int)) (↑j : Int)),
 D.i (itvHi (k6 n) false (fun (x : Nat) => (0 : Int)) (↑j : Int))])
 (List.range (k6 n).toNat) ∧
 k6 n = k6 n ∧ false = false ∧ ∀ (o : Nat), o < nat_lit 49 → (0 : Int) = (0 : Int)) ∧
 ((decide (x ≥ (0 : Int)) && decide (x < k6 n)) = false →
 ∃ (i : Int),
 (i < (0 : Int) ∨ k6 n ≤ i) ∧
 x = i ∧
 k6 n = k6 n ∧
 i1 = i1 ∧
 i2 = i2 ∧
 false = false ∧
 List.map
 (fun (j : Nat) =>
 [D.i (itvLo (k6 n) false (fun (x : Nat) => (0 : Int)) (↑j : Int)),
 D.i (itvHi (k6 n) false (fun (x : Nat) => (0 : Int)) (↑j : Int))])
 (List.range (k6 n).toNat) =
 List.map
 (fun (j : Nat) =>
 [D.i (itvLo (k6 n) false (fun (x : Nat) => (0 : Int)) (↑j : Int)),
 D.i (itvHi (k6 n) false (fun (x : Nat) => (0 : Int)) (↑j : Int))])
 (List.range (k6 n).toNat) ∧
 k6 n = k6 n ∧ false = false ∧ ∀ (o : Nat), o < nat_lit 49 → (0 : Int) = (0 : Int))) ∧
 ∀ (i : Int),
 i < (0 : Int) ∨ k6 n ≤ i →
 (∃ (i_1 : Bool),
 True ∧
 nat_lit 0 + nat_lit 2 ≤ (D.l [[D.i i1, D.i i2], [D.i i1, D.i i2]]).len ∧
 nat_lit 0 + nat_lit 2 ≤ (D.l [[D.i i1, D.i i2], [D.i i1, D.i i2]]).len ∧
 nat_lit 0 + nat_lit 2 ≤ (D.l [[D.i i1, D.i i2], [D.i i1, D.i i2]]).len ∧
 k6 n = k6 n ∧
 i = i ∧
 false = false ∧
 List.drop (nat_lit 0) (List.take (nat_lit 0 + nat_lit 2) [[D.i i1, D.i i2], [D.i i1, D.i i2]]) =
 [[D.i i1, D.i i2], [D.i i1, D.i i2]] ∧
 (0 : Int) = (0 : Int) ∧
 false = false ∧
 (∀ (o : Nat), o < nat_lit 49 → (0 : Int) = (0 : Int)) ∧
 i1 = i1 ∧
 i2 = i2 ∧
 false = false ∧
 List.map
 (fun (j : Nat) =>
 [D.i (itvLo (k6 n) false (fun (x : Nat) => (0 : Int)) (↑j : Int)),
 D.i (itvHi (k6 n) false (fun (x : Nat) => (0 : Int)) (↑j : Int))])
 (List.range (k6 n).toNat) =
 List.map
 (fun (j : Nat) =>
 [D.i (itvLo (k6 n) false (fun (x : Nat) => (0 : Int)) (↑j : Int)),
 D.i (itvHi (k6 n) false (fun (x : Nat) => (0 : Int)) (↑j : Int))])
 (List.range (k6 n).toNat) ∧
 k6 n = k6 n ∧
 false = false ∧
 (∀ (o : Nat), o < nat_lit 49 → (0 : Int) = (0 : Int)) ∧
 i1 = i1 ∧
 i2 = i2 ∧
 false = false ∧
 List.map
 (fun (j : Nat) =>
 [D.i
 (itvLo (topN (IntKind.i64.wrap (k6 n + (1 : Int)))) false
 (topF (IntKind.i64.wrap (k6 n + (1 : Int)))) (↑j : Int)),
 D.i
 (itvHi (topN (IntKind.i64.wrap (k6 n + (1 : Int)))) false
 (topF (IntKind.i64.wrap (k6 n + (1 : Int)))) (↑j : Int))])
 (List.range (topN (IntKind.i64.wrap (k6 n + (1 : Int)))).toNat) =
 List.map
 (fun (j : Nat) =>
 [D.i
 (itvLo (topN (IntKind.i64.wrap (k6 n + (1 : Int)))) false
 (topF (IntKind.i64.wrap (k6 n + (1 : Int)))) (↑j : Int)),
 D.i
 (itvHi (topN (IntKind.i64.wrap (k6 n + (1 : Int)))) false
 (topF (IntKind.i64.wrap (k6 n + (1 : Int)))) (↑j : Int))])
 (List.range (topN (IntKind.i64.wrap (k6 n + (1 : Int)))).toNat) ∧
 topN (IntKind.i64.wrap (k6 n + (1 : Int))) = topN (IntKind.i64.wrap (k6 n + (1 : Int))) ∧
 false = false ∧
 ∀ (o : Nat),
 o < nat_lit 49 →
 topF (IntKind.i64.wrap (k6 n + (1 : Int))) o =
 topF (IntKind.i64.wrap (k6 n + (1 : Int))) o) ∧
 ∀ (i_1 : Bool),
 True →
 Good (0 : Int) (false, fun (x : Nat) => (0 : Int)) ∧
 (D.l [[D.i i1, D.i i2], [D.i i1, D.i i2]]).len ≤ (1000 : Nat) ∧
 Good (0 : Int) (false, fun (x : Nat) => (0 : Int)) ∧
 (D.l [[D.i i1, D.i i2], [D.i i1, D.i i2]]).len ≤ (1000 : Nat) ∧
 Good (0 : Int) (false, fun (x : Nat) => (0 : Int)) ∧
 (D.l [[D.i i1, D.i i2], [D.i i1, D.i i2]]).len ≤ (1000 : Nat) ∧
 Good (0 : Int) (false, fun (x : Nat) => (0 : Int)) ∧
 Good (k6 n) (false, fun (x : Nat) => (0 : Int)) ∧
 (D.l [[D.i i1, D.i i2], [D.i i1, D.i i2]]).len ≤ (1000 : Nat) ∧
 (0 : Nat) + (2 : Nat) ≤ (D.l [[D.i (1 : Int)], [D.i (2 : Int)]]).len ∧
 (D.l [[D.i i1, D.i i2], [D.i i1, D.i i2]]).len ≤ (1000 : Nat) ∧
 (true = true ∧ True → Good (k6 n) (false, fun (x : Nat) => (0 : Int))) ∧
 (true = true ∧ True → (itD (k6 n).toNat (k6 n) (false, fun (x : Nat) => (0 : Int))).len ≤ (1000 : Nat)) ∧
 (true = true ∧ True → (0 : Int) ≤ k6 n ∧ k6 n ≤ (6 : Int)) ∧
 (true = true ∧ True →
 Good (k6 n)
 ((metZ (k6 n) i i1 i2 (fgZ (k6 n) i (false, fun (x : Nat) => (0 : Int)))).fst,
 (metZ (k6 n) i i1 i2 (fgZ (k6 n) i (false, fun (x : Nat) => (0 : Int)))).snd)) ∧
 (true = true ∧ True →
 (metZ (k6 n) i i1 i2 (fgZ (k6 n) i (false, fun (x : Nat) => (0 : Int)))).fst =
 (metZ (k6 n) i i1 i2 (fgZ (k6 n) i (false, fun (x : Nat) => (0 : Int)))).fst) ∧
 (true = true ∧ True →
 List.map
 (fun (j : Nat) =>
 [D.i
 (itvLo (k6 n) (metZ (k6 n) i i1 i2 (fgZ (k6 n) i (false, fun (x : Nat) => (0 : Int)))).fst
 (metZ (k6 n) i i1 i2 (fgZ (k6 n) i (false, fun (x : Nat) => (0 : Int)))).snd (↑j : Int)),
 D.i
 (itvHi (k6 n) (metZ (k6 n) i i1 i2 (fgZ (k6 n) i (false, fun (x : Nat) => (0 : Int)))).fst
 (metZ (k6 n) i i1 i2 (fgZ (k6 n) i (false, fun (x : Nat) => (0 : Int)))).snd (↑j : Int))])
 (List.range (itD (k6 n).toNat (k6 n) (false, fun (x : Nat) => (0 : Int))).len) =
 List.map
 (fun (j : Nat) =>
 [D.i
 (itvLo (k6 n) (metZ (k6 n) i i1 i2 (fgZ (k6 n) i (false, fun (x : Nat) => (0 : Int)))).fst
 (metZ (k6 n) i i1 i2 (fgZ (k6 n) i (false, fun (x : Nat) => (0 : Int)))).snd (↑j : Int)),
 D.i
 (itvHi (k6 n) (metZ (k6 n) i i1 i2 (fgZ (k6 n) i (false, fun (x : Nat) => (0 : Int)))).fst
 (metZ (k6 n) i i1 i2 (fgZ (k6 n) i (false, fun (x : Nat) => (0 : Int)))).snd (↑j : Int))])
 (List.range (k6 n).toNat)) ∧
 (true = true ∧ True → k6 n = k6 n) ∧
 (true = true ∧ True →
 false = (metZ (k6 n) i i1 i2 (fgZ (k6 n) i (false, fun (x : Nat) => (0 : Int)))).fst) ∧
 (true = true ∧ True →
 ∀ (o : Nat),
 o < (49 : Nat) →
 (0 : Int) = (metZ (k6 n) i i1 i2 (fgZ (k6 n) i (false, fun (x : Nat) => (0 : Int)))).snd o) ∧
 ((true && true) = true ∧ True → Good (k6 n) (false, fun (x : Nat) => (0 : Int))) ∧
 ((true && true) = true ∧ True →
 (itD (k6 n).toNat (k6 n) (false, fun (x : Nat) => (0 : Int))).len ≤ (1000 : Nat)) ∧
 ((true && true) = true ∧ True → (0 : Int) ≤ k6 n ∧ k6 n ≤ (6 : Int)) ∧
 ((true && true) = true ∧ True →
 Good (k6 n)
 ((metZ (k6 n) i i1 i2 (false, fun (x : Nat) => (0 : Int))).fst,
 (metZ (k6 n) i i1 i2 (false, fun (x : Nat) => (0 : Int))).snd)) ∧
 ((true && true) = true ∧ True →
 (metZ (k6 n) i i1 i2 (false, fun (x : Nat) => (0 : Int))).fst =
 (metZ (k6 n) i i1 i2 (false, fun (x : Nat) => (0 : Int))).fst) ∧
 ((true && true) = true ∧ True →
 List.map
 (fun (j : Nat) =>
 [D.i
 (itvLo (k6 n) (metZ (k6 n) i i1 i2 (false, fun (x : Nat) => (0 : Int))).fst
 (metZ (k6 n) i i1 i2 (false, fun (x : Nat) => (0 : Int))).snd (↑j : Int)),
 D.i
 (itvHi (k6 n) (metZ (k6 n) i i1 i2 (false, fun (x : Nat) => (0 : Int))).fst
 (metZ (k6 n) i i1 i2 (false, fun (x : Nat) => (0 : Int))).snd (↑j : Int))])
 (List.range (itD (k6 n).toNat (k6 n) (false, fun (x : Nat) => (0 : Int))).len) =
 List.map
 (fun (j : Nat) =>
 [D.i
 (itvLo (k6 n) (metZ (k6 n) i i1 i2 (false, fun (x : Nat) => (0 : Int))).fst
 (metZ (k6 n) i i1 i2 (false, fun (x : Nat) => (0 : Int))).snd (↑j : Int)),
 D.i
 (itvHi (k6 n) (metZ (k6 n) i i1 i2 (false, fun (x : Nat) => (0 : Int))).fst
 (metZ (k6 n) i i1 i2 (false, fun (x : Nat) => (0 : Int))).snd (↑j : Int))])
 (List.range (k6 n).toNat)) ∧
 ((true && true) = true ∧ True → k6 n = k6 n) ∧
 ((true && true) = true ∧ True →
 false = (metZ (k6 n) i i1 i2 (false, fun (x : Nat) => (0 : Int))).fst) ∧
 ((true && true) = true ∧ True →
 ∀ (o : Nat),
 o < (49 : Nat) →
 (0 : Int) = (metZ (k6 n) i i1 i2 (false, fun (x : Nat) => (0 : Int))).snd o) ∧
 ((true && true && true) = true ∧ True →
 Good (k6 n) (false, fun (x : Nat) => (0 : Int))) ∧
 ((true && true && true) = true ∧ True →
 (itD (k6 n).toNat (k6 n) (false, fun (x : Nat) => (0 : Int))).len ≤
 (1000 : Nat)) ∧
 ((true && true && true) = true ∧ True → (0 : Int) ≤ k6 n ∧ k6 n ≤ (6 : Int)) ∧
 ((true && true && true) = true ∧ True →
 Good (k6 n)
 ((copyZ (k6 n) i (-1 : Int) (1 : Int)
 (false, fun (x : Nat) => (0 : Int))).fst,
 (copyZ (k6 n) i (-1 : Int) (1 : Int)
 (false, fun (x : Nat) => (0 : Int))).snd)) ∧
 ((true && true && true) = true ∧ True →
 (copyZ (k6 n) i (-1 : Int) (1 : Int)
 (false, fun (x : Nat) => (0 : Int))).fst =
 (copyZ (k6 n) i (-1 : Int) (1 : Int)
 (false, fun (x : Nat) => (0 : Int))).fst) ∧
 ((true && true && true) = true ∧ True →
 List.map
 (fun (j : Nat) =>
 [D.i
 (itvLo (k6 n)
 (copyZ (k6 n) i (-1 : Int) (1 : Int)
 (false, fun (x : Nat) => (0 : Int))).fst
 (copyZ (k6 n) i (-1 : Int) (1 : Int)
 (false, fun (x : Nat) => (0 : Int))).snd
 (↑j : Int)),
 D.i
 (itvHi (k6 n)
 (copyZ (k6 n) i (-1 : Int) (1 : Int)
 (false, fun (x : Nat) => (0 : Int))).fst
 (copyZ (k6 n) i (-1 : Int) (1 : Int)
 (false, fun (x : Nat) => (0 : Int))).snd
 (↑j : Int))])
 (List.range
 (itD (k6 n).toNat (k6 n)
 (false, fun (x : Nat) => (0 : Int))).len) =
 List.map
 (fun (j : Nat) =>
 [D.i
 (itvLo (k6 n)
 (copyZ (k6 n) i (-1 : Int) (1 : Int)
 (false, fun (x : Nat) => (0 : Int))).fst
 (copyZ (k6 n) i (-1 : Int) (1 : Int)
 (false, fun (x : Nat) => (0 : Int))).snd
 (↑j : Int)),
 D.i
 (itvHi (k6 n)
 (copyZ (k6 n) i (-1 : Int) (1 : Int)
 (false, fun (x : Nat) => (0 : Int))).fst
 (copyZ (k6 n) i (-1 : Int) (1 : Int)
 (false, fun (x : Nat) => (0 : Int))).snd
 (↑j : Int))])
 (List.range (k6 n).toNat)) ∧
 ((true && true && true) = true ∧ True → k6 n = k6 n) ∧
 ((true && true && true) = true ∧ True →
 false =
 (copyZ (k6 n) i (-1 : Int) (1 : Int)
 (false, fun (x : Nat) => (0 : Int))).fst) ∧
 ((true && true && true) = true ∧ True →
 ∀ (o : Nat),
 o < (49 : Nat) →
 (0 : Int) =
 (copyZ (k6 n) i (-1 : Int) (1 : Int)
 (false, fun (x : Nat) => (0 : Int))).snd
 o) ∧
 ((true && true && true && true) = true ∧ True →
 Good (k6 n) (false, fun (x : Nat) => (0 : Int))) ∧
 ((true && true && true && true) = true ∧ True →
 (itD (k6 n).toNat (k6 n)
 (false, fun (x : Nat) => (0 : Int))).len ≤
 (1000 : Nat)) ∧
 ((true && true && true && true) = true ∧ True →
 (0 : Int) ≤ k6 n ∧ k6 n ≤ (6 : Int)) ∧
 ((true && true && true && true) = true ∧ True →
 Good (k6 n)
 ((bndZ (k6 n) i (-1 : Int) (1 : Int)
 (false, fun (x : Nat) => (0 : Int))).fst,
 (bndZ (k6 n) i (-1 : Int) (1 : Int)
 (false, fun (x : Nat) => (0 : Int))).snd)) ∧
 ((true && true && true && true) = true ∧ True →
 (bndZ (k6 n) i (-1 : Int) (1 : Int)
 (false, fun (x : Nat) => (0 : Int))).fst =
 (bndZ (k6 n) i (-1 : Int) (1 : Int)
 (false, fun (x : Nat) => (0 : Int))).fst) ∧
 ((true && true && true && true) = true ∧ True →
 List.map
 (fun (j : Nat) =>
 [D.i
 (itvLo (k6 n)
 (bndZ (k6 n) i (-1 : Int) (1 : Int)
 (false, fun (x : Nat) =>
 (0 : Int))).fst
 (bndZ (k6 n) i (-1 : Int) (1 : Int)
 (false, fun (x : Nat) =>
 (0 : Int))).snd
 (↑j : Int)),
 D.i
 (itvHi (k6 n)
 (bndZ (k6 n) i (-1 : Int) (1 : Int)
 (false, fun (x : Nat) =>
 (0 : Int))).fst
 (bndZ (k6 n) i (-1 : Int) (1 : Int)
 (false, fun (x : Nat) =>
 (0 : Int))).snd
 (↑j : Int))])
 (List.range
 (itD (k6 n).toNat (k6 n)
 (false, fun (x : Nat) =>
 (0 : Int))).len) =
 List.map
 (fun (j : Nat) =>
 [D.i
 (itvLo (k6 n)
 (bndZ (k6 n) i (-1 : Int) (1 : Int)
 (false, fun (x : Nat) =>
 (0 : Int))).fst
 (bndZ (k6 n) i (-1 : Int) (1 : Int)
 (false, fun (x : Nat) =>
 (0 : Int))).snd
 (↑j : Int)),
 D.i
 (itvHi (k6 n)
 (bndZ (k6 n) i (-1 : Int) (1 : Int)
 (false, fun (x : Nat) =>
 (0 : Int))).fst
 (bndZ (k6 n) i (-1 : Int) (1 : Int)
 (false, fun (x : Nat) =>
 (0 : Int))).snd
 (↑j : Int))])
 (List.range (k6 n).toNat)) ∧
 ((true && true && true && true) = true ∧ True →
 k6 n = k6 n) ∧
 ((true && true && true && true) = true ∧ True →
 false =
 (bndZ (k6 n) i (-1 : Int) (1 : Int)
 (false, fun (x : Nat) =>
 (0 : Int))).fst) ∧
 ((true && true && true && true) = true ∧ True →
 ∀ (o : Nat),
 o < (49 : Nat) →
 (0 : Int) =
 (bndZ (k6 n) i (-1 : Int) (1 : Int)
 (false, fun (x : Nat) =>
 (0 : Int))).snd
 o) ∧
 ((true && true && true && true && true) = true ∧
 True →
 Good (k6 n)
 (false, fun (x : Nat) => (0 : Int))) ∧
 ((true && true && true && true && true) =
 true ∧
 True →
 Good
 (topN
 (IntKind.i64.wrap (k6 n + (1 : Int))))
 (false,
 topF
 (IntKind.i64.wrap
 (k6 n + (1 : Int))))) ∧
 ((true && true && true && true && true) =
 true ∧
 True →
 (itD (k6 n).toNat (k6 n)
 (false, fun (x : Nat) =>
 (0 : Int))).len ≤
 (1000 : Nat)) ∧
 ((true && true && true && true && true) =
 true ∧
 True →
 (0 : Int) ≤ k6 n ∧ k6 n ≤ (6 : Int)) ∧
 ((true && true && true && true &&
 true) =
 true ∧
 True →
 Good (k6 n)
 (jnC (k6 n) false
 (topN
 (IntKind.i64.wrap
 (k6 n + (1 : Int))))
 false,
 jnF (k6 n) false
 (fun (x : Nat) => (0 : Int))
 (topN
 (IntKind.i64.wrap
 (k6 n + (1 : Int))))
 false
 (topF
 (IntKind.i64.wrap
 (k6 n + (1 : Int)))))) ∧
 ((true && true && true && true &&
 true) =
 true ∧
 True →
 jnC (k6 n) false
 (topN
 (IntKind.i64.wrap
 (k6 n + (1 : Int))))
 false =
 jnC (k6 n) false
 (topN
 (IntKind.i64.wrap
 (k6 n + (1 : Int))))
 false) ∧
 ((true && true && true && true &&
 true) =
 true ∧
 True →
 List.map
 (fun (j : Nat) =>
 [D.i
 (itvLo (k6 n)
 (jnC (k6 n) false
 (topN
 (IntKind.i64.wrap
 (k6 n +
 (1 : Int))))
 false)
 (jnF (k6 n) false
 (fun (x : Nat) =>
 (0 : Int))
 (topN
 (IntKind.i64.wrap
 (k6 n +
 (1 : Int))))
 false
 (topF
 (IntKind.i64.wrap
 (k6 n +
 (1 :
 Int)))))
 (↑j : Int)),
 D.i
 (itvHi (k6 n)
 (jnC (k6 n) false
 (topN
 (IntKind.i64.wrap
 (k6 n +
 (1 : Int))))
 false)
 (jnF (k6 n) false
 (fun (x : Nat) =>
 (0 : Int))
 (topN
 (IntKind.i64.wrap
 (k6 n +
 (1 : Int))))
 false
 (topF
 (IntKind.i64.wrap
 (k6 n +
 (1 :
 Int)))))
 (↑j : Int))])
 (List.range
 (itD (k6 n).toNat (k6 n)
 (false,
 fun (x : Nat) =>
 (0 : Int))).len) =
 List.map
 (fun (j : Nat) =>
 [D.i
 (itvLo (k6 n)
 (jnC (k6 n) false
 (topN
 (IntKind.i64.wrap
 (k6 n +
 (1 : Int))))
 false)
 (jnF (k6 n) false
 (fun (x : Nat) =>
 (0 : Int))
 (topN
 (IntKind.i64.wrap
 (k6 n +
 (1 : Int))))
 false
 (topF
 (IntKind.i64.wrap
 (k6 n +
 (1 :
 Int)))))
 (↑j : Int)),
 D.i
 (itvHi (k6 n)
 (jnC (k6 n) false
 (topN
 (IntKind.i64.wrap
 (k6 n +
 (1 : Int))))
 false)
 (jnF (k6 n) false
 (fun (x : Nat) =>
 (0 : Int))
 (topN
 (IntKind.i64.wrap
 (k6 n +
 (1 : Int))))
 false
 (topF
 (IntKind.i64.wrap
 (k6 n +
 (1 :
 Int)))))
 (↑j : Int))])
 (List.range (k6 n).toNat)) ∧
 ((true && true && true && true &&
 true) =
 true ∧
 True →
 k6 n = k6 n) ∧
 ((true && true && true &&
 true &&
 true) =
 true ∧
 True →
 false =
 jnC (k6 n) false
 (topN
 (IntKind.i64.wrap
 (k6 n + (1 : Int))))
 false) ∧
 ((true && true && true &&
 true &&
 true) =
 true ∧
 True →
 ∀ (o : Nat),
 o < (49 : Nat) →
 (0 : Int) =
 jnF (k6 n) false
 (fun (x : Nat) =>
 (0 : Int))
 (topN
 (IntKind.i64.wrap
 (k6 n +
 (1 : Int))))
 false
 (topF
 (IntKind.i64.wrap
 (k6 n +
 (1 : Int))))
 o) ∧
 ((true && true && true &&
 true &&
 true &&
 true) =
 true ∧
 True →
 Good (k6 n)
 (false,
 fun (x : Nat) =>
 (0 : Int))) ∧
 ((true && true && true &&
 true &&
 true &&
 true) =
 true ∧
 True →
 Good
 (topN
 (IntKind.i64.wrap
 (k6 n +
 (1 : Int))))
 (false,
 topF
 (IntKind.i64.wrap
 (k6 n +
 (1 :
 Int))))) ∧
 ((true && true &&
 true &&
 true &&
 true &&
 true) =
 true ∧
 True →
 (itD (k6 n).toNat
 (k6 n)
 (false,
 fun
 (x :
 Nat) =>
 (0 :
 Int))).len ≤
 (1000 : Nat)) ∧
 ((true && true &&
 true &&
 true &&
 true &&
 true) =
 true ∧
 True →
 (0 : Int) ≤ k6 n ∧
 k6 n ≤
 (6 : Int)) ∧
 ((true && true &&
 true &&
 true &&
 true &&
 true) =
 true ∧
 True →
 Good (k6 n)
 (widC (k6 n)
 false
 (fun
 (x :
 Nat) =>
 (0 :
 Int))
 (topN
 (IntKind.i64.wrap
 (k6
 n +
 (1 :
 Int))))
 false
 (topF
 (IntKind.i64.wrap
 (k6
 n +
 (1 :
 Int)))),
 widF (k6 n)
 false
 (fun
 (x :
 Nat) =>
 (0 :
 Int))
 (topN
 (IntKind.i64.wrap
 (k6
 n +
 (1 :
 Int))))
 false
 (topF
 (IntKind.i64.wrap
 (k6
 n +
 (1 :
 Int)))))) ∧
 ((true && true &&
 true &&
 true &&
 true &&
 true) =
 true ∧
 True →
 widC (k6 n)
 false
 (fun
 (x :
 Nat) =>
 (0 :
 Int))
 (topN
 (IntKind.i64.wrap
 (k6
 n +
 (1 :
 Int))))
 false
 (topF
 (IntKind.i64.wrap
 (k6
 n +
 (1 :
 Int)))) =
 widC (k6 n)
 false
 (fun
 (x :
 Nat) =>
 (0 :
 Int))
 (topN
 (IntKind.i64.wrap
 (k6
 n +
 (1 :
 Int))))
 false
 (topF
 (IntKind.i64.wrap
 (k6
 n +
 (1 :
 Int))))) ∧
 ((true &&
 true &&
 true &&
 true &&
 true &&
 true) =
 true ∧
 True →
 List.map
 (fun
 (j :
 Nat) =>
 [D.i
 (itvLo
 (k6
 n)
 (widC
 (k6
 n)
 false
 (fun
 (x :
 Nat) =>
 (0 :
 Int))
 (topN
 (IntKind.i64.wrap
 (k6
 n +
 (1 :
 Int))))
 false
 (topF
 (IntKind.i64.wrap
 (k6
 n +
 (1 :
 Int)))))
 (widF
 (k6
 n)
 false
 (fun
 (x :
 Nat) =>
 (0 :
 Int))
 (topN
 (IntKind.i64.wrap
 (k6
 n +
 (1 :
 Int))))
 false
 (topF
 (IntKind.i64.wrap
 (k6
 n +
 (1 :
 Int)))))
 (↑j :
 Int)),
 D.i
 (itvHi
 (k6
 n)
 (widC
 (k6
 n)
 false
 (fun
 (x :
 Nat) =>
 (0 :
 Int))
 (topN
 (IntKind.i64.wrap
 (k6
 n +
 (1 :
 Int))))
 false
 (topF
 (IntKind.i64.wrap
 (k6
 n +
 (1 :
 Int)))))
 (widF
 (k6
 n)
 false
 (fun
 (x :
 Nat) =>
 (0 :
 Int))
 (topN
 (IntKind.i64.wrap
 (k6
 n +
 (1 :
 Int))))
 false
 (topF
 (IntKind.i64.wrap
 (k6
 n +
 (1 :
 Int)))))
 (↑j :
 Int))])
 (List.range
 (itD
 (k6
 n).toNat
 (k6
 n)
 (false,
 fun
 (x :
 Nat) =>
 (0 :
 Int))).len) =
 List.map
 (fun
 (j :
 Nat) =>
 [D.i
 (itvLo
 (k6
 n)
 (widC
 (k6
 n)
 false
 (fun
 (x :
 Nat) =>
 (0 :
 Int))
 (topN
 (IntKind.i64.wrap
 (k6
 n +
 (1 :
 Int))))
 false
 (topF
 (IntKind.i64.wrap
 (k6
 n +
 (1 :
 Int)))))
 (widF
 (k6
 n)
 false
 (fun
 (x :
 Nat) =>
 (0 :
 Int))
 (topN
 (IntKind.i64.wrap
 (k6
 n +
 (1 :
 Int))))
 false
 (topF
 (IntKind.i64.wrap
 (k6
 n +
 (1 :
 Int)))))
 (↑j :
 Int)),
 D.i
 (itvHi
 (k6
 n)
 (widC
 (k6
 n)
 false
 (fun
 (x :
 Nat) =>
 (0 :
 Int))
 (topN
 (IntKind.i64.wrap
 (k6
 n +
 (1 :
 Int))))
 false
 (topF
 (IntKind.i64.wrap
 (k6
 n +
 (1 :
 Int)))))
 (widF
 (k6
 n)
 false
 (fun
 (x :
 Nat) =>
 (0 :
 Int))
 (topN
 (IntKind.i64.wrap
 (k6
 n +
 (1 :
 Int))))
 false
 (topF
 (IntKind.i64.wrap
 (k6
 n +
 (1 :
 Int)))))
 (↑j :
 Int))])
 (List.range
 (k6
 n).toNat)) ∧
 ((true &&
 true &&
 true &&
 true &&
 true &&
 true) =
 true ∧
 True →
 k6 n =
 k6 n) ∧
 ((true &&
 true &&
 true &&
 true &&
 true &&
 true) =
 true ∧
 True →
 false =
 widC
 (k6
 n)
 false
 (fun
 (x :
 Nat) =>
 (0 :
 Int))
 (topN
 (IntKind.i64.wrap
 (k6
 n +
 (1 :
 Int))))
 false
 (topF
 (IntKind.i64.wrap
 (k6
 n +
 (1 :
 Int))))) ∧
 ((true &&
 true &&
 true &&
 true &&
 true &&
 true) =
 true ∧
 True →
 ∀
 (o :
 Nat),
 o <
 (49 :
 Nat) →
 (0 :
 Int) =
 widF
 (k6
 n)
 false
 (fun
 (x :
 Nat) =>
 (0 :
 Int))
 (topN
 (IntKind.i64.wrap
 (k6
 n +
 (1 :
 Int))))
 false
 (topF
 (IntKind.i64.wrap
 (k6
 n +
 (1 :
 Int))))
 o) ∧
 ((true &&
 true &&
 true &&
 true &&
 true &&
 true &&
 true &&
 !withinP
 (k6
 n)
 false
 (fun
 (x :
 Nat) =>
 (0 :
 Int))
 (topN
 (IntKind.i64.wrap
 (k6
 n +
 (1 :
 Int))))
 false
 (topF
 (IntKind.i64.wrap
 (k6
 n +
 (1 :
 Int))))) =
 true ∧
 True →
 Sm
 fun
 (x :
 Nat) =>
 (0 :
 Int)) ∧
 ((true &&
 true &&
 true &&
 true &&
 true &&
 true &&
 true &&
 !withinP
 (k6
 n)
 false
 (fun
 (x :
 Nat) =>
 (0 :
 Int))
 (topN
 (IntKind.i64.wrap
 (k6
 n +
 (1 :
 Int))))
 false
 (topF
 (IntKind.i64.wrap
 (k6
 n +
 (1 :
 Int))))) =
 true ∧
 True →
 (D.l
 [[D.i
 i1,
 D.i
 i2],
 [D.i
 i1,
 D.i
 i2]]).len ≤
 (1000 :
 Nat)) ∧
 (true &&
 true &&
 true &&
 true &&
 true &&
 true &&
 true &&
 !withinP
 (k6
 n)
 false
 (fun
 (x :
 Nat) =>
 (0 :
 Int))
 (topN
 (IntKind.i64.wrap
 (k6
 n +
 (1 :
 Int))))
 false
 (topF
 (IntKind.i64.wrap
 (k6
 n +
 (1 :
 Int)))) &&
 !nrightP
 false
 (D.l
 [[D.i
 i1,
 D.i
 i2],
 [D.i
 i1,
 D.i
 i2]])
 (0 :
 Int)
 false
 fun
 (x :
 Nat) =>
 (0 :
 Int)) =
 true) (by kernel_rfl) ?_
    simp only [raw0, true_and, and_true, implies_true, Nat.mul_one, Int.toNat_natCast, c7, decide_eq_true_eq, decide_eq_false_iff_not, Nat.zero_add, forall_const, Nat.le_eq, at_iff, bne_iff_ne, bne_eq_false_iff_eq, and_self, and_self_left, Nat.reduceAdd]
    have hk := k6_in n
    have ek : IntKind.i64.wrap ((IntKind.u64.wrap n).tmod 6) = k6 n := rfl
    have h06 : 0 ≤ k6 n ∧ k6 n ≤ 6 := by omega
    have htop : topN (k6 n) = k6 n := by unfold topN; omega
    have htop1 : topN (IntKind.i64.wrap (k6 n + 1)) = k6 n + 1 := by rw [wr _ (by omega)]; unfold topN; omega
    rw [ek, htop]
    refine ⟨⟨true, rfl, rfl, rfl⟩, ⟨fun h => ?_, fun h => ?_⟩, fun q hq => ?_⟩
    · simp only [Bool.and_eq_true, decide_eq_true_eq] at h
      rw [wr _ (by omega)]
      exact ⟨k6 n + x, by omega, rfl⟩
    · rw [Bool.and_eq_false_iff, decide_eq_false_iff_not, decide_eq_false_iff_not] at h
      exact ⟨x, by omega, rfl⟩
    rw [htop1]
    have g0 := good_none h06 false
    have g00 : Good 0 (false, fun _ => 0) := good_none (by omega) false
    have gT := good_top (IntKind.i64.wrap (k6 n + 1))
    rw [htop1] at gT
    have hv : isVarP (k6 n) q = false := by
      unfold isVarP; rw [rows_n h06, Bool.and_eq_false_iff, decide_eq_false_iff_not, decide_eq_false_iff_not]; omega
    have e1 : fgZ (k6 n) q (false, fun _ => 0) = (false, fun _ => 0) := by
      unfold fgZ; rw [fg_out hv]
    have e2 : ∀ lo hi, metZ (k6 n) q lo hi (false, fun _ => 0) = (false, fun _ => 0) := fun lo hi => by
      unfold metZ
      split
      · rfl
      · have he : isEndP (k6 n) q = false := by unfold isEndP; rw [hv, Bool.or_false]; simp; omega
        have b1 := bnd_out (n := k6 n) (x := q) (y := -1) (b := ofHi lo hi) (z := (false, fun _ => 0)) (.inl he)
        have b2 := bnd_out (n := k6 n) (x := -1) (y := q) (b := 0 - ofLo lo hi) (z := (false, fun _ => 0)) (.inr he)
        unfold bndZ
        rw [b1.1, b1.2]; dsimp only at b2 ⊢; rw [b2.1, b2.2]
    have e3 : copyZ (k6 n) q (-1) 1 (false, fun _ => 0) = (false, fun _ => 0) := cp_out (.inl hv)
    have e4 : bndZ (k6 n) q (-1) 1 (false, fun _ => 0) = (false, fun _ => 0) := by
      rcases bnd_cases (k6 n) q (-1) 1 (false, fun _ => 0) with ⟨h, _⟩ | ⟨_, _, _, h, _⟩
      · exact h
      · dsimp only at h; omega
    have hle : (k6 n).toNat ≤ 1000 := by omega
    generalize topF (IntKind.i64.wrap (k6 n + 1)) = tf at gT ⊢
    have bm : (k6 n != k6 n + 1) = true := by rw [bne_iff_ne]; omega
    have j1 : jnC (k6 n) false (k6 n + 1) false = false := if_pos (by rw [bm]; simp)
    have j2 : jnF (k6 n) false (fun _ => 0) (k6 n + 1) false tf = fun _ => 0 := funext fun o => if_pos (by rw [bm]; simp)
    have v1 : widC (k6 n) false (fun _ => 0) (k6 n + 1) false tf = false := if_pos (by rw [bm]; simp)
    have v2 : widF (k6 n) false (fun _ => 0) (k6 n + 1) false tf = fun _ => 0 := funext fun o => if_pos (by rw [bm]; simp)
    have q1 : withinP (k6 n) false (fun _ => 0) (k6 n + 1) false tf = false := (if_pos (by rw [bm]; simp)).trans (by
      have : (k6 n == k6 n + 1) = false := by rw [beq_eq_false_iff_ne]; omega
      rw [this]; rfl)
    have hD : (D.l [[D.i i1, D.i i2], [D.i i1, D.i i2]]).len = 2 := rfl
    have hD2 : (D.l [[D.i 1], [D.i 2]]).len = 2 := rfl
    have r1 : nrightP false (D.l [[D.i i1, D.i i2], [D.i i1, D.i i2]]) 0 false (fun _ => 0) = false := if_pos (by rw [hD]; simp)
    have s0 : Sm (fun _ : Nat => (0 : Int)) := g0.sm
    simp only [e1, e2, e3, e4, j1, j2, v1, v2, q1, r1, itD_len, hD, hD2, g0, g00, gT, hle, s0, implies_true, true_and, and_true, and_self]
    exact ⟨⟨true, Nat.le_refl _, rfl⟩, by omega, by omega, by omega, by omega, Nat.le_refl _, by omega, h06, fun _ => h06, fun _ => h06, fun _ => h06, fun _ => h06, fun _ => h06, fun _ => by omega, rfl⟩
  · trivial
end Go.Proofs.Ytefdfggkhnahiaa.Sx.Z
