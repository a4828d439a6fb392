/-
  NumCopies' contract, NumBounds' contract.
-/
import Derived.Test.YtefdfggkhnahiaaNq
namespace Go.Proofs.Ytefdfggkhnahiaa.Sx.Z
open Go.RowKit
theorem tmod_1e5 (x : Int) : -99999 ≤ (IntKind.i64.wrap x).tmod 100000 ∧ (IntKind.i64.wrap x).tmod 100000 ≤ 99999 := by
  generalize IntKind.i64.wrap x = x
  rcases Int.le_total 0 x with h | h
  · rw [Int.tmod_eq_emod_of_nonneg h]; omega
  · have e : x.tmod 100000 = -((-x).tmod 100000) := by rw [Int.neg_tmod]; omega
    rw [e, Int.tmod_eq_emod_of_nonneg (by omega)]; omega
theorem of_two {a b : Int} (h : -2147483648 ≤ a ∧ a ≤ b ∧ b ≤ 2147483647) : ofLo (ofLo a b) (ofHi a b) = a ∧ ofHi (ofLo a b) (ofHi a b) = b := by
  have e : ofLo a b = a ∧ ofHi a b = b := by
    unfold ofLo ofHi
    (repeat' split) <;> omega
  rw [e.1, e.2]; exact e
theorem of_one {a b : Int} (h : -2147483648 ≤ a ∧ a ≤ b ∧ b ≤ 2147483647) : ofLo a b = a ∧ ofHi a b = b := by
  unfold ofLo ofHi
  (repeat' split) <;> omega
theorem dok_u8 {d : D} (h : DOk (.int .u8) d) : 0 ≤ d.toI ∧ d.toI ≤ 255 := by
  cases h with
  | int k d h => simp [Lit.wf, IntKind.min, IntKind.max, IntKind.bits, IntKind.signed] at h; omega
def P2 (x y : Int) : Nat → Int := fun q => if q = 0 then 0 else if q = 1 then x else y
theorem P2_in {x y : Int} (hx : -2147483648 ≤ x ∧ x ≤ 2147483647) (hy : -2147483648 ≤ y ∧ y ≤ 2147483647) : In32 (P2 x y) := ⟨rfl, hx, hy⟩
def nncopiesS : FSpec := fun ds _ => match ds with
  | [.i b, .i l, .i w] => some { val := .one (.sc (.bool (.sym (true)))), vc := [(-2147483648 ≤ b ∧ b ≤ 2147483647), (-2147483648 ≤ l ∧ l ≤ 2147483647), (0 ≤ w ∧ w ≤ 255)] }
  | _ => none
def nncopiesC : Con := con [.sc (.int .i32), .sc (.int .i32), .sc (.int .u8)] nncopiesS
theorem nncopies_ok : ConOK Try.prog 7 nncopiesC := by
  refine fn_ob tt_ok mixed Try.func7 rfl (fun _ _ => by kernel_rfl) (A := fun ds => ⟨fun _ => Cons.of [(11, ntopC), (31, ncopyC), (32, nboundC), (29, iofC), (35, iconstC), (30, nmeetC), (24, nwithinC), (15, meetsC)], fun _ => none, fun k => match k, ds with | 3, [.i b, .i l, .i w] => some { ι := Int × Int × Int, pre := fun _ q => (-999 ≤ q.1 ∧ q.1 ≤ 999) ∧ (-99999 ≤ q.2.1 ∧ q.2.1 ≤ 99999) ∧ (q.2.1 ≤ q.2.2 ∧ q.2.2 ≤ q.2.1 + 255), μ := fun _ => 0, st := fun s q => famR s [(7, .one (.sc (.int .i64 (.sym (q.1))))), (8, .one (.sc (.int .i64 (.sym (q.2.1))))), (9, .one (.sc (.int .i64 (.sym (q.2.2)))))] [] [] [] } | 6, [.i b, .i l, .i w] => some { ι := Zs × Zs × Zs, pre := fun s q => Good 2 q.1 ∧ Good 2 q.2.1 ∧ Good 2 q.2.2 ∧ (∀ v, Pt 2 q.1 v ↔ In32 v ∧ v 1 = v 2 + slotI s 7) ∧ (∀ v, Pt 2 q.2.1 v ↔ Pt 2 q.1 v ∧ slotI s 8 ≤ v 2 ∧ v 2 ≤ slotI s 9) ∧ (∀ v, Pt 2 q.2.2 v ↔ Pt 2 q.2.1 v ∧ slotI s 8 + slotI s 7 ≤ v 1 ∧ v 1 ≤ slotI s 8 + slotI s 7), μ := fun _ => 0, st := fun s q => famR s [(10, .one (.sc (.ptr (idOf s 10) (.lit 0)))), (11, .one (.sc (.ptr (idOf s 11) (.lit 0)))), (12, .one (.sc (.ptr (s.nx - 1) (.lit 0))))] [7, 8, 9] [(idOf s 10, .own 30 ([.c (.bool (.sym (q.1 : Zs).1)), .c (.rows 53 (itD 2 2 (q.1))), .c (.int .i64 (.sym 2)), .c (.bool (.sym (q.1 : Zs).1)), .ints .i64 (.lit 49) (q.1 : Zs).2])), (idOf s 11, .own 30 ([.c (.bool (.sym (q.2.1 : Zs).1)), .c (.rows 53 (itD 2 2 (q.2.1))), .c (.int .i64 (.sym 2)), .c (.bool (.sym (q.2.1 : Zs).1)), .ints .i64 (.lit 49) (q.2.1 : Zs).2])), (s.nx - 1, .own 30 ([.c (.bool (.sym (q.2.2 : Zs).1)), .c (.rows 53 (itD 2 2 (q.2.2))), .c (.int .i64 (.sym 2)), .c (.bool (.sym (q.2.2 : Zs).1)), .ints .i64 (.lit 49) (q.2.2 : Zs).2]))] [] } | _, _ => none⟩) (fun _ _ => (cons_cons ntop_ok (cons_cons ncopy_ok (cons_cons nbound_ok (cons_cons iof_ok (cons_cons iconst_ok (cons_cons nmeet_ok (cons_cons nwithin_ok (cons_cons meets_ok cons_nil))))))))) (by kernel_rfl) ?_
  intro ds fr
  unfold nncopiesS
  split
  · rename_i b l w
    refine kmp (q := (-2147483648 : Int) ≤ b ∧ b ≤ (2147483647 : Int) →
 (-2147483648 : Int) ≤ l ∧ l ≤ (2147483647 : Int) →
 (0 : Int) ≤ w ∧ w ≤ (255 : Int) →
 (∃ (i : Int × Int × Int),
 (((-999 : Int) ≤ i.fst ∧ i.fst ≤ (999 : Int)) ∧
 ((-99999 : Int) ≤ i.snd.fst ∧ i.snd.fst ≤ (99999 : Int)) ∧ i.snd.fst ≤ i.snd.snd ∧ i.snd.snd ≤ i.snd.fst + (255 : Int)) ∧
 (IntKind.i64.wrap b).tmod (1000 : Int) = i.fst ∧
 (IntKind.i64.wrap l).tmod (100000 : Int) = i.snd.fst ∧
 IntKind.i64.wrap ((IntKind.i64.wrap l).tmod (100000 : Int) + IntKind.i64.wrap w) = i.snd.snd) ∧
 ∀ (i : Int × Int × Int),
 ((-999 : Int) ≤ i.fst ∧ i.fst ≤ (999 : Int)) ∧
 ((-99999 : Int) ≤ i.snd.fst ∧ i.snd.fst ≤ (99999 : Int)) ∧ i.snd.fst ≤ i.snd.snd ∧ i.snd.snd ≤ i.snd.fst + (255 : Int) →
 Good (topN (2 : Int)) (false, topF (2 : Int)) ∧
 (itD (topN (2 : Int)).toNat (topN (2 : Int)) (false, topF (2 : Int))).len ≤ (1000 : Nat) ∧
 Good (topN (2 : Int))
 ((copyZ (topN (2 : Int)) (0 : Int) (1 : Int) i.fst (false, topF (2 : Int))).fst,
 (copyZ (topN (2 : Int)) (0 : Int) (1 : Int) i.fst (false, topF (2 : Int))).snd) ∧
 (itD (itD (topN (2 : Int)).toNat (topN (2 : Int)) (false, topF (2 : Int))).len (topN (2 : Int))
 (copyZ (topN (2 : Int)) (0 : Int) (1 : Int) i.fst (false, topF (2 : Int)))).len ≤
 (1000 : Nat) ∧
 (Good (topN (2 : Int))
 ((metZ (topN (2 : Int)) (1 : Int) (ofLo i.snd.fst i.snd.snd) (ofHi i.snd.fst i.snd.snd)
 ((copyZ (topN (2 : Int)) (0 : Int) (1 : Int) i.fst (false, topF (2 : Int))).fst,
 (copyZ (topN (2 : Int)) (0 : Int) (1 : Int) i.fst (false, topF (2 : Int))).snd)).fst,
 (metZ (topN (2 : Int)) (1 : Int) (ofLo i.snd.fst i.snd.snd) (ofHi i.snd.fst i.snd.snd)
 ((copyZ (topN (2 : Int)) (0 : Int) (1 : Int) i.fst (false, topF (2 : Int))).fst,
 (copyZ (topN (2 : Int)) (0 : Int) (1 : Int) i.fst (false, topF (2 : Int))).snd)).snd) ∧
 (itD
 (itD (itD (topN (2 : Int)).toNat (topN (2 : Int)) (false, topF (2 : Int))).len (topN (2 : Int))
 (copyZ (topN (2 : Int)) (0 : Int) (1 : Int) i.fst (false, topF (2 : Int)))).len
 (topN (2 : Int))
 (metZ (topN (2 : Int)) (1 : Int) (ofLo i.snd.fst i.snd.snd) (ofHi i.snd.fst i.snd.snd)
 ((copyZ (topN (2 : Int)) (0 : Int) (1 : Int) i.fst (false, topF (2 : Int))).fst,
 (copyZ (topN (2 : Int)) (0 : Int) (1 : Int) i.fst (false, topF (2 : Int))).snd))).len ≤
 (1000 : Nat) ∧
 ∃ (i_1 : Zs × Zs × Zs),
 (Good (2 : Int) i_1.fst ∧
 Good (2 : Int) i_1.snd.fst ∧
 Good (2 : Int) i_1.snd.snd ∧
 (∀ (v : Nat → Int), Pt (2 : Int) i_1.fst v ↔ In32 v ∧ v (1 : Nat) = v (2 : Nat) + i.fst) ∧
 (∀ (v : Nat → Int),
 Pt (2 : Int) i_1.snd.fst v ↔ Pt (2 : Int) i_1.fst v ∧ i.snd.fst ≤ v (2 : Nat) ∧ v (2 : Nat) ≤ i.snd.snd) ∧
 ∀ (v : Nat → Int),
 Pt (2 : Int) i_1.snd.snd v ↔
 Pt (2 : Int) i_1.snd.fst v ∧ i.snd.fst + i.fst ≤ v (1 : Nat) ∧ v (1 : Nat) ≤ i.snd.fst + i.fst) ∧
 i.fst = i.fst ∧
 i.snd.fst = i.snd.fst ∧
 i.snd.snd = i.snd.snd ∧
 (copyZ (topN (2 : Int)) (0 : Int) (1 : Int) i.fst (false, topF (2 : Int))).fst = i_1.fst.fst ∧
 List.map
 (fun (j : Nat) =>
 [D.i
 (itvLo (topN (2 : Int)) (copyZ (topN (2 : Int)) (0 : Int) (1 : Int) i.fst (false, topF (2 : Int))).fst
 (copyZ (topN (2 : Int)) (0 : Int) (1 : Int) i.fst (false, topF (2 : Int))).snd (↑j : Int)),
 D.i
 (itvHi (topN (2 : Int)) (copyZ (topN (2 : Int)) (0 : Int) (1 : Int) i.fst (false, topF (2 : Int))).fst
 (copyZ (topN (2 : Int)) (0 : Int) (1 : Int) i.fst (false, topF (2 : Int))).snd (↑j : Int))])
 (List.range (itD (topN (2 : Int)).toNat (topN (2 : Int)) (false, topF (2 : Int))).len) =
 List.map
 (fun (j : Nat) =>
 [D.i (itvLo (2 : Int) i_1.fst.fst i_1.fst.snd (↑j : Int)),
 D.i (itvHi (2 : Int) i_1.fst.fst i_1.fst.snd (↑j : Int))])
 (List.range (2 : Nat)) ∧
 topN (2 : Int) = (2 : Int) ∧
 (copyZ (topN (2 : Int)) (0 : Int) (1 : Int) i.fst (false, topF (2 : Int))).fst = i_1.fst.fst ∧
 (∀ (o : Nat),
 o < nat_lit 49 →
 (copyZ (topN (2 : Int)) (0 : Int) (1 : Int) i.fst (false, topF (2 : Int))).snd o = i_1.fst.snd o) ∧
 (metZ (topN (2 : Int)) (1 : Int) (ofLo i.snd.fst i.snd.snd) (ofHi i.snd.fst i.snd.snd)
 ((copyZ (topN (2 : Int)) (0 : Int) (1 : Int) i.fst (false, topF (2 : Int))).fst,
 (copyZ (topN (2 : Int)) (0 : Int) (1 : Int) i.fst (false, topF (2 : Int))).snd)).fst =
 i_1.snd.fst.fst ∧
 List.map
 (fun (j : Nat) =>
 [D.i
 (itvLo (topN (2 : Int))
 (metZ (topN (2 : Int)) (1 : Int) (ofLo i.snd.fst i.snd.snd) (ofHi i.snd.fst i.snd.snd)
 ((copyZ (topN (2 : Int)) (0 : Int) (1 : Int) i.fst (false, topF (2 : Int))).fst,
 (copyZ (topN (2 : Int)) (0 : Int) (1 : Int) i.fst (false, topF (2 : Int))).snd)).fst
 (metZ (topN (2 : Int)) (1 : Int) (ofLo i.snd.fst i.snd.snd) (ofHi i.snd.fst i.snd.snd)
 ((copyZ (topN (2 : Int)) (0 : Int) (1 : Int) i.fst (false, topF (2 : Int))).fst,
 (copyZ (topN (2 : Int)) (0 : Int) (1 : Int) i.fst (false, topF (2 : Int))).snd)).snd
 (↑j : Int)),
 D.i
 (itvHi (topN (2 : Int))
 (metZ (topN (2 : Int)) (1 : Int) (ofLo i.snd.fst i.snd.snd) (ofHi i.snd.fst i.snd.snd)
 ((copyZ (topN (2 : Int)) (0 : Int) (1 : Int) i.fst (false, topF (2 : Int))).fst,
 (copyZ (topN (2 : Int)) (0 : Int) (1 : Int) i.fst (false, topF (2 : Int))).snd)).fst
 (metZ (topN (2 : Int)) (1 : Int) (ofLo i.snd.fst i.snd.snd) (ofHi i.snd.fst i.snd.snd)
 ((copyZ (topN (2 : Int)) (0 : Int) (1 : Int) i.fst (false, topF (2 : Int))).fst,
 (copyZ (topN (2 : Int)) (0 : Int) (1 : Int) i.fst (false, topF (2 : Int))).snd)).snd
 (↑j : Int))])
 (List.range
 (itD (itD (topN (2 : Int)).toNat (topN (2 : Int)) (false, topF (2 : Int))).len (topN (2 : Int))
 (copyZ (topN (2 : Int)) (0 : Int) (1 : Int) i.fst (false, topF (2 : Int)))).len) =
 List.map
 (fun (j : Nat) =>
 [D.i (itvLo (2 : Int) i_1.snd.fst.fst i_1.snd.fst.snd (↑j : Int)),
 D.i (itvHi (2 : Int) i_1.snd.fst.fst i_1.snd.fst.snd (↑j : Int))])
 (List.range (2 : Nat)) ∧
 topN (2 : Int) = (2 : Int) ∧
 (metZ (topN (2 : Int)) (1 : Int) (ofLo i.snd.fst i.snd.snd) (ofHi i.snd.fst i.snd.snd)
 ((copyZ (topN (2 : Int)) (0 : Int) (1 : Int) i.fst (false, topF (2 : Int))).fst,
 (copyZ (topN (2 : Int)) (0 : Int) (1 : Int) i.fst (false, topF (2 : Int))).snd)).fst =
 i_1.snd.fst.fst ∧
 (∀ (o : Nat),
 o < nat_lit 49 →
 (metZ (topN (2 : Int)) (1 : Int) (ofLo i.snd.fst i.snd.snd) (ofHi i.snd.fst i.snd.snd)
 ((copyZ (topN (2 : Int)) (0 : Int) (1 : Int) i.fst (false, topF (2 : Int))).fst,
 (copyZ (topN (2 : Int)) (0 : Int) (1 : Int) i.fst (false, topF (2 : Int))).snd)).snd
 o =
 i_1.snd.fst.snd o) ∧
 (metZ (topN (2 : Int)) (0 : Int)
 (ofLo (IntKind.i64.wrap (i.snd.fst + i.fst)) (IntKind.i64.wrap (i.snd.fst + i.fst)))
 (ofHi (IntKind.i64.wrap (i.snd.fst + i.fst)) (IntKind.i64.wrap (i.snd.fst + i.fst)))
 ((metZ (topN (2 : Int)) (1 : Int) (ofLo i.snd.fst i.snd.snd) (ofHi i.snd.fst i.snd.snd)
 ((copyZ (topN (2 : Int)) (0 : Int) (1 : Int) i.fst (false, topF (2 : Int))).fst,
 (copyZ (topN (2 : Int)) (0 : Int) (1 : Int) i.fst (false, topF (2 : Int))).snd)).fst,
 (metZ (topN (2 : Int)) (1 : Int) (ofLo i.snd.fst i.snd.snd) (ofHi i.snd.fst i.snd.snd)
 ((copyZ (topN (2 : Int)) (0 : Int) (1 : Int) i.fst (false, topF (2 : Int))).fst,
 (copyZ (topN (2 : Int)) (0 : Int) (1 : Int) i.fst
 (false, topF (2 : Int))).snd)).snd)).fst =
 i_1.snd.snd.fst ∧
 List.map
 (fun (j : Nat) =>
 [D.i
 (itvLo (topN (2 : Int))
 (metZ (topN (2 : Int)) (0 : Int)
 (ofLo (IntKind.i64.wrap (i.snd.fst + i.fst)) (IntKind.i64.wrap (i.snd.fst + i.fst)))
 (ofHi (IntKind.i64.wrap (i.snd.fst + i.fst)) (IntKind.i64.wrap (i.snd.fst + i.fst)))
 ((metZ (topN (2 : Int)) (1 : Int) (ofLo i.snd.fst i.snd.snd)
 (ofHi i.snd.fst i.snd.snd)
 ((copyZ (topN (2 : Int)) (0 : Int) (1 : Int) i.fst
 (false, topF (2 : Int))).fst,
 (copyZ (topN (2 : Int)) (0 : Int) (1 : Int) i.fst
 (false, topF (2 : Int))).snd)).fst,
 (metZ (topN (2 : Int)) (1 : Int) (ofLo i.snd.fst i.snd.snd)
 (ofHi i.snd.fst i.snd.snd)
 ((copyZ (topN (2 : Int)) (0 : Int) (1 : Int) i.fst
 (false, topF (2 : Int))).fst,
 (copyZ (topN (2 : Int)) (0 : Int) (1 : Int) i.fst
 (false, topF (2 : Int))).snd)).snd)).fst
 (metZ (topN (2 : Int)) (0 : Int)
 (ofLo (IntKind.i64.wrap (i.snd.fst + i.fst)) (IntKind.i64.wrap (i.snd.fst + i.fst)))
 (ofHi (IntKind.i64.wrap (i.snd.fst + i.fst)) (IntKind.i64.wrap (i.snd.fst + i.fst)))
 ((metZ (topN (2 : Int)) (1 : Int) (ofLo i.snd.fst i.snd.snd)
 (ofHi i.snd.fst i.snd.snd)
 ((copyZ (topN (2 : Int)) (0 : Int) (1 : Int) i.fst
 (false, topF (2 : Int))).fst,
 (copyZ (topN (2 : Int)) (0 : Int) (1 : Int) i.fst
 (false, topF (2 : Int))).snd)).fst,
 (metZ (topN (2 : Int)) (1 : Int) (ofLo i.snd.fst i.snd.snd)
 (ofHi i.snd.fst i.snd.snd)
 ((copyZ (topN (2 : Int)) (0 : Int) (1 : Int) i.fst
 (false, topF (2 : Int))).fst,
 (copyZ (topN (2 : Int)) (0 : Int) (1 : Int) i.fst
 (false, topF (2 : Int))).snd)).snd)).snd
 (↑j : Int)),
 D.i
 (itvHi (topN (2 : Int))
 (metZ (topN (2 : Int)) (0 : Int)
 (ofLo (IntKind.i64.wrap (i.snd.fst + i.fst)) (IntKind.i64.wrap (i.snd.fst + i.fst)))
 (ofHi (IntKind.i64.wrap (i.snd.fst + i.fst)) (IntKind.i64.wrap (i.snd.fst + i.fst)))
 ((metZ (topN (2 : Int)) (1 : Int) (ofLo i.snd.fst i.snd.snd)
 (ofHi i.snd.fst i.snd.snd)
 ((copyZ (topN (2 : Int)) (0 : Int) (1 : Int) i.fst
 (false, topF (2 : Int))).fst,
 (copyZ (topN (2 : Int)) (0 : Int) (1 : Int) i.fst
 (false, topF (2 : Int))).snd)).fst,
 (metZ (topN (2 : Int)) (1 : Int) (ofLo i.snd.fst i.snd.snd)
 (ofHi i.snd.fst i.snd.snd)
 ((copyZ (topN (2 : Int)) (0 : Int) (1 : Int) i.fst
 (false, topF (2 : Int))).fst,
 (copyZ (topN (2 : Int)) (0 : Int) (1 : Int) i.fst
 (false, topF (2 : Int))).snd)).snd)).fst
 (metZ (topN (2 : Int)) (0 : Int)
 (ofLo (IntKind.i64.wrap (i.snd.fst + i.fst)) (IntKind.i64.wrap (i.snd.fst + i.fst)))
 (ofHi (IntKind.i64.wrap (i.snd.fst + i.fst)) (IntKind.i64.wrap (i.snd.fst + i.fst)))
 ((metZ (topN (2 : Int)) (1 : Int) (ofLo i.snd.fst i.snd.snd)
 (ofHi i.snd.fst i.snd.snd)
 ((copyZ (topN (2 : Int)) (0 : Int) (1 : Int) i.fst
 (false, topF (2 : Int))).fst,
 (copyZ (topN (2 : Int)) (0 : Int) (1 : Int) i.fst
 (false, topF (2 : Int))).snd)).fst,
 (metZ (topN (2 : Int)) (1 : Int) (ofLo i.snd.fst i.snd.snd)
 (ofHi i.snd.fst i.snd.snd)
 ((copyZ (topN (2 : Int)) (0 : Int) (1 : Int) i.fst
 (false, topF (2 : Int))).fst,
 (copyZ (topN (2 : Int)) (0 : Int) (1 : Int) i.fst
 (false, topF (2 : Int))).snd)).snd)).snd
 (↑j : Int))])
 (List.range
 (itD
 (itD (itD (topN (2 : Int)).toNat (topN (2 : Int)) (false, topF (2 : Int))).len
 (topN (2 : Int))
 (copyZ (topN (2 : Int)) (0 : Int) (1 : Int) i.fst (false, topF (2 : Int)))).len
 (topN (2 : Int))
 (metZ (topN (2 : Int)) (1 : Int) (ofLo i.snd.fst i.snd.snd) (ofHi i.snd.fst i.snd.snd)
 ((copyZ (topN (2 : Int)) (0 : Int) (1 : Int) i.fst (false, topF (2 : Int))).fst,
 (copyZ (topN (2 : Int)) (0 : Int) (1 : Int) i.fst
 (false, topF (2 : Int))).snd))).len) =
 List.map
 (fun (j : Nat) =>
 [D.i (itvLo (2 : Int) i_1.snd.snd.fst i_1.snd.snd.snd (↑j : Int)),
 D.i (itvHi (2 : Int) i_1.snd.snd.fst i_1.snd.snd.snd (↑j : Int))])
 (List.range (2 : Nat)) ∧
 topN (2 : Int) = (2 : Int) ∧
 (metZ (topN (2 : Int)) (0 : Int)
 (ofLo (IntKind.i64.wrap (i.snd.fst + i.fst)) (IntKind.i64.wrap (i.snd.fst + i.fst)))
 (ofHi (IntKind.i64.wrap (i.snd.fst + i.fst)) (IntKind.i64.wrap (i.snd.fst + i.fst)))
 ((metZ (topN (2 : Int)) (1 : Int) (ofLo i.snd.fst i.snd.snd) (ofHi i.snd.fst i.snd.snd)
 ((copyZ (topN (2 : Int)) (0 : Int) (1 : Int) i.fst (false, topF (2 : Int))).fst,
 (copyZ (topN (2 : Int)) (0 : Int) (1 : Int) i.fst
 (false, topF (2 : Int))).snd)).fst,
 (metZ (topN (2 : Int)) (1 : Int) (ofLo i.snd.fst i.snd.snd) (ofHi i.snd.fst i.snd.snd)
 ((copyZ (topN (2 : Int)) (0 : Int) (1 : Int) i.fst (false, topF (2 : Int))).fst,
 (copyZ (topN (2 : Int)) (0 : Int) (1 : Int) i.fst
 (false, topF (2 : Int))).snd)).snd)).fst =
 i_1.snd.snd.fst ∧
 ∀ (o : Nat),
 o < nat_lit 49 →
 (metZ (topN (2 : Int)) (0 : Int)
 (ofLo (IntKind.i64.wrap (i.snd.fst + i.fst)) (IntKind.i64.wrap (i.snd.fst + i.fst)))
 (ofHi (IntKind.i64.wrap (i.snd.fst + i.fst)) (IntKind.i64.wrap (i.snd.fst + i.fst)))
 ((metZ (topN (2 : Int)) (1 : Int) (ofLo i.snd.fst i.snd.snd)
 (ofHi i.snd.fst i.snd.snd)
 ((copyZ (topN (2 : Int)) (0 : Int) (1 : Int) i.fst
 (false, topF (2 : Int))).fst,
 (copyZ (topN (2 : Int)) (0 : Int) (1 : Int) i.fst
 (false, topF (2 : Int))).snd)).fst,
 (metZ (topN (2 : Int)) (1 : Int) (ofLo i.snd.fst i.snd.snd)
 (ofHi i.snd.fst i.snd.snd)
 ((copyZ (topN (2 : Int)) (0 : Int) (1 : Int) i.fst
 (false, topF (2 : Int))).fst,
 (copyZ (topN (2 : Int)) (0 : Int) (1 : Int) i.fst
 (false, topF (2 : Int))).snd)).snd)).snd
 o =
 i_1.snd.snd.snd o) ∧
 ∀ (i_1 : Zs × Zs × Zs),
 (Good (2 : Int) i_1.fst ∧
 Good (2 : Int) i_1.snd.fst ∧
 Good (2 : Int) i_1.snd.snd ∧
 (∀ (v : Nat → Int), Pt (2 : Int) i_1.fst v ↔ In32 v ∧ v (1 : Nat) = v (2 : Nat) + i.fst) ∧
 (∀ (v : Nat → Int), Pt (2 : Int) i_1.snd.fst v ↔ Pt (2 : Int) i_1.fst v ∧ i.snd.fst ≤ v (2 : Nat) ∧ v (2 : Nat) ≤ i.snd.snd) ∧
 ∀ (v : Nat → Int),
 Pt (2 : Int) i_1.snd.snd v ↔
 Pt (2 : Int) i_1.snd.fst v ∧ i.snd.fst + i.fst ≤ v (1 : Nat) ∧ v (1 : Nat) ≤ i.snd.fst + i.fst) →
 ((true && !i_1.fst.fst && (↑(itD (2 : Nat) (2 : Int) i_1.snd.fst).len : Int) == (2 : Int)) = true ∧ True →
 nat_lit 0 < (itD (2 : Nat) (2 : Int) i_1.snd.fst).len) ∧
 ((true && !i_1.fst.fst && (↑(itD (2 : Nat) (2 : Int) i_1.snd.fst).len : Int) == (2 : Int) &&
 (itvLo (2 : Int) i_1.snd.fst.fst i_1.snd.fst.snd (↑(nat_lit 0) : Int) ==
 ofLo (IntKind.i64.wrap (i.snd.fst + i.fst)) (IntKind.i64.wrap (i.snd.snd + i.fst)) &&
 (itvHi (2 : Int) i_1.snd.fst.fst i_1.snd.fst.snd (↑(nat_lit 0) : Int) ==
 ofHi (IntKind.i64.wrap (i.snd.fst + i.fst)) (IntKind.i64.wrap (i.snd.snd + i.fst)) &&
 true))) =
 true ∧
 True →
 nat_lit 1 < (itD (2 : Nat) (2 : Int) i_1.snd.fst).len) ∧
 ((true && !i_1.fst.fst && (↑(itD (2 : Nat) (2 : Int) i_1.snd.fst).len : Int) == (2 : Int) &&
 (itvLo (2 : Int) i_1.snd.fst.fst i_1.snd.fst.snd (↑(nat_lit 0) : Int) ==
 ofLo (IntKind.i64.wrap (i.snd.fst + i.fst)) (IntKind.i64.wrap (i.snd.snd + i.fst)) &&
 (itvHi (2 : Int) i_1.snd.fst.fst i_1.snd.fst.snd (↑(nat_lit 0) : Int) ==
 ofHi (IntKind.i64.wrap (i.snd.fst + i.fst)) (IntKind.i64.wrap (i.snd.snd + i.fst)) &&
 true)) &&
 (itvLo (2 : Int) i_1.snd.fst.fst i_1.snd.fst.snd (↑(nat_lit 1) : Int) == ofLo i.snd.fst i.snd.snd &&
 (itvHi (2 : Int) i_1.snd.fst.fst i_1.snd.fst.snd (↑(nat_lit 1) : Int) == ofHi i.snd.fst i.snd.snd && true)) &&
 (↑(itD (2 : Nat) (2 : Int) i_1.snd.snd).len : Int) == (2 : Int)) =
 true ∧
 True →
 nat_lit 1 < (itD (2 : Nat) (2 : Int) i_1.snd.snd).len) ∧
 (true && !i_1.fst.fst && (↑(itD (2 : Nat) (2 : Int) i_1.snd.fst).len : Int) == (2 : Int) &&
 (itvLo (2 : Int) i_1.snd.fst.fst i_1.snd.fst.snd (↑(nat_lit 0) : Int) ==
 ofLo (IntKind.i64.wrap (i.snd.fst + i.fst)) (IntKind.i64.wrap (i.snd.snd + i.fst)) &&
 (itvHi (2 : Int) i_1.snd.fst.fst i_1.snd.fst.snd (↑(nat_lit 0) : Int) ==
 ofHi (IntKind.i64.wrap (i.snd.fst + i.fst)) (IntKind.i64.wrap (i.snd.snd + i.fst)) &&
 true)) &&
 (itvLo (2 : Int) i_1.snd.fst.fst i_1.snd.fst.snd (↑(nat_lit 1) : Int) == ofLo i.snd.fst i.snd.snd &&
 (itvHi (2 : Int) i_1.snd.fst.fst i_1.snd.fst.snd (↑(nat_lit 1) : Int) == ofHi i.snd.fst i.snd.snd && true)) &&
 (↑(itD (2 : Nat) (2 : Int) i_1.snd.snd).len : Int) == (2 : Int) &&
 (itvLo (2 : Int) i_1.snd.snd.fst i_1.snd.snd.snd (↑(nat_lit 1) : Int) == ofLo i.snd.fst i.snd.fst &&
 (itvHi (2 : Int) i_1.snd.snd.fst i_1.snd.snd.snd (↑(nat_lit 1) : Int) == ofHi i.snd.fst i.snd.fst && true)) &&
 withinP (2 : Int) i_1.snd.snd.fst i_1.snd.snd.snd (2 : Int) i_1.snd.fst.fst i_1.snd.fst.snd &&
 withinP (2 : Int) i_1.snd.fst.fst i_1.snd.fst.snd (2 : Int) i_1.fst.fst i_1.fst.snd) =
 true) (by kernel_rfl) ?_
    simp only [raw0, true_and, and_true, implies_true, Nat.mul_one, Int.toNat_natCast, c7, decide_eq_true_eq, decide_eq_false_iff_not, Nat.zero_add, forall_const, Nat.le_eq, at_iff, bne_iff_ne, bne_eq_false_iff_eq, and_self, and_self_left, Nat.reduceAdd]
    intro hb hl hw
    have ht : topN 2 = 2 := rfl
    rw [ht]
    simp only [itD_len]
    have t1 := tmod_any (IntKind.i64.wrap b)
    have t2 := tmod_1e5 l
    have gT := top2_good
    refine ⟨⟨((IntKind.i64.wrap b).tmod 1000, (IntKind.i64.wrap l).tmod 100000, IntKind.i64.wrap ((IntKind.i64.wrap l).tmod 100000 + IntKind.i64.wrap w)), ?_, rfl, rfl, rfl⟩, fun q hq => ?_⟩
    · have e : IntKind.i64.wrap ((IntKind.i64.wrap l).tmod 100000 + IntKind.i64.wrap w) = (IntKind.i64.wrap l).tmod 100000 + w := by rw [wr w (by omega), wr _ (by omega)]
      rw [e]
      exact ⟨t1, t2, by dsimp only; omega, by dsimp only; omega⟩
    obtain ⟨d, l', h⟩ := q
    obtain ⟨hd, hl', hh⟩ := hq
    dsimp only at hd hl' hh ⊢
    rw [wr (l' + d) (by omega), wr (h + d) (by omega)]
    have gA := good_copy gT 0 1 d
    have pA := copy2_pt hd
    generalize copyZ 2 0 1 d (false, topF 2) = a at gA pA ⊢
    have gB := good_met gA 1 (ofLo l' h) (ofHi l' h)
    have pB := met_pt (lo := ofLo l' h) (hi := ofHi l' h) gA (show isVarP 2 1 = true from rfl)
    rw [(of_two (a := l') (b := h) (by omega)).1, (of_two (a := l') (b := h) (by omega)).2] at pB
    generalize metZ 2 1 (ofLo l' h) (ofHi l' h) a = m at gB pB ⊢
    have gC := good_met gB 0 (ofLo (l' + d) (l' + d)) (ofHi (l' + d) (l' + d))
    have pC := met_pt (lo := ofLo (l' + d) (l' + d)) (hi := ofHi (l' + d) (l' + d)) gB (show isVarP 2 0 = true from rfl)
    rw [(of_two (a := l' + d) (b := l' + d) (by omega)).1, (of_two (a := l' + d) (b := l' + d) (by omega)).2] at pC
    generalize metZ 2 0 (ofLo (l' + d) (l' + d)) (ofHi (l' + d) (l' + d)) m = c at gC pC ⊢
    refine ⟨gT, by decide, gA, by decide, ⟨gB, by decide, (a, m, c), ⟨gA, gB, gC, pA, pB, pC⟩, rfl, rfl, trivial, rfl, fun _ _ => rfl, rfl, rfl, trivial, rfl, fun _ _ => rfl, rfl, rfl, trivial, rfl, fun _ _ => rfl⟩, fun q hq => ?_⟩
    clear gA gB gC pA pB pC a m c
    obtain ⟨a, m, c⟩ := q
    obtain ⟨gA, gB, gC, pA, pB, pC⟩ := hq
    dsimp only at gA gB gC pA pB pC ⊢
    have hlh : -2147483648 ≤ l' ∧ l' ≤ h ∧ h ≤ 2147483647 := by omega
    have mkB := fun y (hy : l' ≤ y ∧ y ≤ h) => (pB (P2 (y + d) y)).2 ⟨(pA _).2 ⟨P2_in (by omega) (by omega), rfl⟩, hy⟩
    have iB0 := itv_pts (x := 0) (a := l' + d) (b := h + d) gB rfl ⟨_, mkB l' (by omega), rfl⟩ ⟨_, mkB h (by omega), rfl⟩ (fun v hv => by
      obtain ⟨p, h1⟩ := (pB v).1 hv
      have := ((pA v).1 p).2
      show l' + d ≤ v 1 ∧ v 1 ≤ h + d
      omega)
    have iB1 := itv_pts (x := 1) (a := l') (b := h) gB rfl ⟨_, mkB l' (by omega), rfl⟩ ⟨_, mkB h (by omega), rfl⟩ (fun v hv => ((pB v).1 hv).2)
    have mkC := (pC (P2 (l' + d) l')).2 ⟨mkB l' (by omega), Int.le_refl _, Int.le_refl _⟩
    have iC1 := itv_pts (x := 1) (a := l') (b := l') gC rfl ⟨_, mkC, rfl⟩ ⟨_, mkC, rfl⟩ (fun v hv => by
      obtain ⟨p, h1⟩ := (pC v).1 hv
      have := ((pA v).1 ((pB v).1 p).1).2
      show l' ≤ v 2 ∧ v 2 ≤ l'
      omega)
    have w1 := within_pts gC (fun v hv => ((pC v).1 hv).1)
    have w2 := within_pts gB (fun v hv => ((pB v).1 hv).1)
    have hA := ((pB _).1 (mkB l' (by omega))).1.1
    have e1 := of_one (a := l' + d) (b := h + d) (by omega)
    have e2 := of_one hlh
    have e3 := of_one (a := l') (b := l') (by omega)
    have i1 : itvLo 2 m.1 m.2 ((0 : Nat) : Int) = l' + d := iB0.2.1
    have i2 : itvHi 2 m.1 m.2 ((0 : Nat) : Int) = h + d := iB0.2.2
    have i3 : itvLo 2 m.1 m.2 ((1 : Nat) : Int) = l' := iB1.2.1
    have i4 : itvHi 2 m.1 m.2 ((1 : Nat) : Int) = h := iB1.2.2
    have i5 : itvLo 2 c.1 c.2 ((1 : Nat) : Int) = l' := iC1.2.1
    have i6 : itvHi 2 c.1 c.2 ((1 : Nat) : Int) = l' := iC1.2.2
    refine ⟨fun _ => by omega, fun _ => by omega, fun _ => by omega, ?_⟩
    rw [w1, w2, i1, i2, i3, i4, i5, i6, e1.1, e1.2, e2.1, e2.2, e3.1, e3.2, hA]
    simp
  · trivial
def nnboundsS : FSpec := fun ds _ => match ds with
  | [.i l, .i w, .i b] => some { val := .one (.sc (.bool (.sym (true)))), vc := [(-2147483648 ≤ l ∧ l ≤ 2147483647), (0 ≤ w ∧ w ≤ 255), (-2147483648 ≤ b ∧ b ≤ 2147483647)] }
  | _ => none
def nnboundsC : Con := con [.sc (.int .i32), .sc (.int .u8), .sc (.int .i32)] nnboundsS
theorem nnbounds_ok : ConOK Try.prog 9 nnboundsC := by
  refine fn_ob tt_ok mixed Try.func9 rfl (fun _ _ => by kernel_rfl) (A := fun ds => ⟨fun _ => Cons.of [(11, ntopC), (31, ncopyC), (32, nboundC), (29, iofC), (35, iconstC), (30, nmeetC), (24, nwithinC), (15, meetsC)], fun _ => none, fun k => match k, ds with | 3, [.i l, .i w, .i b] => some { ι := Int × Int × Int, pre := fun _ q => (-99999 ≤ q.1 ∧ q.1 ≤ 99999) ∧ (-999 ≤ q.2.1 ∧ q.2.1 ≤ 999) ∧ (q.1 ≤ q.2.2 ∧ q.2.2 ≤ q.1 + 255), μ := fun _ => 0, st := fun s q => famR s [(7, .one (.sc (.int .i64 (.sym (q.1))))), (8, .one (.sc (.int .i64 (.sym (q.2.1))))), (9, .one (.sc (.int .i64 (.sym (q.2.2)))))] [] [] [] } | 6, [.i l, .i w, .i b] => some { ι := Zs × Zs × Zs, pre := fun s q => Good 2 q.1 ∧ Good 2 q.2.1 ∧ Good 2 q.2.2 ∧ (∀ v, Pt 2 q.1 v ↔ In32 v ∧ v 1 - v 2 ≤ slotI s 8) ∧ (∀ v, Pt 2 q.2.1 v ↔ Pt 2 q.1 v ∧ slotI s 7 ≤ v 2 ∧ v 2 ≤ slotI s 9) ∧ (∀ v, Pt 2 q.2.2 v ↔ Pt 2 q.1 v ∧ slotI s 7 ≤ v 1 ∧ v 1 ≤ slotI s 9), μ := fun _ => 0, st := fun s q => famR s [(10, .one (.sc (.ptr (idOf s 10) (.lit 0)))), (11, .one (.sc (.ptr (idOf s 11) (.lit 0)))), (12, .one (.sc (.ptr (s.nx - 1) (.lit 0))))] [7, 8, 9] [(idOf s 10, .own 30 ([.c (.bool (.sym (q.1 : Zs).1)), .c (.rows 53 (itD 2 2 (q.1))), .c (.int .i64 (.sym 2)), .c (.bool (.sym (q.1 : Zs).1)), .ints .i64 (.lit 49) (q.1 : Zs).2])), (idOf s 11, .own 30 ([.c (.bool (.sym (q.2.1 : Zs).1)), .c (.rows 53 (itD 2 2 (q.2.1))), .c (.int .i64 (.sym 2)), .c (.bool (.sym (q.2.1 : Zs).1)), .ints .i64 (.lit 49) (q.2.1 : Zs).2])), (s.nx - 1, .own 30 ([.c (.bool (.sym (q.2.2 : Zs).1)), .c (.rows 53 (itD 2 2 (q.2.2))), .c (.int .i64 (.sym 2)), .c (.bool (.sym (q.2.2 : Zs).1)), .ints .i64 (.lit 49) (q.2.2 : Zs).2]))] [] } | _, _ => none⟩) (fun _ _ => (cons_cons ntop_ok (cons_cons ncopy_ok (cons_cons nbound_ok (cons_cons iof_ok (cons_cons iconst_ok (cons_cons nmeet_ok (cons_cons nwithin_ok (cons_cons meets_ok cons_nil))))))))) (by kernel_rfl) ?_
  intro ds fr
  unfold nnboundsS
  split
  · rename_i l w b
    refine kmp (q := (-2147483648 : Int) ≤ l ∧ l ≤ (2147483647 : Int) →
 (0 : Int) ≤ w ∧ w ≤ (255 : Int) →
 (-2147483648 : Int) ≤ b ∧ b ≤ (2147483647 : Int) →
 (∃ (i : Int × Int × Int),
 (((-99999 : Int) ≤ i.fst ∧ i.fst ≤ (99999 : Int)) ∧
 ((-999 : Int) ≤ i.snd.fst ∧ i.snd.fst ≤ (999 : Int)) ∧ i.fst ≤ i.snd.snd ∧ i.snd.snd ≤ i.fst + (255 : Int)) ∧
 (IntKind.i64.wrap l).tmod (100000 : Int) = i.fst ∧
 (IntKind.i64.wrap b).tmod (1000 : Int) = i.snd.fst ∧
 IntKind.i64.wrap ((IntKind.i64.wrap l).tmod (100000 : Int) + IntKind.i64.wrap w) = i.snd.snd) ∧
 ∀ (i : Int × Int × Int),
 ((-99999 : Int) ≤ i.fst ∧ i.fst ≤ (99999 : Int)) ∧
 ((-999 : Int) ≤ i.snd.fst ∧ i.snd.fst ≤ (999 : Int)) ∧ i.fst ≤ i.snd.snd ∧ i.snd.snd ≤ i.fst + (255 : Int) →
 Good (topN (2 : Int)) (false, topF (2 : Int)) ∧
 (itD (topN (2 : Int)).toNat (topN (2 : Int)) (false, topF (2 : Int))).len ≤ (1000 : Nat) ∧
 Good (topN (2 : Int))
 ((bndZ (topN (2 : Int)) (0 : Int) (1 : Int) i.snd.fst (false, topF (2 : Int))).fst,
 (bndZ (topN (2 : Int)) (0 : Int) (1 : Int) i.snd.fst (false, topF (2 : Int))).snd) ∧
 (itD (itD (topN (2 : Int)).toNat (topN (2 : Int)) (false, topF (2 : Int))).len (topN (2 : Int))
 (bndZ (topN (2 : Int)) (0 : Int) (1 : Int) i.snd.fst (false, topF (2 : Int)))).len ≤
 (1000 : Nat) ∧
 (Good (topN (2 : Int))
 ((bndZ (topN (2 : Int)) (0 : Int) (1 : Int) i.snd.fst (false, topF (2 : Int))).fst,
 (bndZ (topN (2 : Int)) (0 : Int) (1 : Int) i.snd.fst (false, topF (2 : Int))).snd) ∧
 (itD (itD (topN (2 : Int)).toNat (topN (2 : Int)) (false, topF (2 : Int))).len (topN (2 : Int))
 (bndZ (topN (2 : Int)) (0 : Int) (1 : Int) i.snd.fst (false, topF (2 : Int)))).len ≤
 (1000 : Nat) ∧
 ∃ (i_1 : Zs × Zs × Zs),
 (Good (2 : Int) i_1.fst ∧
 Good (2 : Int) i_1.snd.fst ∧
 Good (2 : Int) i_1.snd.snd ∧
 (∀ (v : Nat → Int), Pt (2 : Int) i_1.fst v ↔ In32 v ∧ v (1 : Nat) - v (2 : Nat) ≤ i.snd.fst) ∧
 (∀ (v : Nat → Int), Pt (2 : Int) i_1.snd.fst v ↔ Pt (2 : Int) i_1.fst v ∧ i.fst ≤ v (2 : Nat) ∧ v (2 : Nat) ≤ i.snd.snd) ∧
 ∀ (v : Nat → Int),
 Pt (2 : Int) i_1.snd.snd v ↔ Pt (2 : Int) i_1.fst v ∧ i.fst ≤ v (1 : Nat) ∧ v (1 : Nat) ≤ i.snd.snd) ∧
 i.fst = i.fst ∧
 i.snd.fst = i.snd.fst ∧
 i.snd.snd = i.snd.snd ∧
 (bndZ (topN (2 : Int)) (0 : Int) (1 : Int) i.snd.fst (false, topF (2 : Int))).fst = i_1.fst.fst ∧
 List.map
 (fun (j : Nat) =>
 [D.i
 (itvLo (topN (2 : Int)) (bndZ (topN (2 : Int)) (0 : Int) (1 : Int) i.snd.fst (false, topF (2 : Int))).fst
 (bndZ (topN (2 : Int)) (0 : Int) (1 : Int) i.snd.fst (false, topF (2 : Int))).snd (↑j : Int)),
 D.i
 (itvHi (topN (2 : Int)) (bndZ (topN (2 : Int)) (0 : Int) (1 : Int) i.snd.fst (false, topF (2 : Int))).fst
 (bndZ (topN (2 : Int)) (0 : Int) (1 : Int) i.snd.fst (false, topF (2 : Int))).snd (↑j : Int))])
 (List.range (itD (topN (2 : Int)).toNat (topN (2 : Int)) (false, topF (2 : Int))).len) =
 List.map
 (fun (j : Nat) =>
 [D.i (itvLo (2 : Int) i_1.fst.fst i_1.fst.snd (↑j : Int)),
 D.i (itvHi (2 : Int) i_1.fst.fst i_1.fst.snd (↑j : Int))])
 (List.range (2 : Nat)) ∧
 topN (2 : Int) = (2 : Int) ∧
 (bndZ (topN (2 : Int)) (0 : Int) (1 : Int) i.snd.fst (false, topF (2 : Int))).fst = i_1.fst.fst ∧
 (∀ (o : Nat),
 o < nat_lit 49 →
 (bndZ (topN (2 : Int)) (0 : Int) (1 : Int) i.snd.fst (false, topF (2 : Int))).snd o = i_1.fst.snd o) ∧
 (metZ (topN (2 : Int)) (1 : Int) (ofLo i.fst i.snd.snd) (ofHi i.fst i.snd.snd)
 ((bndZ (topN (2 : Int)) (0 : Int) (1 : Int) i.snd.fst (false, topF (2 : Int))).fst,
 (bndZ (topN (2 : Int)) (0 : Int) (1 : Int) i.snd.fst (false, topF (2 : Int))).snd)).fst =
 i_1.snd.fst.fst ∧
 List.map
 (fun (j : Nat) =>
 [D.i
 (itvLo (topN (2 : Int))
 (metZ (topN (2 : Int)) (1 : Int) (ofLo i.fst i.snd.snd) (ofHi i.fst i.snd.snd)
 ((bndZ (topN (2 : Int)) (0 : Int) (1 : Int) i.snd.fst (false, topF (2 : Int))).fst,
 (bndZ (topN (2 : Int)) (0 : Int) (1 : Int) i.snd.fst (false, topF (2 : Int))).snd)).fst
 (metZ (topN (2 : Int)) (1 : Int) (ofLo i.fst i.snd.snd) (ofHi i.fst i.snd.snd)
 ((bndZ (topN (2 : Int)) (0 : Int) (1 : Int) i.snd.fst (false, topF (2 : Int))).fst,
 (bndZ (topN (2 : Int)) (0 : Int) (1 : Int) i.snd.fst (false, topF (2 : Int))).snd)).snd
 (↑j : Int)),
 D.i
 (itvHi (topN (2 : Int))
 (metZ (topN (2 : Int)) (1 : Int) (ofLo i.fst i.snd.snd) (ofHi i.fst i.snd.snd)
 ((bndZ (topN (2 : Int)) (0 : Int) (1 : Int) i.snd.fst (false, topF (2 : Int))).fst,
 (bndZ (topN (2 : Int)) (0 : Int) (1 : Int) i.snd.fst (false, topF (2 : Int))).snd)).fst
 (metZ (topN (2 : Int)) (1 : Int) (ofLo i.fst i.snd.snd) (ofHi i.fst i.snd.snd)
 ((bndZ (topN (2 : Int)) (0 : Int) (1 : Int) i.snd.fst (false, topF (2 : Int))).fst,
 (bndZ (topN (2 : Int)) (0 : Int) (1 : Int) i.snd.fst (false, topF (2 : Int))).snd)).snd
 (↑j : Int))])
 (List.range
 (itD (itD (topN (2 : Int)).toNat (topN (2 : Int)) (false, topF (2 : Int))).len (topN (2 : Int))
 (bndZ (topN (2 : Int)) (0 : Int) (1 : Int) i.snd.fst (false, topF (2 : Int)))).len) =
 List.map
 (fun (j : Nat) =>
 [D.i (itvLo (2 : Int) i_1.snd.fst.fst i_1.snd.fst.snd (↑j : Int)),
 D.i (itvHi (2 : Int) i_1.snd.fst.fst i_1.snd.fst.snd (↑j : Int))])
 (List.range (2 : Nat)) ∧
 topN (2 : Int) = (2 : Int) ∧
 (metZ (topN (2 : Int)) (1 : Int) (ofLo i.fst i.snd.snd) (ofHi i.fst i.snd.snd)
 ((bndZ (topN (2 : Int)) (0 : Int) (1 : Int) i.snd.fst (false, topF (2 : Int))).fst,
 (bndZ (topN (2 : Int)) (0 : Int) (1 : Int) i.snd.fst (false, topF (2 : Int))).snd)).fst =
 i_1.snd.fst.fst ∧
 (∀ (o : Nat),
 o < nat_lit 49 →
 (metZ (topN (2 : Int)) (1 : Int) (ofLo i.fst i.snd.snd) (ofHi i.fst i.snd.snd)
 ((bndZ (topN (2 : Int)) (0 : Int) (1 : Int) i.snd.fst (false, topF (2 : Int))).fst,
 (bndZ (topN (2 : Int)) (0 : Int) (1 : Int) i.snd.fst (false, topF (2 : Int))).snd)).snd
 o =
 i_1.snd.fst.snd o) ∧
 (metZ (topN (2 : Int)) (0 : Int) (ofLo i.fst i.snd.snd) (ofHi i.fst i.snd.snd)
 ((bndZ (topN (2 : Int)) (0 : Int) (1 : Int) i.snd.fst (false, topF (2 : Int))).fst,
 (bndZ (topN (2 : Int)) (0 : Int) (1 : Int) i.snd.fst (false, topF (2 : Int))).snd)).fst =
 i_1.snd.snd.fst ∧
 List.map
 (fun (j : Nat) =>
 [D.i
 (itvLo (topN (2 : Int))
 (metZ (topN (2 : Int)) (0 : Int) (ofLo i.fst i.snd.snd) (ofHi i.fst i.snd.snd)
 ((bndZ (topN (2 : Int)) (0 : Int) (1 : Int) i.snd.fst (false, topF (2 : Int))).fst,
 (bndZ (topN (2 : Int)) (0 : Int) (1 : Int) i.snd.fst
 (false, topF (2 : Int))).snd)).fst
 (metZ (topN (2 : Int)) (0 : Int) (ofLo i.fst i.snd.snd) (ofHi i.fst i.snd.snd)
 ((bndZ (topN (2 : Int)) (0 : Int) (1 : Int) i.snd.fst (false, topF (2 : Int))).fst,
 (bndZ (topN (2 : Int)) (0 : Int) (1 : Int) i.snd.fst
 (false, topF (2 : Int))).snd)).snd
 (↑j : Int)),
 D.i
 (itvHi (topN (2 : Int))
 (metZ (topN (2 : Int)) (0 : Int) (ofLo i.fst i.snd.snd) (ofHi i.fst i.snd.snd)
 ((bndZ (topN (2 : Int)) (0 : Int) (1 : Int) i.snd.fst (false, topF (2 : Int))).fst,
 (bndZ (topN (2 : Int)) (0 : Int) (1 : Int) i.snd.fst
 (false, topF (2 : Int))).snd)).fst
 (metZ (topN (2 : Int)) (0 : Int) (ofLo i.fst i.snd.snd) (ofHi i.fst i.snd.snd)
 ((bndZ (topN (2 : Int)) (0 : Int) (1 : Int) i.snd.fst (false, topF (2 : Int))).fst,
 (bndZ (topN (2 : Int)) (0 : Int) (1 : Int) i.snd.fst
 (false, topF (2 : Int))).snd)).snd
 (↑j : Int))])
 (List.range
 (itD (itD (topN (2 : Int)).toNat (topN (2 : Int)) (false, topF (2 : Int))).len
 (topN (2 : Int))
 (bndZ (topN (2 : Int)) (0 : Int) (1 : Int) i.snd.fst (false, topF (2 : Int)))).len) =
 List.map
 (fun (j : Nat) =>
 [D.i (itvLo (2 : Int) i_1.snd.snd.fst i_1.snd.snd.snd (↑j : Int)),
 D.i (itvHi (2 : Int) i_1.snd.snd.fst i_1.snd.snd.snd (↑j : Int))])
 (List.range (2 : Nat)) ∧
 topN (2 : Int) = (2 : Int) ∧
 (metZ (topN (2 : Int)) (0 : Int) (ofLo i.fst i.snd.snd) (ofHi i.fst i.snd.snd)
 ((bndZ (topN (2 : Int)) (0 : Int) (1 : Int) i.snd.fst (false, topF (2 : Int))).fst,
 (bndZ (topN (2 : Int)) (0 : Int) (1 : Int) i.snd.fst
 (false, topF (2 : Int))).snd)).fst =
 i_1.snd.snd.fst ∧
 ∀ (o : Nat),
 o < nat_lit 49 →
 (metZ (topN (2 : Int)) (0 : Int) (ofLo i.fst i.snd.snd) (ofHi i.fst i.snd.snd)
 ((bndZ (topN (2 : Int)) (0 : Int) (1 : Int) i.snd.fst (false, topF (2 : Int))).fst,
 (bndZ (topN (2 : Int)) (0 : Int) (1 : Int) i.snd.fst
 (false, topF (2 : Int))).snd)).snd
 o =
 i_1.snd.snd.snd o) ∧
 ∀ (i_1 : Zs × Zs × Zs),
 (Good (2 : Int) i_1.fst ∧
 Good (2 : Int) i_1.snd.fst ∧
 Good (2 : Int) i_1.snd.snd ∧
 (∀ (v : Nat → Int), Pt (2 : Int) i_1.fst v ↔ In32 v ∧ v (1 : Nat) - v (2 : Nat) ≤ i.snd.fst) ∧
 (∀ (v : Nat → Int), Pt (2 : Int) i_1.snd.fst v ↔ Pt (2 : Int) i_1.fst v ∧ i.fst ≤ v (2 : Nat) ∧ v (2 : Nat) ≤ i.snd.snd) ∧
 ∀ (v : Nat → Int), Pt (2 : Int) i_1.snd.snd v ↔ Pt (2 : Int) i_1.fst v ∧ i.fst ≤ v (1 : Nat) ∧ v (1 : Nat) ≤ i.snd.snd) →
 ((true && (↑(itD (2 : Nat) (2 : Int) i_1.snd.fst).len : Int) == (2 : Int) &&
 (↑(itD (2 : Nat) (2 : Int) i_1.snd.snd).len : Int) == (2 : Int)) =
 true ∧
 True →
 nat_lit 0 < (itD (2 : Nat) (2 : Int) i_1.snd.fst).len) ∧
 ((true && (↑(itD (2 : Nat) (2 : Int) i_1.snd.fst).len : Int) == (2 : Int) &&
 (↑(itD (2 : Nat) (2 : Int) i_1.snd.snd).len : Int) == (2 : Int) &&
 (itvLo (2 : Int) i_1.snd.fst.fst i_1.snd.fst.snd (↑(nat_lit 0) : Int) ==
 ofLo (-2147483648 : Int) (IntKind.i64.wrap (i.snd.snd + i.snd.fst)) &&
 (itvHi (2 : Int) i_1.snd.fst.fst i_1.snd.fst.snd (↑(nat_lit 0) : Int) ==
 ofHi (-2147483648 : Int) (IntKind.i64.wrap (i.snd.snd + i.snd.fst)) &&
 true))) =
 true ∧
 True →
 nat_lit 1 < (itD (2 : Nat) (2 : Int) i_1.snd.snd).len) ∧
 (true && (↑(itD (2 : Nat) (2 : Int) i_1.snd.fst).len : Int) == (2 : Int) &&
 (↑(itD (2 : Nat) (2 : Int) i_1.snd.snd).len : Int) == (2 : Int) &&
 (itvLo (2 : Int) i_1.snd.fst.fst i_1.snd.fst.snd (↑(nat_lit 0) : Int) ==
 ofLo (-2147483648 : Int) (IntKind.i64.wrap (i.snd.snd + i.snd.fst)) &&
 (itvHi (2 : Int) i_1.snd.fst.fst i_1.snd.fst.snd (↑(nat_lit 0) : Int) ==
 ofHi (-2147483648 : Int) (IntKind.i64.wrap (i.snd.snd + i.snd.fst)) &&
 true)) &&
 (itvLo (2 : Int) i_1.snd.snd.fst i_1.snd.snd.snd (↑(nat_lit 1) : Int) ==
 ofLo (IntKind.i64.wrap (i.fst - i.snd.fst)) (2147483647 : Int) &&
 (itvHi (2 : Int) i_1.snd.snd.fst i_1.snd.snd.snd (↑(nat_lit 1) : Int) ==
 ofHi (IntKind.i64.wrap (i.fst - i.snd.fst)) (2147483647 : Int) &&
 true)) &&
 withinP (2 : Int) i_1.snd.fst.fst i_1.snd.fst.snd (2 : Int) i_1.fst.fst i_1.fst.snd &&
 withinP (2 : Int) i_1.snd.snd.fst i_1.snd.snd.snd (2 : Int) i_1.fst.fst i_1.fst.snd) =
 true) (by kernel_rfl) ?_
    simp only [raw0, true_and, and_true, implies_true, Nat.mul_one, Int.toNat_natCast, c7, decide_eq_true_eq, decide_eq_false_iff_not, Nat.zero_add, forall_const, Nat.le_eq, at_iff, bne_iff_ne, bne_eq_false_iff_eq, and_self, and_self_left, Nat.reduceAdd]
    intro hl hw hb
    have ht : topN 2 = 2 := rfl
    rw [ht]
    simp only [itD_len]
    have t1 := tmod_any (IntKind.i64.wrap b)
    have t2 := tmod_1e5 l
    have gT := top2_good
    refine ⟨⟨((IntKind.i64.wrap l).tmod 100000, (IntKind.i64.wrap b).tmod 1000, IntKind.i64.wrap ((IntKind.i64.wrap l).tmod 100000 + IntKind.i64.wrap w)), ?_, rfl, rfl, rfl⟩, fun q hq => ?_⟩
    · have e : IntKind.i64.wrap ((IntKind.i64.wrap l).tmod 100000 + IntKind.i64.wrap w) = (IntKind.i64.wrap l).tmod 100000 + w := by rw [wr w (by omega), wr _ (by omega)]
      rw [e]
      exact ⟨t2, t1, by dsimp only; omega, by dsimp only; omega⟩
    obtain ⟨l', d, h⟩ := q
    obtain ⟨hl', hd, hh⟩ := hq
    dsimp only at hd hl' hh ⊢
    rw [wr (h + d) (by omega), wr (l' - d) (by omega)]
    have gA := good_bnd gT 0 1 d
    have pA : ∀ v, Pt 2 (bndZ 2 0 1 d (false, topF 2)) v ↔ In32 v ∧ v 1 - v 2 ≤ d := fun v => by
      rw [bnd_pt gT (show isEndP 2 0 = true from rfl) (show isEndP 2 1 = true from rfl), top2_pt]; exact Iff.rfl
    generalize bndZ 2 0 1 d (false, topF 2) = a at gA pA ⊢
    have gB := good_met gA 1 (ofLo l' h) (ofHi l' h)
    have pB := met_pt (lo := ofLo l' h) (hi := ofHi l' h) gA (show isVarP 2 1 = true from rfl)
    rw [(of_two (a := l') (b := h) (by omega)).1, (of_two (a := l') (b := h) (by omega)).2] at pB
    generalize metZ 2 1 (ofLo l' h) (ofHi l' h) a = m at gB pB ⊢
    have gC := good_met gA 0 (ofLo l' h) (ofHi l' h)
    have pC := met_pt (lo := ofLo l' h) (hi := ofHi l' h) gA (show isVarP 2 0 = true from rfl)
    rw [(of_two (a := l') (b := h) (by omega)).1, (of_two (a := l') (b := h) (by omega)).2] at pC
    generalize metZ 2 0 (ofLo l' h) (ofHi l' h) a = c at gC pC ⊢
    refine ⟨gT, by decide, gA, by decide, ⟨gA, by decide, (a, m, c), ⟨gA, gB, gC, pA, pB, pC⟩, rfl, rfl, trivial, rfl, fun _ _ => rfl, rfl, rfl, trivial, rfl, fun _ _ => rfl, rfl, rfl, trivial, rfl, fun _ _ => rfl⟩, fun q hq => ?_⟩
    clear gA gB gC pA pB pC a m c
    obtain ⟨a, m, c⟩ := q
    obtain ⟨gA, gB, gC, pA, pB, pC⟩ := hq
    dsimp only at gA gB gC pA pB pC ⊢
    have hlh : -2147483648 ≤ l' ∧ l' ≤ h ∧ h ≤ 2147483647 := by omega
    have mkB := fun x y (hx : -2147483648 ≤ x ∧ x ≤ 2147483647) (hy : l' ≤ y ∧ y ≤ h) (hxy : x - y ≤ d) => (pB (P2 x y)).2 ⟨(pA _).2 ⟨P2_in hx (by omega), hxy⟩, hy⟩
    have iB0 := itv_pts (x := 0) (a := -2147483648) (b := h + d) gB rfl ⟨_, mkB (-2147483648) h (by omega) (by omega) (by omega), rfl⟩ ⟨_, mkB (h + d) h (by omega) (by omega) (by omega), rfl⟩ (fun v hv => by
      obtain ⟨p, h1⟩ := (pB v).1 hv
      obtain ⟨p1, p2⟩ := (pA v).1 p
      have := p1.2.1
      show -2147483648 ≤ v 1 ∧ v 1 ≤ h + d
      omega)
    have mkC := fun x y (hx : l' ≤ x ∧ x ≤ h) (hy : -2147483648 ≤ y ∧ y ≤ 2147483647) (hxy : x - y ≤ d) => (pC (P2 x y)).2 ⟨(pA _).2 ⟨P2_in (by omega) hy, hxy⟩, hx⟩
    have iC1 := itv_pts (x := 1) (a := l' - d) (b := 2147483647) gC rfl ⟨_, mkC l' (l' - d) (by omega) (by omega) (by omega), rfl⟩ ⟨_, mkC l' 2147483647 (by omega) (by omega) (by omega), rfl⟩ (fun v hv => by
      obtain ⟨p, h1⟩ := (pC v).1 hv
      obtain ⟨p1, p2⟩ := (pA v).1 p
      have := p1.2.2
      show l' - d ≤ v 2 ∧ v 2 ≤ 2147483647
      omega)
    have w1 := within_pts gC (fun v hv => ((pC v).1 hv).1)
    have w2 := within_pts gB (fun v hv => ((pB v).1 hv).1)
    have e1 := of_one (a := -2147483648) (b := h + d) (by omega)
    have e2 := of_one (a := l' - d) (b := 2147483647) (by omega)
    have i1 : itvLo 2 m.1 m.2 ((0 : Nat) : Int) = -2147483648 := iB0.2.1
    have i2 : itvHi 2 m.1 m.2 ((0 : Nat) : Int) = h + d := iB0.2.2
    have i5 : itvLo 2 c.1 c.2 ((1 : Nat) : Int) = l' - d := iC1.2.1
    have i6 : itvHi 2 c.1 c.2 ((1 : Nat) : Int) = 2147483647 := iC1.2.2
    refine ⟨fun _ => by omega, fun _ => by omega, ?_⟩
    rw [w1, w2, i1, i2, i5, i6, e1.1, e1.2, e2.1, e2.2]
    simp
  · trivial
end Go.Proofs.Ytefdfggkhnahiaa.Sx.Z
