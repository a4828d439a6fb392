/-
  ZoneHas' contract.
-/
import Derived.Test.YtmdoafhohflhdaaZm
import Derived.Laws.Bits64
namespace Go.Proofs.Ytmdoafhohflhdaa.Sx.Z
open Go.RowKit
def kz (n : Int) : Int := IntKind.i64.wrap ((IntKind.u64.wrap n).tmod 7)
theorem u64_in (n : Int) : 0 ≤ IntKind.u64.wrap n ∧ IntKind.u64.wrap n ≤ 18446744073709551615 := by
  rw [IntKind.wrap_u64]; omega
theorem tmod_in {a b : Int} (ha : 0 ≤ a) (hb : 0 < b) : 0 ≤ a.tmod b ∧ a.tmod b < b := ⟨Int.tmod_nonneg _ ha, Int.tmod_lt_of_pos _ hb⟩
theorem kz_in (n : Int) : 0 ≤ kz n ∧ kz n ≤ 6 := by
  unfold kz
  have h := u64_in n
  have h2 := tmod_in h.1 (show (0 : Int) < 7 by omega)
  rw [wr _ (by omega)]
  omega
/-- A place among so many. -/
theorem px_in (x k : Int) (hk : 0 < k ∧ k ≤ 1000) : 0 ≤ IntKind.i64.wrap ((IntKind.u64.wrap x).tmod (IntKind.u64.wrap k)) ∧ IntKind.i64.wrap ((IntKind.u64.wrap x).tmod (IntKind.u64.wrap k)) < k := by
  have h := u64_in x
  have e : IntKind.u64.wrap k = k := by rw [IntKind.wrap_u64]; omega
  rw [e]
  have h2 := tmod_in h.1 hk.1
  rw [wr _ (by omega)]
  exact h2
theorem tmod_any (x : Int) : -999 ≤ x.tmod 1000 ∧ x.tmod 1000 ≤ 999 := by
  rcases Int.le_total 0 x with h | h
  · rw [Int.tmod_eq_emod_of_nonneg h]; omega
  · have e : x.tmod 1000 = -((-x).tmod 1000) := by rw [Int.neg_tmod]; omega
    rw [e, Int.tmod_eq_emod_of_nonneg (by omega)]; omega
theorem has_row {n : Int} {c : Bool} {f : Nat → Int} (m : Nat) (g : Nat → Int) : hasP n c f ((rowI m g).sub 0 m).len (ig ((rowI m g).sub 0 m)) = hasP n c f m g := by
  have e : ((rowI m g).sub 0 m).rows = (rowI m g).rows := by have := sub_all (rowI m g) (n := m) (rowI_len m g).symm; rwa [Nat.zero_add] at this
  rw [len_rows e, ig_rows e, rowI_len]
  exact has_congr fun q hq => ig_rowI m g hq
def lawhasS : FSpec := fun ds _ => match ds with
  | [.i n, .f f, .d row] => some { val := .one (.sc (.bool (.sym (true)))), vc := [∀ o, o < 6 → -2147483648 ≤ f o ∧ f o ≤ 2147483647] }
  | _ => none
def lawhasC : Con := con [iA, .agg [.ints .i32 6], .sc (.rows 44)] lawhasS
theorem lawhas_ok : ConOK Try.prog 4 lawhasC := by
  refine fn_ob tt_ok mixed Try.func4 rfl (fun _ _ => by kernel_rfl) (A := fun ds => ⟨fun _ => Cons.of [(12, topC), (21, boundC), (22, forgetC), (23, copyC), (24, zhasC), (16, copiesC)], fun k => match k, ds with | 5, [.i n, .f f, .d row] => some { ι := Nat, pre := fun _ i => i ≤ (kz n).toNat, μ := fun i => 7 - i, st := fun s i => famR s [(10, .one (.sc (.int .i64 (.sym ((i : Nat)))))), (9, .one (.sc (.osl 3 (s.nx - 1) (.lit 0) (.sym (i)))))] [2, 4, 6, 7, 8] [(s.nx - 1, .orow 3 (rowI i f))] [4, 8] } | 9, [.i n, .f f, .d row] => some { ι := Nat × Zs × (Nat → Int), pre := fun _ q => Good (kz n) q.2.1 ∧ Pt (kz n) q.2.1 (vz q.2.2), μ := fun q => 20 - q.1, st := fun s q => famR s [(11, .one (.sc (.int .i64 (.sym ((q.1 : Nat)))))), (9, .one (.sc (.osl 3 (idOf s 9) (.lit 0) (.sym ((kz n).toNat)))))] [2, 4, 6, 7, 8] [(idOf s 9, .orow 3 (rowI (kz n).toNat q.2.2)), (idOf s 8, .own 27 (zs (.sym (kz n)) (.sym (q.2.1).1) (q.2.1).2))] [4] } | _, _ => none, fun k => match k, ds with | 2, [.i n, .f f, .d row] => some { ι := Bool, pre := fun _ _ => True, μ := fun _ => 0, st := fun s q => famR s [(7, .one (.sc (.int .i64 (.sym (kz n)))))] [2, 4, 6] [] [4] } | 13, [.i n, .f f, .d row] => some { ι := Int × Int, pre := fun _ q => isVarP (kz n) q.1 = true ∧ isEndP (kz n) q.2 = true, μ := fun _ => 0, st := fun s q => famR s [(13, .one (.sc (.int .i64 (.sym (q.1))))), (14, .one (.sc (.int .i64 (.sym (q.2)))))] [2, 4, 6, 7, 8, 9, 11, 12] [] [4, 8, 9, 12] } | 14, [.i n, .f f, .d row] => some { ι := Int, pre := fun _ q => -999 ≤ q ∧ q ≤ 999, μ := fun _ => 0, st := fun s q => famR s [(15, .one (.sc (.int .i64 (.sym (q)))))] [2, 4, 6, 7, 8, 9, 11, 12, 13, 14] [] [4, 8, 9, 12] } | 17, [.i n, .f f, .d row] => some { ι := Int, pre := fun s q => q = if slotI s 14 ≥ 0 then ((dOf s 9).el (slotI s 14).toNat 0).toI else 0, μ := fun _ => 0, st := fun s q => famR s [(16, .one (.sc (.int .i64 (.sym (q)))))] [2, 4, 6, 7, 8, 9, 11, 12, 13, 14, 15] [] [4, 8, 9, 12] } | 30, [.i n, .f f, .d row] => some { ι := Zs × (Nat → Int), pre := fun _ q => Good (kz n) q.1 ∧ Pt (kz n) q.1 (vz q.2), μ := fun _ => 0, st := fun s q => famR s [] [2, 4, 6, 7, 8, 9, 11] [(idOf s 9, .orow 3 (rowI (kz n).toNat q.2)), (idOf s 8, .own 27 (zs (.sym (kz n)) (.sym (q.1).1) (q.1).2))] [4] } | _, _ => none⟩) (fun _ _ => (cons_cons top_ok (cons_cons bound_ok (cons_cons forget_ok (cons_cons copy_ok (cons_cons zhas_ok (cons_cons copies_ok cons_nil))))))) (by kernel_rfl) ?_
  intro ds fr
  unfold lawhasS
  split
  · rename_i n f row
    refine kmp (q := (∀ (o : Nat), o < (6 : Nat) → (-2147483648 : Int) ≤ f o ∧ f o ≤ (2147483647 : Int)) →
 (∃ (i : Bool),
 True ∧ IntKind.i64.wrap ((IntKind.u64.wrap n).tmod (7 : Int)) = kz n ∧ row.rows = row.rows ∧ false = false ∧ ∀ (o : Nat), o < nat_lit 6 → f o = f o) ∧
 ∀ (i : Bool),
 True →
 (∃ (i : Nat),
 i.le (kz n).toNat ∧
 (0 : Int) = (↑i : Int) ∧
 i = (0 : Nat) ∧
 row.rows = row.rows ∧
 false = false ∧
 kz n = kz n ∧
 List.map (fun (j : Nat) => [D.i (f j)]) (List.range i) = [] ∧
 (∀ (o : Nat), o < nat_lit 6 → f o = f o) ∧
 topN (kz n) = topN (kz n) ∧ false = false ∧ ∀ (o : Nat), o < nat_lit 49 → topF (kz n) o = topF (kz n) o) ∧
 ∀ (i : Nat),
 i.le (kz n).toNat →
 (decide ((↑i : Int) < kz n) = true →
 ((0 : Int) ≤ (↑i : Int) ∧ (↑i : Int) < (↑(6 : Nat) : Int)) ∧
 nat_lit 0 + (↑i : Int).toNat * (1 : Nat) < nat_lit 6 ∧
 i = (rowI i f).len ∧
 (i + ((D.l [[D.i (IntKind.i64.wrap (f (nat_lit 0 + (↑i : Int).toNat * (1 : Nat))))]]).sub (0 : Nat) ((0 : Nat) + (1 : Nat))).len) *
 (8 : Nat) ≤
 (140737488355328 : Nat) ∧
 (0 : Nat) + (1 : Nat) ≤ (D.l [[D.i (IntKind.i64.wrap (f (nat_lit 0 + (↑i : Int).toNat * (1 : Nat))))]]).len ∧
 ∃ (j : Nat),
 j.le (kz n).toNat ∧
 (7 : Nat) - j < (7 : Nat) - i ∧
 IntKind.i64.wrap ((↑i : Int) + (1 : Int)) = (↑j : Int) ∧
 i +
 ((D.l [[D.i (IntKind.i64.wrap (f (nat_lit 0 + (↑i : Int).toNat * (1 : Nat))))]]).sub (0 : Nat)
 ((0 : Nat) + (1 : Nat))).len =
 j ∧
 row.rows = row.rows ∧
 false = false ∧
 kz n = kz n ∧
 List.map (fun (j : Nat) => [D.i (f j)]) (List.range i) ++
 List.drop (0 : Nat)
 (List.take ((0 : Nat) + (1 : Nat))
 [[D.i (IntKind.i64.wrap (f (nat_lit 0 + (↑i : Int).toNat * (1 : Nat))))]]) =
 List.map (fun (j : Nat) => [D.i (f j)]) (List.range j) ∧
 (∀ (o : Nat), o < nat_lit 6 → f o = f o) ∧
 topN (kz n) = topN (kz n) ∧ false = false ∧ ∀ (o : Nat), o < nat_lit 49 → topF (kz n) o = topF (kz n) o) ∧
 (decide ((↑i : Int) < kz n) = false →
 (∃ (i_1 : Nat × Zs × (Nat → Int)),
 (Good (kz n) i_1.snd.fst ∧ Pt (kz n) i_1.snd.fst (vz i_1.snd.snd)) ∧
 (0 : Int) = (↑i_1.fst : Int) ∧
 i = (kz n).toNat ∧
 row.rows = row.rows ∧
 false = false ∧
 kz n = kz n ∧
 List.map (fun (j : Nat) => [D.i (f j)]) (List.range i) =
 List.map (fun (j : Nat) => [D.i (i_1.snd.snd j)]) (List.range (kz n).toNat) ∧
 topN (kz n) = kz n ∧
 false = i_1.snd.fst.fst ∧
 (∀ (o : Nat), o < nat_lit 49 → topF (kz n) o = i_1.snd.fst.snd o) ∧ ∀ (o : Nat), o < nat_lit 6 → f o = f o) ∧
 ∀ (i : Nat × Zs × (Nat → Int)),
 Good (kz n) i.snd.fst ∧ Pt (kz n) i.snd.fst (vz i.snd.snd) →
 ((decide ((↑i.fst : Int) < (↑row.len : Int)) && decide ((↑i.fst : Int) < (20 : Int)) && decide (kz n > (0 : Int))) = true →
 ((0 : Int) ≤ (↑i.fst : Int) ∧ (↑i.fst : Int) < (↑row.len : Int)) ∧
 (IntKind.u64.wrap (kz n) ≠ (0 : Int) ∧
 IntKind.u64.wrap (IntKind.i64.wrap (kz n + (1 : Int))) ≠ (0 : Int) ∧
 ∃ (i_1 : Int × Int),
 (isVarP (kz n) i_1.fst = true ∧ isEndP (kz n) i_1.snd = true) ∧
 IntKind.i64.wrap
 ((IntKind.u64.wrap (row.el (↑i.fst : Int).toNat ((0 : Nat) + (1 : Nat))).toI).tmod (IntKind.u64.wrap (kz n))) =
 i_1.fst ∧
 IntKind.i64.wrap
 (IntKind.i64.wrap
 ((IntKind.u64.wrap (row.el (↑i.fst : Int).toNat ((0 : Nat) + (1 : Nat) + (1 : Nat))).toI).tmod
 (IntKind.u64.wrap (IntKind.i64.wrap (kz n + (1 : Int))))) -
 (1 : Int)) =
 i_1.snd ∧
 row.rows = row.rows ∧
 false = false ∧
 kz n = kz n ∧
 (kz n).toNat = (kz n).toNat ∧
 (↑i.fst : Int) = (↑i.fst : Int) ∧
 (∀ (o : Nat), o < nat_lit 6 → f o = f o) ∧
 kz n = kz n ∧
 i.snd.fst.fst = i.snd.fst.fst ∧
 (∀ (o : Nat), o < nat_lit 49 → i.snd.fst.snd o = i.snd.fst.snd o) ∧
 List.map (fun (j : Nat) => [D.i (i.snd.snd j)]) (List.range (kz n).toNat) =
 List.map (fun (j : Nat) => [D.i (i.snd.snd j)]) (List.range (kz n).toNat) ∧
 (row.el (↑i.fst : Int).toNat (0 : Nat)).toI = (row.el (↑i.fst : Int).toNat (0 : Nat)).toI ∧
 (row.el (↑i.fst : Int).toNat ((0 : Nat) + (1 : Nat))).toI =
 (row.el (↑i.fst : Int).toNat ((0 : Nat) + (1 : Nat))).toI ∧
 (row.el (↑i.fst : Int).toNat ((0 : Nat) + (1 : Nat) + (1 : Nat))).toI =
 (row.el (↑i.fst : Int).toNat ((0 : Nat) + (1 : Nat) + (1 : Nat))).toI ∧
 (row.el (↑i.fst : Int).toNat ((0 : Nat) + (1 : Nat) + (1 : Nat) + (1 : Nat))).toI =
 (row.el (↑i.fst : Int).toNat ((0 : Nat) + (1 : Nat) + (1 : Nat) + (1 : Nat))).toI) ∧
 ∀ (i_1 : Int × Int),
 isVarP (kz n) i_1.fst = true ∧ isEndP (kz n) i_1.snd = true →
 (∃ (i_2 : Int),
 ((-999 : Int) ≤ i_2 ∧ i_2 ≤ (999 : Int)) ∧
 (IntKind.i64.wrap
 (IntKind.i32.wrap (row.el (↑i.fst : Int).toNat ((0 : Nat) + (1 : Nat) + (1 : Nat) + (1 : Nat))).toI)).tmod
 (1000 : Int) =
 i_2 ∧
 row.rows = row.rows ∧
 false = false ∧
 kz n = kz n ∧
 (kz n).toNat = (kz n).toNat ∧
 (↑i.fst : Int) = (↑i.fst : Int) ∧
 i_1.fst = i_1.fst ∧
 i_1.snd = i_1.snd ∧
 (∀ (o : Nat), o < nat_lit 6 → f o = f o) ∧
 kz n = kz n ∧
 i.snd.fst.fst = i.snd.fst.fst ∧
 (∀ (o : Nat), o < nat_lit 49 → i.snd.fst.snd o = i.snd.fst.snd o) ∧
 List.map (fun (j : Nat) => [D.i (i.snd.snd j)]) (List.range (kz n).toNat) =
 List.map (fun (j : Nat) => [D.i (i.snd.snd j)]) (List.range (kz n).toNat) ∧
 (row.el (↑i.fst : Int).toNat (0 : Nat)).toI = (row.el (↑i.fst : Int).toNat (0 : Nat)).toI ∧
 (row.el (↑i.fst : Int).toNat ((0 : Nat) + (1 : Nat))).toI =
 (row.el (↑i.fst : Int).toNat ((0 : Nat) + (1 : Nat))).toI ∧
 (row.el (↑i.fst : Int).toNat ((0 : Nat) + (1 : Nat) + (1 : Nat))).toI =
 (row.el (↑i.fst : Int).toNat ((0 : Nat) + (1 : Nat) + (1 : Nat))).toI ∧
 (row.el (↑i.fst : Int).toNat ((0 : Nat) + (1 : Nat) + (1 : Nat) + (1 : Nat))).toI =
 (row.el (↑i.fst : Int).toNat ((0 : Nat) + (1 : Nat) + (1 : Nat) + (1 : Nat))).toI) ∧
 ∀ (i_2 : Int),
 (-999 : Int) ≤ i_2 ∧ i_2 ≤ (999 : Int) →
 ((decide (i_1.snd ≥ (0 : Int)) = true →
 ((0 : Int) ≤ i_1.snd ∧ i_1.snd < (↑(kz n).toNat : Int)) ∧
 i_1.snd.toNat < (rowI (kz n).toNat i.snd.snd).len ∧
 ∃ (i_3 : Int),
 (i_3 =
 if i_1.snd ≥ (0 : Int) then ((rowI (kz n).toNat i.snd.snd).el i_1.snd.toNat (0 : Nat)).toI
 else (0 : Int)) ∧
 ((rowI (kz n).toNat i.snd.snd).el i_1.snd.toNat (0 : Nat)).toI = i_3 ∧
 row.rows = row.rows ∧
 false = false ∧
 kz n = kz n ∧
 (kz n).toNat = (kz n).toNat ∧
 (↑i.fst : Int) = (↑i.fst : Int) ∧
 i_1.fst = i_1.fst ∧
 i_1.snd = i_1.snd ∧
 i_2 = i_2 ∧
 (∀ (o : Nat), o < nat_lit 6 → f o = f o) ∧
 kz n = kz n ∧
 i.snd.fst.fst = i.snd.fst.fst ∧
 (∀ (o : Nat), o < nat_lit 49 → i.snd.fst.snd o = i.snd.fst.snd o) ∧
 List.map (fun (j : Nat) => [D.i (i.snd.snd j)]) (List.range (kz n).toNat) =
 List.map (fun (j : Nat) => [D.i (i.snd.snd j)])
 (List.range (kz n).toNat) ∧
 (row.el (↑i.fst : Int).toNat (0 : Nat)).toI =
 (row.el (↑i.fst : Int).toNat (0 : Nat)).toI ∧
 (row.el (↑i.fst : Int).toNat ((0 : Nat) + (1 : Nat))).toI =
 (row.el (↑i.fst : Int).toNat ((0 : Nat) + (1 : Nat))).toI ∧
 (row.el (↑i.fst : Int).toNat ((0 : Nat) + (1 : Nat) + (1 : Nat))).toI =
 (row.el (↑i.fst : Int).toNat
 ((0 : Nat) + (1 : Nat) + (1 : Nat))).toI ∧
 (row.el (↑i.fst : Int).toNat
 ((0 : Nat) + (1 : Nat) + (1 : Nat) + (1 : Nat))).toI =
 (row.el (↑i.fst : Int).toNat
 ((0 : Nat) + (1 : Nat) + (1 : Nat) + (1 : Nat))).toI) ∧
 (decide (i_1.snd ≥ (0 : Int)) = false →
 ∃ (i_3 : Int),
 (i_3 =
 if i_1.snd ≥ (0 : Int) then ((rowI (kz n).toNat i.snd.snd).el i_1.snd.toNat (0 : Nat)).toI
 else (0 : Int)) ∧
 (0 : Int) = i_3 ∧
 row.rows = row.rows ∧
 false = false ∧
 kz n = kz n ∧
 (kz n).toNat = (kz n).toNat ∧
 (↑i.fst : Int) = (↑i.fst : Int) ∧
 i_1.fst = i_1.fst ∧
 i_1.snd = i_1.snd ∧
 i_2 = i_2 ∧
 (∀ (o : Nat), o < nat_lit 6 → f o = f o) ∧
 kz n = kz n ∧
 i.snd.fst.fst = i.snd.fst.fst ∧
 (∀ (o : Nat), o < nat_lit 49 → i.snd.fst.snd o = i.snd.fst.snd o) ∧
 List.map (fun (j : Nat) => [D.i (i.snd.snd j)]) (List.range (kz n).toNat) =
 List.map (fun (j : Nat) => [D.i (i.snd.snd j)]) (List.range (kz n).toNat) ∧
 (row.el (↑i.fst : Int).toNat (0 : Nat)).toI =
 (row.el (↑i.fst : Int).toNat (0 : Nat)).toI ∧
 (row.el (↑i.fst : Int).toNat ((0 : Nat) + (1 : Nat))).toI =
 (row.el (↑i.fst : Int).toNat ((0 : Nat) + (1 : Nat))).toI ∧
 (row.el (↑i.fst : Int).toNat ((0 : Nat) + (1 : Nat) + (1 : Nat))).toI =
 (row.el (↑i.fst : Int).toNat ((0 : Nat) + (1 : Nat) + (1 : Nat))).toI ∧
 (row.el (↑i.fst : Int).toNat
 ((0 : Nat) + (1 : Nat) + (1 : Nat) + (1 : Nat))).toI =
 (row.el (↑i.fst : Int).toNat
 ((0 : Nat) + (1 : Nat) + (1 : Nat) + (1 : Nat))).toI)) ∧
 ∀ (i_3 : Int),
 (i_3 =
 if i_1.snd ≥ (0 : Int) then ((rowI (kz n).toNat i.snd.snd).el i_1.snd.toNat (0 : Nat)).toI else (0 : Int)) →
 (((IntKind.i64.wrap ((IntKind.u64.wrap (row.el (↑i.fst : Int).toNat (0 : Nat)).toI).tmod (5 : Int)) ==
 (0 : Int)) =
 true →
 ((IntKind.i64.wrap ((IntKind.u64.wrap (row.el (↑i.fst : Int).toNat (0 : Nat)).toI).tmod (5 : Int)) ==
 (0 : Int)) =
 true →
 ((i_1.fst != i_1.snd) = true →
 ((0 : Int) ≤ i_1.fst ∧ i_1.fst < (↑(kz n).toNat : Int)) ∧
 i_1.fst.toNat < (rowI (kz n).toNat i.snd.snd).len ∧
 Sm i.snd.fst.snd ∧
 ∃ (i_4 : Zs × (Nat → Int)),
 (Good (kz n) i_4.fst ∧ Pt (kz n) i_4.fst (vz i_4.snd)) ∧
 row.rows = row.rows ∧
 false = false ∧
 kz n = kz n ∧
 (kz n).toNat = (kz n).toNat ∧
 (↑i.fst : Int) = (↑i.fst : Int) ∧
 List.map (fun (j : Nat) => [D.i (i.snd.snd j)]) (List.range (kz n).toNat) =
 List.map (fun (j : Nat) => [D.i (i_4.snd j)]) (List.range (kz n).toNat) ∧
 kz n = kz n ∧
 bndC (kz n) i.snd.fst.fst i.snd.fst.snd i_1.fst i_1.snd
 (IntKind.i64.wrap
 (IntKind.i64.wrap
 (((rowI (kz n).toNat i.snd.snd).el i_1.fst.toNat
 (0 : Nat)).toI -
 i_3) +
 if (0 : Int) > i_2 then (0 : Int) else i_2)) =
 i_4.fst.fst ∧
 (∀ (o : Nat),
 o < nat_lit 49 →
 bndF (kz n) i.snd.fst.fst i.snd.fst.snd i_1.fst i_1.snd
 (IntKind.i64.wrap
 (IntKind.i64.wrap
 (((rowI (kz n).toNat i.snd.snd).el i_1.fst.toNat
 (0 : Nat)).toI -
 i_3) +
 if (0 : Int) > i_2 then (0 : Int) else i_2))
 o =
 i_4.fst.snd o) ∧
 ∀ (o : Nat), o < nat_lit 6 → f o = f o) ∧
 ((i_1.fst != i_1.snd) = false →
 ∃ (i_4 : Zs × (Nat → Int)),
 (Good (kz n) i_4.fst ∧ Pt (kz n) i_4.fst (vz i_4.snd)) ∧
 row.rows = row.rows ∧
 false = false ∧
 kz n = kz n ∧
 (kz n).toNat = (kz n).toNat ∧
 (↑i.fst : Int) = (↑i.fst : Int) ∧
 List.map (fun (j : Nat) => [D.i (i.snd.snd j)]) (List.range (kz n).toNat) =
 List.map (fun (j : Nat) => [D.i (i_4.snd j)]) (List.range (kz n).toNat) ∧
 kz n = kz n ∧
 i.snd.fst.fst = i_4.fst.fst ∧
 (∀ (o : Nat), o < nat_lit 49 → i.snd.fst.snd o = i_4.fst.snd o) ∧
 ∀ (o : Nat), o < nat_lit 6 → f o = f o)) ∧
 ((IntKind.i64.wrap ((IntKind.u64.wrap (row.el (↑i.fst : Int).toNat (0 : Nat)).toI).tmod (5 : Int)) ==
 (0 : Int)) =
 false →
 ((IntKind.i64.wrap ((IntKind.u64.wrap (row.el (↑i.fst : Int).toNat (0 : Nat)).toI).tmod (5 : Int)) ==
 (2 : Int)) =
 true →
 Sm i.snd.fst.snd ∧
 ((0 : Int) ≤ i_1.fst ∧ i_1.fst < (↑(kz n).toNat : Int)) ∧
 i_1.fst.toNat < (rowI (kz n).toNat i.snd.snd).len ∧
 ∃ (i_4 : Zs × (Nat → Int)),
 (Good (kz n) i_4.fst ∧ Pt (kz n) i_4.fst (vz i_4.snd)) ∧
 row.rows = row.rows ∧
 false = false ∧
 kz n = kz n ∧
 (kz n).toNat = (kz n).toNat ∧
 (↑i.fst : Int) = (↑i.fst : Int) ∧
 (List.map (fun (j : Nat) => [D.i (i.snd.snd j)])
 (List.range (kz n).toNat)).set
 i_1.fst.toNat [D.i i_2] =
 List.map (fun (j : Nat) => [D.i (i_4.snd j)]) (List.range (kz n).toNat) ∧
 kz n = kz n ∧
 i.snd.fst.fst = i_4.fst.fst ∧
 (∀ (o : Nat),
 o < nat_lit 49 →
 forgetF (kz n) i.snd.fst.fst i.snd.fst.snd i_1.fst o =
 i_4.fst.snd o) ∧
 ∀ (o : Nat), o < nat_lit 6 → f o = f o) ∧
 ((IntKind.i64.wrap
 ((IntKind.u64.wrap (row.el (↑i.fst : Int).toNat (0 : Nat)).toI).tmod (5 : Int)) ==
 (2 : Int)) =
 false →
 ((IntKind.i64.wrap
 ((IntKind.u64.wrap (row.el (↑i.fst : Int).toNat (0 : Nat)).toI).tmod (5 : Int)) ==
 (3 : Int)) =
 true →
 ((IntKind.i64.wrap
 ((IntKind.u64.wrap (row.el (↑i.fst : Int).toNat (0 : Nat)).toI).tmod (5 : Int)) ==
 (3 : Int)) =
 true →
 ((decide (IntKind.i64.wrap (i_3 + i_2) ≥ (-2147483648 : Int)) &&
 decide (IntKind.i64.wrap (i_3 + i_2) ≤ (2147483647 : Int))) =
 true →
 Good (kz n) (i.snd.fst.fst, i.snd.fst.snd) ∧
 ((0 : Int) ≤ i_1.fst ∧ i_1.fst < (↑(kz n).toNat : Int)) ∧
 i_1.fst.toNat < (rowI (kz n).toNat i.snd.snd).len ∧
 ∃ (i_4 : Zs × (Nat → Int)),
 (Good (kz n) i_4.fst ∧ Pt (kz n) i_4.fst (vz i_4.snd)) ∧
 row.rows = row.rows ∧
 false = false ∧
 kz n = kz n ∧
 (kz n).toNat = (kz n).toNat ∧
 (↑i.fst : Int) = (↑i.fst : Int) ∧
 (List.map (fun (j : Nat) => [D.i (i.snd.snd j)])
 (List.range (kz n).toNat)).set
 i_1.fst.toNat [D.i (IntKind.i64.wrap (i_3 + i_2))] =
 List.map (fun (j : Nat) => [D.i (i_4.snd j)])
 (List.range (kz n).toNat) ∧
 kz n = kz n ∧
 (copyZ (kz n) i_1.fst i_1.snd i_2
 (i.snd.fst.fst, i.snd.fst.snd)).fst =
 i_4.fst.fst ∧
 (∀ (o : Nat),
 o < nat_lit 49 →
 (copyZ (kz n) i_1.fst i_1.snd i_2
 (i.snd.fst.fst, i.snd.fst.snd)).snd
 o =
 i_4.fst.snd o) ∧
 ∀ (o : Nat), o < nat_lit 6 → f o = f o) ∧
 ((decide (IntKind.i64.wrap (i_3 + i_2) ≥ (-2147483648 : Int)) &&
 decide (IntKind.i64.wrap (i_3 + i_2) ≤ (2147483647 : Int))) =
 false →
 ∃ (i_4 : Zs × (Nat → Int)),
 (Good (kz n) i_4.fst ∧ Pt (kz n) i_4.fst (vz i_4.snd)) ∧
 row.rows = row.rows ∧
 false = false ∧
 kz n = kz n ∧
 (kz n).toNat = (kz n).toNat ∧
 (↑i.fst : Int) = (↑i.fst : Int) ∧
 List.map (fun (j : Nat) => [D.i (i.snd.snd j)])
 (List.range (kz n).toNat) =
 List.map (fun (j : Nat) => [D.i (i_4.snd j)])
 (List.range (kz n).toNat) ∧
 kz n = kz n ∧
 i.snd.fst.fst = i_4.fst.fst ∧
 (∀ (o : Nat), o < nat_lit 49 → i.snd.fst.snd o = i_4.fst.snd o) ∧
 ∀ (o : Nat), o < nat_lit 6 → f o = f o)) ∧
 ((IntKind.i64.wrap
 ((IntKind.u64.wrap (row.el (↑i.fst : Int).toNat (0 : Nat)).toI).tmod (5 : Int)) ==
 (3 : Int)) =
 false →
 ∃ (i_4 : Zs × (Nat → Int)),
 (Good (kz n) i_4.fst ∧ Pt (kz n) i_4.fst (vz i_4.snd)) ∧
 row.rows = row.rows ∧
 false = false ∧
 kz n = kz n ∧
 (kz n).toNat = (kz n).toNat ∧
 (↑i.fst : Int) = (↑i.fst : Int) ∧
 List.map (fun (j : Nat) => [D.i (i.snd.snd j)]) (List.range (kz n).toNat) =
 List.map (fun (j : Nat) => [D.i (i_4.snd j)])
 (List.range (kz n).toNat) ∧
 kz n = kz n ∧
 i.snd.fst.fst = i_4.fst.fst ∧
 (∀ (o : Nat), o < nat_lit 49 → i.snd.fst.snd o = i_4.fst.snd o) ∧
 ∀ (o : Nat), o < nat_lit 6 → f o = f o)) ∧
 ((IntKind.i64.wrap
 ((IntKind.u64.wrap (row.el (↑i.fst : Int).toNat (0 : Nat)).toI).tmod (5 : Int)) ==
 (3 : Int)) =
 false →
 ((IntKind.i64.wrap
 ((IntKind.u64.wrap (row.el (↑i.fst : Int).toNat (0 : Nat)).toI).tmod (5 : Int)) ==
 (4 : Int)) =
 true →
 ((decide (IntKind.i64.wrap (i_3 + i_2) ≥ (-2147483648 : Int)) &&
 decide (IntKind.i64.wrap (i_3 + i_2) ≤ (2147483647 : Int))) =
 true →
 Good (kz n) (i.snd.fst.fst, i.snd.fst.snd) ∧
 ((0 : Int) ≤ i_1.fst ∧ i_1.fst < (↑(kz n).toNat : Int)) ∧
 i_1.fst.toNat < (rowI (kz n).toNat i.snd.snd).len ∧
 ∃ (i_4 : Zs × (Nat → Int)),
 (Good (kz n) i_4.fst ∧ Pt (kz n) i_4.fst (vz i_4.snd)) ∧
 row.rows = row.rows ∧
 false = false ∧
 kz n = kz n ∧
 (kz n).toNat = (kz n).toNat ∧
 (↑i.fst : Int) = (↑i.fst : Int) ∧
 (List.map (fun (j : Nat) => [D.i (i.snd.snd j)])
 (List.range (kz n).toNat)).set
 i_1.fst.toNat [D.i (IntKind.i64.wrap (i_3 + i_2))] =
 List.map (fun (j : Nat) => [D.i (i_4.snd j)])
 (List.range (kz n).toNat) ∧
 kz n = kz n ∧
 (copyZ (kz n) i_1.fst i_1.snd i_2
 (i.snd.fst.fst, i.snd.fst.snd)).fst =
 i_4.fst.fst ∧
 (∀ (o : Nat),
 o < nat_lit 49 →
 (copyZ (kz n) i_1.fst i_1.snd i_2
 (i.snd.fst.fst, i.snd.fst.snd)).snd
 o =
 i_4.fst.snd o) ∧
 ∀ (o : Nat), o < nat_lit 6 → f o = f o) ∧
 ((decide (IntKind.i64.wrap (i_3 + i_2) ≥ (-2147483648 : Int)) &&
 decide (IntKind.i64.wrap (i_3 + i_2) ≤ (2147483647 : Int))) =
 false →
 ∃ (i_4 : Zs × (Nat → Int)),
 (Good (kz n) i_4.fst ∧ Pt (kz n) i_4.fst (vz i_4.snd)) ∧
 row.rows = row.rows ∧
 false = false ∧
 kz n = kz n ∧
 (kz n).toNat = (kz n).toNat ∧
 (↑i.fst : Int) = (↑i.fst : Int) ∧
 List.map (fun (j : Nat) => [D.i (i.snd.snd j)])
 (List.range (kz n).toNat) =
 List.map (fun (j : Nat) => [D.i (i_4.snd j)])
 (List.range (kz n).toNat) ∧
 kz n = kz n ∧
 i.snd.fst.fst = i_4.fst.fst ∧
 (∀ (o : Nat), o < nat_lit 49 → i.snd.fst.snd o = i_4.fst.snd o) ∧
 ∀ (o : Nat), o < nat_lit 6 → f o = f o)) ∧
 ((IntKind.i64.wrap
 ((IntKind.u64.wrap (row.el (↑i.fst : Int).toNat (0 : Nat)).toI).tmod (5 : Int)) ==
 (4 : Int)) =
 false →
 ∃ (i_4 : Zs × (Nat → Int)),
 (Good (kz n) i_4.fst ∧ Pt (kz n) i_4.fst (vz i_4.snd)) ∧
 row.rows = row.rows ∧
 false = false ∧
 kz n = kz n ∧
 (kz n).toNat = (kz n).toNat ∧
 (↑i.fst : Int) = (↑i.fst : Int) ∧
 List.map (fun (j : Nat) => [D.i (i.snd.snd j)]) (List.range (kz n).toNat) =
 List.map (fun (j : Nat) => [D.i (i_4.snd j)])
 (List.range (kz n).toNat) ∧
 kz n = kz n ∧
 i.snd.fst.fst = i_4.fst.fst ∧
 (∀ (o : Nat), o < nat_lit 49 → i.snd.fst.snd o = i_4.fst.snd o) ∧
 ∀ (o : Nat), o < nat_lit 6 → f o = f o))))) ∧
 ((IntKind.i64.wrap ((IntKind.u64.wrap (row.el (↑i.fst : Int).toNat (0 : Nat)).toI).tmod (5 : Int)) ==
 (0 : Int)) =
 false →
 ((IntKind.i64.wrap ((IntKind.u64.wrap (row.el (↑i.fst : Int).toNat (0 : Nat)).toI).tmod (5 : Int)) ==
 (1 : Int)) =
 true →
 ((i_1.fst != i_1.snd) = true →
 ((0 : Int) ≤ i_1.fst ∧ i_1.fst < (↑(kz n).toNat : Int)) ∧
 i_1.fst.toNat < (rowI (kz n).toNat i.snd.snd).len ∧
 Sm i.snd.fst.snd ∧
 ∃ (i_4 : Zs × (Nat → Int)),
 (Good (kz n) i_4.fst ∧ Pt (kz n) i_4.fst (vz i_4.snd)) ∧
 row.rows = row.rows ∧
 false = false ∧
 kz n = kz n ∧
 (kz n).toNat = (kz n).toNat ∧
 (↑i.fst : Int) = (↑i.fst : Int) ∧
 List.map (fun (j : Nat) => [D.i (i.snd.snd j)]) (List.range (kz n).toNat) =
 List.map (fun (j : Nat) => [D.i (i_4.snd j)]) (List.range (kz n).toNat) ∧
 kz n = kz n ∧
 bndC (kz n) i.snd.fst.fst i.snd.fst.snd i_1.fst i_1.snd
 (IntKind.i64.wrap
 (IntKind.i64.wrap
 (((rowI (kz n).toNat i.snd.snd).el i_1.fst.toNat
 (0 : Nat)).toI -
 i_3) +
 if (0 : Int) > i_2 then (0 : Int) else i_2)) =
 i_4.fst.fst ∧
 (∀ (o : Nat),
 o < nat_lit 49 →
 bndF (kz n) i.snd.fst.fst i.snd.fst.snd i_1.fst i_1.snd
 (IntKind.i64.wrap
 (IntKind.i64.wrap
 (((rowI (kz n).toNat i.snd.snd).el i_1.fst.toNat
 (0 : Nat)).toI -
 i_3) +
 if (0 : Int) > i_2 then (0 : Int) else i_2))
 o =
 i_4.fst.snd o) ∧
 ∀ (o : Nat), o < nat_lit 6 → f o = f o) ∧
 ((i_1.fst != i_1.snd) = false →
 ∃ (i_4 : Zs × (Nat → Int)),
 (Good (kz n) i_4.fst ∧ Pt (kz n) i_4.fst (vz i_4.snd)) ∧
 row.rows = row.rows ∧
 false = false ∧
 kz n = kz n ∧
 (kz n).toNat = (kz n).toNat ∧
 (↑i.fst : Int) = (↑i.fst : Int) ∧
 List.map (fun (j : Nat) => [D.i (i.snd.snd j)]) (List.range (kz n).toNat) =
 List.map (fun (j : Nat) => [D.i (i_4.snd j)]) (List.range (kz n).toNat) ∧
 kz n = kz n ∧
 i.snd.fst.fst = i_4.fst.fst ∧
 (∀ (o : Nat), o < nat_lit 49 → i.snd.fst.snd o = i_4.fst.snd o) ∧
 ∀ (o : Nat), o < nat_lit 6 → f o = f o)) ∧
 ((IntKind.i64.wrap ((IntKind.u64.wrap (row.el (↑i.fst : Int).toNat (0 : Nat)).toI).tmod (5 : Int)) ==
 (1 : Int)) =
 false →
 ((IntKind.i64.wrap ((IntKind.u64.wrap (row.el (↑i.fst : Int).toNat (0 : Nat)).toI).tmod (5 : Int)) ==
 (2 : Int)) =
 true →
 Sm i.snd.fst.snd ∧
 ((0 : Int) ≤ i_1.fst ∧ i_1.fst < (↑(kz n).toNat : Int)) ∧
 i_1.fst.toNat < (rowI (kz n).toNat i.snd.snd).len ∧
 ∃ (i_4 : Zs × (Nat → Int)),
 (Good (kz n) i_4.fst ∧ Pt (kz n) i_4.fst (vz i_4.snd)) ∧
 row.rows = row.rows ∧
 false = false ∧
 kz n = kz n ∧
 (kz n).toNat = (kz n).toNat ∧
 (↑i.fst : Int) = (↑i.fst : Int) ∧
 (List.map (fun (j : Nat) => [D.i (i.snd.snd j)])
 (List.range (kz n).toNat)).set
 i_1.fst.toNat [D.i i_2] =
 List.map (fun (j : Nat) => [D.i (i_4.snd j)]) (List.range (kz n).toNat) ∧
 kz n = kz n ∧
 i.snd.fst.fst = i_4.fst.fst ∧
 (∀ (o : Nat),
 o < nat_lit 49 →
 forgetF (kz n) i.snd.fst.fst i.snd.fst.snd i_1.fst o =
 i_4.fst.snd o) ∧
 ∀ (o : Nat), o < nat_lit 6 → f o = f o) ∧
 ((IntKind.i64.wrap
 ((IntKind.u64.wrap (row.el (↑i.fst : Int).toNat (0 : Nat)).toI).tmod (5 : Int)) ==
 (2 : Int)) =
 false →
 ((IntKind.i64.wrap
 ((IntKind.u64.wrap (row.el (↑i.fst : Int).toNat (0 : Nat)).toI).tmod (5 : Int)) ==
 (3 : Int)) =
 true →
 ((IntKind.i64.wrap
 ((IntKind.u64.wrap (row.el (↑i.fst : Int).toNat (0 : Nat)).toI).tmod (5 : Int)) ==
 (3 : Int)) =
 true →
 ((decide (IntKind.i64.wrap (i_3 + i_2) ≥ (-2147483648 : Int)) &&
 decide (IntKind.i64.wrap (i_3 + i_2) ≤ (2147483647 : Int))) =
 true →
 Good (kz n) (i.snd.fst.fst, i.snd.fst.snd) ∧
 ((0 : Int) ≤ i_1.fst ∧ i_1.fst < (↑(kz n).toNat : Int)) ∧
 i_1.fst.toNat < (rowI (kz n).toNat i.snd.snd).len ∧
 ∃ (i_4 : Zs × (Nat → Int)),
 (Good (kz n) i_4.fst ∧ Pt (kz n) i_4.fst (vz i_4.snd)) ∧
 row.rows = row.rows ∧
 false = false ∧
 kz n = kz n ∧
 (kz n).toNat = (kz n).toNat ∧
 (↑i.fst : Int) = (↑i.fst : Int) ∧
 (List.map (fun (j : Nat) => [D.i (i.snd.snd j)])
 (List.range (kz n).toNat)).set
 i_1.fst.toNat [D.i (IntKind.i64.wrap (i_3 + i_2))] =
 List.map (fun (j : Nat) => [D.i (i_4.snd j)])
 (List.range (kz n).toNat) ∧
 kz n = kz n ∧
 (copyZ (kz n) i_1.fst i_1.snd i_2
 (i.snd.fst.fst, i.snd.fst.snd)).fst =
 i_4.fst.fst ∧
 (∀ (o : Nat),
 o < nat_lit 49 →
 (copyZ (kz n) i_1.fst i_1.snd i_2
 (i.snd.fst.fst, i.snd.fst.snd)).snd
 o =
 i_4.fst.snd o) ∧
 ∀ (o : Nat), o < nat_lit 6 → f o = f o) ∧
 ((decide (IntKind.i64.wrap (i_3 + i_2) ≥ (-2147483648 : Int)) &&
 decide (IntKind.i64.wrap (i_3 + i_2) ≤ (2147483647 : Int))) =
 false →
 ∃ (i_4 : Zs × (Nat → Int)),
 (Good (kz n) i_4.fst ∧ Pt (kz n) i_4.fst (vz i_4.snd)) ∧
 row.rows = row.rows ∧
 false = false ∧
 kz n = kz n ∧
 (kz n).toNat = (kz n).toNat ∧
 (↑i.fst : Int) = (↑i.fst : Int) ∧
 List.map (fun (j : Nat) => [D.i (i.snd.snd j)])
 (List.range (kz n).toNat) =
 List.map (fun (j : Nat) => [D.i (i_4.snd j)])
 (List.range (kz n).toNat) ∧
 kz n = kz n ∧
 i.snd.fst.fst = i_4.fst.fst ∧
 (∀ (o : Nat), o < nat_lit 49 → i.snd.fst.snd o = i_4.fst.snd o) ∧
 ∀ (o : Nat), o < nat_lit 6 → f o = f o)) ∧
 ((IntKind.i64.wrap
 ((IntKind.u64.wrap (row.el (↑i.fst : Int).toNat (0 : Nat)).toI).tmod (5 : Int)) ==
 (3 : Int)) =
 false →
 ∃ (i_4 : Zs × (Nat → Int)),
 (Good (kz n) i_4.fst ∧ Pt (kz n) i_4.fst (vz i_4.snd)) ∧
 row.rows = row.rows ∧
 false = false ∧
 kz n = kz n ∧
 (kz n).toNat = (kz n).toNat ∧
 (↑i.fst : Int) = (↑i.fst : Int) ∧
 List.map (fun (j : Nat) => [D.i (i.snd.snd j)]) (List.range (kz n).toNat) =
 List.map (fun (j : Nat) => [D.i (i_4.snd j)])
 (List.range (kz n).toNat) ∧
 kz n = kz n ∧
 i.snd.fst.fst = i_4.fst.fst ∧
 (∀ (o : Nat), o < nat_lit 49 → i.snd.fst.snd o = i_4.fst.snd o) ∧
 ∀ (o : Nat), o < nat_lit 6 → f o = f o)) ∧
 ((IntKind.i64.wrap
 ((IntKind.u64.wrap (row.el (↑i.fst : Int).toNat (0 : Nat)).toI).tmod (5 : Int)) ==
 (3 : Int)) =
 false →
 ((IntKind.i64.wrap
 ((IntKind.u64.wrap (row.el (↑i.fst : Int).toNat (0 : Nat)).toI).tmod (5 : Int)) ==
 (4 : Int)) =
 true →
 ((decide (IntKind.i64.wrap (i_3 + i_2) ≥ (-2147483648 : Int)) &&
 decide (IntKind.i64.wrap (i_3 + i_2) ≤ (2147483647 : Int))) =
 true →
 Good (kz n) (i.snd.fst.fst, i.snd.fst.snd) ∧
 ((0 : Int) ≤ i_1.fst ∧ i_1.fst < (↑(kz n).toNat : Int)) ∧
 i_1.fst.toNat < (rowI (kz n).toNat i.snd.snd).len ∧
 ∃ (i_4 : Zs × (Nat → Int)),
 (Good (kz n) i_4.fst ∧ Pt (kz n) i_4.fst (vz i_4.snd)) ∧
 row.rows = row.rows ∧
 false = false ∧
 kz n = kz n ∧
 (kz n).toNat = (kz n).toNat ∧
 (↑i.fst : Int) = (↑i.fst : Int) ∧
 (List.map (fun (j : Nat) => [D.i (i.snd.snd j)])
 (List.range (kz n).toNat)).set
 i_1.fst.toNat [D.i (IntKind.i64.wrap (i_3 + i_2))] =
 List.map (fun (j : Nat) => [D.i (i_4.snd j)])
 (List.range (kz n).toNat) ∧
 kz n = kz n ∧
 (copyZ (kz n) i_1.fst i_1.snd i_2
 (i.snd.fst.fst, i.snd.fst.snd)).fst =
 i_4.fst.fst ∧
 (∀ (o : Nat),
 o < nat_lit 49 →
 (copyZ (kz n) i_1.fst i_1.snd i_2
 (i.snd.fst.fst, i.snd.fst.snd)).snd
 o =
 i_4.fst.snd o) ∧
 ∀ (o : Nat), o < nat_lit 6 → f o = f o) ∧
 ((decide (IntKind.i64.wrap (i_3 + i_2) ≥ (-2147483648 : Int)) &&
 decide (IntKind.i64.wrap (i_3 + i_2) ≤ (2147483647 : Int))) =
 false →
 ∃ (i_4 : Zs × (Nat → Int)),
 (Good (kz n) i_4.fst ∧ Pt (kz n) i_4.fst (vz i_4.snd)) ∧
 row.rows = row.rows ∧
 false = false ∧
 kz n = kz n ∧
 (kz n).toNat = (kz n).toNat ∧
 (↑i.fst : Int) = (↑i.fst : Int) ∧
 List.map (fun (j : Nat) => [D.i (i.snd.snd j)])
 (List.range (kz n).toNat) =
 List.map (fun (j : Nat) => [D.i (i_4.snd j)])
 (List.range (kz n).toNat) ∧
 kz n = kz n ∧
 i.snd.fst.fst = i_4.fst.fst ∧
 (∀ (o : Nat), o < nat_lit 49 → i.snd.fst.snd o = i_4.fst.snd o) ∧
 ∀ (o : Nat), o < nat_lit 6 → f o = f o)) ∧
 ((IntKind.i64.wrap
 ((IntKind.u64.wrap (row.el (↑i.fst : Int).toNat (0 : Nat)).toI).tmod (5 : Int)) ==
 (4 : Int)) =
 false →
 ∃ (i_4 : Zs × (Nat → Int)),
 (Good (kz n) i_4.fst ∧ Pt (kz n) i_4.fst (vz i_4.snd)) ∧
 row.rows = row.rows ∧
 false = false ∧
 kz n = kz n ∧
 (kz n).toNat = (kz n).toNat ∧
 (↑i.fst : Int) = (↑i.fst : Int) ∧
 List.map (fun (j : Nat) => [D.i (i.snd.snd j)]) (List.range (kz n).toNat) =
 List.map (fun (j : Nat) => [D.i (i_4.snd j)])
 (List.range (kz n).toNat) ∧
 kz n = kz n ∧
 i.snd.fst.fst = i_4.fst.fst ∧
 (∀ (o : Nat), o < nat_lit 49 → i.snd.fst.snd o = i_4.fst.snd o) ∧
 ∀ (o : Nat), o < nat_lit 6 → f o = f o)))))) ∧
 ∀ (i_4 : Zs × (Nat → Int)),
 Good (kz n) i_4.fst ∧ Pt (kz n) i_4.fst (vz i_4.snd) →
 nat_lit 0 + (kz n).toNat ≤ (rowI (kz n).toNat i_4.snd).len ∧
 ((!hasP (kz n) i_4.fst.fst i_4.fst.snd
 ((rowI (kz n).toNat i_4.snd).sub (nat_lit 0) (nat_lit 0 + (kz n).toNat)).len
 (ig ((rowI (kz n).toNat i_4.snd).sub (nat_lit 0) (nat_lit 0 + (kz n).toNat))) ||
 i_4.fst.fst) =
 true →
 false = true) ∧
 ((!hasP (kz n) i_4.fst.fst i_4.fst.snd
 ((rowI (kz n).toNat i_4.snd).sub (nat_lit 0) (nat_lit 0 + (kz n).toNat)).len
 (ig ((rowI (kz n).toNat i_4.snd).sub (nat_lit 0) (nat_lit 0 + (kz n).toNat))) ||
 i_4.fst.fst) =
 false →
 ∃ (j : Nat × Zs × (Nat → Int)),
 (Good (kz n) j.snd.fst ∧ Pt (kz n) j.snd.fst (vz j.snd.snd)) ∧
 (20 : Nat) - j.fst < (20 : Nat) - i.fst ∧
 IntKind.i64.wrap ((↑i.fst : Int) + (1 : Int)) = (↑j.fst : Int) ∧
 (kz n).toNat = (kz n).toNat ∧
 row.rows = row.rows ∧
 false = false ∧
 kz n = kz n ∧
 List.map (fun (j : Nat) => [D.i (i_4.snd j)]) (List.range (kz n).toNat) =
 List.map (fun (j_1 : Nat) => [D.i (j.snd.snd j_1)]) (List.range (kz n).toNat) ∧
 kz n = kz n ∧
 i_4.fst.fst = j.snd.fst.fst ∧
 (∀ (o : Nat), o < nat_lit 49 → i_4.fst.snd o = j.snd.fst.snd o) ∧
 ∀ (o : Nat), o < nat_lit 6 → f o = f o)) ∧
 ((decide ((↑i.fst : Int) < (↑row.len : Int)) && decide ((↑i.fst : Int) < (20 : Int)) && decide (kz n > (0 : Int))) = false →
 (true = true ∧ True → nat_lit 0 + (kz n).toNat ≤ (rowI (kz n).toNat i.snd.snd).len) ∧
 (true &&
 hasP (kz n) i.snd.fst.fst i.snd.fst.snd ((rowI (kz n).toNat i.snd.snd).sub (nat_lit 0) (nat_lit 0 + (kz n).toNat)).len
 (ig ((rowI (kz n).toNat i.snd.snd).sub (nat_lit 0) (nat_lit 0 + (kz n).toNat)))) =
 true ∧
 (true &&
 hasP (kz n) i.snd.fst.fst i.snd.fst.snd ((rowI (kz n).toNat i.snd.snd).sub (nat_lit 0) (nat_lit 0 + (kz n).toNat)).len
 (ig ((rowI (kz n).toNat i.snd.snd).sub (nat_lit 0) (nat_lit 0 + (kz n).toNat)))) =
 true ∧
 (0 : Nat) = (D.l []).len ∧
 ((0 : Nat) + ((rowI (kz n).toNat i.snd.snd).sub (nat_lit 0) (nat_lit 0 + (kz n).toNat)).len) * (8 : Nat) ≤
 (140737488355328 : Nat) ∧
 nat_lit 0 + (kz n).toNat ≤ (rowI (kz n).toNat i.snd.snd).len ∧
 (true &&
 hasP (kz n) i.snd.fst.fst i.snd.fst.snd
 ((rowI (kz n).toNat i.snd.snd).sub (nat_lit 0) (nat_lit 0 + (kz n).toNat)).len
 (ig ((rowI (kz n).toNat i.snd.snd).sub (nat_lit 0) (nat_lit 0 + (kz n).toNat)))) =
 true ∧
 (true &&
 hasP (kz n) i.snd.fst.fst i.snd.fst.snd
 ((rowI (kz n).toNat i.snd.snd).sub (nat_lit 0) (nat_lit 0 + (kz n).toNat)).len
 (ig ((rowI (kz n).toNat i.snd.snd).sub (nat_lit 0) (nat_lit 0 + (kz n).toNat)))) =
 true ∧
 (0 : Nat) + ((rowI (kz n).toNat i.snd.snd).sub (nat_lit 0) (nat_lit 0 + (kz n).toNat)).len =
 ((D.l []).app ((rowI (kz n).toNat i.snd.snd).sub (nat_lit 0) (nat_lit 0 + (kz n).toNat))).len ∧
 ((0 : Nat) + ((rowI (kz n).toNat i.snd.snd).sub (nat_lit 0) (nat_lit 0 + (kz n).toNat)).len +
 ((D.l [[D.i (1 : Int)]]).sub (0 : Nat) ((0 : Nat) + (1 : Nat))).len) *
 (8 : Nat) ≤
 (140737488355328 : Nat) ∧
 (0 : Nat) + (1 : Nat) ≤ (D.l [[D.i (1 : Int)]]).len ∧
 ((true &&
 hasP (kz n) i.snd.fst.fst i.snd.fst.snd
 ((rowI (kz n).toNat i.snd.snd).sub (nat_lit 0) (nat_lit 0 + (kz n).toNat)).len
 (ig ((rowI (kz n).toNat i.snd.snd).sub (nat_lit 0) (nat_lit 0 + (kz n).toNat)))) =
 true ∧
 True →
 (0 : Nat) +
 ((0 : Nat) + ((rowI (kz n).toNat i.snd.snd).sub (nat_lit 0) (nat_lit 0 + (kz n).toNat)).len +
 ((D.l [[D.i (1 : Int)]]).sub (0 : Nat) ((0 : Nat) + (1 : Nat))).len) ≤
 (((D.l []).app ((rowI (kz n).toNat i.snd.snd).sub (nat_lit 0) (nat_lit 0 + (kz n).toNat))).app
 ((D.l [[D.i (1 : Int)]]).sub (0 : Nat) ((0 : Nat) + (1 : Nat)))).len) ∧
 (true &&
 hasP (kz n) i.snd.fst.fst i.snd.fst.snd
 ((rowI (kz n).toNat i.snd.snd).sub (nat_lit 0) (nat_lit 0 + (kz n).toNat)).len
 (ig ((rowI (kz n).toNat i.snd.snd).sub (nat_lit 0) (nat_lit 0 + (kz n).toNat))) &&
 hasP (kz n) i.snd.fst.fst i.snd.fst.snd
 ((((D.l []).app ((rowI (kz n).toNat i.snd.snd).sub (nat_lit 0) (nat_lit 0 + (kz n).toNat))).app
 ((D.l [[D.i (1 : Int)]]).sub (0 : Nat) ((0 : Nat) + (1 : Nat)))).sub
 (0 : Nat)
 ((0 : Nat) +
 ((0 : Nat) + ((rowI (kz n).toNat i.snd.snd).sub (nat_lit 0) (nat_lit 0 + (kz n).toNat)).len +
 ((D.l [[D.i (1 : Int)]]).sub (0 : Nat) ((0 : Nat) + (1 : Nat))).len))).len
 (ig
 ((((D.l []).app ((rowI (kz n).toNat i.snd.snd).sub (nat_lit 0) (nat_lit 0 + (kz n).toNat))).app
 ((D.l [[D.i (1 : Int)]]).sub (0 : Nat) ((0 : Nat) + (1 : Nat)))).sub
 (0 : Nat)
 ((0 : Nat) +
 ((0 : Nat) + ((rowI (kz n).toNat i.snd.snd).sub (nat_lit 0) (nat_lit 0 + (kz n).toNat)).len +
 ((D.l [[D.i (1 : Int)]]).sub (0 : Nat) ((0 : Nat) + (1 : Nat))).len)))) ==
 false) =
 true))) (by kernel_rfl) ?_
    simp only [raw0, true_and, and_true, implies_true, Nat.mul_one, Int.toNat_natCast, c7, decide_eq_true_eq, decide_eq_false_iff_not, Nat.zero_add, forall_const, Nat.le_eq, at_iff, bne_iff_ne, bne_eq_false_iff_eq, and_self, and_self_left, Nat.reduceAdd]
    intro hf
    have hk := kz_in n
    have hkN : ((kz n).toNat : Int) = kz n := by omega
    have htop : topN (kz n) = kz n := by unfold topN; omega
    have hRk : R (kz n) = (kz n).toNat + 1 := by have := R_le (kz n); rw [rows_n hk] at this; omega
    have kw : IntKind.u64.wrap (kz n) = kz n := by rw [IntKind.wrap_u64]; omega
    have kw1 : IntKind.i64.wrap (kz n + 1) = kz n + 1 := wr _ (by omega)
    have kw2 : IntKind.u64.wrap (kz n + 1) = kz n + 1 := by rw [IntKind.wrap_u64]; omega
    refine ⟨⟨true, rfl⟩, ⟨0, Nat.zero_le _, rfl, rfl, rfl⟩, fun i hi => ⟨fun h1 => ?_, fun h1 => ⟨?_, fun q hq => ⟨fun h2 => ?_, fun h2 => ?_⟩⟩⟩⟩
    · have r := hf i (by omega)
      rw [wr (f i) (by omega)]
      have e1 : ((D.l [[D.i (f i)]]).sub 0 1).len = 1 := rfl
      rw [e1]
      refine ⟨by omega, by omega, (rowI_len i f).symm, by omega, Nat.le_refl _, i + 1, by omega, by omega, wr _ (by omega), rfl, ?_⟩
      rw [List.range_succ, List.map_append]; rfl
    · refine ⟨(0, (false, topF (kz n)), f), ⟨?_, ?_⟩, rfl, by omega, by rw [show i = (kz n).toNat by omega], htop, rfl, fun _ _ => rfl⟩
      · have := good_top (kz n); rw [htop] at this; exact this
      · have := pt_top (n := kz n) (v := vz f) rfl (fun j hj => by
          rw [htop, hRk] at hj
          unfold vz
          split
          · omega
          · have := hf (j - 1) (by omega); omega)
        rw [htop] at this; exact this
    · obtain ⟨q0, z, g⟩ := q
      obtain ⟨hG, hP⟩ := hq
      dsimp only at hG hP h2 ⊢
      simp only [Bool.and_eq_true, decide_eq_true_eq] at h2
      obtain ⟨⟨h3, h4⟩, h5⟩ := h2
      have p1 := px_in (row.el q0 1).toI (kz n) (by omega)
      have p2 := px_in (row.el q0 2).toI (kz n + 1) (by omega)
      rw [kw] at p1
      rw [kw2] at p2
      have hrn := rows_n (n := kz n) hk
      rw [kw, kw1, kw2]
      generalize IntKind.i64.wrap ((IntKind.u64.wrap (row.el q0 1).toI).tmod (kz n)) = X at p1 ⊢
      generalize IntKind.i64.wrap ((IntKind.u64.wrap (row.el q0 2).toI).tmod (kz n + 1)) = Y at p2 ⊢
      rw [wr (Y - 1) (by omega)]
      refine ⟨by omega, ⟨by omega, by omega, (X, Y - 1), ⟨?_, ?_⟩, rfl, rfl⟩, fun xy hxy => ⟨⟨_, ?_, rfl⟩, fun by' hby => ⟨⟨fun h6 => ?_, fun h6 => ⟨_, rfl, (if_neg h6).symm⟩⟩, fun at' hat => ⟨?_, fun w hw => ?_⟩⟩⟩⟩
      · unfold isVarP; rw [hrn]; simp only [Bool.and_eq_true, decide_eq_true_eq]; omega
      · unfold isEndP isVarP; rw [hrn]; simp only [Bool.or_eq_true, Bool.and_eq_true, decide_eq_true_eq, beq_iff_eq]; omega
      · exact tmod_any _
      · have := isEndP_lt hxy.2
        refine ⟨by omega, by rw [rowI_len]; omega, _, rfl, (if_pos h6).symm⟩
      · obtain ⟨x, y⟩ := xy
        obtain ⟨hx, hy⟩ := hxy
        dsimp only at hx hy hat ⊢
        have hxl := isVarP_lt hx
        have hyl := isEndP_lt hy
        rw [hrn] at hxl hyl
        obtain ⟨x1, x2, x3⟩ := isVar_R hx
        obtain ⟨y1, y2⟩ := isEnd_R hy
        have hav : at' = vz g (y + 1).toNat := by
          rw [hat]; unfold vz
          by_cases h : y ≥ 0
          · rw [if_pos h, if_neg (by omega), rowI_el (by omega), show (y + 1).toNat - 1 = y.toNat by omega]
          · rw [if_neg h, if_pos (by omega)]
        have hxv : ((rowI (kz n).toNat g).el x.toNat 0).toI = vz g (x + 1).toNat := by
          unfold vz
          rw [if_neg (by omega), rowI_el (by omega), show (x + 1).toNat - 1 = x.toNat by omega]
        have r1 := pt_range hG hP x1
        have r2 := pt_range hG hP y1
        have hset := fun b => rowI_set (n := (kz n).toNat) (x := x.toNat) (by omega) g b
        have hup := fun b => vz_upd g (a := (x + 1).toNat) x3 b
        rw [show (x + 1).toNat - 1 = x.toNat by omega] at hup
        rw [hxv]
        rw [← hav] at r2
        have hB : vz g (x + 1).toNat - vz g (y + 1).toNat ≤ IntKind.i64.wrap (IntKind.i64.wrap (vz g (x + 1).toNat - at') + if 0 > by' then 0 else by') := by
          rw [wr (_ - at') (by omega), wr _ (by split <;> omega), hav]
          split <;> omega
        generalize IntKind.i64.wrap (IntKind.i64.wrap (vz g (x + 1).toNat - at') + if 0 > by' then 0 else by') = B at hB ⊢
        rw [wr (at' + by') (by omega)]
        have hBG := good_bnd hG x y B
        have hBP := pt_bnd hG (isVar_end hx) hy hP hB
        have hFG := good_fg hG x
        have hFP := pt_fg hG hx hP (b := by') (by omega)
        rw [hup] at hFP
        have hCG := good_copy hG x y by'
        have hCP := fun h => pt_copy hG hx hy (b := by') (by omega) hP h
        rw [← hav, hup] at hCP
        have hxr : x.toNat < (rowI (kz n).toNat g).len := by rw [rowI_len]; omega
        have hxn : 0 ≤ x ∧ x < ((kz n).toNat : Int) := by omega
        clear hat hav hxv r1 r2 hup p1 p2 hrn kw kw1 kw2 htop h1 hi h3 h4 hf
        repeat' first
          | exact ⟨(z, g), ⟨hG, hP⟩, rfl, rfl, fun _ _ => rfl⟩
          | exact ⟨fun _ => ⟨hxn, hxr, hG.sm, (bndZ (kz n) x y B z, g), ⟨hBG, hBP⟩, rfl, rfl, fun _ _ => rfl⟩, fun _ => ⟨(z, g), ⟨hG, hP⟩, rfl, rfl, fun _ _ => rfl⟩⟩
          | exact ⟨hG.sm, hxn, hxr, (fgZ (kz n) x z, upd g x.toNat by'), ⟨hFG, hFP⟩, hset by', rfl, fun _ _ => rfl⟩
          | exact ⟨fun h => ⟨hG, hxn, hxr, (copyZ (kz n) x y by' z, upd g x.toNat (at' + by')), ⟨hCG, hCP (by simpa using h)⟩, hset _, rfl, fun _ _ => rfl⟩, fun _ => ⟨(z, g), ⟨hG, hP⟩, rfl, rfl, fun _ _ => rfl⟩⟩
          | refine ⟨fun _ => ?_, fun _ => ?_⟩
      · obtain ⟨z', g'⟩ := w
        obtain ⟨hG', hP'⟩ := hw
        dsimp only at hG' hP' ⊢
        have hh := has_pt hG' (l := (kz n).toNat) (by omega) hP'
        rw [has_row, hh, hP'.1]
        refine ⟨by rw [rowI_len]; exact Nat.le_refl _, (fun h => by cases h), fun _ => ⟨(q0 + 1, z', g'), ⟨hG', hP'⟩, by omega, wr _ (by omega), rfl, hP'.1.symm, fun _ _ => rfl⟩⟩
    · obtain ⟨q0, z, g⟩ := q
      obtain ⟨hG, hP⟩ := hq
      dsimp only at hG hP h2 ⊢
      have hh := has_pt hG (l := (kz n).toNat) (by omega) hP
      have hl : ((rowI (kz n).toNat g).sub 0 (kz n).toNat).len = (kz n).toNat := by
        rw [D.sub_len _ (by rw [rowI_len]; exact Nat.le_refl _)]; rfl
      have e1 : ((D.l [[D.i 1]]).sub 0 1).len = 1 := rfl
      have e2 : (((D.l []).app ((rowI (kz n).toNat g).sub 0 (kz n).toNat)).app ((D.l [[D.i 1]]).sub 0 1)).len = (kz n).toNat + 1 := by
        rw [D.app_len, D.app_len, hl, e1]
        show 0 + _ + 1 = _
        omega
      rw [has_row, hh, has_len (l := (D.sub _ 0 _).len) (by rw [D.sub_len _ (by rw [hl, e1, e2]; exact Nat.le_refl _), hl, e1]; omega)]
      rw [D.app_len (D.l []), hl, e1, e2]
      refine ⟨by rw [rowI_len]; exact Nat.le_refl _, rfl, rfl, by omega, by rw [rowI_len]; exact Nat.le_refl _, rfl, ?_, by omega, Nat.le_refl _, fun _ => Nat.le_refl _, rfl⟩
      show _ = 0 + _
      omega
  · trivial
end Go.Proofs.Ytmdoafhohflhdaa.Sx.Z
