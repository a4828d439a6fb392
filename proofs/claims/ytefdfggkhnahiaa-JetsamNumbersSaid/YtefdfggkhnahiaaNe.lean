/-
  The laws' apply.
-/
import Derived.Test.YtefdfggkhnahiaaNd
namespace Go.Proofs.Ytefdfggkhnahiaa.Sx.Z
open Go.RowKit
def xA (n : Int) (d : D) (k : Nat) : Int := IntKind.i64.wrap ((IntKind.u64.wrap (d.el k 1).toI).tmod (IntKind.u64.wrap n))
def yA (n : Int) (d : D) (k : Nat) : Int := IntKind.i64.wrap (IntKind.i64.wrap ((IntKind.u64.wrap (d.el k 2).toI).tmod (IntKind.u64.wrap (IntKind.i64.wrap (n + 1)))) - 1)
def bA (d : D) (k : Nat) : Int := IntKind.i64.wrap (IntKind.i32.wrap (d.el k 3).toI)
def wA (d : D) (k : Nat) : Int := IntKind.i64.wrap ((IntKind.u64.wrap (d.el k 0).toI).tmod 5)
def loA (d : D) (k : Nat) : Int := normLo (bend (d.el k 4).toI) (bend (d.el k 5).toI)
def hiA (d : D) (k : Nat) : Int := normHi (bend (d.el k 4).toI) (bend (d.el k 5).toI)
def actW (n w x y b lo hi : Int) (z : Zs) : Zs := if w = 0 then metZ n x lo hi (fgZ n x z) else if w = 1 ∨ w = 2 then metZ n x lo hi z else if w = 3 then copyZ n x y b z else if w = 4 then (if x ≠ y then bndZ n x y b z else z) else z
def actStep (n : Int) (d : D) (k : Nat) (z : Zs) : Zs := actW n (wA d k) (xA n d k) (yA n d k) (bA d k) (loA d k) (hiA d k) z
def actsP (n : Int) (d : D) (z : Zs) : Nat → Zs
  | 0 => z
  | k + 1 => if n = 0 then actsP n d z k else actStep n d k (actsP n d z k)
def actsZ (n : Int) (d : D) (z : Zs) : Zs := actsP n d z (min d.len 16)
theorem actsP_zero {d : D} {z : Zs} : ∀ k, actsP 0 d z k = z
  | 0 => rfl
  | k + 1 => (if_pos rfl).trans (actsP_zero k)
theorem good_act {n w x y b lo hi : Int} {z : Zs} (h : Good n z) : Good n (actW n w x y b lo hi z) := by
  unfold actW
  split
  · exact good_met (good_fg h _) _ _ _
  · split
    · exact good_met h _ _ _
    · split
      · exact good_copy h _ _ _
      · split
        · split
          · exact good_bnd h _ _ _
          · exact h
        · exact h
theorem good_acts {n : Int} {d : D} {z : Zs} (h : Good n z) : ∀ k, Good n (actsP n d z k)
  | 0 => h
  | k + 1 => by
    unfold actsP
    split
    · exact good_acts h k
    · exact good_act (good_acts h k)
theorem good_actsZ {n : Int} {d : D} {z : Zs} (h : Good n z) : Good n (actsZ n d z) := good_acts h _
theorem xA_in {n : Int} (h : 1 ≤ n ∧ n ≤ 6) (d : D) (k : Nat) : 0 ≤ xA n d k ∧ xA n d k < n := px_in _ n (by omega)
theorem yA_in {n : Int} (h : 1 ≤ n ∧ n ≤ 6) (d : D) (k : Nat) : -1 ≤ yA n d k ∧ yA n d k < n := by
  unfold yA
  rw [wr (n + 1) (by omega)]
  have := px_in (d.el k 2).toI (n + 1) (by omega)
  rw [wr (_ - 1) (by omega)]
  omega
theorem bA_in (d : D) (k : Nat) : -2147483648 ≤ bA d k ∧ bA d k ≤ 2147483647 := bend_in _
theorem lh_in (d : D) (k : Nat) : -2147483648 ≤ loA d k ∧ loA d k ≤ 2147483647 ∧ -2147483648 ≤ hiA d k ∧ hiA d k ≤ 2147483647 := norm_in (bend_in _) (bend_in _)
def napplyS : FSpec := fun ds _ => match ds with
  | [.b c, .d I, .i n, .b e, .f f, .i m, .b e2, .f g, .d row] => some { val := .tup [.agg [.c (.bool (.sym (actsZ n row (e, f)).1)), .c (.rows 53 (itD n.toNat n (actsZ n row (e, f)))), .c (.int .i64 (.sym n)), .c (.bool (.sym (actsZ n row (e, f)).1)), .ints .i64 (.lit 49) (actsZ n row (e, f)).2], .agg (zs (.sym n) (.sym (actsZ n row (e, f)).1) (actsZ n row (e, f)).2), .sc (.bool (.sym true))], vc := [Good n (e, f), c = e, I.rows = (itD n.toNat n (e, f)).rows, m = n, e2 = e, ∀ o, o < 49 → g o = f o] }
  | _ => none
def napplyC : Con := con [numA, zA, .sc (.rows 50)] napplyS
theorem napply_ok : ConOK Try.prog 18 napplyC := by
  refine fn_ob tt_ok mixed Try.func18 rfl (fun _ _ => by kernel_rfl) (A := fun ds => ⟨fun _ => Cons.of [(26, normC), (27, bendC), (28, nsetC), (47, rsetC), (30, nmeetC), (14, rmeetC), (31, ncopyC), (48, rcopyC), (32, nboundC), (43, rboundC), (16, likeC)], fun k => match k, ds with | 2, [.b c, .d I, .i n, .b e, .f f, .i m, .b e2, .f g, .d row] => some { ι := Nat, pre := fun _ i => i ≤ row.len ∧ i ≤ 16, μ := fun i => 17 - i, st := fun s i => famR s [(9, .one (.sc (.int .i64 (.sym ((i : Nat))))))] [2, 3, 4, 6, 7] [(idOf s 3, .own 30 ([.c (.bool (.sym (actsP n row (e, f) i).1)), .c (.rows 53 (itD n.toNat n (actsP n row (e, f) i))), .c (.int .i64 (.sym n)), .c (.bool (.sym (actsP n row (e, f) i).1)), .ints .i64 (.lit 49) (actsP n row (e, f) i).2])), (idOf s 4, .own 32 (zs (.sym n) (.sym (actsP n row (e, f) i).1) (actsP n row (e, f) i).2))] [6, 7] } | 23, [.b c, .d I, .i n, .b e, .f f, .i m, .b e2, .f g, .d row] => some { ι := Nat, pre := fun _ i => i ≤ n.toNat, μ := fun i => n.toNat + 1 - i, st := fun s i => famR s [(18, .one (.sc (.int .i64 (.sym ((i : Nat))))))] [2, 3, 4, 6, 7, 9, 16, 17] [] [3, 4, 6, 7, 16, 17] } | _, _ => none, fun k => match k, ds with | 12, [.b c, .d I, .i n, .b e, .f f, .i m, .b e2, .f g, .d row] => some { ι := Bool, pre := fun _ _ => True, μ := fun _ => 0, st := fun s _ => famR s [(11, .one (.sc (.int .i64 (.sym (xA n row (slotN s 9)))))), (12, .one (.sc (.int .i64 (.sym (yA n row (slotN s 9)))))), (13, .one (.sc (.int .i64 (.sym (bA row (slotN s 9)))))), (78, .one (.sc (.int .i64 (.sym (wA row (slotN s 9)))))), (16, .one (.sc (.osl 53 (idOf s 16) (.lit 0) (.sym (n.toNat)))))] [2, 3, 4, 6, 7, 9, 14, 15, 17] [(idOf s 3, .own 30 ([.c (.bool (.sym (actsP n row (e, f) (slotN s 9)).1)), .c (.rows 53 (itD n.toNat n (actsP n row (e, f) (slotN s 9)))), .c (.int .i64 (.sym n)), .c (.bool (.sym (actsP n row (e, f) (slotN s 9)).1)), .ints .i64 (.lit 49) (actsP n row (e, f) (slotN s 9)).2])), (idOf s 4, .own 32 (zs (.sym n) (.sym (actsP n row (e, f) (slotN s 9)).1) (actsP n row (e, f) (slotN s 9)).2)), (idOf s 14, .own 36 ([.c (.int .i64 (.sym (loA row (slotN s 9)))), .c (.int .i64 (.sym (hiA row (slotN s 9))))])), (idOf s 15, .own 53 ([.c (.int .i64 (.sym (loA row (slotN s 9)))), .c (.int .i64 (.sym (hiA row (slotN s 9))))])), (idOf s 17, .own 30 ([.c (.bool (.sym (actsP n row (e, f) (slotN s 9)).1)), .c (.rows 53 (itD n.toNat n (actsP n row (e, f) (slotN s 9)))), .c (.int .i64 (.sym n)), .c (.bool (.sym (actsP n row (e, f) (slotN s 9)).1)), .ints .i64 (.lit 49) (actsP n row (e, f) (slotN s 9)).2])), (idOf s 16, .orow 53 (itD n.toNat n (actsP n row (e, f) (slotN s 9))))] [6, 7] } | 22, [.b c, .d I, .i n, .b e, .f f, .i m, .b e2, .f g, .d row] => some { ι := Bool, pre := fun _ _ => True, μ := fun _ => 0, st := fun s _ => famR s [] [2, 3, 4, 6, 7, 9, 16, 17] [(idOf s 4, .own 32 (zs (.sym n) (.sym (actStep n row (slotN s 9) (actsP n row (e, f) (slotN s 9))).1) (actStep n row (slotN s 9) (actsP n row (e, f) (slotN s 9))).2)), (idOf s 17, .own 30 ([.c (.bool (.sym (actStep n row (slotN s 9) (actsP n row (e, f) (slotN s 9))).1)), .c (.rows 53 (itD n.toNat n (actStep n row (slotN s 9) (actsP n row (e, f) (slotN s 9))))), .c (.int .i64 (.sym n)), .c (.bool (.sym (actStep n row (slotN s 9) (actsP n row (e, f) (slotN s 9))).1)), .ints .i64 (.lit 49) (actStep n row (slotN s 9) (actsP n row (e, f) (slotN s 9))).2]))] [3, 6, 7, 16] } | _, _ => none⟩) (fun _ _ => (cons_cons norm_ok (cons_cons bend_ok (cons_cons nset_ok (cons_cons rset_ok (cons_cons nmeet_ok (cons_cons rmeet_ok (cons_cons ncopy_ok (cons_cons rcopy_ok (cons_cons nbound_ok (cons_cons rbound_ok (cons_cons like_ok cons_nil)))))))))))) (by kernel_rfl) ?_
  intro ds fr
  unfold napplyS
  split
  · rename_i c I n e f m e2 g row
    refine kmp (q := Good n (e, f) →
 c = e →
 I.rows = List.map (fun (j : Nat) => [D.i (itvLo n e f (↑j : Int)), D.i (itvHi n e f (↑j : Int))]) (List.range n.toNat) →
 m = n →
 e2 = e →
 (∀ (o : Nat), o < (49 : Nat) → g o = f o) →
 (∃ (i : Nat),
 (i ≤ row.len ∧ i ≤ (16 : Nat)) ∧
 (0 : Int) = (↑i : Int) ∧
 row.rows = row.rows ∧
 c = (actsP n row (e, f) i).fst ∧
 I.rows =
 List.map
 (fun (j : Nat) =>
 [D.i (itvLo n (actsP n row (e, f) i).fst (actsP n row (e, f) i).snd (↑j : Int)),
 D.i (itvHi n (actsP n row (e, f) i).fst (actsP n row (e, f) i).snd (↑j : Int))])
 (List.range n.toNat) ∧
 n = n ∧
 e = (actsP n row (e, f) i).fst ∧
 (∀ (o : Nat), o < nat_lit 49 → f o = (actsP n row (e, f) i).snd o) ∧
 m = n ∧
 e2 = (actsP n row (e, f) i).fst ∧
 (∀ (o : Nat), o < nat_lit 49 → g o = (actsP n row (e, f) i).snd o) ∧
 false = false ∧
 (0 : Int) = (0 : Int) ∧
 false = false ∧
 (∀ (o : Nat), o < nat_lit 49 → (0 : Int) = (0 : Int)) ∧
 (0 : Int) = (0 : Int) ∧ false = false ∧ ∀ (o : Nat), o < nat_lit 49 → (0 : Int) = (0 : Int)) ∧
 ∀ (i : Nat),
 i ≤ row.len ∧ i ≤ (16 : Nat) →
 ((decide ((↑i : Int) < (↑row.len : Int)) && decide ((↑i : Int) < (16 : Int)) && decide (n > (0 : Int))) = true →
 ((0 : Int) ≤ (↑i : Int) ∧ (↑i : Int) < (↑row.len : Int)) ∧
 IntKind.u64.wrap n ≠ (0 : Int) ∧
 IntKind.u64.wrap (IntKind.i64.wrap (n + (1 : Int))) ≠ (0 : Int) ∧
 (0 : Nat) = (D.l []).len ∧
 ((0 : Nat) + (itD n.toNat n (actsP n row (e, f) i)).len) * (16 : Nat) ≤ (140737488355328 : Nat) ∧
 ((∃ (i_1 : Bool),
 True ∧
 IntKind.i64.wrap ((IntKind.u64.wrap (row.el (↑i : Int).toNat ((0 : Nat) + (1 : Nat))).toI).tmod (IntKind.u64.wrap n)) =
 xA n row (↑i : Int).toNat ∧
 IntKind.i64.wrap
 (IntKind.i64.wrap
 ((IntKind.u64.wrap (row.el (↑i : Int).toNat ((0 : Nat) + (1 : Nat) + (1 : Nat))).toI).tmod
 (IntKind.u64.wrap (IntKind.i64.wrap (n + (1 : Int))))) -
 (1 : Int)) =
 yA n row (↑i : Int).toNat ∧
 IntKind.i64.wrap (IntKind.i32.wrap (row.el (↑i : Int).toNat ((0 : Nat) + (1 : Nat) + (1 : Nat) + (1 : Nat))).toI) =
 bA row (↑i : Int).toNat ∧
 IntKind.i64.wrap ((IntKind.u64.wrap (row.el (↑i : Int).toNat (0 : Nat)).toI).tmod (5 : Int)) =
 wA row (↑i : Int).toNat ∧
 (0 : Nat) + (itD n.toNat n (actsP n row (e, f) i)).len = n.toNat ∧
 row.rows = row.rows ∧
 (↑i : Int) = (↑i : Int) ∧
 (actsP n row (e, f) i).fst = (actsP n row (e, f) (↑i : Int).toNat).fst ∧
 List.map
 (fun (j : Nat) =>
 [D.i (itvLo n (actsP n row (e, f) i).fst (actsP n row (e, f) i).snd (↑j : Int)),
 D.i (itvHi n (actsP n row (e, f) i).fst (actsP n row (e, f) i).snd (↑j : Int))])
 (List.range n.toNat) =
 List.map
 (fun (j : Nat) =>
 [D.i
 (itvLo n (actsP n row (e, f) (↑i : Int).toNat).fst (actsP n row (e, f) (↑i : Int).toNat).snd
 (↑j : Int)),
 D.i
 (itvHi n (actsP n row (e, f) (↑i : Int).toNat).fst (actsP n row (e, f) (↑i : Int).toNat).snd
 (↑j : Int))])
 (List.range n.toNat) ∧
 n = n ∧
 (actsP n row (e, f) i).fst = (actsP n row (e, f) (↑i : Int).toNat).fst ∧
 (∀ (o : Nat),
 o < nat_lit 49 → (actsP n row (e, f) i).snd o = (actsP n row (e, f) (↑i : Int).toNat).snd o) ∧
 n = n ∧
 (actsP n row (e, f) i).fst = (actsP n row (e, f) (↑i : Int).toNat).fst ∧
 (∀ (o : Nat),
 o < nat_lit 49 →
 (actsP n row (e, f) i).snd o = (actsP n row (e, f) (↑i : Int).toNat).snd o) ∧
 normLo
 (bend
 (row.el (↑i : Int).toNat
 ((0 : Nat) + (1 : Nat) + (1 : Nat) + (1 : Nat) + (1 : Nat))).toI)
 (bend
 (row.el (↑i : Int).toNat
 ((0 : Nat) + (1 : Nat) + (1 : Nat) + (1 : Nat) + (1 : Nat) +
 (1 : Nat))).toI) =
 loA row (↑i : Int).toNat ∧
 normHi
 (bend
 (row.el (↑i : Int).toNat
 ((0 : Nat) + (1 : Nat) + (1 : Nat) + (1 : Nat) + (1 : Nat))).toI)
 (bend
 (row.el (↑i : Int).toNat
 ((0 : Nat) + (1 : Nat) + (1 : Nat) + (1 : Nat) + (1 : Nat) +
 (1 : Nat))).toI) =
 hiA row (↑i : Int).toNat ∧
 normLo
 (bend
 (row.el (↑i : Int).toNat
 ((0 : Nat) + (1 : Nat) + (1 : Nat) + (1 : Nat) + (1 : Nat))).toI)
 (bend
 (row.el (↑i : Int).toNat
 ((0 : Nat) + (1 : Nat) + (1 : Nat) + (1 : Nat) + (1 : Nat) +
 (1 : Nat))).toI) =
 loA row (↑i : Int).toNat ∧
 normHi
 (bend
 (row.el (↑i : Int).toNat
 ((0 : Nat) + (1 : Nat) + (1 : Nat) + (1 : Nat) + (1 : Nat))).toI)
 (bend
 (row.el (↑i : Int).toNat
 ((0 : Nat) + (1 : Nat) + (1 : Nat) + (1 : Nat) + (1 : Nat) +
 (1 : Nat))).toI) =
 hiA row (↑i : Int).toNat ∧
 (actsP n row (e, f) i).fst = (actsP n row (e, f) (↑i : Int).toNat).fst ∧
 List.map
 (fun (j : Nat) =>
 [D.i
 (itvLo n (actsP n row (e, f) i).fst (actsP n row (e, f) i).snd
 (↑j : Int)),
 D.i
 (itvHi n (actsP n row (e, f) i).fst (actsP n row (e, f) i).snd
 (↑j : Int))])
 (List.range n.toNat) =
 List.map
 (fun (j : Nat) =>
 [D.i
 (itvLo n (actsP n row (e, f) (↑i : Int).toNat).fst
 (actsP n row (e, f) (↑i : Int).toNat).snd (↑j : Int)),
 D.i
 (itvHi n (actsP n row (e, f) (↑i : Int).toNat).fst
 (actsP n row (e, f) (↑i : Int).toNat).snd (↑j : Int))])
 (List.range n.toNat) ∧
 n = n ∧
 (actsP n row (e, f) i).fst = (actsP n row (e, f) (↑i : Int).toNat).fst ∧
 (∀ (o : Nat),
 o < nat_lit 49 →
 (actsP n row (e, f) i).snd o =
 (actsP n row (e, f) (↑i : Int).toNat).snd o) ∧
 [] ++
 List.map
 (fun (j : Nat) =>
 [D.i
 (itvLo n (actsP n row (e, f) i).fst
 (actsP n row (e, f) i).snd (↑j : Int)),
 D.i
 (itvHi n (actsP n row (e, f) i).fst
 (actsP n row (e, f) i).snd (↑j : Int))])
 (List.range n.toNat) =
 List.map
 (fun (j : Nat) =>
 [D.i
 (itvLo n (actsP n row (e, f) (↑i : Int).toNat).fst
 (actsP n row (e, f) (↑i : Int).toNat).snd (↑j : Int)),
 D.i
 (itvHi n (actsP n row (e, f) (↑i : Int).toNat).fst
 (actsP n row (e, f) (↑i : Int).toNat).snd (↑j : Int))])
 (List.range n.toNat) ∧
 false = false ∧
 (0 : Int) = (0 : Int) ∧
 false = false ∧
 (∀ (o : Nat), o < nat_lit 49 → (0 : Int) = (0 : Int)) ∧
 (0 : Int) = (0 : Int) ∧
 false = false ∧
 ∀ (o : Nat), o < nat_lit 49 → (0 : Int) = (0 : Int)) ∧
 ∀ (i_1 : Bool),
 True →
 ((wA row (↑i : Int).toNat == (0 : Int)) = true →
 Good n ((actsP n row (e, f) (↑i : Int).toNat).fst, (actsP n row (e, f) (↑i : Int).toNat).snd) ∧
 (itD n.toNat n (actsP n row (e, f) (↑i : Int).toNat)).len ≤ (1000 : Nat) ∧
 Good n ((actsP n row (e, f) (↑i : Int).toNat).fst, (actsP n row (e, f) (↑i : Int).toNat).snd) ∧
 isVarP n (xA n row (↑i : Int).toNat) = true ∧
 ((-2147483648 : Int) ≤ loA row (↑i : Int).toNat ∧ loA row (↑i : Int).toNat ≤ (2147483647 : Int)) ∧
 ((-2147483648 : Int) ≤ hiA row (↑i : Int).toNat ∧ hiA row (↑i : Int).toNat ≤ (2147483647 : Int)) ∧
 ∃ (i_2 : Bool),
 True ∧
 row.rows = row.rows ∧
 (↑i : Int) = (↑i : Int) ∧
 n.toNat = (0 : Nat) + (itD n.toNat n (actsP n row (e, f) i)).len ∧
 n = n ∧
 (metZ n (xA n row (↑i : Int).toNat) (loA row (↑i : Int).toNat) (hiA row (↑i : Int).toNat)
 (fgZ n (xA n row (↑i : Int).toNat)
 ((actsP n row (e, f) (↑i : Int).toNat).fst,
 (actsP n row (e, f) (↑i : Int).toNat).snd))).fst =
 (actStep n row (↑i : Int).toNat (actsP n row (e, f) (↑i : Int).toNat)).fst ∧
 (∀ (o : Nat),
 o < nat_lit 49 →
 (metZ n (xA n row (↑i : Int).toNat) (loA row (↑i : Int).toNat)
 (hiA row (↑i : Int).toNat)
 (fgZ n (xA n row (↑i : Int).toNat)
 ((actsP n row (e, f) (↑i : Int).toNat).fst,
 (actsP n row (e, f) (↑i : Int).toNat).snd))).snd
 o =
 (actStep n row (↑i : Int).toNat (actsP n row (e, f) (↑i : Int).toNat)).snd o) ∧
 (metZ n (xA n row (↑i : Int).toNat) (loA row (↑i : Int).toNat)
 (hiA row (↑i : Int).toNat)
 (fgZ n (xA n row (↑i : Int).toNat)
 ((actsP n row (e, f) (↑i : Int).toNat).fst,
 (actsP n row (e, f) (↑i : Int).toNat).snd))).fst =
 (actStep n row (↑i : Int).toNat (actsP n row (e, f) (↑i : Int).toNat)).fst ∧
 List.map
 (fun (j : Nat) =>
 [D.i
 (itvLo n
 (metZ n (xA n row (↑i : Int).toNat) (loA row (↑i : Int).toNat)
 (hiA row (↑i : Int).toNat)
 (fgZ n (xA n row (↑i : Int).toNat)
 ((actsP n row (e, f) (↑i : Int).toNat).fst,
 (actsP n row (e, f) (↑i : Int).toNat).snd))).fst
 (metZ n (xA n row (↑i : Int).toNat) (loA row (↑i : Int).toNat)
 (hiA row (↑i : Int).toNat)
 (fgZ n (xA n row (↑i : Int).toNat)
 ((actsP n row (e, f) (↑i : Int).toNat).fst,
 (actsP n row (e, f) (↑i : Int).toNat).snd))).snd
 (↑j : Int)),
 D.i
 (itvHi n
 (metZ n (xA n row (↑i : Int).toNat) (loA row (↑i : Int).toNat)
 (hiA row (↑i : Int).toNat)
 (fgZ n (xA n row (↑i : Int).toNat)
 ((actsP n row (e, f) (↑i : Int).toNat).fst,
 (actsP n row (e, f) (↑i : Int).toNat).snd))).fst
 (metZ n (xA n row (↑i : Int).toNat) (loA row (↑i : Int).toNat)
 (hiA row (↑i : Int).toNat)
 (fgZ n (xA n row (↑i : Int).toNat)
 ((actsP n row (e, f) (↑i : Int).toNat).fst,
 (actsP n row (e, f) (↑i : Int).toNat).snd))).snd
 (↑j : Int))])
 (List.range (itD n.toNat n (actsP n row (e, f) (↑i : Int).toNat)).len) =
 List.map
 (fun (j : Nat) =>
 [D.i
 (itvLo n
 (actStep n row (↑i : Int).toNat
 (actsP n row (e, f) (↑i : Int).toNat)).fst
 (actStep n row (↑i : Int).toNat
 (actsP n row (e, f) (↑i : Int).toNat)).snd
 (↑j : Int)),
 D.i
 (itvHi n
 (actStep n row (↑i : Int).toNat
 (actsP n row (e, f) (↑i : Int).toNat)).fst
 (actStep n row (↑i : Int).toNat
 (actsP n row (e, f) (↑i : Int).toNat)).snd
 (↑j : Int))])
 (List.range n.toNat) ∧
 n = n ∧
 (metZ n (xA n row (↑i : Int).toNat) (loA row (↑i : Int).toNat)
 (hiA row (↑i : Int).toNat)
 (fgZ n (xA n row (↑i : Int).toNat)
 ((actsP n row (e, f) (↑i : Int).toNat).fst,
 (actsP n row (e, f) (↑i : Int).toNat).snd))).fst =
 (actStep n row (↑i : Int).toNat (actsP n row (e, f) (↑i : Int).toNat)).fst ∧
 (∀ (o : Nat),
 o < nat_lit 49 →
 (metZ n (xA n row (↑i : Int).toNat) (loA row (↑i : Int).toNat)
 (hiA row (↑i : Int).toNat)
 (fgZ n (xA n row (↑i : Int).toNat)
 ((actsP n row (e, f) (↑i : Int).toNat).fst,
 (actsP n row (e, f) (↑i : Int).toNat).snd))).snd
 o =
 (actStep n row (↑i : Int).toNat
 (actsP n row (e, f) (↑i : Int).toNat)).snd
 o) ∧
 (actsP n row (e, f) (↑i : Int).toNat).fst = (actsP n row (e, f) i).fst ∧
 List.map
 (fun (j : Nat) =>
 [D.i
 (itvLo n (actsP n row (e, f) (↑i : Int).toNat).fst
 (actsP n row (e, f) (↑i : Int).toNat).snd (↑j : Int)),
 D.i
 (itvHi n (actsP n row (e, f) (↑i : Int).toNat).fst
 (actsP n row (e, f) (↑i : Int).toNat).snd (↑j : Int))])
 (List.range n.toNat) =
 List.map
 (fun (j : Nat) =>
 [D.i
 (itvLo n (actsP n row (e, f) i).fst (actsP n row (e, f) i).snd
 (↑j : Int)),
 D.i
 (itvHi n (actsP n row (e, f) i).fst (actsP n row (e, f) i).snd
 (↑j : Int))])
 (List.range n.toNat) ∧
 n = n ∧
 (actsP n row (e, f) (↑i : Int).toNat).fst = (actsP n row (e, f) i).fst ∧
 (∀ (o : Nat),
 o < nat_lit 49 →
 (actsP n row (e, f) (↑i : Int).toNat).snd o =
 (actsP n row (e, f) i).snd o) ∧
 false = false ∧
 (0 : Int) = (0 : Int) ∧
 false = false ∧
 (∀ (o : Nat), o < nat_lit 49 → (0 : Int) = (0 : Int)) ∧
 (0 : Int) = (0 : Int) ∧
 false = false ∧
 (∀ (o : Nat), o < nat_lit 49 → (0 : Int) = (0 : Int)) ∧
 List.map
 (fun (j : Nat) =>
 [D.i
 (itvLo n
 (actsP n row (e, f) (↑i : Int).toNat).fst
 (actsP n row (e, f) (↑i : Int).toNat).snd
 (↑j : Int)),
 D.i
 (itvHi n
 (actsP n row (e, f) (↑i : Int).toNat).fst
 (actsP n row (e, f) (↑i : Int).toNat).snd
 (↑j : Int))])
 (List.range n.toNat) =
 [] ++
 List.map
 (fun (j : Nat) =>
 [D.i
 (itvLo n (actsP n row (e, f) i).fst
 (actsP n row (e, f) i).snd (↑j : Int)),
 D.i
 (itvHi n (actsP n row (e, f) i).fst
 (actsP n row (e, f) i).snd (↑j : Int))])
 (List.range n.toNat)) ∧
 ((wA row (↑i : Int).toNat == (0 : Int)) = false →
 ((wA row (↑i : Int).toNat == (1 : Int)) = true →
 ((wA row (↑i : Int).toNat == (1 : Int)) = true →
 Good n ((actsP n row (e, f) (↑i : Int).toNat).fst, (actsP n row (e, f) (↑i : Int).toNat).snd) ∧
 (itD n.toNat n (actsP n row (e, f) (↑i : Int).toNat)).len ≤ (1000 : Nat) ∧
 Good n ((actsP n row (e, f) (↑i : Int).toNat).fst, (actsP n row (e, f) (↑i : Int).toNat).snd) ∧
 isVarP n (xA n row (↑i : Int).toNat) = true ∧
 ((-2147483648 : Int) ≤ loA row (↑i : Int).toNat ∧ loA row (↑i : Int).toNat ≤ (2147483647 : Int)) ∧
 ((-2147483648 : Int) ≤ hiA row (↑i : Int).toNat ∧ hiA row (↑i : Int).toNat ≤ (2147483647 : Int)) ∧
 ∃ (i_2 : Bool),
 True ∧
 row.rows = row.rows ∧
 (↑i : Int) = (↑i : Int) ∧
 n.toNat = (0 : Nat) + (itD n.toNat n (actsP n row (e, f) i)).len ∧
 n = n ∧
 (metZ n (xA n row (↑i : Int).toNat) (loA row (↑i : Int).toNat)
 (hiA row (↑i : Int).toNat)
 ((actsP n row (e, f) (↑i : Int).toNat).fst,
 (actsP n row (e, f) (↑i : Int).toNat).snd)).fst =
 (actStep n row (↑i : Int).toNat (actsP n row (e, f) (↑i : Int).toNat)).fst ∧
 (∀ (o : Nat),
 o < nat_lit 49 →
 (metZ n (xA n row (↑i : Int).toNat) (loA row (↑i : Int).toNat)
 (hiA row (↑i : Int).toNat)
 ((actsP n row (e, f) (↑i : Int).toNat).fst,
 (actsP n row (e, f) (↑i : Int).toNat).snd)).snd
 o =
 (actStep n row (↑i : Int).toNat (actsP n row (e, f) (↑i : Int).toNat)).snd
 o) ∧
 (metZ n (xA n row (↑i : Int).toNat) (loA row (↑i : Int).toNat)
 (hiA row (↑i : Int).toNat)
 ((actsP n row (e, f) (↑i : Int).toNat).fst,
 (actsP n row (e, f) (↑i : Int).toNat).snd)).fst =
 (actStep n row (↑i : Int).toNat (actsP n row (e, f) (↑i : Int).toNat)).fst ∧
 List.map
 (fun (j : Nat) =>
 [D.i
 (itvLo n
 (metZ n (xA n row (↑i : Int).toNat) (loA row (↑i : Int).toNat)
 (hiA row (↑i : Int).toNat)
 ((actsP n row (e, f) (↑i : Int).toNat).fst,
 (actsP n row (e, f) (↑i : Int).toNat).snd)).fst
 (metZ n (xA n row (↑i : Int).toNat) (loA row (↑i : Int).toNat)
 (hiA row (↑i : Int).toNat)
 ((actsP n row (e, f) (↑i : Int).toNat).fst,
 (actsP n row (e, f) (↑i : Int).toNat).snd)).snd
 (↑j : Int)),
 D.i
 (itvHi n
 (metZ n (xA n row (↑i : Int).toNat) (loA row (↑i : Int).toNat)
 (hiA row (↑i : Int).toNat)
 ((actsP n row (e, f) (↑i : Int).toNat).fst,
 (actsP n row (e, f) (↑i : Int).toNat).snd)).fst
 (metZ n (xA n row (↑i : Int).toNat) (loA row (↑i : Int).toNat)
 (hiA row (↑i : Int).toNat)
 ((actsP n row (e, f) (↑i : Int).toNat).fst,
 (actsP n row (e, f) (↑i : Int).toNat).snd)).snd
 (↑j : Int))])
 (List.range (itD n.toNat n (actsP n row (e, f) (↑i : Int).toNat)).len) =
 List.map
 (fun (j : Nat) =>
 [D.i
 (itvLo n
 (actStep n row (↑i : Int).toNat
 (actsP n row (e, f) (↑i : Int).toNat)).fst
 (actStep n row (↑i : Int).toNat
 (actsP n row (e, f) (↑i : Int).toNat)).snd
 (↑j : Int)),
 D.i
 (itvHi n
 (actStep n row (↑i : Int).toNat
 (actsP n row (e, f) (↑i : Int).toNat)).fst
 (actStep n row (↑i : Int).toNat
 (actsP n row (e, f) (↑i : Int).toNat)).snd
 (↑j : Int))])
 (List.range n.toNat) ∧
 n = n ∧
 (metZ n (xA n row (↑i : Int).toNat) (loA row (↑i : Int).toNat)
 (hiA row (↑i : Int).toNat)
 ((actsP n row (e, f) (↑i : Int).toNat).fst,
 (actsP n row (e, f) (↑i : Int).toNat).snd)).fst =
 (actStep n row (↑i : Int).toNat
 (actsP n row (e, f) (↑i : Int).toNat)).fst ∧
 (∀ (o : Nat),
 o < nat_lit 49 →
 (metZ n (xA n row (↑i : Int).toNat) (loA row (↑i : Int).toNat)
 (hiA row (↑i : Int).toNat)
 ((actsP n row (e, f) (↑i : Int).toNat).fst,
 (actsP n row (e, f) (↑i : Int).toNat).snd)).snd
 o =
 (actStep n row (↑i : Int).toNat
 (actsP n row (e, f) (↑i : Int).toNat)).snd
 o) ∧
 (actsP n row (e, f) (↑i : Int).toNat).fst =
 (actsP n row (e, f) i).fst ∧
 List.map
 (fun (j : Nat) =>
 [D.i
 (itvLo n (actsP n row (e, f) (↑i : Int).toNat).fst
 (actsP n row (e, f) (↑i : Int).toNat).snd (↑j : Int)),
 D.i
 (itvHi n (actsP n row (e, f) (↑i : Int).toNat).fst
 (actsP n row (e, f) (↑i : Int).toNat).snd
 (↑j : Int))])
 (List.range n.toNat) =
 List.map
 (fun (j : Nat) =>
 [D.i
 (itvLo n (actsP n row (e, f) i).fst
 (actsP n row (e, f) i).snd (↑j : Int)),
 D.i
 (itvHi n (actsP n row (e, f) i).fst
 (actsP n row (e, f) i).snd (↑j : Int))])
 (List.range n.toNat) ∧
 n = n ∧
 (actsP n row (e, f) (↑i : Int).toNat).fst =
 (actsP n row (e, f) i).fst ∧
 (∀ (o : Nat),
 o < nat_lit 49 →
 (actsP n row (e, f) (↑i : Int).toNat).snd o =
 (actsP n row (e, f) i).snd o) ∧
 false = false ∧
 (0 : Int) = (0 : Int) ∧
 false = false ∧
 (∀ (o : Nat),
 o < nat_lit 49 → (0 : Int) = (0 : Int)) ∧
 (0 : Int) = (0 : Int) ∧
 false = false ∧
 (∀ (o : Nat),
 o < nat_lit 49 → (0 : Int) = (0 : Int)) ∧
 List.map
 (fun (j : Nat) =>
 [D.i
 (itvLo n
 (actsP n row (e, f)
 (↑i : Int).toNat).fst
 (actsP n row (e, f)
 (↑i : Int).toNat).snd
 (↑j : Int)),
 D.i
 (itvHi n
 (actsP n row (e, f)
 (↑i : Int).toNat).fst
 (actsP n row (e, f)
 (↑i : Int).toNat).snd
 (↑j : Int))])
 (List.range n.toNat) =
 [] ++
 List.map
 (fun (j : Nat) =>
 [D.i
 (itvLo n
 (actsP n row (e, f) i).fst
 (actsP n row (e, f) i).snd
 (↑j : Int)),
 D.i
 (itvHi n
 (actsP n row (e, f) i).fst
 (actsP n row (e, f) i).snd
 (↑j : Int))])
 (List.range n.toNat)) ∧
 ((wA row (↑i : Int).toNat == (1 : Int)) = false →
 ((wA row (↑i : Int).toNat == (3 : Int)) = true →
 Good n ((actsP n row (e, f) (↑i : Int).toNat).fst, (actsP n row (e, f) (↑i : Int).toNat).snd) ∧
 (itD n.toNat n (actsP n row (e, f) (↑i : Int).toNat)).len ≤ (1000 : Nat) ∧
 Good n ((actsP n row (e, f) (↑i : Int).toNat).fst, (actsP n row (e, f) (↑i : Int).toNat).snd) ∧
 isVarP n (xA n row (↑i : Int).toNat) = true ∧
 isEndP n (yA n row (↑i : Int).toNat) = true ∧
 ((-2147483648 : Int) ≤ bA row (↑i : Int).toNat ∧
 bA row (↑i : Int).toNat ≤ (2147483647 : Int)) ∧
 ∃ (i_2 : Bool),
 True ∧
 row.rows = row.rows ∧
 (↑i : Int) = (↑i : Int) ∧
 n.toNat = (0 : Nat) + (itD n.toNat n (actsP n row (e, f) i)).len ∧
 n = n ∧
 (copyZ n (xA n row (↑i : Int).toNat) (yA n row (↑i : Int).toNat)
 (bA row (↑i : Int).toNat)
 ((actsP n row (e, f) (↑i : Int).toNat).fst,
 (actsP n row (e, f) (↑i : Int).toNat).snd)).fst =
 (actStep n row (↑i : Int).toNat (actsP n row (e, f) (↑i : Int).toNat)).fst ∧
 (∀ (o : Nat),
 o < nat_lit 49 →
 (copyZ n (xA n row (↑i : Int).toNat) (yA n row (↑i : Int).toNat)
 (bA row (↑i : Int).toNat)
 ((actsP n row (e, f) (↑i : Int).toNat).fst,
 (actsP n row (e, f) (↑i : Int).toNat).snd)).snd
 o =
 (actStep n row (↑i : Int).toNat
 (actsP n row (e, f) (↑i : Int).toNat)).snd
 o) ∧
 (copyZ n (xA n row (↑i : Int).toNat) (yA n row (↑i : Int).toNat)
 (bA row (↑i : Int).toNat)
 ((actsP n row (e, f) (↑i : Int).toNat).fst,
 (actsP n row (e, f) (↑i : Int).toNat).snd)).fst =
 (actStep n row (↑i : Int).toNat
 (actsP n row (e, f) (↑i : Int).toNat)).fst ∧
 List.map
 (fun (j : Nat) =>
 [D.i
 (itvLo n
 (copyZ n (xA n row (↑i : Int).toNat)
 (yA n row (↑i : Int).toNat) (bA row (↑i : Int).toNat)
 ((actsP n row (e, f) (↑i : Int).toNat).fst,
 (actsP n row (e, f) (↑i : Int).toNat).snd)).fst
 (copyZ n (xA n row (↑i : Int).toNat)
 (yA n row (↑i : Int).toNat) (bA row (↑i : Int).toNat)
 ((actsP n row (e, f) (↑i : Int).toNat).fst,
 (actsP n row (e, f) (↑i : Int).toNat).snd)).snd
 (↑j : Int)),
 D.i
 (itvHi n
 (copyZ n (xA n row (↑i : Int).toNat)
 (yA n row (↑i : Int).toNat) (bA row (↑i : Int).toNat)
 ((actsP n row (e, f) (↑i : Int).toNat).fst,
 (actsP n row (e, f) (↑i : Int).toNat).snd)).fst
 (copyZ n (xA n row (↑i : Int).toNat)
 (yA n row (↑i : Int).toNat) (bA row (↑i : Int).toNat)
 ((actsP n row (e, f) (↑i : Int).toNat).fst,
 (actsP n row (e, f) (↑i : Int).toNat).snd)).snd
 (↑j : Int))])
 (List.range
 (itD n.toNat n (actsP n row (e, f) (↑i : Int).toNat)).len) =
 List.map
 (fun (j : Nat) =>
 [D.i
 (itvLo n
 (actStep n row (↑i : Int).toNat
 (actsP n row (e, f) (↑i : Int).toNat)).fst
 (actStep n row (↑i : Int).toNat
 (actsP n row (e, f) (↑i : Int).toNat)).snd
 (↑j : Int)),
 D.i
 (itvHi n
 (actStep n row (↑i : Int).toNat
 (actsP n row (e, f) (↑i : Int).toNat)).fst
 (actStep n row (↑i : Int).toNat
 (actsP n row (e, f) (↑i : Int).toNat)).snd
 (↑j : Int))])
 (List.range n.toNat) ∧
 n = n ∧
 (copyZ n (xA n row (↑i : Int).toNat) (yA n row (↑i : Int).toNat)
 (bA row (↑i : Int).toNat)
 ((actsP n row (e, f) (↑i : Int).toNat).fst,
 (actsP n row (e, f) (↑i : Int).toNat).snd)).fst =
 (actStep n row (↑i : Int).toNat
 (actsP n row (e, f) (↑i : Int).toNat)).fst ∧
 (∀ (o : Nat),
 o < nat_lit 49 →
 (copyZ n (xA n row (↑i : Int).toNat)
 (yA n row (↑i : Int).toNat) (bA row (↑i : Int).toNat)
 ((actsP n row (e, f) (↑i : Int).toNat).fst,
 (actsP n row (e, f) (↑i : Int).toNat).snd)).snd
 o =
 (actStep n row (↑i : Int).toNat
 (actsP n row (e, f) (↑i : Int).toNat)).snd
 o) ∧
 (actsP n row (e, f) (↑i : Int).toNat).fst =
 (actsP n row (e, f) i).fst ∧
 List.map
 (fun (j : Nat) =>
 [D.i
 (itvLo n (actsP n row (e, f) (↑i : Int).toNat).fst
 (actsP n row (e, f) (↑i : Int).toNat).snd
 (↑j : Int)),
 D.i
 (itvHi n (actsP n row (e, f) (↑i : Int).toNat).fst
 (actsP n row (e, f) (↑i : Int).toNat).snd
 (↑j : Int))])
 (List.range n.toNat) =
 List.map
 (fun (j : Nat) =>
 [D.i
 (itvLo n (actsP n row (e, f) i).fst
 (actsP n row (e, f) i).snd (↑j : Int)),
 D.i
 (itvHi n (actsP n row (e, f) i).fst
 (actsP n row (e, f) i).snd (↑j : Int))])
 (List.range n.toNat) ∧
 n = n ∧
 (actsP n row (e, f) (↑i : Int).toNat).fst =
 (actsP n row (e, f) i).fst ∧
 (∀ (o : Nat),
 o < nat_lit 49 →
 (actsP n row (e, f) (↑i : Int).toNat).snd o =
 (actsP n row (e, f) i).snd o) ∧
 false = false ∧
 (0 : Int) = (0 : Int) ∧
 false = false ∧
 (∀ (o : Nat),
 o < nat_lit 49 → (0 : Int) = (0 : Int)) ∧
 (0 : Int) = (0 : Int) ∧
 false = false ∧
 (∀ (o : Nat),
 o < nat_lit 49 →
 (0 : Int) = (0 : Int)) ∧
 List.map
 (fun (j : Nat) =>
 [D.i
 (itvLo n
 (actsP n row (e, f)
 (↑i : Int).toNat).fst
 (actsP n row (e, f)
 (↑i : Int).toNat).snd
 (↑j : Int)),
 D.i
 (itvHi n
 (actsP n row (e, f)
 (↑i : Int).toNat).fst
 (actsP n row (e, f)
 (↑i : Int).toNat).snd
 (↑j : Int))])
 (List.range n.toNat) =
 [] ++
 List.map
 (fun (j : Nat) =>
 [D.i
 (itvLo n
 (actsP n row (e, f) i).fst
 (actsP n row (e, f) i).snd
 (↑j : Int)),
 D.i
 (itvHi n
 (actsP n row (e, f) i).fst
 (actsP n row (e, f) i).snd
 (↑j : Int))])
 (List.range n.toNat)) ∧
 ((wA row (↑i : Int).toNat == (3 : Int)) = false →
 ((wA row (↑i : Int).toNat == (4 : Int)) = true →
 ((xA n row (↑i : Int).toNat != yA n row (↑i : Int).toNat) = true →
 Good n ((actsP n row (e, f) (↑i : Int).toNat).fst, (actsP n row (e, f) (↑i : Int).toNat).snd) ∧
 (itD n.toNat n (actsP n row (e, f) (↑i : Int).toNat)).len ≤ (1000 : Nat) ∧
 Good n
 ((actsP n row (e, f) (↑i : Int).toNat).fst, (actsP n row (e, f) (↑i : Int).toNat).snd) ∧
 isEndP n (xA n row (↑i : Int).toNat) = true ∧
 isEndP n (yA n row (↑i : Int).toNat) = true ∧
 xA n row (↑i : Int).toNat ≠ yA n row (↑i : Int).toNat ∧
 (-4294967296 : Int) ≤ bA row (↑i : Int).toNat ∧
 ∃ (i_2 : Bool),
 True ∧
 row.rows = row.rows ∧
 (↑i : Int) = (↑i : Int) ∧
 n.toNat = (0 : Nat) + (itD n.toNat n (actsP n row (e, f) i)).len ∧
 n = n ∧
 (bndZ n (xA n row (↑i : Int).toNat) (yA n row (↑i : Int).toNat)
 (bA row (↑i : Int).toNat)
 ((actsP n row (e, f) (↑i : Int).toNat).fst,
 (actsP n row (e, f) (↑i : Int).toNat).snd)).fst =
 (actStep n row (↑i : Int).toNat
 (actsP n row (e, f) (↑i : Int).toNat)).fst ∧
 (∀ (o : Nat),
 o < nat_lit 49 →
 (bndZ n (xA n row (↑i : Int).toNat)
 (yA n row (↑i : Int).toNat) (bA row (↑i : Int).toNat)
 ((actsP n row (e, f) (↑i : Int).toNat).fst,
 (actsP n row (e, f) (↑i : Int).toNat).snd)).snd
 o =
 (actStep n row (↑i : Int).toNat
 (actsP n row (e, f) (↑i : Int).toNat)).snd
 o) ∧
 (bndZ n (xA n row (↑i : Int).toNat) (yA n row (↑i : Int).toNat)
 (bA row (↑i : Int).toNat)
 ((actsP n row (e, f) (↑i : Int).toNat).fst,
 (actsP n row (e, f) (↑i : Int).toNat).snd)).fst =
 (actStep n row (↑i : Int).toNat
 (actsP n row (e, f) (↑i : Int).toNat)).fst ∧
 List.map
 (fun (j : Nat) =>
 [D.i
 (itvLo n
 (bndZ n (xA n row (↑i : Int).toNat)
 (yA n row (↑i : Int).toNat)
 (bA row (↑i : Int).toNat)
 ((actsP n row (e, f) (↑i : Int).toNat).fst,
 (actsP n row (e, f)
 (↑i : Int).toNat).snd)).fst
 (bndZ n (xA n row (↑i : Int).toNat)
 (yA n row (↑i : Int).toNat)
 (bA row (↑i : Int).toNat)
 ((actsP n row (e, f) (↑i : Int).toNat).fst,
 (actsP n row (e, f)
 (↑i : Int).toNat).snd)).snd
 (↑j : Int)),
 D.i
 (itvHi n
 (bndZ n (xA n row (↑i : Int).toNat)
 (yA n row (↑i : Int).toNat)
 (bA row (↑i : Int).toNat)
 ((actsP n row (e, f) (↑i : Int).toNat).fst,
 (actsP n row (e, f)
 (↑i : Int).toNat).snd)).fst
 (bndZ n (xA n row (↑i : Int).toNat)
 (yA n row (↑i : Int).toNat)
 (bA row (↑i : Int).toNat)
 ((actsP n row (e, f) (↑i : Int).toNat).fst,
 (actsP n row (e, f)
 (↑i : Int).toNat).snd)).snd
 (↑j : Int))])
 (List.range
 (itD n.toNat n
 (actsP n row (e, f) (↑i : Int).toNat)).len) =
 List.map
 (fun (j : Nat) =>
 [D.i
 (itvLo n
 (actStep n row (↑i : Int).toNat
 (actsP n row (e, f) (↑i : Int).toNat)).fst
 (actStep n row (↑i : Int).toNat
 (actsP n row (e, f) (↑i : Int).toNat)).snd
 (↑j : Int)),
 D.i
 (itvHi n
 (actStep n row (↑i : Int).toNat
 (actsP n row (e, f) (↑i : Int).toNat)).fst
 (actStep n row (↑i : Int).toNat
 (actsP n row (e, f) (↑i : Int).toNat)).snd
 (↑j : Int))])
 (List.range n.toNat) ∧
 n = n ∧
 (bndZ n (xA n row (↑i : Int).toNat)
 (yA n row (↑i : Int).toNat)
 (bA row (↑i : Int).toNat)
 ((actsP n row (e, f) (↑i : Int).toNat).fst,
 (actsP n row (e, f) (↑i : Int).toNat).snd)).fst =
 (actStep n row (↑i : Int).toNat
 (actsP n row (e, f) (↑i : Int).toNat)).fst ∧
 (∀ (o : Nat),
 o < nat_lit 49 →
 (bndZ n (xA n row (↑i : Int).toNat)
 (yA n row (↑i : Int).toNat)
 (bA row (↑i : Int).toNat)
 ((actsP n row (e, f) (↑i : Int).toNat).fst,
 (actsP n row (e, f)
 (↑i : Int).toNat).snd)).snd
 o =
 (actStep n row (↑i : Int).toNat
 (actsP n row (e, f) (↑i : Int).toNat)).snd
 o) ∧
 (actsP n row (e, f) (↑i : Int).toNat).fst =
 (actsP n row (e, f) i).fst ∧
 List.map
 (fun (j : Nat) =>
 [D.i
 (itvLo n
 (actsP n row (e, f)
 (↑i : Int).toNat).fst
 (actsP n row (e, f)
 (↑i : Int).toNat).snd
 (↑j : Int)),
 D.i
 (itvHi n
 (actsP n row (e, f)
 (↑i : Int).toNat).fst
 (actsP n row (e, f)
 (↑i : Int).toNat).snd
 (↑j : Int))])
 (List.range n.toNat) =
 List.map
 (fun (j : Nat) =>
 [D.i
 (itvLo n (actsP n row (e, f) i).fst
 (actsP n row (e, f) i).snd (↑j : Int)),
 D.i
 (itvHi n (actsP n row (e, f) i).fst
 (actsP n row (e, f) i).snd (↑j : Int))])
 (List.range n.toNat) ∧
 n = n ∧
 (actsP n row (e, f) (↑i : Int).toNat).fst =
 (actsP n row (e, f) i).fst ∧
 (∀ (o : Nat),
 o < nat_lit 49 →
 (actsP n row (e, f) (↑i : Int).toNat).snd
 o =
 (actsP n row (e, f) i).snd o) ∧
 false = false ∧
 (0 : Int) = (0 : Int) ∧
 false = false ∧
 (∀ (o : Nat),
 o < nat_lit 49 →
 (0 : Int) = (0 : Int)) ∧
 (0 : Int) = (0 : Int) ∧
 false = false ∧
 (∀ (o : Nat),
 o < nat_lit 49 →
 (0 : Int) = (0 : Int)) ∧
 List.map
 (fun (j : Nat) =>
 [D.i
 (itvLo n
 (actsP n row (e, f)
 (↑i :
 Int).toNat).fst
 (actsP n row (e, f)
 (↑i :
 Int).toNat).snd
 (↑j : Int)),
 D.i
 (itvHi n
 (actsP n row (e, f)
 (↑i :
 Int).toNat).fst
 (actsP n row (e, f)
 (↑i :
 Int).toNat).snd
 (↑j : Int))])
 (List.range n.toNat) =
 [] ++
 List.map
 (fun (j : Nat) =>
 [D.i
 (itvLo n
 (actsP n row
 (e, f) i).fst
 (actsP n row
 (e, f) i).snd
 (↑j : Int)),
 D.i
 (itvHi n
 (actsP n row
 (e, f) i).fst
 (actsP n row
 (e, f) i).snd
 (↑j : Int))])
 (List.range n.toNat)) ∧
 ((xA n row (↑i : Int).toNat != yA n row (↑i : Int).toNat) = false →
 ∃ (i_2 : Bool),
 True ∧
 row.rows = row.rows ∧
 (↑i : Int) = (↑i : Int) ∧
 n.toNat = (0 : Nat) + (itD n.toNat n (actsP n row (e, f) i)).len ∧
 n = n ∧
 (actsP n row (e, f) (↑i : Int).toNat).fst =
 (actStep n row (↑i : Int).toNat (actsP n row (e, f) (↑i : Int).toNat)).fst ∧
 (∀ (o : Nat),
 o < nat_lit 49 →
 (actsP n row (e, f) (↑i : Int).toNat).snd o =
 (actStep n row (↑i : Int).toNat (actsP n row (e, f) (↑i : Int).toNat)).snd
 o) ∧
 (actsP n row (e, f) (↑i : Int).toNat).fst =
 (actStep n row (↑i : Int).toNat (actsP n row (e, f) (↑i : Int).toNat)).fst ∧
 List.map
 (fun (j : Nat) =>
 [D.i
 (itvLo n (actsP n row (e, f) (↑i : Int).toNat).fst
 (actsP n row (e, f) (↑i : Int).toNat).snd (↑j : Int)),
 D.i
 (itvHi n (actsP n row (e, f) (↑i : Int).toNat).fst
 (actsP n row (e, f) (↑i : Int).toNat).snd (↑j : Int))])
 (List.range n.toNat) =
 List.map
 (fun (j : Nat) =>
 [D.i
 (itvLo n
 (actStep n row (↑i : Int).toNat
 (actsP n row (e, f) (↑i : Int).toNat)).fst
 (actStep n row (↑i : Int).toNat
 (actsP n row (e, f) (↑i : Int).toNat)).snd
 (↑j : Int)),
 D.i
 (itvHi n
 (actStep n row (↑i : Int).toNat
 (actsP n row (e, f) (↑i : Int).toNat)).fst
 (actStep n row (↑i : Int).toNat
 (actsP n row (e, f) (↑i : Int).toNat)).snd
 (↑j : Int))])
 (List.range n.toNat) ∧
 n = n ∧
 (actsP n row (e, f) (↑i : Int).toNat).fst =
 (actStep n row (↑i : Int).toNat
 (actsP n row (e, f) (↑i : Int).toNat)).fst ∧
 (∀ (o : Nat),
 o < nat_lit 49 →
 (actsP n row (e, f) (↑i : Int).toNat).snd o =
 (actStep n row (↑i : Int).toNat
 (actsP n row (e, f) (↑i : Int).toNat)).snd
 o) ∧
 (actsP n row (e, f) (↑i : Int).toNat).fst =
 (actsP n row (e, f) i).fst ∧
 List.map
 (fun (j : Nat) =>
 [D.i
 (itvLo n (actsP n row (e, f) (↑i : Int).toNat).fst
 (actsP n row (e, f) (↑i : Int).toNat).snd (↑j : Int)),
 D.i
 (itvHi n (actsP n row (e, f) (↑i : Int).toNat).fst
 (actsP n row (e, f) (↑i : Int).toNat).snd
 (↑j : Int))])
 (List.range n.toNat) =
 List.map
 (fun (j : Nat) =>
 [D.i
 (itvLo n (actsP n row (e, f) i).fst
 (actsP n row (e, f) i).snd (↑j : Int)),
 D.i
 (itvHi n (actsP n row (e, f) i).fst
 (actsP n row (e, f) i).snd (↑j : Int))])
 (List.range n.toNat) ∧
 n = n ∧
 (actsP n row (e, f) (↑i : Int).toNat).fst =
 (actsP n row (e, f) i).fst ∧
 (∀ (o : Nat),
 o < nat_lit 49 →
 (actsP n row (e, f) (↑i : Int).toNat).snd o =
 (actsP n row (e, f) i).snd o) ∧
 false = false ∧
 (0 : Int) = (0 : Int) ∧
 false = false ∧
 (∀ (o : Nat),
 o < nat_lit 49 → (0 : Int) = (0 : Int)) ∧
 (0 : Int) = (0 : Int) ∧
 false = false ∧
 (∀ (o : Nat),
 o < nat_lit 49 → (0 : Int) = (0 : Int)) ∧
 List.map
 (fun (j : Nat) =>
 [D.i
 (itvLo n
 (actsP n row (e, f)
 (↑i : Int).toNat).fst
 (actsP n row (e, f)
 (↑i : Int).toNat).snd
 (↑j : Int)),
 D.i
 (itvHi n
 (actsP n row (e, f)
 (↑i : Int).toNat).fst
 (actsP n row (e, f)
 (↑i : Int).toNat).snd
 (↑j : Int))])
 (List.range n.toNat) =
 [] ++
 List.map
 (fun (j : Nat) =>
 [D.i
 (itvLo n
 (actsP n row (e, f) i).fst
 (actsP n row (e, f) i).snd
 (↑j : Int)),
 D.i
 (itvHi n
 (actsP n row (e, f) i).fst
 (actsP n row (e, f) i).snd
 (↑j : Int))])
 (List.range n.toNat))) ∧
 ((wA row (↑i : Int).toNat == (4 : Int)) = false →
 ∃ (i_2 : Bool),
 True ∧
 row.rows = row.rows ∧
 (↑i : Int) = (↑i : Int) ∧
 n.toNat = (0 : Nat) + (itD n.toNat n (actsP n row (e, f) i)).len ∧
 n = n ∧
 (actsP n row (e, f) (↑i : Int).toNat).fst =
 (actStep n row (↑i : Int).toNat (actsP n row (e, f) (↑i : Int).toNat)).fst ∧
 (∀ (o : Nat),
 o < nat_lit 49 →
 (actsP n row (e, f) (↑i : Int).toNat).snd o =
 (actStep n row (↑i : Int).toNat (actsP n row (e, f) (↑i : Int).toNat)).snd
 o) ∧
 (actsP n row (e, f) (↑i : Int).toNat).fst =
 (actStep n row (↑i : Int).toNat (actsP n row (e, f) (↑i : Int).toNat)).fst ∧
 List.map
 (fun (j : Nat) =>
 [D.i
 (itvLo n (actsP n row (e, f) (↑i : Int).toNat).fst
 (actsP n row (e, f) (↑i : Int).toNat).snd (↑j : Int)),
 D.i
 (itvHi n (actsP n row (e, f) (↑i : Int).toNat).fst
 (actsP n row (e, f) (↑i : Int).toNat).snd (↑j : Int))])
 (List.range n.toNat) =
 List.map
 (fun (j : Nat) =>
 [D.i
 (itvLo n
 (actStep n row (↑i : Int).toNat
 (actsP n row (e, f) (↑i : Int).toNat)).fst
 (actStep n row (↑i : Int).toNat
 (actsP n row (e, f) (↑i : Int).toNat)).snd
 (↑j : Int)),
 D.i
 (itvHi n
 (actStep n row (↑i : Int).toNat
 (actsP n row (e, f) (↑i : Int).toNat)).fst
 (actStep n row (↑i : Int).toNat
 (actsP n row (e, f) (↑i : Int).toNat)).snd
 (↑j : Int))])
 (List.range n.toNat) ∧
 n = n ∧
 (actsP n row (e, f) (↑i : Int).toNat).fst =
 (actStep n row (↑i : Int).toNat
 (actsP n row (e, f) (↑i : Int).toNat)).fst ∧
 (∀ (o : Nat),
 o < nat_lit 49 →
 (actsP n row (e, f) (↑i : Int).toNat).snd o =
 (actStep n row (↑i : Int).toNat
 (actsP n row (e, f) (↑i : Int).toNat)).snd
 o) ∧
 (actsP n row (e, f) (↑i : Int).toNat).fst = (actsP n row (e, f) i).fst ∧
 List.map
 (fun (j : Nat) =>
 [D.i
 (itvLo n (actsP n row (e, f) (↑i : Int).toNat).fst
 (actsP n row (e, f) (↑i : Int).toNat).snd (↑j : Int)),
 D.i
 (itvHi n (actsP n row (e, f) (↑i : Int).toNat).fst
 (actsP n row (e, f) (↑i : Int).toNat).snd (↑j : Int))])
 (List.range n.toNat) =
 List.map
 (fun (j : Nat) =>
 [D.i
 (itvLo n (actsP n row (e, f) i).fst
 (actsP n row (e, f) i).snd (↑j : Int)),
 D.i
 (itvHi n (actsP n row (e, f) i).fst
 (actsP n row (e, f) i).snd (↑j : Int))])
 (List.range n.toNat) ∧
 n = n ∧
 (actsP n row (e, f) (↑i : Int).toNat).fst =
 (actsP n row (e, f) i).fst ∧
 (∀ (o : Nat),
 o < nat_lit 49 →
 (actsP n row (e, f) (↑i : Int).toNat).snd o =
 (actsP n row (e, f) i).snd o) ∧
 false = false ∧
 (0 : Int) = (0 : Int) ∧
 false = false ∧
 (∀ (o : Nat), o < nat_lit 49 → (0 : Int) = (0 : Int)) ∧
 (0 : Int) = (0 : Int) ∧
 false = false ∧
 (∀ (o : Nat),
 o < nat_lit 49 → (0 : Int) = (0 : Int)) ∧
 List.map
 (fun (j : Nat) =>
 [D.i
 (itvLo n
 (actsP n row (e, f)
 (↑i : Int).toNat).fst
 (actsP n row (e, f)
 (↑i : Int).toNat).snd
 (↑j : Int)),
 D.i
 (itvHi n
 (actsP n row (e, f)
 (↑i : Int).toNat).fst
 (actsP n row (e, f)
 (↑i : Int).toNat).snd
 (↑j : Int))])
 (List.range n.toNat) =
 [] ++
 List.map
 (fun (j : Nat) =>
 [D.i
 (itvLo n (actsP n row (e, f) i).fst
 (actsP n row (e, f) i).snd
 (↑j : Int)),
 D.i
 (itvHi n (actsP n row (e, f) i).fst
 (actsP n row (e, f) i).snd
 (↑j : Int))])
 (List.range n.toNat))))) ∧
 ((wA row (↑i : Int).toNat == (1 : Int)) = false →
 ((wA row (↑i : Int).toNat == (2 : Int)) = true →
 Good n ((actsP n row (e, f) (↑i : Int).toNat).fst, (actsP n row (e, f) (↑i : Int).toNat).snd) ∧
 (itD n.toNat n (actsP n row (e, f) (↑i : Int).toNat)).len ≤ (1000 : Nat) ∧
 Good n ((actsP n row (e, f) (↑i : Int).toNat).fst, (actsP n row (e, f) (↑i : Int).toNat).snd) ∧
 isVarP n (xA n row (↑i : Int).toNat) = true ∧
 ((-2147483648 : Int) ≤ loA row (↑i : Int).toNat ∧ loA row (↑i : Int).toNat ≤ (2147483647 : Int)) ∧
 ((-2147483648 : Int) ≤ hiA row (↑i : Int).toNat ∧ hiA row (↑i : Int).toNat ≤ (2147483647 : Int)) ∧
 ∃ (i_2 : Bool),
 True ∧
 row.rows = row.rows ∧
 (↑i : Int) = (↑i : Int) ∧
 n.toNat = (0 : Nat) + (itD n.toNat n (actsP n row (e, f) i)).len ∧
 n = n ∧
 (metZ n (xA n row (↑i : Int).toNat) (loA row (↑i : Int).toNat)
 (hiA row (↑i : Int).toNat)
 ((actsP n row (e, f) (↑i : Int).toNat).fst,
 (actsP n row (e, f) (↑i : Int).toNat).snd)).fst =
 (actStep n row (↑i : Int).toNat (actsP n row (e, f) (↑i : Int).toNat)).fst ∧
 (∀ (o : Nat),
 o < nat_lit 49 →
 (metZ n (xA n row (↑i : Int).toNat) (loA row (↑i : Int).toNat)
 (hiA row (↑i : Int).toNat)
 ((actsP n row (e, f) (↑i : Int).toNat).fst,
 (actsP n row (e, f) (↑i : Int).toNat).snd)).snd
 o =
 (actStep n row (↑i : Int).toNat (actsP n row (e, f) (↑i : Int).toNat)).snd
 o) ∧
 (metZ n (xA n row (↑i : Int).toNat) (loA row (↑i : Int).toNat)
 (hiA row (↑i : Int).toNat)
 ((actsP n row (e, f) (↑i : Int).toNat).fst,
 (actsP n row (e, f) (↑i : Int).toNat).snd)).fst =
 (actStep n row (↑i : Int).toNat (actsP n row (e, f) (↑i : Int).toNat)).fst ∧
 List.map
 (fun (j : Nat) =>
 [D.i
 (itvLo n
 (metZ n (xA n row (↑i : Int).toNat) (loA row (↑i : Int).toNat)
 (hiA row (↑i : Int).toNat)
 ((actsP n row (e, f) (↑i : Int).toNat).fst,
 (actsP n row (e, f) (↑i : Int).toNat).snd)).fst
 (metZ n (xA n row (↑i : Int).toNat) (loA row (↑i : Int).toNat)
 (hiA row (↑i : Int).toNat)
 ((actsP n row (e, f) (↑i : Int).toNat).fst,
 (actsP n row (e, f) (↑i : Int).toNat).snd)).snd
 (↑j : Int)),
 D.i
 (itvHi n
 (metZ n (xA n row (↑i : Int).toNat) (loA row (↑i : Int).toNat)
 (hiA row (↑i : Int).toNat)
 ((actsP n row (e, f) (↑i : Int).toNat).fst,
 (actsP n row (e, f) (↑i : Int).toNat).snd)).fst
 (metZ n (xA n row (↑i : Int).toNat) (loA row (↑i : Int).toNat)
 (hiA row (↑i : Int).toNat)
 ((actsP n row (e, f) (↑i : Int).toNat).fst,
 (actsP n row (e, f) (↑i : Int).toNat).snd)).snd
 (↑j : Int))])
 (List.range (itD n.toNat n (actsP n row (e, f) (↑i : Int).toNat)).len) =
 List.map
 (fun (j : Nat) =>
 [D.i
 (itvLo n
 (actStep n row (↑i : Int).toNat
 (actsP n row (e, f) (↑i : Int).toNat)).fst
 (actStep n row (↑i : Int).toNat
 (actsP n row (e, f) (↑i : Int).toNat)).snd
 (↑j : Int)),
 D.i
 (itvHi n
 (actStep n row (↑i : Int).toNat
 (actsP n row (e, f) (↑i : Int).toNat)).fst
 (actStep n row (↑i : Int).toNat
 (actsP n row (e, f) (↑i : Int).toNat)).snd
 (↑j : Int))])
 (List.range n.toNat) ∧
 n = n ∧
 (metZ n (xA n row (↑i : Int).toNat) (loA row (↑i : Int).toNat)
 (hiA row (↑i : Int).toNat)
 ((actsP n row (e, f) (↑i : Int).toNat).fst,
 (actsP n row (e, f) (↑i : Int).toNat).snd)).fst =
 (actStep n row (↑i : Int).toNat
 (actsP n row (e, f) (↑i : Int).toNat)).fst ∧
 (∀ (o : Nat),
 o < nat_lit 49 →
 (metZ n (xA n row (↑i : Int).toNat) (loA row (↑i : Int).toNat)
 (hiA row (↑i : Int).toNat)
 ((actsP n row (e, f) (↑i : Int).toNat).fst,
 (actsP n row (e, f) (↑i : Int).toNat).snd)).snd
 o =
 (actStep n row (↑i : Int).toNat
 (actsP n row (e, f) (↑i : Int).toNat)).snd
 o) ∧
 (actsP n row (e, f) (↑i : Int).toNat).fst =
 (actsP n row (e, f) i).fst ∧
 List.map
 (fun (j : Nat) =>
 [D.i
 (itvLo n (actsP n row (e, f) (↑i : Int).toNat).fst
 (actsP n row (e, f) (↑i : Int).toNat).snd (↑j : Int)),
 D.i
 (itvHi n (actsP n row (e, f) (↑i : Int).toNat).fst
 (actsP n row (e, f) (↑i : Int).toNat).snd
 (↑j : Int))])
 (List.range n.toNat) =
 List.map
 (fun (j : Nat) =>
 [D.i
 (itvLo n (actsP n row (e, f) i).fst
 (actsP n row (e, f) i).snd (↑j : Int)),
 D.i
 (itvHi n (actsP n row (e, f) i).fst
 (actsP n row (e, f) i).snd (↑j : Int))])
 (List.range n.toNat) ∧
 n = n ∧
 (actsP n row (e, f) (↑i : Int).toNat).fst =
 (actsP n row (e, f) i).fst ∧
 (∀ (o : Nat),
 o < nat_lit 49 →
 (actsP n row (e, f) (↑i : Int).toNat).snd o =
 (actsP n row (e, f) i).snd o) ∧
 false = false ∧
 (0 : Int) = (0 : Int) ∧
 false = false ∧
 (∀ (o : Nat),
 o < nat_lit 49 → (0 : Int) = (0 : Int)) ∧
 (0 : Int) = (0 : Int) ∧
 false = false ∧
 (∀ (o : Nat),
 o < nat_lit 49 → (0 : Int) = (0 : Int)) ∧
 List.map
 (fun (j : Nat) =>
 [D.i
 (itvLo n
 (actsP n row (e, f)
 (↑i : Int).toNat).fst
 (actsP n row (e, f)
 (↑i : Int).toNat).snd
 (↑j : Int)),
 D.i
 (itvHi n
 (actsP n row (e, f)
 (↑i : Int).toNat).fst
 (actsP n row (e, f)
 (↑i : Int).toNat).snd
 (↑j : Int))])
 (List.range n.toNat) =
 [] ++
 List.map
 (fun (j : Nat) =>
 [D.i
 (itvLo n
 (actsP n row (e, f) i).fst
 (actsP n row (e, f) i).snd
 (↑j : Int)),
 D.i
 (itvHi n
 (actsP n row (e, f) i).fst
 (actsP n row (e, f) i).snd
 (↑j : Int))])
 (List.range n.toNat)) ∧
 ((wA row (↑i : Int).toNat == (2 : Int)) = false →
 ((wA row (↑i : Int).toNat == (3 : Int)) = true →
 Good n ((actsP n row (e, f) (↑i : Int).toNat).fst, (actsP n row (e, f) (↑i : Int).toNat).snd) ∧
 (itD n.toNat n (actsP n row (e, f) (↑i : Int).toNat)).len ≤ (1000 : Nat) ∧
 Good n ((actsP n row (e, f) (↑i : Int).toNat).fst, (actsP n row (e, f) (↑i : Int).toNat).snd) ∧
 isVarP n (xA n row (↑i : Int).toNat) = true ∧
 isEndP n (yA n row (↑i : Int).toNat) = true ∧
 ((-2147483648 : Int) ≤ bA row (↑i : Int).toNat ∧
 bA row (↑i : Int).toNat ≤ (2147483647 : Int)) ∧
 ∃ (i_2 : Bool),
 True ∧
 row.rows = row.rows ∧
 (↑i : Int) = (↑i : Int) ∧
 n.toNat = (0 : Nat) + (itD n.toNat n (actsP n row (e, f) i)).len ∧
 n = n ∧
 (copyZ n (xA n row (↑i : Int).toNat) (yA n row (↑i : Int).toNat)
 (bA row (↑i : Int).toNat)
 ((actsP n row (e, f) (↑i : Int).toNat).fst,
 (actsP n row (e, f) (↑i : Int).toNat).snd)).fst =
 (actStep n row (↑i : Int).toNat (actsP n row (e, f) (↑i : Int).toNat)).fst ∧
 (∀ (o : Nat),
 o < nat_lit 49 →
 (copyZ n (xA n row (↑i : Int).toNat) (yA n row (↑i : Int).toNat)
 (bA row (↑i : Int).toNat)
 ((actsP n row (e, f) (↑i : Int).toNat).fst,
 (actsP n row (e, f) (↑i : Int).toNat).snd)).snd
 o =
 (actStep n row (↑i : Int).toNat
 (actsP n row (e, f) (↑i : Int).toNat)).snd
 o) ∧
 (copyZ n (xA n row (↑i : Int).toNat) (yA n row (↑i : Int).toNat)
 (bA row (↑i : Int).toNat)
 ((actsP n row (e, f) (↑i : Int).toNat).fst,
 (actsP n row (e, f) (↑i : Int).toNat).snd)).fst =
 (actStep n row (↑i : Int).toNat
 (actsP n row (e, f) (↑i : Int).toNat)).fst ∧
 List.map
 (fun (j : Nat) =>
 [D.i
 (itvLo n
 (copyZ n (xA n row (↑i : Int).toNat)
 (yA n row (↑i : Int).toNat) (bA row (↑i : Int).toNat)
 ((actsP n row (e, f) (↑i : Int).toNat).fst,
 (actsP n row (e, f) (↑i : Int).toNat).snd)).fst
 (copyZ n (xA n row (↑i : Int).toNat)
 (yA n row (↑i : Int).toNat) (bA row (↑i : Int).toNat)
 ((actsP n row (e, f) (↑i : Int).toNat).fst,
 (actsP n row (e, f) (↑i : Int).toNat).snd)).snd
 (↑j : Int)),
 D.i
 (itvHi n
 (copyZ n (xA n row (↑i : Int).toNat)
 (yA n row (↑i : Int).toNat) (bA row (↑i : Int).toNat)
 ((actsP n row (e, f) (↑i : Int).toNat).fst,
 (actsP n row (e, f) (↑i : Int).toNat).snd)).fst
 (copyZ n (xA n row (↑i : Int).toNat)
 (yA n row (↑i : Int).toNat) (bA row (↑i : Int).toNat)
 ((actsP n row (e, f) (↑i : Int).toNat).fst,
 (actsP n row (e, f) (↑i : Int).toNat).snd)).snd
 (↑j : Int))])
 (List.range
 (itD n.toNat n (actsP n row (e, f) (↑i : Int).toNat)).len) =
 List.map
 (fun (j : Nat) =>
 [D.i
 (itvLo n
 (actStep n row (↑i : Int).toNat
 (actsP n row (e, f) (↑i : Int).toNat)).fst
 (actStep n row (↑i : Int).toNat
 (actsP n row (e, f) (↑i : Int).toNat)).snd
 (↑j : Int)),
 D.i
 (itvHi n
 (actStep n row (↑i : Int).toNat
 (actsP n row (e, f) (↑i : Int).toNat)).fst
 (actStep n row (↑i : Int).toNat
 (actsP n row (e, f) (↑i : Int).toNat)).snd
 (↑j : Int))])
 (List.range n.toNat) ∧
 n = n ∧
 (copyZ n (xA n row (↑i : Int).toNat) (yA n row (↑i : Int).toNat)
 (bA row (↑i : Int).toNat)
 ((actsP n row (e, f) (↑i : Int).toNat).fst,
 (actsP n row (e, f) (↑i : Int).toNat).snd)).fst =
 (actStep n row (↑i : Int).toNat
 (actsP n row (e, f) (↑i : Int).toNat)).fst ∧
 (∀ (o : Nat),
 o < nat_lit 49 →
 (copyZ n (xA n row (↑i : Int).toNat)
 (yA n row (↑i : Int).toNat) (bA row (↑i : Int).toNat)
 ((actsP n row (e, f) (↑i : Int).toNat).fst,
 (actsP n row (e, f) (↑i : Int).toNat).snd)).snd
 o =
 (actStep n row (↑i : Int).toNat
 (actsP n row (e, f) (↑i : Int).toNat)).snd
 o) ∧
 (actsP n row (e, f) (↑i : Int).toNat).fst =
 (actsP n row (e, f) i).fst ∧
 List.map
 (fun (j : Nat) =>
 [D.i
 (itvLo n (actsP n row (e, f) (↑i : Int).toNat).fst
 (actsP n row (e, f) (↑i : Int).toNat).snd
 (↑j : Int)),
 D.i
 (itvHi n (actsP n row (e, f) (↑i : Int).toNat).fst
 (actsP n row (e, f) (↑i : Int).toNat).snd
 (↑j : Int))])
 (List.range n.toNat) =
 List.map
 (fun (j : Nat) =>
 [D.i
 (itvLo n (actsP n row (e, f) i).fst
 (actsP n row (e, f) i).snd (↑j : Int)),
 D.i
 (itvHi n (actsP n row (e, f) i).fst
 (actsP n row (e, f) i).snd (↑j : Int))])
 (List.range n.toNat) ∧
 n = n ∧
 (actsP n row (e, f) (↑i : Int).toNat).fst =
 (actsP n row (e, f) i).fst ∧
 (∀ (o : Nat),
 o < nat_lit 49 →
 (actsP n row (e, f) (↑i : Int).toNat).snd o =
 (actsP n row (e, f) i).snd o) ∧
 false = false ∧
 (0 : Int) = (0 : Int) ∧
 false = false ∧
 (∀ (o : Nat),
 o < nat_lit 49 → (0 : Int) = (0 : Int)) ∧
 (0 : Int) = (0 : Int) ∧
 false = false ∧
 (∀ (o : Nat),
 o < nat_lit 49 →
 (0 : Int) = (0 : Int)) ∧
 List.map
 (fun (j : Nat) =>
 [D.i
 (itvLo n
 (actsP n row (e, f)
 (↑i : Int).toNat).fst
 (actsP n row (e, f)
 (↑i : Int).toNat).snd
 (↑j : Int)),
 D.i
 (itvHi n
 (actsP n row (e, f)
 (↑i : Int).toNat).fst
 (actsP n row (e, f)
 (↑i : Int).toNat).snd
 (↑j : Int))])
 (List.range n.toNat) =
 [] ++
 List.map
 (fun (j : Nat) =>
 [D.i
 (itvLo n
 (actsP n row (e, f) i).fst
 (actsP n row (e, f) i).snd
 (↑j : Int)),
 D.i
 (itvHi n
 (actsP n row (e, f) i).fst
 (actsP n row (e, f) i).snd
 (↑j : Int))])
 (List.range n.toNat)) ∧
 ((wA row (↑i : Int).toNat == (3 : Int)) = false →
 ((wA row (↑i : Int).toNat == (4 : Int)) = true →
 ((xA n row (↑i : Int).toNat != yA n row (↑i : Int).toNat) = true →
 Good n ((actsP n row (e, f) (↑i : Int).toNat).fst, (actsP n row (e, f) (↑i : Int).toNat).snd) ∧
 (itD n.toNat n (actsP n row (e, f) (↑i : Int).toNat)).len ≤ (1000 : Nat) ∧
 Good n
 ((actsP n row (e, f) (↑i : Int).toNat).fst, (actsP n row (e, f) (↑i : Int).toNat).snd) ∧
 isEndP n (xA n row (↑i : Int).toNat) = true ∧
 isEndP n (yA n row (↑i : Int).toNat) = true ∧
 xA n row (↑i : Int).toNat ≠ yA n row (↑i : Int).toNat ∧
 (-4294967296 : Int) ≤ bA row (↑i : Int).toNat ∧
 ∃ (i_2 : Bool),
 True ∧
 row.rows = row.rows ∧
 (↑i : Int) = (↑i : Int) ∧
 n.toNat = (0 : Nat) + (itD n.toNat n (actsP n row (e, f) i)).len ∧
 n = n ∧
 (bndZ n (xA n row (↑i : Int).toNat) (yA n row (↑i : Int).toNat)
 (bA row (↑i : Int).toNat)
 ((actsP n row (e, f) (↑i : Int).toNat).fst,
 (actsP n row (e, f) (↑i : Int).toNat).snd)).fst =
 (actStep n row (↑i : Int).toNat
 (actsP n row (e, f) (↑i : Int).toNat)).fst ∧
 (∀ (o : Nat),
 o < nat_lit 49 →
 (bndZ n (xA n row (↑i : Int).toNat)
 (yA n row (↑i : Int).toNat) (bA row (↑i : Int).toNat)
 ((actsP n row (e, f) (↑i : Int).toNat).fst,
 (actsP n row (e, f) (↑i : Int).toNat).snd)).snd
 o =
 (actStep n row (↑i : Int).toNat
 (actsP n row (e, f) (↑i : Int).toNat)).snd
 o) ∧
 (bndZ n (xA n row (↑i : Int).toNat) (yA n row (↑i : Int).toNat)
 (bA row (↑i : Int).toNat)
 ((actsP n row (e, f) (↑i : Int).toNat).fst,
 (actsP n row (e, f) (↑i : Int).toNat).snd)).fst =
 (actStep n row (↑i : Int).toNat
 (actsP n row (e, f) (↑i : Int).toNat)).fst ∧
 List.map
 (fun (j : Nat) =>
 [D.i
 (itvLo n
 (bndZ n (xA n row (↑i : Int).toNat)
 (yA n row (↑i : Int).toNat)
 (bA row (↑i : Int).toNat)
 ((actsP n row (e, f) (↑i : Int).toNat).fst,
 (actsP n row (e, f)
 (↑i : Int).toNat).snd)).fst
 (bndZ n (xA n row (↑i : Int).toNat)
 (yA n row (↑i : Int).toNat)
 (bA row (↑i : Int).toNat)
 ((actsP n row (e, f) (↑i : Int).toNat).fst,
 (actsP n row (e, f)
 (↑i : Int).toNat).snd)).snd
 (↑j : Int)),
 D.i
 (itvHi n
 (bndZ n (xA n row (↑i : Int).toNat)
 (yA n row (↑i : Int).toNat)
 (bA row (↑i : Int).toNat)
 ((actsP n row (e, f) (↑i : Int).toNat).fst,
 (actsP n row (e, f)
 (↑i : Int).toNat).snd)).fst
 (bndZ n (xA n row (↑i : Int).toNat)
 (yA n row (↑i : Int).toNat)
 (bA row (↑i : Int).toNat)
 ((actsP n row (e, f) (↑i : Int).toNat).fst,
 (actsP n row (e, f)
 (↑i : Int).toNat).snd)).snd
 (↑j : Int))])
 (List.range
 (itD n.toNat n
 (actsP n row (e, f) (↑i : Int).toNat)).len) =
 List.map
 (fun (j : Nat) =>
 [D.i
 (itvLo n
 (actStep n row (↑i : Int).toNat
 (actsP n row (e, f) (↑i : Int).toNat)).fst
 (actStep n row (↑i : Int).toNat
 (actsP n row (e, f) (↑i : Int).toNat)).snd
 (↑j : Int)),
 D.i
 (itvHi n
 (actStep n row (↑i : Int).toNat
 (actsP n row (e, f) (↑i : Int).toNat)).fst
 (actStep n row (↑i : Int).toNat
 (actsP n row (e, f) (↑i : Int).toNat)).snd
 (↑j : Int))])
 (List.range n.toNat) ∧
 n = n ∧
 (bndZ n (xA n row (↑i : Int).toNat)
 (yA n row (↑i : Int).toNat)
 (bA row (↑i : Int).toNat)
 ((actsP n row (e, f) (↑i : Int).toNat).fst,
 (actsP n row (e, f) (↑i : Int).toNat).snd)).fst =
 (actStep n row (↑i : Int).toNat
 (actsP n row (e, f) (↑i : Int).toNat)).fst ∧
 (∀ (o : Nat),
 o < nat_lit 49 →
 (bndZ n (xA n row (↑i : Int).toNat)
 (yA n row (↑i : Int).toNat)
 (bA row (↑i : Int).toNat)
 ((actsP n row (e, f) (↑i : Int).toNat).fst,
 (actsP n row (e, f)
 (↑i : Int).toNat).snd)).snd
 o =
 (actStep n row (↑i : Int).toNat
 (actsP n row (e, f) (↑i : Int).toNat)).snd
 o) ∧
 (actsP n row (e, f) (↑i : Int).toNat).fst =
 (actsP n row (e, f) i).fst ∧
 List.map
 (fun (j : Nat) =>
 [D.i
 (itvLo n
 (actsP n row (e, f)
 (↑i : Int).toNat).fst
 (actsP n row (e, f)
 (↑i : Int).toNat).snd
 (↑j : Int)),
 D.i
 (itvHi n
 (actsP n row (e, f)
 (↑i : Int).toNat).fst
 (actsP n row (e, f)
 (↑i : Int).toNat).snd
 (↑j : Int))])
 (List.range n.toNat) =
 List.map
 (fun (j : Nat) =>
 [D.i
 (itvLo n (actsP n row (e, f) i).fst
 (actsP n row (e, f) i).snd (↑j : Int)),
 D.i
 (itvHi n (actsP n row (e, f) i).fst
 (actsP n row (e, f) i).snd (↑j : Int))])
 (List.range n.toNat) ∧
 n = n ∧
 (actsP n row (e, f) (↑i : Int).toNat).fst =
 (actsP n row (e, f) i).fst ∧
 (∀ (o : Nat),
 o < nat_lit 49 →
 (actsP n row (e, f) (↑i : Int).toNat).snd
 o =
 (actsP n row (e, f) i).snd o) ∧
 false = false ∧
 (0 : Int) = (0 : Int) ∧
 false = false ∧
 (∀ (o : Nat),
 o < nat_lit 49 →
 (0 : Int) = (0 : Int)) ∧
 (0 : Int) = (0 : Int) ∧
 false = false ∧
 (∀ (o : Nat),
 o < nat_lit 49 →
 (0 : Int) = (0 : Int)) ∧
 List.map
 (fun (j : Nat) =>
 [D.i
 (itvLo n
 (actsP n row (e, f)
 (↑i :
 Int).toNat).fst
 (actsP n row (e, f)
 (↑i :
 Int).toNat).snd
 (↑j : Int)),
 D.i
 (itvHi n
 (actsP n row (e, f)
 (↑i :
 Int).toNat).fst
 (actsP n row (e, f)
 (↑i :
 Int).toNat).snd
 (↑j : Int))])
 (List.range n.toNat) =
 [] ++
 List.map
 (fun (j : Nat) =>
 [D.i
 (itvLo n
 (actsP n row
 (e, f) i).fst
 (actsP n row
 (e, f) i).snd
 (↑j : Int)),
 D.i
 (itvHi n
 (actsP n row
 (e, f) i).fst
 (actsP n row
 (e, f) i).snd
 (↑j : Int))])
 (List.range n.toNat)) ∧
 ((xA n row (↑i : Int).toNat != yA n row (↑i : Int).toNat) = false →
 ∃ (i_2 : Bool),
 True ∧
 row.rows = row.rows ∧
 (↑i : Int) = (↑i : Int) ∧
 n.toNat = (0 : Nat) + (itD n.toNat n (actsP n row (e, f) i)).len ∧
 n = n ∧
 (actsP n row (e, f) (↑i : Int).toNat).fst =
 (actStep n row (↑i : Int).toNat (actsP n row (e, f) (↑i : Int).toNat)).fst ∧
 (∀ (o : Nat),
 o < nat_lit 49 →
 (actsP n row (e, f) (↑i : Int).toNat).snd o =
 (actStep n row (↑i : Int).toNat (actsP n row (e, f) (↑i : Int).toNat)).snd
 o) ∧
 (actsP n row (e, f) (↑i : Int).toNat).fst =
 (actStep n row (↑i : Int).toNat (actsP n row (e, f) (↑i : Int).toNat)).fst ∧
 List.map
 (fun (j : Nat) =>
 [D.i
 (itvLo n (actsP n row (e, f) (↑i : Int).toNat).fst
 (actsP n row (e, f) (↑i : Int).toNat).snd (↑j : Int)),
 D.i
 (itvHi n (actsP n row (e, f) (↑i : Int).toNat).fst
 (actsP n row (e, f) (↑i : Int).toNat).snd (↑j : Int))])
 (List.range n.toNat) =
 List.map
 (fun (j : Nat) =>
 [D.i
 (itvLo n
 (actStep n row (↑i : Int).toNat
 (actsP n row (e, f) (↑i : Int).toNat)).fst
 (actStep n row (↑i : Int).toNat
 (actsP n row (e, f) (↑i : Int).toNat)).snd
 (↑j : Int)),
 D.i
 (itvHi n
 (actStep n row (↑i : Int).toNat
 (actsP n row (e, f) (↑i : Int).toNat)).fst
 (actStep n row (↑i : Int).toNat
 (actsP n row (e, f) (↑i : Int).toNat)).snd
 (↑j : Int))])
 (List.range n.toNat) ∧
 n = n ∧
 (actsP n row (e, f) (↑i : Int).toNat).fst =
 (actStep n row (↑i : Int).toNat
 (actsP n row (e, f) (↑i : Int).toNat)).fst ∧
 (∀ (o : Nat),
 o < nat_lit 49 →
 (actsP n row (e, f) (↑i : Int).toNat).snd o =
 (actStep n row (↑i : Int).toNat
 (actsP n row (e, f) (↑i : Int).toNat)).snd
 o) ∧
 (actsP n row (e, f) (↑i : Int).toNat).fst =
 (actsP n row (e, f) i).fst ∧
 List.map
 (fun (j : Nat) =>
 [D.i
 (itvLo n (actsP n row (e, f) (↑i : Int).toNat).fst
 (actsP n row (e, f) (↑i : Int).toNat).snd (↑j : Int)),
 D.i
 (itvHi n (actsP n row (e, f) (↑i : Int).toNat).fst
 (actsP n row (e, f) (↑i : Int).toNat).snd
 (↑j : Int))])
 (List.range n.toNat) =
 List.map
 (fun (j : Nat) =>
 [D.i
 (itvLo n (actsP n row (e, f) i).fst
 (actsP n row (e, f) i).snd (↑j : Int)),
 D.i
 (itvHi n (actsP n row (e, f) i).fst
 (actsP n row (e, f) i).snd (↑j : Int))])
 (List.range n.toNat) ∧
 n = n ∧
 (actsP n row (e, f) (↑i : Int).toNat).fst =
 (actsP n row (e, f) i).fst ∧
 (∀ (o : Nat),
 o < nat_lit 49 →
 (actsP n row (e, f) (↑i : Int).toNat).snd o =
 (actsP n row (e, f) i).snd o) ∧
 false = false ∧
 (0 : Int) = (0 : Int) ∧
 false = false ∧
 (∀ (o : Nat),
 o < nat_lit 49 → (0 : Int) = (0 : Int)) ∧
 (0 : Int) = (0 : Int) ∧
 false = false ∧
 (∀ (o : Nat),
 o < nat_lit 49 → (0 : Int) = (0 : Int)) ∧
 List.map
 (fun (j : Nat) =>
 [D.i
 (itvLo n
 (actsP n row (e, f)
 (↑i : Int).toNat).fst
 (actsP n row (e, f)
 (↑i : Int).toNat).snd
 (↑j : Int)),
 D.i
 (itvHi n
 (actsP n row (e, f)
 (↑i : Int).toNat).fst
 (actsP n row (e, f)
 (↑i : Int).toNat).snd
 (↑j : Int))])
 (List.range n.toNat) =
 [] ++
 List.map
 (fun (j : Nat) =>
 [D.i
 (itvLo n
 (actsP n row (e, f) i).fst
 (actsP n row (e, f) i).snd
 (↑j : Int)),
 D.i
 (itvHi n
 (actsP n row (e, f) i).fst
 (actsP n row (e, f) i).snd
 (↑j : Int))])
 (List.range n.toNat))) ∧
 ((wA row (↑i : Int).toNat == (4 : Int)) = false →
 ∃ (i_2 : Bool),
 True ∧
 row.rows = row.rows ∧
 (↑i : Int) = (↑i : Int) ∧
 n.toNat = (0 : Nat) + (itD n.toNat n (actsP n row (e, f) i)).len ∧
 n = n ∧
 (actsP n row (e, f) (↑i : Int).toNat).fst =
 (actStep n row (↑i : Int).toNat (actsP n row (e, f) (↑i : Int).toNat)).fst ∧
 (∀ (o : Nat),
 o < nat_lit 49 →
 (actsP n row (e, f) (↑i : Int).toNat).snd o =
 (actStep n row (↑i : Int).toNat (actsP n row (e, f) (↑i : Int).toNat)).snd
 o) ∧
 (actsP n row (e, f) (↑i : Int).toNat).fst =
 (actStep n row (↑i : Int).toNat (actsP n row (e, f) (↑i : Int).toNat)).fst ∧
 List.map
 (fun (j : Nat) =>
 [D.i
 (itvLo n (actsP n row (e, f) (↑i : Int).toNat).fst
 (actsP n row (e, f) (↑i : Int).toNat).snd (↑j : Int)),
 D.i
 (itvHi n (actsP n row (e, f) (↑i : Int).toNat).fst
 (actsP n row (e, f) (↑i : Int).toNat).snd (↑j : Int))])
 (List.range n.toNat) =
 List.map
 (fun (j : Nat) =>
 [D.i
 (itvLo n
 (actStep n row (↑i : Int).toNat
 (actsP n row (e, f) (↑i : Int).toNat)).fst
 (actStep n row (↑i : Int).toNat
 (actsP n row (e, f) (↑i : Int).toNat)).snd
 (↑j : Int)),
 D.i
 (itvHi n
 (actStep n row (↑i : Int).toNat
 (actsP n row (e, f) (↑i : Int).toNat)).fst
 (actStep n row (↑i : Int).toNat
 (actsP n row (e, f) (↑i : Int).toNat)).snd
 (↑j : Int))])
 (List.range n.toNat) ∧
 n = n ∧
 (actsP n row (e, f) (↑i : Int).toNat).fst =
 (actStep n row (↑i : Int).toNat
 (actsP n row (e, f) (↑i : Int).toNat)).fst ∧
 (∀ (o : Nat),
 o < nat_lit 49 →
 (actsP n row (e, f) (↑i : Int).toNat).snd o =
 (actStep n row (↑i : Int).toNat
 (actsP n row (e, f) (↑i : Int).toNat)).snd
 o) ∧
 (actsP n row (e, f) (↑i : Int).toNat).fst = (actsP n row (e, f) i).fst ∧
 List.map
 (fun (j : Nat) =>
 [D.i
 (itvLo n (actsP n row (e, f) (↑i : Int).toNat).fst
 (actsP n row (e, f) (↑i : Int).toNat).snd (↑j : Int)),
 D.i
 (itvHi n (actsP n row (e, f) (↑i : Int).toNat).fst
 (actsP n row (e, f) (↑i : Int).toNat).snd (↑j : Int))])
 (List.range n.toNat) =
 List.map
 (fun (j : Nat) =>
 [D.i
 (itvLo n (actsP n row (e, f) i).fst
 (actsP n row (e, f) i).snd (↑j : Int)),
 D.i
 (itvHi n (actsP n row (e, f) i).fst
 (actsP n row (e, f) i).snd (↑j : Int))])
 (List.range n.toNat) ∧
 n = n ∧
 (actsP n row (e, f) (↑i : Int).toNat).fst =
 (actsP n row (e, f) i).fst ∧
 (∀ (o : Nat),
 o < nat_lit 49 →
 (actsP n row (e, f) (↑i : Int).toNat).snd o =
 (actsP n row (e, f) i).snd o) ∧
 false = false ∧
 (0 : Int) = (0 : Int) ∧
 false = false ∧
 (∀ (o : Nat), o < nat_lit 49 → (0 : Int) = (0 : Int)) ∧
 (0 : Int) = (0 : Int) ∧
 false = false ∧
 (∀ (o : Nat),
 o < nat_lit 49 → (0 : Int) = (0 : Int)) ∧
 List.map
 (fun (j : Nat) =>
 [D.i
 (itvLo n
 (actsP n row (e, f)
 (↑i : Int).toNat).fst
 (actsP n row (e, f)
 (↑i : Int).toNat).snd
 (↑j : Int)),
 D.i
 (itvHi n
 (actsP n row (e, f)
 (↑i : Int).toNat).fst
 (actsP n row (e, f)
 (↑i : Int).toNat).snd
 (↑j : Int))])
 (List.range n.toNat) =
 [] ++
 List.map
 (fun (j : Nat) =>
 [D.i
 (itvLo n (actsP n row (e, f) i).fst
 (actsP n row (e, f) i).snd
 (↑j : Int)),
 D.i
 (itvHi n (actsP n row (e, f) i).fst
 (actsP n row (e, f) i).snd
 (↑j : Int))])
 (List.range n.toNat))))))) ∧
 ∀ (i_1 : Bool),
 True →
 (∃ (i_2 : Nat),
 i_2.le n.toNat ∧
 (0 : Int) = (↑i_2 : Int) ∧
 row.rows = row.rows ∧
 (↑i : Int) = (↑i : Int) ∧
 (0 : Nat) + (itD n.toNat n (actsP n row (e, f) i)).len =
 (0 : Nat) + (itD n.toNat n (actsP n row (e, f) i)).len ∧
 (actsP n row (e, f) i).fst = (actsP n row (e, f) i).fst ∧
 List.map
 (fun (j : Nat) =>
 [D.i (itvLo n (actsP n row (e, f) i).fst (actsP n row (e, f) i).snd (↑j : Int)),
 D.i (itvHi n (actsP n row (e, f) i).fst (actsP n row (e, f) i).snd (↑j : Int))])
 (List.range n.toNat) =
 List.map
 (fun (j : Nat) =>
 [D.i (itvLo n (actsP n row (e, f) i).fst (actsP n row (e, f) i).snd (↑j : Int)),
 D.i (itvHi n (actsP n row (e, f) i).fst (actsP n row (e, f) i).snd (↑j : Int))])
 (List.range n.toNat) ∧
 n = n ∧
 (actsP n row (e, f) i).fst = (actsP n row (e, f) i).fst ∧
 (∀ (o : Nat), o < nat_lit 49 → (actsP n row (e, f) i).snd o = (actsP n row (e, f) i).snd o) ∧
 n = n ∧
 (actStep n row (↑i : Int).toNat (actsP n row (e, f) (↑i : Int).toNat)).fst =
 (actStep n row (↑i : Int).toNat (actsP n row (e, f) (↑i : Int).toNat)).fst ∧
 (∀ (o : Nat),
 o < nat_lit 49 →
 (actStep n row (↑i : Int).toNat (actsP n row (e, f) (↑i : Int).toNat)).snd o =
 (actStep n row (↑i : Int).toNat (actsP n row (e, f) (↑i : Int).toNat)).snd o) ∧
 false = false ∧
 (0 : Int) = (0 : Int) ∧
 false = false ∧
 (∀ (o : Nat), o < nat_lit 49 → (0 : Int) = (0 : Int)) ∧
 (0 : Int) = (0 : Int) ∧
 false = false ∧
 (∀ (o : Nat), o < nat_lit 49 → (0 : Int) = (0 : Int)) ∧
 [] ++
 List.map
 (fun (j : Nat) =>
 [D.i
 (itvLo n (actsP n row (e, f) i).fst (actsP n row (e, f) i).snd
 (↑j : Int)),
 D.i
 (itvHi n (actsP n row (e, f) i).fst (actsP n row (e, f) i).snd
 (↑j : Int))])
 (List.range n.toNat) =
 [] ++
 List.map
 (fun (j : Nat) =>
 [D.i
 (itvLo n (actsP n row (e, f) i).fst (actsP n row (e, f) i).snd
 (↑j : Int)),
 D.i
 (itvHi n (actsP n row (e, f) i).fst (actsP n row (e, f) i).snd
 (↑j : Int))])
 (List.range n.toNat) ∧
 (actStep n row (↑i : Int).toNat (actsP n row (e, f) (↑i : Int).toNat)).fst =
 (actStep n row (↑i : Int).toNat
 (actsP n row (e, f) (↑i : Int).toNat)).fst ∧
 List.map
 (fun (j : Nat) =>
 [D.i
 (itvLo n
 (actStep n row (↑i : Int).toNat
 (actsP n row (e, f) (↑i : Int).toNat)).fst
 (actStep n row (↑i : Int).toNat
 (actsP n row (e, f) (↑i : Int).toNat)).snd
 (↑j : Int)),
 D.i
 (itvHi n
 (actStep n row (↑i : Int).toNat
 (actsP n row (e, f) (↑i : Int).toNat)).fst
 (actStep n row (↑i : Int).toNat
 (actsP n row (e, f) (↑i : Int).toNat)).snd
 (↑j : Int))])
 (List.range n.toNat) =
 List.map
 (fun (j : Nat) =>
 [D.i
 (itvLo n
 (actStep n row (↑i : Int).toNat
 (actsP n row (e, f) (↑i : Int).toNat)).fst
 (actStep n row (↑i : Int).toNat
 (actsP n row (e, f) (↑i : Int).toNat)).snd
 (↑j : Int)),
 D.i
 (itvHi n
 (actStep n row (↑i : Int).toNat
 (actsP n row (e, f) (↑i : Int).toNat)).fst
 (actStep n row (↑i : Int).toNat
 (actsP n row (e, f) (↑i : Int).toNat)).snd
 (↑j : Int))])
 (List.range n.toNat) ∧
 n = n ∧
 (actStep n row (↑i : Int).toNat
 (actsP n row (e, f) (↑i : Int).toNat)).fst =
 (actStep n row (↑i : Int).toNat
 (actsP n row (e, f) (↑i : Int).toNat)).fst ∧
 ∀ (o : Nat),
 o < nat_lit 49 →
 (actStep n row (↑i : Int).toNat
 (actsP n row (e, f) (↑i : Int).toNat)).snd
 o =
 (actStep n row (↑i : Int).toNat
 (actsP n row (e, f) (↑i : Int).toNat)).snd
 o) ∧
 ∀ (i_2 : Nat),
 i_2.le n.toNat →
 (decide ((↑i_2 : Int) < (↑((0 : Nat) + (itD n.toNat n (actsP n row (e, f) i)).len) : Int)) = true →
 ((0 : Int) ≤ (↑i_2 : Int) ∧ (↑i_2 : Int) < (↑(itD n.toNat n (actsP n row (e, f) i)).len : Int)) ∧
 ((0 : Int) ≤ (↑i_2 : Int) ∧
 (↑i_2 : Int) < (↑((0 : Nat) + (itD n.toNat n (actsP n row (e, f) i)).len) : Int)) ∧
 (↑i_2 : Int).toNat < ((D.l []).app (itD n.toNat n (actsP n row (e, f) i))).len ∧
 ((!(((itD n.toNat n (actsP n row (e, f) i)).el (↑i_2 : Int).toNat (0 : Nat)).toI ==
 (((D.l []).app (itD n.toNat n (actsP n row (e, f) i))).el (↑i_2 : Int).toNat (0 : Nat)).toI &&
 (((itD n.toNat n (actsP n row (e, f) i)).el (↑i_2 : Int).toNat ((0 : Nat) + (1 : Nat))).toI ==
 (((D.l []).app (itD n.toNat n (actsP n row (e, f) i))).el (↑i_2 : Int).toNat
 ((0 : Nat) + (1 : Nat))).toI &&
 true))) =
 true →
 (actsP n row (e, f) i).fst = (actsZ n row (e, f)).fst ∧
 List.map
 (fun (j : Nat) =>
 [D.i (itvLo n (actsP n row (e, f) i).fst (actsP n row (e, f) i).snd (↑j : Int)),
 D.i (itvHi n (actsP n row (e, f) i).fst (actsP n row (e, f) i).snd (↑j : Int))])
 (List.range n.toNat) =
 List.map
 (fun (j : Nat) =>
 [D.i (itvLo n (actsZ n row (e, f)).fst (actsZ n row (e, f)).snd (↑j : Int)),
 D.i (itvHi n (actsZ n row (e, f)).fst (actsZ n row (e, f)).snd (↑j : Int))])
 (List.range n.toNat) ∧
 n = n ∧
 (actsP n row (e, f) i).fst = (actsZ n row (e, f)).fst ∧
 (∀ (o : Nat), o < nat_lit 49 → (actsP n row (e, f) i).snd o = (actsZ n row (e, f)).snd o) ∧
 n = n ∧
 (actStep n row (↑i : Int).toNat (actsP n row (e, f) (↑i : Int).toNat)).fst =
 (actsZ n row (e, f)).fst ∧
 (∀ (o : Nat),
 o < nat_lit 49 →
 (actStep n row (↑i : Int).toNat (actsP n row (e, f) (↑i : Int).toNat)).snd o =
 (actsZ n row (e, f)).snd o) ∧
 false = true) ∧
 ((!(((itD n.toNat n (actsP n row (e, f) i)).el (↑i_2 : Int).toNat (0 : Nat)).toI ==
 (((D.l []).app (itD n.toNat n (actsP n row (e, f) i))).el (↑i_2 : Int).toNat (0 : Nat)).toI &&
 (((itD n.toNat n (actsP n row (e, f) i)).el (↑i_2 : Int).toNat ((0 : Nat) + (1 : Nat))).toI ==
 (((D.l []).app (itD n.toNat n (actsP n row (e, f) i))).el (↑i_2 : Int).toNat
 ((0 : Nat) + (1 : Nat))).toI &&
 true))) =
 false →
 ∃ (j : Nat),
 j.le n.toNat ∧
 n.toNat + (1 : Nat) - j < n.toNat + (1 : Nat) - i_2 ∧
 IntKind.i64.wrap ((↑i_2 : Int) + (1 : Int)) = (↑j : Int) ∧
 row.rows = row.rows ∧
 (↑i : Int) = (↑i : Int) ∧
 (0 : Nat) + (itD n.toNat n (actsP n row (e, f) i)).len =
 (0 : Nat) + (itD n.toNat n (actsP n row (e, f) i)).len ∧
 (actsP n row (e, f) i).fst = (actsP n row (e, f) i).fst ∧
 List.map
 (fun (j : Nat) =>
 [D.i
 (itvLo n (actsP n row (e, f) i).fst (actsP n row (e, f) i).snd
 (↑j : Int)),
 D.i
 (itvHi n (actsP n row (e, f) i).fst (actsP n row (e, f) i).snd
 (↑j : Int))])
 (List.range n.toNat) =
 List.map
 (fun (j : Nat) =>
 [D.i
 (itvLo n (actsP n row (e, f) i).fst (actsP n row (e, f) i).snd
 (↑j : Int)),
 D.i
 (itvHi n (actsP n row (e, f) i).fst (actsP n row (e, f) i).snd
 (↑j : Int))])
 (List.range n.toNat) ∧
 n = n ∧
 (actsP n row (e, f) i).fst = (actsP n row (e, f) i).fst ∧
 (∀ (o : Nat),
 o < nat_lit 49 →
 (actsP n row (e, f) i).snd o = (actsP n row (e, f) i).snd o) ∧
 n = n ∧
 (actStep n row (↑i : Int).toNat (actsP n row (e, f) (↑i : Int).toNat)).fst =
 (actStep n row (↑i : Int).toNat
 (actsP n row (e, f) (↑i : Int).toNat)).fst ∧
 (∀ (o : Nat),
 o < nat_lit 49 →
 (actStep n row (↑i : Int).toNat
 (actsP n row (e, f) (↑i : Int).toNat)).snd
 o =
 (actStep n row (↑i : Int).toNat
 (actsP n row (e, f) (↑i : Int).toNat)).snd
 o) ∧
 false = false ∧
 (0 : Int) = (0 : Int) ∧
 false = false ∧
 (∀ (o : Nat), o < nat_lit 49 → (0 : Int) = (0 : Int)) ∧
 (0 : Int) = (0 : Int) ∧
 false = false ∧
 (∀ (o : Nat), o < nat_lit 49 → (0 : Int) = (0 : Int)) ∧
 [] ++
 List.map
 (fun (j : Nat) =>
 [D.i
 (itvLo n (actsP n row (e, f) i).fst
 (actsP n row (e, f) i).snd (↑j : Int)),
 D.i
 (itvHi n (actsP n row (e, f) i).fst
 (actsP n row (e, f) i).snd (↑j : Int))])
 (List.range n.toNat) =
 [] ++
 List.map
 (fun (j : Nat) =>
 [D.i
 (itvLo n (actsP n row (e, f) i).fst
 (actsP n row (e, f) i).snd (↑j : Int)),
 D.i
 (itvHi n (actsP n row (e, f) i).fst
 (actsP n row (e, f) i).snd (↑j : Int))])
 (List.range n.toNat) ∧
 (actStep n row (↑i : Int).toNat
 (actsP n row (e, f) (↑i : Int).toNat)).fst =
 (actStep n row (↑i : Int).toNat
 (actsP n row (e, f) (↑i : Int).toNat)).fst ∧
 List.map
 (fun (j : Nat) =>
 [D.i
 (itvLo n
 (actStep n row (↑i : Int).toNat
 (actsP n row (e, f)
 (↑i : Int).toNat)).fst
 (actStep n row (↑i : Int).toNat
 (actsP n row (e, f)
 (↑i : Int).toNat)).snd
 (↑j : Int)),
 D.i
 (itvHi n
 (actStep n row (↑i : Int).toNat
 (actsP n row (e, f)
 (↑i : Int).toNat)).fst
 (actStep n row (↑i : Int).toNat
 (actsP n row (e, f)
 (↑i : Int).toNat)).snd
 (↑j : Int))])
 (List.range n.toNat) =
 List.map
 (fun (j : Nat) =>
 [D.i
 (itvLo n
 (actStep n row (↑i : Int).toNat
 (actsP n row (e, f)
 (↑i : Int).toNat)).fst
 (actStep n row (↑i : Int).toNat
 (actsP n row (e, f)
 (↑i : Int).toNat)).snd
 (↑j : Int)),
 D.i
 (itvHi n
 (actStep n row (↑i : Int).toNat
 (actsP n row (e, f)
 (↑i : Int).toNat)).fst
 (actStep n row (↑i : Int).toNat
 (actsP n row (e, f)
 (↑i : Int).toNat)).snd
 (↑j : Int))])
 (List.range n.toNat) ∧
 n = n ∧
 (actStep n row (↑i : Int).toNat
 (actsP n row (e, f)
 (↑i : Int).toNat)).fst =
 (actStep n row (↑i : Int).toNat
 (actsP n row (e, f)
 (↑i : Int).toNat)).fst ∧
 ∀ (o : Nat),
 o < nat_lit 49 →
 (actStep n row (↑i : Int).toNat
 (actsP n row (e, f)
 (↑i : Int).toNat)).snd
 o =
 (actStep n row (↑i : Int).toNat
 (actsP n row (e, f)
 (↑i : Int).toNat)).snd
 o)) ∧
 (decide ((↑i_2 : Int) < (↑((0 : Nat) + (itD n.toNat n (actsP n row (e, f) i)).len) : Int)) = false →
 Good n
 ((actStep n row (↑i : Int).toNat (actsP n row (e, f) (↑i : Int).toNat)).fst,
 (actStep n row (↑i : Int).toNat (actsP n row (e, f) (↑i : Int).toNat)).snd) ∧
 (actStep n row (↑i : Int).toNat (actsP n row (e, f) (↑i : Int).toNat)).fst =
 (actStep n row (↑i : Int).toNat (actsP n row (e, f) (↑i : Int).toNat)).fst ∧
 List.map
 (fun (j : Nat) =>
 [D.i
 (itvLo n (actStep n row (↑i : Int).toNat (actsP n row (e, f) (↑i : Int).toNat)).fst
 (actStep n row (↑i : Int).toNat (actsP n row (e, f) (↑i : Int).toNat)).snd (↑j : Int)),
 D.i
 (itvHi n (actStep n row (↑i : Int).toNat (actsP n row (e, f) (↑i : Int).toNat)).fst
 (actStep n row (↑i : Int).toNat (actsP n row (e, f) (↑i : Int).toNat)).snd (↑j : Int))])
 (List.range n.toNat) =
 List.map
 (fun (j : Nat) =>
 [D.i
 (itvLo n (actStep n row (↑i : Int).toNat (actsP n row (e, f) (↑i : Int).toNat)).fst
 (actStep n row (↑i : Int).toNat (actsP n row (e, f) (↑i : Int).toNat)).snd (↑j : Int)),
 D.i
 (itvHi n (actStep n row (↑i : Int).toNat (actsP n row (e, f) (↑i : Int).toNat)).fst
 (actStep n row (↑i : Int).toNat (actsP n row (e, f) (↑i : Int).toNat)).snd (↑j : Int))])
 (List.range n.toNat) ∧
 n = n ∧
 (actStep n row (↑i : Int).toNat (actsP n row (e, f) (↑i : Int).toNat)).fst =
 (actStep n row (↑i : Int).toNat (actsP n row (e, f) (↑i : Int).toNat)).fst ∧
 (∀ (o : Nat),
 o < (49 : Nat) →
 (actStep n row (↑i : Int).toNat (actsP n row (e, f) (↑i : Int).toNat)).snd o =
 (actStep n row (↑i : Int).toNat (actsP n row (e, f) (↑i : Int).toNat)).snd o) ∧
 ((!true) = true →
 (actStep n row (↑i : Int).toNat (actsP n row (e, f) (↑i : Int).toNat)).fst =
 (actsZ n row (e, f)).fst ∧
 List.map
 (fun (j : Nat) =>
 [D.i
 (itvLo n
 (actStep n row (↑i : Int).toNat (actsP n row (e, f) (↑i : Int).toNat)).fst
 (actStep n row (↑i : Int).toNat (actsP n row (e, f) (↑i : Int).toNat)).snd
 (↑j : Int)),
 D.i
 (itvHi n
 (actStep n row (↑i : Int).toNat (actsP n row (e, f) (↑i : Int).toNat)).fst
 (actStep n row (↑i : Int).toNat (actsP n row (e, f) (↑i : Int).toNat)).snd
 (↑j : Int))])
 (List.range n.toNat) =
 List.map
 (fun (j : Nat) =>
 [D.i (itvLo n (actsZ n row (e, f)).fst (actsZ n row (e, f)).snd (↑j : Int)),
 D.i (itvHi n (actsZ n row (e, f)).fst (actsZ n row (e, f)).snd (↑j : Int))])
 (List.range n.toNat) ∧
 n = n ∧
 (actStep n row (↑i : Int).toNat (actsP n row (e, f) (↑i : Int).toNat)).fst =
 (actsZ n row (e, f)).fst ∧
 (∀ (o : Nat),
 o < nat_lit 49 →
 (actStep n row (↑i : Int).toNat (actsP n row (e, f) (↑i : Int).toNat)).snd o =
 (actsZ n row (e, f)).snd o) ∧
 n = n ∧
 (actStep n row (↑i : Int).toNat (actsP n row (e, f) (↑i : Int).toNat)).fst =
 (actsZ n row (e, f)).fst ∧
 (∀ (o : Nat),
 o < nat_lit 49 →
 (actStep n row (↑i : Int).toNat (actsP n row (e, f) (↑i : Int).toNat)).snd
 o =
 (actsZ n row (e, f)).snd o) ∧
 false = true) ∧
 ((!true) = false →
 ∃ (j : Nat),
 (j ≤ row.len ∧ j ≤ (16 : Nat)) ∧
 (17 : Nat) - j < (17 : Nat) - i ∧
 IntKind.i64.wrap ((↑i : Int) + (1 : Int)) = (↑j : Int) ∧
 row.rows = row.rows ∧
 (actStep n row (↑i : Int).toNat (actsP n row (e, f) (↑i : Int).toNat)).fst =
 (actsP n row (e, f) j).fst ∧
 List.map
 (fun (j : Nat) =>
 [D.i
 (itvLo n
 (actStep n row (↑i : Int).toNat
 (actsP n row (e, f) (↑i : Int).toNat)).fst
 (actStep n row (↑i : Int).toNat
 (actsP n row (e, f) (↑i : Int).toNat)).snd
 (↑j : Int)),
 D.i
 (itvHi n
 (actStep n row (↑i : Int).toNat
 (actsP n row (e, f) (↑i : Int).toNat)).fst
 (actStep n row (↑i : Int).toNat
 (actsP n row (e, f) (↑i : Int).toNat)).snd
 (↑j : Int))])
 (List.range n.toNat) =
 List.map
 (fun (j_1 : Nat) =>
 [D.i
 (itvLo n (actsP n row (e, f) j).fst (actsP n row (e, f) j).snd
 (↑j_1 : Int)),
 D.i
 (itvHi n (actsP n row (e, f) j).fst (actsP n row (e, f) j).snd
 (↑j_1 : Int))])
 (List.range n.toNat) ∧
 n = n ∧
 (actStep n row (↑i : Int).toNat (actsP n row (e, f) (↑i : Int).toNat)).fst =
 (actsP n row (e, f) j).fst ∧
 (∀ (o : Nat),
 o < nat_lit 49 →
 (actStep n row (↑i : Int).toNat
 (actsP n row (e, f) (↑i : Int).toNat)).snd
 o =
 (actsP n row (e, f) j).snd o) ∧
 n = n ∧
 (actStep n row (↑i : Int).toNat
 (actsP n row (e, f) (↑i : Int).toNat)).fst =
 (actsP n row (e, f) j).fst ∧
 (∀ (o : Nat),
 o < nat_lit 49 →
 (actStep n row (↑i : Int).toNat
 (actsP n row (e, f) (↑i : Int).toNat)).snd
 o =
 (actsP n row (e, f) j).snd o) ∧
 false = false ∧
 (0 : Int) = (0 : Int) ∧
 false = false ∧
 (∀ (o : Nat), o < nat_lit 49 → (0 : Int) = (0 : Int)) ∧
 (0 : Int) = (0 : Int) ∧
 false = false ∧
 ∀ (o : Nat), o < nat_lit 49 → (0 : Int) = (0 : Int)))) ∧
 ((decide ((↑i : Int) < (↑row.len : Int)) && decide ((↑i : Int) < (16 : Int)) && decide (n > (0 : Int))) = false →
 (actsP n row (e, f) i).fst = (actsZ n row (e, f)).fst ∧
 List.map
 (fun (j : Nat) =>
 [D.i (itvLo n (actsP n row (e, f) i).fst (actsP n row (e, f) i).snd (↑j : Int)),
 D.i (itvHi n (actsP n row (e, f) i).fst (actsP n row (e, f) i).snd (↑j : Int))])
 (List.range n.toNat) =
 List.map
 (fun (j : Nat) =>
 [D.i (itvLo n (actsZ n row (e, f)).fst (actsZ n row (e, f)).snd (↑j : Int)),
 D.i (itvHi n (actsZ n row (e, f)).fst (actsZ n row (e, f)).snd (↑j : Int))])
 (List.range n.toNat) ∧
 n = n ∧
 (actsP n row (e, f) i).fst = (actsZ n row (e, f)).fst ∧
 (∀ (o : Nat), o < nat_lit 49 → (actsP n row (e, f) i).snd o = (actsZ n row (e, f)).snd o) ∧
 n = n ∧
 (actsP n row (e, f) i).fst = (actsZ n row (e, f)).fst ∧
 (∀ (o : Nat), o < nat_lit 49 → (actsP n row (e, f) i).snd o = (actsZ n row (e, f)).snd o) ∧ true = true)) (by kernel_rfl) ?_
    simp only [raw0, true_and, and_true, implies_true, Nat.mul_one, Int.toNat_natCast, c7, decide_eq_true_eq, decide_eq_false_iff_not, Nat.zero_add, forall_const, Nat.le_eq, at_iff, bne_iff_ne, bne_eq_false_iff_eq, and_self, and_self_left, Nat.reduceAdd]
    simp only [itD_len, List.nil_append, true_and, and_true, implies_true]
    intro hG hc hI hm he hg
    subst hc hm he
    have hn := hG.n0
    have hI' : I.rows = (itD m.toNat m (e2, f)).rows := hI
    refine ⟨⟨0, by omega, rfl, rfl, hI, rfl, fun _ _ => rfl, rfl, rfl, hg⟩, fun i hi => ⟨fun h1 => ?_, fun h1 => ?_⟩⟩
    · have h1' : (i < row.len ∧ i < 16) ∧ m > 0 := by simp only [Bool.and_eq_true, decide_eq_true_eq] at h1; omega
      have gz := good_acts hG (d := row) i
      have hx := xA_in (n := m) (by omega) row i
      have hy := yA_in (n := m) (by omega) row i
      have hb := bA_in row i
      obtain ⟨l1, l2, l3, l4⟩ := lh_in row i
      have vx := isVar_of hn hx
      have ey := isEnd_of hn hy
      have ex := isVar_end vx
      have gs : Good m (actStep m row i (actsP m row (e2, f) i)) := good_act gz
      have hsame : actsP m row (e2, f) (i + 1) = actStep m row i (actsP m row (e2, f) i) := if_neg (by omega)
      refine ⟨by omega, ?_, ?_, rfl, by omega, ⟨⟨true, rfl, rfl, rfl, rfl, rfl, rfl, rfl, rfl⟩, ?_⟩, ?_⟩
      · rw [IntKind.wrap_u64]; omega
      · rw [wr _ (by omega), IntKind.wrap_u64]; omega
      · clear hsame gs
        unfold actStep
        generalize actsP m row (e2, f) i = z at gz ⊢
        generalize wA row i = w at *
        generalize xA m row i = x at *
        generalize yA m row i = y at *
        generalize bA row i = b at *
        generalize loA row i = lo at *
        generalize hiA row i = hi at *
        have hw : w = 0 ∨ w = 1 ∨ w = 2 ∨ w = 3 ∨ w = 4 ∨ (w ≠ 0 ∧ w ≠ 1 ∧ w ≠ 2 ∧ w ≠ 3 ∧ w ≠ 4) := by omega
        have b0 : ∀ a b : Int, a ≠ b → (a == b) = false := fun a b h => by simpa using h
        have b1 : ∀ a : Int, (a == a) = true := fun a => by simp
        rcases hw with rfl | rfl | rfl | rfl | rfl | ⟨q0, q1, q2, q3, q4⟩
        · have e : actW m 0 x y b lo hi z = metZ m x lo hi (fgZ m x z) := if_pos rfl
          simp only [b1, true_implies, Bool.true_eq_false, false_implies, and_true]
          refine ⟨gz, by omega, gz, vx, ⟨l1, l2⟩, ⟨l3, l4⟩, true, ?_⟩
          rw [e]; exact ⟨rfl, fun _ _ => rfl, rfl, rfl, rfl, fun _ _ => rfl⟩
        · have e : actW m 1 x y b lo hi z = metZ m x lo hi z := (if_neg (by omega)).trans (if_pos (by omega))
          simp only [b1, b0 1 0 (by omega), b0 1 2 (by omega), true_implies, Bool.true_eq_false, Bool.false_eq_true, false_implies, and_true, true_and]
          refine ⟨gz, by omega, gz, vx, ⟨l1, l2⟩, ⟨l3, l4⟩, true, ?_⟩
          rw [e]; exact ⟨rfl, fun _ _ => rfl, rfl, rfl, rfl, fun _ _ => rfl⟩
        · have e : actW m 2 x y b lo hi z = metZ m x lo hi z := (if_neg (by omega)).trans (if_pos (by omega))
          simp only [b1, b0 2 0 (by omega), b0 2 1 (by omega), true_implies, Bool.true_eq_false, Bool.false_eq_true, false_implies, and_true, true_and]
          refine ⟨gz, by omega, gz, vx, ⟨l1, l2⟩, ⟨l3, l4⟩, true, ?_⟩
          rw [e]; exact ⟨rfl, fun _ _ => rfl, rfl, rfl, rfl, fun _ _ => rfl⟩
        · have e : actW m 3 x y b lo hi z = copyZ m x y b z := (if_neg (by omega)).trans ((if_neg (by omega)).trans (if_pos rfl))
          simp only [b1, b0 3 0 (by omega), b0 3 1 (by omega), b0 3 2 (by omega), true_implies, Bool.true_eq_false, Bool.false_eq_true, false_implies, and_true, true_and]
          refine ⟨gz, by omega, gz, vx, ey, hb, true, ?_⟩
          rw [e]; exact ⟨rfl, fun _ _ => rfl, rfl, rfl, rfl, fun _ _ => rfl⟩
        · simp only [b1, b0 4 0 (by omega), b0 4 1 (by omega), b0 4 2 (by omega), b0 4 3 (by omega), true_implies, Bool.true_eq_false, Bool.false_eq_true, false_implies, and_true, true_and]
          refine ⟨fun hxy => ?_, fun hxy => ?_⟩
          · have e : actW m 4 x y b lo hi z = bndZ m x y b z := (if_neg (by omega)).trans ((if_neg (by omega)).trans ((if_neg (by omega)).trans ((if_pos rfl).trans (if_pos hxy))))
            refine ⟨gz, by omega, gz, ex, ey, hxy, by omega, true, ?_⟩
            rw [e]; exact ⟨rfl, fun _ _ => rfl, rfl, rfl, rfl, fun _ _ => rfl⟩
          · have e : actW m 4 x y b lo hi z = z := (if_neg (by omega)).trans ((if_neg (by omega)).trans ((if_neg (by omega)).trans ((if_pos rfl).trans (if_neg (by simpa using hxy)))))
            rw [e]; exact ⟨true, rfl, fun _ _ => rfl, rfl, rfl, rfl, fun _ _ => rfl⟩
        · have e : actW m w x y b lo hi z = z := (if_neg q0).trans ((if_neg (by omega)).trans ((if_neg q3).trans (if_neg q4)))
          simp only [b0 w 0 q0, b0 w 1 q1, b0 w 2 q2, b0 w 3 q3, b0 w 4 q4, true_implies, Bool.false_eq_true, false_implies, true_and]
          rw [e]; exact ⟨true, rfl, fun _ _ => rfl, rfl, rfl, rfl, fun _ _ => rfl⟩
      · have ae : ∀ (d : D) a b, ((D.l []).app d).el a b = d.el a b := fun d a b => by rw [D.app_el]; exact if_neg (Nat.not_lt_zero a)
        have al : ∀ d : D, ((D.l []).app d).len = d.len := fun d => by rw [D.app_len]; exact Nat.zero_add _
        refine ⟨⟨0, Nat.zero_le _, rfl⟩, fun j hj => ⟨fun h2 => ?_, fun h2 => ⟨gs, (fun h => by cases h), fun _ => ⟨i + 1, by omega, by omega, wr _ (by omega), ?_⟩⟩⟩⟩
        · rw [ae, ae, al, itD_len]
          exact ⟨by omega, by omega, (fun h => by simp at h), fun _ => ⟨j + 1, by omega, by omega, wr _ (by omega)⟩⟩
        · rw [hsame]; exact ⟨rfl, rfl, rfl, fun _ _ => rfl, rfl, fun _ _ => rfl⟩
    · have e : actsP m row (e2, f) i = actsZ m row (e2, f) := by
        by_cases hm0 : m = 0
        · subst hm0; exact (actsP_zero i).trans (actsP_zero _).symm
        · have hi2 : i = min row.len 16 := by simp only [Bool.and_eq_false_iff, decide_eq_false_iff_not] at h1; omega
          subst hi2; rfl
      rw [e]; exact ⟨rfl, rfl, rfl, fun _ _ => rfl, rfl, fun _ _ => rfl⟩
  · trivial
end Go.Proofs.Ytefdfggkhnahiaa.Sx.Z
