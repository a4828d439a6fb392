/-
  The law's copy of a tree, as great as may come in.
-/
import Derived.Test.YtbcbcambkjhhhaaMn1
namespace Go.Proofs.Ytbcbcambkjhhhaa.Sx.Z
open Go.RowKit
/-- No expression has more parts than a slice may have. -/
inductive SmallB : Xp → Prop
  | mk (k n v : Int) (kids : List Xp) : kids.length ≤ 2932031007402 → (∀ x, x ∈ kids → SmallB x) → SmallB (.mk k n v kids)
theorem smallB_ex {k n v : Int} {d : D} (h : SmallB (ex k n v d)) : d.len ≤ 2932031007402 ∧ ∀ i, i < d.len → SmallB (exE d i) := by
  cases h with
  | mk _ _ _ _ h1 h2 =>
    rw [exs_len] at h1
    exact ⟨h1, fun i hi => h2 _ (List.mem_of_getElem? (exs_get hi))⟩
noncomputable def copyBS : FSpec := fun ds _ => match ds with
  | [.i k, .i n, .i v, .d d] => some { val := .one (.agg [.c (.int .i64 (.sym (ex k n v d : Xp).k)), .c (.int .i64 (.sym (ex k n v d : Xp).n)), .c (.int .i64 (.sym (ex k n v d : Xp).v)), .c (.rows 32 (dE (ex k n v d : Xp).kids))]), vc := [SmallB (ex k n v d)] }
  | _ => none
noncomputable def copyBC : Con := con [rxpA] copyBS
noncomputable def copyBM : List Dat → Nat := fun ds => match ds with
  | [.i _k, .i _n, .i _v, .d d] => SizeOf.sizeOf d
  | _ => 0
noncomputable def copyBSu (m : Nat) : FSpec := fun ds _ => match ds with
  | [.i k, .i n, .i v, .d d] => some { val := .one (.agg [.c (.int .i64 (.sym (ex k n v d : Xp).k)), .c (.int .i64 (.sym (ex k n v d : Xp).n)), .c (.int .i64 (.sym (ex k n v d : Xp).v)), .c (.rows 32 (dE (ex k n v d : Xp).kids))]), vc := [SizeOf.sizeOf d < m, SmallB (ex k n v d)] }
  | _ => none
theorem copyB_under (m : Nat) : copyBS.under copyBM m = copyBSu m := by
  funext ds fr
  unfold FSpec.under copyBS copyBM copyBSu
  split
  · rename_i e h
    split at h
    · obtain rfl := Option.some.inj h; rfl
    · cases h
  · rename_i h
    split at h
    · cases h
    · rfl
theorem copyB_step (m : Nat) (ih : ConOK Try.prog 15 (con [rxpA] (copyBSu m))) : ConOK Try.prog 15 (con [rxpA] (copyBSu (m + 1))) := by
  refine fn_ob tt_ok mixed Try.func15 rfl (fun _ _ => by kernel_rfl) (A := fun ds => ⟨fun _ => Cons.of [(15, con [rxpA] (copyBSu m))], fun k => match k, ds with | 3, [.i k, .i n, .i v, .d d] => some { ι := Nat, pre := fun _ i => i ≤ d.len, μ := fun i => d.len + 1 - i, st := fun s i => famR s [(4, .one (.sc (.int .i64 (.sym ((i : Nat))))))] [1, 2, 3] [(idOf s 3, .own 32 ([.c (.int .i64 (.sym k)), .c (.int .i64 (.sym n)), .c (.int .i64 (.sym v)), .c (.osl 32 (s.nx - 1) (.lit 0) (.sym i))])), (s.nx - 1, .orow 32 (dE ((exs d).take i)))] [1, 2] } | _, _ => none, fun _ => none⟩) (fun _ _ => (cons_cons ih cons_nil)) (by kernel_rfl) ?_
  intro ds fr
  unfold copyBSu
  split
  · rename_i k n v d
    refine kmp (q := SizeOf.sizeOf d < m + (1 : Nat) →
 SmallB (ex k n v d) →
 (∃ (i : Nat),
 i.le d.len ∧
 (0 : Int) = (↑i : Int) ∧
 k = k ∧
 n = n ∧
 v = v ∧
 i = (0 : Nat) ∧
 List.map encE (List.take i (exs d)) = [] ∧
 k = k ∧ n = n ∧ v = v ∧ d.rows = d.rows ∧ (0 : Int) = (0 : Int) ∧ (0 : Int) = (0 : Int) ∧ (0 : Int) = (0 : Int)) ∧
 ∀ (i : Nat),
 i.le d.len →
 (decide ((↑i : Int) < (↑d.len : Int)) = true →
 ((0 : Int) ≤ (↑i : Int) ∧ (↑i : Int) < (↑d.len : Int)) ∧
 SizeOf.sizeOf (d.el (↑i : Int).toNat ((0 : Nat) + (1 : Nat) + (1 : Nat) + (1 : Nat))) < m ∧
 SmallB
 (ex (d.el (↑i : Int).toNat (0 : Nat)).toI (d.el (↑i : Int).toNat ((0 : Nat) + (1 : Nat))).toI
 (d.el (↑i : Int).toNat ((0 : Nat) + (1 : Nat) + (1 : Nat))).toI
 (d.el (↑i : Int).toNat ((0 : Nat) + (1 : Nat) + (1 : Nat) + (1 : Nat)))) ∧
 i = (dE (List.take i (exs d))).len ∧
 (i +
 ((D.l
 [[D.i
 (ex (d.el (↑i : Int).toNat (0 : Nat)).toI (d.el (↑i : Int).toNat ((0 : Nat) + (1 : Nat))).toI
 (d.el (↑i : Int).toNat ((0 : Nat) + (1 : Nat) + (1 : Nat))).toI
 (d.el (↑i : Int).toNat ((0 : Nat) + (1 : Nat) + (1 : Nat) + (1 : Nat)))).k,
 D.i
 (ex (d.el (↑i : Int).toNat (0 : Nat)).toI (d.el (↑i : Int).toNat ((0 : Nat) + (1 : Nat))).toI
 (d.el (↑i : Int).toNat ((0 : Nat) + (1 : Nat) + (1 : Nat))).toI
 (d.el (↑i : Int).toNat ((0 : Nat) + (1 : Nat) + (1 : Nat) + (1 : Nat)))).n,
 D.i
 (ex (d.el (↑i : Int).toNat (0 : Nat)).toI (d.el (↑i : Int).toNat ((0 : Nat) + (1 : Nat))).toI
 (d.el (↑i : Int).toNat ((0 : Nat) + (1 : Nat) + (1 : Nat))).toI
 (d.el (↑i : Int).toNat ((0 : Nat) + (1 : Nat) + (1 : Nat) + (1 : Nat)))).v,
 dE
 (ex (d.el (↑i : Int).toNat (0 : Nat)).toI (d.el (↑i : Int).toNat ((0 : Nat) + (1 : Nat))).toI
 (d.el (↑i : Int).toNat ((0 : Nat) + (1 : Nat) + (1 : Nat))).toI
 (d.el (↑i : Int).toNat ((0 : Nat) + (1 : Nat) + (1 : Nat) + (1 : Nat)))).kids]]).sub
 (0 : Nat) ((0 : Nat) + (1 : Nat))).len) *
 (48 : Nat) ≤
 (140737488355328 : Nat) ∧
 (0 : Nat) + (1 : Nat) ≤
 (D.l
 [[D.i
 (ex (d.el (↑i : Int).toNat (0 : Nat)).toI (d.el (↑i : Int).toNat ((0 : Nat) + (1 : Nat))).toI
 (d.el (↑i : Int).toNat ((0 : Nat) + (1 : Nat) + (1 : Nat))).toI
 (d.el (↑i : Int).toNat ((0 : Nat) + (1 : Nat) + (1 : Nat) + (1 : Nat)))).k,
 D.i
 (ex (d.el (↑i : Int).toNat (0 : Nat)).toI (d.el (↑i : Int).toNat ((0 : Nat) + (1 : Nat))).toI
 (d.el (↑i : Int).toNat ((0 : Nat) + (1 : Nat) + (1 : Nat))).toI
 (d.el (↑i : Int).toNat ((0 : Nat) + (1 : Nat) + (1 : Nat) + (1 : Nat)))).n,
 D.i
 (ex (d.el (↑i : Int).toNat (0 : Nat)).toI (d.el (↑i : Int).toNat ((0 : Nat) + (1 : Nat))).toI
 (d.el (↑i : Int).toNat ((0 : Nat) + (1 : Nat) + (1 : Nat))).toI
 (d.el (↑i : Int).toNat ((0 : Nat) + (1 : Nat) + (1 : Nat) + (1 : Nat)))).v,
 dE
 (ex (d.el (↑i : Int).toNat (0 : Nat)).toI (d.el (↑i : Int).toNat ((0 : Nat) + (1 : Nat))).toI
 (d.el (↑i : Int).toNat ((0 : Nat) + (1 : Nat) + (1 : Nat))).toI
 (d.el (↑i : Int).toNat ((0 : Nat) + (1 : Nat) + (1 : Nat) + (1 : Nat)))).kids]]).len ∧
 ∃ (j : Nat),
 j.le d.len ∧
 d.len + (1 : Nat) - j < d.len + (1 : Nat) - i ∧
 IntKind.i64.wrap ((↑i : Int) + (1 : Int)) = (↑j : Int) ∧
 k = k ∧
 n = n ∧
 v = v ∧
 i +
 ((D.l
 [[D.i
 (ex (d.el (↑i : Int).toNat (0 : Nat)).toI (d.el (↑i : Int).toNat ((0 : Nat) + (1 : Nat))).toI
 (d.el (↑i : Int).toNat ((0 : Nat) + (1 : Nat) + (1 : Nat))).toI
 (d.el (↑i : Int).toNat ((0 : Nat) + (1 : Nat) + (1 : Nat) + (1 : Nat)))).k,
 D.i
 (ex (d.el (↑i : Int).toNat (0 : Nat)).toI (d.el (↑i : Int).toNat ((0 : Nat) + (1 : Nat))).toI
 (d.el (↑i : Int).toNat ((0 : Nat) + (1 : Nat) + (1 : Nat))).toI
 (d.el (↑i : Int).toNat ((0 : Nat) + (1 : Nat) + (1 : Nat) + (1 : Nat)))).n,
 D.i
 (ex (d.el (↑i : Int).toNat (0 : Nat)).toI (d.el (↑i : Int).toNat ((0 : Nat) + (1 : Nat))).toI
 (d.el (↑i : Int).toNat ((0 : Nat) + (1 : Nat) + (1 : Nat))).toI
 (d.el (↑i : Int).toNat ((0 : Nat) + (1 : Nat) + (1 : Nat) + (1 : Nat)))).v,
 dE
 (ex (d.el (↑i : Int).toNat (0 : Nat)).toI (d.el (↑i : Int).toNat ((0 : Nat) + (1 : Nat))).toI
 (d.el (↑i : Int).toNat ((0 : Nat) + (1 : Nat) + (1 : Nat))).toI
 (d.el (↑i : Int).toNat ((0 : Nat) + (1 : Nat) + (1 : Nat) + (1 : Nat)))).kids]]).sub
 (0 : Nat) ((0 : Nat) + (1 : Nat))).len =
 j ∧
 List.map encE (List.take i (exs d)) ++
 List.drop (0 : Nat)
 (List.take ((0 : Nat) + (1 : Nat))
 [[D.i
 (ex (d.el (↑i : Int).toNat (0 : Nat)).toI (d.el (↑i : Int).toNat ((0 : Nat) + (1 : Nat))).toI
 (d.el (↑i : Int).toNat ((0 : Nat) + (1 : Nat) + (1 : Nat))).toI
 (d.el (↑i : Int).toNat ((0 : Nat) + (1 : Nat) + (1 : Nat) + (1 : Nat)))).k,
 D.i
 (ex (d.el (↑i : Int).toNat (0 : Nat)).toI (d.el (↑i : Int).toNat ((0 : Nat) + (1 : Nat))).toI
 (d.el (↑i : Int).toNat ((0 : Nat) + (1 : Nat) + (1 : Nat))).toI
 (d.el (↑i : Int).toNat ((0 : Nat) + (1 : Nat) + (1 : Nat) + (1 : Nat)))).n,
 D.i
 (ex (d.el (↑i : Int).toNat (0 : Nat)).toI (d.el (↑i : Int).toNat ((0 : Nat) + (1 : Nat))).toI
 (d.el (↑i : Int).toNat ((0 : Nat) + (1 : Nat) + (1 : Nat))).toI
 (d.el (↑i : Int).toNat ((0 : Nat) + (1 : Nat) + (1 : Nat) + (1 : Nat)))).v,
 dE
 (ex (d.el (↑i : Int).toNat (0 : Nat)).toI (d.el (↑i : Int).toNat ((0 : Nat) + (1 : Nat))).toI
 (d.el (↑i : Int).toNat ((0 : Nat) + (1 : Nat) + (1 : Nat))).toI
 (d.el (↑i : Int).toNat ((0 : Nat) + (1 : Nat) + (1 : Nat) + (1 : Nat)))).kids]]) =
 List.map encE (List.take j (exs d)) ∧
 k = k ∧ n = n ∧ v = v ∧ d.rows = d.rows ∧ (0 : Int) = (0 : Int) ∧ (0 : Int) = (0 : Int) ∧ (0 : Int) = (0 : Int)) ∧
 (decide ((↑i : Int) < (↑d.len : Int)) = false →
 nat_lit 0 + i ≤ (dE (List.take i (exs d))).len ∧
 k = (ex k n v d).k ∧
 n = (ex k n v d).n ∧
 v = (ex k n v d).v ∧
 List.drop (nat_lit 0) (List.take (nat_lit 0 + i) (List.map encE (List.take i (exs d)))) = List.map encE (ex k n v d).kids)) (by kernel_rfl) ?_
    intro hm hS
    have e0 : ∀ i, ex (d.el i 0).toI (d.el i (0 + 1)).toI (d.el i (0 + 1 + 1)).toI (d.el i (0 + 1 + 1 + 1)) = exE d i := fun i => rfl
    have enc : ∀ t : Xp, [D.i t.k, D.i t.n, D.i t.v, dE t.kids] = encE t := fun t => (encE_eq t).symm
    simp only [e0, enc]
    obtain ⟨hl, hk⟩ := smallB_ex hS
    have tl : ∀ i, i ≤ d.len → (dE ((exs d).take i)).len = i := fun i hi => by rw [dE_len, List.length_take, exs_len]; omega
    have one : ∀ t : Xp, (D.l [encE t]).len = 1 := fun _ => rfl
    have s1 : ∀ t : Xp, ((D.l [encE t]).sub 0 (0 + 1)).len = 1 := fun _ => rfl
    have st : ∀ i, i < d.len → (exs d).take (i + 1) = (exs d).take i ++ [exE d i] := fun i hi => by
      rw [List.take_add_one, exs_get hi]; rfl
    simp only [Int.toNat_natCast, one, s1]
    refine ⟨⟨0, Nat.zero_le _, rfl, trivial, trivial, trivial, rfl, rfl, trivial, trivial, trivial, trivial, trivial, trivial, trivial⟩, fun i hi => ⟨fun h => ?_, fun h => ?_⟩⟩
    · have hi' : i < d.len := by simpa using h
      refine ⟨by omega, by have := el_lt (j := 0 + 1 + 1 + 1) hi'; omega, hk i hi', (tl i (by omega)).symm, by omega, by omega, i + 1, hi', by omega, wr _ (by omega), trivial, trivial, trivial, rfl, ?_, trivial, trivial, trivial, trivial, trivial, trivial, trivial⟩
      rw [st i hi', List.map_append]; rfl
    · have hi' : ¬ i < d.len := by simpa using h
      have e : i = d.len := by have : i ≤ d.len := hi; omega
      refine ⟨by rw [tl i hi]; omega, rfl, rfl, rfl, ?_⟩
      rw [e, ← exs_len d, List.take_length]
      show ((List.map encE (exs d)).take (0 + (exs d).length)).drop 0 = List.map encE (exs d)
      rw [Nat.zero_add, List.drop_zero, List.take_of_length_le (by simp)]
  · trivial
theorem copyB_ok : ConOK Try.prog 15 copyBC :=
  con_rec copyBM (fun _ _ => by kernel_rfl) fun m ih => by
    rw [copyB_under] at ih ⊢
    exact copyB_step m ih
end Go.Proofs.Ytbcbcambkjhhhaa.Sx.Z
namespace Go.Proofs.Ytbcbcambkjhhhaa.Sx.Z
open Go.RowKit
theorem smallB_of : ∀ {e : Xp}, Small e → SmallB e
  | _, .mk k n v kids h1 h2 => .mk k n v kids (by omega) fun x hx => smallB_of (h2 x hx)
noncomputable def enonesS : FSpec := fun ds _ => match ds with
  | [.i k, .i n, .i v, .d d, .i _x] => some { val := .one (.sc (.bool (.sym (true)))), vc := [SmallB (ex k n v d)] }
  | _ => none
noncomputable def enonesC : Con := con [rxpA, iA] enonesS
theorem enones_ok : ConOK Try.prog 10 enonesC := by
  refine fn_ob tt_ok mixed Try.func10 rfl (fun _ _ => by kernel_rfl) (A := fun ds => ⟨fun _ => Cons.of [(15, copyBC), (37, linC), (50, ntopC), (51, nnoneC), (41, evalC), (42, assignC), (49, assumeC), (36, tameC), (39, reckonsC), (46, emptyC)], fun _ => none, fun _ => none⟩) (fun _ _ => (cons_cons copyB_ok (cons_cons lin_ok (cons_cons ntop_ok (cons_cons nnone_ok (cons_cons eval_ok (cons_cons assign_ok (cons_cons assume_ok (cons_cons tame_ok (cons_cons reckons_ok (cons_cons empty_ok cons_nil))))))))))) (by kernel_rfl) ?_
  intro ds fr
  unfold enonesS
  split
  · rename_i k n v d x
    refine kmp (q := SmallB (ex k n v d) →
 SmallB (ex k n v d) ∧
 NumOK (topN (2 : Int)) false (itD (topN (2 : Int)).toNat (topN (2 : Int)) (false, topF (2 : Int))) false (topF (2 : Int)) ∧
 NumOK (topN (2 : Int)) false (itD (topN (2 : Int)).toNat (topN (2 : Int)) (false, topF (2 : Int))) false (topF (2 : Int)) ∧
 NumOK (topN (2 : Int)) false (itD (topN (2 : Int)).toNat (topN (2 : Int)) (false, topF (2 : Int))) false (topF (2 : Int)) ∧
 (0 : Int) < topN (2 : Int) ∧
 ((0 : Int) ≤ (6 : Int) ∧ (6 : Int) ≤ (100 : Int)) ∧
 ((1 : Int) ≤ (2 : Int) ∧ (2 : Int) ≤ (6 : Int)) ∧
 SmallB
 (ex (tamP (2 : Int) (Int.toNat (6 : Int)) (ex k n v d)).k (tamP (2 : Int) (Int.toNat (6 : Int)) (ex k n v d)).n
 (tamP (2 : Int) (Int.toNat (6 : Int)) (ex k n v d)).v (dE (tamP (2 : Int) (Int.toNat (6 : Int)) (ex k n v d)).kids)) ∧
 (NumOK (topN (2 : Int)) true (itD (topN (2 : Int)).toNat (topN (2 : Int)) (true, fun (x : Nat) => (0 : Int))) true fun (x : Nat) =>
 (0 : Int)) ∧
 ((0 : Int) ≤ (6 : Int) ∧ (6 : Int) ≤ (100 : Int)) ∧
 ((1 : Int) ≤ (2 : Int) ∧ (2 : Int) ≤ (6 : Int)) ∧
 SmallB
 (ex (tamP (2 : Int) (Int.toNat (6 : Int)) (ex k n v d)).k (tamP (2 : Int) (Int.toNat (6 : Int)) (ex k n v d)).n
 (tamP (2 : Int) (Int.toNat (6 : Int)) (ex k n v d)).v (dE (tamP (2 : Int) (Int.toNat (6 : Int)) (ex k n v d)).kids)) ∧
 (NumOK (topN (2 : Int)) true (itD (topN (2 : Int)).toNat (topN (2 : Int)) (true, fun (x : Nat) => (0 : Int))) true fun (x : Nat) =>
 (0 : Int)) ∧
 ((0 : Int) ≤ (6 : Int) ∧ (6 : Int) ≤ (100 : Int)) ∧
 ((1 : Int) ≤ (2 : Int) ∧ (2 : Int) ≤ (6 : Int)) ∧
 SmallB
 (ex (tamP (2 : Int) (Int.toNat (6 : Int)) (ex k n v d)).k (tamP (2 : Int) (Int.toNat (6 : Int)) (ex k n v d)).n
 (tamP (2 : Int) (Int.toNat (6 : Int)) (ex k n v d)).v (dE (tamP (2 : Int) (Int.toNat (6 : Int)) (ex k n v d)).kids)) ∧
 ((0 : Int) ≤ (6 : Int) ∧ (6 : Int) ≤ (100 : Int)) ∧
 ((1 : Int) ≤ (2 : Int) ∧ (2 : Int) ≤ (6 : Int)) ∧
 SmallB
 (ex (tamP (2 : Int) (Int.toNat (6 : Int)) (ex k n v d)).k (tamP (2 : Int) (Int.toNat (6 : Int)) (ex k n v d)).n
 (tamP (2 : Int) (Int.toNat (6 : Int)) (ex k n v d)).v
 (dE (tamP (2 : Int) (Int.toNat (6 : Int)) (ex k n v d)).kids)) ∧
 (NumOK (topN (2 : Int)) true (itD (topN (2 : Int)).toNat (topN (2 : Int)) (true, fun (x : Nat) => (0 : Int))) true
 fun (x : Nat) => (0 : Int)) ∧
 (0 : Int) < topN (2 : Int) ∧
 (true &&
 decide
 ((evaP (topN (2 : Int)).toNat (topN (2 : Int)) (true, fun (x : Nat) => (0 : Int))
 (ex
 (ex (tamP (2 : Int) (Int.toNat (6 : Int)) (ex k n v d)).k
 (tamP (2 : Int) (Int.toNat (6 : Int)) (ex k n v d)).n
 (tamP (2 : Int) (Int.toNat (6 : Int)) (ex k n v d)).v
 (dE (tamP (2 : Int) (Int.toNat (6 : Int)) (ex k n v d)).kids)).k
 (ex (tamP (2 : Int) (Int.toNat (6 : Int)) (ex k n v d)).k
 (tamP (2 : Int) (Int.toNat (6 : Int)) (ex k n v d)).n
 (tamP (2 : Int) (Int.toNat (6 : Int)) (ex k n v d)).v
 (dE (tamP (2 : Int) (Int.toNat (6 : Int)) (ex k n v d)).kids)).n
 (ex (tamP (2 : Int) (Int.toNat (6 : Int)) (ex k n v d)).k
 (tamP (2 : Int) (Int.toNat (6 : Int)) (ex k n v d)).n
 (tamP (2 : Int) (Int.toNat (6 : Int)) (ex k n v d)).v
 (dE (tamP (2 : Int) (Int.toNat (6 : Int)) (ex k n v d)).kids)).v
 (dE
 (ex (tamP (2 : Int) (Int.toNat (6 : Int)) (ex k n v d)).k
 (tamP (2 : Int) (Int.toNat (6 : Int)) (ex k n v d)).n
 (tamP (2 : Int) (Int.toNat (6 : Int)) (ex k n v d)).v
 (dE (tamP (2 : Int) (Int.toNat (6 : Int)) (ex k n v d)).kids)).kids))).fst.snd <
 (evaP (topN (2 : Int)).toNat (topN (2 : Int)) (true, fun (x : Nat) => (0 : Int))
 (ex
 (ex (tamP (2 : Int) (Int.toNat (6 : Int)) (ex k n v d)).k
 (tamP (2 : Int) (Int.toNat (6 : Int)) (ex k n v d)).n
 (tamP (2 : Int) (Int.toNat (6 : Int)) (ex k n v d)).v
 (dE (tamP (2 : Int) (Int.toNat (6 : Int)) (ex k n v d)).kids)).k
 (ex (tamP (2 : Int) (Int.toNat (6 : Int)) (ex k n v d)).k
 (tamP (2 : Int) (Int.toNat (6 : Int)) (ex k n v d)).n
 (tamP (2 : Int) (Int.toNat (6 : Int)) (ex k n v d)).v
 (dE (tamP (2 : Int) (Int.toNat (6 : Int)) (ex k n v d)).kids)).n
 (ex (tamP (2 : Int) (Int.toNat (6 : Int)) (ex k n v d)).k
 (tamP (2 : Int) (Int.toNat (6 : Int)) (ex k n v d)).n
 (tamP (2 : Int) (Int.toNat (6 : Int)) (ex k n v d)).v
 (dE (tamP (2 : Int) (Int.toNat (6 : Int)) (ex k n v d)).kids)).v
 (dE
 (ex (tamP (2 : Int) (Int.toNat (6 : Int)) (ex k n v d)).k
 (tamP (2 : Int) (Int.toNat (6 : Int)) (ex k n v d)).n
 (tamP (2 : Int) (Int.toNat (6 : Int)) (ex k n v d)).v
 (dE (tamP (2 : Int) (Int.toNat (6 : Int)) (ex k n v d)).kids)).kids))).fst.fst) &&
 (asgZ (topN (2 : Int)) (0 : Int)
 (ex
 (ex (tamP (2 : Int) (Int.toNat (6 : Int)) (ex k n v d)).k
 (tamP (2 : Int) (Int.toNat (6 : Int)) (ex k n v d)).n
 (tamP (2 : Int) (Int.toNat (6 : Int)) (ex k n v d)).v
 (dE (tamP (2 : Int) (Int.toNat (6 : Int)) (ex k n v d)).kids)).k
 (ex (tamP (2 : Int) (Int.toNat (6 : Int)) (ex k n v d)).k
 (tamP (2 : Int) (Int.toNat (6 : Int)) (ex k n v d)).n
 (tamP (2 : Int) (Int.toNat (6 : Int)) (ex k n v d)).v
 (dE (tamP (2 : Int) (Int.toNat (6 : Int)) (ex k n v d)).kids)).n
 (ex (tamP (2 : Int) (Int.toNat (6 : Int)) (ex k n v d)).k
 (tamP (2 : Int) (Int.toNat (6 : Int)) (ex k n v d)).n
 (tamP (2 : Int) (Int.toNat (6 : Int)) (ex k n v d)).v
 (dE (tamP (2 : Int) (Int.toNat (6 : Int)) (ex k n v d)).kids)).v
 (dE
 (ex (tamP (2 : Int) (Int.toNat (6 : Int)) (ex k n v d)).k
 (tamP (2 : Int) (Int.toNat (6 : Int)) (ex k n v d)).n
 (tamP (2 : Int) (Int.toNat (6 : Int)) (ex k n v d)).v
 (dE (tamP (2 : Int) (Int.toNat (6 : Int)) (ex k n v d)).kids)).kids))
 (true, fun (x : Nat) => (0 : Int))).fst &&
 (asmZ (topN (2 : Int)) (1 : Int)
 (ex
 (ex (tamP (2 : Int) (Int.toNat (6 : Int)) (ex k n v d)).k
 (tamP (2 : Int) (Int.toNat (6 : Int)) (ex k n v d)).n
 (tamP (2 : Int) (Int.toNat (6 : Int)) (ex k n v d)).v
 (dE (tamP (2 : Int) (Int.toNat (6 : Int)) (ex k n v d)).kids)).k
 (ex (tamP (2 : Int) (Int.toNat (6 : Int)) (ex k n v d)).k
 (tamP (2 : Int) (Int.toNat (6 : Int)) (ex k n v d)).n
 (tamP (2 : Int) (Int.toNat (6 : Int)) (ex k n v d)).v
 (dE (tamP (2 : Int) (Int.toNat (6 : Int)) (ex k n v d)).kids)).n
 (ex (tamP (2 : Int) (Int.toNat (6 : Int)) (ex k n v d)).k
 (tamP (2 : Int) (Int.toNat (6 : Int)) (ex k n v d)).n
 (tamP (2 : Int) (Int.toNat (6 : Int)) (ex k n v d)).v
 (dE (tamP (2 : Int) (Int.toNat (6 : Int)) (ex k n v d)).kids)).v
 (dE
 (ex (tamP (2 : Int) (Int.toNat (6 : Int)) (ex k n v d)).k
 (tamP (2 : Int) (Int.toNat (6 : Int)) (ex k n v d)).n
 (tamP (2 : Int) (Int.toNat (6 : Int)) (ex k n v d)).v
 (dE (tamP (2 : Int) (Int.toNat (6 : Int)) (ex k n v d)).kids)).kids))
 (ex
 (ex (tamP (2 : Int) (Int.toNat (6 : Int)) (ex k n v d)).k
 (tamP (2 : Int) (Int.toNat (6 : Int)) (ex k n v d)).n
 (tamP (2 : Int) (Int.toNat (6 : Int)) (ex k n v d)).v
 (dE (tamP (2 : Int) (Int.toNat (6 : Int)) (ex k n v d)).kids)).k
 (ex (tamP (2 : Int) (Int.toNat (6 : Int)) (ex k n v d)).k
 (tamP (2 : Int) (Int.toNat (6 : Int)) (ex k n v d)).n
 (tamP (2 : Int) (Int.toNat (6 : Int)) (ex k n v d)).v
 (dE (tamP (2 : Int) (Int.toNat (6 : Int)) (ex k n v d)).kids)).n
 (ex (tamP (2 : Int) (Int.toNat (6 : Int)) (ex k n v d)).k
 (tamP (2 : Int) (Int.toNat (6 : Int)) (ex k n v d)).n
 (tamP (2 : Int) (Int.toNat (6 : Int)) (ex k n v d)).v
 (dE (tamP (2 : Int) (Int.toNat (6 : Int)) (ex k n v d)).kids)).v
 (dE
 (ex (tamP (2 : Int) (Int.toNat (6 : Int)) (ex k n v d)).k
 (tamP (2 : Int) (Int.toNat (6 : Int)) (ex k n v d)).n
 (tamP (2 : Int) (Int.toNat (6 : Int)) (ex k n v d)).v
 (dE (tamP (2 : Int) (Int.toNat (6 : Int)) (ex k n v d)).kids)).kids))
 (true, fun (x : Nat) => (0 : Int))).fst.fst &&
 ((evaP (topN (2 : Int)).toNat (topN (2 : Int)) (true, fun (x : Nat) => (0 : Int))
 (ex
 (ex (tamP (2 : Int) (Int.toNat (6 : Int)) (ex k n v d)).k
 (tamP (2 : Int) (Int.toNat (6 : Int)) (ex k n v d)).n
 (tamP (2 : Int) (Int.toNat (6 : Int)) (ex k n v d)).v
 (dE (tamP (2 : Int) (Int.toNat (6 : Int)) (ex k n v d)).kids)).k
 (ex (tamP (2 : Int) (Int.toNat (6 : Int)) (ex k n v d)).k
 (tamP (2 : Int) (Int.toNat (6 : Int)) (ex k n v d)).n
 (tamP (2 : Int) (Int.toNat (6 : Int)) (ex k n v d)).v
 (dE (tamP (2 : Int) (Int.toNat (6 : Int)) (ex k n v d)).kids)).n
 (ex (tamP (2 : Int) (Int.toNat (6 : Int)) (ex k n v d)).k
 (tamP (2 : Int) (Int.toNat (6 : Int)) (ex k n v d)).n
 (tamP (2 : Int) (Int.toNat (6 : Int)) (ex k n v d)).v
 (dE (tamP (2 : Int) (Int.toNat (6 : Int)) (ex k n v d)).kids)).v
 (dE
 (ex (tamP (2 : Int) (Int.toNat (6 : Int)) (ex k n v d)).k
 (tamP (2 : Int) (Int.toNat (6 : Int)) (ex k n v d)).n
 (tamP (2 : Int) (Int.toNat (6 : Int)) (ex k n v d)).v
 (dE (tamP (2 : Int) (Int.toNat (6 : Int)) (ex k n v d)).kids)).kids))).snd.fst ==
 false &&
 ((evaP (topN (2 : Int)).toNat (topN (2 : Int)) (true, fun (x : Nat) => (0 : Int))
 (ex
 (ex (tamP (2 : Int) (Int.toNat (6 : Int)) (ex k n v d)).k
 (tamP (2 : Int) (Int.toNat (6 : Int)) (ex k n v d)).n
 (tamP (2 : Int) (Int.toNat (6 : Int)) (ex k n v d)).v
 (dE (tamP (2 : Int) (Int.toNat (6 : Int)) (ex k n v d)).kids)).k
 (ex (tamP (2 : Int) (Int.toNat (6 : Int)) (ex k n v d)).k
 (tamP (2 : Int) (Int.toNat (6 : Int)) (ex k n v d)).n
 (tamP (2 : Int) (Int.toNat (6 : Int)) (ex k n v d)).v
 (dE (tamP (2 : Int) (Int.toNat (6 : Int)) (ex k n v d)).kids)).n
 (ex (tamP (2 : Int) (Int.toNat (6 : Int)) (ex k n v d)).k
 (tamP (2 : Int) (Int.toNat (6 : Int)) (ex k n v d)).n
 (tamP (2 : Int) (Int.toNat (6 : Int)) (ex k n v d)).v
 (dE (tamP (2 : Int) (Int.toNat (6 : Int)) (ex k n v d)).kids)).v
 (dE
 (ex (tamP (2 : Int) (Int.toNat (6 : Int)) (ex k n v d)).k
 (tamP (2 : Int) (Int.toNat (6 : Int)) (ex k n v d)).n
 (tamP (2 : Int) (Int.toNat (6 : Int)) (ex k n v d)).v
 (dE (tamP (2 : Int) (Int.toNat (6 : Int)) (ex k n v d)).kids)).kids))).snd.snd ==
 false &&
 true)) &&
 ((evaP (topN (2 : Int)).toNat (topN (2 : Int)) (true, fun (x : Nat) => (0 : Int))
 (ex
 (ex (tamP (2 : Int) (Int.toNat (6 : Int)) (ex k n v d)).k
 (tamP (2 : Int) (Int.toNat (6 : Int)) (ex k n v d)).n
 (tamP (2 : Int) (Int.toNat (6 : Int)) (ex k n v d)).v
 (dE (tamP (2 : Int) (Int.toNat (6 : Int)) (ex k n v d)).kids)).k
 (ex (tamP (2 : Int) (Int.toNat (6 : Int)) (ex k n v d)).k
 (tamP (2 : Int) (Int.toNat (6 : Int)) (ex k n v d)).n
 (tamP (2 : Int) (Int.toNat (6 : Int)) (ex k n v d)).v
 (dE (tamP (2 : Int) (Int.toNat (6 : Int)) (ex k n v d)).kids)).n
 (ex (tamP (2 : Int) (Int.toNat (6 : Int)) (ex k n v d)).k
 (tamP (2 : Int) (Int.toNat (6 : Int)) (ex k n v d)).n
 (tamP (2 : Int) (Int.toNat (6 : Int)) (ex k n v d)).v
 (dE (tamP (2 : Int) (Int.toNat (6 : Int)) (ex k n v d)).kids)).v
 (dE
 (ex (tamP (2 : Int) (Int.toNat (6 : Int)) (ex k n v d)).k
 (tamP (2 : Int) (Int.toNat (6 : Int)) (ex k n v d)).n
 (tamP (2 : Int) (Int.toNat (6 : Int)) (ex k n v d)).v
 (dE (tamP (2 : Int) (Int.toNat (6 : Int)) (ex k n v d)).kids)).kids))).snd.fst ==
 false &&
 ((evaP (topN (2 : Int)).toNat (topN (2 : Int)) (true, fun (x : Nat) => (0 : Int))
 (ex
 (ex (tamP (2 : Int) (Int.toNat (6 : Int)) (ex k n v d)).k
 (tamP (2 : Int) (Int.toNat (6 : Int)) (ex k n v d)).n
 (tamP (2 : Int) (Int.toNat (6 : Int)) (ex k n v d)).v
 (dE (tamP (2 : Int) (Int.toNat (6 : Int)) (ex k n v d)).kids)).k
 (ex (tamP (2 : Int) (Int.toNat (6 : Int)) (ex k n v d)).k
 (tamP (2 : Int) (Int.toNat (6 : Int)) (ex k n v d)).n
 (tamP (2 : Int) (Int.toNat (6 : Int)) (ex k n v d)).v
 (dE (tamP (2 : Int) (Int.toNat (6 : Int)) (ex k n v d)).kids)).n
 (ex (tamP (2 : Int) (Int.toNat (6 : Int)) (ex k n v d)).k
 (tamP (2 : Int) (Int.toNat (6 : Int)) (ex k n v d)).n
 (tamP (2 : Int) (Int.toNat (6 : Int)) (ex k n v d)).v
 (dE (tamP (2 : Int) (Int.toNat (6 : Int)) (ex k n v d)).kids)).v
 (dE
 (ex (tamP (2 : Int) (Int.toNat (6 : Int)) (ex k n v d)).k
 (tamP (2 : Int) (Int.toNat (6 : Int)) (ex k n v d)).n
 (tamP (2 : Int) (Int.toNat (6 : Int)) (ex k n v d)).v
 (dE (tamP (2 : Int) (Int.toNat (6 : Int)) (ex k n v d)).kids)).kids))).snd.snd ==
 false &&
 true)) &&
 ((asmZ (topN (2 : Int)) (1 : Int)
 (ex
 (ex (tamP (2 : Int) (Int.toNat (6 : Int)) (ex k n v d)).k
 (tamP (2 : Int) (Int.toNat (6 : Int)) (ex k n v d)).n
 (tamP (2 : Int) (Int.toNat (6 : Int)) (ex k n v d)).v
 (dE (tamP (2 : Int) (Int.toNat (6 : Int)) (ex k n v d)).kids)).k
 (ex (tamP (2 : Int) (Int.toNat (6 : Int)) (ex k n v d)).k
 (tamP (2 : Int) (Int.toNat (6 : Int)) (ex k n v d)).n
 (tamP (2 : Int) (Int.toNat (6 : Int)) (ex k n v d)).v
 (dE (tamP (2 : Int) (Int.toNat (6 : Int)) (ex k n v d)).kids)).n
 (ex (tamP (2 : Int) (Int.toNat (6 : Int)) (ex k n v d)).k
 (tamP (2 : Int) (Int.toNat (6 : Int)) (ex k n v d)).n
 (tamP (2 : Int) (Int.toNat (6 : Int)) (ex k n v d)).v
 (dE (tamP (2 : Int) (Int.toNat (6 : Int)) (ex k n v d)).kids)).v
 (dE
 (ex (tamP (2 : Int) (Int.toNat (6 : Int)) (ex k n v d)).k
 (tamP (2 : Int) (Int.toNat (6 : Int)) (ex k n v d)).n
 (tamP (2 : Int) (Int.toNat (6 : Int)) (ex k n v d)).v
 (dE (tamP (2 : Int) (Int.toNat (6 : Int)) (ex k n v d)).kids)).kids))
 (ex
 (ex (tamP (2 : Int) (Int.toNat (6 : Int)) (ex k n v d)).k
 (tamP (2 : Int) (Int.toNat (6 : Int)) (ex k n v d)).n
 (tamP (2 : Int) (Int.toNat (6 : Int)) (ex k n v d)).v
 (dE (tamP (2 : Int) (Int.toNat (6 : Int)) (ex k n v d)).kids)).k
 (ex (tamP (2 : Int) (Int.toNat (6 : Int)) (ex k n v d)).k
 (tamP (2 : Int) (Int.toNat (6 : Int)) (ex k n v d)).n
 (tamP (2 : Int) (Int.toNat (6 : Int)) (ex k n v d)).v
 (dE (tamP (2 : Int) (Int.toNat (6 : Int)) (ex k n v d)).kids)).n
 (ex (tamP (2 : Int) (Int.toNat (6 : Int)) (ex k n v d)).k
 (tamP (2 : Int) (Int.toNat (6 : Int)) (ex k n v d)).n
 (tamP (2 : Int) (Int.toNat (6 : Int)) (ex k n v d)).v
 (dE (tamP (2 : Int) (Int.toNat (6 : Int)) (ex k n v d)).kids)).v
 (dE
 (ex (tamP (2 : Int) (Int.toNat (6 : Int)) (ex k n v d)).k
 (tamP (2 : Int) (Int.toNat (6 : Int)) (ex k n v d)).n
 (tamP (2 : Int) (Int.toNat (6 : Int)) (ex k n v d)).v
 (dE (tamP (2 : Int) (Int.toNat (6 : Int)) (ex k n v d)).kids)).kids))
 (true, fun (x : Nat) => (0 : Int))).snd.fst ==
 false &&
 ((asmZ (topN (2 : Int)) (1 : Int)
 (ex
 (ex (tamP (2 : Int) (Int.toNat (6 : Int)) (ex k n v d)).k
 (tamP (2 : Int) (Int.toNat (6 : Int)) (ex k n v d)).n
 (tamP (2 : Int) (Int.toNat (6 : Int)) (ex k n v d)).v
 (dE (tamP (2 : Int) (Int.toNat (6 : Int)) (ex k n v d)).kids)).k
 (ex (tamP (2 : Int) (Int.toNat (6 : Int)) (ex k n v d)).k
 (tamP (2 : Int) (Int.toNat (6 : Int)) (ex k n v d)).n
 (tamP (2 : Int) (Int.toNat (6 : Int)) (ex k n v d)).v
 (dE (tamP (2 : Int) (Int.toNat (6 : Int)) (ex k n v d)).kids)).n
 (ex (tamP (2 : Int) (Int.toNat (6 : Int)) (ex k n v d)).k
 (tamP (2 : Int) (Int.toNat (6 : Int)) (ex k n v d)).n
 (tamP (2 : Int) (Int.toNat (6 : Int)) (ex k n v d)).v
 (dE (tamP (2 : Int) (Int.toNat (6 : Int)) (ex k n v d)).kids)).v
 (dE
 (ex (tamP (2 : Int) (Int.toNat (6 : Int)) (ex k n v d)).k
 (tamP (2 : Int) (Int.toNat (6 : Int)) (ex k n v d)).n
 (tamP (2 : Int) (Int.toNat (6 : Int)) (ex k n v d)).v
 (dE (tamP (2 : Int) (Int.toNat (6 : Int)) (ex k n v d)).kids)).kids))
 (ex
 (ex (tamP (2 : Int) (Int.toNat (6 : Int)) (ex k n v d)).k
 (tamP (2 : Int) (Int.toNat (6 : Int)) (ex k n v d)).n
 (tamP (2 : Int) (Int.toNat (6 : Int)) (ex k n v d)).v
 (dE (tamP (2 : Int) (Int.toNat (6 : Int)) (ex k n v d)).kids)).k
 (ex (tamP (2 : Int) (Int.toNat (6 : Int)) (ex k n v d)).k
 (tamP (2 : Int) (Int.toNat (6 : Int)) (ex k n v d)).n
 (tamP (2 : Int) (Int.toNat (6 : Int)) (ex k n v d)).v
 (dE (tamP (2 : Int) (Int.toNat (6 : Int)) (ex k n v d)).kids)).n
 (ex (tamP (2 : Int) (Int.toNat (6 : Int)) (ex k n v d)).k
 (tamP (2 : Int) (Int.toNat (6 : Int)) (ex k n v d)).n
 (tamP (2 : Int) (Int.toNat (6 : Int)) (ex k n v d)).v
 (dE (tamP (2 : Int) (Int.toNat (6 : Int)) (ex k n v d)).kids)).v
 (dE
 (ex (tamP (2 : Int) (Int.toNat (6 : Int)) (ex k n v d)).k
 (tamP (2 : Int) (Int.toNat (6 : Int)) (ex k n v d)).n
 (tamP (2 : Int) (Int.toNat (6 : Int)) (ex k n v d)).v
 (dE (tamP (2 : Int) (Int.toNat (6 : Int)) (ex k n v d)).kids)).kids))
 (true, fun (x : Nat) => (0 : Int))).snd.snd ==
 false &&
 true))) =
 true) (by kernel_rfl) ?_
    intro hS
    have e2 : topN 2 = 2 := rfl
    simp only [ex_of, e2]
    have n1 : NumOK 2 false (itD (2 : Int).toNat 2 (false, topF 2)) false (topF 2) := numOK_of (z := (false, topF 2)) (good_top 2)
    have n2 : NumOK 2 true (itD (2 : Int).toNat 2 (true, fun _ => 0)) true (fun _ => 0) := numOK_of (z := (true, fun _ => 0)) (good_none (by omega) true)
    have hT : SmallB (tamP 2 (Int.toNat 6) (ex k n v d)) := smallB_of (tm_small (tam_tm (by omega) _ _))
    have p1 : ∀ X : Xp, evaP (Int.toNat 2) 2 (true, fun _ => 0) X = noE := fun X => if_pos rfl
    have p2 : ∀ X : Xp, asmZ 2 1 X X (true, fun _ => 0) = ((true, fun _ => 0), (false, false)) := fun X => if_pos rfl
    have p3 : ∀ X : Xp, (asgZ 2 0 X (true, fun _ => 0)).1 = true := fun X => by
      unfold asgZ asgR
      rw [p1, if_pos (by decide)]
    simp only [p1, p2, p3]
    (repeat' apply And.intro) <;> first | exact hS | exact n1 | exact n2 | exact hT | omega | rfl
  · trivial
end Go.Proofs.Ytbcbcambkjhhhaa.Sx.Z
