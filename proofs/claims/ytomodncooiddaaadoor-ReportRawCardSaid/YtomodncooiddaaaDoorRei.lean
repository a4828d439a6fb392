/-
  All results, whatever they are.
-/
import Derived.Test.YtomodncooiddaaaDoorReh
namespace Go.Proofs.YtomodncooiddaaaDoor.Sx
def cellIdR (s : St) (t j : Nat) : Nat := match look s.hp (idOf s t) with | some (.own _ l) => (match l[j]? with | some (.c (.osl _ id _ _)) => id | _ => 0) | _ => 0
end Go.Proofs.YtomodncooiddaaaDoor.Sx
namespace Go.Proofs.YtomodncooiddaaaDoor.Sx.Z
open Go.RowKit
def ivR (d : D) (i : Nat) : List D := [.i (d.el i 0).toI, .i (d.el i 1).toI]
def m9 (d : D) : Nat := if d.len ≤ 9 then d.len else 9
def itsR (d : D) : Prop := ∀ i, i < d.len → nI (d.el i 0).toI ∧ nI (d.el i 1).toI
def alsR (d : D) : Prop := ∀ i, i < d.len → nI (d.el i 0).toI ∧ nI (d.el i 1).toI ∧ nI (d.el i 2).toI
theorem m9_le (d : D) : m9 d ≤ d.len ∧ m9 d ≤ 9 := by
  unfold m9
  split <;> omega
theorem m9_lt {d : D} {i : Nat} (h : (decide ((i : Int) < (d.len : Int)) && decide ((i : Int) < 9)) = true) : i < m9 d := by
  simp only [Bool.and_eq_true, decide_eq_true_eq] at h
  unfold m9
  split <;> omega
theorem m9_eq {d : D} {i : Nat} (hi : i ≤ m9 d) (h : (decide ((i : Int) < (d.len : Int)) && decide ((i : Int) < 9)) = false) : i = m9 d := by
  simp only [Bool.and_eq_false_iff, decide_eq_false_iff_not] at h
  unfold m9 at hi ⊢
  split at hi <;> split <;> omega
theorem its_nil : itsOK (D.l []) := ⟨Nat.zero_le _, fun _ h => by cases h⟩
theorem its_cp {d : D} (h : itsR d) {m : Nat} (hm : m ≤ d.len ∧ m ≤ 9) : itsOK ((cpT m (ivR d)).sub 0 m) := by
  have hl : ((cpT m (ivR d)).sub 0 m).len = m := by rw [D.sub_len _ (by rw [cpT_len]; exact Nat.le_refl _)]; omega
  refine ⟨by omega, fun i hi => ?_⟩
  rw [hl] at hi
  rw [D.sub_el _ (by omega), D.sub_el _ (by omega), Nat.zero_add, cpT_el hi, cpT_el hi]
  exact h i (by omega)
theorem te_raw {st : Int} {x y al : D} {b : Bool} {r : List D} {r1 : List D} {k : Nat} (hs : nI st) (hx : itsOK x) (hy : itsOK y) (ha : alsR al) (hk : k ≤ al.len ∧ k ≤ 9) :
    teOK st ((D.l [[(D.l [D.b b :: x :: r, D.b false :: D.l [] :: r1]).sub 0 2], [(D.l []).sub 0 0]]).sub 0 2) ((D.l [[D.i 0, D.i 2, y], [D.i 0, D.i 0, D.l []]]).sub 0 2) (al.sub 0 k) := by
  have z : ∀ x : Int, x = 0 ∨ x = 2 → nI x := fun x h => ⟨by omega, by omega⟩
  have hl : (al.sub 0 k).len = k := by rw [D.sub_len _ hk.1]; omega
  refine ⟨hs, (show 2 ≤ 1000 by decide), fun p hp => ?_, (show 2 ≤ 1000 by decide), fun c hc => ?_, by omega, fun i hi => ?_⟩
  · have hp : p < 2 := hp
    have : p = 0 ∨ p = 1 := by omega
    rcases this with rfl | rfl
    · refine ⟨(show 2 ≤ 1000 by decide), fun n hn => ?_⟩
      have hn : n < 2 := hn
      have : n = 0 ∨ n = 1 := by omega
      rcases this with rfl | rfl
      · exact hx
      · exact its_nil
    · exact ⟨(show 0 ≤ 1000 by decide), fun n hn => absurd (show n < 0 from hn) (Nat.not_lt_zero n)⟩
  · have hc : c < 2 := hc
    have : c = 0 ∨ c = 1 := by omega
    rcases this with rfl | rfl
    · exact ⟨z _ (.inl rfl), z _ (.inr rfl), hy⟩
    · exact ⟨z _ (.inl rfl), z _ (.inl rfl), its_nil⟩
  · rw [hl] at hi
    rw [D.sub_el _ (by omega), D.sub_el _ (by omega), D.sub_el _ (by omega), Nat.zero_add]
    exact ha i (by omega)
noncomputable def rrawS : FSpec := fun ds _ => match ds with
  | [.i st, .d nd, .b nv, .d ed, .d al] => some { val := .one (.sc (.bool (.lit true))), vc := [nI st, itsR nd, itsR ed, alsR al] }
  | _ => none
noncomputable def rrawC : Con := con [.agg [.c (.int .i64), .c (.rows 70), .c .bool, .c (.rows 70), .c (.rows 72)]] rrawS
theorem rraw_ok : ConOK Tryd.prog 7 rrawC := by
  refine fn_ob tt_ok mixed Tryd.func7 rfl (fun _ _ => by kernel_rfl) (A := fun ds => ⟨fun _ => Cons.of [(14, sysC), (19, iofC), (20, txtC), (21, rtxC)], fun k => match k, ds with | 3, [.i st, .d nd, .b nv, .d ed, .d al] => some { ι := Nat, pre := fun _ i => i ≤ m9 nd ∧ True, μ := fun i => 10 - i, st := fun s i => famR s [(4, .one (.sc (.int .i64 (.sym ((i : Nat))))))] [1, 2, 3] [(idOf s 3, .own 93 ([.c (.bool (.sym nv)), .c (.osl 75 (s.nx - 1) (.lit 0) (.sym (i))), .c (.int .i64 (.lit 0)), .c (.bool (.lit false)), .ints .i64 (.lit 49) (fun _ => 0), .c .nils, .c .nils])), (s.nx - 1, .orow 75 (cpT i (ivR nd)))] [1] } | 8, [.i st, .d nd, .b nv, .d ed, .d al] => some { ι := Nat, pre := fun _ i => i ≤ m9 ed ∧ True, μ := fun i => 10 - i, st := fun s i => famR s [(6, .one (.sc (.int .i64 (.sym ((i : Nat))))))] [1, 2, 3, 5] [(idOf s 5, .own 96 ([.c (.int .i64 (.sym 0)), .c (.int .i64 (.sym 2)), .c (.osl 75 (s.nx - 1) (.lit 0) (.sym (i)))])), (s.nx - 1, .orow 75 (cpT i (ivR ed))), (idOf s 3, .own 93 ([.c (.bool (.sym nv)), .c (.osl 75 (cellIdR s 3 1) (.lit 0) (.sym (m9 nd))), .c (.int .i64 (.lit 0)), .c (.bool (.lit false)), .ints .i64 (.lit 49) (fun _ => 0), .c .nils, .c .nils])), (cellIdR s 3 1, .orow 75 (cpT (m9 nd) (ivR nd)))] [1] } | _, _ => none, fun _ => none⟩) (fun _ _ => (cons_cons sys_ok (cons_cons iof_ok (cons_cons txt_ok (cons_cons rtx_ok cons_nil))))) (by kernel_rfl) ?_
  intro ds fr
  unfold rrawS
  split
  · rename_i st nd nv ed al
    refine kmp (q := nI st →
 itsR nd →
 itsR ed →
 alsR al →
 (∃ (i : Nat),
 (i ≤ m9 nd ∧ True) ∧
 (0 : Int) = (↑i : Int) ∧
 false = false ∧
 nv = nv ∧
 i = (0 : Nat) ∧
 (0 : Int) = (0 : Int) ∧
 false = false ∧
 (∀ (o : Nat), o < (49 : Nat) → (0 : Int) = (0 : Int)) ∧
 List.map (ivR nd) (List.range i) = [] ∧ st = st ∧ nd.rows = nd.rows ∧ nv = nv ∧ ed.rows = ed.rows ∧ al.rows = al.rows) ∧
 ∀ (i : Nat),
 i ≤ m9 nd ∧ True →
 ((decide ((↑i : Int) < (↑nd.len : Int)) && decide ((↑i : Int) < (9 : Int))) = true →
 ((0 : Int) ≤ (↑i : Int) ∧ (↑i : Int) < (↑nd.len : Int)) ∧
 ((0 : Int) ≤ (↑i : Int) ∧ (↑i : Int) < (↑nd.len : Int)) ∧
 i = (cpT i (ivR nd)).len ∧
 (i +
 ((D.l
 [[D.i (nd.el (↑i : Int).toNat ((0 : Nat) + (0 : Nat))).toI,
 D.i (nd.el (↑i : Int).toNat ((0 : Nat) + (1 : Nat))).toI]]).sub
 (0 : Nat) ((0 : Nat) + (1 : Nat))).len) *
 (16 : Nat) ≤
 (140737488355328 : Nat) ∧
 (0 : Nat) + (1 : Nat) ≤
 (D.l [[D.i (nd.el (↑i : Int).toNat ((0 : Nat) + (0 : Nat))).toI, D.i (nd.el (↑i : Int).toNat ((0 : Nat) + (1 : Nat))).toI]]).len ∧
 ∃ (j : Nat),
 (j ≤ m9 nd ∧ True) ∧
 (10 : Nat) - j < (10 : Nat) - i ∧
 IntKind.i64.wrap ((↑i : Int) + (1 : Int)) = (↑j : Int) ∧
 false = false ∧
 nv = nv ∧
 i +
 ((D.l
 [[D.i (nd.el (↑i : Int).toNat ((0 : Nat) + (0 : Nat))).toI,
 D.i (nd.el (↑i : Int).toNat ((0 : Nat) + (1 : Nat))).toI]]).sub
 (0 : Nat) ((0 : Nat) + (1 : Nat))).len =
 j ∧
 (0 : Int) = (0 : Int) ∧
 false = false ∧
 (∀ (o : Nat), o < (49 : Nat) → (0 : Int) = (0 : Int)) ∧
 List.map (ivR nd) (List.range i) ++
 List.drop (0 : Nat)
 (List.take ((0 : Nat) + (1 : Nat))
 [[D.i (nd.el (↑i : Int).toNat ((0 : Nat) + (0 : Nat))).toI,
 D.i (nd.el (↑i : Int).toNat ((0 : Nat) + (1 : Nat))).toI]]) =
 List.map (ivR nd) (List.range j) ∧
 st = st ∧ nd.rows = nd.rows ∧ nv = nv ∧ ed.rows = ed.rows ∧ al.rows = al.rows) ∧
 ((decide ((↑i : Int) < (↑nd.len : Int)) && decide ((↑i : Int) < (9 : Int))) = false →
 (∃ (i_1 : Nat),
 (i_1 ≤ m9 ed ∧ True) ∧
 (0 : Int) = (↑i_1 : Int) ∧
 false = false ∧
 oLo (0 : Int) (2 : Int) = (0 : Int) ∧
 oHi (0 : Int) (2 : Int) = (2 : Int) ∧
 i_1 = (0 : Nat) ∧
 List.map (ivR ed) (List.range i_1) = [] ∧
 nv = nv ∧
 i = m9 nd ∧
 (0 : Int) = (0 : Int) ∧
 false = false ∧
 (∀ (o : Nat), o < (49 : Nat) → (0 : Int) = (0 : Int)) ∧
 List.map (ivR nd) (List.range i) = List.map (ivR nd) (List.range (m9 nd)) ∧
 st = st ∧ nd.rows = nd.rows ∧ nv = nv ∧ ed.rows = ed.rows ∧ al.rows = al.rows) ∧
 ∀ (i : Nat),
 i ≤ m9 ed ∧ True →
 ((decide ((↑i : Int) < (↑ed.len : Int)) && decide ((↑i : Int) < (9 : Int))) = true →
 ((0 : Int) ≤ (↑i : Int) ∧ (↑i : Int) < (↑ed.len : Int)) ∧
 ((0 : Int) ≤ (↑i : Int) ∧ (↑i : Int) < (↑ed.len : Int)) ∧
 i = (cpT i (ivR ed)).len ∧
 (i +
 ((D.l
 [[D.i (ed.el (↑i : Int).toNat ((0 : Nat) + (0 : Nat))).toI,
 D.i (ed.el (↑i : Int).toNat ((0 : Nat) + (1 : Nat))).toI]]).sub
 (0 : Nat) ((0 : Nat) + (1 : Nat))).len) *
 (16 : Nat) ≤
 (140737488355328 : Nat) ∧
 (0 : Nat) + (1 : Nat) ≤
 (D.l
 [[D.i (ed.el (↑i : Int).toNat ((0 : Nat) + (0 : Nat))).toI,
 D.i (ed.el (↑i : Int).toNat ((0 : Nat) + (1 : Nat))).toI]]).len ∧
 ∃ (j : Nat),
 (j ≤ m9 ed ∧ True) ∧
 (10 : Nat) - j < (10 : Nat) - i ∧
 IntKind.i64.wrap ((↑i : Int) + (1 : Int)) = (↑j : Int) ∧
 false = false ∧
 (0 : Int) = (0 : Int) ∧
 (2 : Int) = (2 : Int) ∧
 i +
 ((D.l
 [[D.i (ed.el (↑i : Int).toNat ((0 : Nat) + (0 : Nat))).toI,
 D.i (ed.el (↑i : Int).toNat ((0 : Nat) + (1 : Nat))).toI]]).sub
 (0 : Nat) ((0 : Nat) + (1 : Nat))).len =
 j ∧
 List.map (ivR ed) (List.range i) ++
 List.drop (0 : Nat)
 (List.take ((0 : Nat) + (1 : Nat))
 [[D.i (ed.el (↑i : Int).toNat ((0 : Nat) + (0 : Nat))).toI,
 D.i (ed.el (↑i : Int).toNat ((0 : Nat) + (1 : Nat))).toI]]) =
 List.map (ivR ed) (List.range j) ∧
 nv = nv ∧
 m9 nd = m9 nd ∧
 (0 : Int) = (0 : Int) ∧
 false = false ∧
 (∀ (o : Nat), o < (49 : Nat) → (0 : Int) = (0 : Int)) ∧
 List.map (ivR nd) (List.range (m9 nd)) = List.map (ivR nd) (List.range (m9 nd)) ∧
 st = st ∧ nd.rows = nd.rows ∧ nv = nv ∧ ed.rows = ed.rows ∧ al.rows = al.rows) ∧
 ((decide ((↑i : Int) < (↑ed.len : Int)) && decide ((↑i : Int) < (9 : Int))) = false →
 (0 : Nat) + m9 nd ≤ (cpT (m9 nd) (ivR nd)).len ∧
 (0 : Nat) + (2 : Nat) ≤
 (D.l
 [D.b nv ::
 (cpT (m9 nd) (ivR nd)).sub ((0 : Nat)) ((0 : Nat) + m9 nd) ::
 D.i (0 : Int) ::
 D.b false :: (List.map (fun (o : Nat) => D.i (0 : Int)) (List.range (49 : Nat)) ++ [D.l [], D.l []]),
 D.b false ::
 D.l [] ::
 D.i (0 : Int) ::
 D.b false :: (List.map (fun (o : Nat) => D.i (0 : Int)) (List.range (49 : Nat)) ++ [D.l [], D.l []])]).len ∧
 (0 : Nat) + (0 : Nat) ≤ (D.l []).len ∧
 (0 : Nat) + i ≤ (cpT i (ivR ed)).len ∧
 (((0 : Int) ≤ if (9 : Int) < (↑al.len : Int) then (9 : Int) else (↑al.len : Int)) ∧
 (if (9 : Int) < (↑al.len : Int) then (9 : Int) else (↑al.len : Int)) ≤ (↑al.len : Int)) ∧
 (0 : Nat) + (2 : Nat) ≤
 (D.l
 [[(D.l
 [D.b nv ::
 (cpT (m9 nd) (ivR nd)).sub ((0 : Nat)) ((0 : Nat) + m9 nd) ::
 D.i (0 : Int) ::
 D.b false ::
 (List.map (fun (o : Nat) => D.i (0 : Int)) (List.range (49 : Nat)) ++ [D.l [], D.l []]),
 D.b false ::
 D.l [] ::
 D.i (0 : Int) ::
 D.b false ::
 (List.map (fun (o : Nat) => D.i (0 : Int)) (List.range (49 : Nat)) ++ [D.l [], D.l []])]).sub
 (0 : Nat) ((0 : Nat) + (2 : Nat))],
 [(D.l []).sub (0 : Nat) ((0 : Nat) + (0 : Nat))]]).len ∧
 (0 : Nat) + (2 : Nat) ≤
 (D.l
 [[D.i (0 : Int), D.i (2 : Int), (cpT i (ivR ed)).sub ((0 : Nat)) ((0 : Nat) + i)],
 [D.i (0 : Int), D.i (0 : Int), D.l []]]).len ∧
 teOK st
 ((D.l
 [[(D.l
 [D.b nv ::
 (cpT (m9 nd) (ivR nd)).sub ((0 : Nat)) ((0 : Nat) + m9 nd) ::
 D.i (0 : Int) ::
 D.b false ::
 (List.map (fun (o : Nat) => D.i (0 : Int)) (List.range (49 : Nat)) ++ [D.l [], D.l []]),
 D.b false ::
 D.l [] ::
 D.i (0 : Int) ::
 D.b false ::
 (List.map (fun (o : Nat) => D.i (0 : Int)) (List.range (49 : Nat)) ++
 [D.l [], D.l []])]).sub
 (0 : Nat) ((0 : Nat) + (2 : Nat))],
 [(D.l []).sub (0 : Nat) ((0 : Nat) + (0 : Nat))]]).sub
 ((0 : Nat)) ((0 : Nat) + (2 : Nat)))
 ((D.l
 [[D.i (0 : Int), D.i (2 : Int), (cpT i (ivR ed)).sub ((0 : Nat)) ((0 : Nat) + i)],
 [D.i (0 : Int), D.i (0 : Int), D.l []]]).sub
 ((0 : Nat)) ((0 : Nat) + (2 : Nat)))
 (al.sub (0 : Nat) (if (9 : Int) < (↑al.len : Int) then (9 : Int) else (↑al.len : Int)).toNat) ∧
 (0 : Nat) + (2 : Nat) ≤
 (D.l
 [[(D.l
 [D.b nv ::
 (cpT (m9 nd) (ivR nd)).sub ((0 : Nat)) ((0 : Nat) + m9 nd) ::
 D.i (0 : Int) ::
 D.b false ::
 (List.map (fun (o : Nat) => D.i (0 : Int)) (List.range (49 : Nat)) ++ [D.l [], D.l []]),
 D.b false ::
 D.l [] ::
 D.i (0 : Int) ::
 D.b false ::
 (List.map (fun (o : Nat) => D.i (0 : Int)) (List.range (49 : Nat)) ++
 [D.l [], D.l []])]).sub
 (0 : Nat) ((0 : Nat) + (2 : Nat))],
 [(D.l []).sub (0 : Nat) ((0 : Nat) + (0 : Nat))]]).len ∧
 (0 : Nat) + (2 : Nat) ≤
 (D.l
 [[D.i (0 : Int), D.i (2 : Int), (cpT i (ivR ed)).sub ((0 : Nat)) ((0 : Nat) + i)],
 [D.i (0 : Int), D.i (0 : Int), D.l []]]).len ∧
 teOK st
 ((D.l
 [[(D.l
 [D.b nv ::
 (cpT (m9 nd) (ivR nd)).sub ((0 : Nat)) ((0 : Nat) + m9 nd) ::
 D.i (0 : Int) ::
 D.b false ::
 (List.map (fun (o : Nat) => D.i (0 : Int)) (List.range (49 : Nat)) ++
 [D.l [], D.l []]),
 D.b false ::
 D.l [] ::
 D.i (0 : Int) ::
 D.b false ::
 (List.map (fun (o : Nat) => D.i (0 : Int)) (List.range (49 : Nat)) ++
 [D.l [], D.l []])]).sub
 (0 : Nat) ((0 : Nat) + (2 : Nat))],
 [(D.l []).sub (0 : Nat) ((0 : Nat) + (0 : Nat))]]).sub
 ((0 : Nat)) ((0 : Nat) + (2 : Nat)))
 ((D.l
 [[D.i (0 : Int), D.i (2 : Int), (cpT i (ivR ed)).sub ((0 : Nat)) ((0 : Nat) + i)],
 [D.i (0 : Int), D.i (0 : Int), D.l []]]).sub
 ((0 : Nat)) ((0 : Nat) + (2 : Nat)))
 (al.sub (0 : Nat) (if (9 : Int) < (↑al.len : Int) then (9 : Int) else (↑al.len : Int)).toNat) ∧
 ((teT st
 ((D.l
 [[(D.l
 [D.b nv ::
 (cpT (m9 nd) (ivR nd)).sub ((0 : Nat)) ((0 : Nat) + m9 nd) ::
 D.i (0 : Int) ::
 D.b false ::
 (List.map (fun (o : Nat) => D.i (0 : Int)) (List.range (49 : Nat)) ++
 [D.l [], D.l []]),
 D.b false ::
 D.l [] ::
 D.i (0 : Int) ::
 D.b false ::
 (List.map (fun (o : Nat) => D.i (0 : Int)) (List.range (49 : Nat)) ++
 [D.l [], D.l []])]).sub
 (0 : Nat) ((0 : Nat) + (2 : Nat))],
 [(D.l []).sub (0 : Nat) ((0 : Nat) + (0 : Nat))]]).sub
 ((0 : Nat)) ((0 : Nat) + (2 : Nat)))
 ((D.l
 [[D.i (0 : Int), D.i (2 : Int), (cpT i (ivR ed)).sub ((0 : Nat)) ((0 : Nat) + i)],
 [D.i (0 : Int), D.i (0 : Int), D.l []]]).sub
 ((0 : Nat)) ((0 : Nat) + (2 : Nat)))
 (al.sub (0 : Nat)
 (if (9 : Int) < (↑al.len : Int) then (9 : Int) else (↑al.len : Int)).toNat)).toList ==
 (teT st
 ((D.l
 [[(D.l
 [D.b nv ::
 (cpT (m9 nd) (ivR nd)).sub ((0 : Nat)) ((0 : Nat) + m9 nd) ::
 D.i (0 : Int) ::
 D.b false ::
 (List.map (fun (o : Nat) => D.i (0 : Int)) (List.range (49 : Nat)) ++
 [D.l [], D.l []]),
 D.b false ::
 D.l [] ::
 D.i (0 : Int) ::
 D.b false ::
 (List.map (fun (o : Nat) => D.i (0 : Int)) (List.range (49 : Nat)) ++
 [D.l [], D.l []])]).sub
 (0 : Nat) ((0 : Nat) + (2 : Nat))],
 [(D.l []).sub (0 : Nat) ((0 : Nat) + (0 : Nat))]]).sub
 ((0 : Nat)) ((0 : Nat) + (2 : Nat)))
 ((D.l
 [[D.i (0 : Int), D.i (2 : Int), (cpT i (ivR ed)).sub ((0 : Nat)) ((0 : Nat) + i)],
 [D.i (0 : Int), D.i (0 : Int), D.l []]]).sub
 ((0 : Nat)) ((0 : Nat) + (2 : Nat)))
 (al.sub (0 : Nat)
 (if (9 : Int) < (↑al.len : Int) then (9 : Int) else (↑al.len : Int)).toNat)).toList) =
 true))) (by kernel_rfl) ?_
    intro h1 hn he ha
    simp only [Int.toNat_natCast, Nat.zero_add, Nat.add_zero, Nat.reduceAdd, and_true, true_and, implies_true]
    refine ⟨⟨0, Nat.zero_le _, rfl, rfl, rfl⟩, fun i hi => ?_⟩
    refine ⟨fun hc => ?_, fun hc => ?_⟩
    · have hc := m9_lt hc
      have hm := m9_le nd
      have e1 : IntKind.i64.wrap ((i : Int) + 1) = ((i + 1 : Nat) : Int) := inc (n := 10) (by omega) (by decide)
      exact ⟨⟨by omega, by omega⟩, ⟨by omega, by omega⟩, (cpT_len _ _).symm, (by show (i + 1) * 16 ≤ _; omega), Nat.le_refl _, i + 1, hc, by omega, e1, rfl, (by rw [List.range_succ, List.map_append]; rfl)⟩
    · obtain rfl := m9_eq hi hc
      refine ⟨⟨0, Nat.zero_le _, rfl, by decide, by decide, rfl, rfl, rfl, rfl⟩, fun i hi => ?_⟩
      refine ⟨fun hc => ?_, fun hc => ?_⟩
      · have hc := m9_lt hc
        have hm := m9_le ed
        have e1 : IntKind.i64.wrap ((i : Int) + 1) = ((i + 1 : Nat) : Int) := inc (n := 10) (by omega) (by decide)
        exact ⟨⟨by omega, by omega⟩, ⟨by omega, by omega⟩, (cpT_len _ _).symm, (by show (i + 1) * 16 ≤ _; omega), Nat.le_refl _, i + 1, hc, by omega, e1, rfl, (by rw [List.range_succ, List.map_append]; rfl)⟩
      · obtain rfl := m9_eq hi hc
        have hk : (if (9 : Int) < (al.len : Int) then 9 else (al.len : Int)).toNat ≤ al.len ∧ (if (9 : Int) < (al.len : Int) then 9 else (al.len : Int)).toNat ≤ 9 := by
          split <;> omega
        have hT := fun b r r1 => te_raw (b := b) (r := r) (r1 := r1) h1 (its_cp hn (m9_le nd)) (its_cp he (m9_le ed)) ha hk
        refine ⟨by rw [cpT_len]; exact Nat.le_refl _, Nat.le_refl _, Nat.le_refl _, by rw [cpT_len]; exact Nat.le_refl _, ⟨by split <;> omega, by split <;> omega⟩, Nat.le_refl _, Nat.le_refl _, hT _ _ _, Nat.le_refl _, Nat.le_refl _, hT _ _ _, beq_self_eq_true _⟩
  · trivial
end Go.Proofs.YtomodncooiddaaaDoor.Sx.Z
