/-
  The laws' copies of expressions.
-/
import Derived.Test.YtomodncooiddaaaDoorLl
namespace Go.Proofs.YtomodncooiddaaaDoor.Sx.Z
open Go.RowKit
def lXr : AP := .agg [.c (.int .i64), .c (.int .i64), .c .str, .c (.rows 34)]
def lCr : AP := .agg [.c (.int .i64), .c (.int .i64), .c (.int .i64), .c .str, .c (.rows 34), .c (.int .i64), .c (.int .i64), .c .str, .c (.rows 34)]
def lStr : AP := .agg [.c (.int .i64), .c .str, .c .str, .c (.int .i64), .c (.int .i64), .c .str, .c (.rows 34), .c (.int .i64), .c (.int .i64), .c (.int .i64), .c .str, .c (.rows 34), .c (.int .i64), .c (.int .i64), .c .str, .c (.rows 34), .c (.rows 39), .c (.rows 39), .c (.rows 60)]
/-- So many rows. -/
def cpTo (n : Nat) (f : Nat → List D) : D := .l ((List.range n).map f)
theorem cpTo_len (n : Nat) (f : Nat → List D) : (cpTo n f).len = n := by
  show ((List.range n).map f).length = n
  rw [List.length_map, List.length_range]
theorem cpTo_succ (n : Nat) (f : Nat → List D) : (cpTo (n + 1) f).rows = (cpTo n f).rows ++ [f n] := by
  show (List.range (n + 1)).map f = (List.range n).map f ++ [f n]
  rw [List.range_succ, List.map_append]; rfl
theorem cpF_eq {n : Nat} (f : Nat → List D) : D.l ((List.finRange n).map fun i => f i.1) = cpTo n f := by
  unfold cpTo
  congr 1
  apply List.ext_getElem
  · simp
  · intro i h1 h2
    simp
def cpE (d : D) : D := .l ((List.finRange d.len).map fun (i : Fin d.len) => [D.i (d.el i 0).toI, D.i (d.el i 1).toI, D.s (d.el i 2).toS, cpE (d.el i 3)])
  termination_by SizeOf.sizeOf d
  decreasing_by exact lel_lt i.isLt
def rX (d : D) (i : Nat) : List D := [D.i (d.el i 0).toI, D.i (d.el i 1).toI, D.s (d.el i 2).toS, cpE (d.el i 3)]
theorem cpE_eq (d : D) : cpE d = cpTo d.len (rX d) := by
  rw [cpE, ← cpF_eq]; rfl
/-- No row is too long. -/
def kS (d : D) : Prop := d.len * 56 ≤ 140737488355328 ∧ ∀ i : Fin d.len, kS (d.el i 3)
  termination_by SizeOf.sizeOf d
  decreasing_by exact lel_lt i.isLt
theorem kS_iff (d : D) : kS d ↔ d.len * 56 ≤ 140737488355328 ∧ ∀ i, i < d.len → kS (d.el i 3) := by
  rw [kS]
  exact ⟨fun h => ⟨h.1, fun i hi => h.2 ⟨i, hi⟩⟩, fun h => ⟨h.1, fun i => h.2 i.1 i.2⟩⟩
noncomputable def xcpS : FSpec := fun ds _ => match ds with
  | [.i k, .i n, .s s, .d d] => some { val := .one (.agg [.c (.int .i64 (.sym (k))), .c (.int .i64 (.sym (n))), .c (.raw (.string (s))), .c (.rows 149 (cpE d))]), vc := [kS d] }
  | _ => none
noncomputable def xcpC : Con := con [lXr] xcpS
noncomputable def xcpM : List Dat → Nat := fun ds => match ds with
  | [.i _k, .i _n, .s _s, .d d] => SizeOf.sizeOf d
  | _ => 0
noncomputable def xcpSu (m : Nat) : FSpec := fun ds _ => match ds with
  | [.i k, .i n, .s s, .d d] => some { val := .one (.agg [.c (.int .i64 (.sym (k))), .c (.int .i64 (.sym (n))), .c (.raw (.string (s))), .c (.rows 149 (cpE d))]), vc := [SizeOf.sizeOf d < m, kS d] }
  | _ => none
theorem xcp_under (m : Nat) : xcpS.under xcpM m = xcpSu m := by
  funext ds fr
  unfold FSpec.under xcpS xcpM xcpSu
  split
  · rename_i e h
    split at h
    · obtain rfl := Option.some.inj h; rfl
    · cases h
  · rename_i h
    split at h
    · cases h
    · rfl
theorem xcp_step (m : Nat) (ih : ConOK Tryd.prog 52 (con [lXr] (xcpSu m))) : ConOK Tryd.prog 52 (con [lXr] (xcpSu (m + 1))) := by
  refine fn_ob tt_ok mixed Tryd.func52 rfl (fun _ _ => by kernel_rfl) (A := fun ds => ⟨fun _ => Cons.of [(52, con [lXr] (xcpSu m))], fun k => match k, ds with | 3, [.i k, .i n, .s s, .d d] => some { ι := Nat, pre := fun _ i => i ≤ d.len, μ := fun i => d.len + 1 - i, st := fun s i => famR s [(4, .one (.sc (.int .i64 (.sym ((i : Nat)))))), (3, .one (.sc (.osl 149 (s.nx - 1) (.lit 0) (.sym (i)))))] [1, 2] [(s.nx - 1, .orow 149 (cpTo i (rX d)))] [1, 2] } | _, _ => none, fun _ => none⟩) (fun _ _ => (cons_cons ih cons_nil)) (by kernel_rfl) ?_
  intro ds fr
  unfold xcpSu
  split
  · rename_i k n s d
    refine kmp (q := SizeOf.sizeOf d < m + (1 : Nat) →
 kS d →
 (∃ (i : Nat),
 i.le d.len ∧
 (0 : Int) = (↑i : Int) ∧
 i = (0 : Nat) ∧
 List.map (rX d) (List.range i) = [] ∧
 k = k ∧
 n = n ∧
 Value.string s = Value.string s ∧
 d.rows = d.rows ∧ (0 : Int) = (0 : Int) ∧ (0 : Int) = (0 : Int) ∧ Value.string ByteArray.empty = Value.string ByteArray.empty) ∧
 ∀ (i : Nat),
 i.le d.len →
 (decide ((↑i : Int) < (↑d.len : Int)) = true →
 ((0 : Int) ≤ (↑i : Int) ∧ (↑i : Int) < (↑d.len : Int)) ∧
 SizeOf.sizeOf (d.el (↑i : Int).toNat ((0 : Nat) + (1 : Nat) + (1 : Nat) + (1 : Nat))) < m ∧
 kS (d.el (↑i : Int).toNat ((0 : Nat) + (1 : Nat) + (1 : Nat) + (1 : Nat))) ∧
 i = (cpTo i (rX d)).len ∧
 (i +
 ((D.l
 [[D.i (d.el (↑i : Int).toNat (0 : Nat)).toI, D.i (d.el (↑i : Int).toNat ((0 : Nat) + (1 : Nat))).toI,
 D.s (d.el (↑i : Int).toNat ((0 : Nat) + (1 : Nat) + (1 : Nat))).toS,
 cpE (d.el (↑i : Int).toNat ((0 : Nat) + (1 : Nat) + (1 : Nat) + (1 : Nat)))]]).sub
 (0 : Nat) ((0 : Nat) + (1 : Nat))).len) *
 (56 : Nat) ≤
 (140737488355328 : Nat) ∧
 (0 : Nat) + (1 : Nat) ≤
 (D.l
 [[D.i (d.el (↑i : Int).toNat (0 : Nat)).toI, D.i (d.el (↑i : Int).toNat ((0 : Nat) + (1 : Nat))).toI,
 D.s (d.el (↑i : Int).toNat ((0 : Nat) + (1 : Nat) + (1 : Nat))).toS,
 cpE (d.el (↑i : Int).toNat ((0 : Nat) + (1 : Nat) + (1 : Nat) + (1 : Nat)))]]).len ∧
 ∃ (j : Nat),
 j.le d.len ∧
 d.len + (1 : Nat) - j < d.len + (1 : Nat) - i ∧
 IntKind.i64.wrap ((↑i : Int) + (1 : Int)) = (↑j : Int) ∧
 i +
 ((D.l
 [[D.i (d.el (↑i : Int).toNat (0 : Nat)).toI, D.i (d.el (↑i : Int).toNat ((0 : Nat) + (1 : Nat))).toI,
 D.s (d.el (↑i : Int).toNat ((0 : Nat) + (1 : Nat) + (1 : Nat))).toS,
 cpE (d.el (↑i : Int).toNat ((0 : Nat) + (1 : Nat) + (1 : Nat) + (1 : Nat)))]]).sub
 (0 : Nat) ((0 : Nat) + (1 : Nat))).len =
 j ∧
 List.map (rX d) (List.range i) ++
 List.drop (0 : Nat)
 (List.take ((0 : Nat) + (1 : Nat))
 [[D.i (d.el (↑i : Int).toNat (0 : Nat)).toI, D.i (d.el (↑i : Int).toNat ((0 : Nat) + (1 : Nat))).toI,
 D.s (d.el (↑i : Int).toNat ((0 : Nat) + (1 : Nat) + (1 : Nat))).toS,
 cpE (d.el (↑i : Int).toNat ((0 : Nat) + (1 : Nat) + (1 : Nat) + (1 : Nat)))]]) =
 List.map (rX d) (List.range j) ∧
 k = k ∧
 n = n ∧
 Value.string s = Value.string s ∧
 d.rows = d.rows ∧
 (0 : Int) = (0 : Int) ∧ (0 : Int) = (0 : Int) ∧ Value.string ByteArray.empty = Value.string ByteArray.empty) ∧
 (decide ((↑i : Int) < (↑d.len : Int)) = false →
 (0 : Nat) + i ≤ (cpTo i (rX d)).len ∧
 k = k ∧
 n = n ∧ Value.string s = Value.string s ∧ List.drop ((0 : Nat)) (List.take ((0 : Nat) + i) (List.map (rX d) (List.range i))) = (cpE d).rows)) (by kernel_rfl) ?_
    intro hm hs
    rw [kS_iff] at hs
    obtain ⟨h1, h2⟩ := hs
    refine ⟨⟨0, Nat.zero_le _, rfl, rfl, rfl, rfl, rfl, rfl, rfl, rfl, rfl, rfl⟩, fun i hi => ⟨fun hl => ?_, fun hl => ?_⟩⟩
    · have hl := of_decide_eq_true hl
      have hi2 : i < d.len := by omega
      have hw2 : IntKind.i64.wrap ((i : Int) + 1) = ((i + 1 : Nat) : Int) := by rw [IntWalk.i64_in _ (by omega)]; omega
      have z := lel_lt (j := 3) hi2
      exact ⟨⟨by omega, by omega⟩, (show SizeOf.sizeOf (d.el i 3) < m by omega), h2 i hi2, (cpTo_len _ _).symm, (show (i + 1) * 56 ≤ 140737488355328 by omega), Nat.le_refl _, i + 1, hi2, by omega, hw2, rfl, (cpTo_succ i (rX d)).symm, rfl, rfl, rfl, rfl, rfl, rfl, rfl⟩
    · have hl := of_decide_eq_false hl
      have hi3 : i = d.len := by have : i ≤ d.len := hi; omega
      subst hi3
      refine ⟨by rw [cpTo_len]; omega, rfl, rfl, rfl, ?_⟩
      rw [cpE_eq, Nat.zero_add, List.drop_zero, List.take_of_length_le (by simp)]; rfl
  · trivial
theorem xcp_ok : ConOK Tryd.prog 52 xcpC :=
  con_rec xcpM (fun _ _ => by kernel_rfl) fun m ih => by
    rw [xcp_under] at ih ⊢
    exact xcp_step m ih
noncomputable def ccpS : FSpec := fun ds _ => match ds with
  | [.i op, .i lk, .i ln, .s ls, .d ld, .i rk, .i rn, .s rs, .d rd] => some { val := .one (.agg [.c (.int .i64 (.sym (op))), .c (.int .i64 (.sym (lk))), .c (.int .i64 (.sym (ln))), .c (.raw (.string (ls))), .c (.rows 149 (cpE ld)), .c (.int .i64 (.sym (rk))), .c (.int .i64 (.sym (rn))), .c (.raw (.string (rs))), .c (.rows 149 (cpE rd))]), vc := [kS ld, kS rd] }
  | _ => none
noncomputable def ccpC : Con := con [lCr] ccpS
theorem ccp_ok : ConOK Tryd.prog 53 ccpC := by
  refine fn_ob tt_ok mixed Tryd.func53 rfl (fun _ _ => by kernel_rfl) (A := fun ds => ⟨fun _ => Cons.of [(52, xcpC)], fun _ => none, fun _ => none⟩) (fun _ _ => (cons_cons xcp_ok cons_nil)) (by kernel_rfl) ?_
  intro ds fr
  unfold ccpS
  split
  · rename_i op lk ln ls ld rk rn rs rd
    refine kmp (q := kS ld →
 kS rd →
 kS ld ∧
 kS rd ∧
 op = op ∧
 lk = lk ∧
 ln = ln ∧
 Value.string ls = Value.string ls ∧
 (cpE ld).rows = (cpE ld).rows ∧ rk = rk ∧ rn = rn ∧ Value.string rs = Value.string rs ∧ (cpE rd).rows = (cpE rd).rows) (by kernel_rfl) ?_
    intro hl hr
    exact ⟨hl, hr, rfl, rfl, rfl, rfl, rfl, rfl, rfl, rfl, rfl⟩
  · trivial
end Go.Proofs.YtomodncooiddaaaDoor.Sx.Z
