import Derived.Test.YtbhbjhejkamlnaaZ16
import Derived.Test.YtbhbjhejkamlnaaZ17
namespace Go.Proofs.Ytbhbjhejkamlnaa.Sx.Z
open Go.RowKit
theorem lel_lt {d : D} {i j : Nat} (h : i < d.len) : SizeOf.sizeOf (d.el i j) < SizeOf.sizeOf d := by
  cases d with
  | l rows =>
    have h' : i < rows.length := h
    have e : (D.l rows).el i j = (rows[i]).getD j (.i 0) := by
      show (rows.getD i []).getD j (.i 0) = _
      rw [List.getD_eq_getElem?_getD (l := rows), List.getElem?_eq_getElem h', Option.getD_some]
    rw [e, List.getD_eq_getElem?_getD]
    have h1 := List.sizeOf_lt_of_mem (List.getElem_mem h')
    cases hj : (rows[i])[j]? with
    | none =>
      rw [Option.getD_none]
      have : SizeOf.sizeOf (D.i 0) = 1 + SizeOf.sizeOf (0 : Int) := rfl
      have e2 : SizeOf.sizeOf (0 : Int) = 1 := rfl
      have : SizeOf.sizeOf (D.l rows) = 1 + SizeOf.sizeOf rows := by simp
      have h2 : 1 <= SizeOf.sizeOf (rows[i]) := by cases rows[i] <;> simp <;> omega
      omega
    | some x =>
      rw [Option.getD_some]
      have h2 := List.sizeOf_lt_of_mem (List.mem_of_getElem? hj)
      have : SizeOf.sizeOf (D.l rows) = 1 + SizeOf.sizeOf rows := by simp
      omega
  | i n => exact absurd h (Nat.not_lt_zero i)
  | b n => exact absurd h (Nat.not_lt_zero i)
  | s n => exact absurd h (Nat.not_lt_zero i)
def lXr : AP := .agg [.c (.int .i64), .c (.int .i64), .c .str, .c (.rows 45)]
def lCr : AP := .agg [.c (.int .i64), .c (.int .i64), .c (.int .i64), .c .str, .c (.rows 45), .c (.int .i64), .c (.int .i64), .c .str, .c (.rows 45)]
def cpTo (n : Nat) (f : Nat -> List D) : D := .l ((List.range n).map f)
theorem cpTo_len (n : Nat) (f : Nat -> List D) : (cpTo n f).len = n := by
  show ((List.range n).map f).length = n
  rw [List.length_map, List.length_range]
theorem cpTo_succ (n : Nat) (f : Nat -> List D) : (cpTo (n + 1) f).rows = (cpTo n f).rows ++ [f n] := by
  show (List.range (n + 1)).map f = (List.range n).map f ++ [f n]
  rw [List.range_succ, List.map_append]; rfl
theorem cpF_eq {n : Nat} (f : Nat -> List D) : D.l ((List.finRange n).map fun i => f i.1) = cpTo n f := by
  unfold cpTo
  congr 1
  apply List.ext_getElem
  · simp
  · intro i h1 h2
    simp
def cpE (d : D) : D := .l ((List.finRange d.len).map fun (i : Fin d.len) => [D.i (d.el i 0).toI, D.i (d.el i 1).toI, D.s (d.el i 2).toS, cpE (d.el i 3)])
  termination_by SizeOf.sizeOf d
  decreasing_by exact lel_lt i.isLt
def rX (d : D) (i : Nat) : List D := [D.i (d.el i 0).toI, D.i (d.el i 1).toI, D.s (d.el i 2).toS, cpE (d.el i 3)]
theorem cpE_eq (d : D) : cpE d = cpTo d.len (rX d) := by
  rw [cpE, ← cpF_eq]; rfl
def kS (d : D) : Prop := d.len <= 1000000 /\ ∀ i : Fin d.len, kS (d.el i 3)
  termination_by SizeOf.sizeOf d
  decreasing_by exact lel_lt i.isLt
theorem kS_iff (d : D) : kS d ↔ d.len <= 1000000 /\ ∀ i, i < d.len -> kS (d.el i 3) := by
  rw [kS]
  exact ⟨fun h => ⟨h.1, fun i hi => h.2 ⟨i, hi⟩⟩, fun h => ⟨h.1, fun i => h.2 i.1 i.2⟩⟩
noncomputable def xcpS : FSpec := fun ds _ => match ds with
  | [.i k, .i n, .s s, .d d] => some { val := .one (.agg [.c (.int .i64 (.sym (k))), .c (.int .i64 (.sym (n))), .c (.raw (.string (s))), .c (.rows 90 (cpE d))]), vc := [kS d] }
  | _ => none
noncomputable def xcpC : Con := con [lXr] xcpS
noncomputable def xcpM : List Dat -> Nat := fun ds => match ds with
  | [.i _k, .i _n, .s _s, .d d] => SizeOf.sizeOf d
  | _ => 0
noncomputable def xcpSu (m : Nat) : FSpec := fun ds _ => match ds with
  | [.i k, .i n, .s s, .d d] => some { val := .one (.agg [.c (.int .i64 (.sym (k))), .c (.int .i64 (.sym (n))), .c (.raw (.string (s))), .c (.rows 90 (cpE d))]), vc := [SizeOf.sizeOf d < m, kS d] }
  | _ => none
theorem xcp_under (m : Nat) : xcpS.under xcpM m = xcpSu m := by
  funext ds fr
  unfold FSpec.under xcpS xcpM xcpSu
  split
  · rename_i e h
    split at h
    · obtain rfl := Option.some.inj h; rfl
    · cases h
  · rename_i h
    split at h
    · cases h
    · rfl
theorem xcp_step (m : Nat) (ih : ConOK Try.prog 52 (con [lXr] (xcpSu m))) : ConOK Try.prog 52 (con [lXr] (xcpSu (m + 1))) := by
  refine fn_ob tt_ok mixed Try.func52 rfl (fun _ _ => by kernel_rfl) (A := fun ds => ⟨fun _ => Cons.of [(52, con [lXr] (xcpSu m))], fun k => match k, ds with | 3, [.i k, .i n, .s s, .d d] => some { ι := Nat, pre := fun _ i => i <= d.len, μ := fun i => d.len + 1 - i, st := fun s i => famR s [(4, .one (.sc (.int .i64 (.sym ((i : Nat)))))), (3, .one (.sc (.osl 90 (s.nx - 1) (.lit 0) (.sym (i)))))] [1, 2] [(s.nx - 1, .orow 90 (cpTo i (rX d)))] [1, 2] } | _, _ => none, fun _ => none⟩) (fun _ _ => (cons_cons ih cons_nil)) (by kernel_rfl) ?_
  intro ds fr
  unfold xcpSu
  split
  · rename_i k n s d
    refine kmp (q := SizeOf.sizeOf d < m + 1 -> kS d -> (∃ (i : Nat), i.le d.len /\ (0 : Int) = (↑i : Int) /\ i = 0 /\ List.map (rX d) (List.range i) = [] /\ k = k /\ n = n /\ Value.string s = Value.string s /\ d.rows = d.rows /\ (0 : Int) = (0 : Int) /\ (0 : Int) = (0 : Int) /\ Value.string ByteArray.empty = Value.string ByteArray.empty) /\ ∀ (i : Nat), i.le d.len -> (decide ((↑i : Int) < (↑d.len : Int)) = true -> ((0 : Int) <= (↑i : Int) /\ (↑i : Int) < (↑d.len : Int)) /\ SizeOf.sizeOf (d.el (↑i : Int).toNat ((0 : Nat) + 1 + 1 + (1 : Nat))) < m /\ kS (d.el (↑i : Int).toNat ((0 : Nat) + 1 + 1 + (1 : Nat))) /\ i = (cpTo i (rX d)).len /\ (i + ((D.l [[D.i (d.el (↑i : Int).toNat (0 : Nat)).toI, D.i (d.el (↑i : Int).toNat ((0 : Nat) + (1 : Nat))).toI, D.s (d.el (↑i : Int).toNat ((0 : Nat) + 1 + (1 : Nat))).toS, cpE (d.el (↑i : Int).toNat ((0 : Nat) + 1 + 1 + (1 : Nat)))]]).sub 0 ((0 : Nat) + (1 : Nat))).len) * 56 <= 140737488355328 /\ 0 + 1 <= (D.l [[D.i (d.el (↑i : Int).toNat (0 : Nat)).toI, D.i (d.el (↑i : Int).toNat ((0 : Nat) + (1 : Nat))).toI, D.s (d.el (↑i : Int).toNat ((0 : Nat) + 1 + (1 : Nat))).toS, cpE (d.el (↑i : Int).toNat ((0 : Nat) + 1 + 1 + (1 : Nat)))]]).len /\ ∃ (j : Nat), j.le d.len /\ d.len + 1 - j < d.len + 1 - i /\ IntKind.i64.wrap ((↑i : Int) + 1) = (↑j : Int) /\ i + ((D.l [[D.i (d.el (↑i : Int).toNat (0 : Nat)).toI, D.i (d.el (↑i : Int).toNat ((0 : Nat) + (1 : Nat))).toI, D.s (d.el (↑i : Int).toNat ((0 : Nat) + 1 + (1 : Nat))).toS, cpE (d.el (↑i : Int).toNat ((0 : Nat) + 1 + 1 + (1 : Nat)))]]).sub 0 ((0 : Nat) + (1 : Nat))).len = j /\ List.map (rX d) (List.range i) ++ List.drop 0 (List.take ((0 : Nat) + (1 : Nat)) [[D.i (d.el (↑i : Int).toNat (0 : Nat)).toI, D.i (d.el (↑i : Int).toNat ((0 : Nat) + (1 : Nat))).toI, D.s (d.el (↑i : Int).toNat ((0 : Nat) + 1 + (1 : Nat))).toS, cpE (d.el (↑i : Int).toNat ((0 : Nat) + 1 + 1 + (1 : Nat)))]]) = List.map (rX d) (List.range j) /\ k = k /\ n = n /\ Value.string s = Value.string s /\ d.rows = d.rows /\ (0 : Int) = (0 : Int) /\ (0 : Int) = (0 : Int) /\ Value.string ByteArray.empty = Value.string ByteArray.empty) /\ (decide ((↑i : Int) < (↑d.len : Int)) = false -> 0 + i <= (cpTo i (rX d)).len /\ k = k /\ n = n /\ Value.string s = Value.string s /\ List.drop 0 (List.take ((0 : Nat) + i) (List.map (rX d) (List.range i))) = (cpE d).rows)) (by kernel_rfl) ?_
    intro hm hs
    rw [kS_iff] at hs
    obtain ⟨h1, h2⟩ := hs
    refine ⟨⟨0, Nat.zero_le _, rfl, rfl, rfl, rfl, rfl, rfl, rfl, rfl, rfl, rfl⟩, fun i hi => ⟨fun hl => ?_, fun hl => ?_⟩⟩
    · have hl := of_decide_eq_true hl
      have hi2 : i < d.len := by omega
      have hw2 : IntKind.i64.wrap ((i : Int) + 1) = ((i + 1 : Nat) : Int) := by rw [IntWalk.i64_in _ (by omega)]; omega
      have z := lel_lt (j := 3) hi2
      exact ⟨⟨by omega, by omega⟩, (show SizeOf.sizeOf (d.el i 3) < m by omega), h2 i hi2, (cpTo_len _ _).symm, (show (i + 1) * 56 <= 140737488355328 by omega), Nat.le_refl _, i + 1, hi2, by omega, hw2, rfl, (cpTo_succ i (rX d)).symm, rfl, rfl, rfl, rfl, rfl, rfl, rfl⟩
    · have hl := of_decide_eq_false hl
      have hi3 : i = d.len := by have : i <= d.len := hi; omega
      subst hi3
      refine ⟨by rw [cpTo_len]; omega, rfl, rfl, rfl, ?_⟩
      rw [cpE_eq, Nat.zero_add, List.drop_zero, List.take_of_length_le (by simp)]; rfl
  · trivial
theorem xcp_ok : ConOK Try.prog 52 xcpC :=
  con_rec xcpM (fun _ _ => by kernel_rfl) fun m ih => by
    rw [xcp_under] at ih ⊢
    exact xcp_step m ih
noncomputable def ccpS : FSpec := fun ds _ => match ds with
  | [.i op, .i lk, .i ln, .s ls, .d ld, .i rk, .i rn, .s rs, .d rd] => some { val := .one (.agg [.c (.int .i64 (.sym (op))), .c (.int .i64 (.sym (lk))), .c (.int .i64 (.sym (ln))), .c (.raw (.string (ls))), .c (.rows 90 (cpE ld)), .c (.int .i64 (.sym (rk))), .c (.int .i64 (.sym (rn))), .c (.raw (.string (rs))), .c (.rows 90 (cpE rd))]), vc := [kS ld, kS rd] }
  | _ => none
noncomputable def ccpC : Con := con [lCr] ccpS
theorem ccp_ok : ConOK Try.prog 53 ccpC := by
  refine fn_ob tt_ok mixed Try.func53 rfl (fun _ _ => by kernel_rfl) (A := fun ds => ⟨fun _ => Cons.of [(52, xcpC)], fun _ => none, fun _ => none⟩) (fun _ _ => (cons_cons xcp_ok cons_nil)) (by kernel_rfl) ?_
  intro ds fr
  unfold ccpS
  split
  · rename_i op lk ln ls ld rk rn rs rd
    refine kmp (q := kS ld -> kS rd -> kS ld /\ kS rd /\ op = op /\ lk = lk /\ ln = ln /\ Value.string ls = Value.string ls /\ (cpE ld).rows = (cpE ld).rows /\ rk = rk /\ rn = rn /\ Value.string rs = Value.string rs /\ (cpE rd).rows = (cpE rd).rows) (by kernel_rfl) ?_
    intro hl hr
    exact ⟨hl, hr, rfl, rfl, rfl, rfl, rfl, rfl, rfl, rfl, rfl⟩
  · trivial
end Go.Proofs.Ytbhbjhejkamlnaa.Sx.Z
namespace Go.Proofs.Ytbhbjhejkamlnaa.Sx.Z
open Go.RowKit
def lBr : AP := .sc (.rows 52)
theorem cpTo_all (n : Nat) (f : Nat -> List D) : (cpTo n f).sub 0 (0 + n) = cpTo n f := by
  rw [Nat.zero_add]
  show D.l (List.drop 0 (List.take n ((List.range n).map f))) = _
  rw [List.take_of_length_le (by simp)]; rfl
def cpB (d : D) : D := .l ((List.finRange d.len).map fun (i : Fin d.len) => [D.i (d.el i 0).toI, D.s (d.el i 1).toS, D.s (d.el i 2).toS, D.i (d.el i 3).toI, D.i (d.el i 4).toI, D.s (d.el i 5).toS, cpE (d.el i 6), D.i (d.el i 7).toI, D.i (d.el i 8).toI, D.i (d.el i 9).toI, D.s (d.el i 10).toS, cpE (d.el i 11), D.i (d.el i 12).toI, D.i (d.el i 13).toI, D.s (d.el i 14).toS, cpE (d.el i 15), cpB (d.el i 16), cpB (d.el i 17), .l ((List.finRange (d.el i 18).len).map fun (j : Fin (d.el i 18).len) => [D.s ((d.el i 18).el j 0).toS, D.s ((d.el i 18).el j 1).toS, cpB ((d.el i 18).el j 2)])])
  termination_by SizeOf.sizeOf d
  decreasing_by
    · exact lel_lt i.isLt
    · exact lel_lt i.isLt
    · exact Nat.lt_trans (lel_lt j.isLt) (lel_lt i.isLt)
def arR (am : D) (j : Nat) : List D := [D.s (am.el j 0).toS, D.s (am.el j 1).toS, cpB (am.el j 2)]
def rSt (d : D) (i : Nat) : List D := [D.i (d.el i 0).toI, D.s (d.el i 1).toS, D.s (d.el i 2).toS, D.i (d.el i 3).toI, D.i (d.el i 4).toI, D.s (d.el i 5).toS, cpE (d.el i 6), D.i (d.el i 7).toI, D.i (d.el i 8).toI, D.i (d.el i 9).toI, D.s (d.el i 10).toS, cpE (d.el i 11), D.i (d.el i 12).toI, D.i (d.el i 13).toI, D.s (d.el i 14).toS, cpE (d.el i 15), cpB (d.el i 16), cpB (d.el i 17), cpTo (d.el i 18).len (arR (d.el i 18))]
theorem cpB_eq (d : D) : cpB d = cpTo d.len (rSt d) := by
  rw [cpB, ← cpF_eq]
  congr 2
  funext i
  unfold rSt
  rw [← cpF_eq]
  rfl
def bS (d : D) : Prop := d.len <= 1000000 /\ ∀ i : Fin d.len, kS (d.el i 6) /\ kS (d.el i 11) /\ kS (d.el i 15) /\ bS (d.el i 16) /\ bS (d.el i 17) /\ (d.el i 18).len <= 1000000 /\ ∀ j : Fin (d.el i 18).len, bS ((d.el i 18).el j 2)
  termination_by SizeOf.sizeOf d
  decreasing_by
    · exact lel_lt i.isLt
    · exact lel_lt i.isLt
    · exact Nat.lt_trans (lel_lt j.isLt) (lel_lt i.isLt)
theorem bS_iff (d : D) : bS d ↔ d.len <= 1000000 /\ ∀ i, i < d.len -> kS (d.el i 6) /\ kS (d.el i 11) /\ kS (d.el i 15) /\ bS (d.el i 16) /\ bS (d.el i 17) /\ (d.el i 18).len <= 1000000 /\ ∀ j, j < (d.el i 18).len -> bS ((d.el i 18).el j 2) := by
  rw [bS]
  refine ⟨fun h => ⟨h.1, fun i hi => ?_⟩, fun h => ⟨h.1, fun i => ?_⟩⟩
  · obtain ⟨a, b, c, e, f, g, k⟩ := h.2 ⟨i, hi⟩
    exact ⟨a, b, c, e, f, g, fun j hj => k ⟨j, hj⟩⟩
  · obtain ⟨a, b, c, e, f, g, k⟩ := h.2 i.1 i.2
    exact ⟨a, b, c, e, f, g, fun j => k j.1 j.2⟩
noncomputable def scpS : FSpec := fun ds _ => match ds with
  | [.d d] => some { val := .one (.sc (.rows 95 (cpB d))), vc := [bS d] }
  | _ => none
noncomputable def scpC : Con := con [lBr] scpS
noncomputable def scpM : List Dat -> Nat := fun ds => match ds with
  | [.d d] => SizeOf.sizeOf d
  | _ => 0
noncomputable def scpSu (m : Nat) : FSpec := fun ds _ => match ds with
  | [.d d] => some { val := .one (.sc (.rows 95 (cpB d))), vc := [SizeOf.sizeOf d < m, bS d] }
  | _ => none
theorem scp_under (m : Nat) : scpS.under scpM m = scpSu m := by
  funext ds fr
  unfold FSpec.under scpS scpM scpSu
  split
  · rename_i e h
    split at h
    · obtain rfl := Option.some.inj h; rfl
    · cases h
  · rename_i h
    split at h
    · cases h
    · rfl
theorem scp_step (m : Nat) (ih : ConOK Try.prog 29 (con [lBr] (scpSu m))) : ConOK Try.prog 29 (con [lBr] (scpSu (m + 1))) := by
  refine fn_ob tt_ok mixed Try.func29 rfl (fun _ _ => by kernel_rfl) (A := fun ds => ⟨fun _ => Cons.of [(52, xcpC), (53, ccpC), (29, con [lBr] (scpSu m))], fun k => match k, ds with | 3, [.d d] => some { ι := Nat, pre := fun _ i => i <= d.len, μ := fun i => d.len + 1 - i, st := fun s i => famR s [(4, .one (.sc (.int .i64 (.sym ((i : Nat)))))), (3, .one (.sc (.osl 95 (s.nx - 1) (.lit 0) (.sym (i)))))] [0] [(s.nx - 1, .orow 95 (cpTo i (rSt d)))] [] } | 8, [.d d] => some { ι := Nat, pre := fun s q => q <= (d.el (slotN s 4) 18).len /\ True, μ := fun q => 1000001 - q, st := fun s q => famR s [(7, .one (.sc (.int .i64 (.sym ((q : Nat))))))] [0, 3, 4, 5, 6] [(idOf s 6, .own 95 ([.c (.int .i64 (.sym ((d.el (slotN s 4) 0).toI))), .c (.raw (.string ((d.el (slotN s 4) 1).toS))), .c (.raw (.string ((d.el (slotN s 4) 2).toS))), .c (.int .i64 (.sym ((d.el (slotN s 4) 3).toI))), .c (.int .i64 (.sym ((d.el (slotN s 4) 4).toI))), .c (.raw (.string ((d.el (slotN s 4) 5).toS))), .c (.rows 90 (cpE (d.el (slotN s 4) 6))), .c (.int .i64 (.sym ((d.el (slotN s 4) 7).toI))), .c (.int .i64 (.sym ((d.el (slotN s 4) 8).toI))), .c (.int .i64 (.sym ((d.el (slotN s 4) 9).toI))), .c (.raw (.string ((d.el (slotN s 4) 10).toS))), .c (.rows 90 (cpE (d.el (slotN s 4) 11))), .c (.int .i64 (.sym ((d.el (slotN s 4) 12).toI))), .c (.int .i64 (.sym ((d.el (slotN s 4) 13).toI))), .c (.raw (.string ((d.el (slotN s 4) 14).toS))), .c (.rows 90 (cpE (d.el (slotN s 4) 15))), .c (.rows 95 (cpB (d.el (slotN s 4) 16))), .c (.rows 95 (cpB (d.el (slotN s 4) 17))), .c (.osl 135 (s.nx - 1) (.lit 0) (.sym q))])), (s.nx - 1, .orow 135 (cpTo q (arR (d.el (slotN s 4) 18))))] [3, 5] } | _, _ => none, fun _ => none⟩) (fun _ _ => (cons_cons xcp_ok (cons_cons ccp_ok (cons_cons ih cons_nil)))) (by kernel_rfl) ?_
  intro ds fr
  unfold scpSu
  split
  · rename_i d
    refine kmp (q := SizeOf.sizeOf d < m + 1 -> bS d -> (∃ (i : Nat), i.le d.len /\ (0 : Int) = (↑i : Int) /\ i = 0 /\ d.rows = d.rows /\ List.map (rSt d) (List.range i) = []) /\ ∀ (i : Nat), i.le d.len -> (decide ((↑i : Int) < (↑d.len : Int)) = true -> ((0 : Int) <= (↑i : Int) /\ (↑i : Int) < (↑d.len : Int)) /\ kS (d.el (↑i : Int).toNat ((0 : Nat) + 1 + 1 + 1 + 1 + 1 + (1 : Nat))) /\ kS (d.el (↑i : Int).toNat ((0 : Nat) + 1 + 1 + 1 + 1 + 1 + 1 + 1 + 1 + 1 + 1 + (1 : Nat))) /\ kS (d.el (↑i : Int).toNat ((0 : Nat) + 1 + 1 + 1 + 1 + 1 + 1 + 1 + 1 + 1 + 1 + 1 + 1 + 1 + 1 + (1 : Nat))) /\ SizeOf.sizeOf (d.el (↑i : Int).toNat ((0 : Nat) + 1 + 1 + 1 + 1 + 1 + 1 + 1 + 1 + 1 + 1 + 1 + 1 + 1 + 1 + 1 + (1 : Nat))) < m /\ bS (d.el (↑i : Int).toNat ((0 : Nat) + 1 + 1 + 1 + 1 + 1 + 1 + 1 + 1 + 1 + 1 + 1 + 1 + 1 + 1 + 1 + (1 : Nat))) /\ SizeOf.sizeOf (d.el (↑i : Int).toNat ((0 : Nat) + 1 + 1 + 1 + 1 + 1 + 1 + 1 + 1 + 1 + 1 + 1 + 1 + 1 + 1 + 1 + 1 + (1 : Nat))) < m /\ bS (d.el (↑i : Int).toNat ((0 : Nat) + 1 + 1 + 1 + 1 + 1 + 1 + 1 + 1 + 1 + 1 + 1 + 1 + 1 + 1 + 1 + 1 + (1 : Nat))) /\ (∃ (i_1 : Nat), (i_1 <= (d.el i (18 : Nat)).len /\ True) /\ (0 : Int) = (↑i_1 : Int) /\ d.rows = d.rows /\ i = i /\ (↑i : Int) = (↑i : Int) /\ (d.el (↑i : Int).toNat (0 : Nat)).toI = (d.el i (0 : Nat)).toI /\ Value.string (d.el (↑i : Int).toNat ((0 : Nat) + (1 : Nat))).toS = Value.string (d.el i (1 : Nat)).toS /\ Value.string (d.el (↑i : Int).toNat ((0 : Nat) + 1 + (1 : Nat))).toS = Value.string (d.el i (2 : Nat)).toS /\ (d.el (↑i : Int).toNat ((0 : Nat) + 1 + 1 + (1 : Nat))).toI = (d.el i (3 : Nat)).toI /\ (d.el (↑i : Int).toNat ((0 : Nat) + 1 + 1 + 1 + (1 : Nat))).toI = (d.el i (4 : Nat)).toI /\ Value.string (d.el (↑i : Int).toNat ((0 : Nat) + 1 + 1 + 1 + 1 + (1 : Nat))).toS = Value.string (d.el i (5 : Nat)).toS /\ (cpE (d.el (↑i : Int).toNat ((0 : Nat) + 1 + 1 + 1 + 1 + 1 + (1 : Nat)))).rows = (cpE (d.el i (6 : Nat))).rows /\ (d.el (↑i : Int).toNat ((0 : Nat) + 1 + 1 + 1 + 1 + 1 + 1 + (1 : Nat))).toI = (d.el i (7 : Nat)).toI /\ (d.el (↑i : Int).toNat ((0 : Nat) + 1 + 1 + 1 + 1 + 1 + 1 + 1 + (1 : Nat))).toI = (d.el i (8 : Nat)).toI /\ (d.el (↑i : Int).toNat ((0 : Nat) + 1 + 1 + 1 + 1 + 1 + 1 + 1 + 1 + (1 : Nat))).toI = (d.el i (9 : Nat)).toI /\ Value.string (d.el (↑i : Int).toNat ((0 : Nat) + 1 + 1 + 1 + 1 + 1 + 1 + 1 + 1 + 1 + (1 : Nat))).toS = Value.string (d.el i (10 : Nat)).toS /\ (cpE (d.el (↑i : Int).toNat ((0 : Nat) + 1 + 1 + 1 + 1 + 1 + 1 + 1 + 1 + 1 + 1 + (1 : Nat)))).rows = (cpE (d.el i (11 : Nat))).rows /\ (d.el (↑i : Int).toNat ((0 : Nat) + 1 + 1 + 1 + 1 + 1 + 1 + 1 + 1 + 1 + 1 + 1 + (1 : Nat))).toI = (d.el i (12 : Nat)).toI /\ (d.el (↑i : Int).toNat ((0 : Nat) + 1 + 1 + 1 + 1 + 1 + 1 + 1 + 1 + 1 + 1 + 1 + 1 + (1 : Nat))).toI = (d.el i (13 : Nat)).toI /\ Value.string (d.el (↑i : Int).toNat ((0 : Nat) + 1 + 1 + 1 + 1 + 1 + 1 + 1 + 1 + 1 + 1 + 1 + 1 + 1 + (1 : Nat))).toS = Value.string (d.el i (14 : Nat)).toS /\ (cpE (d.el (↑i : Int).toNat ((0 : Nat) + 1 + 1 + 1 + 1 + 1 + 1 + 1 + 1 + 1 + 1 + 1 + 1 + 1 + 1 + (1 : Nat)))).rows = (cpE (d.el i (15 : Nat))).rows /\ (cpB (d.el (↑i : Int).toNat ((0 : Nat) + 1 + 1 + 1 + 1 + 1 + 1 + 1 + 1 + 1 + 1 + 1 + 1 + 1 + 1 + 1 + (1 : Nat)))).rows = (cpB (d.el i (16 : Nat))).rows /\ (cpB (d.el (↑i : Int).toNat ((0 : Nat) + 1 + 1 + 1 + 1 + 1 + 1 + 1 + 1 + 1 + 1 + 1 + 1 + 1 + 1 + 1 + 1 + (1 : Nat)))).rows = (cpB (d.el i (17 : Nat))).rows /\ i_1 = 0 /\ List.map (arR (d.el i (18 : Nat))) (List.range i_1) = [] /\ List.map (rSt d) (List.range i) = List.map (rSt d) (List.range i) /\ (d.el (↑i : Int).toNat (0 : Nat)).toI = (d.el (↑i : Int).toNat (0 : Nat)).toI /\ Value.string (d.el (↑i : Int).toNat ((0 : Nat) + (1 : Nat))).toS = Value.string (d.el (↑i : Int).toNat ((0 : Nat) + (1 : Nat))).toS /\ Value.string (d.el (↑i : Int).toNat ((0 : Nat) + 1 + (1 : Nat))).toS = Value.string (d.el (↑i : Int).toNat ((0 : Nat) + 1 + (1 : Nat))).toS /\ (d.el (↑i : Int).toNat ((0 : Nat) + 1 + 1 + (1 : Nat))).toI = (d.el (↑i : Int).toNat ((0 : Nat) + 1 + 1 + (1 : Nat))).toI /\ (d.el (↑i : Int).toNat ((0 : Nat) + 1 + 1 + 1 + (1 : Nat))).toI = (d.el (↑i : Int).toNat ((0 : Nat) + 1 + 1 + 1 + (1 : Nat))).toI /\ Value.string (d.el (↑i : Int).toNat ((0 : Nat) + 1 + 1 + 1 + 1 + (1 : Nat))).toS = Value.string (d.el (↑i : Int).toNat ((0 : Nat) + 1 + 1 + 1 + 1 + (1 : Nat))).toS /\ (d.el (↑i : Int).toNat ((0 : Nat) + 1 + 1 + 1 + 1 + 1 + (1 : Nat))).rows = (d.el (↑i : Int).toNat ((0 : Nat) + 1 + 1 + 1 + 1 + 1 + (1 : Nat))).rows /\ (d.el (↑i : Int).toNat ((0 : Nat) + 1 + 1 + 1 + 1 + 1 + 1 + (1 : Nat))).toI = (d.el (↑i : Int).toNat ((0 : Nat) + 1 + 1 + 1 + 1 + 1 + 1 + (1 : Nat))).toI /\ (d.el (↑i : Int).toNat ((0 : Nat) + 1 + 1 + 1 + 1 + 1 + 1 + 1 + (1 : Nat))).toI = (d.el (↑i : Int).toNat ((0 : Nat) + 1 + 1 + 1 + 1 + 1 + 1 + 1 + (1 : Nat))).toI /\ (d.el (↑i : Int).toNat ((0 : Nat) + 1 + 1 + 1 + 1 + 1 + 1 + 1 + 1 + (1 : Nat))).toI = (d.el (↑i : Int).toNat ((0 : Nat) + 1 + 1 + 1 + 1 + 1 + 1 + 1 + 1 + (1 : Nat))).toI /\ Value.string (d.el (↑i : Int).toNat ((0 : Nat) + 1 + 1 + 1 + 1 + 1 + 1 + 1 + 1 + 1 + (1 : Nat))).toS = Value.string (d.el (↑i : Int).toNat ((0 : Nat) + 1 + 1 + 1 + 1 + 1 + 1 + 1 + 1 + 1 + (1 : Nat))).toS /\ (d.el (↑i : Int).toNat ((0 : Nat) + 1 + 1 + 1 + 1 + 1 + 1 + 1 + 1 + 1 + 1 + (1 : Nat))).rows = (d.el (↑i : Int).toNat ((0 : Nat) + 1 + 1 + 1 + 1 + 1 + 1 + 1 + 1 + 1 + 1 + (1 : Nat))).rows /\ (d.el (↑i : Int).toNat ((0 : Nat) + 1 + 1 + 1 + 1 + 1 + 1 + 1 + 1 + 1 + 1 + 1 + (1 : Nat))).toI = (d.el (↑i : Int).toNat ((0 : Nat) + 1 + 1 + 1 + 1 + 1 + 1 + 1 + 1 + 1 + 1 + 1 + (1 : Nat))).toI /\ (d.el (↑i : Int).toNat ((0 : Nat) + 1 + 1 + 1 + 1 + 1 + 1 + 1 + 1 + 1 + 1 + 1 + 1 + (1 : Nat))).toI = (d.el (↑i : Int).toNat ((0 : Nat) + 1 + 1 + 1 + 1 + 1 + 1 + 1 + 1 + 1 + 1 + 1 + 1 + (1 : Nat))).toI /\ Value.string (d.el (↑i : Int).toNat ((0 : Nat) + 1 + 1 + 1 + 1 + 1 + 1 + 1 + 1 + 1 + 1 + 1 + 1 + 1 + (1 : Nat))).toS = Value.string (d.el (↑i : Int).toNat ((0 : Nat) + 1 + 1 + 1 + 1 + 1 + 1 + 1 + 1 + 1 + 1 + 1 + 1 + 1 + (1 : Nat))).toS /\ (d.el (↑i : Int).toNat ((0 : Nat) + 1 + 1 + 1 + 1 + 1 + 1 + 1 + 1 + 1 + 1 + 1 + 1 + 1 + 1 + (1 : Nat))).rows = (d.el (↑i : Int).toNat ((0 : Nat) + 1 + 1 + 1 + 1 + 1 + 1 + 1 + 1 + 1 + 1 + 1 + 1 + 1 + 1 + (1 : Nat))).rows /\ (d.el (↑i : Int).toNat ((0 : Nat) + 1 + 1 + 1 + 1 + 1 + 1 + 1 + 1 + 1 + 1 + 1 + 1 + 1 + 1 + 1 + (1 : Nat))).rows = (d.el (↑i : Int).toNat ((0 : Nat) + 1 + 1 + 1 + 1 + 1 + 1 + 1 + 1 + 1 + 1 + 1 + 1 + 1 + 1 + 1 + (1 : Nat))).rows /\ (d.el (↑i : Int).toNat ((0 : Nat) + 1 + 1 + 1 + 1 + 1 + 1 + 1 + 1 + 1 + 1 + 1 + 1 + 1 + 1 + 1 + 1 + (1 : Nat))).rows = (d.el (↑i : Int).toNat ((0 : Nat) + 1 + 1 + 1 + 1 + 1 + 1 + 1 + 1 + 1 + 1 + 1 + 1 + 1 + 1 + 1 + 1 + (1 : Nat))).rows /\ (d.el (↑i : Int).toNat ((0 : Nat) + 1 + 1 + 1 + 1 + 1 + 1 + 1 + 1 + 1 + 1 + 1 + 1 + 1 + 1 + 1 + 1 + 1 + (1 : Nat))).rows = (d.el (↑i : Int).toNat ((0 : Nat) + 1 + 1 + 1 + 1 + 1 + 1 + 1 + 1 + 1 + 1 + 1 + 1 + 1 + 1 + 1 + 1 + 1 + (1 : Nat))).rows) /\ ∀ (i_1 : Nat), i_1 <= (d.el i (18 : Nat)).len /\ True -> (decide ((↑i_1 : Int) < (↑(d.el (↑i : Int).toNat ((0 : Nat) + 1 + 1 + 1 + 1 + 1 + 1 + 1 + 1 + 1 + 1 + 1 + 1 + 1 + 1 + 1 + 1 + 1 + (1 : Nat))).len : Int)) = true -> ((0 : Int) <= (↑i_1 : Int) /\ (↑i_1 : Int) < (↑(d.el (↑i : Int).toNat ((0 : Nat) + 1 + 1 + 1 + 1 + 1 + 1 + 1 + 1 + 1 + 1 + 1 + 1 + 1 + 1 + 1 + 1 + 1 + (1 : Nat))).len : Int)) /\ ((0 : Int) <= (↑i_1 : Int) /\ (↑i_1 : Int) < (↑(d.el (↑i : Int).toNat ((0 : Nat) + 1 + 1 + 1 + 1 + 1 + 1 + 1 + 1 + 1 + 1 + 1 + 1 + 1 + 1 + 1 + 1 + 1 + (1 : Nat))).len : Int)) /\ ((0 : Int) <= (↑i_1 : Int) /\ (↑i_1 : Int) < (↑(d.el (↑i : Int).toNat ((0 : Nat) + 1 + 1 + 1 + 1 + 1 + 1 + 1 + 1 + 1 + 1 + 1 + 1 + 1 + 1 + 1 + 1 + 1 + (1 : Nat))).len : Int)) /\ SizeOf.sizeOf ((d.el (↑i : Int).toNat ((0 : Nat) + 1 + 1 + 1 + 1 + 1 + 1 + 1 + 1 + 1 + 1 + 1 + 1 + 1 + 1 + 1 + 1 + 1 + (1 : Nat))).el (↑i_1 : Int).toNat ((0 : Nat) + (2 : Nat))) < m /\ bS ((d.el (↑i : Int).toNat ((0 : Nat) + 1 + 1 + 1 + 1 + 1 + 1 + 1 + 1 + 1 + 1 + 1 + 1 + 1 + 1 + 1 + 1 + 1 + (1 : Nat))).el (↑i_1 : Int).toNat ((0 : Nat) + (2 : Nat))) /\ i_1 = (cpTo i_1 (arR (d.el i (18 : Nat)))).len /\ (i_1 + ((D.l [[D.s ((d.el (↑i : Int).toNat ((0 : Nat) + 1 + 1 + 1 + 1 + 1 + 1 + 1 + 1 + 1 + 1 + 1 + 1 + 1 + 1 + 1 + 1 + 1 + (1 : Nat))).el (↑i_1 : Int).toNat ((0 : Nat) + (0 : Nat))).toS, D.s ((d.el (↑i : Int).toNat ((0 : Nat) + 1 + 1 + 1 + 1 + 1 + 1 + 1 + 1 + 1 + 1 + 1 + 1 + 1 + 1 + 1 + 1 + 1 + (1 : Nat))).el (↑i_1 : Int).toNat ((0 : Nat) + (1 : Nat))).toS, cpB ((d.el (↑i : Int).toNat ((0 : Nat) + 1 + 1 + 1 + 1 + 1 + 1 + 1 + 1 + 1 + 1 + 1 + 1 + 1 + 1 + 1 + 1 + 1 + (1 : Nat))).el (↑i_1 : Int).toNat ((0 : Nat) + (2 : Nat)))]]).sub 0 ((0 : Nat) + (1 : Nat))).len) * 56 <= 140737488355328 /\ 0 + 1 <= (D.l [[D.s ((d.el (↑i : Int).toNat ((0 : Nat) + 1 + 1 + 1 + 1 + 1 + 1 + 1 + 1 + 1 + 1 + 1 + 1 + 1 + 1 + 1 + 1 + 1 + (1 : Nat))).el (↑i_1 : Int).toNat ((0 : Nat) + (0 : Nat))).toS, D.s ((d.el (↑i : Int).toNat ((0 : Nat) + 1 + 1 + 1 + 1 + 1 + 1 + 1 + 1 + 1 + 1 + 1 + 1 + 1 + 1 + 1 + 1 + 1 + (1 : Nat))).el (↑i_1 : Int).toNat ((0 : Nat) + (1 : Nat))).toS, cpB ((d.el (↑i : Int).toNat ((0 : Nat) + 1 + 1 + 1 + 1 + 1 + 1 + 1 + 1 + 1 + 1 + 1 + 1 + 1 + 1 + 1 + 1 + 1 + (1 : Nat))).el (↑i_1 : Int).toNat ((0 : Nat) + (2 : Nat)))]]).len /\ ∃ (j : Nat), (j <= (d.el i (18 : Nat)).len /\ True) /\ 1000001 - j < 1000001 - i_1 /\ IntKind.i64.wrap ((↑i_1 : Int) + 1) = (↑j : Int) /\ d.rows = d.rows /\ i = i /\ (↑i : Int) = (↑i : Int) /\ (d.el i (0 : Nat)).toI = (d.el i (0 : Nat)).toI /\ Value.string (d.el i (1 : Nat)).toS = Value.string (d.el i (1 : Nat)).toS /\ Value.string (d.el i (2 : Nat)).toS = Value.string (d.el i (2 : Nat)).toS /\ (d.el i (3 : Nat)).toI = (d.el i (3 : Nat)).toI /\ (d.el i (4 : Nat)).toI = (d.el i (4 : Nat)).toI /\ Value.string (d.el i (5 : Nat)).toS = Value.string (d.el i (5 : Nat)).toS /\ (cpE (d.el i (6 : Nat))).rows = (cpE (d.el i (6 : Nat))).rows /\ (d.el i (7 : Nat)).toI = (d.el i (7 : Nat)).toI /\ (d.el i (8 : Nat)).toI = (d.el i (8 : Nat)).toI /\ (d.el i (9 : Nat)).toI = (d.el i (9 : Nat)).toI /\ Value.string (d.el i (10 : Nat)).toS = Value.string (d.el i (10 : Nat)).toS /\ (cpE (d.el i (11 : Nat))).rows = (cpE (d.el i (11 : Nat))).rows /\ (d.el i (12 : Nat)).toI = (d.el i (12 : Nat)).toI /\ (d.el i (13 : Nat)).toI = (d.el i (13 : Nat)).toI /\ Value.string (d.el i (14 : Nat)).toS = Value.string (d.el i (14 : Nat)).toS /\ (cpE (d.el i (15 : Nat))).rows = (cpE (d.el i (15 : Nat))).rows /\ (cpB (d.el i (16 : Nat))).rows = (cpB (d.el i (16 : Nat))).rows /\ (cpB (d.el i (17 : Nat))).rows = (cpB (d.el i (17 : Nat))).rows /\ i_1 + ((D.l [[D.s ((d.el (↑i : Int).toNat ((0 : Nat) + 1 + 1 + 1 + 1 + 1 + 1 + 1 + 1 + 1 + 1 + 1 + 1 + 1 + 1 + 1 + 1 + 1 + (1 : Nat))).el (↑i_1 : Int).toNat ((0 : Nat) + (0 : Nat))).toS, D.s ((d.el (↑i : Int).toNat ((0 : Nat) + 1 + 1 + 1 + 1 + 1 + 1 + 1 + 1 + 1 + 1 + 1 + 1 + 1 + 1 + 1 + 1 + 1 + (1 : Nat))).el (↑i_1 : Int).toNat ((0 : Nat) + (1 : Nat))).toS, cpB ((d.el (↑i : Int).toNat ((0 : Nat) + 1 + 1 + 1 + 1 + 1 + 1 + 1 + 1 + 1 + 1 + 1 + 1 + 1 + 1 + 1 + 1 + 1 + (1 : Nat))).el (↑i_1 : Int).toNat ((0 : Nat) + (2 : Nat)))]]).sub 0 ((0 : Nat) + (1 : Nat))).len = j /\ List.map (arR (d.el i (18 : Nat))) (List.range i_1) ++ List.drop 0 (List.take ((0 : Nat) + (1 : Nat)) [[D.s ((d.el (↑i : Int).toNat ((0 : Nat) + 1 + 1 + 1 + 1 + 1 + 1 + 1 + 1 + 1 + 1 + 1 + 1 + 1 + 1 + 1 + 1 + 1 + (1 : Nat))).el (↑i_1 : Int).toNat ((0 : Nat) + (0 : Nat))).toS, D.s ((d.el (↑i : Int).toNat ((0 : Nat) + 1 + 1 + 1 + 1 + 1 + 1 + 1 + 1 + 1 + 1 + 1 + 1 + 1 + 1 + 1 + 1 + 1 + (1 : Nat))).el (↑i_1 : Int).toNat ((0 : Nat) + (1 : Nat))).toS, cpB ((d.el (↑i : Int).toNat ((0 : Nat) + 1 + 1 + 1 + 1 + 1 + 1 + 1 + 1 + 1 + 1 + 1 + 1 + 1 + 1 + 1 + 1 + 1 + (1 : Nat))).el (↑i_1 : Int).toNat ((0 : Nat) + (2 : Nat)))]]) = List.map (arR (d.el i (18 : Nat))) (List.range j) /\ List.map (rSt d) (List.range i) = List.map (rSt d) (List.range i) /\ (d.el (↑i : Int).toNat (0 : Nat)).toI = (d.el (↑i : Int).toNat (0 : Nat)).toI /\ Value.string (d.el (↑i : Int).toNat ((0 : Nat) + (1 : Nat))).toS = Value.string (d.el (↑i : Int).toNat ((0 : Nat) + (1 : Nat))).toS /\ Value.string (d.el (↑i : Int).toNat ((0 : Nat) + 1 + (1 : Nat))).toS = Value.string (d.el (↑i : Int).toNat ((0 : Nat) + 1 + (1 : Nat))).toS /\ (d.el (↑i : Int).toNat ((0 : Nat) + 1 + 1 + (1 : Nat))).toI = (d.el (↑i : Int).toNat ((0 : Nat) + 1 + 1 + (1 : Nat))).toI /\ (d.el (↑i : Int).toNat ((0 : Nat) + 1 + 1 + 1 + (1 : Nat))).toI = (d.el (↑i : Int).toNat ((0 : Nat) + 1 + 1 + 1 + (1 : Nat))).toI /\ Value.string (d.el (↑i : Int).toNat ((0 : Nat) + 1 + 1 + 1 + 1 + (1 : Nat))).toS = Value.string (d.el (↑i : Int).toNat ((0 : Nat) + 1 + 1 + 1 + 1 + (1 : Nat))).toS /\ (d.el (↑i : Int).toNat ((0 : Nat) + 1 + 1 + 1 + 1 + 1 + (1 : Nat))).rows = (d.el (↑i : Int).toNat ((0 : Nat) + 1 + 1 + 1 + 1 + 1 + (1 : Nat))).rows /\ (d.el (↑i : Int).toNat ((0 : Nat) + 1 + 1 + 1 + 1 + 1 + 1 + (1 : Nat))).toI = (d.el (↑i : Int).toNat ((0 : Nat) + 1 + 1 + 1 + 1 + 1 + 1 + (1 : Nat))).toI /\ (d.el (↑i : Int).toNat ((0 : Nat) + 1 + 1 + 1 + 1 + 1 + 1 + 1 + (1 : Nat))).toI = (d.el (↑i : Int).toNat ((0 : Nat) + 1 + 1 + 1 + 1 + 1 + 1 + 1 + (1 : Nat))).toI /\ (d.el (↑i : Int).toNat ((0 : Nat) + 1 + 1 + 1 + 1 + 1 + 1 + 1 + 1 + (1 : Nat))).toI = (d.el (↑i : Int).toNat ((0 : Nat) + 1 + 1 + 1 + 1 + 1 + 1 + 1 + 1 + (1 : Nat))).toI /\ Value.string (d.el (↑i : Int).toNat ((0 : Nat) + 1 + 1 + 1 + 1 + 1 + 1 + 1 + 1 + 1 + (1 : Nat))).toS = Value.string (d.el (↑i : Int).toNat ((0 : Nat) + 1 + 1 + 1 + 1 + 1 + 1 + 1 + 1 + 1 + (1 : Nat))).toS /\ (d.el (↑i : Int).toNat ((0 : Nat) + 1 + 1 + 1 + 1 + 1 + 1 + 1 + 1 + 1 + 1 + (1 : Nat))).rows = (d.el (↑i : Int).toNat ((0 : Nat) + 1 + 1 + 1 + 1 + 1 + 1 + 1 + 1 + 1 + 1 + (1 : Nat))).rows /\ (d.el (↑i : Int).toNat ((0 : Nat) + 1 + 1 + 1 + 1 + 1 + 1 + 1 + 1 + 1 + 1 + 1 + (1 : Nat))).toI = (d.el (↑i : Int).toNat ((0 : Nat) + 1 + 1 + 1 + 1 + 1 + 1 + 1 + 1 + 1 + 1 + 1 + (1 : Nat))).toI /\ (d.el (↑i : Int).toNat ((0 : Nat) + 1 + 1 + 1 + 1 + 1 + 1 + 1 + 1 + 1 + 1 + 1 + 1 + (1 : Nat))).toI = (d.el (↑i : Int).toNat ((0 : Nat) + 1 + 1 + 1 + 1 + 1 + 1 + 1 + 1 + 1 + 1 + 1 + 1 + (1 : Nat))).toI /\ Value.string (d.el (↑i : Int).toNat ((0 : Nat) + 1 + 1 + 1 + 1 + 1 + 1 + 1 + 1 + 1 + 1 + 1 + 1 + 1 + (1 : Nat))).toS = Value.string (d.el (↑i : Int).toNat ((0 : Nat) + 1 + 1 + 1 + 1 + 1 + 1 + 1 + 1 + 1 + 1 + 1 + 1 + 1 + (1 : Nat))).toS /\ (d.el (↑i : Int).toNat ((0 : Nat) + 1 + 1 + 1 + 1 + 1 + 1 + 1 + 1 + 1 + 1 + 1 + 1 + 1 + 1 + (1 : Nat))).rows = (d.el (↑i : Int).toNat ((0 : Nat) + 1 + 1 + 1 + 1 + 1 + 1 + 1 + 1 + 1 + 1 + 1 + 1 + 1 + 1 + (1 : Nat))).rows /\ (d.el (↑i : Int).toNat ((0 : Nat) + 1 + 1 + 1 + 1 + 1 + 1 + 1 + 1 + 1 + 1 + 1 + 1 + 1 + 1 + 1 + (1 : Nat))).rows = (d.el (↑i : Int).toNat ((0 : Nat) + 1 + 1 + 1 + 1 + 1 + 1 + 1 + 1 + 1 + 1 + 1 + 1 + 1 + 1 + 1 + (1 : Nat))).rows /\ (d.el (↑i : Int).toNat ((0 : Nat) + 1 + 1 + 1 + 1 + 1 + 1 + 1 + 1 + 1 + 1 + 1 + 1 + 1 + 1 + 1 + 1 + (1 : Nat))).rows = (d.el (↑i : Int).toNat ((0 : Nat) + 1 + 1 + 1 + 1 + 1 + 1 + 1 + 1 + 1 + 1 + 1 + 1 + 1 + 1 + 1 + 1 + (1 : Nat))).rows /\ (d.el (↑i : Int).toNat ((0 : Nat) + 1 + 1 + 1 + 1 + 1 + 1 + 1 + 1 + 1 + 1 + 1 + 1 + 1 + 1 + 1 + 1 + 1 + (1 : Nat))).rows = (d.el (↑i : Int).toNat ((0 : Nat) + 1 + 1 + 1 + 1 + 1 + 1 + 1 + 1 + 1 + 1 + 1 + 1 + 1 + 1 + 1 + 1 + 1 + (1 : Nat))).rows) /\ (decide ((↑i_1 : Int) < (↑(d.el (↑i : Int).toNat ((0 : Nat) + 1 + 1 + 1 + 1 + 1 + 1 + 1 + 1 + 1 + 1 + 1 + 1 + 1 + 1 + 1 + 1 + 1 + (1 : Nat))).len : Int)) = false -> 0 + i_1 <= (cpTo i_1 (arR (d.el i (18 : Nat)))).len /\ i = (cpTo i (rSt d)).len /\ (i + ((D.l [[D.i (d.el i (0 : Nat)).toI, D.s (d.el i (1 : Nat)).toS, D.s (d.el i (2 : Nat)).toS, D.i (d.el i (3 : Nat)).toI, D.i (d.el i (4 : Nat)).toI, D.s (d.el i (5 : Nat)).toS, cpE (d.el i (6 : Nat)), D.i (d.el i (7 : Nat)).toI, D.i (d.el i (8 : Nat)).toI, D.i (d.el i (9 : Nat)).toI, D.s (d.el i (10 : Nat)).toS, cpE (d.el i (11 : Nat)), D.i (d.el i (12 : Nat)).toI, D.i (d.el i (13 : Nat)).toI, D.s (d.el i (14 : Nat)).toS, cpE (d.el i (15 : Nat)), cpB (d.el i (16 : Nat)), cpB (d.el i (17 : Nat)), (cpTo i_1 (arR (d.el i (18 : Nat)))).sub 0 ((0 : Nat) + i_1)]]).sub 0 ((0 : Nat) + (1 : Nat))).len) * 288 <= 140737488355328 /\ 0 + 1 <= (D.l [[D.i (d.el i (0 : Nat)).toI, D.s (d.el i (1 : Nat)).toS, D.s (d.el i (2 : Nat)).toS, D.i (d.el i (3 : Nat)).toI, D.i (d.el i (4 : Nat)).toI, D.s (d.el i (5 : Nat)).toS, cpE (d.el i (6 : Nat)), D.i (d.el i (7 : Nat)).toI, D.i (d.el i (8 : Nat)).toI, D.i (d.el i (9 : Nat)).toI, D.s (d.el i (10 : Nat)).toS, cpE (d.el i (11 : Nat)), D.i (d.el i (12 : Nat)).toI, D.i (d.el i (13 : Nat)).toI, D.s (d.el i (14 : Nat)).toS, cpE (d.el i (15 : Nat)), cpB (d.el i (16 : Nat)), cpB (d.el i (17 : Nat)), (cpTo i_1 (arR (d.el i (18 : Nat)))).sub 0 ((0 : Nat) + i_1)]]).len /\ ∃ (j : Nat), j.le d.len /\ d.len + 1 - j < d.len + 1 - i /\ IntKind.i64.wrap ((↑i : Int) + 1) = (↑j : Int) /\ i + ((D.l [[D.i (d.el i (0 : Nat)).toI, D.s (d.el i (1 : Nat)).toS, D.s (d.el i (2 : Nat)).toS, D.i (d.el i (3 : Nat)).toI, D.i (d.el i (4 : Nat)).toI, D.s (d.el i (5 : Nat)).toS, cpE (d.el i (6 : Nat)), D.i (d.el i (7 : Nat)).toI, D.i (d.el i (8 : Nat)).toI, D.i (d.el i (9 : Nat)).toI, D.s (d.el i (10 : Nat)).toS, cpE (d.el i (11 : Nat)), D.i (d.el i (12 : Nat)).toI, D.i (d.el i (13 : Nat)).toI, D.s (d.el i (14 : Nat)).toS, cpE (d.el i (15 : Nat)), cpB (d.el i (16 : Nat)), cpB (d.el i (17 : Nat)), (cpTo i_1 (arR (d.el i (18 : Nat)))).sub 0 ((0 : Nat) + i_1)]]).sub 0 ((0 : Nat) + (1 : Nat))).len = j /\ d.rows = d.rows /\ List.map (rSt d) (List.range i) ++ List.drop 0 (List.take ((0 : Nat) + (1 : Nat)) [[D.i (d.el i (0 : Nat)).toI, D.s (d.el i (1 : Nat)).toS, D.s (d.el i (2 : Nat)).toS, D.i (d.el i (3 : Nat)).toI, D.i (d.el i (4 : Nat)).toI, D.s (d.el i (5 : Nat)).toS, cpE (d.el i (6 : Nat)), D.i (d.el i (7 : Nat)).toI, D.i (d.el i (8 : Nat)).toI, D.i (d.el i (9 : Nat)).toI, D.s (d.el i (10 : Nat)).toS, cpE (d.el i (11 : Nat)), D.i (d.el i (12 : Nat)).toI, D.i (d.el i (13 : Nat)).toI, D.s (d.el i (14 : Nat)).toS, cpE (d.el i (15 : Nat)), cpB (d.el i (16 : Nat)), cpB (d.el i (17 : Nat)), (cpTo i_1 (arR (d.el i (18 : Nat)))).sub 0 ((0 : Nat) + i_1)]]) = List.map (rSt d) (List.range j))) /\ (decide ((↑i : Int) < (↑d.len : Int)) = false -> 0 + i <= (cpTo i (rSt d)).len /\ List.drop 0 (List.take ((0 : Nat) + i) (List.map (rSt d) (List.range i))) = (cpB d).rows)) (by kernel_rfl) ?_
    intro hm hs
    rw [bS_iff] at hs
    obtain ⟨hl, hk⟩ := hs
    refine ⟨⟨0, Nat.zero_le _, rfl, rfl, rfl, rfl⟩, fun i hi => ⟨fun hc => ?_, fun hc => ?_⟩⟩
    · have hc := of_decide_eq_true hc
      have hi2 : i < d.len := by omega
      have hw2 : IntKind.i64.wrap ((i : Int) + 1) = ((i + 1 : Nat) : Int) := by rw [IntWalk.i64_in _ (by omega)]; omega
      obtain ⟨a1, a2, a3, b1, b2, am, ab⟩ := hk i hi2
      have z1 := lel_lt (j := 16) hi2
      have z2 := lel_lt (j := 17) hi2
      have z3 := lel_lt (j := 18) hi2
      refine ⟨⟨by omega, by omega⟩, a1, a2, a3, (show SizeOf.sizeOf (d.el i 16) < m by omega), b1, (show SizeOf.sizeOf (d.el i 17) < m by omega), b2, ⟨0, ⟨Nat.zero_le _, trivial⟩, ?_⟩, fun q hq => ⟨fun hd => ?_, fun hd => ?_⟩⟩
      · (repeat' apply And.intro) <;> rfl
      · have hd := of_decide_eq_true hd
        have hq2 : q < (d.el i 18).len := by have : (q : Int) < ((d.el i 18).len : Int) := hd; omega
        have hwq : IntKind.i64.wrap ((q : Int) + 1) = ((q + 1 : Nat) : Int) := by rw [IntWalk.i64_in _ (by omega)]; omega
        have zq := lel_lt (j := 2) hq2
        refine ⟨⟨by omega, hd⟩, ⟨by omega, hd⟩, ⟨by omega, hd⟩, (show SizeOf.sizeOf ((d.el i 18).el q 2) < m by omega), ab q hq2, (cpTo_len _ _).symm, (show (q + 1) * 56 <= 140737488355328 by omega), Nat.le_refl _, q + 1, ⟨hq2, trivial⟩, by omega, hwq, ?_⟩
        (repeat' apply And.intro) <;> first | exact (cpTo_succ q (arR (d.el i 18))).symm | rfl
      · have hd := of_decide_eq_false hd
        have hq3 : q = (d.el i 18).len := by have : ¬ (q : Int) < ((d.el i 18).len : Int) := hd; have := hq.1; omega
        subst hq3
        rw [cpTo_all]
        exact ⟨by rw [cpTo_len]; omega, (cpTo_len _ _).symm, (show (i + 1) * 288 <= 140737488355328 by omega), Nat.le_refl _, i + 1, hi2, by omega, hw2, rfl, rfl, (cpTo_succ i (rSt d)).symm⟩
    · have hc := of_decide_eq_false hc
      have hi3 : i = d.len := by have : i <= d.len := hi; omega
      subst hi3
      refine ⟨by rw [cpTo_len]; omega, ?_⟩
      rw [cpB_eq, Nat.zero_add, List.drop_zero, List.take_of_length_le (by simp)]; rfl
  · trivial
theorem scp_ok : ConOK Try.prog 29 scpC :=
  con_rec scpM (fun _ _ => by kernel_rfl) fun m ih => by
    rw [scp_under] at ih ⊢
    exact scp_step m ih
end Go.Proofs.Ytbhbjhejkamlnaa.Sx.Z
namespace Go.Proofs.Ytbhbjhejkamlnaa.Sx
def cellId (s : St) (t j : Nat) : Nat := match look s.hp (idOf s t) with | some (.own _ l) => (match l[j]? with | some (.c (.osl _ id _ _)) => id | _ => 0) | _ => 0
end Go.Proofs.Ytbhbjhejkamlnaa.Sx
namespace Go.Proofs.Ytbhbjhejkamlnaa.Sx.Z
open Go.RowKit
def lSyr : AP := .agg [.c (.rows 73), .c (.rows 78), .c (.rows 54)]
def nD (d : D) : D := .l d.rows
theorem nD_app (d : D) : ((D.l []).app d).sub 0 (0 + (0 + d.len)) = nD d := by
  rw [Nat.zero_add, Nat.zero_add]
  show D.l (List.drop 0 (List.take d.rows.length ([] ++ d.rows))) = D.l d.rows
  rw [List.nil_append, List.take_length]; rfl
theorem app_le (d : D) : 0 + (0 + d.len) <= ((D.l []).app d).len := by
  rw [D.app_len]
  show 0 + (0 + d.len) <= 0 + d.len
  omega
theorem takeAll (n : Nat) (f : Nat -> List D) : List.drop 0 (List.take (0 + n) ((List.range n).map f)) = (List.range n).map f := by
  rw [Nat.zero_add, List.drop_zero, List.take_of_length_le (by simp)]
def chRq (ch : D) (i : Nat) : List D := [D.s (ch.el i 0).toS, D.i (ch.el i 1).toI, D.i (ch.el i 2).toI, D.s (ch.el i 3).toS, D.s (ch.el i 4).toS, nD (ch.el i 5)]
def mvR (mv : D) (i : Nat) : List D := [D.i (mv.el i 0).toI, D.s (mv.el i 1).toS, D.i (mv.el i 2).toI]
def ruRq (ru : D) (i : Nat) : List D := [D.s (ru.el i 0).toS, cpTo (ru.el i 1).len (mvR (ru.el i 1))]
def prR (pr : D) (i : Nat) : List D := [D.s (pr.el i 0).toS, nD (pr.el i 1), cpB (pr.el i 2)]
def cpC (ch : D) : D := cpTo ch.len (chRq ch)
def cpU (ru : D) : D := cpTo ru.len (ruRq ru)
def cpP (pr : D) : D := cpTo pr.len (prR pr)
structure SyS (ch ru pr : D) : Prop where
  c : ch.len <= 1000000
  ct : ∀ i, i < ch.len -> (ch.el i 5).len <= 1000000
  r : ru.len <= 1000000
  rm : ∀ i, i < ru.len -> (ru.el i 1).len <= 1000000
  p : pr.len <= 1000000
  pv : ∀ i, i < pr.len -> (pr.el i 1).len <= 1000000
  pb : ∀ i, i < pr.len -> bS (pr.el i 2)
noncomputable def ycpS : FSpec := fun ds _ => match ds with
  | [.d ch, .d ru, .d pr] => some { val := .one (.agg [.c (.rows 97 (cpC ch)), .c (.rows 102 (cpU ru)), .c (.rows 87 (cpP pr))]), vc := [SyS ch ru pr] }
  | _ => none
noncomputable def ycpC : Con := con [lSyr] ycpS
theorem ycp_ok : ConOK Try.prog 11 ycpC := by
  refine fn_ob tt_ok mixed Try.func11 rfl (fun _ _ => by kernel_rfl) (A := fun ds => ⟨fun _ => Cons.of [(29, scpC)], fun k => match k, ds with | 3, [.d ch, .d ru, .d pr] => some { ι := Nat, pre := fun _ i => i <= ch.len, μ := fun i => ch.len + 1 - i, st := fun s i => famR s [(4, .one (.sc (.int .i64 (.sym ((i : Nat))))))] [1, 2, 3] [(idOf s 3, .own 26 ([.c (.osl 97 (s.nx - 1) (.lit 0) (.sym (i))), .c .nils, .c .nils])), (s.nx - 1, .orow 97 (cpTo (i) (chRq ch)))] [1, 2] } | 8, [.d ch, .d ru, .d pr] => some { ι := Nat, pre := fun _ i => i <= ru.len, μ := fun i => ru.len + 1 - i, st := fun s i => famR s [(6, .one (.sc (.int .i64 (.sym ((i : Nat))))))] [1, 2, 3] [(idOf s 3, .own 26 ([.c (.osl 97 (cellId s 3 0) (.lit 0) (.sym (ch.len))), .c (.osl 102 (s.nx - 1) (.lit 0) (.sym (i))), .c .nils])), (cellId s 3 0, .orow 97 (cpTo (ch.len) (chRq ch))), (s.nx - 1, .orow 102 (cpTo (i) (ruRq ru)))] [1, 2] } | 12, [.d ch, .d ru, .d pr] => some { ι := Nat, pre := fun s q => q <= (ru.el (slotN s 6) 1).len /\ True, μ := fun q => 1000001 - q, st := fun s q => famR s [(8, .one (.sc (.int .i64 (.sym ((q : Nat))))))] [1, 2, 3, 6, 7] [(idOf s 7, .own 102 ([.c (.raw (.string ((ru.el (slotN s 6) 0).toS))), .c (.osl 106 (s.nx - 1) (.lit 0) (.sym (q)))])), (s.nx - 1, .orow 106 (cpTo q (mvR (ru.el (slotN s 6) 1)))), (cellId s 3 0, .orow 97 (cpTo (ch.len) (chRq ch))), (cellId s 3 1, .orow 102 (cpTo (slotN s 6) (ruRq ru)))] [1, 2, 3] } | 18, [.d ch, .d ru, .d pr] => some { ι := Nat, pre := fun _ i => i <= pr.len, μ := fun i => pr.len + 1 - i, st := fun s i => famR s [(10, .one (.sc (.int .i64 (.sym ((i : Nat))))))] [1, 2, 3] [(idOf s 3, .own 26 ([.c (.osl 97 (cellId s 3 0) (.lit 0) (.sym (ch.len))), .c (.osl 102 (cellId s 3 1) (.lit 0) (.sym (ru.len))), .c (.osl 87 (s.nx - 1) (.lit 0) (.sym (i)))])), (cellId s 3 0, .orow 97 (cpTo (ch.len) (chRq ch))), (cellId s 3 1, .orow 102 (cpTo (ru.len) (ruRq ru))), (s.nx - 1, .orow 87 (cpTo (i) (prR pr)))] [1, 2] } | _, _ => none, fun _ => none⟩) (fun _ _ => (cons_cons scp_ok cons_nil)) (by kernel_rfl) ?_
  intro ds fr
  unfold ycpS
  split
  · rename_i ch ru pr
    refine kmp (q := SyS ch ru pr -> (∃ (i : Nat), i.le ch.len /\ (0 : Int) = (↑i : Int) /\ i = 0 /\ List.map (chRq ch) (List.range i) = [] /\ ch.rows = ch.rows /\ ru.rows = ru.rows /\ pr.rows = pr.rows) /\ ∀ (i : Nat), i.le ch.len -> (decide ((↑i : Int) < (↑ch.len : Int)) = true -> ((0 : Int) <= (↑i : Int) /\ (↑i : Int) < (↑ch.len : Int)) /\ 0 = (D.l []).len /\ ((0 : Nat) + (ch.el (↑i : Int).toNat ((0 : Nat) + 1 + 1 + 1 + 1 + (1 : Nat))).len) * 16 <= 140737488355328 /\ 0 + ((0 : Nat) + (ch.el (↑i : Int).toNat ((0 : Nat) + 1 + 1 + 1 + 1 + (1 : Nat))).len) <= ((D.l []).app (ch.el (↑i : Int).toNat ((0 : Nat) + 1 + 1 + 1 + 1 + (1 : Nat)))).len /\ i = (cpTo i (chRq ch)).len /\ (i + ((D.l [[D.s (ch.el (↑i : Int).toNat (0 : Nat)).toS, D.i (ch.el (↑i : Int).toNat ((0 : Nat) + (1 : Nat))).toI, D.i (ch.el (↑i : Int).toNat ((0 : Nat) + 1 + (1 : Nat))).toI, D.s (ch.el (↑i : Int).toNat ((0 : Nat) + 1 + 1 + (1 : Nat))).toS, D.s (ch.el (↑i : Int).toNat ((0 : Nat) + 1 + 1 + 1 + (1 : Nat))).toS, ((D.l []).app (ch.el (↑i : Int).toNat ((0 : Nat) + 1 + 1 + 1 + 1 + (1 : Nat)))).sub 0 ((0 : Nat) + ((0 : Nat) + (ch.el (↑i : Int).toNat ((0 : Nat) + 1 + 1 + 1 + 1 + (1 : Nat))).len))]]).sub 0 ((0 : Nat) + (1 : Nat))).len) * 88 <= 140737488355328 /\ 0 + 1 <= (D.l [[D.s (ch.el (↑i : Int).toNat (0 : Nat)).toS, D.i (ch.el (↑i : Int).toNat ((0 : Nat) + (1 : Nat))).toI, D.i (ch.el (↑i : Int).toNat ((0 : Nat) + 1 + (1 : Nat))).toI, D.s (ch.el (↑i : Int).toNat ((0 : Nat) + 1 + 1 + (1 : Nat))).toS, D.s (ch.el (↑i : Int).toNat ((0 : Nat) + 1 + 1 + 1 + (1 : Nat))).toS, ((D.l []).app (ch.el (↑i : Int).toNat ((0 : Nat) + 1 + 1 + 1 + 1 + (1 : Nat)))).sub 0 ((0 : Nat) + ((0 : Nat) + (ch.el (↑i : Int).toNat ((0 : Nat) + 1 + 1 + 1 + 1 + (1 : Nat))).len))]]).len /\ ∃ (j : Nat), j.le ch.len /\ ch.len + 1 - j < ch.len + 1 - i /\ IntKind.i64.wrap ((↑i : Int) + 1) = (↑j : Int) /\ i + ((D.l [[D.s (ch.el (↑i : Int).toNat (0 : Nat)).toS, D.i (ch.el (↑i : Int).toNat ((0 : Nat) + (1 : Nat))).toI, D.i (ch.el (↑i : Int).toNat ((0 : Nat) + 1 + (1 : Nat))).toI, D.s (ch.el (↑i : Int).toNat ((0 : Nat) + 1 + 1 + (1 : Nat))).toS, D.s (ch.el (↑i : Int).toNat ((0 : Nat) + 1 + 1 + 1 + (1 : Nat))).toS, ((D.l []).app (ch.el (↑i : Int).toNat ((0 : Nat) + 1 + 1 + 1 + 1 + (1 : Nat)))).sub 0 ((0 : Nat) + ((0 : Nat) + (ch.el (↑i : Int).toNat ((0 : Nat) + 1 + 1 + 1 + 1 + (1 : Nat))).len))]]).sub 0 ((0 : Nat) + (1 : Nat))).len = j /\ List.map (chRq ch) (List.range i) ++ List.drop 0 (List.take ((0 : Nat) + (1 : Nat)) [[D.s (ch.el (↑i : Int).toNat (0 : Nat)).toS, D.i (ch.el (↑i : Int).toNat ((0 : Nat) + (1 : Nat))).toI, D.i (ch.el (↑i : Int).toNat ((0 : Nat) + 1 + (1 : Nat))).toI, D.s (ch.el (↑i : Int).toNat ((0 : Nat) + 1 + 1 + (1 : Nat))).toS, D.s (ch.el (↑i : Int).toNat ((0 : Nat) + 1 + 1 + 1 + (1 : Nat))).toS, ((D.l []).app (ch.el (↑i : Int).toNat ((0 : Nat) + 1 + 1 + 1 + 1 + (1 : Nat)))).sub 0 ((0 : Nat) + ((0 : Nat) + (ch.el (↑i : Int).toNat ((0 : Nat) + 1 + 1 + 1 + 1 + (1 : Nat))).len))]]) = List.map (chRq ch) (List.range j) /\ ch.rows = ch.rows /\ ru.rows = ru.rows /\ pr.rows = pr.rows) /\ (decide ((↑i : Int) < (↑ch.len : Int)) = false -> (∃ (i_1 : Nat), i_1.le ru.len /\ (0 : Int) = (↑i_1 : Int) /\ i = ch.len /\ i_1 = 0 /\ List.map (chRq ch) (List.range i) = List.map (chRq ch) (List.range ch.len) /\ List.map (ruRq ru) (List.range i_1) = [] /\ ch.rows = ch.rows /\ ru.rows = ru.rows /\ pr.rows = pr.rows) /\ ∀ (i : Nat), i.le ru.len -> (decide ((↑i : Int) < (↑ru.len : Int)) = true -> ((0 : Int) <= (↑i : Int) /\ (↑i : Int) < (↑ru.len : Int)) /\ (∃ (i_1 : Nat), (i_1 <= (ru.el i (1 : Nat)).len /\ True) /\ (0 : Int) = (↑i_1 : Int) /\ (↑i : Int) = (↑i : Int) /\ Value.string (ru.el (↑i : Int).toNat ((0 : Nat) + (0 : Nat))).toS = Value.string (ru.el i (0 : Nat)).toS /\ i_1 = 0 /\ List.map (mvR (ru.el i (1 : Nat))) (List.range i_1) = [] /\ List.map (chRq ch) (List.range ch.len) = List.map (chRq ch) (List.range ch.len) /\ List.map (ruRq ru) (List.range i) = List.map (ruRq ru) (List.range i) /\ ch.rows = ch.rows /\ ru.rows = ru.rows /\ pr.rows = pr.rows /\ ch.len = ch.len /\ i = i) /\ ∀ (i_1 : Nat), i_1 <= (ru.el i (1 : Nat)).len /\ True -> ((0 : Int) <= (↑i : Int) /\ (↑i : Int) < (↑ru.len : Int)) /\ (decide ((↑i_1 : Int) < (↑(ru.el (↑i : Int).toNat ((0 : Nat) + (1 : Nat))).len : Int)) = true -> ((0 : Int) <= (↑i : Int) /\ (↑i : Int) < (↑ru.len : Int)) /\ ((0 : Int) <= (↑i_1 : Int) /\ (↑i_1 : Int) < (↑(ru.el (↑i : Int).toNat ((0 : Nat) + (1 : Nat))).len : Int)) /\ i_1 = (cpTo i_1 (mvR (ru.el i (1 : Nat)))).len /\ (i_1 + ((D.l [[D.i ((ru.el (↑i : Int).toNat ((0 : Nat) + (1 : Nat))).el (↑i_1 : Int).toNat (0 : Nat)).toI, D.s ((ru.el (↑i : Int).toNat ((0 : Nat) + (1 : Nat))).el (↑i_1 : Int).toNat ((0 : Nat) + (1 : Nat))).toS, D.i ((ru.el (↑i : Int).toNat ((0 : Nat) + (1 : Nat))).el (↑i_1 : Int).toNat ((0 : Nat) + 1 + (1 : Nat))).toI]]).sub 0 ((0 : Nat) + (1 : Nat))).len) * 32 <= 140737488355328 /\ 0 + 1 <= (D.l [[D.i ((ru.el (↑i : Int).toNat ((0 : Nat) + (1 : Nat))).el (↑i_1 : Int).toNat (0 : Nat)).toI, D.s ((ru.el (↑i : Int).toNat ((0 : Nat) + (1 : Nat))).el (↑i_1 : Int).toNat ((0 : Nat) + (1 : Nat))).toS, D.i ((ru.el (↑i : Int).toNat ((0 : Nat) + (1 : Nat))).el (↑i_1 : Int).toNat ((0 : Nat) + 1 + (1 : Nat))).toI]]).len /\ ∃ (j : Nat), (j <= (ru.el i (1 : Nat)).len /\ True) /\ 1000001 - j < 1000001 - i_1 /\ IntKind.i64.wrap ((↑i_1 : Int) + 1) = (↑j : Int) /\ (↑i : Int) = (↑i : Int) /\ Value.string (ru.el i (0 : Nat)).toS = Value.string (ru.el i (0 : Nat)).toS /\ i_1 + ((D.l [[D.i ((ru.el (↑i : Int).toNat ((0 : Nat) + (1 : Nat))).el (↑i_1 : Int).toNat (0 : Nat)).toI, D.s ((ru.el (↑i : Int).toNat ((0 : Nat) + (1 : Nat))).el (↑i_1 : Int).toNat ((0 : Nat) + (1 : Nat))).toS, D.i ((ru.el (↑i : Int).toNat ((0 : Nat) + (1 : Nat))).el (↑i_1 : Int).toNat ((0 : Nat) + 1 + (1 : Nat))).toI]]).sub 0 ((0 : Nat) + (1 : Nat))).len = j /\ List.map (mvR (ru.el i (1 : Nat))) (List.range i_1) ++ List.drop 0 (List.take ((0 : Nat) + (1 : Nat)) [[D.i ((ru.el (↑i : Int).toNat ((0 : Nat) + (1 : Nat))).el (↑i_1 : Int).toNat (0 : Nat)).toI, D.s ((ru.el (↑i : Int).toNat ((0 : Nat) + (1 : Nat))).el (↑i_1 : Int).toNat ((0 : Nat) + (1 : Nat))).toS, D.i ((ru.el (↑i : Int).toNat ((0 : Nat) + (1 : Nat))).el (↑i_1 : Int).toNat ((0 : Nat) + 1 + (1 : Nat))).toI]]) = List.map (mvR (ru.el i (1 : Nat))) (List.range j) /\ List.map (chRq ch) (List.range ch.len) = List.map (chRq ch) (List.range ch.len) /\ List.map (ruRq ru) (List.range i) = List.map (ruRq ru) (List.range i) /\ ch.rows = ch.rows /\ ru.rows = ru.rows /\ pr.rows = pr.rows /\ ch.len = ch.len /\ i = i) /\ (decide ((↑i_1 : Int) < (↑(ru.el (↑i : Int).toNat ((0 : Nat) + (1 : Nat))).len : Int)) = false -> 0 + i_1 <= (cpTo i_1 (mvR (ru.el i (1 : Nat)))).len /\ i = (cpTo i (ruRq ru)).len /\ (i + ((D.l [[D.s (ru.el i (0 : Nat)).toS, (cpTo i_1 (mvR (ru.el i (1 : Nat)))).sub 0 ((0 : Nat) + i_1)]]).sub 0 ((0 : Nat) + (1 : Nat))).len) * 40 <= 140737488355328 /\ 0 + 1 <= (D.l [[D.s (ru.el i (0 : Nat)).toS, (cpTo i_1 (mvR (ru.el i (1 : Nat)))).sub 0 ((0 : Nat) + i_1)]]).len /\ ∃ (j : Nat), j.le ru.len /\ ru.len + 1 - j < ru.len + 1 - i /\ IntKind.i64.wrap ((↑i : Int) + 1) = (↑j : Int) /\ ch.len = ch.len /\ i + ((D.l [[D.s (ru.el i (0 : Nat)).toS, (cpTo i_1 (mvR (ru.el i (1 : Nat)))).sub 0 ((0 : Nat) + i_1)]]).sub 0 ((0 : Nat) + (1 : Nat))).len = j /\ List.map (chRq ch) (List.range ch.len) = List.map (chRq ch) (List.range ch.len) /\ List.map (ruRq ru) (List.range i) ++ List.drop 0 (List.take ((0 : Nat) + (1 : Nat)) [[D.s (ru.el i (0 : Nat)).toS, (cpTo i_1 (mvR (ru.el i (1 : Nat)))).sub 0 ((0 : Nat) + i_1)]]) = List.map (ruRq ru) (List.range j) /\ ch.rows = ch.rows /\ ru.rows = ru.rows /\ pr.rows = pr.rows)) /\ (decide ((↑i : Int) < (↑ru.len : Int)) = false -> (∃ (i_1 : Nat), i_1.le pr.len /\ (0 : Int) = (↑i_1 : Int) /\ ch.len = ch.len /\ i = ru.len /\ i_1 = 0 /\ List.map (chRq ch) (List.range ch.len) = List.map (chRq ch) (List.range ch.len) /\ List.map (ruRq ru) (List.range i) = List.map (ruRq ru) (List.range ru.len) /\ List.map (prR pr) (List.range i_1) = [] /\ ch.rows = ch.rows /\ ru.rows = ru.rows /\ pr.rows = pr.rows) /\ ∀ (i : Nat), i.le pr.len -> (decide ((↑i : Int) < (↑pr.len : Int)) = true -> ((0 : Int) <= (↑i : Int) /\ (↑i : Int) < (↑pr.len : Int)) /\ 0 = (D.l []).len /\ ((0 : Nat) + (pr.el (↑i : Int).toNat ((0 : Nat) + (1 : Nat))).len) * 16 <= 140737488355328 /\ bS (pr.el (↑i : Int).toNat ((0 : Nat) + 1 + (1 : Nat))) /\ 0 + ((0 : Nat) + (pr.el (↑i : Int).toNat ((0 : Nat) + (1 : Nat))).len) <= ((D.l []).app (pr.el (↑i : Int).toNat ((0 : Nat) + (1 : Nat)))).len /\ i = (cpTo i (prR pr)).len /\ (i + ((D.l [[D.s (pr.el (↑i : Int).toNat (0 : Nat)).toS, ((D.l []).app (pr.el (↑i : Int).toNat ((0 : Nat) + (1 : Nat)))).sub 0 ((0 : Nat) + ((0 : Nat) + (pr.el (↑i : Int).toNat ((0 : Nat) + (1 : Nat))).len)), cpB (pr.el (↑i : Int).toNat ((0 : Nat) + 1 + (1 : Nat)))]]).sub 0 ((0 : Nat) + (1 : Nat))).len) * 64 <= 140737488355328 /\ 0 + 1 <= (D.l [[D.s (pr.el (↑i : Int).toNat (0 : Nat)).toS, ((D.l []).app (pr.el (↑i : Int).toNat ((0 : Nat) + (1 : Nat)))).sub 0 ((0 : Nat) + ((0 : Nat) + (pr.el (↑i : Int).toNat ((0 : Nat) + (1 : Nat))).len)), cpB (pr.el (↑i : Int).toNat ((0 : Nat) + 1 + (1 : Nat)))]]).len /\ ∃ (j : Nat), j.le pr.len /\ pr.len + 1 - j < pr.len + 1 - i /\ IntKind.i64.wrap ((↑i : Int) + 1) = (↑j : Int) /\ ch.len = ch.len /\ ru.len = ru.len /\ i + ((D.l [[D.s (pr.el (↑i : Int).toNat (0 : Nat)).toS, ((D.l []).app (pr.el (↑i : Int).toNat ((0 : Nat) + (1 : Nat)))).sub 0 ((0 : Nat) + ((0 : Nat) + (pr.el (↑i : Int).toNat ((0 : Nat) + (1 : Nat))).len)), cpB (pr.el (↑i : Int).toNat ((0 : Nat) + 1 + (1 : Nat)))]]).sub 0 ((0 : Nat) + (1 : Nat))).len = j /\ List.map (chRq ch) (List.range ch.len) = List.map (chRq ch) (List.range ch.len) /\ List.map (ruRq ru) (List.range ru.len) = List.map (ruRq ru) (List.range ru.len) /\ List.map (prR pr) (List.range i) ++ List.drop 0 (List.take ((0 : Nat) + (1 : Nat)) [[D.s (pr.el (↑i : Int).toNat (0 : Nat)).toS, ((D.l []).app (pr.el (↑i : Int).toNat ((0 : Nat) + (1 : Nat)))).sub 0 ((0 : Nat) + ((0 : Nat) + (pr.el (↑i : Int).toNat ((0 : Nat) + (1 : Nat))).len)), cpB (pr.el (↑i : Int).toNat ((0 : Nat) + 1 + (1 : Nat)))]]) = List.map (prR pr) (List.range j) /\ ch.rows = ch.rows /\ ru.rows = ru.rows /\ pr.rows = pr.rows) /\ (decide ((↑i : Int) < (↑pr.len : Int)) = false -> 0 + ch.len <= (cpTo ch.len (chRq ch)).len /\ 0 + ru.len <= (cpTo ru.len (ruRq ru)).len /\ 0 + i <= (cpTo i (prR pr)).len /\ List.drop 0 (List.take ((0 : Nat) + ch.len) (List.map (chRq ch) (List.range ch.len))) = List.map (chRq ch) (List.range ch.len) /\ List.drop 0 (List.take ((0 : Nat) + ru.len) (List.map (ruRq ru) (List.range ru.len))) = List.map (ruRq ru) (List.range ru.len) /\ List.drop 0 (List.take ((0 : Nat) + i) (List.map (prR pr) (List.range i))) = List.map (prR pr) (List.range pr.len))))) (by kernel_rfl) ?_
    intro hs
    refine ⟨⟨0, Nat.zero_le _, by (repeat' apply And.intro) <;> rfl⟩, fun i hi => ⟨fun hc => ?_, fun hc => ?_⟩⟩
    · have hc := of_decide_eq_true hc
      have hi2 : i < ch.len := by omega
      have b1 := hs.c
      have b2 := hs.ct i hi2
      have hw2 : IntKind.i64.wrap ((i : Int) + 1) = ((i + 1 : Nat) : Int) := by rw [IntWalk.i64_in _ (by omega)]; omega
      rw [nD_app]
      refine ⟨⟨by omega, by omega⟩, rfl, (show (0 + (ch.el i 5).len) * 16 <= 140737488355328 by omega), app_le _, (cpTo_len _ _).symm, (show (i + 1) * 88 <= 140737488355328 by omega), Nat.le_refl _, i + 1, hi2, by omega, hw2, ?_⟩
      (repeat' apply And.intro) <;> first | exact (cpTo_succ i (chRq ch)).symm | rfl
    · have hc := of_decide_eq_false hc
      have hi3 : i = ch.len := by have : i <= ch.len := hi; omega
      subst hi3
      refine ⟨⟨0, Nat.zero_le _, by (repeat' apply And.intro) <;> rfl⟩, fun i hi => ⟨fun hc => ?_, fun hc => ?_⟩⟩
      · have hc := of_decide_eq_true hc
        have hi2 : i < ru.len := by omega
        have b1 := hs.r
        have b2 := hs.rm i hi2
        have hw2 : IntKind.i64.wrap ((i : Int) + 1) = ((i + 1 : Nat) : Int) := by rw [IntWalk.i64_in _ (by omega)]; omega
        refine ⟨⟨by omega, by omega⟩, ⟨0, ⟨Nat.zero_le _, trivial⟩, by (repeat' apply And.intro) <;> rfl⟩, fun q hq => ⟨⟨by omega, by omega⟩, fun hd => ?_, fun hd => ?_⟩⟩
        · have hd := of_decide_eq_true hd
          have hq2 : q < (ru.el i 1).len := by have : (q : Int) < ((ru.el i 1).len : Int) := hd; omega
          have hwq : IntKind.i64.wrap ((q : Int) + 1) = ((q + 1 : Nat) : Int) := by rw [IntWalk.i64_in _ (by omega)]; omega
          refine ⟨⟨by omega, by omega⟩, ⟨by omega, hd⟩, (cpTo_len _ _).symm, (show (q + 1) * 32 <= 140737488355328 by omega), Nat.le_refl _, q + 1, ⟨hq2, trivial⟩, by omega, hwq, ?_⟩
          (repeat' apply And.intro) <;> first | exact (cpTo_succ q (mvR (ru.el i 1))).symm | rfl
        · have hd := of_decide_eq_false hd
          have hq3 : q = (ru.el i 1).len := by have : ¬ (q : Int) < ((ru.el i 1).len : Int) := hd; have := hq.1; omega
          subst hq3
          rw [cpTo_all]
          refine ⟨by rw [cpTo_len]; omega, (cpTo_len _ _).symm, (show (i + 1) * 40 <= 140737488355328 by omega), Nat.le_refl _, i + 1, hi2, by omega, hw2, ?_⟩
          (repeat' apply And.intro) <;> first | exact (cpTo_succ i (ruRq ru)).symm | rfl
      · have hc := of_decide_eq_false hc
        have hi3 : i = ru.len := by have : i <= ru.len := hi; omega
        subst hi3
        refine ⟨⟨0, Nat.zero_le _, by (repeat' apply And.intro) <;> rfl⟩, fun i hi => ⟨fun hc => ?_, fun hc => ?_⟩⟩
        · have hc := of_decide_eq_true hc
          have hi2 : i < pr.len := by omega
          have b1 := hs.p
          have b2 := hs.pv i hi2
          have hw2 : IntKind.i64.wrap ((i : Int) + 1) = ((i + 1 : Nat) : Int) := by rw [IntWalk.i64_in _ (by omega)]; omega
          rw [nD_app]
          refine ⟨⟨by omega, by omega⟩, rfl, (show (0 + (pr.el i 1).len) * 16 <= 140737488355328 by omega), hs.pb i hi2, app_le _, (cpTo_len _ _).symm, (show (i + 1) * 64 <= 140737488355328 by omega), Nat.le_refl _, i + 1, hi2, by omega, hw2, ?_⟩
          (repeat' apply And.intro) <;> first | exact (cpTo_succ i (prR pr)).symm | rfl
        · have hc := of_decide_eq_false hc
          have hi3 : i = pr.len := by have : i <= pr.len := hi; omega
          subst hi3
          exact ⟨by rw [cpTo_len]; omega, by rw [cpTo_len]; omega, by rw [cpTo_len]; omega, takeAll _ _, takeAll _ _, takeAll _ _⟩
  · trivial
end Go.Proofs.Ytbhbjhejkamlnaa.Sx.Z
namespace Go.Proofs.Ytbhbjhejkamlnaa.Sx.Z
open Go.RowKit
def qX : AP := .agg [.c (.int .i64), .c (.int .i64), .c .str, .c (.rows 90)]
def qC : AP := .agg [.c (.int .i64), .c (.int .i64), .c (.int .i64), .c .str, .c (.rows 90), .c (.int .i64), .c (.int .i64), .c .str, .c (.rows 90)]
noncomputable def isbS : FSpec := fun ds _ => match ds with
  | [.i k] => some { val := .one (.sc (.bool (.sym (decide (k ≥ 4) && decide (k <= 8))))), vc := [] }
  | _ => none
noncomputable def isbC : Con := con [.sc (.int .i64)] isbS
theorem isb_ok : ConOK Try.prog 101 isbC := by
  refine fn_ob tt_ok mixed Try.func101 rfl (fun _ _ => by kernel_rfl) (A := fun ds => ⟨fun _ => Cons.of [], fun _ => none, fun _ => none⟩) (fun _ _ => cons_nil) (by kernel_rfl) ?_
  intro ds fr
  unfold isbS
  split
  · rename_i k
    refine kmp (q := (decide (k ≥ (4 : Int)) && decide (k <= (8 : Int))) = (decide (k ≥ (4 : Int)) && decide (k <= (8 : Int)))) (by kernel_rfl) ?_
    (repeat' (with_reducible apply And.intro)) <;> first | with_reducible rfl | exact True.intro | with_reducible assumption | decide | assumption | rfl
  · trivial
noncomputable def exsS : FSpec := fun ds _ => match ds with
  | [.i k, .i n, .s s, .d d, .i k2, .i n2, .s s2, .d d2] => some { val := .one (.sc (.bool (.lit true))), vc := [k = k2 /\ n = n2 /\ s = s2 /\ d.rows = d2.rows, kS d] }
  | _ => none
noncomputable def exsC : Con := con [qX, qX] exsS
noncomputable def exsM : List Dat -> Nat := fun ds => match ds with
  | [.i k, .i n, .s s, .d d, .i k2, .i n2, .s s2, .d d2] => SizeOf.sizeOf d
  | _ => 0
noncomputable def exsSu (m : Nat) : FSpec := fun ds _ => match ds with
  | [.i k, .i n, .s s, .d d, .i k2, .i n2, .s s2, .d d2] => some { val := .one (.sc (.bool (.lit true))), vc := [SizeOf.sizeOf d < m, k = k2 /\ n = n2 /\ s = s2 /\ d.rows = d2.rows, kS d] }
  | _ => none
theorem exs_under (m : Nat) : exsS.under exsM m = exsSu m := by
  funext ds fr
  unfold FSpec.under exsS exsM exsSu
  split
  · rename_i e h
    split at h
    · obtain rfl := Option.some.inj h; rfl
    · cases h
  · rename_i h
    split at h
    · cases h
    · rfl
noncomputable def eqxS (m : Nat) : FSpec := fun ds _ => match ds with
  | [.d a, .d b, .v kf] => (match isFn 93 kf with | true => some { val := .one (.sc (.bool (.lit true))), vc := [a.rows = b.rows, kS a, SizeOf.sizeOf a < m + 1] } | false => none)
  | _ => none
noncomputable def eqxC (m : Nat) : Con := con [.sc (.rows 90), .sc (.rows 90), .sc .any] (eqxS m)
theorem eqx_ok {m : Nat} (hP : ConOK Try.prog 93 (con [qX, qX] (exsSu m))) : ConOK Try.prog 102 (eqxC m) := by
  refine fn_ob tt_ok mixed Try.func102 rfl (fun _ _ => by kernel_rfl) (A := fun ds => ⟨fun _ => Cons.of [(93, (con [qX, qX] (exsSu m)))], fun k => match k, ds with | 4, [.d a, .d b, .v _] => some { ι := Nat, pre := fun _ i => i <= a.len /\ True, μ := fun i => a.len + 1 - i, st := fun s i => famR s [(17, .one (.sc (.int .i64 (.sym ((i : Nat)))))), (16, .one (.sc (.int .i64 (.sym ((a.len : Nat))))))] [0, 1, 2, 15] [] [] } | _, _ => none, fun _ => none⟩) (fun _ _ => (cons_cons hP cons_nil)) (by kernel_rfl) ?_
  intro ds fr
  unfold eqxS
  split
  · rename_i a b kf
    split
    · rename_i hg
      obtain rfl := isFn_eq hg
      refine kmp (q := a.rows = b.rows -> kS a -> SizeOf.sizeOf a < m + 1 -> (((↑a.len : Int) != (↑b.len : Int)) = true -> false = true) /\ (((↑a.len : Int) != (↑b.len : Int)) = false -> (∃ (i : Nat), (i <= a.len /\ True) /\ (0 : Int) = (↑i : Int) /\ (↑a.len : Int) = (↑a.len : Int) /\ a.rows = a.rows /\ b.rows = b.rows /\ Value.func (Fn.func (93 : Nat)) #[] #[] = Value.func (Fn.func (93 : Nat)) #[] #[] /\ a.rows = a.rows) /\ ∀ (i : Nat), i <= a.len /\ True -> (decide ((↑i : Int) < (↑a.len : Int)) = true -> ((0 : Int) <= (↑i : Int) /\ (↑i : Int) < (↑a.len : Int)) /\ ((0 : Int) <= (↑i : Int) /\ (↑i : Int) < (↑b.len : Int)) /\ SizeOf.sizeOf (a.el (↑i : Int).toNat ((0 : Nat) + 1 + 1 + (1 : Nat))) < m /\ ((a.el (↑i : Int).toNat (0 : Nat)).toI = (b.el (↑i : Int).toNat (0 : Nat)).toI /\ (a.el (↑i : Int).toNat ((0 : Nat) + (1 : Nat))).toI = (b.el (↑i : Int).toNat ((0 : Nat) + (1 : Nat))).toI /\ (a.el (↑i : Int).toNat ((0 : Nat) + 1 + (1 : Nat))).toS = (b.el (↑i : Int).toNat ((0 : Nat) + 1 + (1 : Nat))).toS /\ (a.el (↑i : Int).toNat ((0 : Nat) + 1 + 1 + (1 : Nat))).rows = (b.el (↑i : Int).toNat ((0 : Nat) + 1 + 1 + (1 : Nat))).rows) /\ kS (a.el (↑i : Int).toNat ((0 : Nat) + 1 + 1 + (1 : Nat))) /\ ∃ (j : Nat), (j <= a.len /\ True) /\ a.len + 1 - j < a.len + 1 - i /\ IntKind.i64.wrap ((↑i : Int) + 1) = (↑j : Int) /\ (↑a.len : Int) = (↑a.len : Int) /\ a.rows = a.rows /\ b.rows = b.rows /\ Value.func (Fn.func (93 : Nat)) #[] #[] = Value.func (Fn.func (93 : Nat)) #[] #[] /\ a.rows = a.rows) /\ (decide ((↑i : Int) < (↑a.len : Int)) = false -> true = true))) (by kernel_rfl) ?_
      intro he hk hm
      have hl : a.len = b.len := congrArg List.length he
      have hel : ∀ i j, b.el i j = a.el i j := fun i j => by unfold D.el; rw [he]
      have hz1 : a.len <= 1000000 := ((kS_iff a).1 hk).1
      refine ⟨fun hc => by rw [hl] at hc; simp at hc, fun _ => ⟨⟨0, ⟨Nat.zero_le _, trivial⟩, (by (repeat' (with_reducible apply And.intro)) <;> first | with_reducible rfl | exact True.intro | assumption | (symm; assumption) | rfl)⟩, fun i hi => ⟨fun hc => ?_, fun _ => rfl⟩⟩⟩
      have hc := of_decide_eq_true hc
      have hi2 : i < a.len := by omega
      have en : (i : Int).toNat = i := Int.toNat_natCast i
      have hw : IntKind.i64.wrap ((i : Int) + 1) = ((i + 1 : Nat) : Int) := by rw [IntWalk.i64_in _ (by omega)]; omega
      simp only [en, hel]
      have z := lel_lt (j := 3) hi2
      exact ⟨⟨by omega, hc⟩, ⟨by omega, by omega⟩, Nat.lt_of_lt_of_le z (Nat.le_of_lt_succ hm), (by (repeat' (with_reducible apply And.intro)) <;> trivial), ((kS_iff a).1 hk).2 i hi2, i + 1, ⟨hi2, trivial⟩, by omega, hw, (by (repeat' (with_reducible apply And.intro)) <;> first | with_reducible rfl | exact True.intro | assumption | (symm; assumption) | rfl)⟩
    · trivial
  · trivial
theorem exs_step (m : Nat) (ih : ConOK Try.prog 93 (con [qX, qX] (exsSu m))) : ConOK Try.prog 93 (con [qX, qX] (exsSu (m + 1))) := by
  refine fn_ob tt_ok mixed Try.func93 rfl (fun _ _ => by kernel_rfl) (A := fun ds => ⟨fun _ => Cons.of [(102, (eqxC m)), (101, isbC)], fun _ => none, fun _ => none⟩) (fun _ _ => (cons_cons (eqx_ok ih) (cons_cons isb_ok cons_nil))) (by kernel_rfl) ?_
  intro ds fr
  unfold exsSu
  split
  · rename_i k n s d k2 n2 s2 d2
    refine kmp (q := SizeOf.sizeOf d < m + 1 -> k = k2 /\ n = n2 /\ s = s2 /\ d.rows = d2.rows -> kS d -> ((k != k2) = true -> false = true) /\ ((k != k2) = false -> ((k == (1 : Int)) = true -> (n == n2) = true) /\ ((k == (1 : Int)) = false -> ((k == (2 : Int)) = true -> (s.toList == s2.toList) = true) /\ ((k == (2 : Int)) = false -> ((k == (3 : Int)) = true -> ((k == (3 : Int)) = true -> d.rows = d2.rows /\ kS d /\ SizeOf.sizeOf d < m + 1 /\ true = true) /\ ((k == (3 : Int)) = false -> true = true)) /\ ((k == (3 : Int)) = false -> ((decide (k ≥ (4 : Int)) && decide (k <= (8 : Int))) = true -> d.rows = d2.rows /\ kS d /\ SizeOf.sizeOf d < m + 1 /\ true = true) /\ ((decide (k ≥ (4 : Int)) && decide (k <= (8 : Int))) = false -> true = true)))))) (by kernel_rfl) ?_
    rintro hm ⟨rfl, rfl, rfl, hd⟩ hk
    exact ⟨fun h => by simp at h, fun _ => ⟨fun _ => by simp, fun _ => ⟨fun _ => by simp, fun _ => ⟨fun _ => ⟨fun _ => ⟨hd, hk, hm, rfl⟩, fun _ => rfl⟩, fun _ => ⟨fun _ => ⟨hd, hk, hm, rfl⟩, fun _ => rfl⟩⟩⟩⟩⟩
  · trivial
theorem exs_ok : ConOK Try.prog 93 exsC :=
  con_rec exsM (fun _ _ => by kernel_rfl) fun m ih => by
    rw [exs_under] at ih ⊢
    exact exs_step m ih
noncomputable def cosS : FSpec := fun ds _ => match ds with
  | [.i o, .i k, .i n, .s s, .d d, .i l, .i p, .s t, .d g, .i o2, .i k2, .i n2, .s s2, .d d2, .i l2, .i p2, .s t2, .d g2] => some { val := .one (.sc (.bool (.lit true))), vc := [(o = o2 /\ k = k2 /\ n = n2 /\ s = s2 /\ d.rows = d2.rows) /\ (l = l2 /\ p = p2 /\ t = t2 /\ g.rows = g2.rows), kS d, kS g] }
  | _ => none
noncomputable def cosC : Con := con [qC, qC] cosS
theorem cos_ok : ConOK Try.prog 94 cosC := by
  refine fn_ob tt_ok mixed Try.func94 rfl (fun _ _ => by kernel_rfl) (A := fun ds => ⟨fun _ => Cons.of [(93, exsC)], fun _ => none, fun _ => none⟩) (fun _ _ => (cons_cons exs_ok cons_nil)) (by kernel_rfl) ?_
  intro ds fr
  unfold cosS
  split
  · rename_i o k n s d l p t g o2 k2 n2 s2 d2 l2 p2 t2 g2
    refine kmp (q := (o = o2 /\ k = k2 /\ n = n2 /\ s = s2 /\ d.rows = d2.rows) /\ l = l2 /\ p = p2 /\ t = t2 /\ g.rows = g2.rows -> kS d -> kS g -> ((o == o2) = true /\ True -> k = k2 /\ n = n2 /\ s = s2 /\ d.rows = d2.rows) /\ ((o == o2) = true /\ True -> kS d) /\ ((o == o2 || false) = true /\ True -> l = l2 /\ p = p2 /\ t = t2 /\ g.rows = g2.rows) /\ ((o == o2 || false) = true /\ True -> kS g) /\ (o == o2 || false || false) = true) (by kernel_rfl) ?_
    rintro ⟨⟨rfl, rfl, rfl, rfl, hd⟩, rfl, rfl, rfl, hg⟩ hk hk2
    exact ⟨fun _ => ⟨rfl, rfl, rfl, hd⟩, fun _ => hk, fun _ => ⟨rfl, rfl, rfl, hg⟩, fun _ => hk2, by simp⟩
  · trivial
end Go.Proofs.Ytbhbjhejkamlnaa.Sx.Z
namespace Go.Proofs.Ytbhbjhejkamlnaa.Sx.Z
open Go.RowKit
def qS : AP := .agg [.c (.int .i64), .c .str, .c .str, .c (.int .i64), .c (.int .i64), .c .str, .c (.rows 90), .c (.int .i64), .c (.int .i64), .c (.int .i64), .c .str, .c (.rows 90), .c (.int .i64), .c (.int .i64), .c .str, .c (.rows 90), .c (.rows 95), .c (.rows 95), .c (.rows 135)]
def qA : AP := .agg [.c .str, .c .str, .c (.rows 95)]
def qB : AP := .sc (.rows 95)
noncomputable def sbyS : FSpec := fun ds _ => match ds with
  | [.d d, .d d2] => some { val := .one (.sc (.bool (.lit true))), vc := [d.rows = d2.rows, bS d] }
  | _ => none
noncomputable def sbyC : Con := con [qB, qB] sbyS
noncomputable def sbyM : List Dat -> Nat := fun ds => match ds with
  | [.d d, .d d2] => SizeOf.sizeOf d
  | _ => 0
noncomputable def sbySu (m : Nat) : FSpec := fun ds _ => match ds with
  | [.d d, .d d2] => some { val := .one (.sc (.bool (.lit true))), vc := [SizeOf.sizeOf d < m, d.rows = d2.rows, bS d] }
  | _ => none
theorem sby_under (m : Nat) : sbyS.under sbyM m = sbySu m := by
  funext ds fr
  unfold FSpec.under sbyS sbyM sbySu
  split
  · rename_i e h
    split at h
    · obtain rfl := Option.some.inj h; rfl
    · cases h
  · rename_i h
    split at h
    · cases h
    · rfl
noncomputable def sarS (m : Nat) : FSpec := fun ds _ => match ds with
  | [.s t, .s v, .d d, .s t2, .s v2, .d d2] => some { val := .one (.sc (.bool (.lit true))), vc := [t = t2 /\ v = v2 /\ d.rows = d2.rows, bS d, SizeOf.sizeOf d < m] }
  | _ => none
noncomputable def sarC (m : Nat) : Con := con [qA, qA] (sarS m)
theorem sar_ok {m : Nat} (hP : ConOK Try.prog 51 (con [qB, qB] (sbySu m))) : ConOK Try.prog 96 (sarC m) := by
  refine fn_ob tt_ok mixed Try.func96 rfl (fun _ _ => by kernel_rfl) (A := fun ds => ⟨fun _ => Cons.of [(51, (con [qB, qB] (sbySu m)))], fun _ => none, fun _ => none⟩) (fun _ _ => (cons_cons hP cons_nil)) (by kernel_rfl) ?_
  intro ds fr
  unfold sarS
  split
  · rename_i t v d t2 v2 d2
    refine kmp (q := t = t2 /\ v = v2 /\ d.rows = d2.rows -> bS d -> SizeOf.sizeOf d < m -> ((t.toList == t2.toList && v.toList == v2.toList) = true /\ True -> SizeOf.sizeOf d < m) /\ ((t.toList == t2.toList && v.toList == v2.toList) = true /\ True -> d.rows = d2.rows) /\ ((t.toList == t2.toList && v.toList == v2.toList) = true /\ True -> bS d) /\ (t.toList == t2.toList && v.toList == v2.toList || false) = true) (by kernel_rfl) ?_
    rintro ⟨rfl, rfl, hd⟩ hb hm
    exact ⟨fun _ => hm, fun _ => hd, fun _ => hb, by simp⟩
  · trivial
noncomputable def eqaS (m : Nat) : FSpec := fun ds _ => match ds with
  | [.d a, .d b, .v kf] => (match isFn 96 kf with | true => some { val := .one (.sc (.bool (.lit true))), vc := [a.rows = b.rows, (a.len <= 1000000 /\ ∀ j, j < a.len -> bS (a.el j 2)), SizeOf.sizeOf a < m + 1] } | false => none)
  | _ => none
noncomputable def eqaC (m : Nat) : Con := con [.sc (.rows 135), .sc (.rows 135), .sc .any] (eqaS m)
theorem eqa_ok {m : Nat} (hP : ConOK Try.prog 51 (con [qB, qB] (sbySu m))) : ConOK Try.prog 95 (eqaC m) := by
  refine fn_ob tt_ok mixed Try.func95 rfl (fun _ _ => by kernel_rfl) (A := fun ds => ⟨fun _ => Cons.of [(96, (sarC m))], fun k => match k, ds with | 4, [.d a, .d b, .v _] => some { ι := Nat, pre := fun _ i => i <= a.len /\ True, μ := fun i => a.len + 1 - i, st := fun s i => famR s [(17, .one (.sc (.int .i64 (.sym ((i : Nat)))))), (16, .one (.sc (.int .i64 (.sym ((a.len : Nat))))))] [0, 1, 2, 15] [] [] } | _, _ => none, fun _ => none⟩) (fun _ _ => (cons_cons (sar_ok hP) cons_nil)) (by kernel_rfl) ?_
  intro ds fr
  unfold eqaS
  split
  · rename_i a b kf
    split
    · rename_i hg
      obtain rfl := isFn_eq hg
      refine kmp (q := a.rows = b.rows -> (a.len <= 1000000 /\ ∀ (j : Nat), j < a.len -> bS (a.el j (2 : Nat))) -> SizeOf.sizeOf a < m + 1 -> (((↑a.len : Int) != (↑b.len : Int)) = true -> false = true) /\ (((↑a.len : Int) != (↑b.len : Int)) = false -> (∃ (i : Nat), (i <= a.len /\ True) /\ (0 : Int) = (↑i : Int) /\ (↑a.len : Int) = (↑a.len : Int) /\ a.rows = a.rows /\ b.rows = b.rows /\ Value.func (Fn.func (96 : Nat)) #[] #[] = Value.func (Fn.func (96 : Nat)) #[] #[] /\ a.rows = a.rows) /\ ∀ (i : Nat), i <= a.len /\ True -> (decide ((↑i : Int) < (↑a.len : Int)) = true -> ((0 : Int) <= (↑i : Int) /\ (↑i : Int) < (↑a.len : Int)) /\ ((0 : Int) <= (↑i : Int) /\ (↑i : Int) < (↑b.len : Int)) /\ ((a.el (↑i : Int).toNat (0 : Nat)).toS = (b.el (↑i : Int).toNat (0 : Nat)).toS /\ (a.el (↑i : Int).toNat ((0 : Nat) + (1 : Nat))).toS = (b.el (↑i : Int).toNat ((0 : Nat) + (1 : Nat))).toS /\ (a.el (↑i : Int).toNat ((0 : Nat) + 1 + (1 : Nat))).rows = (b.el (↑i : Int).toNat ((0 : Nat) + 1 + (1 : Nat))).rows) /\ bS (a.el (↑i : Int).toNat ((0 : Nat) + 1 + (1 : Nat))) /\ SizeOf.sizeOf (a.el (↑i : Int).toNat ((0 : Nat) + 1 + (1 : Nat))) < m /\ ∃ (j : Nat), (j <= a.len /\ True) /\ a.len + 1 - j < a.len + 1 - i /\ IntKind.i64.wrap ((↑i : Int) + 1) = (↑j : Int) /\ (↑a.len : Int) = (↑a.len : Int) /\ a.rows = a.rows /\ b.rows = b.rows /\ Value.func (Fn.func (96 : Nat)) #[] #[] = Value.func (Fn.func (96 : Nat)) #[] #[] /\ a.rows = a.rows) /\ (decide ((↑i : Int) < (↑a.len : Int)) = false -> true = true))) (by kernel_rfl) ?_
      intro he hk hm
      have hl : a.len = b.len := congrArg List.length he
      have hel : ∀ i j, b.el i j = a.el i j := fun i j => by unfold D.el; rw [he]
      have hz1 : a.len <= 1000000 := hk.1
      refine ⟨fun hc => by rw [hl] at hc; simp at hc, fun _ => ⟨⟨0, ⟨Nat.zero_le _, trivial⟩, (by (repeat' (with_reducible apply And.intro)) <;> first | with_reducible rfl | exact True.intro | assumption | (symm; assumption) | rfl)⟩, fun i hi => ⟨fun hc => ?_, fun _ => rfl⟩⟩⟩
      have hc := of_decide_eq_true hc
      have hi2 : i < a.len := by omega
      have en : (i : Int).toNat = i := Int.toNat_natCast i
      have hw : IntKind.i64.wrap ((i : Int) + 1) = ((i + 1 : Nat) : Int) := by rw [IntWalk.i64_in _ (by omega)]; omega
      simp only [en, hel]
      have z := lel_lt (j := 2) hi2
      exact ⟨⟨by omega, hc⟩, ⟨by omega, by omega⟩, (by (repeat' (with_reducible apply And.intro)) <;> trivial), hk.2 i hi2, Nat.lt_of_lt_of_le z (Nat.le_of_lt_succ hm), i + 1, ⟨hi2, trivial⟩, by omega, hw, (by (repeat' (with_reducible apply And.intro)) <;> first | with_reducible rfl | exact True.intro | assumption | (symm; assumption) | rfl)⟩
    · trivial
  · trivial
noncomputable def sstS (m : Nat) : FSpec := fun ds _ => match ds with
  | .i k :: .s nm :: .s tg :: .i ek :: .i en :: .s es :: .d ed :: .i op :: .i lk :: .i ln :: .s ls :: .d ld :: .i rk :: .i rn :: .s rs :: .d rd :: .d b :: .d el :: .d ar :: .i k2 :: .s nm2 :: .s tg2 :: .i ek2 :: .i en2 :: .s es2 :: .d ed2 :: .i op2 :: .i lk2 :: .i ln2 :: .s ls2 :: [.d ld2, .i rk2, .i rn2, .s rs2, .d rd2, .d b2, .d el2, .d ar2] => some { val := .one (.sc (.bool (.lit true))), vc := [k = k2 /\ nm = nm2 /\ tg = tg2 /\ ek = ek2 /\ en = en2 /\ es = es2 /\ ed.rows = ed2.rows /\ op = op2 /\ lk = lk2 /\ ln = ln2 /\ ls = ls2 /\ ld.rows = ld2.rows /\ rk = rk2 /\ rn = rn2 /\ rs = rs2 /\ rd.rows = rd2.rows /\ b.rows = b2.rows /\ el.rows = el2.rows /\ ar.rows = ar2.rows, kS ed /\ kS ld /\ kS rd /\ bS b /\ bS el /\ ar.len <= 1000000 /\ ∀ j, j < ar.len -> bS (ar.el j 2), SizeOf.sizeOf b < m /\ SizeOf.sizeOf el < m /\ SizeOf.sizeOf ar < m + 1] }
  | _ => none
noncomputable def sstC (m : Nat) : Con := con [qS, qS] (sstS m)
theorem sst_ok {m : Nat} (hP : ConOK Try.prog 51 (con [qB, qB] (sbySu m))) : ConOK Try.prog 77 (sstC m) := by
  refine fn_ob tt_ok mixed Try.func77 rfl (fun _ _ => by kernel_rfl) (A := fun ds => ⟨fun _ => Cons.of [(51, (con [qB, qB] (sbySu m))), (93, exsC), (94, cosC), (95, (eqaC m))], fun _ => none, fun _ => none⟩) (fun _ _ => (cons_cons hP (cons_cons exs_ok (cons_cons cos_ok (cons_cons (eqa_ok hP) cons_nil))))) (by kernel_rfl) ?_
  intro ds fr
  unfold sstS
  split
  · rename_i k nm tg ek en es ed op lk ln ls ld rk rn rs rd b el ar k2 nm2 tg2 ek2 en2 es2 ed2 op2 lk2 ln2 ls2 ld2 rk2 rn2 rs2 rd2 b2 el2 ar2
    refine kmp (q := k = k2 /\ nm = nm2 /\ tg = tg2 /\ ek = ek2 /\ en = en2 /\ es = es2 /\ ed.rows = ed2.rows /\ op = op2 /\ lk = lk2 /\ ln = ln2 /\ ls = ls2 /\ ld.rows = ld2.rows /\ rk = rk2 /\ rn = rn2 /\ rs = rs2 /\ rd.rows = rd2.rows /\ b.rows = b2.rows /\ el.rows = el2.rows /\ ar.rows = ar2.rows -> (kS ed /\ kS ld /\ kS rd /\ bS b /\ bS el /\ ar.len <= 1000000 /\ ∀ (j : Nat), j < ar.len -> bS (ar.el j (2 : Nat))) -> SizeOf.sizeOf b < m /\ SizeOf.sizeOf el < m /\ SizeOf.sizeOf ar < m + 1 -> ((k != k2) = true -> false = true) /\ ((k != k2) = false -> ((k == (1 : Int)) = true -> ((nm.toList == nm2.toList) = true /\ True -> ek = ek2 /\ en = en2 /\ es = es2 /\ ed.rows = ed2.rows) /\ ((nm.toList == nm2.toList) = true /\ True -> kS ed) /\ (nm.toList == nm2.toList || false) = true) /\ ((k == (1 : Int)) = false -> ((k == (2 : Int)) = true -> ((op = op2 /\ lk = lk2 /\ ln = ln2 /\ ls = ls2 /\ ld.rows = ld2.rows) /\ rk = rk2 /\ rn = rn2 /\ rs = rs2 /\ rd.rows = rd2.rows) /\ kS ld /\ kS rd /\ SizeOf.sizeOf b < m /\ b.rows = b2.rows /\ bS b /\ SizeOf.sizeOf el < m /\ el.rows = el2.rows /\ bS el /\ true = true) /\ ((k == (2 : Int)) = false -> ((k == (3 : Int)) = true -> ((op = op2 /\ lk = lk2 /\ ln = ln2 /\ ls = ls2 /\ ld.rows = ld2.rows) /\ rk = rk2 /\ rn = rn2 /\ rs = rs2 /\ rd.rows = rd2.rows) /\ kS ld /\ kS rd /\ SizeOf.sizeOf b < m /\ b.rows = b2.rows /\ bS b /\ true = true) /\ ((k == (3 : Int)) = false -> ((k == (4 : Int)) = true -> ((nm.toList == nm2.toList && tg.toList == tg2.toList) = true /\ True -> ek = ek2 /\ en = en2 /\ es = es2 /\ ed.rows = ed2.rows) /\ ((nm.toList == nm2.toList && tg.toList == tg2.toList) = true /\ True -> kS ed) /\ (nm.toList == nm2.toList && tg.toList == tg2.toList || false) = true) /\ ((k == (4 : Int)) = false -> ((k == (5 : Int)) = true -> ((nm.toList == nm2.toList) = true /\ True -> ar.rows = ar2.rows) /\ ((nm.toList == nm2.toList) = true /\ True -> ar.len <= 1000000 /\ ∀ (j : Nat), j < ar.len -> bS (ar.el j (2 : Nat))) /\ ((nm.toList == nm2.toList) = true /\ True -> SizeOf.sizeOf ar < m + (1 : Nat)) /\ (nm.toList == nm2.toList || false) = true) /\ ((k == (5 : Int)) = false -> ((k == (6 : Int)) = true -> ((op = op2 /\ lk = lk2 /\ ln = ln2 /\ ls = ls2 /\ ld.rows = ld2.rows) /\ rk = rk2 /\ rn = rn2 /\ rs = rs2 /\ rd.rows = rd2.rows) /\ kS ld /\ kS rd /\ true = true) /\ ((k == (6 : Int)) = false -> ((k == (7 : Int)) = true -> (nm.toList == nm2.toList) = true) /\ ((k == (7 : Int)) = false -> true = true))))))))) (by kernel_rfl) ?_
    rintro ⟨rfl, rfl, rfl, rfl, rfl, rfl, h_ed, rfl, rfl, rfl, rfl, h_ld, rfl, rfl, rfl, h_rd, h_b, h_el, h_ar⟩ ⟨k1, k2, k3, k4, k5, k6⟩ ⟨m1, m2, m3⟩
    exact ⟨fun h => by simp at h, fun _ => ⟨fun _ => ⟨fun _ => ⟨rfl, rfl, rfl, h_ed⟩, fun _ => k1, by simp⟩, fun _ => ⟨fun _ => ⟨⟨⟨rfl, rfl, rfl, rfl, h_ld⟩, rfl, rfl, rfl, h_rd⟩, k2, k3, m1, h_b, k4, m2, h_el, k5, rfl⟩, fun _ => ⟨fun _ => ⟨⟨⟨rfl, rfl, rfl, rfl, h_ld⟩, rfl, rfl, rfl, h_rd⟩, k2, k3, m1, h_b, k4, rfl⟩, fun _ => ⟨fun _ => ⟨fun _ => ⟨rfl, rfl, rfl, h_ed⟩, fun _ => k1, by simp⟩, fun _ => ⟨fun _ => ⟨fun _ => h_ar, fun _ => k6, fun _ => m3, by simp⟩, fun _ => ⟨fun _ => ⟨⟨⟨rfl, rfl, rfl, rfl, h_ld⟩, rfl, rfl, rfl, h_rd⟩, k2, k3, rfl⟩, fun _ => ⟨fun _ => by simp, fun _ => rfl⟩⟩⟩⟩⟩⟩⟩⟩
  · trivial
noncomputable def eqsS (m : Nat) : FSpec := fun ds _ => match ds with
  | [.d a, .d b, .v kf] => (match isFn 77 kf with | true => some { val := .one (.sc (.bool (.lit true))), vc := [a.rows = b.rows, bS a, SizeOf.sizeOf a < m + 1] } | false => none)
  | _ => none
noncomputable def eqsC (m : Nat) : Con := con [.sc (.rows 95), .sc (.rows 95), .sc .any] (eqsS m)
theorem eqs_ok {m : Nat} (hP : ConOK Try.prog 51 (con [qB, qB] (sbySu m))) : ConOK Try.prog 76 (eqsC m) := by
  refine fn_ob tt_ok mixed Try.func76 rfl (fun _ _ => by kernel_rfl) (A := fun ds => ⟨fun _ => Cons.of [(77, (sstC m))], fun k => match k, ds with | 4, [.d a, .d b, .v _] => some { ι := Nat, pre := fun _ i => i <= a.len /\ True, μ := fun i => a.len + 1 - i, st := fun s i => famR s [(17, .one (.sc (.int .i64 (.sym ((i : Nat)))))), (16, .one (.sc (.int .i64 (.sym ((a.len : Nat))))))] [0, 1, 2, 15] [] [] } | _, _ => none, fun _ => none⟩) (fun _ _ => (cons_cons (sst_ok hP) cons_nil)) (by kernel_rfl) ?_
  intro ds fr
  unfold eqsS
  split
  · rename_i a b kf
    split
    · rename_i hg
      obtain rfl := isFn_eq hg
      refine kmp (q := a.rows = b.rows -> bS a -> SizeOf.sizeOf a < m + 1 -> (((↑a.len : Int) != (↑b.len : Int)) = true -> false = true) /\ (((↑a.len : Int) != (↑b.len : Int)) = false -> (∃ (i : Nat), (i <= a.len /\ True) /\ (0 : Int) = (↑i : Int) /\ (↑a.len : Int) = (↑a.len : Int) /\ a.rows = a.rows /\ b.rows = b.rows /\ Value.func (Fn.func (77 : Nat)) #[] #[] = Value.func (Fn.func (77 : Nat)) #[] #[] /\ a.rows = a.rows) /\ ∀ (i : Nat), i <= a.len /\ True -> (decide ((↑i : Int) < (↑a.len : Int)) = true -> ((0 : Int) <= (↑i : Int) /\ (↑i : Int) < (↑a.len : Int)) /\ ((0 : Int) <= (↑i : Int) /\ (↑i : Int) < (↑b.len : Int)) /\ ((a.el (↑i : Int).toNat (0 : Nat)).toI = (b.el (↑i : Int).toNat (0 : Nat)).toI /\ (a.el (↑i : Int).toNat ((0 : Nat) + (1 : Nat))).toS = (b.el (↑i : Int).toNat ((0 : Nat) + (1 : Nat))).toS /\ (a.el (↑i : Int).toNat ((0 : Nat) + 1 + (1 : Nat))).toS = (b.el (↑i : Int).toNat ((0 : Nat) + 1 + (1 : Nat))).toS /\ (a.el (↑i : Int).toNat ((0 : Nat) + 1 + 1 + (1 : Nat))).toI = (b.el (↑i : Int).toNat ((0 : Nat) + 1 + 1 + (1 : Nat))).toI /\ (a.el (↑i : Int).toNat ((0 : Nat) + 1 + 1 + 1 + (1 : Nat))).toI = (b.el (↑i : Int).toNat ((0 : Nat) + 1 + 1 + 1 + (1 : Nat))).toI /\ (a.el (↑i : Int).toNat ((0 : Nat) + 1 + 1 + 1 + 1 + (1 : Nat))).toS = (b.el (↑i : Int).toNat ((0 : Nat) + 1 + 1 + 1 + 1 + (1 : Nat))).toS /\ (a.el (↑i : Int).toNat ((0 : Nat) + 1 + 1 + 1 + 1 + 1 + (1 : Nat))).rows = (b.el (↑i : Int).toNat ((0 : Nat) + 1 + 1 + 1 + 1 + 1 + (1 : Nat))).rows /\ (a.el (↑i : Int).toNat ((0 : Nat) + 1 + 1 + 1 + 1 + 1 + 1 + (1 : Nat))).toI = (b.el (↑i : Int).toNat ((0 : Nat) + 1 + 1 + 1 + 1 + 1 + 1 + (1 : Nat))).toI /\ (a.el (↑i : Int).toNat ((0 : Nat) + 1 + 1 + 1 + 1 + 1 + 1 + 1 + (1 : Nat))).toI = (b.el (↑i : Int).toNat ((0 : Nat) + 1 + 1 + 1 + 1 + 1 + 1 + 1 + (1 : Nat))).toI /\ (a.el (↑i : Int).toNat ((0 : Nat) + 1 + 1 + 1 + 1 + 1 + 1 + 1 + 1 + (1 : Nat))).toI = (b.el (↑i : Int).toNat ((0 : Nat) + 1 + 1 + 1 + 1 + 1 + 1 + 1 + 1 + (1 : Nat))).toI /\ (a.el (↑i : Int).toNat ((0 : Nat) + 1 + 1 + 1 + 1 + 1 + 1 + 1 + 1 + 1 + (1 : Nat))).toS = (b.el (↑i : Int).toNat ((0 : Nat) + 1 + 1 + 1 + 1 + 1 + 1 + 1 + 1 + 1 + (1 : Nat))).toS /\ (a.el (↑i : Int).toNat ((0 : Nat) + 1 + 1 + 1 + 1 + 1 + 1 + 1 + 1 + 1 + 1 + (1 : Nat))).rows = (b.el (↑i : Int).toNat ((0 : Nat) + 1 + 1 + 1 + 1 + 1 + 1 + 1 + 1 + 1 + 1 + (1 : Nat))).rows /\ (a.el (↑i : Int).toNat ((0 : Nat) + 1 + 1 + 1 + 1 + 1 + 1 + 1 + 1 + 1 + 1 + 1 + (1 : Nat))).toI = (b.el (↑i : Int).toNat ((0 : Nat) + 1 + 1 + 1 + 1 + 1 + 1 + 1 + 1 + 1 + 1 + 1 + (1 : Nat))).toI /\ (a.el (↑i : Int).toNat ((0 : Nat) + 1 + 1 + 1 + 1 + 1 + 1 + 1 + 1 + 1 + 1 + 1 + 1 + (1 : Nat))).toI = (b.el (↑i : Int).toNat ((0 : Nat) + 1 + 1 + 1 + 1 + 1 + 1 + 1 + 1 + 1 + 1 + 1 + 1 + (1 : Nat))).toI /\ (a.el (↑i : Int).toNat ((0 : Nat) + 1 + 1 + 1 + 1 + 1 + 1 + 1 + 1 + 1 + 1 + 1 + 1 + 1 + (1 : Nat))).toS = (b.el (↑i : Int).toNat ((0 : Nat) + 1 + 1 + 1 + 1 + 1 + 1 + 1 + 1 + 1 + 1 + 1 + 1 + 1 + (1 : Nat))).toS /\ (a.el (↑i : Int).toNat ((0 : Nat) + 1 + 1 + 1 + 1 + 1 + 1 + 1 + 1 + 1 + 1 + 1 + 1 + 1 + 1 + (1 : Nat))).rows = (b.el (↑i : Int).toNat ((0 : Nat) + 1 + 1 + 1 + 1 + 1 + 1 + 1 + 1 + 1 + 1 + 1 + 1 + 1 + 1 + (1 : Nat))).rows /\ (a.el (↑i : Int).toNat ((0 : Nat) + 1 + 1 + 1 + 1 + 1 + 1 + 1 + 1 + 1 + 1 + 1 + 1 + 1 + 1 + 1 + (1 : Nat))).rows = (b.el (↑i : Int).toNat ((0 : Nat) + 1 + 1 + 1 + 1 + 1 + 1 + 1 + 1 + 1 + 1 + 1 + 1 + 1 + 1 + 1 + (1 : Nat))).rows /\ (a.el (↑i : Int).toNat ((0 : Nat) + 1 + 1 + 1 + 1 + 1 + 1 + 1 + 1 + 1 + 1 + 1 + 1 + 1 + 1 + 1 + 1 + (1 : Nat))).rows = (b.el (↑i : Int).toNat ((0 : Nat) + 1 + 1 + 1 + 1 + 1 + 1 + 1 + 1 + 1 + 1 + 1 + 1 + 1 + 1 + 1 + 1 + (1 : Nat))).rows /\ (a.el (↑i : Int).toNat ((0 : Nat) + 1 + 1 + 1 + 1 + 1 + 1 + 1 + 1 + 1 + 1 + 1 + 1 + 1 + 1 + 1 + 1 + 1 + (1 : Nat))).rows = (b.el (↑i : Int).toNat ((0 : Nat) + 1 + 1 + 1 + 1 + 1 + 1 + 1 + 1 + 1 + 1 + 1 + 1 + 1 + 1 + 1 + 1 + 1 + (1 : Nat))).rows) /\ (kS (a.el (↑i : Int).toNat ((0 : Nat) + 1 + 1 + 1 + 1 + 1 + (1 : Nat))) /\ kS (a.el (↑i : Int).toNat ((0 : Nat) + 1 + 1 + 1 + 1 + 1 + 1 + 1 + 1 + 1 + 1 + (1 : Nat))) /\ kS (a.el (↑i : Int).toNat ((0 : Nat) + 1 + 1 + 1 + 1 + 1 + 1 + 1 + 1 + 1 + 1 + 1 + 1 + 1 + 1 + (1 : Nat))) /\ bS (a.el (↑i : Int).toNat ((0 : Nat) + 1 + 1 + 1 + 1 + 1 + 1 + 1 + 1 + 1 + 1 + 1 + 1 + 1 + 1 + 1 + (1 : Nat))) /\ bS (a.el (↑i : Int).toNat ((0 : Nat) + 1 + 1 + 1 + 1 + 1 + 1 + 1 + 1 + 1 + 1 + 1 + 1 + 1 + 1 + 1 + 1 + (1 : Nat))) /\ (a.el (↑i : Int).toNat ((0 : Nat) + 1 + 1 + 1 + 1 + 1 + 1 + 1 + 1 + 1 + 1 + 1 + 1 + 1 + 1 + 1 + 1 + 1 + (1 : Nat))).len <= 1000000 /\ ∀ (j : Nat), j < (a.el (↑i : Int).toNat ((0 : Nat) + 1 + 1 + 1 + 1 + 1 + 1 + 1 + 1 + 1 + 1 + 1 + 1 + 1 + 1 + 1 + 1 + 1 + (1 : Nat))).len -> bS ((a.el (↑i : Int).toNat ((0 : Nat) + 1 + 1 + 1 + 1 + 1 + 1 + 1 + 1 + 1 + 1 + 1 + 1 + 1 + 1 + 1 + 1 + 1 + (1 : Nat))).el j (2 : Nat))) /\ (SizeOf.sizeOf (a.el (↑i : Int).toNat ((0 : Nat) + 1 + 1 + 1 + 1 + 1 + 1 + 1 + 1 + 1 + 1 + 1 + 1 + 1 + 1 + 1 + (1 : Nat))) < m /\ SizeOf.sizeOf (a.el (↑i : Int).toNat ((0 : Nat) + 1 + 1 + 1 + 1 + 1 + 1 + 1 + 1 + 1 + 1 + 1 + 1 + 1 + 1 + 1 + 1 + (1 : Nat))) < m /\ SizeOf.sizeOf (a.el (↑i : Int).toNat ((0 : Nat) + 1 + 1 + 1 + 1 + 1 + 1 + 1 + 1 + 1 + 1 + 1 + 1 + 1 + 1 + 1 + 1 + 1 + (1 : Nat))) < m + (1 : Nat)) /\ ∃ (j : Nat), (j <= a.len /\ True) /\ a.len + 1 - j < a.len + 1 - i /\ IntKind.i64.wrap ((↑i : Int) + 1) = (↑j : Int) /\ (↑a.len : Int) = (↑a.len : Int) /\ a.rows = a.rows /\ b.rows = b.rows /\ Value.func (Fn.func (77 : Nat)) #[] #[] = Value.func (Fn.func (77 : Nat)) #[] #[] /\ a.rows = a.rows) /\ (decide ((↑i : Int) < (↑a.len : Int)) = false -> true = true))) (by kernel_rfl) ?_
      intro he hk hm
      have hl : a.len = b.len := congrArg List.length he
      have hel : ∀ i j, b.el i j = a.el i j := fun i j => by unfold D.el; rw [he]
      have hz1 : a.len <= 1000000 := ((bS_iff a).1 hk).1
      refine ⟨fun hc => by rw [hl] at hc; simp at hc, fun _ => ⟨⟨0, ⟨Nat.zero_le _, trivial⟩, (by (repeat' (with_reducible apply And.intro)) <;> first | with_reducible rfl | exact True.intro | assumption | (symm; assumption) | rfl)⟩, fun i hi => ⟨fun hc => ?_, fun _ => rfl⟩⟩⟩
      have hc := of_decide_eq_true hc
      have hi2 : i < a.len := by omega
      have en : (i : Int).toNat = i := Int.toNat_natCast i
      have hw : IntKind.i64.wrap ((i : Int) + 1) = ((i + 1 : Nat) : Int) := by rw [IntWalk.i64_in _ (by omega)]; omega
      simp only [en, hel]
      obtain ⟨b1, b2, b3, b4, b5, b6⟩ := ((bS_iff a).1 hk).2 i hi2
      have z1 := lel_lt (j := 16) hi2
      have z2 := lel_lt (j := 17) hi2
      have z3 := lel_lt (j := 18) hi2
      have hm2 := Nat.le_of_lt_succ hm
      exact ⟨⟨by omega, hc⟩, ⟨by omega, by omega⟩, (by (repeat' (with_reducible apply And.intro)) <;> trivial), ⟨b1, b2, b3, b4, b5, b6⟩, ⟨Nat.lt_of_lt_of_le z1 hm2, Nat.lt_of_lt_of_le z2 hm2, Nat.lt_of_lt_of_le z3 (Nat.le_succ_of_le hm2)⟩, i + 1, ⟨hi2, trivial⟩, by omega, hw, (by (repeat' (with_reducible apply And.intro)) <;> first | with_reducible rfl | exact True.intro | assumption | (symm; assumption) | rfl)⟩
    · trivial
  · trivial
theorem sby_step (m : Nat) (ih : ConOK Try.prog 51 (con [qB, qB] (sbySu m))) : ConOK Try.prog 51 (con [qB, qB] (sbySu (m + 1))) := by
  refine fn_ob tt_ok mixed Try.func51 rfl (fun _ _ => by kernel_rfl) (A := fun ds => ⟨fun _ => Cons.of [(76, (eqsC m))], fun _ => none, fun _ => none⟩) (fun _ _ => (cons_cons (eqs_ok ih) cons_nil)) (by kernel_rfl) ?_
  intro ds fr
  unfold sbySu
  split
  · rename_i d d2
    refine kmp (q := SizeOf.sizeOf d < m + 1 -> d.rows = d2.rows -> bS d -> d.rows = d2.rows /\ bS d /\ SizeOf.sizeOf d < m + 1 /\ true = true) (by kernel_rfl) ?_
    intro hm he hb
    exact ⟨he, hb, hm, rfl⟩
  · trivial
theorem sby_ok : ConOK Try.prog 51 sbyC :=
  con_rec sbyM (fun _ _ => by kernel_rfl) fun m ih => by
    rw [sby_under] at ih ⊢
    exact sby_step m ih
end Go.Proofs.Ytbhbjhejkamlnaa.Sx.Z
namespace Go.Proofs.Ytbhbjhejkamlnaa.Sx.Z
open Go.RowKit
def qCh : AP := .agg [.c .str, .c (.int .i64), .c (.int .i64), .c .str, .c .str, .c (.rows 9)]
def qRu : AP := .agg [.c .str, .c (.rows 106)]
def qPo : AP := .agg [.c .str, .c (.rows 9), .c (.rows 95)]
def qSy : AP := .agg [.c (.rows 97), .c (.rows 102), .c (.rows 87)]
noncomputable def eqzS : FSpec := fun ds _ => match ds with
  | [.d a, .d b] => some { val := .one (.sc (.bool (.lit true))), vc := [a.rows = b.rows, a.len <= 1000000] }
  | _ => none
noncomputable def eqzC : Con := con [.sc (.rows 9), .sc (.rows 9)] eqzS
theorem eqz_ok : ConOK Try.prog 49 eqzC := by
  refine fn_ob tt_ok mixed Try.func49 rfl (fun _ _ => by kernel_rfl) (A := fun ds => ⟨fun _ => Cons.of [], fun k => match k, ds with | 4, [.d a, .d b] => some { ι := Nat, pre := fun _ i => i <= a.len /\ True, μ := fun i => a.len + 1 - i, st := fun s i => famR s [(13, .one (.sc (.int .i64 (.sym ((i : Nat)))))), (12, .one (.sc (.int .i64 (.sym ((a.len : Nat))))))] [0, 1, 11] [] [] } | _, _ => none, fun _ => none⟩) (fun _ _ => cons_nil) (by kernel_rfl) ?_
  intro ds fr
  unfold eqzS
  split
  · rename_i a b
    refine kmp (q := a.rows = b.rows -> a.len <= 1000000 -> (((↑a.len : Int) != (↑b.len : Int)) = true -> false = true) /\ (((↑a.len : Int) != (↑b.len : Int)) = false -> (∃ (i : Nat), (i <= a.len /\ True) /\ (0 : Int) = (↑i : Int) /\ (↑a.len : Int) = (↑a.len : Int) /\ a.rows = a.rows /\ b.rows = b.rows /\ a.rows = a.rows) /\ ∀ (i : Nat), i <= a.len /\ True -> (decide ((↑i : Int) < (↑a.len : Int)) = true -> ((0 : Int) <= (↑i : Int) /\ (↑i : Int) < (↑a.len : Int)) /\ ((0 : Int) <= (↑i : Int) /\ (↑i : Int) < (↑b.len : Int)) /\ ((!(a.el (↑i : Int).toNat (0 : Nat)).toS.toList == (b.el (↑i : Int).toNat (0 : Nat)).toS.toList) = true -> false = true) /\ ((!(a.el (↑i : Int).toNat (0 : Nat)).toS.toList == (b.el (↑i : Int).toNat (0 : Nat)).toS.toList) = false -> ∃ (j : Nat), (j <= a.len /\ True) /\ a.len + 1 - j < a.len + 1 - i /\ IntKind.i64.wrap ((↑i : Int) + 1) = (↑j : Int) /\ (↑a.len : Int) = (↑a.len : Int) /\ a.rows = a.rows /\ b.rows = b.rows /\ a.rows = a.rows)) /\ (decide ((↑i : Int) < (↑a.len : Int)) = false -> true = true))) (by kernel_rfl) ?_
    intro he hz1
    have hl : a.len = b.len := congrArg List.length he
    have hel : ∀ i j, b.el i j = a.el i j := fun i j => by unfold D.el; rw [he]
    refine ⟨fun hc => by rw [hl] at hc; simp at hc, fun _ => ⟨⟨0, ⟨Nat.zero_le _, trivial⟩, (by (repeat' (with_reducible apply And.intro)) <;> first | with_reducible rfl | exact True.intro | assumption | (symm; assumption) | rfl)⟩, fun i hi => ⟨fun hc => ?_, fun _ => rfl⟩⟩⟩
    have hc := of_decide_eq_true hc
    have hi2 : i < a.len := by omega
    have en : (i : Int).toNat = i := Int.toNat_natCast i
    have hw : IntKind.i64.wrap ((i : Int) + 1) = ((i + 1 : Nat) : Int) := by rw [IntWalk.i64_in _ (by omega)]; omega
    simp only [en, hel]
    exact ⟨⟨by omega, hc⟩, ⟨by omega, by omega⟩, fun hx => by simp at hx, fun _ => ⟨i + 1, ⟨hi2, trivial⟩, by omega, hw, (by (repeat' (with_reducible apply And.intro)) <;> first | with_reducible rfl | exact True.intro | assumption | (symm; assumption) | rfl)⟩⟩
  · trivial
noncomputable def eqmS : FSpec := fun ds _ => match ds with
  | [.d a, .d b] => some { val := .one (.sc (.bool (.lit true))), vc := [a.rows = b.rows, a.len <= 1000000] }
  | _ => none
noncomputable def eqmC : Con := con [.sc (.rows 106), .sc (.rows 106)] eqmS
theorem eqm_ok : ConOK Try.prog 50 eqmC := by
  refine fn_ob tt_ok mixed Try.func50 rfl (fun _ _ => by kernel_rfl) (A := fun ds => ⟨fun _ => Cons.of [], fun k => match k, ds with | 4, [.d a, .d b] => some { ι := Nat, pre := fun _ i => i <= a.len /\ True, μ := fun i => a.len + 1 - i, st := fun s i => famR s [(13, .one (.sc (.int .i64 (.sym ((i : Nat)))))), (12, .one (.sc (.int .i64 (.sym ((a.len : Nat))))))] [0, 1, 11] [] [] } | _, _ => none, fun _ => none⟩) (fun _ _ => cons_nil) (by kernel_rfl) ?_
  intro ds fr
  unfold eqmS
  split
  · rename_i a b
    refine kmp (q := a.rows = b.rows -> a.len <= 1000000 -> (((↑a.len : Int) != (↑b.len : Int)) = true -> false = true) /\ (((↑a.len : Int) != (↑b.len : Int)) = false -> (∃ (i : Nat), (i <= a.len /\ True) /\ (0 : Int) = (↑i : Int) /\ (↑a.len : Int) = (↑a.len : Int) /\ a.rows = a.rows /\ b.rows = b.rows /\ a.rows = a.rows) /\ ∀ (i : Nat), i <= a.len /\ True -> (decide ((↑i : Int) < (↑a.len : Int)) = true -> ((0 : Int) <= (↑i : Int) /\ (↑i : Int) < (↑a.len : Int)) /\ ((0 : Int) <= (↑i : Int) /\ (↑i : Int) < (↑b.len : Int)) /\ ((!((a.el (↑i : Int).toNat (0 : Nat)).toI == (b.el (↑i : Int).toNat (0 : Nat)).toI && ((a.el (↑i : Int).toNat ((0 : Nat) + (1 : Nat))).toS.toList == (b.el (↑i : Int).toNat ((0 : Nat) + (1 : Nat))).toS.toList && ((a.el (↑i : Int).toNat ((0 : Nat) + 1 + (1 : Nat))).toI == (b.el (↑i : Int).toNat ((0 : Nat) + 1 + (1 : Nat))).toI && true)))) = true -> false = true) /\ ((!((a.el (↑i : Int).toNat (0 : Nat)).toI == (b.el (↑i : Int).toNat (0 : Nat)).toI && ((a.el (↑i : Int).toNat ((0 : Nat) + (1 : Nat))).toS.toList == (b.el (↑i : Int).toNat ((0 : Nat) + (1 : Nat))).toS.toList && ((a.el (↑i : Int).toNat ((0 : Nat) + 1 + (1 : Nat))).toI == (b.el (↑i : Int).toNat ((0 : Nat) + 1 + (1 : Nat))).toI && true)))) = false -> ∃ (j : Nat), (j <= a.len /\ True) /\ a.len + 1 - j < a.len + 1 - i /\ IntKind.i64.wrap ((↑i : Int) + 1) = (↑j : Int) /\ (↑a.len : Int) = (↑a.len : Int) /\ a.rows = a.rows /\ b.rows = b.rows /\ a.rows = a.rows)) /\ (decide ((↑i : Int) < (↑a.len : Int)) = false -> true = true))) (by kernel_rfl) ?_
    intro he hz1
    have hl : a.len = b.len := congrArg List.length he
    have hel : ∀ i j, b.el i j = a.el i j := fun i j => by unfold D.el; rw [he]
    refine ⟨fun hc => by rw [hl] at hc; simp at hc, fun _ => ⟨⟨0, ⟨Nat.zero_le _, trivial⟩, (by (repeat' (with_reducible apply And.intro)) <;> first | with_reducible rfl | exact True.intro | assumption | (symm; assumption) | rfl)⟩, fun i hi => ⟨fun hc => ?_, fun _ => rfl⟩⟩⟩
    have hc := of_decide_eq_true hc
    have hi2 : i < a.len := by omega
    have en : (i : Int).toNat = i := Int.toNat_natCast i
    have hw : IntKind.i64.wrap ((i : Int) + 1) = ((i + 1 : Nat) : Int) := by rw [IntWalk.i64_in _ (by omega)]; omega
    simp only [en, hel]
    exact ⟨⟨by omega, hc⟩, ⟨by omega, by omega⟩, fun hx => by simp at hx, fun _ => ⟨i + 1, ⟨hi2, trivial⟩, by omega, hw, (by (repeat' (with_reducible apply And.intro)) <;> first | with_reducible rfl | exact True.intro | assumption | (symm; assumption) | rfl)⟩⟩
  · trivial
noncomputable def schS : FSpec := fun ds _ => match ds with
  | [.s n, .i k, .i z, .s f, .s t, .d d, .s n2, .i k2, .i z2, .s f2, .s t2, .d d2] => some { val := .one (.sc (.bool (.lit true))), vc := [n = n2 /\ k = k2 /\ z = z2 /\ f = f2 /\ t = t2 /\ d.rows = d2.rows, d.len <= 1000000] }
  | _ => none
noncomputable def schC : Con := con [qCh, qCh] schS
theorem sch_ok : ConOK Try.prog 24 schC := by
  refine fn_ob tt_ok mixed Try.func24 rfl (fun _ _ => by kernel_rfl) (A := fun ds => ⟨fun _ => Cons.of [(49, eqzC)], fun _ => none, fun _ => none⟩) (fun _ _ => (cons_cons eqz_ok cons_nil)) (by kernel_rfl) ?_
  intro ds fr
  unfold schS
  split
  · rename_i n k z f t d n2 k2 z2 f2 t2 d2
    refine kmp (q := n = n2 /\ k = k2 /\ z = z2 /\ f = f2 /\ t = t2 /\ d.rows = d2.rows -> d.len <= 1000000 -> ((n.toList == n2.toList && k == k2 && z == z2 && f.toList == f2.toList && t.toList == t2.toList) = true /\ True -> d.rows = d2.rows) /\ ((n.toList == n2.toList && k == k2 && z == z2 && f.toList == f2.toList && t.toList == t2.toList) = true /\ True -> d.len <= (1000000 : Nat)) /\ (n.toList == n2.toList && k == k2 && z == z2 && f.toList == f2.toList && t.toList == t2.toList || false) = true) (by kernel_rfl) ?_
    rintro ⟨rfl, rfl, rfl, rfl, rfl, hd⟩ hl
    exact ⟨fun _ => hd, fun _ => hl, by simp⟩
  · trivial
noncomputable def sruS : FSpec := fun ds _ => match ds with
  | [.s n, .d d, .s n2, .d d2] => some { val := .one (.sc (.bool (.lit true))), vc := [n = n2 /\ d.rows = d2.rows, d.len <= 1000000] }
  | _ => none
noncomputable def sruC : Con := con [qRu, qRu] sruS
theorem sru_ok : ConOK Try.prog 26 sruC := by
  refine fn_ob tt_ok mixed Try.func26 rfl (fun _ _ => by kernel_rfl) (A := fun ds => ⟨fun _ => Cons.of [(50, eqmC)], fun _ => none, fun _ => none⟩) (fun _ _ => (cons_cons eqm_ok cons_nil)) (by kernel_rfl) ?_
  intro ds fr
  unfold sruS
  split
  · rename_i n d n2 d2
    refine kmp (q := n = n2 /\ d.rows = d2.rows -> d.len <= 1000000 -> ((n.toList == n2.toList) = true /\ True -> d.rows = d2.rows) /\ ((n.toList == n2.toList) = true /\ True -> d.len <= (1000000 : Nat)) /\ (n.toList == n2.toList || false) = true) (by kernel_rfl) ?_
    rintro ⟨rfl, hd⟩ hl
    exact ⟨fun _ => hd, fun _ => hl, by simp⟩
  · trivial
noncomputable def spoS : FSpec := fun ds _ => match ds with
  | [.s n, .d d, .d b, .s n2, .d d2, .d b2] => some { val := .one (.sc (.bool (.lit true))), vc := [n = n2 /\ d.rows = d2.rows /\ b.rows = b2.rows, d.len <= 1000000, bS b] }
  | _ => none
noncomputable def spoC : Con := con [qPo, qPo] spoS
theorem spo_ok : ConOK Try.prog 28 spoC := by
  refine fn_ob tt_ok mixed Try.func28 rfl (fun _ _ => by kernel_rfl) (A := fun ds => ⟨fun _ => Cons.of [(49, eqzC), (51, sbyC)], fun _ => none, fun _ => none⟩) (fun _ _ => (cons_cons eqz_ok (cons_cons sby_ok cons_nil))) (by kernel_rfl) ?_
  intro ds fr
  unfold spoS
  split
  · rename_i n d b n2 d2 b2
    refine kmp (q := n = n2 /\ d.rows = d2.rows /\ b.rows = b2.rows -> d.len <= 1000000 -> bS b -> ((n.toList == n2.toList) = true /\ True -> d.rows = d2.rows) /\ ((n.toList == n2.toList) = true /\ True -> d.len <= (1000000 : Nat)) /\ ((n.toList == n2.toList || false) = true /\ True -> b.rows = b2.rows) /\ ((n.toList == n2.toList || false) = true /\ True -> bS b) /\ (n.toList == n2.toList || false || false) = true) (by kernel_rfl) ?_
    rintro ⟨rfl, hd, hb⟩ hl hs
    exact ⟨fun _ => hd, fun _ => hl, fun _ => hb, fun _ => hs, by simp⟩
  · trivial
noncomputable def eqcS : FSpec := fun ds _ => match ds with
  | [.d a, .d b, .v kf] => (match isFn 24 kf with | true => some { val := .one (.sc (.bool (.lit true))), vc := [a.rows = b.rows, a.len <= 1000000, ∀ i, i < a.len -> (a.el i 5).len <= 1000000] } | false => none)
  | _ => none
noncomputable def eqcC : Con := con [.sc (.rows 97), .sc (.rows 97), .sc .any] eqcS
theorem eqc_ok : ConOK Try.prog 23 eqcC := by
  refine fn_ob tt_ok mixed Try.func23 rfl (fun _ _ => by kernel_rfl) (A := fun ds => ⟨fun _ => Cons.of [(24, schC)], fun k => match k, ds with | 4, [.d a, .d b, .v _] => some { ι := Nat, pre := fun _ i => i <= a.len /\ True, μ := fun i => a.len + 1 - i, st := fun s i => famR s [(17, .one (.sc (.int .i64 (.sym ((i : Nat)))))), (16, .one (.sc (.int .i64 (.sym ((a.len : Nat))))))] [0, 1, 2, 15] [] [] } | _, _ => none, fun _ => none⟩) (fun _ _ => (cons_cons sch_ok cons_nil)) (by kernel_rfl) ?_
  intro ds fr
  unfold eqcS
  split
  · rename_i a b kf
    split
    · rename_i hg
      obtain rfl := isFn_eq hg
      refine kmp (q := a.rows = b.rows -> a.len <= 1000000 -> (∀ (i : Nat), i < a.len -> (a.el i (5 : Nat)).len <= (1000000 : Nat)) -> (((↑a.len : Int) != (↑b.len : Int)) = true -> false = true) /\ (((↑a.len : Int) != (↑b.len : Int)) = false -> (∃ (i : Nat), (i <= a.len /\ True) /\ (0 : Int) = (↑i : Int) /\ (↑a.len : Int) = (↑a.len : Int) /\ a.rows = a.rows /\ b.rows = b.rows /\ Value.func (Fn.func (24 : Nat)) #[] #[] = Value.func (Fn.func (24 : Nat)) #[] #[] /\ a.rows = a.rows) /\ ∀ (i : Nat), i <= a.len /\ True -> (decide ((↑i : Int) < (↑a.len : Int)) = true -> ((0 : Int) <= (↑i : Int) /\ (↑i : Int) < (↑a.len : Int)) /\ ((0 : Int) <= (↑i : Int) /\ (↑i : Int) < (↑b.len : Int)) /\ ((a.el (↑i : Int).toNat (0 : Nat)).toS = (b.el (↑i : Int).toNat (0 : Nat)).toS /\ (a.el (↑i : Int).toNat ((0 : Nat) + (1 : Nat))).toI = (b.el (↑i : Int).toNat ((0 : Nat) + (1 : Nat))).toI /\ (a.el (↑i : Int).toNat ((0 : Nat) + 1 + (1 : Nat))).toI = (b.el (↑i : Int).toNat ((0 : Nat) + 1 + (1 : Nat))).toI /\ (a.el (↑i : Int).toNat ((0 : Nat) + 1 + 1 + (1 : Nat))).toS = (b.el (↑i : Int).toNat ((0 : Nat) + 1 + 1 + (1 : Nat))).toS /\ (a.el (↑i : Int).toNat ((0 : Nat) + 1 + 1 + 1 + (1 : Nat))).toS = (b.el (↑i : Int).toNat ((0 : Nat) + 1 + 1 + 1 + (1 : Nat))).toS /\ (a.el (↑i : Int).toNat ((0 : Nat) + 1 + 1 + 1 + 1 + (1 : Nat))).rows = (b.el (↑i : Int).toNat ((0 : Nat) + 1 + 1 + 1 + 1 + (1 : Nat))).rows) /\ (a.el (↑i : Int).toNat ((0 : Nat) + 1 + 1 + 1 + 1 + (1 : Nat))).len <= 1000000 /\ ∃ (j : Nat), (j <= a.len /\ True) /\ a.len + 1 - j < a.len + 1 - i /\ IntKind.i64.wrap ((↑i : Int) + 1) = (↑j : Int) /\ (↑a.len : Int) = (↑a.len : Int) /\ a.rows = a.rows /\ b.rows = b.rows /\ Value.func (Fn.func (24 : Nat)) #[] #[] = Value.func (Fn.func (24 : Nat)) #[] #[] /\ a.rows = a.rows) /\ (decide ((↑i : Int) < (↑a.len : Int)) = false -> true = true))) (by kernel_rfl) ?_
      intro he hk hm
      have hl : a.len = b.len := congrArg List.length he
      have hel : ∀ i j, b.el i j = a.el i j := fun i j => by unfold D.el; rw [he]
      have hz1 : a.len <= 1000000 := hk
      refine ⟨fun hc => by rw [hl] at hc; simp at hc, fun _ => ⟨⟨0, ⟨Nat.zero_le _, trivial⟩, (by (repeat' (with_reducible apply And.intro)) <;> first | with_reducible rfl | exact True.intro | assumption | (symm; assumption) | rfl)⟩, fun i hi => ⟨fun hc => ?_, fun _ => rfl⟩⟩⟩
      have hc := of_decide_eq_true hc
      have hi2 : i < a.len := by omega
      have en : (i : Int).toNat = i := Int.toNat_natCast i
      have hw : IntKind.i64.wrap ((i : Int) + 1) = ((i + 1 : Nat) : Int) := by rw [IntWalk.i64_in _ (by omega)]; omega
      simp only [en, hel]
      exact ⟨⟨by omega, hc⟩, ⟨by omega, by omega⟩, (by (repeat' (with_reducible apply And.intro)) <;> trivial), hm i hi2, i + 1, ⟨hi2, trivial⟩, by omega, hw, (by (repeat' (with_reducible apply And.intro)) <;> first | with_reducible rfl | exact True.intro | assumption | (symm; assumption) | rfl)⟩
    · trivial
  · trivial
noncomputable def equS : FSpec := fun ds _ => match ds with
  | [.d a, .d b, .v kf] => (match isFn 26 kf with | true => some { val := .one (.sc (.bool (.lit true))), vc := [a.rows = b.rows, a.len <= 1000000, ∀ i, i < a.len -> (a.el i 1).len <= 1000000] } | false => none)
  | _ => none
noncomputable def equC : Con := con [.sc (.rows 102), .sc (.rows 102), .sc .any] equS
theorem equ_ok : ConOK Try.prog 25 equC := by
  refine fn_ob tt_ok mixed Try.func25 rfl (fun _ _ => by kernel_rfl) (A := fun ds => ⟨fun _ => Cons.of [(26, sruC)], fun k => match k, ds with | 4, [.d a, .d b, .v _] => some { ι := Nat, pre := fun _ i => i <= a.len /\ True, μ := fun i => a.len + 1 - i, st := fun s i => famR s [(17, .one (.sc (.int .i64 (.sym ((i : Nat)))))), (16, .one (.sc (.int .i64 (.sym ((a.len : Nat))))))] [0, 1, 2, 15] [] [] } | _, _ => none, fun _ => none⟩) (fun _ _ => (cons_cons sru_ok cons_nil)) (by kernel_rfl) ?_
  intro ds fr
  unfold equS
  split
  · rename_i a b kf
    split
    · rename_i hg
      obtain rfl := isFn_eq hg
      refine kmp (q := a.rows = b.rows -> a.len <= 1000000 -> (∀ (i : Nat), i < a.len -> (a.el i (1 : Nat)).len <= (1000000 : Nat)) -> (((↑a.len : Int) != (↑b.len : Int)) = true -> false = true) /\ (((↑a.len : Int) != (↑b.len : Int)) = false -> (∃ (i : Nat), (i <= a.len /\ True) /\ (0 : Int) = (↑i : Int) /\ (↑a.len : Int) = (↑a.len : Int) /\ a.rows = a.rows /\ b.rows = b.rows /\ Value.func (Fn.func (26 : Nat)) #[] #[] = Value.func (Fn.func (26 : Nat)) #[] #[] /\ a.rows = a.rows) /\ ∀ (i : Nat), i <= a.len /\ True -> (decide ((↑i : Int) < (↑a.len : Int)) = true -> ((0 : Int) <= (↑i : Int) /\ (↑i : Int) < (↑a.len : Int)) /\ ((0 : Int) <= (↑i : Int) /\ (↑i : Int) < (↑b.len : Int)) /\ ((a.el (↑i : Int).toNat (0 : Nat)).toS = (b.el (↑i : Int).toNat (0 : Nat)).toS /\ (a.el (↑i : Int).toNat ((0 : Nat) + (1 : Nat))).rows = (b.el (↑i : Int).toNat ((0 : Nat) + (1 : Nat))).rows) /\ (a.el (↑i : Int).toNat ((0 : Nat) + (1 : Nat))).len <= 1000000 /\ ∃ (j : Nat), (j <= a.len /\ True) /\ a.len + 1 - j < a.len + 1 - i /\ IntKind.i64.wrap ((↑i : Int) + 1) = (↑j : Int) /\ (↑a.len : Int) = (↑a.len : Int) /\ a.rows = a.rows /\ b.rows = b.rows /\ Value.func (Fn.func (26 : Nat)) #[] #[] = Value.func (Fn.func (26 : Nat)) #[] #[] /\ a.rows = a.rows) /\ (decide ((↑i : Int) < (↑a.len : Int)) = false -> true = true))) (by kernel_rfl) ?_
      intro he hk hm
      have hl : a.len = b.len := congrArg List.length he
      have hel : ∀ i j, b.el i j = a.el i j := fun i j => by unfold D.el; rw [he]
      have hz1 : a.len <= 1000000 := hk
      refine ⟨fun hc => by rw [hl] at hc; simp at hc, fun _ => ⟨⟨0, ⟨Nat.zero_le _, trivial⟩, (by (repeat' (with_reducible apply And.intro)) <;> first | with_reducible rfl | exact True.intro | assumption | (symm; assumption) | rfl)⟩, fun i hi => ⟨fun hc => ?_, fun _ => rfl⟩⟩⟩
      have hc := of_decide_eq_true hc
      have hi2 : i < a.len := by omega
      have en : (i : Int).toNat = i := Int.toNat_natCast i
      have hw : IntKind.i64.wrap ((i : Int) + 1) = ((i + 1 : Nat) : Int) := by rw [IntWalk.i64_in _ (by omega)]; omega
      simp only [en, hel]
      exact ⟨⟨by omega, hc⟩, ⟨by omega, by omega⟩, (by (repeat' (with_reducible apply And.intro)) <;> trivial), hm i hi2, i + 1, ⟨hi2, trivial⟩, by omega, hw, (by (repeat' (with_reducible apply And.intro)) <;> first | with_reducible rfl | exact True.intro | assumption | (symm; assumption) | rfl)⟩
    · trivial
  · trivial
noncomputable def eqpS : FSpec := fun ds _ => match ds with
  | [.d a, .d b, .v kf] => (match isFn 28 kf with | true => some { val := .one (.sc (.bool (.lit true))), vc := [a.rows = b.rows, a.len <= 1000000, ∀ i, i < a.len -> (a.el i 1).len <= 1000000 /\ bS (a.el i 2)] } | false => none)
  | _ => none
noncomputable def eqpC : Con := con [.sc (.rows 87), .sc (.rows 87), .sc .any] eqpS
theorem eqp_ok : ConOK Try.prog 27 eqpC := by
  refine fn_ob tt_ok mixed Try.func27 rfl (fun _ _ => by kernel_rfl) (A := fun ds => ⟨fun _ => Cons.of [(28, spoC)], fun k => match k, ds with | 4, [.d a, .d b, .v _] => some { ι := Nat, pre := fun _ i => i <= a.len /\ True, μ := fun i => a.len + 1 - i, st := fun s i => famR s [(17, .one (.sc (.int .i64 (.sym ((i : Nat)))))), (16, .one (.sc (.int .i64 (.sym ((a.len : Nat))))))] [0, 1, 2, 15] [] [] } | _, _ => none, fun _ => none⟩) (fun _ _ => (cons_cons spo_ok cons_nil)) (by kernel_rfl) ?_
  intro ds fr
  unfold eqpS
  split
  · rename_i a b kf
    split
    · rename_i hg
      obtain rfl := isFn_eq hg
      refine kmp (q := a.rows = b.rows -> a.len <= 1000000 -> (∀ (i : Nat), i < a.len -> (a.el i (1 : Nat)).len <= 1000000 /\ bS (a.el i (2 : Nat))) -> (((↑a.len : Int) != (↑b.len : Int)) = true -> false = true) /\ (((↑a.len : Int) != (↑b.len : Int)) = false -> (∃ (i : Nat), (i <= a.len /\ True) /\ (0 : Int) = (↑i : Int) /\ (↑a.len : Int) = (↑a.len : Int) /\ a.rows = a.rows /\ b.rows = b.rows /\ Value.func (Fn.func (28 : Nat)) #[] #[] = Value.func (Fn.func (28 : Nat)) #[] #[] /\ a.rows = a.rows) /\ ∀ (i : Nat), i <= a.len /\ True -> (decide ((↑i : Int) < (↑a.len : Int)) = true -> ((0 : Int) <= (↑i : Int) /\ (↑i : Int) < (↑a.len : Int)) /\ ((0 : Int) <= (↑i : Int) /\ (↑i : Int) < (↑b.len : Int)) /\ ((a.el (↑i : Int).toNat (0 : Nat)).toS = (b.el (↑i : Int).toNat (0 : Nat)).toS /\ (a.el (↑i : Int).toNat ((0 : Nat) + (1 : Nat))).rows = (b.el (↑i : Int).toNat ((0 : Nat) + (1 : Nat))).rows /\ (a.el (↑i : Int).toNat ((0 : Nat) + 1 + (1 : Nat))).rows = (b.el (↑i : Int).toNat ((0 : Nat) + 1 + (1 : Nat))).rows) /\ (a.el (↑i : Int).toNat ((0 : Nat) + (1 : Nat))).len <= 1000000 /\ bS (a.el (↑i : Int).toNat ((0 : Nat) + 1 + (1 : Nat))) /\ ∃ (j : Nat), (j <= a.len /\ True) /\ a.len + 1 - j < a.len + 1 - i /\ IntKind.i64.wrap ((↑i : Int) + 1) = (↑j : Int) /\ (↑a.len : Int) = (↑a.len : Int) /\ a.rows = a.rows /\ b.rows = b.rows /\ Value.func (Fn.func (28 : Nat)) #[] #[] = Value.func (Fn.func (28 : Nat)) #[] #[] /\ a.rows = a.rows) /\ (decide ((↑i : Int) < (↑a.len : Int)) = false -> true = true))) (by kernel_rfl) ?_
      intro he hk hm
      have hl : a.len = b.len := congrArg List.length he
      have hel : ∀ i j, b.el i j = a.el i j := fun i j => by unfold D.el; rw [he]
      have hz1 : a.len <= 1000000 := hk
      refine ⟨fun hc => by rw [hl] at hc; simp at hc, fun _ => ⟨⟨0, ⟨Nat.zero_le _, trivial⟩, (by (repeat' (with_reducible apply And.intro)) <;> first | with_reducible rfl | exact True.intro | assumption | (symm; assumption) | rfl)⟩, fun i hi => ⟨fun hc => ?_, fun _ => rfl⟩⟩⟩
      have hc := of_decide_eq_true hc
      have hi2 : i < a.len := by omega
      have en : (i : Int).toNat = i := Int.toNat_natCast i
      have hw : IntKind.i64.wrap ((i : Int) + 1) = ((i + 1 : Nat) : Int) := by rw [IntWalk.i64_in _ (by omega)]; omega
      simp only [en, hel]
      exact ⟨⟨by omega, hc⟩, ⟨by omega, by omega⟩, (by (repeat' (with_reducible apply And.intro)) <;> trivial), (hm i hi2).1, (hm i hi2).2, i + 1, ⟨hi2, trivial⟩, by omega, hw, (by (repeat' (with_reducible apply And.intro)) <;> first | with_reducible rfl | exact True.intro | assumption | (symm; assumption) | rfl)⟩
    · trivial
  · trivial
noncomputable def samS : FSpec := fun ds _ => match ds with
  | [.d c, .d u, .d p, .d c2, .d u2, .d p2] => some { val := .one (.sc (.bool (.lit true))), vc := [c.rows = c2.rows /\ u.rows = u2.rows /\ p.rows = p2.rows, SyS c u p] }
  | _ => none
noncomputable def samC : Con := con [qSy, qSy] samS
theorem sam_ok : ConOK Try.prog 10 samC := by
  refine fn_ob tt_ok mixed Try.func10 rfl (fun _ _ => by kernel_rfl) (A := fun ds => ⟨fun _ => Cons.of [(23, eqcC), (25, equC), (27, eqpC)], fun _ => none, fun _ => none⟩) (fun _ _ => (cons_cons eqc_ok (cons_cons equ_ok (cons_cons eqp_ok cons_nil)))) (by kernel_rfl) ?_
  intro ds fr
  unfold samS
  split
  · rename_i c u p c2 u2 p2
    refine kmp (q := c.rows = c2.rows /\ u.rows = u2.rows /\ p.rows = p2.rows -> SyS c u p -> c.rows = c2.rows /\ c.len <= 1000000 /\ (∀ (i : Nat), i < c.len -> (c.el i (5 : Nat)).len <= (1000000 : Nat)) /\ u.rows = u2.rows /\ u.len <= 1000000 /\ (∀ (i : Nat), i < u.len -> (u.el i (1 : Nat)).len <= (1000000 : Nat)) /\ p.rows = p2.rows /\ p.len <= 1000000 /\ (∀ (i : Nat), i < p.len -> (p.el i (1 : Nat)).len <= 1000000 /\ bS (p.el i (2 : Nat))) /\ true = true) (by kernel_rfl) ?_
    rintro ⟨h1, h2, h3⟩ hs
    exact ⟨h1, hs.c, hs.ct, h2, hs.r, hs.rm, h3, hs.p, fun i hi => ⟨hs.pv i hi, hs.pb i hi⟩, rfl⟩
  · trivial
end Go.Proofs.Ytbhbjhejkamlnaa.Sx.Z
namespace Go.Proofs.Ytbhbjhejkamlnaa.Sx.Z
open Go.RowKit
theorem cpTo_of {rows : List (List D)} {f : Nat -> List D} (h : ∀ (i : Nat) (hi : i < rows.length), f i = rows[i]) : cpTo rows.length f = .l rows := by
  unfold cpTo
  congr 1
  apply List.ext_getElem
  · simp
  · intro i h1 h2
    rw [List.getElem_map, List.getElem_range]
    exact h i h2
theorem el_row {rows : List (List D)} {i : Nat} (hi : i < rows.length) (j : Nat) : (D.l rows).el i j = (rows[i]).getD j (.i 0) := by
  show (rows.getD i []).getD j (.i 0) = _
  rw [List.getD_eq_getElem?_getD (l := rows), List.getElem?_eq_getElem hi, Option.getD_some]
def gX (d : D) : Prop := cpE d = d /\ kS d
def gB (d : D) : Prop := cpB d = d /\ bS d
theorem l_of {d e : D} (h : e = d) (he : ∃ r, e = .l r) : D.l d.rows = d := by
  obtain ⟨r, rfl⟩ := he
  rw [← h]; rfl
theorem gX_l {d : D} (h : gX d) : D.l d.rows = d := l_of h.1 ⟨_, by rw [cpE_eq]; rfl⟩
theorem gB_l {d : D} (h : gB d) : D.l d.rows = d := l_of h.1 ⟨_, by rw [cpB_eq]; rfl⟩
theorem gX_list {rows : List (List D)} (hl : rows.length <= 1000000) (h : ∀ row ∈ rows, ∃ x : Xp, row = x.row /\ gX x.d) : gX (.l rows) := by
  constructor
  · rw [cpE_eq]
    refine cpTo_of (rows := rows) fun i hi => ?_
    obtain ⟨x, hx, g⟩ := h _ (List.getElem_mem hi)
    have e := fun j => el_row hi j
    unfold rX
    rw [e 0, e 1, e 2, e 3, hx]
    show [D.i x.k, D.i x.n, D.s x.s, cpE (.l x.d.rows)] = x.row
    rw [gX_l g, g.1]
    show _ = [D.i x.k, D.i x.n, D.s x.s, .l x.d.rows]
    rw [gX_l g]
  · rw [kS_iff]
    refine ⟨hl, fun i hi => ?_⟩
    have hi : i < rows.length := hi
    obtain ⟨x, hx, g⟩ := h _ (List.getElem_mem hi)
    rw [el_row hi 3, hx]
    show kS (.l x.d.rows)
    rw [gX_l g]
    exact g.2
theorem gX_nil : gX (.l []) := gX_list (Nat.zero_le _) fun _ h => absurd h List.not_mem_nil
theorem gX_one {x : Xp} (h : gX x.d) : gX (.l [x.row]) := gX_list (show 1 <= 1000000 by decide) fun row hr => by
  obtain rfl := List.mem_singleton.1 hr
  exact ⟨x, rfl, h⟩
theorem gX_two {x y : Xp} (h : gX x.d) (h2 : gX y.d) : gX (.l [x.row, y.row]) := gX_list (show 2 <= 1000000 by decide) fun row hr => by
  rcases List.mem_cons.1 hr with rfl | hr
  · exact ⟨x, rfl, h⟩
  · obtain rfl := List.mem_singleton.1 hr
    exact ⟨y, rfl, h2⟩
theorem chL_g {P : Rd -> Xp × Rd} {K : ByteArray -> Int} {ws : D} (hP : ∀ r, gX (P r).1.d) : ∀ (n : Nat) (x : Xp) (r : Rd), gX x.d -> gX (chL P K ws n x r).1.d
  | 0, x, r, h => h
  | n + 1, x, r, h => by
    unfold chL
    split
    · exact h
    · exact chL_g hP n _ _ (gX_two h (hP _))
theorem chA_g {P : Rd -> Xp × Rd} {K : ByteArray -> Int} {ws : D} (hP : ∀ r, gX (P r).1.d) (r : Rd) : gX (chA P K ws r).1.d := chL_g hP _ _ _ (hP r)
theorem smF_g {P : PF} {en : Int} {ws : D} (hP : ∀ dp r, gX (P en ws dp r).1.d) (dp : Int) (r : Rd) : gX (smF P en ws dp r).1.d := chA_g (fun r => chA_g (hP dp) r) r
theorem fcR_g {en : Int} {ws : D} : ∀ (m : Nat) (dp : Int) (r : Rd), gX (fcR m en ws dp r).1.d
  | 0, _, _ => gX_nil
  | m + 1, dp, r => by
    show gX (fcB (fcR m) en ws dp r).1.d
    unfold fcB
    split
    · exact gX_nil
    · split
      · exact gX_one (fcR_g m _ _)
      · split
        · exact smF_g (fcR_g m) _ _
        · exact gX_nil
theorem smX_g (en : Int) (ws : D) (dp : Int) (r : Rd) : gX (smX en ws dp r).1.d := by
  unfold smX
  exact smF_g (fcR_g 1000001) dp r
theorem seqL_len {go : Rd -> Bool} {F : Rd -> List D × Rd} : ∀ (n : Nat) (d : D) (r : Rd), (seqL go F n d r).1.len <= d.len + n
  | 0, d, r => Nat.le_refl _
  | n + 1, d, r => by
    unfold seqL
    split
    · have := seqL_len (go := go) (F := F) n (.l (d.rows ++ [(F r).1])) (F r).2
      rw [ap_len] at this
      omega
    · exact Nat.le_add_right _ _
theorem seqL_all {go : Rd -> Bool} {F : Rd -> List D × Rd} {p : List D -> Prop} (hF : ∀ r, p (F r).1) : ∀ (n : Nat) (d : D) (r : Rd), (∃ rows, d = .l rows /\ ∀ row ∈ rows, p row) -> ∃ rows, (seqL go F n d r).1 = .l rows /\ ∀ row ∈ rows, p row
  | 0, d, r, h => h
  | n + 1, d, r, h => by
    unfold seqL
    split
    · obtain ⟨rows, rfl, hr⟩ := h
      refine seqL_all hF n _ _ ⟨rows ++ [(F r).1], rfl, fun row hm => ?_⟩
      rcases List.mem_append.1 hm with hm | hm
      · exact hr row hm
      · obtain rfl := List.mem_singleton.1 hm
        exact hF r
    · exact h
theorem seq_good {go : Rd -> Bool} {F : Rd -> List D × Rd} {p : List D -> Prop} {ws d : D} (hw : ws.len <= 2000) (hd : d.len <= 1) (hF : ∀ r, p (F r).1) (r : Rd) (h : ∃ rows, d = .l rows /\ ∀ row ∈ rows, p row) : ∃ rows, (seqA go F ws d r).1 = .l rows /\ rows.length <= 1000000 /\ ∀ row ∈ rows, p row := by
  obtain ⟨rows, e, hr⟩ := seqL_all (go := go) hF (left ws r) d r h
  refine ⟨rows, e, ?_, hr⟩
  have := seqL_len (go := go) (F := F) (left ws r) d r
  rw [e] at this
  have l : left ws r <= ws.len := Nat.sub_le _ _
  have : rows.length <= d.len + left ws r := this
  omega
theorem nil_all {p : List D -> Prop} : ∃ rows, D.l [] = .l rows /\ ∀ row ∈ rows, p row := ⟨[], rfl, fun _ h => absurd h List.not_mem_nil⟩
theorem one_all {p : List D -> Prop} {row : List D} (h : p row) : ∃ rows, D.l [row] = .l rows /\ ∀ row ∈ rows, p row := ⟨[row], rfl, fun q hq => by obtain rfl := List.mem_singleton.1 hq; exact h⟩
def gA (d : D) : Prop := ∃ rows, d = .l rows /\ rows.length <= 1000000 /\ ∀ row ∈ rows, ∃ a : Am, row = a.row /\ gB a.b
theorem gA_nil : gA (.l []) := ⟨[], rfl, Nat.zero_le _, fun _ h => absurd h List.not_mem_nil⟩
theorem gA_l {d : D} (h : gA d) : D.l d.rows = d := by
  obtain ⟨rows, rfl, _⟩ := h
  rfl
theorem gA_cp {d : D} (h : gA d) : cpTo d.len (arR d) = d := by
  obtain ⟨rows, rfl, _, hr⟩ := h
  refine cpTo_of (rows := rows) fun i hi => ?_
  obtain ⟨a, hx, g⟩ := hr _ (List.getElem_mem hi)
  have e := fun j => el_row hi j
  unfold arR
  rw [e 0, e 1, e 2, hx]
  show [D.s a.tg, D.s a.vr, cpB (.l a.b.rows)] = [D.s a.tg, D.s a.vr, .l a.b.rows]
  rw [gB_l g, g.1]
theorem gA_S {d : D} (h : gA d) : d.len <= 1000000 /\ ∀ j, j < d.len -> bS (d.el j 2) := by
  obtain ⟨rows, rfl, hl, hr⟩ := h
  refine ⟨hl, fun i hi => ?_⟩
  have hi : i < rows.length := hi
  obtain ⟨a, hx, g⟩ := hr _ (List.getElem_mem hi)
  rw [el_row hi 2, hx]
  show bS (.l a.b.rows)
  rw [gB_l g]
  exact g.2
structure gS (s : St) : Prop where
  e : gX s.e.d
  l : gX s.c.l.d
  r : gX s.c.r.d
  b : gB s.b
  el : gB s.el
  ar : gA s.ar
theorem gB_list {rows : List (List D)} (hl : rows.length <= 1000000) (h : ∀ row ∈ rows, ∃ s : St, row = s.row /\ gS s) : gB (.l rows) := by
  constructor
  · rw [cpB_eq]
    refine cpTo_of (rows := rows) fun i hi => ?_
    obtain ⟨s, hx, g⟩ := h _ (List.getElem_mem hi)
    have e := fun j => (el_row hi j).trans (congrArg (fun q : List D => q.getD j (.i 0)) hx)
    have e6 : (D.l rows).el i 6 = s.e.d := (e 6).trans (gX_l g.e)
    have e11 : (D.l rows).el i 11 = s.c.l.d := (e 11).trans (gX_l g.l)
    have e15 : (D.l rows).el i 15 = s.c.r.d := (e 15).trans (gX_l g.r)
    have e16 : (D.l rows).el i 16 = s.b := (e 16).trans (gB_l g.b)
    have e17 : (D.l rows).el i 17 = s.el := (e 17).trans (gB_l g.el)
    have e18 : (D.l rows).el i 18 = s.ar := (e 18).trans (gA_l g.ar)
    unfold rSt
    rw [e6, e11, e15, e16, e17, e18, gA_cp g.ar, g.e.1, g.l.1, g.r.1, g.b.1, g.el.1, e 0, e 1, e 2, e 3, e 4, e 5, e 7, e 8, e 9, e 10, e 12, e 13, e 14, hx]
    show [D.i s.k, D.s s.nm, D.s s.tg, D.i s.e.k, D.i s.e.n, D.s s.e.s, s.e.d, D.i s.c.op, D.i s.c.l.k, D.i s.c.l.n, D.s s.c.l.s, s.c.l.d, D.i s.c.r.k, D.i s.c.r.n, D.s s.c.r.s, s.c.r.d, s.b, s.el, s.ar] = [D.i s.k, D.s s.nm, D.s s.tg, D.i s.e.k, D.i s.e.n, D.s s.e.s, D.l s.e.d.rows, D.i s.c.op, D.i s.c.l.k, D.i s.c.l.n, D.s s.c.l.s, D.l s.c.l.d.rows, D.i s.c.r.k, D.i s.c.r.n, D.s s.c.r.s, D.l s.c.r.d.rows, D.l s.b.rows, D.l s.el.rows, D.l s.ar.rows]
    rw [gX_l g.e, gX_l g.l, gX_l g.r, gB_l g.b, gB_l g.el, gA_l g.ar]
  · rw [bS_iff]
    refine ⟨hl, fun i hi => ?_⟩
    have hi : i < rows.length := hi
    obtain ⟨s, hx, g⟩ := h _ (List.getElem_mem hi)
    have e := fun j => (el_row hi j).trans (congrArg (fun q : List D => q.getD j (.i 0)) hx)
    have e6 : (D.l rows).el i 6 = s.e.d := (e 6).trans (gX_l g.e)
    have e11 : (D.l rows).el i 11 = s.c.l.d := (e 11).trans (gX_l g.l)
    have e15 : (D.l rows).el i 15 = s.c.r.d := (e 15).trans (gX_l g.r)
    have e16 : (D.l rows).el i 16 = s.b := (e 16).trans (gB_l g.b)
    have e17 : (D.l rows).el i 17 = s.el := (e 17).trans (gB_l g.el)
    have e18 : (D.l rows).el i 18 = s.ar := (e 18).trans (gA_l g.ar)
    rw [e6, e11, e15, e16, e17, e18]
    exact ⟨g.e.2, g.l.2, g.r.2, g.b.2, g.el.2, gA_S g.ar⟩
theorem gB_nil : gB (.l []) := gB_list (Nat.zero_le _) fun _ h => absurd h List.not_mem_nil
theorem blF_g {P : PB} {en : Int} {ws : D} (hP : ∀ dp r, gB (P en ws dp r).1) (dp : Int) (r : Rd) : gB (blF P en ws dp r).1 := hP _ _
theorem cd_g (ws : D) (en : Int) (r : Rd) : gX (cdC ws en r).l.d /\ gX (cdC ws en r).r.d := ⟨smX_g _ _ _ _, smX_g _ _ _ _⟩
theorem stF_g {P : PB} {en : Int} {ws : D} (hw : ws.len <= 2000) (hP : ∀ dp r, gB (P en ws dp r).1) (dp : Int) (r : Rd) : gS (stF P en ws dp r).1 := by
  unfold stF
  split
  · refine ⟨gX_nil, (cd_g _ _ _).1, (cd_g _ _ _).2, blF_g hP _ _, ?_, gA_nil⟩
    show gB (cfB P en ws dp r).1
    unfold cfB
    split
    · exact blF_g hP _ _
    · exact gB_nil
  · split
    · exact ⟨gX_nil, (cd_g _ _ _).1, (cd_g _ _ _).2, blF_g hP _ _, gB_nil, gA_nil⟩
    · split
      · exact ⟨smX_g _ _ _ _, gX_nil, gX_nil, gB_nil, gB_nil, gA_nil⟩
      · split
        · exact ⟨gX_nil, gX_nil, gX_nil, gB_nil, gB_nil, seq_good hw (show D.len (.l [(amS P en ws dp (rvX en ws r)).row]) <= 1 from Nat.le_refl 1) (p := fun row => ∃ a : Am, row = a.row /\ gB a.b) (fun r => ⟨_, rfl, blF_g hP _ _⟩) _ (one_all ⟨_, rfl, blF_g hP _ _⟩)⟩
        · split
          · exact ⟨gX_nil, (cd_g _ _ _).1, (cd_g _ _ _).2, gB_nil, gB_nil, gA_nil⟩
          · split
            · exact ⟨gX_nil, gX_nil, gX_nil, gB_nil, gB_nil, gA_nil⟩
            · exact ⟨smX_g _ _ _ _, gX_nil, gX_nil, gB_nil, gB_nil, gA_nil⟩
theorem stR_g {en : Int} {ws : D} (hw : ws.len <= 2000) : ∀ (m : Nat) (dp : Int) (r : Rd), gB (stR m en ws dp r).1
  | 0, _, _ => gB_nil
  | m + 1, dp, r => by
    obtain ⟨rows, e, hl, hr⟩ := seq_good (go := stG ws) (F := stH (stR m) en ws dp) (d := .l []) (p := fun row => ∃ s : St, row = s.row /\ gS s) hw (Nat.zero_le _) (fun r => ⟨_, rfl, stF_g hw (stR_g hw m) dp r⟩) r nil_all
    show gB (seqA (stG ws) (stH (stR m) en ws dp) ws (.l []) r).1
    rw [e]
    exact gB_list hl hr
theorem stX_g {ws : D} (hw : ws.len <= 2000) (en : Int) (dp : Int) (r : Rd) : gB (stX en ws dp r).1 := by
  unfold stX
  exact stR_g hw 1000001 dp r
structure gY (c u p : D) : Prop where
  kc : cpC c = c
  ku : cpU u = u
  kp : cpP p = p
  s : SyS c u p
theorem row_tg {d : D} (h : ∃ rows, d = .l rows /\ rows.length <= 1000000 /\ ∀ row ∈ rows, ∃ n : ByteArray, row = [.s n]) : D.l d.rows = d /\ d.len <= 1000000 := by
  obtain ⟨rows, rfl, hl, _⟩ := h
  exact ⟨rfl, hl⟩
theorem row_mv {d : D} (h : ∃ rows, d = .l rows /\ rows.length <= 1000000 /\ ∀ row ∈ rows, ∃ (a : Int) (n : ByteArray) (b : Int), row = [.i a, .s n, .i b]) : cpTo d.len (mvR d) = d /\ D.l d.rows = d /\ d.len <= 1000000 := by
  obtain ⟨rows, rfl, hl, hr⟩ := h
  refine ⟨cpTo_of (rows := rows) fun i hi => ?_, rfl, hl⟩
  obtain ⟨a, n, b, hx⟩ := hr _ (List.getElem_mem hi)
  have e := fun j => el_row hi j
  unfold mvR
  rw [e 0, e 1, e 2, hx]
  rfl
theorem sy_good {ws : D} (hw : ws.len <= 2000) (en : Int) (r : Rd) : gY (syC ws en r).1 (syU ws en r).1 (syP ws en r).1 := by
  obtain ⟨R0, e0, l0, h0⟩ := seq_good (go := acG kwC ws) (F := csF ws en) (d := .l []) (p := fun row => ∃ c : Ch, row = c.row /\ ∃ rows, c.tg = .l rows /\ rows.length <= 1000000 /\ ∀ row ∈ rows, ∃ n : ByteArray, row = [.s n]) hw (Nat.zero_le _) (fun r => ⟨_, rfl, seq_good hw (show D.len (.l [[.s (nmS ws (chA4 ws en (acR ws kwC r)))]]) <= 1 from Nat.le_refl 1) (fun r => ⟨_, rfl⟩) _ (one_all ⟨_, rfl⟩)⟩) r nil_all
  obtain ⟨R1, e1, l1, h1⟩ := seq_good (go := acG kwU ws) (F := usF ws en) (d := .l []) (p := fun row => ∃ c : Ru, row = c.row /\ ∃ rows, c.mv = .l rows /\ rows.length <= 1000000 /\ ∀ row ∈ rows, ∃ (a : Int) (n : ByteArray) (b : Int), row = [.i a, .s n, .i b]) hw (Nat.zero_le _) (fun r => ⟨_, rfl, seq_good hw (Nat.zero_le _) (fun r => ⟨_, _, _, rfl⟩) _ nil_all⟩) (syC ws en r).2 nil_all
  obtain ⟨R2, e2, l2, h2⟩ := seq_good (go := acG kwP ws) (F := psF ws en) (d := .l []) (p := fun row => ∃ c : Po, row = c.row /\ (∃ rows, c.vs = .l rows /\ rows.length <= 1000000 /\ ∀ row ∈ rows, ∃ n : ByteArray, row = [.s n]) /\ gB c.b) hw (Nat.zero_le _) (fun r => ⟨_, rfl, seq_good hw (Nat.zero_le _) (fun r => ⟨_, rfl⟩) _ nil_all, stX_g hw _ _ _⟩) (syU ws en r).2 nil_all
  have e0 : (syC ws en r).1 = .l R0 := e0
  have e1 : (syU ws en r).1 = .l R1 := e1
  have e2 : (syP ws en r).1 = .l R2 := e2
  rw [e0, e1, e2]
  refine ⟨cpTo_of (rows := R0) fun i hi => ?_, cpTo_of (rows := R1) fun i hi => ?_, cpTo_of (rows := R2) fun i hi => ?_, l0, fun i hi => ?_, l1, fun i hi => ?_, l2, fun i hi => ?_, fun i hi => ?_⟩
  · obtain ⟨c, hx, g⟩ := h0 _ (List.getElem_mem hi)
    have e := fun j => el_row hi j
    unfold chRq
    rw [e 0, e 1, e 2, e 3, e 4, e 5, hx]
    rfl
  · obtain ⟨c, hx, g⟩ := h1 _ (List.getElem_mem hi)
    have e := fun j => el_row hi j
    have q := row_mv g
    unfold ruRq
    rw [e 0, e 1, hx]
    show [D.s c.ch, cpTo (D.l c.mv.rows).len (mvR (D.l c.mv.rows))] = [D.s c.ch, D.l c.mv.rows]
    rw [q.2.1, q.1]
  · obtain ⟨c, hx, g⟩ := h2 _ (List.getElem_mem hi)
    have e := fun j => el_row hi j
    unfold prR
    rw [e 0, e 1, e 2, hx]
    show [D.s c.nm, nD (D.l c.vs.rows), cpB (D.l c.b.rows)] = [D.s c.nm, D.l c.vs.rows, D.l c.b.rows]
    rw [gB_l g.2, g.2.1]
    rfl
  · have hi : i < R0.length := hi
    obtain ⟨c, hx, g⟩ := h0 _ (List.getElem_mem hi)
    rw [el_row hi 5, hx]
    exact (row_tg g).2
  · have hi : i < R1.length := hi
    obtain ⟨c, hx, g⟩ := h1 _ (List.getElem_mem hi)
    rw [el_row hi 1, hx]
    exact (row_mv g).2.2
  · have hi : i < R2.length := hi
    obtain ⟨c, hx, g⟩ := h2 _ (List.getElem_mem hi)
    rw [el_row hi 1, hx]
    exact (row_tg g.1).2
  · have hi : i < R2.length := hi
    obtain ⟨c, hx, g⟩ := h2 _ (List.getElem_mem hi)
    rw [el_row hi 2, hx]
    show bS (D.l c.b.rows)
    rw [gB_l g.2]
    exact g.2.2
theorem gY_nil : gY (.l []) (.l []) (.l []) := ⟨rfl, rfl, rfl, Nat.zero_le _, fun i hi => absurd hi (Nat.not_lt_zero i), Nat.zero_le _, fun i hi => absurd hi (Nat.not_lt_zero i), Nat.zero_le _, fun i hi => absurd hi (Nat.not_lt_zero i), fun i hi => absurd hi (Nat.not_lt_zero i)⟩
theorem paW_len (s : ByteArray) : (paW s).len <= 2000 := by
  have e : (paW s).len = (lexR s).1.length := tokD_len _
  rw [e]
  exact lexR_len s
theorem pa_good (s : ByteArray) : gY (paC s) (paU s) (paP s) := by
  have g := sy_good (paW_len s) ((s.size : Nat) : Int) (mR 0 0 0)
  cases h : paO s with
  | true =>
    simp only [paC, paU, paP, h, if_true]
    exact g
  | false =>
    simp only [paC, paU, paP, h, Bool.false_eq_true, if_false]
    exact gY_nil
end Go.Proofs.Ytbhbjhejkamlnaa.Sx.Z
namespace Go.Proofs.Ytbhbjhejkamlnaa.Sx.Z
open Go.RowKit
theorem gY_sub {c u p : D} (g : gY c u p) : (c.sub 0 (0 + c.len) = c /\ u.sub 0 (0 + u.len) = u /\ p.sub 0 (0 + p.len) = p) /\ List.map (chRq c) (List.range c.len) = c.rows /\ List.map (ruRq u) (List.range u.len) = u.rows /\ List.map (prR p) (List.range p.len) = p.rows := by
  refine ⟨⟨?_, ?_, ?_⟩, congrArg D.rows g.kc, congrArg D.rows g.ku, congrArg D.rows g.kp⟩
  · rw [subAll]; exact l_of g.kc ⟨_, rfl⟩
  · rw [subAll]; exact l_of g.ku ⟨_, rfl⟩
  · rw [subAll]; exact l_of g.kp ⟨_, rfl⟩
theorem tk_all (d : D) : List.drop 0 (List.take (0 + d.len) d.rows) = d.rows := by
  rw [Nat.zero_add]
  exact List.take_length
noncomputable def przS : FSpec := fun ds _ => match ds with
  | [.s t] => some { val := .one (.sc (.bool (.lit true))), vc := [] }
  | _ => none
noncomputable def przC : Con := con [.sc .str] przS
theorem prz_ok : ConOK Try.prog 3 przC := by
  refine fn_ob tt_ok mixed Try.func3 rfl (fun _ _ => by kernel_rfl) (A := fun ds => ⟨fun _ => Cons.of [(7, parC), (8, rpaC), (9, prsC), (10, samC), (11, ycpC)], fun _ => none, fun _ => none⟩) (fun _ _ => (cons_cons par_ok (cons_cons rpa_ok (cons_cons prs_ok (cons_cons sam_ok (cons_cons ycp_ok cons_nil)))))) (by kernel_rfl) ?_
  intro ds fr
  unfold przS
  split
  · rename_i t
    refine kmp (q := (((0 : Int) <= if (600 : Int) < (↑t.size : Int) then (600 : Int) else (↑t.size : Int)) /\ (if (600 : Int) < (↑t.size : Int) then (600 : Int) else (↑t.size : Int)) <= (↑t.size : Int)) /\ (t.extract 0 (if (600 : Int) < (↑t.size : Int) then (600 : Int) else (↑t.size : Int)).toNat).size <= 140737488351232 /\ (t.extract 0 (if (600 : Int) < (↑t.size : Int) then (600 : Int) else (↑t.size : Int)).toNat).size <= 2147483647 /\ (true && paA (t.extract 0 (if (600 : Int) < (↑t.size : Int) then (600 : Int) else (↑t.size : Int)).toNat) == rpA (t.extract 0 (if (600 : Int) < (↑t.size : Int) then (600 : Int) else (↑t.size : Int)).toNat) && paE (t.extract 0 (if (600 : Int) < (↑t.size : Int) then (600 : Int) else (↑t.size : Int)).toNat) == rpE (t.extract 0 (if (600 : Int) < (↑t.size : Int) then (600 : Int) else (↑t.size : Int)).toNat)) = true /\ 0 + (rpC (t.extract 0 (if (600 : Int) < (↑t.size : Int) then (600 : Int) else (↑t.size : Int)).toNat)).len <= (rpC (t.extract 0 (if (600 : Int) < (↑t.size : Int) then (600 : Int) else (↑t.size : Int)).toNat)).len /\ 0 + (rpU (t.extract 0 (if (600 : Int) < (↑t.size : Int) then (600 : Int) else (↑t.size : Int)).toNat)).len <= (rpU (t.extract 0 (if (600 : Int) < (↑t.size : Int) then (600 : Int) else (↑t.size : Int)).toNat)).len /\ 0 + (rpP (t.extract 0 (if (600 : Int) < (↑t.size : Int) then (600 : Int) else (↑t.size : Int)).toNat)).len <= (rpP (t.extract 0 (if (600 : Int) < (↑t.size : Int) then (600 : Int) else (↑t.size : Int)).toNat)).len /\ SyS ((rpC (t.extract 0 (if (600 : Int) < (↑t.size : Int) then (600 : Int) else (↑t.size : Int)).toNat)).sub 0 ((0 : Nat) + (rpC (t.extract 0 (if (600 : Int) < (↑t.size : Int) then (600 : Int) else (↑t.size : Int)).toNat)).len)) ((rpU (t.extract 0 (if (600 : Int) < (↑t.size : Int) then (600 : Int) else (↑t.size : Int)).toNat)).sub 0 ((0 : Nat) + (rpU (t.extract 0 (if (600 : Int) < (↑t.size : Int) then (600 : Int) else (↑t.size : Int)).toNat)).len)) ((rpP (t.extract 0 (if (600 : Int) < (↑t.size : Int) then (600 : Int) else (↑t.size : Int)).toNat)).sub 0 ((0 : Nat) + (rpP (t.extract 0 (if (600 : Int) < (↑t.size : Int) then (600 : Int) else (↑t.size : Int)).toNat)).len)) /\ ((true && paA (t.extract 0 (if (600 : Int) < (↑t.size : Int) then (600 : Int) else (↑t.size : Int)).toNat) == rpA (t.extract 0 (if (600 : Int) < (↑t.size : Int) then (600 : Int) else (↑t.size : Int)).toNat) && paE (t.extract 0 (if (600 : Int) < (↑t.size : Int) then (600 : Int) else (↑t.size : Int)).toNat) == rpE (t.extract 0 (if (600 : Int) < (↑t.size : Int) then (600 : Int) else (↑t.size : Int)).toNat)) = true /\ True -> 0 + (paC (t.extract 0 (if (600 : Int) < (↑t.size : Int) then (600 : Int) else (↑t.size : Int)).toNat)).len <= (paC (t.extract 0 (if (600 : Int) < (↑t.size : Int) then (600 : Int) else (↑t.size : Int)).toNat)).len) /\ ((true && paA (t.extract 0 (if (600 : Int) < (↑t.size : Int) then (600 : Int) else (↑t.size : Int)).toNat) == rpA (t.extract 0 (if (600 : Int) < (↑t.size : Int) then (600 : Int) else (↑t.size : Int)).toNat) && paE (t.extract 0 (if (600 : Int) < (↑t.size : Int) then (600 : Int) else (↑t.size : Int)).toNat) == rpE (t.extract 0 (if (600 : Int) < (↑t.size : Int) then (600 : Int) else (↑t.size : Int)).toNat)) = true /\ True -> 0 + (paU (t.extract 0 (if (600 : Int) < (↑t.size : Int) then (600 : Int) else (↑t.size : Int)).toNat)).len <= (paU (t.extract 0 (if (600 : Int) < (↑t.size : Int) then (600 : Int) else (↑t.size : Int)).toNat)).len) /\ ((true && paA (t.extract 0 (if (600 : Int) < (↑t.size : Int) then (600 : Int) else (↑t.size : Int)).toNat) == rpA (t.extract 0 (if (600 : Int) < (↑t.size : Int) then (600 : Int) else (↑t.size : Int)).toNat) && paE (t.extract 0 (if (600 : Int) < (↑t.size : Int) then (600 : Int) else (↑t.size : Int)).toNat) == rpE (t.extract 0 (if (600 : Int) < (↑t.size : Int) then (600 : Int) else (↑t.size : Int)).toNat)) = true /\ True -> 0 + (paP (t.extract 0 (if (600 : Int) < (↑t.size : Int) then (600 : Int) else (↑t.size : Int)).toNat)).len <= (paP (t.extract 0 (if (600 : Int) < (↑t.size : Int) then (600 : Int) else (↑t.size : Int)).toNat)).len) /\ ((true && paA (t.extract 0 (if (600 : Int) < (↑t.size : Int) then (600 : Int) else (↑t.size : Int)).toNat) == rpA (t.extract 0 (if (600 : Int) < (↑t.size : Int) then (600 : Int) else (↑t.size : Int)).toNat) && paE (t.extract 0 (if (600 : Int) < (↑t.size : Int) then (600 : Int) else (↑t.size : Int)).toNat) == rpE (t.extract 0 (if (600 : Int) < (↑t.size : Int) then (600 : Int) else (↑t.size : Int)).toNat)) = true /\ True -> List.drop 0 (List.take ((0 : Nat) + (paC (t.extract 0 (if (600 : Int) < (↑t.size : Int) then (600 : Int) else (↑t.size : Int)).toNat)).len) (paC (t.extract 0 (if (600 : Int) < (↑t.size : Int) then (600 : Int) else (↑t.size : Int)).toNat)).rows) = List.map (chRq ((rpC (t.extract 0 (if (600 : Int) < (↑t.size : Int) then (600 : Int) else (↑t.size : Int)).toNat)).sub 0 ((0 : Nat) + (rpC (t.extract 0 (if (600 : Int) < (↑t.size : Int) then (600 : Int) else (↑t.size : Int)).toNat)).len))) (List.range ((rpC (t.extract 0 (if (600 : Int) < (↑t.size : Int) then (600 : Int) else (↑t.size : Int)).toNat)).sub 0 ((0 : Nat) + (rpC (t.extract 0 (if (600 : Int) < (↑t.size : Int) then (600 : Int) else (↑t.size : Int)).toNat)).len)).len) /\ List.drop 0 (List.take ((0 : Nat) + (paU (t.extract 0 (if (600 : Int) < (↑t.size : Int) then (600 : Int) else (↑t.size : Int)).toNat)).len) (paU (t.extract 0 (if (600 : Int) < (↑t.size : Int) then (600 : Int) else (↑t.size : Int)).toNat)).rows) = List.map (ruRq ((rpU (t.extract 0 (if (600 : Int) < (↑t.size : Int) then (600 : Int) else (↑t.size : Int)).toNat)).sub 0 ((0 : Nat) + (rpU (t.extract 0 (if (600 : Int) < (↑t.size : Int) then (600 : Int) else (↑t.size : Int)).toNat)).len))) (List.range ((rpU (t.extract 0 (if (600 : Int) < (↑t.size : Int) then (600 : Int) else (↑t.size : Int)).toNat)).sub 0 ((0 : Nat) + (rpU (t.extract 0 (if (600 : Int) < (↑t.size : Int) then (600 : Int) else (↑t.size : Int)).toNat)).len)).len) /\ List.drop 0 (List.take ((0 : Nat) + (paP (t.extract 0 (if (600 : Int) < (↑t.size : Int) then (600 : Int) else (↑t.size : Int)).toNat)).len) (paP (t.extract 0 (if (600 : Int) < (↑t.size : Int) then (600 : Int) else (↑t.size : Int)).toNat)).rows) = List.map (prR ((rpP (t.extract 0 (if (600 : Int) < (↑t.size : Int) then (600 : Int) else (↑t.size : Int)).toNat)).sub 0 ((0 : Nat) + (rpP (t.extract 0 (if (600 : Int) < (↑t.size : Int) then (600 : Int) else (↑t.size : Int)).toNat)).len))) (List.range ((rpP (t.extract 0 (if (600 : Int) < (↑t.size : Int) then (600 : Int) else (↑t.size : Int)).toNat)).sub 0 ((0 : Nat) + (rpP (t.extract 0 (if (600 : Int) < (↑t.size : Int) then (600 : Int) else (↑t.size : Int)).toNat)).len)).len)) /\ ((true && paA (t.extract 0 (if (600 : Int) < (↑t.size : Int) then (600 : Int) else (↑t.size : Int)).toNat) == rpA (t.extract 0 (if (600 : Int) < (↑t.size : Int) then (600 : Int) else (↑t.size : Int)).toNat) && paE (t.extract 0 (if (600 : Int) < (↑t.size : Int) then (600 : Int) else (↑t.size : Int)).toNat) == rpE (t.extract 0 (if (600 : Int) < (↑t.size : Int) then (600 : Int) else (↑t.size : Int)).toNat)) = true /\ True -> SyS ((paC (t.extract 0 (if (600 : Int) < (↑t.size : Int) then (600 : Int) else (↑t.size : Int)).toNat)).sub 0 ((0 : Nat) + (paC (t.extract 0 (if (600 : Int) < (↑t.size : Int) then (600 : Int) else (↑t.size : Int)).toNat)).len)) ((paU (t.extract 0 (if (600 : Int) < (↑t.size : Int) then (600 : Int) else (↑t.size : Int)).toNat)).sub 0 ((0 : Nat) + (paU (t.extract 0 (if (600 : Int) < (↑t.size : Int) then (600 : Int) else (↑t.size : Int)).toNat)).len)) ((paP (t.extract 0 (if (600 : Int) < (↑t.size : Int) then (600 : Int) else (↑t.size : Int)).toNat)).sub 0 ((0 : Nat) + (paP (t.extract 0 (if (600 : Int) < (↑t.size : Int) then (600 : Int) else (↑t.size : Int)).toNat)).len))) /\ (true && paA (t.extract 0 (if (600 : Int) < (↑t.size : Int) then (600 : Int) else (↑t.size : Int)).toNat) == rpA (t.extract 0 (if (600 : Int) < (↑t.size : Int) then (600 : Int) else (↑t.size : Int)).toNat) && paE (t.extract 0 (if (600 : Int) < (↑t.size : Int) then (600 : Int) else (↑t.size : Int)).toNat) == rpE (t.extract 0 (if (600 : Int) < (↑t.size : Int) then (600 : Int) else (↑t.size : Int)).toNat) || false) = true) (by kernel_rfl) ?_
    have hr : (0 : Int) <= (if (600 : Int) < (t.size : Int) then (600 : Int) else (t.size : Int)) /\ (if (600 : Int) < (t.size : Int) then (600 : Int) else (t.size : Int)) <= (t.size : Int) /\ (if (600 : Int) < (t.size : Int) then (600 : Int) else (t.size : Int)) <= 600 := by split <;> omega
    generalize (if (600 : Int) < (t.size : Int) then (600 : Int) else (t.size : Int)) = k at hr ⊢
    have hs : (t.extract 0 k.toNat).size <= 600 := by rw [ByteArray.size_extract]; omega
    generalize t.extract 0 k.toNat = X at hs ⊢
    obtain ⟨e1, e2, e3, e4, e5⟩ := parse_eq X
    have g := pa_good X
    obtain ⟨⟨s1, s2, s3⟩, r1, r2, r3⟩ := gY_sub g
    rw [← e1, ← e2, ← e3, ← e4, ← e5, s1, s2, s3, tk_all, tk_all, tk_all, r1, r2, r3]
    have z : ∀ n : Nat, 0 + n <= n := fun n => Nat.le_of_eq (Nat.zero_add n)
    exact ⟨⟨hr.1, hr.2.1⟩, by omega, by omega, by simp, z _, z _, z _, g.s, fun _ => z _, fun _ => z _, fun _ => z _, fun _ => ⟨rfl, rfl, rfl⟩, fun _ => g.s, by simp⟩
  · trivial
end Go.Proofs.Ytbhbjhejkamlnaa.Sx.Z
