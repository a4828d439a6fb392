/-
  The laws' copies of statements.
-/
import Derived.Test.YtomodncooiddaaaDoorJm
namespace Go.Proofs.YtomodncooiddaaaDoor.Sx.Z
open Go.RowKit
def lBr : AP := .sc (.rows 39)
theorem cpTo_all (n : Nat) (f : Nat → List D) : (cpTo n f).sub 0 (0 + n) = cpTo n f := by
  rw [Nat.zero_add]
  show D.l (List.drop 0 (List.take n ((List.range n).map f))) = _
  rw [List.take_of_length_le (by simp)]; rfl
def cpB (d : D) : D := .l ((List.finRange d.len).map fun (i : Fin d.len) => [D.i (d.el i 0).toI, D.s (d.el i 1).toS, D.s (d.el i 2).toS, D.i (d.el i 3).toI, D.i (d.el i 4).toI, D.s (d.el i 5).toS, cpE (d.el i 6), D.i (d.el i 7).toI, D.i (d.el i 8).toI, D.i (d.el i 9).toI, D.s (d.el i 10).toS, cpE (d.el i 11), D.i (d.el i 12).toI, D.i (d.el i 13).toI, D.s (d.el i 14).toS, cpE (d.el i 15), cpB (d.el i 16), cpB (d.el i 17), .l ((List.finRange (d.el i 18).len).map fun (j : Fin (d.el i 18).len) => [D.s ((d.el i 18).el j 0).toS, D.s ((d.el i 18).el j 1).toS, cpB ((d.el i 18).el j 2)])])
  termination_by SizeOf.sizeOf d
  decreasing_by
    · exact lel_lt i.isLt
    · exact lel_lt i.isLt
    · exact Nat.lt_trans (lel_lt j.isLt) (lel_lt i.isLt)
def arR (am : D) (j : Nat) : List D := [D.s (am.el j 0).toS, D.s (am.el j 1).toS, cpB (am.el j 2)]
def rSt (d : D) (i : Nat) : List D := [D.i (d.el i 0).toI, D.s (d.el i 1).toS, D.s (d.el i 2).toS, D.i (d.el i 3).toI, D.i (d.el i 4).toI, D.s (d.el i 5).toS, cpE (d.el i 6), D.i (d.el i 7).toI, D.i (d.el i 8).toI, D.i (d.el i 9).toI, D.s (d.el i 10).toS, cpE (d.el i 11), D.i (d.el i 12).toI, D.i (d.el i 13).toI, D.s (d.el i 14).toS, cpE (d.el i 15), cpB (d.el i 16), cpB (d.el i 17), cpTo (d.el i 18).len (arR (d.el i 18))]
theorem cpB_eq (d : D) : cpB d = cpTo d.len (rSt d) := by
  rw [cpB, ← cpF_eq]
  congr 2
  funext i
  unfold rSt
  rw [← cpF_eq]
  rfl
/-- No row is too long. -/
def bS (d : D) : Prop := d.len * 288 ≤ 140737488355328 ∧ ∀ i : Fin d.len, kS (d.el i 6) ∧ kS (d.el i 11) ∧ kS (d.el i 15) ∧ bS (d.el i 16) ∧ bS (d.el i 17) ∧ (d.el i 18).len * 56 ≤ 140737488355328 ∧ ∀ j : Fin (d.el i 18).len, bS ((d.el i 18).el j 2)
  termination_by SizeOf.sizeOf d
  decreasing_by
    · exact lel_lt i.isLt
    · exact lel_lt i.isLt
    · exact Nat.lt_trans (lel_lt j.isLt) (lel_lt i.isLt)
theorem bS_iff (d : D) : bS d ↔ d.len * 288 ≤ 140737488355328 ∧ ∀ i, i < d.len → kS (d.el i 6) ∧ kS (d.el i 11) ∧ kS (d.el i 15) ∧ bS (d.el i 16) ∧ bS (d.el i 17) ∧ (d.el i 18).len * 56 ≤ 140737488355328 ∧ ∀ j, j < (d.el i 18).len → bS ((d.el i 18).el j 2) := by
  rw [bS]
  refine ⟨fun h => ⟨h.1, fun i hi => ?_⟩, fun h => ⟨h.1, fun i => ?_⟩⟩
  · obtain ⟨a, b, c, e, f, g, k⟩ := h.2 ⟨i, hi⟩
    exact ⟨a, b, c, e, f, g, fun j hj => k ⟨j, hj⟩⟩
  · obtain ⟨a, b, c, e, f, g, k⟩ := h.2 i.1 i.2
    exact ⟨a, b, c, e, f, g, fun j => k j.1 j.2⟩
noncomputable def scpS : FSpec := fun ds _ => match ds with
  | [.d d] => some { val := .one (.sc (.rows 156 (cpB d))), vc := [bS d] }
  | _ => none
noncomputable def scpC : Con := con [lBr] scpS
noncomputable def scpM : List Dat → Nat := fun ds => match ds with
  | [.d d] => SizeOf.sizeOf d
  | _ => 0
noncomputable def scpSu (m : Nat) : FSpec := fun ds _ => match ds with
  | [.d d] => some { val := .one (.sc (.rows 156 (cpB d))), vc := [SizeOf.sizeOf d < m, bS d] }
  | _ => none
theorem scp_under (m : Nat) : scpS.under scpM m = scpSu m := by
  funext ds fr
  unfold FSpec.under scpS scpM scpSu
  split
  · rename_i e h
    split at h
    · obtain rfl := Option.some.inj h; rfl
    · cases h
  · rename_i h
    split at h
    · cases h
    · rfl
theorem scp_step (m : Nat) (ih : ConOK Tryd.prog 26 (con [lBr] (scpSu m))) : ConOK Tryd.prog 26 (con [lBr] (scpSu (m + 1))) := by
  refine fn_ob tt_ok mixed Tryd.func26 rfl (fun _ _ => by kernel_rfl) (A := fun ds => ⟨fun _ => Cons.of [(52, xcpC), (53, ccpC), (26, con [lBr] (scpSu m))], fun k => match k, ds with | 3, [.d d] => some { ι := Nat, pre := fun _ i => i ≤ d.len, μ := fun i => d.len + 1 - i, st := fun s i => famR s [(4, .one (.sc (.int .i64 (.sym ((i : Nat)))))), (3, .one (.sc (.osl 156 (s.nx - 1) (.lit 0) (.sym (i)))))] [0] [(s.nx - 1, .orow 156 (cpTo i (rSt d)))] [] } | 8, [.d d] => some { ι := Nat, pre := fun s q => q ≤ (d.el (slotN s 4) 18).len ∧ True, μ := fun q => 3000000000001 - q, st := fun s q => famR s [(7, .one (.sc (.int .i64 (.sym ((q : Nat))))))] [0, 3, 4, 5, 6] [(idOf s 6, .own 156 ([.c (.int .i64 (.sym ((d.el (slotN s 4) 0).toI))), .c (.raw (.string ((d.el (slotN s 4) 1).toS))), .c (.raw (.string ((d.el (slotN s 4) 2).toS))), .c (.int .i64 (.sym ((d.el (slotN s 4) 3).toI))), .c (.int .i64 (.sym ((d.el (slotN s 4) 4).toI))), .c (.raw (.string ((d.el (slotN s 4) 5).toS))), .c (.rows 149 (cpE (d.el (slotN s 4) 6))), .c (.int .i64 (.sym ((d.el (slotN s 4) 7).toI))), .c (.int .i64 (.sym ((d.el (slotN s 4) 8).toI))), .c (.int .i64 (.sym ((d.el (slotN s 4) 9).toI))), .c (.raw (.string ((d.el (slotN s 4) 10).toS))), .c (.rows 149 (cpE (d.el (slotN s 4) 11))), .c (.int .i64 (.sym ((d.el (slotN s 4) 12).toI))), .c (.int .i64 (.sym ((d.el (slotN s 4) 13).toI))), .c (.raw (.string ((d.el (slotN s 4) 14).toS))), .c (.rows 149 (cpE (d.el (slotN s 4) 15))), .c (.rows 156 (cpB (d.el (slotN s 4) 16))), .c (.rows 156 (cpB (d.el (slotN s 4) 17))), .c (.osl 158 (s.nx - 1) (.lit 0) (.sym q))])), (s.nx - 1, .orow 158 (cpTo q (arR (d.el (slotN s 4) 18))))] [3, 5] } | _, _ => none, fun _ => none⟩) (fun _ _ => (cons_cons xcp_ok (cons_cons ccp_ok (cons_cons ih cons_nil)))) (by kernel_rfl) ?_
  intro ds fr
  unfold scpSu
  split
  · rename_i d
    refine kmp (q := SizeOf.sizeOf d < m + (1 : Nat) →
 bS d →
 (∃ (i : Nat), i.le d.len ∧ (0 : Int) = (↑i : Int) ∧ i = (0 : Nat) ∧ d.rows = d.rows ∧ List.map (rSt d) (List.range i) = []) ∧
 ∀ (i : Nat),
 i.le d.len →
 (decide ((↑i : Int) < (↑d.len : Int)) = true →
 ((0 : Int) ≤ (↑i : Int) ∧ (↑i : Int) < (↑d.len : Int)) ∧
 kS (d.el (↑i : Int).toNat ((0 : Nat) + (1 : Nat) + (1 : Nat) + (1 : Nat) + (1 : Nat) + (1 : Nat) + (1 : Nat))) ∧
 kS
 (d.el (↑i : Int).toNat
 ((0 : Nat) + (1 : Nat) + (1 : Nat) + (1 : Nat) + (1 : Nat) + (1 : Nat) + (1 : Nat) + (1 : Nat) + (1 : Nat) + (1 : Nat) + (1 : Nat) +
 (1 : Nat))) ∧
 kS
 (d.el (↑i : Int).toNat
 ((0 : Nat) + (1 : Nat) + (1 : Nat) + (1 : Nat) + (1 : Nat) + (1 : Nat) + (1 : Nat) + (1 : Nat) + (1 : Nat) + (1 : Nat) + (1 : Nat) +
 (1 : Nat) +
 (1 : Nat) +
 (1 : Nat) +
 (1 : Nat) +
 (1 : Nat))) ∧
 SizeOf.sizeOf
 (d.el (↑i : Int).toNat
 ((0 : Nat) + (1 : Nat) + (1 : Nat) + (1 : Nat) + (1 : Nat) + (1 : Nat) + (1 : Nat) + (1 : Nat) + (1 : Nat) + (1 : Nat) +
 (1 : Nat) +
 (1 : Nat) +
 (1 : Nat) +
 (1 : Nat) +
 (1 : Nat) +
 (1 : Nat) +
 (1 : Nat))) <
 m ∧
 bS
 (d.el (↑i : Int).toNat
 ((0 : Nat) + (1 : Nat) + (1 : Nat) + (1 : Nat) + (1 : Nat) + (1 : Nat) + (1 : Nat) + (1 : Nat) + (1 : Nat) + (1 : Nat) +
 (1 : Nat) +
 (1 : Nat) +
 (1 : Nat) +
 (1 : Nat) +
 (1 : Nat) +
 (1 : Nat) +
 (1 : Nat))) ∧
 SizeOf.sizeOf
 (d.el (↑i : Int).toNat
 ((0 : Nat) + (1 : Nat) + (1 : Nat) + (1 : Nat) + (1 : Nat) + (1 : Nat) + (1 : Nat) + (1 : Nat) + (1 : Nat) + (1 : Nat) +
 (1 : Nat) +
 (1 : Nat) +
 (1 : Nat) +
 (1 : Nat) +
 (1 : Nat) +
 (1 : Nat) +
 (1 : Nat) +
 (1 : Nat))) <
 m ∧
 bS
 (d.el (↑i : Int).toNat
 ((0 : Nat) + (1 : Nat) + (1 : Nat) + (1 : Nat) + (1 : Nat) + (1 : Nat) + (1 : Nat) + (1 : Nat) + (1 : Nat) + (1 : Nat) +
 (1 : Nat) +
 (1 : Nat) +
 (1 : Nat) +
 (1 : Nat) +
 (1 : Nat) +
 (1 : Nat) +
 (1 : Nat) +
 (1 : Nat))) ∧
 (∃ (i_1 : Nat),
 (i_1 ≤ (d.el i (18 : Nat)).len ∧ True) ∧
 (0 : Int) = (↑i_1 : Int) ∧
 d.rows = d.rows ∧
 i = i ∧
 (↑i : Int) = (↑i : Int) ∧
 (d.el (↑i : Int).toNat (0 : Nat)).toI = (d.el i (0 : Nat)).toI ∧
 Value.string (d.el (↑i : Int).toNat ((0 : Nat) + (1 : Nat))).toS = Value.string (d.el i (1 : Nat)).toS ∧
 Value.string (d.el (↑i : Int).toNat ((0 : Nat) + (1 : Nat) + (1 : Nat))).toS =
 Value.string (d.el i (2 : Nat)).toS ∧
 (d.el (↑i : Int).toNat ((0 : Nat) + (1 : Nat) + (1 : Nat) + (1 : Nat))).toI = (d.el i (3 : Nat)).toI ∧
 (d.el (↑i : Int).toNat ((0 : Nat) + (1 : Nat) + (1 : Nat) + (1 : Nat) + (1 : Nat))).toI =
 (d.el i (4 : Nat)).toI ∧
 Value.string
 (d.el (↑i : Int).toNat
 ((0 : Nat) + (1 : Nat) + (1 : Nat) + (1 : Nat) + (1 : Nat) + (1 : Nat))).toS =
 Value.string (d.el i (5 : Nat)).toS ∧
 (cpE
 (d.el (↑i : Int).toNat
 ((0 : Nat) + (1 : Nat) + (1 : Nat) + (1 : Nat) + (1 : Nat) + (1 : Nat) + (1 : Nat)))).rows =
 (cpE (d.el i (6 : Nat))).rows ∧
 (d.el (↑i : Int).toNat
 ((0 : Nat) + (1 : Nat) + (1 : Nat) + (1 : Nat) + (1 : Nat) + (1 : Nat) + (1 : Nat) +
 (1 : Nat))).toI =
 (d.el i (7 : Nat)).toI ∧
 (d.el (↑i : Int).toNat
 ((0 : Nat) + (1 : Nat) + (1 : Nat) + (1 : Nat) + (1 : Nat) + (1 : Nat) + (1 : Nat) +
 (1 : Nat) +
 (1 : Nat))).toI =
 (d.el i (8 : Nat)).toI ∧
 (d.el (↑i : Int).toNat
 ((0 : Nat) + (1 : Nat) + (1 : Nat) + (1 : Nat) + (1 : Nat) + (1 : Nat) + (1 : Nat) +
 (1 : Nat) +
 (1 : Nat) +
 (1 : Nat))).toI =
 (d.el i (9 : Nat)).toI ∧
 Value.string
 (d.el (↑i : Int).toNat
 ((0 : Nat) + (1 : Nat) + (1 : Nat) + (1 : Nat) + (1 : Nat) + (1 : Nat) + (1 : Nat) +
 (1 : Nat) +
 (1 : Nat) +
 (1 : Nat) +
 (1 : Nat))).toS =
 Value.string (d.el i (10 : Nat)).toS ∧
 (cpE
 (d.el (↑i : Int).toNat
 ((0 : Nat) + (1 : Nat) + (1 : Nat) + (1 : Nat) + (1 : Nat) + (1 : Nat) + (1 : Nat) +
 (1 : Nat) +
 (1 : Nat) +
 (1 : Nat) +
 (1 : Nat) +
 (1 : Nat)))).rows =
 (cpE (d.el i (11 : Nat))).rows ∧
 (d.el (↑i : Int).toNat
 ((0 : Nat) + (1 : Nat) + (1 : Nat) + (1 : Nat) + (1 : Nat) + (1 : Nat) + (1 : Nat) +
 (1 : Nat) +
 (1 : Nat) +
 (1 : Nat) +
 (1 : Nat) +
 (1 : Nat) +
 (1 : Nat))).toI =
 (d.el i (12 : Nat)).toI ∧
 (d.el (↑i : Int).toNat
 ((0 : Nat) + (1 : Nat) + (1 : Nat) + (1 : Nat) + (1 : Nat) + (1 : Nat) +
 (1 : Nat) +
 (1 : Nat) +
 (1 : Nat) +
 (1 : Nat) +
 (1 : Nat) +
 (1 : Nat) +
 (1 : Nat) +
 (1 : Nat))).toI =
 (d.el i (13 : Nat)).toI ∧
 Value.string
 (d.el (↑i : Int).toNat
 ((0 : Nat) + (1 : Nat) + (1 : Nat) + (1 : Nat) + (1 : Nat) + (1 : Nat) +
 (1 : Nat) +
 (1 : Nat) +
 (1 : Nat) +
 (1 : Nat) +
 (1 : Nat) +
 (1 : Nat) +
 (1 : Nat) +
 (1 : Nat) +
 (1 : Nat))).toS =
 Value.string (d.el i (14 : Nat)).toS ∧
 (cpE
 (d.el (↑i : Int).toNat
 ((0 : Nat) + (1 : Nat) + (1 : Nat) + (1 : Nat) + (1 : Nat) + (1 : Nat) +
 (1 : Nat) +
 (1 : Nat) +
 (1 : Nat) +
 (1 : Nat) +
 (1 : Nat) +
 (1 : Nat) +
 (1 : Nat) +
 (1 : Nat) +
 (1 : Nat) +
 (1 : Nat)))).rows =
 (cpE (d.el i (15 : Nat))).rows ∧
 (cpB
 (d.el (↑i : Int).toNat
 ((0 : Nat) + (1 : Nat) + (1 : Nat) + (1 : Nat) + (1 : Nat) + (1 : Nat) +
 (1 : Nat) +
 (1 : Nat) +
 (1 : Nat) +
 (1 : Nat) +
 (1 : Nat) +
 (1 : Nat) +
 (1 : Nat) +
 (1 : Nat) +
 (1 : Nat) +
 (1 : Nat) +
 (1 : Nat)))).rows =
 (cpB (d.el i (16 : Nat))).rows ∧
 (cpB
 (d.el (↑i : Int).toNat
 ((0 : Nat) + (1 : Nat) + (1 : Nat) + (1 : Nat) + (1 : Nat) + (1 : Nat) +
 (1 : Nat) +
 (1 : Nat) +
 (1 : Nat) +
 (1 : Nat) +
 (1 : Nat) +
 (1 : Nat) +
 (1 : Nat) +
 (1 : Nat) +
 (1 : Nat) +
 (1 : Nat) +
 (1 : Nat) +
 (1 : Nat)))).rows =
 (cpB (d.el i (17 : Nat))).rows ∧
 i_1 = (0 : Nat) ∧
 List.map (arR (d.el i (18 : Nat))) (List.range i_1) = [] ∧
 List.map (rSt d) (List.range i) = List.map (rSt d) (List.range i) ∧
 (d.el (↑i : Int).toNat (0 : Nat)).toI =
 (d.el (↑i : Int).toNat (0 : Nat)).toI ∧
 Value.string (d.el (↑i : Int).toNat ((0 : Nat) + (1 : Nat))).toS =
 Value.string (d.el (↑i : Int).toNat ((0 : Nat) + (1 : Nat))).toS ∧
 Value.string
 (d.el (↑i : Int).toNat
 ((0 : Nat) + (1 : Nat) + (1 : Nat))).toS =
 Value.string
 (d.el (↑i : Int).toNat
 ((0 : Nat) + (1 : Nat) + (1 : Nat))).toS ∧
 (d.el (↑i : Int).toNat
 ((0 : Nat) + (1 : Nat) + (1 : Nat) + (1 : Nat))).toI =
 (d.el (↑i : Int).toNat
 ((0 : Nat) + (1 : Nat) + (1 : Nat) + (1 : Nat))).toI ∧
 (d.el (↑i : Int).toNat
 ((0 : Nat) + (1 : Nat) + (1 : Nat) + (1 : Nat) +
 (1 : Nat))).toI =
 (d.el (↑i : Int).toNat
 ((0 : Nat) + (1 : Nat) + (1 : Nat) + (1 : Nat) +
 (1 : Nat))).toI ∧
 Value.string
 (d.el (↑i : Int).toNat
 ((0 : Nat) + (1 : Nat) + (1 : Nat) + (1 : Nat) +
 (1 : Nat) +
 (1 : Nat))).toS =
 Value.string
 (d.el (↑i : Int).toNat
 ((0 : Nat) + (1 : Nat) + (1 : Nat) + (1 : Nat) +
 (1 : Nat) +
 (1 : Nat))).toS ∧
 (d.el (↑i : Int).toNat
 ((0 : Nat) + (1 : Nat) + (1 : Nat) + (1 : Nat) +
 (1 : Nat) +
 (1 : Nat) +
 (1 : Nat))).rows =
 (d.el (↑i : Int).toNat
 ((0 : Nat) + (1 : Nat) + (1 : Nat) + (1 : Nat) +
 (1 : Nat) +
 (1 : Nat) +
 (1 : Nat))).rows ∧
 (d.el (↑i : Int).toNat
 ((0 : Nat) + (1 : Nat) + (1 : Nat) + (1 : Nat) +
 (1 : Nat) +
 (1 : Nat) +
 (1 : Nat) +
 (1 : Nat))).toI =
 (d.el (↑i : Int).toNat
 ((0 : Nat) + (1 : Nat) + (1 : Nat) + (1 : Nat) +
 (1 : Nat) +
 (1 : Nat) +
 (1 : Nat) +
 (1 : Nat))).toI ∧
 (d.el (↑i : Int).toNat
 ((0 : Nat) + (1 : Nat) + (1 : Nat) + (1 : Nat) +
 (1 : Nat) +
 (1 : Nat) +
 (1 : Nat) +
 (1 : Nat) +
 (1 : Nat))).toI =
 (d.el (↑i : Int).toNat
 ((0 : Nat) + (1 : Nat) + (1 : Nat) + (1 : Nat) +
 (1 : Nat) +
 (1 : Nat) +
 (1 : Nat) +
 (1 : Nat) +
 (1 : Nat))).toI ∧
 (d.el (↑i : Int).toNat
 ((0 : Nat) + (1 : Nat) + (1 : Nat) + (1 : Nat) +
 (1 : Nat) +
 (1 : Nat) +
 (1 : Nat) +
 (1 : Nat) +
 (1 : Nat) +
 (1 : Nat))).toI =
 (d.el (↑i : Int).toNat
 ((0 : Nat) + (1 : Nat) + (1 : Nat) + (1 : Nat) +
 (1 : Nat) +
 (1 : Nat) +
 (1 : Nat) +
 (1 : Nat) +
 (1 : Nat) +
 (1 : Nat))).toI ∧
 Value.string
 (d.el (↑i : Int).toNat
 ((0 : Nat) + (1 : Nat) + (1 : Nat) +
 (1 : Nat) +
 (1 : Nat) +
 (1 : Nat) +
 (1 : Nat) +
 (1 : Nat) +
 (1 : Nat) +
 (1 : Nat) +
 (1 : Nat))).toS =
 Value.string
 (d.el (↑i : Int).toNat
 ((0 : Nat) + (1 : Nat) + (1 : Nat) +
 (1 : Nat) +
 (1 : Nat) +
 (1 : Nat) +
 (1 : Nat) +
 (1 : Nat) +
 (1 : Nat) +
 (1 : Nat) +
 (1 : Nat))).toS ∧
 (d.el (↑i : Int).toNat
 ((0 : Nat) + (1 : Nat) + (1 : Nat) +
 (1 : Nat) +
 (1 : Nat) +
 (1 : Nat) +
 (1 : Nat) +
 (1 : Nat) +
 (1 : Nat) +
 (1 : Nat) +
 (1 : Nat) +
 (1 : Nat))).rows =
 (d.el (↑i : Int).toNat
 ((0 : Nat) + (1 : Nat) + (1 : Nat) +
 (1 : Nat) +
 (1 : Nat) +
 (1 : Nat) +
 (1 : Nat) +
 (1 : Nat) +
 (1 : Nat) +
 (1 : Nat) +
 (1 : Nat) +
 (1 : Nat))).rows ∧
 (d.el (↑i : Int).toNat
 ((0 : Nat) + (1 : Nat) + (1 : Nat) +
 (1 : Nat) +
 (1 : Nat) +
 (1 : Nat) +
 (1 : Nat) +
 (1 : Nat) +
 (1 : Nat) +
 (1 : Nat) +
 (1 : Nat) +
 (1 : Nat) +
 (1 : Nat))).toI =
 (d.el (↑i : Int).toNat
 ((0 : Nat) + (1 : Nat) + (1 : Nat) +
 (1 : Nat) +
 (1 : Nat) +
 (1 : Nat) +
 (1 : Nat) +
 (1 : Nat) +
 (1 : Nat) +
 (1 : Nat) +
 (1 : Nat) +
 (1 : Nat) +
 (1 : Nat))).toI ∧
 (d.el (↑i : Int).toNat
 ((0 : Nat) + (1 : Nat) + (1 : Nat) +
 (1 : Nat) +
 (1 : Nat) +
 (1 : Nat) +
 (1 : Nat) +
 (1 : Nat) +
 (1 : Nat) +
 (1 : Nat) +
 (1 : Nat) +
 (1 : Nat) +
 (1 : Nat) +
 (1 : Nat))).toI =
 (d.el (↑i : Int).toNat
 ((0 : Nat) + (1 : Nat) + (1 : Nat) +
 (1 : Nat) +
 (1 : Nat) +
 (1 : Nat) +
 (1 : Nat) +
 (1 : Nat) +
 (1 : Nat) +
 (1 : Nat) +
 (1 : Nat) +
 (1 : Nat) +
 (1 : Nat) +
 (1 : Nat))).toI ∧
 Value.string
 (d.el (↑i : Int).toNat
 ((0 : Nat) + (1 : Nat) + (1 : Nat) +
 (1 : Nat) +
 (1 : Nat) +
 (1 : Nat) +
 (1 : Nat) +
 (1 : Nat) +
 (1 : Nat) +
 (1 : Nat) +
 (1 : Nat) +
 (1 : Nat) +
 (1 : Nat) +
 (1 : Nat) +
 (1 : Nat))).toS =
 Value.string
 (d.el (↑i : Int).toNat
 ((0 : Nat) + (1 : Nat) + (1 : Nat) +
 (1 : Nat) +
 (1 : Nat) +
 (1 : Nat) +
 (1 : Nat) +
 (1 : Nat) +
 (1 : Nat) +
 (1 : Nat) +
 (1 : Nat) +
 (1 : Nat) +
 (1 : Nat) +
 (1 : Nat) +
 (1 : Nat))).toS ∧
 (d.el (↑i : Int).toNat
 ((0 : Nat) + (1 : Nat) + (1 : Nat) +
 (1 :
 Nat) +
 (1 : Nat) +
 (1 : Nat) +
 (1 : Nat) +
 (1 : Nat) +
 (1 : Nat) +
 (1 : Nat) +
 (1 : Nat) +
 (1 : Nat) +
 (1 : Nat) +
 (1 : Nat) +
 (1 : Nat) +
 (1 : Nat))).rows =
 (d.el (↑i : Int).toNat
 ((0 : Nat) + (1 : Nat) + (1 : Nat) +
 (1 :
 Nat) +
 (1 : Nat) +
 (1 : Nat) +
 (1 : Nat) +
 (1 : Nat) +
 (1 : Nat) +
 (1 : Nat) +
 (1 : Nat) +
 (1 : Nat) +
 (1 : Nat) +
 (1 : Nat) +
 (1 : Nat) +
 (1 : Nat))).rows ∧
 (d.el (↑i : Int).toNat
 ((0 : Nat) + (1 : Nat) +
 (1 :
 Nat) +
 (1 :
 Nat) +
 (1 :
 Nat) +
 (1 :
 Nat) +
 (1 : Nat) +
 (1 : Nat) +
 (1 : Nat) +
 (1 : Nat) +
 (1 : Nat) +
 (1 : Nat) +
 (1 : Nat) +
 (1 : Nat) +
 (1 : Nat) +
 (1 : Nat) +
 (1 : Nat))).rows =
 (d.el (↑i : Int).toNat
 ((0 : Nat) + (1 : Nat) +
 (1 :
 Nat) +
 (1 :
 Nat) +
 (1 :
 Nat) +
 (1 :
 Nat) +
 (1 : Nat) +
 (1 : Nat) +
 (1 : Nat) +
 (1 : Nat) +
 (1 : Nat) +
 (1 : Nat) +
 (1 : Nat) +
 (1 : Nat) +
 (1 : Nat) +
 (1 : Nat) +
 (1 : Nat))).rows ∧
 (d.el (↑i : Int).toNat
 ((0 : Nat) + (1 : Nat) +
 (1 :
 Nat) +
 (1 :
 Nat) +
 (1 :
 Nat) +
 (1 :
 Nat) +
 (1 :
 Nat) +
 (1 :
 Nat) +
 (1 : Nat) +
 (1 : Nat) +
 (1 : Nat) +
 (1 : Nat) +
 (1 : Nat) +
 (1 : Nat) +
 (1 : Nat) +
 (1 : Nat) +
 (1 : Nat) +
 (1 : Nat))).rows =
 (d.el (↑i : Int).toNat
 ((0 : Nat) + (1 : Nat) +
 (1 :
 Nat) +
 (1 :
 Nat) +
 (1 :
 Nat) +
 (1 :
 Nat) +
 (1 :
 Nat) +
 (1 :
 Nat) +
 (1 : Nat) +
 (1 : Nat) +
 (1 : Nat) +
 (1 : Nat) +
 (1 : Nat) +
 (1 : Nat) +
 (1 : Nat) +
 (1 : Nat) +
 (1 : Nat) +
 (1 : Nat))).rows ∧
 (d.el (↑i : Int).toNat
 ((0 : Nat) + (1 : Nat) +
 (1 :
 Nat) +
 (1 :
 Nat) +
 (1 :
 Nat) +
 (1 :
 Nat) +
 (1 :
 Nat) +
 (1 :
 Nat) +
 (1 :
 Nat) +
 (1 : Nat) +
 (1 : Nat) +
 (1 : Nat) +
 (1 : Nat) +
 (1 : Nat) +
 (1 : Nat) +
 (1 : Nat) +
 (1 : Nat) +
 (1 : Nat) +
 (1 : Nat))).rows =
 (d.el (↑i : Int).toNat
 ((0 : Nat) + (1 : Nat) +
 (1 :
 Nat) +
 (1 :
 Nat) +
 (1 :
 Nat) +
 (1 :
 Nat) +
 (1 :
 Nat) +
 (1 :
 Nat) +
 (1 :
 Nat) +
 (1 : Nat) +
 (1 : Nat) +
 (1 : Nat) +
 (1 : Nat) +
 (1 : Nat) +
 (1 : Nat) +
 (1 : Nat) +
 (1 : Nat) +
 (1 : Nat) +
 (1 : Nat))).rows) ∧
 ∀ (i_1 : Nat),
 i_1 ≤ (d.el i (18 : Nat)).len ∧ True →
 (decide
 ((↑i_1 : Int) <
 (↑(d.el (↑i : Int).toNat
 ((0 : Nat) + (1 : Nat) + (1 : Nat) + (1 : Nat) + (1 : Nat) + (1 : Nat) + (1 : Nat) + (1 : Nat) +
 (1 : Nat) +
 (1 : Nat) +
 (1 : Nat) +
 (1 : Nat) +
 (1 : Nat) +
 (1 : Nat) +
 (1 : Nat) +
 (1 : Nat) +
 (1 : Nat) +
 (1 : Nat) +
 (1 : Nat))).len :
 Int)) =
 true →
 ((0 : Int) ≤ (↑i_1 : Int) ∧
 (↑i_1 : Int) <
 (↑(d.el (↑i : Int).toNat
 ((0 : Nat) + (1 : Nat) + (1 : Nat) + (1 : Nat) + (1 : Nat) + (1 : Nat) + (1 : Nat) + (1 : Nat) +
 (1 : Nat) +
 (1 : Nat) +
 (1 : Nat) +
 (1 : Nat) +
 (1 : Nat) +
 (1 : Nat) +
 (1 : Nat) +
 (1 : Nat) +
 (1 : Nat) +
 (1 : Nat) +
 (1 : Nat))).len :
 Int)) ∧
 ((0 : Int) ≤ (↑i_1 : Int) ∧
 (↑i_1 : Int) <
 (↑(d.el (↑i : Int).toNat
 ((0 : Nat) + (1 : Nat) + (1 : Nat) + (1 : Nat) + (1 : Nat) + (1 : Nat) + (1 : Nat) + (1 : Nat) +
 (1 : Nat) +
 (1 : Nat) +
 (1 : Nat) +
 (1 : Nat) +
 (1 : Nat) +
 (1 : Nat) +
 (1 : Nat) +
 (1 : Nat) +
 (1 : Nat) +
 (1 : Nat) +
 (1 : Nat))).len :
 Int)) ∧
 ((0 : Int) ≤ (↑i_1 : Int) ∧
 (↑i_1 : Int) <
 (↑(d.el (↑i : Int).toNat
 ((0 : Nat) + (1 : Nat) + (1 : Nat) + (1 : Nat) + (1 : Nat) + (1 : Nat) + (1 : Nat) + (1 : Nat) +
 (1 : Nat) +
 (1 : Nat) +
 (1 : Nat) +
 (1 : Nat) +
 (1 : Nat) +
 (1 : Nat) +
 (1 : Nat) +
 (1 : Nat) +
 (1 : Nat) +
 (1 : Nat) +
 (1 : Nat))).len :
 Int)) ∧
 SizeOf.sizeOf
 ((d.el (↑i : Int).toNat
 ((0 : Nat) + (1 : Nat) + (1 : Nat) + (1 : Nat) + (1 : Nat) + (1 : Nat) + (1 : Nat) + (1 : Nat) +
 (1 : Nat) +
 (1 : Nat) +
 (1 : Nat) +
 (1 : Nat) +
 (1 : Nat) +
 (1 : Nat) +
 (1 : Nat) +
 (1 : Nat) +
 (1 : Nat) +
 (1 : Nat) +
 (1 : Nat))).el
 (↑i_1 : Int).toNat ((0 : Nat) + (2 : Nat))) <
 m ∧
 bS
 ((d.el (↑i : Int).toNat
 ((0 : Nat) + (1 : Nat) + (1 : Nat) + (1 : Nat) + (1 : Nat) + (1 : Nat) + (1 : Nat) + (1 : Nat) +
 (1 : Nat) +
 (1 : Nat) +
 (1 : Nat) +
 (1 : Nat) +
 (1 : Nat) +
 (1 : Nat) +
 (1 : Nat) +
 (1 : Nat) +
 (1 : Nat) +
 (1 : Nat) +
 (1 : Nat))).el
 (↑i_1 : Int).toNat ((0 : Nat) + (2 : Nat))) ∧
 i_1 = (cpTo i_1 (arR (d.el i (18 : Nat)))).len ∧
 (i_1 +
 ((D.l
 [[D.s
 ((d.el (↑i : Int).toNat
 ((0 : Nat) + (1 : Nat) + (1 : Nat) + (1 : Nat) + (1 : Nat) + (1 : Nat) +
 (1 : Nat) +
 (1 : Nat) +
 (1 : Nat) +
 (1 : Nat) +
 (1 : Nat) +
 (1 : Nat) +
 (1 : Nat) +
 (1 : Nat) +
 (1 : Nat) +
 (1 : Nat) +
 (1 : Nat) +
 (1 : Nat) +
 (1 : Nat))).el
 (↑i_1 : Int).toNat ((0 : Nat) + (0 : Nat))).toS,
 D.s
 ((d.el (↑i : Int).toNat
 ((0 : Nat) + (1 : Nat) + (1 : Nat) + (1 : Nat) + (1 : Nat) + (1 : Nat) +
 (1 : Nat) +
 (1 : Nat) +
 (1 : Nat) +
 (1 : Nat) +
 (1 : Nat) +
 (1 : Nat) +
 (1 : Nat) +
 (1 : Nat) +
 (1 : Nat) +
 (1 : Nat) +
 (1 : Nat) +
 (1 : Nat) +
 (1 : Nat))).el
 (↑i_1 : Int).toNat ((0 : Nat) + (1 : Nat))).toS,
 cpB
 ((d.el (↑i : Int).toNat
 ((0 : Nat) + (1 : Nat) + (1 : Nat) + (1 : Nat) + (1 : Nat) + (1 : Nat) +
 (1 : Nat) +
 (1 : Nat) +
 (1 : Nat) +
 (1 : Nat) +
 (1 : Nat) +
 (1 : Nat) +
 (1 : Nat) +
 (1 : Nat) +
 (1 : Nat) +
 (1 : Nat) +
 (1 : Nat) +
 (1 : Nat) +
 (1 : Nat))).el
 (↑i_1 : Int).toNat ((0 : Nat) + (2 : Nat)))]]).sub
 (0 : Nat) ((0 : Nat) + (1 : Nat))).len) *
 (56 : Nat) ≤
 (140737488355328 : Nat) ∧
 (0 : Nat) + (1 : Nat) ≤
 (D.l
 [[D.s
 ((d.el (↑i : Int).toNat
 ((0 : Nat) + (1 : Nat) + (1 : Nat) + (1 : Nat) + (1 : Nat) + (1 : Nat) + (1 : Nat) +
 (1 : Nat) +
 (1 : Nat) +
 (1 : Nat) +
 (1 : Nat) +
 (1 : Nat) +
 (1 : Nat) +
 (1 : Nat) +
 (1 : Nat) +
 (1 : Nat) +
 (1 : Nat) +
 (1 : Nat) +
 (1 : Nat))).el
 (↑i_1 : Int).toNat ((0 : Nat) + (0 : Nat))).toS,
 D.s
 ((d.el (↑i : Int).toNat
 ((0 : Nat) + (1 : Nat) + (1 : Nat) + (1 : Nat) + (1 : Nat) + (1 : Nat) + (1 : Nat) +
 (1 : Nat) +
 (1 : Nat) +
 (1 : Nat) +
 (1 : Nat) +
 (1 : Nat) +
 (1 : Nat) +
 (1 : Nat) +
 (1 : Nat) +
 (1 : Nat) +
 (1 : Nat) +
 (1 : Nat) +
 (1 : Nat))).el
 (↑i_1 : Int).toNat ((0 : Nat) + (1 : Nat))).toS,
 cpB
 ((d.el (↑i : Int).toNat
 ((0 : Nat) + (1 : Nat) + (1 : Nat) + (1 : Nat) + (1 : Nat) + (1 : Nat) + (1 : Nat) +
 (1 : Nat) +
 (1 : Nat) +
 (1 : Nat) +
 (1 : Nat) +
 (1 : Nat) +
 (1 : Nat) +
 (1 : Nat) +
 (1 : Nat) +
 (1 : Nat) +
 (1 : Nat) +
 (1 : Nat) +
 (1 : Nat))).el
 (↑i_1 : Int).toNat ((0 : Nat) + (2 : Nat)))]]).len ∧
 ∃ (j : Nat),
 (j ≤ (d.el i (18 : Nat)).len ∧ True) ∧
 (3000000000001 : Nat) - j < (3000000000001 : Nat) - i_1 ∧
 IntKind.i64.wrap ((↑i_1 : Int) + (1 : Int)) = (↑j : Int) ∧
 d.rows = d.rows ∧
 i = i ∧
 (↑i : Int) = (↑i : Int) ∧
 (d.el i (0 : Nat)).toI = (d.el i (0 : Nat)).toI ∧
 Value.string (d.el i (1 : Nat)).toS = Value.string (d.el i (1 : Nat)).toS ∧
 Value.string (d.el i (2 : Nat)).toS = Value.string (d.el i (2 : Nat)).toS ∧
 (d.el i (3 : Nat)).toI = (d.el i (3 : Nat)).toI ∧
 (d.el i (4 : Nat)).toI = (d.el i (4 : Nat)).toI ∧
 Value.string (d.el i (5 : Nat)).toS = Value.string (d.el i (5 : Nat)).toS ∧
 (cpE (d.el i (6 : Nat))).rows = (cpE (d.el i (6 : Nat))).rows ∧
 (d.el i (7 : Nat)).toI = (d.el i (7 : Nat)).toI ∧
 (d.el i (8 : Nat)).toI = (d.el i (8 : Nat)).toI ∧
 (d.el i (9 : Nat)).toI = (d.el i (9 : Nat)).toI ∧
 Value.string (d.el i (10 : Nat)).toS =
 Value.string (d.el i (10 : Nat)).toS ∧
 (cpE (d.el i (11 : Nat))).rows = (cpE (d.el i (11 : Nat))).rows ∧
 (d.el i (12 : Nat)).toI = (d.el i (12 : Nat)).toI ∧
 (d.el i (13 : Nat)).toI = (d.el i (13 : Nat)).toI ∧
 Value.string (d.el i (14 : Nat)).toS =
 Value.string (d.el i (14 : Nat)).toS ∧
 (cpE (d.el i (15 : Nat))).rows =
 (cpE (d.el i (15 : Nat))).rows ∧
 (cpB (d.el i (16 : Nat))).rows =
 (cpB (d.el i (16 : Nat))).rows ∧
 (cpB (d.el i (17 : Nat))).rows =
 (cpB (d.el i (17 : Nat))).rows ∧
 i_1 +
 ((D.l
 [[D.s
 ((d.el (↑i : Int).toNat
 ((0 : Nat) + (1 : Nat) +
 (1 :
 Nat) +
 (1 :
 Nat) +
 (1 :
 Nat) +
 (1 :
 Nat) +
 (1 :
 Nat) +
 (1 :
 Nat) +
 (1 :
 Nat) +
 (1 :
 Nat) +
 (1 :
 Nat) +
 (1 :
 Nat) +
 (1 : Nat) +
 (1 : Nat) +
 (1 : Nat) +
 (1 : Nat) +
 (1 : Nat) +
 (1 : Nat) +
 (1 : Nat))).el
 (↑i_1 : Int).toNat
 ((0 : Nat) + (0 : Nat))).toS,
 D.s
 ((d.el (↑i : Int).toNat
 ((0 : Nat) + (1 : Nat) +
 (1 :
 Nat) +
 (1 :
 Nat) +
 (1 :
 Nat) +
 (1 :
 Nat) +
 (1 :
 Nat) +
 (1 :
 Nat) +
 (1 :
 Nat) +
 (1 :
 Nat) +
 (1 :
 Nat) +
 (1 :
 Nat) +
 (1 : Nat) +
 (1 : Nat) +
 (1 : Nat) +
 (1 : Nat) +
 (1 : Nat) +
 (1 : Nat) +
 (1 : Nat))).el
 (↑i_1 : Int).toNat
 ((0 : Nat) + (1 : Nat))).toS,
 cpB
 ((d.el (↑i : Int).toNat
 ((0 : Nat) + (1 : Nat) +
 (1 :
 Nat) +
 (1 :
 Nat) +
 (1 :
 Nat) +
 (1 :
 Nat) +
 (1 :
 Nat) +
 (1 :
 Nat) +
 (1 :
 Nat) +
 (1 :
 Nat) +
 (1 :
 Nat) +
 (1 : Nat) +
 (1 : Nat) +
 (1 : Nat) +
 (1 : Nat) +
 (1 : Nat) +
 (1 : Nat) +
 (1 : Nat) +
 (1 : Nat))).el
 (↑i_1 : Int).toNat
 ((0 : Nat) + (2 : Nat)))]]).sub
 (0 : Nat) ((0 : Nat) + (1 : Nat))).len =
 j ∧
 List.map (arR (d.el i (18 : Nat)))
 (List.range i_1) ++
 List.drop (0 : Nat)
 (List.take ((0 : Nat) + (1 : Nat))
 [[D.s
 ((d.el (↑i : Int).toNat
 ((0 : Nat) + (1 : Nat) +
 (1 :
 Nat) +
 (1 :
 Nat) +
 (1 :
 Nat) +
 (1 :
 Nat) +
 (1 :
 Nat) +
 (1 :
 Nat) +
 (1 :
 Nat) +
 (1 :
 Nat) +
 (1 :
 Nat) +
 (1 : Nat) +
 (1 : Nat) +
 (1 : Nat) +
 (1 : Nat) +
 (1 : Nat) +
 (1 : Nat) +
 (1 : Nat) +
 (1 : Nat))).el
 (↑i_1 : Int).toNat
 ((0 : Nat) + (0 : Nat))).toS,
 D.s
 ((d.el (↑i : Int).toNat
 ((0 : Nat) + (1 : Nat) +
 (1 :
 Nat) +
 (1 :
 Nat) +
 (1 :
 Nat) +
 (1 :
 Nat) +
 (1 :
 Nat) +
 (1 :
 Nat) +
 (1 :
 Nat) +
 (1 :
 Nat) +
 (1 :
 Nat) +
 (1 : Nat) +
 (1 : Nat) +
 (1 : Nat) +
 (1 : Nat) +
 (1 : Nat) +
 (1 : Nat) +
 (1 : Nat) +
 (1 : Nat))).el
 (↑i_1 : Int).toNat
 ((0 : Nat) + (1 : Nat))).toS,
 cpB
 ((d.el (↑i : Int).toNat
 ((0 : Nat) + (1 : Nat) +
 (1 :
 Nat) +
 (1 :
 Nat) +
 (1 :
 Nat) +
 (1 :
 Nat) +
 (1 :
 Nat) +
 (1 :
 Nat) +
 (1 :
 Nat) +
 (1 :
 Nat) +
 (1 : Nat) +
 (1 : Nat) +
 (1 : Nat) +
 (1 : Nat) +
 (1 : Nat) +
 (1 : Nat) +
 (1 : Nat) +
 (1 : Nat) +
 (1 : Nat))).el
 (↑i_1 : Int).toNat
 ((0 : Nat) + (2 : Nat)))]]) =
 List.map (arR (d.el i (18 : Nat)))
 (List.range j) ∧
 List.map (rSt d) (List.range i) =
 List.map (rSt d) (List.range i) ∧
 (d.el (↑i : Int).toNat (0 : Nat)).toI =
 (d.el (↑i : Int).toNat (0 : Nat)).toI ∧
 Value.string
 (d.el (↑i : Int).toNat
 ((0 : Nat) + (1 : Nat))).toS =
 Value.string
 (d.el (↑i : Int).toNat
 ((0 : Nat) + (1 : Nat))).toS ∧
 Value.string
 (d.el (↑i : Int).toNat
 ((0 : Nat) + (1 : Nat) +
 (1 : Nat))).toS =
 Value.string
 (d.el (↑i : Int).toNat
 ((0 : Nat) + (1 : Nat) +
 (1 : Nat))).toS ∧
 (d.el (↑i : Int).toNat
 ((0 : Nat) + (1 : Nat) +
 (1 : Nat) +
 (1 : Nat))).toI =
 (d.el (↑i : Int).toNat
 ((0 : Nat) + (1 : Nat) +
 (1 : Nat) +
 (1 : Nat))).toI ∧
 (d.el (↑i : Int).toNat
 ((0 : Nat) + (1 : Nat) +
 (1 : Nat) +
 (1 : Nat) +
 (1 : Nat))).toI =
 (d.el (↑i : Int).toNat
 ((0 : Nat) + (1 : Nat) +
 (1 : Nat) +
 (1 : Nat) +
 (1 : Nat))).toI ∧
 Value.string
 (d.el (↑i : Int).toNat
 ((0 : Nat) + (1 : Nat) +
 (1 : Nat) +
 (1 : Nat) +
 (1 : Nat) +
 (1 : Nat))).toS =
 Value.string
 (d.el (↑i : Int).toNat
 ((0 : Nat) + (1 : Nat) +
 (1 : Nat) +
 (1 : Nat) +
 (1 : Nat) +
 (1 : Nat))).toS ∧
 (d.el (↑i : Int).toNat
 ((0 : Nat) + (1 : Nat) +
 (1 : Nat) +
 (1 : Nat) +
 (1 : Nat) +
 (1 : Nat) +
 (1 : Nat))).rows =
 (d.el (↑i : Int).toNat
 ((0 : Nat) + (1 : Nat) +
 (1 : Nat) +
 (1 : Nat) +
 (1 : Nat) +
 (1 : Nat) +
 (1 : Nat))).rows ∧
 (d.el (↑i : Int).toNat
 ((0 : Nat) + (1 : Nat) +
 (1 : Nat) +
 (1 : Nat) +
 (1 : Nat) +
 (1 : Nat) +
 (1 : Nat) +
 (1 : Nat))).toI =
 (d.el (↑i : Int).toNat
 ((0 : Nat) + (1 : Nat) +
 (1 : Nat) +
 (1 : Nat) +
 (1 : Nat) +
 (1 : Nat) +
 (1 : Nat) +
 (1 : Nat))).toI ∧
 (d.el (↑i : Int).toNat
 ((0 : Nat) + (1 : Nat) +
 (1 :
 Nat) +
 (1 : Nat) +
 (1 : Nat) +
 (1 : Nat) +
 (1 : Nat) +
 (1 : Nat) +
 (1 : Nat))).toI =
 (d.el (↑i : Int).toNat
 ((0 : Nat) + (1 : Nat) +
 (1 :
 Nat) +
 (1 : Nat) +
 (1 : Nat) +
 (1 : Nat) +
 (1 : Nat) +
 (1 : Nat) +
 (1 : Nat))).toI ∧
 (d.el (↑i : Int).toNat
 ((0 : Nat) +
 (1 :
 Nat) +
 (1 :
 Nat) +
 (1 :
 Nat) +
 (1 :
 Nat) +
 (1 : Nat) +
 (1 : Nat) +
 (1 : Nat) +
 (1 : Nat) +
 (1 : Nat))).toI =
 (d.el (↑i : Int).toNat
 ((0 : Nat) +
 (1 :
 Nat) +
 (1 :
 Nat) +
 (1 :
 Nat) +
 (1 :
 Nat) +
 (1 : Nat) +
 (1 : Nat) +
 (1 : Nat) +
 (1 : Nat) +
 (1 : Nat))).toI ∧
 Value.string
 (d.el (↑i : Int).toNat
 ((0 : Nat) +
 (1 :
 Nat) +
 (1 :
 Nat) +
 (1 :
 Nat) +
 (1 :
 Nat) +
 (1 :
 Nat) +
 (1 :
 Nat) +
 (1 :
 Nat) +
 (1 : Nat) +
 (1 : Nat) +
 (1 :
 Nat))).toS =
 Value.string
 (d.el (↑i : Int).toNat
 ((0 : Nat) +
 (1 :
 Nat) +
 (1 :
 Nat) +
 (1 :
 Nat) +
 (1 :
 Nat) +
 (1 :
 Nat) +
 (1 :
 Nat) +
 (1 :
 Nat) +
 (1 : Nat) +
 (1 : Nat) +
 (1 :
 Nat))).toS ∧
 (d.el (↑i : Int).toNat
 ((0 : Nat) +
 (1 :
 Nat) +
 (1 :
 Nat) +
 (1 :
 Nat) +
 (1 :
 Nat) +
 (1 :
 Nat) +
 (1 :
 Nat) +
 (1 :
 Nat) +
 (1 :
 Nat) +
 (1 : Nat) +
 (1 : Nat) +
 (1 :
 Nat))).rows =
 (d.el (↑i : Int).toNat
 ((0 : Nat) +
 (1 :
 Nat) +
 (1 :
 Nat) +
 (1 :
 Nat) +
 (1 :
 Nat) +
 (1 :
 Nat) +
 (1 :
 Nat) +
 (1 :
 Nat) +
 (1 :
 Nat) +
 (1 : Nat) +
 (1 : Nat) +
 (1 :
 Nat))).rows ∧
 (d.el (↑i : Int).toNat
 ((0 : Nat) +
 (1 :
 Nat) +
 (1 :
 Nat) +
 (1 :
 Nat) +
 (1 :
 Nat) +
 (1 :
 Nat) +
 (1 :
 Nat) +
 (1 :
 Nat) +
 (1 :
 Nat) +
 (1 :
 Nat) +
 (1 :
 Nat) +
 (1 : Nat) +
 (1 :
 Nat))).toI =
 (d.el
 (↑i : Int).toNat
 ((0 : Nat) +
 (1 :
 Nat) +
 (1 :
 Nat) +
 (1 :
 Nat) +
 (1 :
 Nat) +
 (1 :
 Nat) +
 (1 :
 Nat) +
 (1 :
 Nat) +
 (1 :
 Nat) +
 (1 :
 Nat) +
 (1 :
 Nat) +
 (1 : Nat) +
 (1 :
 Nat))).toI ∧
 (d.el (↑i : Int).toNat
 ((0 : Nat) +
 (1 :
 Nat) +
 (1 :
 Nat) +
 (1 :
 Nat) +
 (1 :
 Nat) +
 (1 :
 Nat) +
 (1 :
 Nat) +
 (1 :
 Nat) +
 (1 :
 Nat) +
 (1 :
 Nat) +
 (1 :
 Nat) +
 (1 :
 Nat) +
 (1 :
 Nat) +
 (1 :
 Nat))).toI =
 (d.el
 (↑i :
 Int).toNat
 ((0 : Nat) +
 (1 :
 Nat) +
 (1 :
 Nat) +
 (1 :
 Nat) +
 (1 :
 Nat) +
 (1 :
 Nat) +
 (1 :
 Nat) +
 (1 :
 Nat) +
 (1 :
 Nat) +
 (1 :
 Nat) +
 (1 :
 Nat) +
 (1 :
 Nat) +
 (1 :
 Nat) +
 (1 :
 Nat))).toI ∧
 Value.string
 (d.el
 (↑i :
 Int).toNat
 ((0 :
 Nat) +
 (1 :
 Nat) +
 (1 :
 Nat) +
 (1 :
 Nat) +
 (1 :
 Nat) +
 (1 :
 Nat) +
 (1 :
 Nat) +
 (1 :
 Nat) +
 (1 :
 Nat) +
 (1 :
 Nat) +
 (1 :
 Nat) +
 (1 :
 Nat) +
 (1 :
 Nat) +
 (1 :
 Nat) +
 (1 :
 Nat))).toS =
 Value.string
 (d.el
 (↑i :
 Int).toNat
 ((0 :
 Nat) +
 (1 :
 Nat) +
 (1 :
 Nat) +
 (1 :
 Nat) +
 (1 :
 Nat) +
 (1 :
 Nat) +
 (1 :
 Nat) +
 (1 :
 Nat) +
 (1 :
 Nat) +
 (1 :
 Nat) +
 (1 :
 Nat) +
 (1 :
 Nat) +
 (1 :
 Nat) +
 (1 :
 Nat) +
 (1 :
 Nat))).toS ∧
 (d.el
 (↑i :
 Int).toNat
 ((0 :
 Nat) +
 (1 :
 Nat) +
 (1 :
 Nat) +
 (1 :
 Nat) +
 (1 :
 Nat) +
 (1 :
 Nat) +
 (1 :
 Nat) +
 (1 :
 Nat) +
 (1 :
 Nat) +
 (1 :
 Nat) +
 (1 :
 Nat) +
 (1 :
 Nat) +
 (1 :
 Nat) +
 (1 :
 Nat) +
 (1 :
 Nat) +
 (1 :
 Nat))).rows =
 (d.el
 (↑i :
 Int).toNat
 ((0 :
 Nat) +
 (1 :
 Nat) +
 (1 :
 Nat) +
 (1 :
 Nat) +
 (1 :
 Nat) +
 (1 :
 Nat) +
 (1 :
 Nat) +
 (1 :
 Nat) +
 (1 :
 Nat) +
 (1 :
 Nat) +
 (1 :
 Nat) +
 (1 :
 Nat) +
 (1 :
 Nat) +
 (1 :
 Nat) +
 (1 :
 Nat) +
 (1 :
 Nat))).rows ∧
 (d.el
 (↑i :
 Int).toNat
 ((0 :
 Nat) +
 (1 :
 Nat) +
 (1 :
 Nat) +
 (1 :
 Nat) +
 (1 :
 Nat) +
 (1 :
 Nat) +
 (1 :
 Nat) +
 (1 :
 Nat) +
 (1 :
 Nat) +
 (1 :
 Nat) +
 (1 :
 Nat) +
 (1 :
 Nat) +
 (1 :
 Nat) +
 (1 :
 Nat) +
 (1 :
 Nat) +
 (1 :
 Nat) +
 (1 :
 Nat))).rows =
 (d.el
 (↑i :
 Int).toNat
 ((0 :
 Nat) +
 (1 :
 Nat) +
 (1 :
 Nat) +
 (1 :
 Nat) +
 (1 :
 Nat) +
 (1 :
 Nat) +
 (1 :
 Nat) +
 (1 :
 Nat) +
 (1 :
 Nat) +
 (1 :
 Nat) +
 (1 :
 Nat) +
 (1 :
 Nat) +
 (1 :
 Nat) +
 (1 :
 Nat) +
 (1 :
 Nat) +
 (1 :
 Nat) +
 (1 :
 Nat))).rows ∧
 (d.el
 (↑i :
 Int).toNat
 ((0 :
 Nat) +
 (1 :
 Nat) +
 (1 :
 Nat) +
 (1 :
 Nat) +
 (1 :
 Nat) +
 (1 :
 Nat) +
 (1 :
 Nat) +
 (1 :
 Nat) +
 (1 :
 Nat) +
 (1 :
 Nat) +
 (1 :
 Nat) +
 (1 :
 Nat) +
 (1 :
 Nat) +
 (1 :
 Nat) +
 (1 :
 Nat) +
 (1 :
 Nat) +
 (1 :
 Nat) +
 (1 :
 Nat))).rows =
 (d.el
 (↑i :
 Int).toNat
 ((0 :
 Nat) +
 (1 :
 Nat) +
 (1 :
 Nat) +
 (1 :
 Nat) +
 (1 :
 Nat) +
 (1 :
 Nat) +
 (1 :
 Nat) +
 (1 :
 Nat) +
 (1 :
 Nat) +
 (1 :
 Nat) +
 (1 :
 Nat) +
 (1 :
 Nat) +
 (1 :
 Nat) +
 (1 :
 Nat) +
 (1 :
 Nat) +
 (1 :
 Nat) +
 (1 :
 Nat) +
 (1 :
 Nat))).rows ∧
 (d.el
 (↑i :
 Int).toNat
 ((0 :
 Nat) +
 (1 :
 Nat) +
 (1 :
 Nat) +
 (1 :
 Nat) +
 (1 :
 Nat) +
 (1 :
 Nat) +
 (1 :
 Nat) +
 (1 :
 Nat) +
 (1 :
 Nat) +
 (1 :
 Nat) +
 (1 :
 Nat) +
 (1 :
 Nat) +
 (1 :
 Nat) +
 (1 :
 Nat) +
 (1 :
 Nat) +
 (1 :
 Nat) +
 (1 :
 Nat) +
 (1 :
 Nat) +
 (1 :
 Nat))).rows =
 (d.el
 (↑i :
 Int).toNat
 ((0 :
 Nat) +
 (1 :
 Nat) +
 (1 :
 Nat) +
 (1 :
 Nat) +
 (1 :
 Nat) +
 (1 :
 Nat) +
 (1 :
 Nat) +
 (1 :
 Nat) +
 (1 :
 Nat) +
 (1 :
 Nat) +
 (1 :
 Nat) +
 (1 :
 Nat) +
 (1 :
 Nat) +
 (1 :
 Nat) +
 (1 :
 Nat) +
 (1 :
 Nat) +
 (1 :
 Nat) +
 (1 :
 Nat) +
 (1 :
 Nat))).rows) ∧
 (decide
 ((↑i_1 : Int) <
 (↑(d.el (↑i : Int).toNat
 ((0 : Nat) + (1 : Nat) + (1 : Nat) + (1 : Nat) + (1 : Nat) + (1 : Nat) + (1 : Nat) + (1 : Nat) +
 (1 : Nat) +
 (1 : Nat) +
 (1 : Nat) +
 (1 : Nat) +
 (1 : Nat) +
 (1 : Nat) +
 (1 : Nat) +
 (1 : Nat) +
 (1 : Nat) +
 (1 : Nat) +
 (1 : Nat))).len :
 Int)) =
 false →
 (0 : Nat) + i_1 ≤ (cpTo i_1 (arR (d.el i (18 : Nat)))).len ∧
 i = (cpTo i (rSt d)).len ∧
 (i +
 ((D.l
 [[D.i (d.el i (0 : Nat)).toI, D.s (d.el i (1 : Nat)).toS, D.s (d.el i (2 : Nat)).toS,
 D.i (d.el i (3 : Nat)).toI, D.i (d.el i (4 : Nat)).toI, D.s (d.el i (5 : Nat)).toS,
 cpE (d.el i (6 : Nat)), D.i (d.el i (7 : Nat)).toI, D.i (d.el i (8 : Nat)).toI,
 D.i (d.el i (9 : Nat)).toI, D.s (d.el i (10 : Nat)).toS, cpE (d.el i (11 : Nat)),
 D.i (d.el i (12 : Nat)).toI, D.i (d.el i (13 : Nat)).toI, D.s (d.el i (14 : Nat)).toS,
 cpE (d.el i (15 : Nat)), cpB (d.el i (16 : Nat)), cpB (d.el i (17 : Nat)),
 (cpTo i_1 (arR (d.el i (18 : Nat)))).sub ((0 : Nat)) ((0 : Nat) + i_1)]]).sub
 (0 : Nat) ((0 : Nat) + (1 : Nat))).len) *
 (288 : Nat) ≤
 (140737488355328 : Nat) ∧
 (0 : Nat) + (1 : Nat) ≤
 (D.l
 [[D.i (d.el i (0 : Nat)).toI, D.s (d.el i (1 : Nat)).toS, D.s (d.el i (2 : Nat)).toS,
 D.i (d.el i (3 : Nat)).toI, D.i (d.el i (4 : Nat)).toI, D.s (d.el i (5 : Nat)).toS,
 cpE (d.el i (6 : Nat)), D.i (d.el i (7 : Nat)).toI, D.i (d.el i (8 : Nat)).toI,
 D.i (d.el i (9 : Nat)).toI, D.s (d.el i (10 : Nat)).toS, cpE (d.el i (11 : Nat)),
 D.i (d.el i (12 : Nat)).toI, D.i (d.el i (13 : Nat)).toI, D.s (d.el i (14 : Nat)).toS,
 cpE (d.el i (15 : Nat)), cpB (d.el i (16 : Nat)), cpB (d.el i (17 : Nat)),
 (cpTo i_1 (arR (d.el i (18 : Nat)))).sub ((0 : Nat)) ((0 : Nat) + i_1)]]).len ∧
 ∃ (j : Nat),
 j.le d.len ∧
 d.len + (1 : Nat) - j < d.len + (1 : Nat) - i ∧
 IntKind.i64.wrap ((↑i : Int) + (1 : Int)) = (↑j : Int) ∧
 i +
 ((D.l
 [[D.i (d.el i (0 : Nat)).toI, D.s (d.el i (1 : Nat)).toS, D.s (d.el i (2 : Nat)).toS,
 D.i (d.el i (3 : Nat)).toI, D.i (d.el i (4 : Nat)).toI, D.s (d.el i (5 : Nat)).toS,
 cpE (d.el i (6 : Nat)), D.i (d.el i (7 : Nat)).toI, D.i (d.el i (8 : Nat)).toI,
 D.i (d.el i (9 : Nat)).toI, D.s (d.el i (10 : Nat)).toS, cpE (d.el i (11 : Nat)),
 D.i (d.el i (12 : Nat)).toI, D.i (d.el i (13 : Nat)).toI, D.s (d.el i (14 : Nat)).toS,
 cpE (d.el i (15 : Nat)), cpB (d.el i (16 : Nat)), cpB (d.el i (17 : Nat)),
 (cpTo i_1 (arR (d.el i (18 : Nat)))).sub ((0 : Nat)) ((0 : Nat) + i_1)]]).sub
 (0 : Nat) ((0 : Nat) + (1 : Nat))).len =
 j ∧
 d.rows = d.rows ∧
 List.map (rSt d) (List.range i) ++
 List.drop (0 : Nat)
 (List.take ((0 : Nat) + (1 : Nat))
 [[D.i (d.el i (0 : Nat)).toI, D.s (d.el i (1 : Nat)).toS, D.s (d.el i (2 : Nat)).toS,
 D.i (d.el i (3 : Nat)).toI, D.i (d.el i (4 : Nat)).toI, D.s (d.el i (5 : Nat)).toS,
 cpE (d.el i (6 : Nat)), D.i (d.el i (7 : Nat)).toI, D.i (d.el i (8 : Nat)).toI,
 D.i (d.el i (9 : Nat)).toI, D.s (d.el i (10 : Nat)).toS, cpE (d.el i (11 : Nat)),
 D.i (d.el i (12 : Nat)).toI, D.i (d.el i (13 : Nat)).toI, D.s (d.el i (14 : Nat)).toS,
 cpE (d.el i (15 : Nat)), cpB (d.el i (16 : Nat)), cpB (d.el i (17 : Nat)),
 (cpTo i_1 (arR (d.el i (18 : Nat)))).sub ((0 : Nat)) ((0 : Nat) + i_1)]]) =
 List.map (rSt d) (List.range j))) ∧
 (decide ((↑i : Int) < (↑d.len : Int)) = false →
 (0 : Nat) + i ≤ (cpTo i (rSt d)).len ∧ List.drop ((0 : Nat)) (List.take ((0 : Nat) + i) (List.map (rSt d) (List.range i))) = (cpB d).rows)) (by kernel_rfl) ?_
    intro hm hs
    rw [bS_iff] at hs
    obtain ⟨hl, hk⟩ := hs
    refine ⟨⟨0, Nat.zero_le _, rfl, rfl, rfl, rfl⟩, fun i hi => ⟨fun hc => ?_, fun hc => ?_⟩⟩
    · have hc := of_decide_eq_true hc
      have hi2 : i < d.len := by omega
      have hw2 : IntKind.i64.wrap ((i : Int) + 1) = ((i + 1 : Nat) : Int) := by rw [IntWalk.i64_in _ (by omega)]; omega
      have hb2 : (i + 1) * 288 ≤ 140737488355328 := Nat.le_trans (Nat.mul_le_mul_right 288 hi2) hl
      obtain ⟨a1, a2, a3, b1, b2, am, ab⟩ := hk i hi2
      have z1 := lel_lt (j := 16) hi2
      have z2 := lel_lt (j := 17) hi2
      have z3 := lel_lt (j := 18) hi2
      refine ⟨⟨by omega, by omega⟩, a1, a2, a3, (show SizeOf.sizeOf (d.el i 16) < m by omega), b1, (show SizeOf.sizeOf (d.el i 17) < m by omega), b2, ⟨0, ⟨Nat.zero_le _, trivial⟩, ?_⟩, fun q hq => ⟨fun hd => ?_, fun hd => ?_⟩⟩
      · (repeat' apply And.intro) <;> rfl
      · have hd := of_decide_eq_true hd
        have hq2 : q < (d.el i 18).len := by have : (q : Int) < ((d.el i 18).len : Int) := hd; omega
        have hwq : IntKind.i64.wrap ((q : Int) + 1) = ((q + 1 : Nat) : Int) := by rw [IntWalk.i64_in _ (by omega)]; omega
        have zq := lel_lt (j := 2) hq2
        refine ⟨⟨by omega, hd⟩, ⟨by omega, hd⟩, ⟨by omega, hd⟩, (show SizeOf.sizeOf ((d.el i 18).el q 2) < m by omega), ab q hq2, (cpTo_len _ _).symm, (show (q + 1) * 56 ≤ 140737488355328 by omega), Nat.le_refl _, q + 1, ⟨hq2, trivial⟩, by omega, hwq, ?_⟩
        (repeat' apply And.intro) <;> first | exact (cpTo_succ q (arR (d.el i 18))).symm | rfl
      · have hd := of_decide_eq_false hd
        have hq3 : q = (d.el i 18).len := by have : ¬ (q : Int) < ((d.el i 18).len : Int) := hd; have := hq.1; omega
        subst hq3
        rw [cpTo_all]
        exact ⟨by rw [cpTo_len]; omega, (cpTo_len _ _).symm, hb2, Nat.le_refl _, i + 1, hi2, by omega, hw2, rfl, rfl, (cpTo_succ i (rSt d)).symm⟩
    · have hc := of_decide_eq_false hc
      have hi3 : i = d.len := by have : i ≤ d.len := hi; omega
      subst hi3
      refine ⟨by rw [cpTo_len]; omega, ?_⟩
      rw [cpB_eq, Nat.zero_add, List.drop_zero, List.take_of_length_le (by simp)]; rfl
  · trivial
theorem scp_ok : ConOK Tryd.prog 26 scpC :=
  con_rec scpM (fun _ _ => by kernel_rfl) fun m ih => by
    rw [scp_under] at ih ⊢
    exact scp_step m ih
end Go.Proofs.YtomodncooiddaaaDoor.Sx.Z
