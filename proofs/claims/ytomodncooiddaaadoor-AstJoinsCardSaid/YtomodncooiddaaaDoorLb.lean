/-
  ast: what is right.
-/
import Derived.Test.YtomodncooiddaaaDoorLa
import Derived.Test.YtomodncooiddaaaDoorSxW
namespace Go.Proofs.YtomodncooiddaaaDoor.Sx.Z
open Go.RowKit
def lI : AP := .sc (.int .i64)
def lX : AP := .agg [.c (.int .i64), .c (.int .i64), .c .str, .c (.rows 149)]
def lCo : AP := .agg [.c (.int .i64), .c (.int .i64), .c (.int .i64), .c .str, .c (.rows 149), .c (.int .i64), .c (.int .i64), .c .str, .c (.rows 149)]
def lSt : AP := .agg [.c (.int .i64), .c .str, .c .str, .c (.int .i64), .c (.int .i64), .c .str, .c (.rows 149), .c (.int .i64), .c (.int .i64), .c (.int .i64), .c .str, .c (.rows 149), .c (.int .i64), .c (.int .i64), .c .str, .c (.rows 149), .c (.rows 156), .c (.rows 156), .c (.rows 158)]
theorem lel_lt {d : D} {i j : Nat} (h : i < d.len) : SizeOf.sizeOf (d.el i j) < SizeOf.sizeOf d := by
  cases d with
  | l rows =>
    have h' : i < rows.length := h
    have e : (D.l rows).el i j = (rows[i]).getD j (.i 0) := by
      show (rows.getD i []).getD j (.i 0) = _
      rw [List.getD_eq_getElem?_getD (l := rows), List.getElem?_eq_getElem h', Option.getD_some]
    rw [e, List.getD_eq_getElem?_getD]
    have h1 := List.sizeOf_lt_of_mem (List.getElem_mem h')
    cases hj : (rows[i])[j]? with
    | none =>
      rw [Option.getD_none]
      have : SizeOf.sizeOf (D.i 0) = 1 + SizeOf.sizeOf (0 : Int) := rfl
      have e2 : SizeOf.sizeOf (0 : Int) = 1 := rfl
      have : SizeOf.sizeOf (D.l rows) = 1 + SizeOf.sizeOf rows := by simp
      have h2 : 1 ≤ SizeOf.sizeOf (rows[i]) := by cases rows[i] <;> simp <;> omega
      omega
    | some x =>
      rw [Option.getD_some]
      have h2 := List.sizeOf_lt_of_mem (List.mem_of_getElem? hj)
      have : SizeOf.sizeOf (D.l rows) = 1 + SizeOf.sizeOf rows := by simp
      omega
  | i n => exact absurd h (Nat.not_lt_zero i)
  | b n => exact absurd h (Nat.not_lt_zero i)
  | s n => exact absurd h (Nat.not_lt_zero i)
/-- A name. -/
def nmB (s : ByteArray) : Bool := !decide ((s.size : Int) > 12) && ((lexR s).2.2 == 0 && ((tokD (lexR s).1).len : Int) == 1 && ((tokD (lexR s).1).el 0 0).toI == 1 && (((tokD (lexR s).1).el 0 1).toS.toList == s.toList))
def nuB (n : Int) : Bool := decide (n ≥ 0) && decide (n ≤ 2147483647)
def biB (k : Int) : Bool := decide (k ≥ 4) && decide (k ≤ 8)
def aXb (k n : Int) (s : ByteArray) (len : Int) (f : Nat → Bool) : Bool :=
  if k = 1 then nuB n else if k = 2 then nmB s else if k = 3 then len == 1 && f 0 else if biB k = true then len == 2 && f 0 && f 1 else false
/-- A part of an expression. -/
def aE (d : D) (i : Nat) : Bool := if _h : i < d.len then aXb (d.el i 0).toI (d.el i 1).toI (d.el i 2).toS (d.el i 3).len (fun j => aE (d.el i 3) j) else false
  termination_by SizeOf.sizeOf d
  decreasing_by exact lel_lt (by assumption)
def aX (k n : Int) (s : ByteArray) (d : D) : Bool := aXb k n s d.len (aE d)
theorem bi_in {k : Int} (h : biB k = true) : 4 ≤ k ∧ k ≤ 8 := by unfold biB at h; simp at h; omega
theorem aX_bin {k n : Int} {s : ByteArray} {d : D} (h : biB k = true) : aX k n s d = ((d.len : Int) == 2 && aE d 0 && aE d 1) := by
  have hb := bi_in h
  unfold aX aXb
  rw [if_neg (by omega), if_neg (by omega), if_neg (by omega), if_pos h]
theorem aX_no {k n : Int} {s : ByteArray} {d : D} (h1 : k ≠ 1) (h2 : k ≠ 2) (h3 : k ≠ 3) (h : biB k = false) : aX k n s d = false := by
  unfold aX aXb
  rw [if_neg h1, if_neg h2, if_neg h3, if_neg (by rw [h]; decide)]
theorem aE_eq {d : D} {i : Nat} (h : i < d.len) : aE d i = aX (d.el i 0).toI (d.el i 1).toI (d.el i 2).toS (d.el i 3) := by
  rw [aE, dif_pos h]; rfl
noncomputable def nmrS : FSpec := fun ds _ => match ds with
  | [.s s] => some { val := .one (.sc (.bool (.sym (nmB s)))), vc := [] }
  | _ => none
noncomputable def nmrC : Con := con [.sc .str] nmrS
theorem nmr_ok : ConOK Tryd.prog 45 nmrC := by
  refine fn_ob tt_ok mixed Tryd.func45 rfl (fun _ _ => by kernel_rfl) (A := fun ds => ⟨fun _ => Cons.of [(11, lexC)], fun _ => none, fun _ => none⟩) (fun _ _ => (cons_cons lex_ok cons_nil)) (by kernel_rfl) ?_
  intro ds fr
  unfold nmrS
  split
  · rename_i s
    refine kmp (q := (decide ((↑s.size : Int) > (12 : Int)) = true → false = nmB s) ∧
 (decide ((↑s.size : Int) > (12 : Int)) = false →
 s.size ≤ (140737488351232 : Nat) ∧
 (((lexR s).snd.snd == (0 : Int) && (↑(tokD (lexR s).fst).len : Int) == (1 : Int)) = true ∧ True → (0 : Nat) < (tokD (lexR s).fst).len) ∧
 (((lexR s).snd.snd == (0 : Int) && (↑(tokD (lexR s).fst).len : Int) == (1 : Int) &&
 ((tokD (lexR s).fst).el ((0 : Nat)) ((0 : Nat) + (0 : Nat))).toI == (1 : Int)) =
 true ∧
 True →
 (0 : Nat) < (tokD (lexR s).fst).len) ∧
 ((lexR s).snd.snd == (0 : Int) && (↑(tokD (lexR s).fst).len : Int) == (1 : Int) &&
 ((tokD (lexR s).fst).el ((0 : Nat)) ((0 : Nat) + (0 : Nat))).toI == (1 : Int) &&
 ((tokD (lexR s).fst).el ((0 : Nat)) ((0 : Nat) + (1 : Nat))).toS.toList == s.toList) =
 nmB s)) (by kernel_rfl) ?_
    refine ⟨fun h => ?_, fun h => ⟨?_, fun q => ?_, fun q => ?_, ?_⟩⟩
    · unfold nmB; rw [h]; rfl
    · have := of_decide_eq_false h
      omega
    · have q := q.1
      simp only [Bool.and_eq_true, beq_iff_eq] at q
      omega
    · have q := q.1
      simp only [Bool.and_eq_true, beq_iff_eq] at q
      omega
    · unfold nmB; rw [h]; rfl
  · trivial
noncomputable def nurS : FSpec := fun ds _ => match ds with
  | [.i n] => some { val := .one (.sc (.bool (.sym (nuB n)))), vc := [] }
  | _ => none
noncomputable def nurC : Con := con [lI] nurS
theorem nur_ok : ConOK Tryd.prog 66 nurC := by
  refine fn_ob tt_ok mixed Tryd.func66 rfl (fun _ _ => by kernel_rfl) (A := fun ds => ⟨fun _ => Cons.of [], fun _ => none, fun _ => none⟩) (fun _ _ => cons_nil) (by kernel_rfl) ?_
  intro ds fr
  unfold nurS
  split
  · rename_i n
    refine kmp (q := (decide (n ≥ (0 : Int)) && decide (n ≤ (2147483647 : Int))) = nuB n) (by kernel_rfl) ?_
    rfl
  · trivial
noncomputable def isbinS : FSpec := fun ds _ => match ds with
  | [.i k] => some { val := .one (.sc (.bool (.sym (biB k)))), vc := [] }
  | _ => none
noncomputable def isbinC : Con := con [lI] isbinS
theorem isbin_ok : ConOK Tryd.prog 88 isbinC := by
  refine fn_ob tt_ok mixed Tryd.func88 rfl (fun _ _ => by kernel_rfl) (A := fun ds => ⟨fun _ => Cons.of [], fun _ => none, fun _ => none⟩) (fun _ _ => cons_nil) (by kernel_rfl) ?_
  intro ds fr
  unfold isbinS
  split
  · rename_i k
    refine kmp (q := (decide (k ≥ (4 : Int)) && decide (k ≤ (8 : Int))) = biB k) (by kernel_rfl) ?_
    rfl
  · trivial
noncomputable def axrS : FSpec := fun ds _ => match ds with
  | [.i k, .i n, .s s, .d d] => some { val := .one (.sc (.bool (.sym (aX k n s d)))), vc := [] }
  | _ => none
noncomputable def axrC : Con := con [lX] axrS
noncomputable def axrM : List Dat → Nat := fun ds => match ds with
  | [.i _k, .i _n, .s _s, .d d] => SizeOf.sizeOf d
  | _ => 0
noncomputable def axrSu (m : Nat) : FSpec := fun ds _ => match ds with
  | [.i k, .i n, .s s, .d d] => some { val := .one (.sc (.bool (.sym (aX k n s d)))), vc := [SizeOf.sizeOf d < m] }
  | _ => none
theorem axr_under (m : Nat) : axrS.under axrM m = axrSu m := by
  funext ds fr
  unfold FSpec.under axrS axrM axrSu
  split
  · rename_i e h
    split at h
    · obtain rfl := Option.some.inj h; rfl
    · cases h
  · rename_i h
    split at h
    · cases h
    · rfl
theorem axr_step (m : Nat) (ih : ConOK Tryd.prog 76 (con [lX] (axrSu m))) : ConOK Tryd.prog 76 (con [lX] (axrSu (m + 1))) := by
  refine fn_ob tt_ok mixed Tryd.func76 rfl (fun _ _ => by kernel_rfl) (A := fun ds => ⟨fun _ => Cons.of [(66, nurC), (45, nmrC), (88, isbinC), (76, con [lX] (axrSu m))], fun _ => none, fun _ => none⟩) (fun _ _ => (cons_cons nur_ok (cons_cons nmr_ok (cons_cons isbin_ok (cons_cons ih cons_nil))))) (by kernel_rfl) ?_
  intro ds fr
  unfold axrSu
  split
  · rename_i k n s d
    refine kmp (q := SizeOf.sizeOf d < m + (1 : Nat) →
 ((k == (1 : Int)) = true → nuB n = aX k n s d) ∧
 ((k == (1 : Int)) = false →
 ((k == (2 : Int)) = true → nmB s = aX k n s d) ∧
 ((k == (2 : Int)) = false →
 ((k == (3 : Int)) = true →
 (((↑d.len : Int) == (1 : Int)) = true ∧ True → (0 : Nat) < d.len) ∧
 (((↑d.len : Int) == (1 : Int)) = true ∧ True → SizeOf.sizeOf (d.el ((0 : Nat)) ((0 : Nat) + (1 : Nat) + (1 : Nat) + (1 : Nat))) < m) ∧
 ((↑d.len : Int) == (1 : Int) &&
 aX (d.el ((0 : Nat)) (0 : Nat)).toI (d.el ((0 : Nat)) ((0 : Nat) + (1 : Nat))).toI
 (d.el ((0 : Nat)) ((0 : Nat) + (1 : Nat) + (1 : Nat))).toS (d.el ((0 : Nat)) ((0 : Nat) + (1 : Nat) + (1 : Nat) + (1 : Nat)))) =
 aX k n s d) ∧
 ((k == (3 : Int)) = false →
 (biB k = true →
 (((↑d.len : Int) == (2 : Int)) = true ∧ True → (0 : Nat) < d.len) ∧
 (((↑d.len : Int) == (2 : Int)) = true ∧ True → SizeOf.sizeOf (d.el ((0 : Nat)) ((0 : Nat) + (1 : Nat) + (1 : Nat) + (1 : Nat))) < m) ∧
 (((↑d.len : Int) == (2 : Int) &&
 aX (d.el ((0 : Nat)) (0 : Nat)).toI (d.el ((0 : Nat)) ((0 : Nat) + (1 : Nat))).toI
 (d.el ((0 : Nat)) ((0 : Nat) + (1 : Nat) + (1 : Nat))).toS
 (d.el ((0 : Nat)) ((0 : Nat) + (1 : Nat) + (1 : Nat) + (1 : Nat)))) =
 true ∧
 True →
 (1 : Nat) < d.len) ∧
 (((↑d.len : Int) == (2 : Int) &&
 aX (d.el ((0 : Nat)) (0 : Nat)).toI (d.el ((0 : Nat)) ((0 : Nat) + (1 : Nat))).toI
 (d.el ((0 : Nat)) ((0 : Nat) + (1 : Nat) + (1 : Nat))).toS
 (d.el ((0 : Nat)) ((0 : Nat) + (1 : Nat) + (1 : Nat) + (1 : Nat)))) =
 true ∧
 True →
 SizeOf.sizeOf (d.el ((1 : Nat)) ((0 : Nat) + (1 : Nat) + (1 : Nat) + (1 : Nat))) < m) ∧
 ((↑d.len : Int) == (2 : Int) &&
 aX (d.el ((0 : Nat)) (0 : Nat)).toI (d.el ((0 : Nat)) ((0 : Nat) + (1 : Nat))).toI
 (d.el ((0 : Nat)) ((0 : Nat) + (1 : Nat) + (1 : Nat))).toS
 (d.el ((0 : Nat)) ((0 : Nat) + (1 : Nat) + (1 : Nat) + (1 : Nat))) &&
 aX (d.el ((1 : Nat)) (0 : Nat)).toI (d.el ((1 : Nat)) ((0 : Nat) + (1 : Nat))).toI
 (d.el ((1 : Nat)) ((0 : Nat) + (1 : Nat) + (1 : Nat))).toS (d.el ((1 : Nat)) ((0 : Nat) + (1 : Nat) + (1 : Nat) + (1 : Nat)))) =
 aX k n s d) ∧
 (biB k = false → false = aX k n s d))))) (by kernel_rfl) ?_
    intro hm
    simp only [Nat.reduceAdd, Nat.zero_add]
    refine ⟨fun h => ?_, fun h1 => ⟨fun h => ?_, fun h2 => ⟨fun h => ?_, fun h3 => ⟨fun h => ?_, fun h => ?_⟩⟩⟩⟩
    · obtain rfl := eq_of_beq h; rfl
    · obtain rfl := eq_of_beq h; rfl
    · obtain rfl := eq_of_beq h
      have e : aX 3 n s d = ((d.len : Int) == 1 && aE d 0) := rfl
      rw [e]
      by_cases hl : d.len = 1
      · have z := lel_lt (d := d) (i := 0) (j := 3) (by omega)
        rw [aE_eq (by omega : 0 < d.len)]
        exact ⟨fun _ => by omega, fun _ => by omega, rfl⟩
      · have q : ((d.len : Int) == 1) = false := by simpa using (by omega : ¬ (d.len : Int) = 1)
        rw [q]
        exact ⟨fun h => (by cases h.1), fun h => (by cases h.1), rfl⟩
    · rw [aX_bin h]
      by_cases hl : d.len = 2
      · have z := lel_lt (d := d) (i := 0) (j := 3) (by omega)
        have z1 := lel_lt (d := d) (i := 1) (j := 3) (by omega)
        rw [aE_eq (by omega : 0 < d.len), aE_eq (by omega : 1 < d.len)]
        exact ⟨fun _ => by omega, fun _ => by omega, fun _ => by omega, fun _ => by omega, rfl⟩
      · have q : ((d.len : Int) == 2) = false := by simpa using (by omega : ¬ (d.len : Int) = 2)
        rw [q]
        exact ⟨fun h => (by cases h.1), fun h => (by cases h.1), fun h => (by cases h.1), fun h => (by cases h.1), rfl⟩
    · exact (aX_no (ne_of_beq_false h1) (ne_of_beq_false h2) (ne_of_beq_false h3) h).symm
  · trivial
theorem axr_ok : ConOK Tryd.prog 76 axrC :=
  con_rec axrM (fun _ _ => by kernel_rfl) fun m ih => by
    rw [axr_under] at ih ⊢
    exact axr_step m ih
end Go.Proofs.YtomodncooiddaaaDoor.Sx.Z
