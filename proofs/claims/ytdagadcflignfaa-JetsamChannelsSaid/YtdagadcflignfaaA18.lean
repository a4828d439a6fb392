/-
  queue.Tags; the law's own example.; rule: Start, Has, List, move.; rule: Step.; rule: All, where it is through after two rounds.; Plain mathematics, no program: what the words of a text are, by its bytes; runs of bytes; numbers out of digits.; The small functions of lex: whether a byte is a gap, a letter, a digit; for every byte, in every memory.; The reserved words and the signs of lex: what the two functions tell, for every text; that strings.Clone tells the same text.
-/
import Derived.Test.YtdagadcflignfaaA17
import Derived.Lib.Strings
import Derived.Test.YtdagadcflignfaaProg
import Derived.WalkKit
import Derived.WalkLawsBesides
import Derived.WalkSpells
import Derived.Outline
import Derived.Lib.Hide
import Derived.Lib.Walk
import Derived.Lib.BufferWrite
import Derived.Lib.UnsafeStr
import Derived.Laws.MakeOwn
namespace Go.Proofs.Ytdagadcflignfaa.Sx.Z
open Go.RowKit
def tgD (d : D) (k : Nat) : D := .l (((List.range k).filter fun j => !(decide ((pr d j).2 < (pr d j).1))).map fun (j : Nat) => [D.i (j : Int)])
theorem tgD_len (d : D) (k : Nat) : (tgD d k).len ≤ k := by
  show (List.map _ (List.filter _ (List.range k))).length ≤ k
  rw [List.length_map]
  exact Nat.le_trans (List.length_filter_le _ _) (by simp)
theorem tgD_yes {d : D} {k : Nat} (h : ¬ (pr d k).2 < (pr d k).1) : (tgD d (k + 1)).rows = (tgD d k).rows ++ [[D.i k]] := by
  show List.map _ (List.filter _ (List.range (k + 1))) = List.map _ (List.filter _ (List.range k)) ++ _
  rw [List.range_succ, List.filter_append, List.map_append, List.filter_cons, if_pos (by simpa using h)]; rfl
theorem tgD_no {d : D} {k : Nat} (h : (pr d k).2 < (pr d k).1) : (tgD d (k + 1)).rows = (tgD d k).rows := by
  show List.map _ (List.filter _ (List.range (k + 1))) = List.map _ (List.filter _ (List.range k))
  rw [List.range_succ, List.filter_append, List.filter_cons, if_neg (by simpa using h), List.filter_nil, List.append_nil]
noncomputable def qtagsS : FSpec := fun ds _ => match ds with
  | [.i _l, .i _h, .d d] => some { val := .one (.sc (.rows 3 (tgD d d.len))), vc := [d.len ≤ 8796093022208] }
  | _ => none
noncomputable def qtagsC : Con := con [elA] qtagsS
theorem qtags_ok : ConOK Try.prog 31 qtagsC := by
  refine fn_ob tt_ok mixed Try.func31 rfl (fun _ _ => by kernel_rfl) (A := fun ds => ⟨fun _ => Cons.of [(51, emptyC)], fun k => match k, ds with | 3, [.i l, .i h, .d d] => some { ι := Nat, pre := fun _ k => k ≤ d.len, μ := fun k => d.len + 1 - k, st := fun s k => famR s [(9, .one (.sc (.int .i64 (.sym ((k : Nat)))))), (3, .one (.sc (.osl 3 (s.nx - 1) (.lit 0) (.sym ((tgD d k).len)))))] [1, 2, 7, 8] [(s.nx - 1, .orow 3 (tgD d k))] [1] } | _, _ => none, fun _ => none⟩) (fun _ _ => (cons_cons empty_ok cons_nil)) (by kernel_rfl) ?_
  intro ds fr
  unfold qtagsS
  split
  · rename_i l h d
    refine kmp (q := d.len ≤ (8796093022208 : Nat) →
 (∃ (i : Nat),
 i.le d.len ∧
 (0 : Int) = (↑i : Int) ∧
 (tgD d i).len = (0 : Nat) ∧
 d.rows = d.rows ∧
 (↑d.len : Int) = (↑d.len : Int) ∧
 List.map (fun (j : Nat) => [D.i (↑j : Int)]) (List.filter (fun (j : Nat) => !decide ((pr d j).snd < (pr d j).fst)) (List.range i)) = [] ∧
 l = l ∧ h = h ∧ d.rows = d.rows) ∧
 ∀ (i : Nat),
 i.le d.len →
 (decide ((↑i : Int) < (↑d.len : Int)) = true →
 ((0 : Int) ≤ (↑i : Int) ∧ (↑i : Int) < (↑d.len : Int)) ∧
 ((!decide ((d.el (↑i : Int).toNat ((0 : Nat) + (1 : Nat))).toI < (d.el (↑i : Int).toNat (0 : Nat)).toI)) = true →
 (tgD d i).len = (tgD d i).len ∧
 ((tgD d i).len + ((D.l [[D.i (↑i : Int)]]).sub (0 : Nat) ((0 : Nat) + (1 : Nat))).len) * (8 : Nat) ≤ (140737488355328 : Nat) ∧
 (0 : Nat) + (1 : Nat) ≤ (D.l [[D.i (↑i : Int)]]).len ∧
 ∃ (j : Nat),
 j.le d.len ∧
 d.len + (1 : Nat) - j < d.len + (1 : Nat) - i ∧
 IntKind.i64.wrap ((↑i : Int) + (1 : Int)) = (↑j : Int) ∧
 (tgD d i).len + ((D.l [[D.i (↑i : Int)]]).sub (0 : Nat) ((0 : Nat) + (1 : Nat))).len = (tgD d j).len ∧
 d.rows = d.rows ∧
 (↑d.len : Int) = (↑d.len : Int) ∧
 List.map (fun (j : Nat) => [D.i (↑j : Int)])
 (List.filter (fun (j : Nat) => !decide ((pr d j).snd < (pr d j).fst)) (List.range i)) ++
 List.drop (0 : Nat) (List.take ((0 : Nat) + (1 : Nat)) [[D.i (↑i : Int)]]) =
 List.map (fun (j : Nat) => [D.i (↑j : Int)])
 (List.filter (fun (j : Nat) => !decide ((pr d j).snd < (pr d j).fst)) (List.range j)) ∧
 l = l ∧ h = h ∧ d.rows = d.rows) ∧
 ((!decide ((d.el (↑i : Int).toNat ((0 : Nat) + (1 : Nat))).toI < (d.el (↑i : Int).toNat (0 : Nat)).toI)) = false →
 ∃ (j : Nat),
 j.le d.len ∧
 d.len + (1 : Nat) - j < d.len + (1 : Nat) - i ∧
 IntKind.i64.wrap ((↑i : Int) + (1 : Int)) = (↑j : Int) ∧
 (tgD d i).len = (tgD d j).len ∧
 d.rows = d.rows ∧
 (↑d.len : Int) = (↑d.len : Int) ∧
 List.map (fun (j : Nat) => [D.i (↑j : Int)])
 (List.filter (fun (j : Nat) => !decide ((pr d j).snd < (pr d j).fst)) (List.range i)) =
 List.map (fun (j : Nat) => [D.i (↑j : Int)])
 (List.filter (fun (j : Nat) => !decide ((pr d j).snd < (pr d j).fst)) (List.range j)) ∧
 l = l ∧ h = h ∧ d.rows = d.rows)) ∧
 (decide ((↑i : Int) < (↑d.len : Int)) = false →
 nat_lit 0 + (tgD d i).len ≤ (tgD d i).len ∧
 List.drop (nat_lit 0)
 (List.take (nat_lit 0 + (tgD d i).len)
 (List.map (fun (j : Nat) => [D.i (↑j : Int)]) (List.filter (fun (j : Nat) => !decide ((pr d j).snd < (pr d j).fst)) (List.range i)))) =
 List.map (fun (j : Nat) => [D.i (↑j : Int)]) (List.filter (fun (j : Nat) => !decide ((pr d j).snd < (pr d j).fst)) (List.range d.len)))) (by kernel_rfl) ?_
    intro hd
    simp only [Int.toNat_natCast]
    have el : ∀ i (x : List D), (tgD d i).len + ((D.l [x]).sub 0 (0 + 1)).len = (tgD d i).len + 1 := fun _ _ => rfl
    refine ⟨⟨0, Nat.zero_le _, rfl, ?_⟩, fun i hi => ⟨fun x => ?_, fun x => ?_⟩⟩
    · (repeat' apply And.intro) <;> first | rfl | trivial
    · have x : i < d.len := by simpa using x
      have hl := tgD_len d i
      refine ⟨by omega, fun y => ⟨trivial, ?_, Nat.le_refl 1, i + 1, x, by omega, wr _ (by omega), ?_⟩, fun y => ⟨i + 1, x, by omega, wr _ (by omega), ?_⟩⟩
      · rw [el]; omega
      · have y : (!decide ((pr d i).2 < (pr d i).1)) = true := y
        have y : ¬ (pr d i).2 < (pr d i).1 := by simpa using y
        have e := tgD_yes y
        refine ⟨?_, by (repeat' apply And.intro) <;> first | rfl | trivial | exact e.symm⟩
        rw [el]
        show _ = (tgD d (i + 1)).rows.length
        rw [e, List.length_append]; rfl
      · have y : (!decide ((pr d i).2 < (pr d i).1)) = false := y
        have y : (pr d i).2 < (pr d i).1 := by simpa using y
        have e := tgD_no y
        refine ⟨?_, by (repeat' apply And.intro) <;> first | rfl | trivial | exact e.symm⟩
        show (tgD d i).rows.length = (tgD d (i + 1)).rows.length
        rw [e]
    · have x : ¬ i < d.len := by simpa using x
      have e : i = d.len := by have : i ≤ d.len := hi; omega
      subst e
      (repeat' apply And.intro) <;> first | rfl | trivial | omega | exact full_len rfl
  · trivial
noncomputable def sendsS : FSpec := fun ds _ => match ds with
  | [] => some { val := .one (.sc (.bool (.lit true))), vc := [] }
  | _ => none
noncomputable def sendsC : Con := con [] sendsS
end Go.Proofs.Ytdagadcflignfaa.Sx.Z
namespace Go.Proofs.Ytdagadcflignfaa.Sx.Z
open Go.RowKit
def isSt (n : Int) : Bool := decide (n ≥ 0) && decide (n < 8)
def ofS (n : Int) : Int := IntKind.u8.wrap (1 * 2 ^ min n.toNat 8)
def hasR (s n : Int) : Bool := isSt n && (IntKind.u8.wrap ↑(BitVec.ofInt IntKind.u8.bits (s.fdiv (2 ^ min n.toNat IntKind.u8.bits)) &&& BitVec.ofInt IntKind.u8.bits 1).toNat == 1)
def lsD (s : Int) (k : Nat) : D := .l (((List.range k).filter fun (j : Nat) => hasR s (j : Int)).map fun (j : Nat) => [D.i (j : Int)])
theorem lsD_len (s : Int) (k : Nat) : (lsD s k).len ≤ k := by
  show (List.map _ (List.filter _ (List.range k))).length ≤ k
  rw [List.length_map]
  exact Nat.le_trans (List.length_filter_le _ _) (by simp)
theorem lsD_yes {s : Int} {k : Nat} (h : hasR s k = true) : (lsD s (k + 1)).rows = (lsD s k).rows ++ [[D.i k]] := by
  show List.map _ (List.filter _ (List.range (k + 1))) = List.map _ (List.filter _ (List.range k)) ++ _
  rw [List.range_succ, List.filter_append, List.map_append, List.filter_cons, if_pos h]; rfl
theorem lsD_no {s : Int} {k : Nat} (h : hasR s k = false) : (lsD s (k + 1)).rows = (lsD s k).rows := by
  show List.map _ (List.filter _ (List.range (k + 1))) = List.map _ (List.filter _ (List.range k))
  rw [List.range_succ, List.filter_append, List.filter_cons, if_neg (by rw [h]; simp), List.filter_nil, List.append_nil]
def mvI (rl : D) (a b : Int) : Int × Bool := if (decide (a ≥ rl.len) || decide (b < 0) || decide (b ≥ (rl.el a.toNat 0).len)) = true then (0, false) else (((rl.el a.toNat 0).el b.toNat 0).toI, isSt ((rl.el a.toNat 0).el b.toNat 0).toI)
noncomputable def isstS : FSpec := fun ds _ => match ds with
  | [.i n] => some { val := .one (.sc (.bool (.sym (isSt n)))), vc := [] }
  | _ => none
noncomputable def isstC : Con := con [iA] isstS
theorem isst_ok : ConOK Try.prog 58 isstC := by
  refine fn_ob tt_ok mixed Try.func58 rfl (fun _ _ => by kernel_rfl) (A := fun ds => ⟨fun _ => Cons.of [], fun _ => none, fun _ => none⟩) (fun _ _ => cons_nil) (by kernel_rfl) ?_
  intro ds fr
  unfold isstS
  split
  · rename_i n
    refine kmp (q := (decide (n ≥ (0 : Int)) && decide (n < (8 : Int))) = isSt n) (by kernel_rfl) ?_
    rfl
  · trivial
noncomputable def rofS : FSpec := fun ds _ => match ds with
  | [.i n] => some { val := .one (.sc (.int .u8 (.sym (ofS n)))), vc := [0 ≤ n ∧ n < 8] }
  | _ => none
noncomputable def rofC : Con := con [iA] rofS
theorem rof_ok : ConOK Try.prog 49 rofC := by
  refine fn_ob tt_ok mixed Try.func49 rfl (fun _ _ => by kernel_rfl) (A := fun ds => ⟨fun _ => Cons.of [], fun _ => none, fun _ => none⟩) (fun _ _ => cons_nil) (by kernel_rfl) ?_
  intro ds fr
  unfold rofS
  split
  · rename_i n
    refine kmp (q := (0 : Int) ≤ n ∧ n < (8 : Int) → ¬n < (0 : Int) ∧ IntKind.u8.wrap ((1 : Int) * (2 : Int) ^ min n.toNat IntKind.u8.bits) = ofS n) (by kernel_rfl) ?_
    intro hn
    exact ⟨by omega, rfl⟩
  · trivial
noncomputable def rstartS : FSpec := fun ds _ => match ds with
  | [] => some { val := .one (.sc (.int .u8 (.lit 1))), vc := [] }
  | _ => none
noncomputable def rstartC : Con := con [] rstartS
theorem rstart_ok : ConOK Try.prog 23 rstartC := by
  refine fn_ob tt_ok mixed Try.func23 rfl (fun _ _ => by kernel_rfl) (A := fun ds => ⟨fun _ => Cons.of [(49, rofC)], fun _ => none, fun _ => none⟩) (fun _ _ => (cons_cons rof_ok cons_nil)) (by kernel_rfl) ?_
  intro ds fr
  unfold rstartS
  split
  · skip
    refine kmp (q := ((0 : Int) ≤ (0 : Int) ∧ (0 : Int) < (8 : Int)) ∧ ofS (0 : Int) = (1 : Int)) (by kernel_rfl) ?_
    exact ⟨by omega, rfl⟩
  · trivial
noncomputable def rhasSS : FSpec := fun ds _ => match ds with
  | [.i st, .i n] => some { val := .one (.sc (.bool (.sym (hasR st n)))), vc := [] }
  | _ => none
noncomputable def rhasSC : Con := con [.sc (.int .u8), iA] rhasSS
theorem rhasS_ok : ConOK Try.prog 27 rhasSC := by
  refine fn_ob tt_ok mixed Try.func27 rfl (fun _ _ => by kernel_rfl) (A := fun ds => ⟨fun _ => Cons.of [(58, isstC)], fun _ => none, fun _ => none⟩) (fun _ _ => (cons_cons isst_ok cons_nil)) (by kernel_rfl) ?_
  intro ds fr
  unfold rhasSS
  split
  · rename_i st n
    refine kmp (q := (isSt n = true ∧ True → ¬n < (0 : Int)) ∧
 (isSt n &&
 IntKind.u8.wrap
 (↑(BitVec.ofInt IntKind.u8.bits (st.fdiv ((2 : Int) ^ min n.toNat IntKind.u8.bits)) &&& BitVec.ofInt IntKind.u8.bits (1 : Int)).toNat : Int) ==
 (1 : Int)) =
 hasR st n) (by kernel_rfl) ?_
    exact ⟨fun h => by have h := h.1; unfold isSt at h; simp only [Bool.and_eq_true, decide_eq_true_eq] at h; omega, rfl⟩
  · trivial
noncomputable def rlistS : FSpec := fun ds _ => match ds with
  | [.i st] => some { val := .one (.sc (.rows 3 (lsD st 8))), vc := [] }
  | _ => none
noncomputable def rlistC : Con := con [.sc (.int .u8)] rlistS
theorem rlist_ok : ConOK Try.prog 56 rlistC := by
  refine fn_ob tt_ok mixed Try.func56 rfl (fun _ _ => by kernel_rfl) (A := fun ds => ⟨fun _ => Cons.of [(27, rhasSC)], fun k => match k, ds with | 3, [.i st] => some { ι := Nat, pre := fun _ k => k ≤ 8, μ := fun k => 9 - k, st := fun s k => famR s [(5, .one (.sc (.int .i64 (.sym ((k : Nat)))))), (3, .one (.sc (.osl 3 (s.nx - 1) (.lit 0) (.sym ((lsD st k).len)))))] [0] [(s.nx - 1, .orow 3 (lsD st k))] [] } | _, _ => none, fun _ => none⟩) (fun _ _ => (cons_cons rhasS_ok cons_nil)) (by kernel_rfl) ?_
  intro ds fr
  unfold rlistS
  split
  · rename_i st
    refine kmp (q := (∃ (i : Nat),
 i.le (8 : Nat) ∧
 (0 : Int) = (↑i : Int) ∧
 (lsD st i).len = (0 : Nat) ∧
 st = st ∧ List.map (fun (j : Nat) => [D.i (↑j : Int)]) (List.filter (fun (j : Nat) => hasR st (↑j : Int)) (List.range i)) = []) ∧
 ∀ (i : Nat),
 i.le (8 : Nat) →
 (decide ((↑i : Int) < (8 : Int)) = true →
 (hasR st (↑i : Int) = true →
 (lsD st i).len = (lsD st i).len ∧
 ((lsD st i).len + ((D.l [[D.i (↑i : Int)]]).sub (0 : Nat) ((0 : Nat) + (1 : Nat))).len) * (8 : Nat) ≤ (140737488355328 : Nat) ∧
 (0 : Nat) + (1 : Nat) ≤ (D.l [[D.i (↑i : Int)]]).len ∧
 ∃ (j : Nat),
 j.le (8 : Nat) ∧
 (9 : Nat) - j < (9 : Nat) - i ∧
 IntKind.i64.wrap ((↑i : Int) + (1 : Int)) = (↑j : Int) ∧
 (lsD st i).len + ((D.l [[D.i (↑i : Int)]]).sub (0 : Nat) ((0 : Nat) + (1 : Nat))).len = (lsD st j).len ∧
 st = st ∧
 List.map (fun (j : Nat) => [D.i (↑j : Int)]) (List.filter (fun (j : Nat) => hasR st (↑j : Int)) (List.range i)) ++
 List.drop (0 : Nat) (List.take ((0 : Nat) + (1 : Nat)) [[D.i (↑i : Int)]]) =
 List.map (fun (j : Nat) => [D.i (↑j : Int)]) (List.filter (fun (j : Nat) => hasR st (↑j : Int)) (List.range j))) ∧
 (hasR st (↑i : Int) = false →
 ∃ (j : Nat),
 j.le (8 : Nat) ∧
 (9 : Nat) - j < (9 : Nat) - i ∧
 IntKind.i64.wrap ((↑i : Int) + (1 : Int)) = (↑j : Int) ∧
 (lsD st i).len = (lsD st j).len ∧
 st = st ∧
 List.map (fun (j : Nat) => [D.i (↑j : Int)]) (List.filter (fun (j : Nat) => hasR st (↑j : Int)) (List.range i)) =
 List.map (fun (j : Nat) => [D.i (↑j : Int)]) (List.filter (fun (j : Nat) => hasR st (↑j : Int)) (List.range j)))) ∧
 (decide ((↑i : Int) < (8 : Int)) = false →
 nat_lit 0 + (lsD st i).len ≤ (lsD st i).len ∧
 List.drop (nat_lit 0)
 (List.take (nat_lit 0 + (lsD st i).len)
 (List.map (fun (j : Nat) => [D.i (↑j : Int)]) (List.filter (fun (j : Nat) => hasR st (↑j : Int)) (List.range i)))) =
 List.map (fun (j : Nat) => [D.i (↑j : Int)]) (List.filter (fun (j : Nat) => hasR st (↑j : Int)) (List.range (8 : Nat))))) (by kernel_rfl) ?_
    have el : ∀ i (x : List D), (lsD st i).len + ((D.l [x]).sub 0 (0 + 1)).len = (lsD st i).len + 1 := fun _ _ => rfl
    refine ⟨⟨0, Nat.zero_le _, rfl, ?_⟩, fun i hi => ⟨fun x => ⟨fun y => ⟨rfl, ?_, Nat.le_refl 1, i + 1, ?_, (by have hi : i ≤ 8 := hi; omega), wr _ (by have hi : i ≤ 8 := hi; omega), ?_⟩, fun y => ⟨i + 1, ?_, (by have hi : i ≤ 8 := hi; omega), wr _ (by have hi : i ≤ 8 := hi; omega), ?_⟩⟩, fun x => ?_⟩⟩
    · (repeat' apply And.intro) <;> first | rfl | trivial
    · have hl := lsD_len st i
      have hi : i ≤ 8 := hi
      rw [el]; omega
    · have x : (i : Int) < 8 := by simpa using x
      show i + 1 ≤ 8; omega
    · have e := lsD_yes y
      refine ⟨?_, by (repeat' apply And.intro) <;> first | rfl | trivial | exact e.symm⟩
      rw [el]
      show _ = (lsD st (i + 1)).rows.length
      rw [e, List.length_append]; rfl
    · have x : (i : Int) < 8 := by simpa using x
      show i + 1 ≤ 8; omega
    · have e := lsD_no y
      refine ⟨?_, by (repeat' apply And.intro) <;> first | rfl | trivial | exact e.symm⟩
      show (lsD st i).rows.length = (lsD st (i + 1)).rows.length
      rw [e]
    · have x : ¬ (i : Int) < 8 := by simpa using x
      have e : i = 8 := by have : i ≤ 8 := hi; omega
      subst e
      (repeat' apply And.intro) <;> first | rfl | trivial | exact (show 0 + (lsD st 8).len ≤ (lsD st 8).len by simp) | exact full_len rfl
  · trivial
noncomputable def rmoveS : FSpec := fun ds _ => match ds with
  | [.i kd, .i size, .i frm, .i dst, .i tags, .d rl, .i a, .i b] => some { val := .tup [.sc (.int .i64 (.sym (mvI rl a b).1)), .sc (.bool (.sym (mvI rl a b).2))], vc := [0 ≤ a] }
  | _ => none
noncomputable def rmoveC : Con := con [chA, iA, iA] rmoveS
theorem rmove_ok : ConOK Try.prog 57 rmoveC := by
  refine fn_ob tt_ok mixed Try.func57 rfl (fun _ _ => by kernel_rfl) (A := fun ds => ⟨fun _ => Cons.of [(58, isstC)], fun _ => none, fun _ => none⟩) (fun _ _ => (cons_cons isst_ok cons_nil)) (by kernel_rfl) ?_
  intro ds fr
  unfold rmoveS
  split
  · rename_i _kd _size _frm _dst _tags rl a b
    refine kmp (q := (0 : Int) ≤ a →
 ((decide (a ≥ (↑rl.len : Int)) || decide (b < (0 : Int))) = false ∧ True → (0 : Int) ≤ a ∧ a < (↑rl.len : Int)) ∧
 ((decide (a ≥ (↑rl.len : Int)) || decide (b < (0 : Int)) || decide (b ≥ (↑(rl.el a.toNat (0 : Nat)).len : Int))) = true →
 (0 : Int) = (mvI rl a b).fst ∧ false = (mvI rl a b).snd) ∧
 ((decide (a ≥ (↑rl.len : Int)) || decide (b < (0 : Int)) || decide (b ≥ (↑(rl.el a.toNat (0 : Nat)).len : Int))) = false →
 ((0 : Int) ≤ a ∧ a < (↑rl.len : Int)) ∧
 ((0 : Int) ≤ b ∧ b < (↑(rl.el a.toNat (0 : Nat)).len : Int)) ∧
 ((rl.el a.toNat (0 : Nat)).el b.toNat (0 : Nat)).toI = (mvI rl a b).fst ∧
 isSt ((rl.el a.toNat (0 : Nat)).el b.toNat (0 : Nat)).toI = (mvI rl a b).snd)) (by kernel_rfl) ?_
    intro ha
    refine ⟨fun h => ?_, fun h => ?_, fun h => ?_⟩
    · have h := h.1
      simp only [Bool.or_eq_false_iff, decide_eq_false_iff_not] at h
      omega
    · unfold mvI
      rw [if_pos h]; exact ⟨rfl, rfl⟩
    · have h2 := h
      simp only [Bool.or_eq_false_iff, decide_eq_false_iff_not] at h2
      unfold mvI
      rw [if_neg (by rw [h]; simp)]
      exact ⟨by omega, by omega, rfl, rfl⟩
  · trivial
end Go.Proofs.Ytdagadcflignfaa.Sx.Z
namespace Go.Proofs.Ytdagadcflignfaa.Sx.Z
open Go.RowKit
def or8 (a b : Int) : Int := IntKind.u8.wrap ↑(BitVec.ofInt IntKind.u8.bits a ||| BitVec.ofInt IntKind.u8.bits b).toNat
def stp (rl : D) (tag : Int) (l : D) : Nat → Int × Bool
  | 0 => (0, false)
  | k + 1 => if (mvI rl (l.el k 0).toI tag).2 = true then (or8 (stp rl tag l k).1 (ofS (mvI rl (l.el k 0).toI tag).1), (stp rl tag l k).2) else ((stp rl tag l k).1, true)
def stpR (rl : D) (s tag : Int) : Int × Bool := if rl.len = 0 then (s, false) else stp rl tag (lsD s 8) (lsD s 8).len
theorem lsD_at {s : Int} {k j : Nat} (h : j < (lsD s k).len) : 0 ≤ ((lsD s k).el j 0).toI ∧ ((lsD s k).el j 0).toI < k := by
  have h' : j < (List.map (fun (j : Nat) => [D.i (j : Int)]) ((List.range k).filter fun (j : Nat) => hasR s (j : Int))).length := h
  rw [List.length_map] at h'
  have e : (lsD s k).rows.getD j [] = [D.i (((List.range k).filter fun (j : Nat) => hasR s (j : Int))[j]'h' : Nat)] := by
    show (List.map _ _).getD j [] = _
    rw [List.getD_eq_getElem?_getD, List.getElem?_map, List.getElem?_eq_getElem h']; rfl
  have hm : ((List.range k).filter fun (j : Nat) => hasR s (j : Int))[j]'h' < k := List.mem_range.1 (List.mem_filter.1 (List.getElem_mem h')).1
  unfold D.el
  rw [e]
  show 0 ≤ ((((List.range k).filter fun (j : Nat) => hasR s (j : Int))[j]'h' : Nat) : Int) ∧ ((((List.range k).filter fun (j : Nat) => hasR s (j : Int))[j]'h' : Nat) : Int) < k
  omega
theorem mv_in {rl : D} {a b : Int} (h : (mvI rl a b).2 = true) : 0 ≤ (mvI rl a b).1 ∧ (mvI rl a b).1 < 8 := by
  unfold mvI at h ⊢
  split at h
  · cases h
  · rename_i c
    rw [if_neg c]
    unfold isSt at h
    simp only [Bool.and_eq_true, decide_eq_true_eq] at h
    exact h
noncomputable def rstepS : FSpec := fun ds _ => match ds with
  | [.i kd, .i size, .i frm, .i dst, .i tags, .d rl, .i st, .i tag] => some { val := .tup [.sc (.int .u8 (.sym (stpR rl st tag).1)), .sc (.bool (.sym (stpR rl st tag).2))], vc := [] }
  | _ => none
noncomputable def rstepC : Con := con [chA, .sc (.int .u8), iA] rstepS
theorem rstep_ok : ConOK Try.prog 26 rstepC := by
  refine fn_ob tt_ok mixed Try.func26 rfl (fun _ _ => by kernel_rfl) (A := fun ds => ⟨fun _ => Cons.of [(56, rlistC), (57, rmoveC), (49, rofC)], fun k => match k, ds with | 6, [.i kd, .i size, .i frm, .i dst, .i tags, .d rl, .i st, .i tag] => some { ι := Nat, pre := fun _ k => k ≤ (lsD st 8).len ∧ ¬ rl.len = 0, μ := fun k => (lsD st 8).len + 1 - k, st := fun s k => famR s [(22, .one (.sc (.int .i64 (.sym ((k : Nat)))))), (8, .one (.sc (.int .u8 (.sym (stp rl tag (lsD st 8) k).1)))), (9, .one (.sc (.bool (.sym ((stp rl tag (lsD st 8) k).2)))))] [1, 2, 3, 6, 7, 20, 21] [] [3] } | _, _ => none, fun _ => none⟩) (fun _ _ => (cons_cons rlist_ok (cons_cons rmove_ok (cons_cons rof_ok cons_nil)))) (by kernel_rfl) ?_
  intro ds fr
  unfold rstepS
  split
  · rename_i _kd _size _frm _dst _tags rl st tag
    refine kmp (q := (((↑rl.len : Int) == (0 : Int)) = true → st = (stpR rl st tag).fst ∧ false = (stpR rl st tag).snd) ∧
 (((↑rl.len : Int) == (0 : Int)) = false →
 (∃ (i : Nat),
 (i ≤ (lsD st (8 : Nat)).len ∧ ¬rl.len = (0 : Nat)) ∧
 (0 : Int) = (↑i : Int) ∧
 (0 : Int) = (stp rl tag (lsD st (8 : Nat)) i).fst ∧
 false = (stp rl tag (lsD st (8 : Nat)) i).snd ∧
 st = st ∧
 tag = tag ∧
 (0 : Int) = (0 : Int) ∧
 false = false ∧
 List.map (fun (j : Nat) => [D.i (↑j : Int)]) (List.filter (fun (j : Nat) => hasR st (↑j : Int)) (List.range (8 : Nat))) =
 List.map (fun (j : Nat) => [D.i (↑j : Int)]) (List.filter (fun (j : Nat) => hasR st (↑j : Int)) (List.range (8 : Nat))) ∧
 (↑(lsD st (8 : Nat)).len : Int) = (↑(lsD st (8 : Nat)).len : Int) ∧
 _kd = _kd ∧ _size = _size ∧ _frm = _frm ∧ _dst = _dst ∧ _tags = _tags ∧ rl.rows = rl.rows) ∧
 ∀ (i : Nat),
 i ≤ (lsD st (8 : Nat)).len ∧ ¬rl.len = (0 : Nat) →
 (decide ((↑i : Int) < (↑(lsD st (8 : Nat)).len : Int)) = true →
 ((0 : Int) ≤ (↑i : Int) ∧ (↑i : Int) < (↑(lsD st (8 : Nat)).len : Int)) ∧
 (0 : Int) ≤ ((lsD st (8 : Nat)).el (↑i : Int).toNat (0 : Nat)).toI ∧
 ((!(mvI rl ((lsD st (8 : Nat)).el (↑i : Int).toNat (0 : Nat)).toI tag).snd) = true →
 ∃ (j : Nat),
 (j ≤ (lsD st (8 : Nat)).len ∧ ¬rl.len = (0 : Nat)) ∧
 (lsD st (8 : Nat)).len + (1 : Nat) - j < (lsD st (8 : Nat)).len + (1 : Nat) - i ∧
 IntKind.i64.wrap ((↑i : Int) + (1 : Int)) = (↑j : Int) ∧
 (stp rl tag (lsD st (8 : Nat)) i).fst = (stp rl tag (lsD st (8 : Nat)) j).fst ∧
 true = (stp rl tag (lsD st (8 : Nat)) j).snd ∧
 st = st ∧
 tag = tag ∧
 (0 : Int) = (0 : Int) ∧
 false = false ∧
 List.map (fun (j : Nat) => [D.i (↑j : Int)])
 (List.filter (fun (j : Nat) => hasR st (↑j : Int)) (List.range (8 : Nat))) =
 List.map (fun (j : Nat) => [D.i (↑j : Int)])
 (List.filter (fun (j : Nat) => hasR st (↑j : Int)) (List.range (8 : Nat))) ∧
 (↑(lsD st (8 : Nat)).len : Int) = (↑(lsD st (8 : Nat)).len : Int) ∧
 _kd = _kd ∧ _size = _size ∧ _frm = _frm ∧ _dst = _dst ∧ _tags = _tags ∧ rl.rows = rl.rows) ∧
 ((!(mvI rl ((lsD st (8 : Nat)).el (↑i : Int).toNat (0 : Nat)).toI tag).snd) = false →
 ((0 : Int) ≤ (mvI rl ((lsD st (8 : Nat)).el (↑i : Int).toNat (0 : Nat)).toI tag).fst ∧
 (mvI rl ((lsD st (8 : Nat)).el (↑i : Int).toNat (0 : Nat)).toI tag).fst < (8 : Int)) ∧
 ∃ (j : Nat),
 (j ≤ (lsD st (8 : Nat)).len ∧ ¬rl.len = (0 : Nat)) ∧
 (lsD st (8 : Nat)).len + (1 : Nat) - j < (lsD st (8 : Nat)).len + (1 : Nat) - i ∧
 IntKind.i64.wrap ((↑i : Int) + (1 : Int)) = (↑j : Int) ∧
 IntKind.u8.wrap
 (↑(BitVec.ofInt IntKind.u8.bits (stp rl tag (lsD st (8 : Nat)) i).fst |||
 BitVec.ofInt IntKind.u8.bits
 (ofS (mvI rl ((lsD st (8 : Nat)).el (↑i : Int).toNat (0 : Nat)).toI tag).fst)).toNat :
 Int) =
 (stp rl tag (lsD st (8 : Nat)) j).fst ∧
 (stp rl tag (lsD st (8 : Nat)) i).snd = (stp rl tag (lsD st (8 : Nat)) j).snd ∧
 st = st ∧
 tag = tag ∧
 (0 : Int) = (0 : Int) ∧
 false = false ∧
 List.map (fun (j : Nat) => [D.i (↑j : Int)])
 (List.filter (fun (j : Nat) => hasR st (↑j : Int)) (List.range (8 : Nat))) =
 List.map (fun (j : Nat) => [D.i (↑j : Int)])
 (List.filter (fun (j : Nat) => hasR st (↑j : Int)) (List.range (8 : Nat))) ∧
 (↑(lsD st (8 : Nat)).len : Int) = (↑(lsD st (8 : Nat)).len : Int) ∧
 _kd = _kd ∧ _size = _size ∧ _frm = _frm ∧ _dst = _dst ∧ _tags = _tags ∧ rl.rows = rl.rows)) ∧
 (decide ((↑i : Int) < (↑(lsD st (8 : Nat)).len : Int)) = false →
 (stp rl tag (lsD st (8 : Nat)) i).fst = (stpR rl st tag).fst ∧ (stp rl tag (lsD st (8 : Nat)) i).snd = (stpR rl st tag).snd))) (by kernel_rfl) ?_
    simp only [Int.toNat_natCast]
    refine ⟨fun c => ?_, fun c => ⟨⟨0, ⟨Nat.zero_le _, ?_⟩, rfl, ?_⟩, fun i hi => ⟨fun x => ⟨?_, ?_, fun y => ⟨i + 1, ⟨?_, hi.2⟩, ?_, ?_, ?_⟩, fun y => ⟨?_, i + 1, ⟨?_, hi.2⟩, ?_, ?_, ?_⟩⟩, fun x => ?_⟩⟩⟩
    · have c : rl.len = 0 := by have := eq_of_beq c; omega
      unfold stpR
      rw [if_pos c]; exact ⟨rfl, rfl⟩
    · intro e; rw [e] at c; simp at c
    · (repeat' apply And.intro) <;> first | rfl | trivial
    all_goals obtain ⟨hi, hr⟩ := hi
    · have x : i < (lsD st 8).len := by simpa using x
      omega
    · have x : i < (lsD st 8).len := by simpa using x
      exact (lsD_at x).1
    · have x : i < (lsD st 8).len := by simpa using x
      omega
    · omega
    · have hl := lsD_len st 8
      exact wr _ (by omega)
    · have y : ¬ (mvI rl ((lsD st 8).el i 0).toI tag).2 = true := by simpa using y
      have e : stp rl tag (lsD st 8) (i + 1) = ((stp rl tag (lsD st 8) i).1, true) := if_neg y
      rw [e]
      (repeat' apply And.intro) <;> first | rfl | trivial
    · have y : (mvI rl ((lsD st 8).el i 0).toI tag).2 = true := by simpa using y
      exact mv_in y
    · have x : i < (lsD st 8).len := by simpa using x
      omega
    · omega
    · have hl := lsD_len st 8
      exact wr _ (by omega)
    · have y : (mvI rl ((lsD st 8).el i 0).toI tag).2 = true := by simpa using y
      have e : stp rl tag (lsD st 8) (i + 1) = (or8 (stp rl tag (lsD st 8) i).1 (ofS (mvI rl ((lsD st 8).el i 0).toI tag).1), (stp rl tag (lsD st 8) i).2) := if_pos y
      rw [e]
      (repeat' apply And.intro) <;> first | rfl | trivial
    · have x : ¬ i < (lsD st 8).len := by simpa using x
      have e : i = (lsD st 8).len := by omega
      unfold stpR
      rw [if_neg hr, e]
      exact ⟨rfl, rfl⟩
  · trivial
end Go.Proofs.Ytdagadcflignfaa.Sx.Z
namespace Go.Proofs.Ytdagadcflignfaa.Sx.Z
open Go.RowKit
def gA (rl tg : D) (s : Int) : Nat → Int
  | 0 => s
  | k + 1 => or8 (gA rl tg s k) (stpR rl (gA rl tg s k) (tg.el k 0).toI).1
def itA (rl tg : D) : Nat → Int
  | 0 => 1
  | k + 1 => gA rl tg (itA rl tg k) tg.len
noncomputable def rallS : FSpec := fun ds _ => match ds with
  | [.i kd, .i size, .i frm, .i dst, .i tags, .d rl, .d tg] => some { val := .one (.sc (.int .u8 (.sym (itA rl tg 2)))), vc := [itA rl tg 3 = itA rl tg 2, tg.len ≤ 1000000] }
  | _ => none
noncomputable def rallC : Con := con [chA, .sc (.rows 3)] rallS
theorem rall_ok : ConOK Try.prog 30 rallC := by
  refine fn_ob tt_ok mixed Try.func30 rfl (fun _ _ => by kernel_rfl) (A := fun ds => ⟨fun _ => Cons.of [(23, rstartC), (26, rstepC)], fun k => match k, ds with | 2, [.i kd, .i size, .i frm, .i dst, .i tags, .d rl, .d tg] => some { ι := Nat, pre := fun _ k => k ≤ 2, μ := fun k => 3 - k, st := fun s k => famR s [(5, .one (.sc (.int .u8 (.sym (itA rl tg k)))))] [1, 2, 4] [] [2] } | 4, [.i kd, .i size, .i frm, .i dst, .i tags, .d rl, .d tg] => some { ι := Nat, pre := fun _ k => k ≤ tg.len, μ := fun k => tg.len + 1 - k, st := fun s k => famR s [(15, .one (.sc (.int .i64 (.sym ((k : Nat)))))), (6, .one (.sc (.int .u8 (.sym (gA rl tg (slotI s 5) k)))))] [1, 2, 4, 5, 13, 14] [] [2] } | _, _ => none, fun _ => none⟩) (fun _ _ => (cons_cons rstart_ok (cons_cons rstep_ok cons_nil))) (by kernel_rfl) ?_
  intro ds fr
  unfold rallS
  split
  · rename_i _kd _size _frm _dst _tags rl tg
    refine kmp (q := itA rl tg (3 : Nat) = itA rl tg (2 : Nat) →
 tg.len ≤ (1000000 : Nat) →
 (∃ (i : Nat),
 i.le (2 : Nat) ∧
 (1 : Int) = itA rl tg i ∧
 tg.rows = tg.rows ∧ (0 : Int) = (0 : Int) ∧ _kd = _kd ∧ _size = _size ∧ _frm = _frm ∧ _dst = _dst ∧ _tags = _tags ∧ rl.rows = rl.rows) ∧
 ∀ (i : Nat),
 i.le (2 : Nat) →
 (∃ (i_1 : Nat),
 i_1.le tg.len ∧
 (0 : Int) = (↑i_1 : Int) ∧
 itA rl tg i = gA rl tg (itA rl tg i) i_1 ∧
 tg.rows = tg.rows ∧
 (0 : Int) = (0 : Int) ∧
 itA rl tg i = itA rl tg i ∧
 tg.rows = tg.rows ∧
 (↑tg.len : Int) = (↑tg.len : Int) ∧ _kd = _kd ∧ _size = _size ∧ _frm = _frm ∧ _dst = _dst ∧ _tags = _tags ∧ rl.rows = rl.rows) ∧
 ∀ (i_1 : Nat),
 i_1.le tg.len →
 (decide ((↑i_1 : Int) < (↑tg.len : Int)) = true →
 ((0 : Int) ≤ (↑i_1 : Int) ∧ (↑i_1 : Int) < (↑tg.len : Int)) ∧
 ∃ (j : Nat),
 j.le tg.len ∧
 tg.len + (1 : Nat) - j < tg.len + (1 : Nat) - i_1 ∧
 IntKind.i64.wrap ((↑i_1 : Int) + (1 : Int)) = (↑j : Int) ∧
 IntKind.u8.wrap
 (↑(BitVec.ofInt IntKind.u8.bits (gA rl tg (itA rl tg i) i_1) |||
 BitVec.ofInt IntKind.u8.bits
 (stpR rl (gA rl tg (itA rl tg i) i_1) (tg.el (↑i_1 : Int).toNat (0 : Nat)).toI).fst).toNat :
 Int) =
 gA rl tg (itA rl tg i) j ∧
 tg.rows = tg.rows ∧
 (0 : Int) = (0 : Int) ∧
 itA rl tg i = itA rl tg i ∧
 tg.rows = tg.rows ∧
 (↑tg.len : Int) = (↑tg.len : Int) ∧
 _kd = _kd ∧ _size = _size ∧ _frm = _frm ∧ _dst = _dst ∧ _tags = _tags ∧ rl.rows = rl.rows) ∧
 (decide ((↑i_1 : Int) < (↑tg.len : Int)) = false →
 ((gA rl tg (itA rl tg i) i_1 == itA rl tg i) = true → itA rl tg i = itA rl tg (2 : Nat)) ∧
 ((gA rl tg (itA rl tg i) i_1 == itA rl tg i) = false →
 ∃ (j : Nat),
 j.le (2 : Nat) ∧
 (3 : Nat) - j < (3 : Nat) - i ∧
 gA rl tg (itA rl tg i) i_1 = itA rl tg j ∧
 tg.rows = tg.rows ∧
 (0 : Int) = (0 : Int) ∧ _kd = _kd ∧ _size = _size ∧ _frm = _frm ∧ _dst = _dst ∧ _tags = _tags ∧ rl.rows = rl.rows))) (by kernel_rfl) ?_
    intro h3 hl
    simp only [Int.toNat_natCast]
    refine ⟨⟨0, Nat.zero_le _, rfl, ?_⟩, fun i hi => ⟨⟨0, Nat.zero_le _, rfl, rfl, ?_⟩, fun j hj => ⟨fun x => ?_, fun x => ⟨fun y => ?_, fun y => ?_⟩⟩⟩⟩
    · (repeat' apply And.intro) <;> first | rfl | trivial
    · (repeat' apply And.intro) <;> first | rfl | trivial
    · have x : j < tg.len := by simpa using x
      refine ⟨by omega, j + 1, x, by omega, wr _ (by omega), rfl, ?_⟩
      (repeat' apply And.intro) <;> first | rfl | trivial
    all_goals
      have x : ¬ j < tg.len := by simpa using x
      have e : j = tg.len := by have hj : j ≤ tg.len := hj; omega
      subst e
      have hi : i ≤ 2 := hi
    · have y : itA rl tg (i + 1) = itA rl tg i := eq_of_beq y
      have hq : i = 0 ∨ i = 1 ∨ i = 2 := by omega
      rcases hq with rfl | rfl | rfl
      · have z : itA rl tg 2 = itA rl tg 1 := by
          show gA rl tg (itA rl tg 1) tg.len = gA rl tg (itA rl tg 0) tg.len
          rw [y]
        rw [z, y]
      · exact y.symm
      · rfl
    · have y : ¬ itA rl tg (i + 1) = itA rl tg i := ne_of_beq_false y
      have hq : i + 1 ≤ 2 := by
        by_cases h : i = 2
        · subst h; exact absurd h3 y
        · omega
      refine ⟨i + 1, hq, by omega, rfl, ?_⟩
      (repeat' apply And.intro) <;> first | rfl | trivial
  · trivial
end Go.Proofs.Ytdagadcflignfaa.Sx.Z
namespace Go.Proofs.Ytdagadcflignfaa

def gapB (n : Int) : Bool := n == 32 || n == 10
def letB (n : Int) : Bool := decide (97 ≤ n) && decide (n ≤ 122)
def digB (n : Int) : Bool := decide (48 ≤ n) && decide (n ≤ 57)
def gapU (b : UInt8) : Bool := gapB (b.toNat : Int)
def letU (b : UInt8) : Bool := letB (b.toNat : Int)
def digU (b : UInt8) : Bool := digB (b.toNat : Int)
def alnU (b : UInt8) : Bool := letU b || digU b

def resB (l : List UInt8) : Bool :=
  l == [99, 104, 97, 110] || l == [98, 108, 111, 99, 107] || l == [100, 114, 111, 112] || l == [108, 111, 115, 115, 121] || l == [102, 114, 111, 109] || l == [116, 111] ||
  l == [114, 117, 108, 101] || l == [112, 114, 111, 99] || l == [118, 97, 114] || l == [105, 102] || l == [101, 108, 115, 101] || l == [119, 104, 105, 108, 101] ||
  l == [115, 101, 110, 100] || l == [114, 101, 99, 118] || l == [97, 115, 115, 101, 114, 116] || l == [105, 110, 112, 117, 116]

/-- How long the sign is that begins with a byte; p: whether an equals sign stands behind it. -/
def sgnB (a : Int) (p : Bool) : Nat :=
  if a = 61 ∨ a = 60 ∨ a = 62 then (if p then 2 else 1) else if a = 33 then (if p then 2 else 0)
  else if a = 123 ∨ a = 125 ∨ a = 40 ∨ a = 41 ∨ a = 59 ∨ a = 44 ∨ a = 46 ∨ a = 43 ∨ a = 45 ∨ a = 42 ∨ a = 47 ∨ a = 37 then 1 else 0
/-- The second byte is an equals sign. -/
def eqNext (l : List UInt8) : Bool := match l with
  | _ :: b :: _ => b == 61
  | _ => false
theorem eqNext_get (l : List UInt8) (h : 1 < l.length) : eqNext l = ((l[1].toNat : Int) == 61) := by
  match l, h with
  | a :: b :: t, _ =>
    show (b == 61) = ((b.toNat : Int) == 61)
    rw [Bool.eq_iff_iff]
    simp only [beq_iff_eq]
    constructor
    · rintro rfl; rfl
    · intro h; exact UInt8.toNat_inj.1 (by show b.toNat = 61; omega)
  | [], h => simp at h
  | [a], h => simp at h
theorem eqNext_short (l : List UInt8) (h : l.length ≤ 1) : eqNext l = false := by
  match l, h with
  | a :: b :: t, h => simp at h
  | [], _ => rfl
  | [a], _ => rfl
def sgnLen (r : List UInt8) : Nat := sgnB ((r.headD 0).toNat : Int) (eqNext r)

def lenOf (pr : UInt8 → Bool) (r : List UInt8) : Nat := (r.takeWhile pr).length
def val (ds : List UInt8) : Nat := ds.foldl (fun n d => 10 * n + (d.toNat - 48)) 0

/-- A name's kind, length and number; a number's; the word with which bytes begin. -/
def nameE (r : List UInt8) : Except Int (Int × Nat × Int) :=
  if 12 < lenOf alnU r then .error 3 else .ok (if resB (r.take (lenOf alnU r)) then 4 else 1, lenOf alnU r, 0)
def numE (r : List UInt8) : Except Int (Int × Nat × Int) :=
  if 2147483647 < val (r.take (lenOf digU r)) ∨ (1 < lenOf digU r ∧ r.headD 0 = 48) ∨ letU (r.getD (lenOf digU r) 0) = true then .error 3
  else .ok (2, lenOf digU r, (val (r.take (lenOf digU r)) : Int))
def sgnE (r : List UInt8) : Except Int (Int × Nat × Int) :=
  if sgnLen r = 0 then .error 2 else .ok (3, sgnLen r, 0)
def wordE (r : List UInt8) : Except Int (Int × Nat × Int) :=
  if letU (r.headD 0) then nameE r else if digU (r.headD 0) then numE r else sgnE r

structure Tok where
  kind : Int
  text : ByteArray
  num : Int
  pos : Nat

def lexGo (s : ByteArray) : Nat → Nat → List Tok → Except (Nat × Int) (List Tok)
  | 0, _, acc => .ok acc
  | f + 1, p, acc =>
    if p < s.size then
      if gapU (s.data.toList.getD p 0) then lexGo s f (p + 1) acc
      else match wordE (s.data.toList.drop p) with
        | .error e => .error (p, e)
        | .ok (k, n, m) => lexGo s f (p + n) (acc ++ [⟨k, s.extract p (p + n), m, p⟩])
    else .ok acc

/-- What Lex tells: the words, the place, the error. -/
def lexR (s : ByteArray) : List Tok × Nat × Int := match lexGo s s.size 0 [] with
  | .error (p, e) => ([], p, e)
  | .ok acc => if 2000 < acc.length then ([], s.size, 4) else (acc, 0, 0)

theorem lenOf_le (pr : UInt8 → Bool) (r : List UInt8) : lenOf pr r ≤ r.length := (List.takeWhile_prefix pr).length_le
theorem lenOf_pos (pr : UInt8 → Bool) (r : List UInt8) (h0 : 0 < r.length) (h : pr (r.headD 0) = true) : 1 ≤ lenOf pr r := by
  match r, h0 with
  | a :: t, _ =>
    have h : pr a = true := h
    simp [lenOf, h]
theorem sgnB_le (a : Int) (p : Bool) : sgnB a p ≤ 2 := by
  unfold sgnB
  cases p <;> repeat (first | omega | split)
theorem sgnLen_le (r : List UInt8) : sgnLen r ≤ r.length := by
  match r with
  | [] => exact Nat.le_of_eq (by decide)
  | [a] =>
    show sgnB (a.toNat : Int) false ≤ 1
    unfold sgnB
    simp only [Bool.false_eq_true, if_false]
    repeat (first | omega | split)
  | a :: b :: t =>
    have := sgnB_le (a.toNat : Int) (b == 61)
    show sgnB (a.toNat : Int) (b == 61) ≤ t.length + 1 + 1
    omega
theorem wordE_ok {r : List UInt8} {k : Int} {n : Nat} {m : Int} (h0 : 0 < r.length) (h : wordE r = .ok (k, n, m)) : 1 ≤ n ∧ n ≤ r.length ∧ 0 ≤ m ∧ m ≤ 2147483647 ∧ 1 ≤ k ∧ k ≤ 4 := by
  unfold wordE at h
  by_cases hl : letU (r.headD 0) = true
  · rw [if_pos hl] at h
    unfold nameE at h
    by_cases h12 : 12 < lenOf alnU r
    · rw [if_pos h12] at h; cases h
    · rw [if_neg h12] at h
      injection h with h; injection h with h1 h; injection h with h2 h3
      subst h2; subst h3
      refine ⟨lenOf_pos _ _ h0 (by unfold alnU; rw [hl]; rfl), lenOf_le _ _, by omega, by omega, ?_⟩
      rw [← h1]
      split <;> omega
  · rw [if_neg hl] at h
    by_cases hd : digU (r.headD 0) = true
    · rw [if_pos hd] at h
      unfold numE at h
      by_cases hc : 2147483647 < val (r.take (lenOf digU r)) ∨ (1 < lenOf digU r ∧ r.headD 0 = 48) ∨ letU (r.getD (lenOf digU r) 0) = true
      · rw [if_pos hc] at h; cases h
      · rw [if_neg hc] at h
        injection h with h; injection h with h1 h; injection h with h2 h3
        subst h2; subst h3; subst h1
        refine ⟨lenOf_pos _ _ h0 hd, lenOf_le _ _, by omega, ?_, by omega, by omega⟩
        have := fun hx => hc (.inl hx)
        omega
    · rw [if_neg hd] at h
      unfold sgnE at h
      by_cases hz : sgnLen r = 0
      · rw [if_pos hz] at h; cases h
      · rw [if_neg hz] at h
        injection h with h; injection h with h1 h; injection h with h2 h3
        subst h2; subst h3; subst h1
        exact ⟨by omega, sgnLen_le r, by omega, by omega, by omega, by omega⟩

theorem wordE_err {r : List UInt8} {x : Int} (h : wordE r = .error x) : x = 2 ∨ x = 3 := by
  unfold wordE at h
  split at h
  · unfold nameE at h
    split at h
    · injection h with h; omega
    · cases h
  · split at h
    · unfold numE at h
      split at h
      · injection h with h; omega
      · cases h
    · unfold sgnE at h
      split at h
      · injection h with h; omega
      · cases h

/-! The loop over the words. -/
theorem go_gap {s : ByteArray} {f p : Nat} {acc : List Tok} {R : Except (Nat × Int) (List Tok)} (hp : p < s.size) (hg : gapU (s.data.toList.getD p 0) = true) (hf : s.size ≤ p + f) (h : lexGo s f p acc = R) :
    ∃ f', s.size ≤ (p + 1) + f' ∧ lexGo s f' (p + 1) acc = R := by
  obtain ⟨f', rfl⟩ : ∃ f', f = f' + 1 := ⟨f - 1, by omega⟩
  refine ⟨f', by omega, ?_⟩
  rw [lexGo, if_pos hp, if_pos hg] at h
  exact h
theorem go_err {s : ByteArray} {f p : Nat} {acc : List Tok} {R : Except (Nat × Int) (List Tok)} {e : Int} (hp : p < s.size) (hg : gapU (s.data.toList.getD p 0) = false) (hw : wordE (s.data.toList.drop p) = .error e) (hf : s.size ≤ p + f) (h : lexGo s f p acc = R) :
    R = .error (p, e) := by
  obtain ⟨f', rfl⟩ : ∃ f', f = f' + 1 := ⟨f - 1, by omega⟩
  rw [lexGo, if_pos hp, if_neg (by rw [hg]; decide), hw] at h
  exact h.symm
theorem go_word {s : ByteArray} {f p : Nat} {acc : List Tok} {R : Except (Nat × Int) (List Tok)} {k : Int} {n : Nat} {m : Int} (hp : p < s.size) (hg : gapU (s.data.toList.getD p 0) = false) (hw : wordE (s.data.toList.drop p) = .ok (k, n, m)) (hf : s.size ≤ p + f) (hn : 1 ≤ n) (h : lexGo s f p acc = R) :
    ∃ f', s.size ≤ (p + n) + f' ∧ lexGo s f' (p + n) (acc ++ [⟨k, s.extract p (p + n), m, p⟩]) = R := by
  obtain ⟨f', rfl⟩ : ∃ f', f = f' + 1 := ⟨f - 1, by omega⟩
  refine ⟨f', by omega, ?_⟩
  rw [lexGo, if_pos hp, if_neg (by rw [hg]; decide), hw] at h
  exact h
theorem go_end {s : ByteArray} {f p : Nat} {acc : List Tok} {R : Except (Nat × Int) (List Tok)} (hp : s.size ≤ p) (h : lexGo s f p acc = R) : R = .ok acc := by
  match f with
  | 0 => exact h.symm
  | f + 1 =>
    rw [lexGo, if_neg (by omega)] at h
    exact h.symm

/-! Runs: the bytes from p on, up to k, all have it. -/
def Run (pr : UInt8 → Bool) (s : ByteArray) (p k : Nat) : Prop := p ≤ k ∧ k ≤ s.size ∧ ∀ j, p ≤ j → j < k → pr (s.data.toList.getD j 0) = true
theorem getD_eq (s : ByteArray) (k : Nat) (h : k < s.size) : s.data.toList.getD k 0 = s[k] := by
  rw [List.getD_eq_getElem?_getD, List.getElem?_eq_getElem (by simpa using h)]
  rfl
theorem Run.start {pr : UInt8 → Bool} {s : ByteArray} {p : Nat} (h : p ≤ s.size) : Run pr s p p := ⟨Nat.le_refl _, h, fun j h1 h2 => by omega⟩
theorem Run.step {pr : UInt8 → Bool} {s : ByteArray} {p k : Nat} (h : Run pr s p k) (hk : k < s.size) (hp : pr s[k] = true) : Run pr s p (k + 1) := by
  refine ⟨by have := h.1; omega, by omega, fun j h1 h2 => ?_⟩
  by_cases e : j = k
  · subst e; rw [getD_eq s j hk]; exact hp
  · exact h.2.2 j h1 (by omega)
theorem takeWhile_len (pr : UInt8 → Bool) : ∀ (r : List UInt8) (n : Nat), n ≤ r.length → (∀ i, i < n → pr (r.getD i 0) = true) → (n < r.length → pr (r.getD n 0) = false) → (r.takeWhile pr).length = n := by
  intro r
  induction r with
  | nil => intro n h _ _; simp at h; simp [h]
  | cons a t ih =>
    intro n hn hall hstop
    match n with
    | 0 =>
      have : pr a = false := hstop (by simp)
      simp [this]
    | n + 1 =>
      have h0 : pr a = true := hall 0 (by omega)
      rw [List.takeWhile_cons, if_pos h0, List.length_cons, ih n (by simpa using hn) (fun i hi => hall (i + 1) (by omega)) (fun h => hstop (by simpa using h))]
theorem getD_drop (l : List UInt8) (p i : Nat) : (l.drop p).getD i 0 = l.getD (p + i) 0 := by
  simp [List.getD_eq_getElem?_getD, List.getElem?_drop]
theorem Run.len {pr : UInt8 → Bool} {s : ByteArray} {p k : Nat} (h : Run pr s p k) (hk : k < s.size → pr (s.data.toList.getD k 0) = false) : lenOf pr (s.data.toList.drop p) = k - p := by
  obtain ⟨h1, h2, h3⟩ := h
  have hl : s.data.toList.length = s.size := by simp
  refine takeWhile_len pr _ (k - p) (by rw [List.length_drop]; omega) (fun i hi => ?_) (fun hlt => ?_)
  · rw [getD_drop]; exact h3 _ (by omega) (by omega)
  · rw [getD_drop, show p + (k - p) = k from by omega]
    rw [List.length_drop] at hlt
    exact hk (by omega)
theorem Run.le_len {pr : UInt8 → Bool} {s : ByteArray} {p k : Nat} (h : Run pr s p k) : k - p ≤ lenOf pr (s.data.toList.drop p) := by
  obtain ⟨h1, h2, h3⟩ := h
  have hl : s.data.toList.length = s.size := by simp
  have key : ∀ (r : List UInt8) (n : Nat), n ≤ r.length → (∀ i, i < n → pr (r.getD i 0) = true) → n ≤ (r.takeWhile pr).length := by
    intro r
    induction r with
    | nil => intro n h _; simpa using h
    | cons a t ih =>
      intro n hn hall
      match n with
      | 0 => omega
      | n + 1 =>
        have h0 : pr a = true := hall 0 (by omega)
        have := ih n (by simpa using hn) (fun i hi => hall (i + 1) (by omega))
        rw [List.takeWhile_cons, if_pos h0, List.length_cons]
        omega
  exact key _ _ (by rw [List.length_drop]; omega) (fun i hi => by rw [getD_drop]; exact h3 _ (by omega) (by omega))
theorem head_drop (l : List UInt8) (p : Nat) : (l.drop p).headD 0 = l.getD p 0 := by
  rw [List.headD_eq_head?_getD, List.head?_drop, List.getD_eq_getElem?_getD]

/-! Numbers out of digits. -/
def vl (s : ByteArray) (p k : Nat) : Nat := val ((s.data.toList.drop p).take (k - p))
theorem val_snoc (ds : List UInt8) (d : UInt8) : val (ds ++ [d]) = 10 * val ds + (d.toNat - 48) := by simp [val]
theorem val_app_le (a : List UInt8) : ∀ b : List UInt8, val a ≤ val (a ++ b) := by
  intro b
  induction b generalizing a with
  | nil => simp
  | cons d t ih =>
    have h1 := ih (a ++ [d])
    rw [List.append_assoc, List.singleton_append] at h1
    have h2 := val_snoc a d
    omega
theorem vl_start (s : ByteArray) (p : Nat) : vl s p p = 0 := by simp [vl, val]
theorem vl_step (s : ByteArray) (p k : Nat) (hp : p ≤ k) (hk : k < s.size) : vl s p (k + 1) = 10 * vl s p k + (s[k].toNat - 48) := by
  have hl : s.data.toList.length = s.size := by simp
  unfold vl
  rw [show k + 1 - p = (k - p) + 1 from by omega, List.take_succ_eq_append_getElem (by rw [List.length_drop]; omega), val_snoc]
  have : (s.data.toList.drop p)[k - p]'(by rw [List.length_drop]; omega) = s[k] := by
    rw [List.getElem_drop]
    have e : p + (k - p) = k := by omega
    simp only [e]
    rfl
  rw [this]
theorem vl_mono (s : ByteArray) (p k n : Nat) (h : k - p ≤ n) : vl s p k ≤ val ((s.data.toList.drop p).take n) := by
  unfold vl
  have e : (s.data.toList.drop p).take n = (s.data.toList.drop p).take (k - p) ++ ((s.data.toList.drop p).drop (k - p)).take (n - (k - p)) := by
    rw [← List.take_add, show k - p + (n - (k - p)) = n from by omega]
  rw [e]
  exact val_app_le _ _
end Go.Proofs.Ytdagadcflignfaa
namespace Go.Proofs.Ytdagadcflignfaa
open Go.RowKit

theorem gap_any (n : Int) (w : World) : Calls Try.prog 78 #[.int .u8 n] w fun e w' => e = .returned (.bool (gapB n)) ∧ w = w' := by
  unfold gapB
  go_enter Try.func78, Try.ntmps78
  go_wp2
  all_goals
    go_ret
    exact ⟨by first | (simp [*]; done) | (simp [*]; omega), rfl⟩
theorem let_any (n : Int) (w : World) : Calls Try.prog 100 #[.int .u8 n] w fun e w' => e = .returned (.bool (letB n)) ∧ w = w' := by
  unfold letB
  go_enter Try.func100, Try.ntmps100
  go_wp2
  all_goals
    go_ret
    exact ⟨by first | (simp [*]; done) | (simp [*]; omega), rfl⟩
theorem dig_any (n : Int) (w : World) : Calls Try.prog 102 #[.int .u8 n] w fun e w' => e = .returned (.bool (digB n)) ∧ w = w' := by
  unfold digB
  go_enter Try.func102, Try.ntmps102
  go_wp2
  all_goals
    go_ret
    exact ⟨by first | (simp [*]; done) | (simp [*]; omega), rfl⟩
end Go.Proofs.Ytdagadcflignfaa
namespace Go.Proofs.Ytdagadcflignfaa
open Go.RowKit

set_option maxHeartbeats 1000000 in
theorem res_any (s : ByteArray) (w : World) : Calls Try.prog 140 #[.string s] w fun e w' => e = .returned (.bool (resB s.toList)) ∧ w = w' := by
  unfold resB
  go_enter Try.func140, Try.ntmps140
  go_wp2
  all_goals
    go_ret
    refine ⟨?_, rfl⟩
    first | (simp [*]; done) | (exfalso; simp_all; done)

theorem ret_i64 {a b : Int} (h : a = b) : Ending.returned (.int .i64 a) = .returned (.int .i64 b) := by rw [h]

set_option maxHeartbeats 1000000 in
theorem sgn_one (s : ByteArray) (w : World) (h0 : 0 < s.size) (h1 : s.size ≤ 1) :
    Calls Try.prog 104 #[.string s] w fun e w' => e = .returned (.int .i64 (sgnB (s[0].toNat : Int) false)) ∧ w = w' := by
  go_enter Try.func104, Try.ntmps104
  go_wp2
  all_goals
    go_ret
    refine ⟨ret_i64 ?_, rfl⟩
    simp only [beq_iff_eq, beq_eq_false_iff_ne, ne_eq] at *
    unfold sgnB
    simp [*]

set_option maxHeartbeats 2000000 in
theorem sgn_two (s : ByteArray) (w : World) (h0 : 0 < s.size) (h1 : 1 < s.size) :
    Calls Try.prog 104 #[.string s] w fun e w' => e = .returned (.int .i64 (sgnB (s[0].toNat : Int) ((s[1].toNat : Int) == 61))) ∧ w = w' := by
  rcases Bool.eq_false_or_eq_true ((s[1].toNat : Int) == 61) with hp | hp
  all_goals
    rw [hp]
    go_enter Try.func104, Try.ntmps104
    go_wp2
    all_goals
      go_ret
      refine ⟨ret_i64 ?_, rfl⟩
      simp only [beq_iff_eq, beq_eq_false_iff_ne, ne_eq] at *
      unfold sgnB
      simp [*]

theorem sgn_any (s : ByteArray) (w : World) (h0 : 0 < s.size) :
    Calls Try.prog 104 #[.string s] w fun e w' => e = .returned (.int .i64 (sgnB (s[0].toNat : Int) (eqNext s.data.toList))) ∧ w = w' := by
  by_cases h1 : 1 < s.size
  · refine (sgn_two s w h0 h1).mono fun e w' ⟨he, hw⟩ => ⟨he.trans ?_, hw⟩
    rw [eqNext_get s.data.toList (by simpa using h1)]
    rfl
  · refine (sgn_one s w h0 (by omega)).mono fun e w' ⟨he, hw⟩ => ⟨he.trans ?_, hw⟩
    rw [eqNext_short s.data.toList (by simp; omega)]

theorem info_u8 : (Try.prog.info? 5).map (fun i => (i.zero, i.size, i.bytes)) = some (some (.int .u8 0), 1, 1) := by kernel_rfl

set_option maxHeartbeats 2000000 in
set_option maxRecDepth 100000 in
theorem slClone_any (s : ByteArray) (w : World) (hlim : s.size ≤ 281474976710656) :
    Calls Try.prog 105 #[.string s] w fun e w' => e = .returned (.string s) ∧ Below w.heap.size w w' := by
  by_cases h0 : s.size = 0
  · have hs : s = ⟨#[]⟩ := by
      apply ByteArray.ext
      exact Array.eq_empty_of_size_eq_zero h0
    subst hs
    go_enter Try.func105, Try.ntmps105
    go_wp2
    go_ret
    exact ⟨rfl, Below.refl _ _⟩
  · obtain ⟨i0, hi, hz0, hz1, hz2⟩ := info_parts info_u8
    have hinfo : (Try.prog.info? 5).map (·.size) = some 1 := by rw [hi]; simp [hz1]
    have hco : Try.prog.cellsOf 5 = 1 := by simp [Program.cellsOf, hi, hz1]
    obtain ⟨M, hM⟩ : ∃ M, M = madeCells (Value.int .u8 0).cells (((s.size : Nat) : Int).toNat * i0.size) := ⟨_, rfl⟩
    have hMs : M.size = s.size := by rw [hM, size_madeCells, hz1]; simp
    have hmk : ∀ W : World, (Instr.makeSlice 225 (.int .i64 (s.size : Int)) (.int .i64 (s.size : Int))).run Try.prog W = .ok (.slice (some ⟨W.heap.size, 0, none⟩) s.size s.size) (W.alloc (.cells M 5)) := fun W => by
      have h := run_make (P := Try.prog) W 225 5 i0 (.int .u8 0) Try.underlying225 hi hz0 .i64 .i64 (s.size : Int) (s.size : Int) (by omega) (by omega) (by rw [hz2]; omega) (by omega)
      rw [← hM] at h
      simpa using h
    clear hM
    have hcp := Lib.run_copy_row_string (P := Try.prog) (w.alloc (.cells M 5)) 225 9 3 5 w.heap.size 0 s.size s.size s M 5 Try.underlying225 hinfo (heap_alloc_new w _) (Nat.le_refl _) (by omega)
    obtain ⟨Y, hY⟩ : ∃ Y, Y = (M.toList.take 0 ++ Lib.byteCells s.data.toList ++ M.toList.drop (0 + s.size)).toArray := ⟨_, rfl⟩
    rw [← hY] at hcp
    have hYl : Y.toList = Lib.byteCells s.data.toList := by
      rw [hY, List.toList_toArray, List.take_zero, List.nil_append, List.drop_of_length_le (by rw [Array.length_toList]; omega), List.append_nil]
    have hYs : Y.size = s.size := by rw [← Array.length_toList, hYl, Lib.byteCells_length, ← Lib.size_eq]
    have hgY : ((w.alloc (.cells M 5)).setRow w.heap.size Y).heap[w.heap.size]? = some (.cells Y 5 (0, 0)) := setRow_heap _ _ M _ 5 (0, 0) (heap_alloc_new w _)
    have hne : s.data.toList ≠ [] := fun e => h0 (by rw [Lib.size_eq, e]; rfl)
    have hUS := Lib.run_unsafeString_row (P := Try.prog) ((w.alloc (.cells M 5)).setRow w.heap.size Y) 226 3 9 5 Try.underlying226 hco w.heap.size Y.size (by unfold World.shape?; rw [hgY]) s.data.toList hne (by rw [← Lib.size_eq]; omega) (by rw [← Lib.size_eq]; omega)
      (fun j x hx => Lib.cells_of_row hgY Y.size j _ (by rw [List.take_of_length_le (by rw [Array.length_toList]; exact Nat.le_refl _), hYl]; simp [Lib.byteCells, hx]))
    rw [← Lib.size_eq] at hUS
    clear hY
    go_enter Try.func105, Try.ntmps105
    go_wp2
    go_ret
    have hb1 : Below w.heap.size w (w.alloc (.cells M 5)) := (Below.refl _ w).alloc (Nat.le_refl _) _
    have hb2 : Below w.heap.size (w.alloc (.cells M 5)) ((w.alloc (.cells M 5)).setRow w.heap.size Y) := ⟨rfl, rfl, rfl, by simp, fun k hk => setRow_other _ _ _ _ (by omega)⟩
    exact ⟨rfl, Lib.below_freeze (hb1.trans hb2) (p := ⟨w.heap.size, 0, none⟩) (Nat.le_refl _) _⟩

theorem clone_any (s : ByteArray) (w : World) (hlim : s.size ≤ 281474976710656) :
    Calls Try.prog 80 #[.string s] w fun e w' => e = .returned (.string s) ∧ Below w.heap.size w w' := by
  go_enter Try.func80, Try.ntmps80
  go_wp2_with (go_at_call 105; refine (slClone_any _ _ hlim).mono ?_; rintro e w1 ⟨rfl, hb⟩)
  go_ret
  exact ⟨rfl, hb⟩
end Go.Proofs.Ytdagadcflignfaa
