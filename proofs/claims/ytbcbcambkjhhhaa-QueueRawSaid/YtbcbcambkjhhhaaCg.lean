/-
  queue.Tags; the law's own example.
-/
import Derived.Test.YtbcbcambkjhhhaaCf
namespace Go.Proofs.Ytbcbcambkjhhhaa.Sx.Z
open Go.RowKit
def tgD (d : D) (k : Nat) : D := .l (((List.range k).filter fun j => !(decide ((pr d j).2 < (pr d j).1))).map fun (j : Nat) => [D.i (j : Int)])
theorem tgD_len (d : D) (k : Nat) : (tgD d k).len ≤ k := by
  show (List.map _ (List.filter _ (List.range k))).length ≤ k
  rw [List.length_map]
  exact Nat.le_trans (List.length_filter_le _ _) (by simp)
theorem tgD_yes {d : D} {k : Nat} (h : ¬ (pr d k).2 < (pr d k).1) : (tgD d (k + 1)).rows = (tgD d k).rows ++ [[D.i k]] := by
  show List.map _ (List.filter _ (List.range (k + 1))) = List.map _ (List.filter _ (List.range k)) ++ _
  rw [List.range_succ, List.filter_append, List.map_append, List.filter_cons, if_pos (by simpa using h)]; rfl
theorem tgD_no {d : D} {k : Nat} (h : (pr d k).2 < (pr d k).1) : (tgD d (k + 1)).rows = (tgD d k).rows := by
  show List.map _ (List.filter _ (List.range (k + 1))) = List.map _ (List.filter _ (List.range k))
  rw [List.range_succ, List.filter_append, List.filter_cons, if_neg (by simpa using h), List.filter_nil, List.append_nil]
noncomputable def qtagsS : FSpec := fun ds _ => match ds with
  | [.i _l, .i _h, .d d] => some { val := .one (.sc (.rows 3 (tgD d d.len))), vc := [d.len ≤ 8796093022208] }
  | _ => none
noncomputable def qtagsC : Con := con [elA] qtagsS
theorem qtags_ok : ConOK Try.prog 35 qtagsC := by
  refine fn_ob tt_ok mixed Try.func35 rfl (fun _ _ => by kernel_rfl) (A := fun ds => ⟨fun _ => Cons.of [(46, emptyC)], fun k => match k, ds with | 3, [.i l, .i h, .d d] => some { ι := Nat, pre := fun _ k => k ≤ d.len, μ := fun k => d.len + 1 - k, st := fun s k => famR s [(9, .one (.sc (.int .i64 (.sym ((k : Nat)))))), (3, .one (.sc (.osl 3 (s.nx - 1) (.lit 0) (.sym ((tgD d k).len)))))] [1, 2, 7, 8] [(s.nx - 1, .orow 3 (tgD d k))] [1] } | _, _ => none, fun _ => none⟩) (fun _ _ => (cons_cons empty_ok cons_nil)) (by kernel_rfl) ?_
  intro ds fr
  unfold qtagsS
  split
  · rename_i l h d
    refine kmp (q := d.len ≤ (8796093022208 : Nat) →
 (∃ (i : Nat),
 i.le d.len ∧
 (0 : Int) = (↑i : Int) ∧
 (tgD d i).len = (0 : Nat) ∧
 d.rows = d.rows ∧
 (↑d.len : Int) = (↑d.len : Int) ∧
 List.map (fun (j : Nat) => [D.i (↑j : Int)]) (List.filter (fun (j : Nat) => !decide ((pr d j).snd < (pr d j).fst)) (List.range i)) = [] ∧
 l = l ∧ h = h ∧ d.rows = d.rows) ∧
 ∀ (i : Nat),
 i.le d.len →
 (decide ((↑i : Int) < (↑d.len : Int)) = true →
 ((0 : Int) ≤ (↑i : Int) ∧ (↑i : Int) < (↑d.len : Int)) ∧
 ((!decide ((d.el (↑i : Int).toNat ((0 : Nat) + (1 : Nat))).toI < (d.el (↑i : Int).toNat (0 : Nat)).toI)) = true →
 (tgD d i).len = (tgD d i).len ∧
 ((tgD d i).len + ((D.l [[D.i (↑i : Int)]]).sub (0 : Nat) ((0 : Nat) + (1 : Nat))).len) * (8 : Nat) ≤ (140737488355328 : Nat) ∧
 (0 : Nat) + (1 : Nat) ≤ (D.l [[D.i (↑i : Int)]]).len ∧
 ∃ (j : Nat),
 j.le d.len ∧
 d.len + (1 : Nat) - j < d.len + (1 : Nat) - i ∧
 IntKind.i64.wrap ((↑i : Int) + (1 : Int)) = (↑j : Int) ∧
 (tgD d i).len + ((D.l [[D.i (↑i : Int)]]).sub (0 : Nat) ((0 : Nat) + (1 : Nat))).len = (tgD d j).len ∧
 d.rows = d.rows ∧
 (↑d.len : Int) = (↑d.len : Int) ∧
 List.map (fun (j : Nat) => [D.i (↑j : Int)])
 (List.filter (fun (j : Nat) => !decide ((pr d j).snd < (pr d j).fst)) (List.range i)) ++
 List.drop (0 : Nat) (List.take ((0 : Nat) + (1 : Nat)) [[D.i (↑i : Int)]]) =
 List.map (fun (j : Nat) => [D.i (↑j : Int)])
 (List.filter (fun (j : Nat) => !decide ((pr d j).snd < (pr d j).fst)) (List.range j)) ∧
 l = l ∧ h = h ∧ d.rows = d.rows) ∧
 ((!decide ((d.el (↑i : Int).toNat ((0 : Nat) + (1 : Nat))).toI < (d.el (↑i : Int).toNat (0 : Nat)).toI)) = false →
 ∃ (j : Nat),
 j.le d.len ∧
 d.len + (1 : Nat) - j < d.len + (1 : Nat) - i ∧
 IntKind.i64.wrap ((↑i : Int) + (1 : Int)) = (↑j : Int) ∧
 (tgD d i).len = (tgD d j).len ∧
 d.rows = d.rows ∧
 (↑d.len : Int) = (↑d.len : Int) ∧
 List.map (fun (j : Nat) => [D.i (↑j : Int)])
 (List.filter (fun (j : Nat) => !decide ((pr d j).snd < (pr d j).fst)) (List.range i)) =
 List.map (fun (j : Nat) => [D.i (↑j : Int)])
 (List.filter (fun (j : Nat) => !decide ((pr d j).snd < (pr d j).fst)) (List.range j)) ∧
 l = l ∧ h = h ∧ d.rows = d.rows)) ∧
 (decide ((↑i : Int) < (↑d.len : Int)) = false →
 nat_lit 0 + (tgD d i).len ≤ (tgD d i).len ∧
 List.drop (nat_lit 0)
 (List.take (nat_lit 0 + (tgD d i).len)
 (List.map (fun (j : Nat) => [D.i (↑j : Int)]) (List.filter (fun (j : Nat) => !decide ((pr d j).snd < (pr d j).fst)) (List.range i)))) =
 List.map (fun (j : Nat) => [D.i (↑j : Int)]) (List.filter (fun (j : Nat) => !decide ((pr d j).snd < (pr d j).fst)) (List.range d.len)))) (by kernel_rfl) ?_
    intro hd
    simp only [Int.toNat_natCast]
    have el : ∀ i (x : List D), (tgD d i).len + ((D.l [x]).sub 0 (0 + 1)).len = (tgD d i).len + 1 := fun _ _ => rfl
    refine ⟨⟨0, Nat.zero_le _, rfl, ?_⟩, fun i hi => ⟨fun x => ?_, fun x => ?_⟩⟩
    · (repeat' apply And.intro) <;> first | rfl | trivial
    · have x : i < d.len := by simpa using x
      have hl := tgD_len d i
      refine ⟨by omega, fun y => ⟨trivial, ?_, Nat.le_refl 1, i + 1, x, by omega, wr _ (by omega), ?_⟩, fun y => ⟨i + 1, x, by omega, wr _ (by omega), ?_⟩⟩
      · rw [el]; omega
      · have y : (!decide ((pr d i).2 < (pr d i).1)) = true := y
        have y : ¬ (pr d i).2 < (pr d i).1 := by simpa using y
        have e := tgD_yes y
        refine ⟨?_, by (repeat' apply And.intro) <;> first | rfl | trivial | exact e.symm⟩
        rw [el]
        show _ = (tgD d (i + 1)).rows.length
        rw [e, List.length_append]; rfl
      · have y : (!decide ((pr d i).2 < (pr d i).1)) = false := y
        have y : (pr d i).2 < (pr d i).1 := by simpa using y
        have e := tgD_no y
        refine ⟨?_, by (repeat' apply And.intro) <;> first | rfl | trivial | exact e.symm⟩
        show (tgD d i).rows.length = (tgD d (i + 1)).rows.length
        rw [e]
    · have x : ¬ i < d.len := by simpa using x
      have e : i = d.len := by have : i ≤ d.len := hi; omega
      subst e
      (repeat' apply And.intro) <;> first | rfl | trivial | omega | exact full_len rfl
  · trivial
noncomputable def sendsS : FSpec := fun ds _ => match ds with
  | [] => some { val := .one (.sc (.bool (.lit true))), vc := [] }
  | _ => none
noncomputable def sendsC : Con := con [] sendsS
theorem sends_ok : ConOK Try.prog 22 sendsC := by
  refine fn_ob tt_ok mixed Try.func22 rfl (fun _ _ => by kernel_rfl) (A := fun ds => ⟨fun _ => Cons.of [(30, qnoneC), (68, iofC), (33, qsendC), (28, qhasC), (35, qtagsC)], fun _ => none, fun _ => none⟩) (fun _ _ => (cons_cons qnone_ok (cons_cons iof_ok (cons_cons qsend_ok (cons_cons qhas_ok (cons_cons qtags_ok cons_nil)))))) (by kernel_rfl) ?_
  intro ds fr
  unfold sendsS
  split
  · skip
    refine kmp (q := ((1 : Int) ≤ (1 : Int) ∧ (1 : Int) ≤ (4 : Int)) ∧
 (prD (Int.toNat (1 : Int)) fun (x : Nat) => ((1 : Int), (0 : Int))).len ≤ (8796093022208 : Nat) ∧
 ((sndL (2 : Int) (1 : Int) ((0 : Int), (0 : Int)) (prD (Int.toNat (1 : Int)) fun (x : Nat) => ((1 : Int), (0 : Int))) (0 : Int)
 (ofLo (3 : Int) (4 : Int), ofHi (3 : Int) (4 : Int))).fst ==
 ofLo (0 : Int) (1 : Int) &&
 ((sndL (2 : Int) (1 : Int) ((0 : Int), (0 : Int)) (prD (Int.toNat (1 : Int)) fun (x : Nat) => ((1 : Int), (0 : Int))) (0 : Int)
 (ofLo (3 : Int) (4 : Int), ofHi (3 : Int) (4 : Int))).snd ==
 ofHi (0 : Int) (1 : Int) &&
 true)) =
 true ∧
 (((sndL (2 : Int) (1 : Int) ((0 : Int), (0 : Int)) (prD (Int.toNat (1 : Int)) fun (x : Nat) => ((1 : Int), (0 : Int))) (0 : Int)
 (ofLo (3 : Int) (4 : Int), ofHi (3 : Int) (4 : Int))).fst ==
 ofLo (0 : Int) (1 : Int) &&
 ((sndL (2 : Int) (1 : Int) ((0 : Int), (0 : Int)) (prD (Int.toNat (1 : Int)) fun (x : Nat) => ((1 : Int), (0 : Int))) (0 : Int)
 (ofLo (3 : Int) (4 : Int), ofHi (3 : Int) (4 : Int))).snd ==
 ofHi (0 : Int) (1 : Int) &&
 true)) =
 true ∧
 True →
 (0 : Nat) + (1 : Nat) ≤ (D.l [[D.i (0 : Int), D.i (4 : Int)]]).len) ∧
 (((sndL (2 : Int) (1 : Int) ((0 : Int), (0 : Int)) (prD (Int.toNat (1 : Int)) fun (x : Nat) => ((1 : Int), (0 : Int))) (0 : Int)
 (ofLo (3 : Int) (4 : Int), ofHi (3 : Int) (4 : Int))).fst ==
 ofLo (0 : Int) (1 : Int) &&
 ((sndL (2 : Int) (1 : Int) ((0 : Int), (0 : Int)) (prD (Int.toNat (1 : Int)) fun (x : Nat) => ((1 : Int), (0 : Int))) (0 : Int)
 (ofLo (3 : Int) (4 : Int), ofHi (3 : Int) (4 : Int))).snd ==
 ofHi (0 : Int) (1 : Int) &&
 true)) =
 true ∧
 True →
 ((D.l [[D.i (0 : Int), D.i (4 : Int)]]).sub (0 : Nat) ((0 : Nat) + (1 : Nat))).len ≤ (8796093022208 : Nat)) ∧
 (((sndL (2 : Int) (1 : Int) ((0 : Int), (0 : Int)) (prD (Int.toNat (1 : Int)) fun (x : Nat) => ((1 : Int), (0 : Int))) (0 : Int)
 (ofLo (3 : Int) (4 : Int), ofHi (3 : Int) (4 : Int))).fst ==
 ofLo (0 : Int) (1 : Int) &&
 ((sndL (2 : Int) (1 : Int) ((0 : Int), (0 : Int)) (prD (Int.toNat (1 : Int)) fun (x : Nat) => ((1 : Int), (0 : Int))) (0 : Int)
 (ofLo (3 : Int) (4 : Int), ofHi (3 : Int) (4 : Int))).snd ==
 ofHi (0 : Int) (1 : Int) &&
 true)) =
 true ∧
 True →
 (sndD (1 : Int) (prD (Int.toNat (1 : Int)) fun (x : Nat) => ((1 : Int), (0 : Int))) (0 : Int)
 (ofLo (3 : Int) (4 : Int), ofHi (3 : Int) (4 : Int))).len ≤
 (8796093022208 : Nat)) ∧
 (((sndL (2 : Int) (1 : Int) ((0 : Int), (0 : Int)) (prD (Int.toNat (1 : Int)) fun (x : Nat) => ((1 : Int), (0 : Int))) (0 : Int)
 (ofLo (3 : Int) (4 : Int), ofHi (3 : Int) (4 : Int))).fst ==
 ofLo (0 : Int) (1 : Int) &&
 ((sndL (2 : Int) (1 : Int) ((0 : Int), (0 : Int)) (prD (Int.toNat (1 : Int)) fun (x : Nat) => ((1 : Int), (0 : Int))) (0 : Int)
 (ofLo (3 : Int) (4 : Int), ofHi (3 : Int) (4 : Int))).snd ==
 ofHi (0 : Int) (1 : Int) &&
 true) &&
 hasQ
 (sndL (2 : Int) (1 : Int) ((0 : Int), (0 : Int)) (prD (Int.toNat (1 : Int)) fun (x : Nat) => ((1 : Int), (0 : Int))) (0 : Int)
 (ofLo (3 : Int) (4 : Int), ofHi (3 : Int) (4 : Int))).fst
 (sndL (2 : Int) (1 : Int) ((0 : Int), (0 : Int)) (prD (Int.toNat (1 : Int)) fun (x : Nat) => ((1 : Int), (0 : Int))) (0 : Int)
 (ofLo (3 : Int) (4 : Int), ofHi (3 : Int) (4 : Int))).snd
 (sndD (1 : Int) (prD (Int.toNat (1 : Int)) fun (x : Nat) => ((1 : Int), (0 : Int))) (0 : Int)
 (ofLo (3 : Int) (4 : Int), ofHi (3 : Int) (4 : Int)))
 ((D.l [[D.i (0 : Int), D.i (4 : Int)]]).sub (0 : Nat) ((0 : Nat) + (1 : Nat)))) =
 true ∧
 True →
 (D.l []).len ≤ (8796093022208 : Nat)) ∧
 (((sndL (2 : Int) (1 : Int) ((0 : Int), (0 : Int)) (prD (Int.toNat (1 : Int)) fun (x : Nat) => ((1 : Int), (0 : Int))) (0 : Int)
 (ofLo (3 : Int) (4 : Int), ofHi (3 : Int) (4 : Int))).fst ==
 ofLo (0 : Int) (1 : Int) &&
 ((sndL (2 : Int) (1 : Int) ((0 : Int), (0 : Int)) (prD (Int.toNat (1 : Int)) fun (x : Nat) => ((1 : Int), (0 : Int))) (0 : Int)
 (ofLo (3 : Int) (4 : Int), ofHi (3 : Int) (4 : Int))).snd ==
 ofHi (0 : Int) (1 : Int) &&
 true) &&
 hasQ
 (sndL (2 : Int) (1 : Int) ((0 : Int), (0 : Int)) (prD (Int.toNat (1 : Int)) fun (x : Nat) => ((1 : Int), (0 : Int))) (0 : Int)
 (ofLo (3 : Int) (4 : Int), ofHi (3 : Int) (4 : Int))).fst
 (sndL (2 : Int) (1 : Int) ((0 : Int), (0 : Int)) (prD (Int.toNat (1 : Int)) fun (x : Nat) => ((1 : Int), (0 : Int))) (0 : Int)
 (ofLo (3 : Int) (4 : Int), ofHi (3 : Int) (4 : Int))).snd
 (sndD (1 : Int) (prD (Int.toNat (1 : Int)) fun (x : Nat) => ((1 : Int), (0 : Int))) (0 : Int)
 (ofLo (3 : Int) (4 : Int), ofHi (3 : Int) (4 : Int)))
 ((D.l [[D.i (0 : Int), D.i (4 : Int)]]).sub (0 : Nat) ((0 : Nat) + (1 : Nat)))) =
 true ∧
 True →
 (sndD (1 : Int) (prD (Int.toNat (1 : Int)) fun (x : Nat) => ((1 : Int), (0 : Int))) (0 : Int)
 (ofLo (3 : Int) (4 : Int), ofHi (3 : Int) (4 : Int))).len ≤
 (8796093022208 : Nat)) ∧
 ((sndL (2 : Int) (1 : Int) ((0 : Int), (0 : Int)) (prD (Int.toNat (1 : Int)) fun (x : Nat) => ((1 : Int), (0 : Int))) (0 : Int)
 (ofLo (3 : Int) (4 : Int), ofHi (3 : Int) (4 : Int))).fst ==
 ofLo (0 : Int) (1 : Int) &&
 ((sndL (2 : Int) (1 : Int) ((0 : Int), (0 : Int)) (prD (Int.toNat (1 : Int)) fun (x : Nat) => ((1 : Int), (0 : Int))) (0 : Int)
 (ofLo (3 : Int) (4 : Int), ofHi (3 : Int) (4 : Int))).snd ==
 ofHi (0 : Int) (1 : Int) &&
 true) &&
 hasQ
 (sndL (2 : Int) (1 : Int) ((0 : Int), (0 : Int)) (prD (Int.toNat (1 : Int)) fun (x : Nat) => ((1 : Int), (0 : Int))) (0 : Int)
 (ofLo (3 : Int) (4 : Int), ofHi (3 : Int) (4 : Int))).fst
 (sndL (2 : Int) (1 : Int) ((0 : Int), (0 : Int)) (prD (Int.toNat (1 : Int)) fun (x : Nat) => ((1 : Int), (0 : Int))) (0 : Int)
 (ofLo (3 : Int) (4 : Int), ofHi (3 : Int) (4 : Int))).snd
 (sndD (1 : Int) (prD (Int.toNat (1 : Int)) fun (x : Nat) => ((1 : Int), (0 : Int))) (0 : Int)
 (ofLo (3 : Int) (4 : Int), ofHi (3 : Int) (4 : Int)))
 ((D.l [[D.i (0 : Int), D.i (4 : Int)]]).sub (0 : Nat) ((0 : Nat) + (1 : Nat))) &&
 hasQ
 (sndL (2 : Int) (1 : Int) ((0 : Int), (0 : Int)) (prD (Int.toNat (1 : Int)) fun (x : Nat) => ((1 : Int), (0 : Int))) (0 : Int)
 (ofLo (3 : Int) (4 : Int), ofHi (3 : Int) (4 : Int))).fst
 (sndL (2 : Int) (1 : Int) ((0 : Int), (0 : Int)) (prD (Int.toNat (1 : Int)) fun (x : Nat) => ((1 : Int), (0 : Int))) (0 : Int)
 (ofLo (3 : Int) (4 : Int), ofHi (3 : Int) (4 : Int))).snd
 (sndD (1 : Int) (prD (Int.toNat (1 : Int)) fun (x : Nat) => ((1 : Int), (0 : Int))) (0 : Int)
 (ofLo (3 : Int) (4 : Int), ofHi (3 : Int) (4 : Int)))
 (D.l [])) =
 true ∧
 (((sndL (2 : Int) (1 : Int) ((0 : Int), (0 : Int)) (prD (Int.toNat (1 : Int)) fun (x : Nat) => ((1 : Int), (0 : Int))) (0 : Int)
 (ofLo (3 : Int) (4 : Int), ofHi (3 : Int) (4 : Int))).fst ==
 ofLo (0 : Int) (1 : Int) &&
 ((sndL (2 : Int) (1 : Int) ((0 : Int), (0 : Int)) (prD (Int.toNat (1 : Int)) fun (x : Nat) => ((1 : Int), (0 : Int))) (0 : Int)
 (ofLo (3 : Int) (4 : Int), ofHi (3 : Int) (4 : Int))).snd ==
 ofHi (0 : Int) (1 : Int) &&
 true) &&
 hasQ
 (sndL (2 : Int) (1 : Int) ((0 : Int), (0 : Int)) (prD (Int.toNat (1 : Int)) fun (x : Nat) => ((1 : Int), (0 : Int))) (0 : Int)
 (ofLo (3 : Int) (4 : Int), ofHi (3 : Int) (4 : Int))).fst
 (sndL (2 : Int) (1 : Int) ((0 : Int), (0 : Int)) (prD (Int.toNat (1 : Int)) fun (x : Nat) => ((1 : Int), (0 : Int))) (0 : Int)
 (ofLo (3 : Int) (4 : Int), ofHi (3 : Int) (4 : Int))).snd
 (sndD (1 : Int) (prD (Int.toNat (1 : Int)) fun (x : Nat) => ((1 : Int), (0 : Int))) (0 : Int)
 (ofLo (3 : Int) (4 : Int), ofHi (3 : Int) (4 : Int)))
 ((D.l [[D.i (0 : Int), D.i (4 : Int)]]).sub (0 : Nat) ((0 : Nat) + (1 : Nat))) &&
 hasQ
 (sndL (2 : Int) (1 : Int) ((0 : Int), (0 : Int)) (prD (Int.toNat (1 : Int)) fun (x : Nat) => ((1 : Int), (0 : Int))) (0 : Int)
 (ofLo (3 : Int) (4 : Int), ofHi (3 : Int) (4 : Int))).fst
 (sndL (2 : Int) (1 : Int) ((0 : Int), (0 : Int)) (prD (Int.toNat (1 : Int)) fun (x : Nat) => ((1 : Int), (0 : Int))) (0 : Int)
 (ofLo (3 : Int) (4 : Int), ofHi (3 : Int) (4 : Int))).snd
 (sndD (1 : Int) (prD (Int.toNat (1 : Int)) fun (x : Nat) => ((1 : Int), (0 : Int))) (0 : Int)
 (ofLo (3 : Int) (4 : Int), ofHi (3 : Int) (4 : Int)))
 (D.l [])) =
 true ∧
 True →
 (0 : Nat) + (1 : Nat) ≤ (D.l [[D.i (0 : Int), D.i (5 : Int)]]).len) ∧
 (((sndL (2 : Int) (1 : Int) ((0 : Int), (0 : Int)) (prD (Int.toNat (1 : Int)) fun (x : Nat) => ((1 : Int), (0 : Int))) (0 : Int)
 (ofLo (3 : Int) (4 : Int), ofHi (3 : Int) (4 : Int))).fst ==
 ofLo (0 : Int) (1 : Int) &&
 ((sndL (2 : Int) (1 : Int) ((0 : Int), (0 : Int)) (prD (Int.toNat (1 : Int)) fun (x : Nat) => ((1 : Int), (0 : Int)))
 (0 : Int) (ofLo (3 : Int) (4 : Int), ofHi (3 : Int) (4 : Int))).snd ==
 ofHi (0 : Int) (1 : Int) &&
 true) &&
 hasQ
 (sndL (2 : Int) (1 : Int) ((0 : Int), (0 : Int)) (prD (Int.toNat (1 : Int)) fun (x : Nat) => ((1 : Int), (0 : Int))) (0 : Int)
 (ofLo (3 : Int) (4 : Int), ofHi (3 : Int) (4 : Int))).fst
 (sndL (2 : Int) (1 : Int) ((0 : Int), (0 : Int)) (prD (Int.toNat (1 : Int)) fun (x : Nat) => ((1 : Int), (0 : Int))) (0 : Int)
 (ofLo (3 : Int) (4 : Int), ofHi (3 : Int) (4 : Int))).snd
 (sndD (1 : Int) (prD (Int.toNat (1 : Int)) fun (x : Nat) => ((1 : Int), (0 : Int))) (0 : Int)
 (ofLo (3 : Int) (4 : Int), ofHi (3 : Int) (4 : Int)))
 ((D.l [[D.i (0 : Int), D.i (4 : Int)]]).sub (0 : Nat) ((0 : Nat) + (1 : Nat))) &&
 hasQ
 (sndL (2 : Int) (1 : Int) ((0 : Int), (0 : Int)) (prD (Int.toNat (1 : Int)) fun (x : Nat) => ((1 : Int), (0 : Int))) (0 : Int)
 (ofLo (3 : Int) (4 : Int), ofHi (3 : Int) (4 : Int))).fst
 (sndL (2 : Int) (1 : Int) ((0 : Int), (0 : Int)) (prD (Int.toNat (1 : Int)) fun (x : Nat) => ((1 : Int), (0 : Int))) (0 : Int)
 (ofLo (3 : Int) (4 : Int), ofHi (3 : Int) (4 : Int))).snd
 (sndD (1 : Int) (prD (Int.toNat (1 : Int)) fun (x : Nat) => ((1 : Int), (0 : Int))) (0 : Int)
 (ofLo (3 : Int) (4 : Int), ofHi (3 : Int) (4 : Int)))
 (D.l [])) =
 true ∧
 True →
 ((D.l [[D.i (0 : Int), D.i (5 : Int)]]).sub (0 : Nat) ((0 : Nat) + (1 : Nat))).len ≤ (8796093022208 : Nat)) ∧
 (((sndL (2 : Int) (1 : Int) ((0 : Int), (0 : Int)) (prD (Int.toNat (1 : Int)) fun (x : Nat) => ((1 : Int), (0 : Int))) (0 : Int)
 (ofLo (3 : Int) (4 : Int), ofHi (3 : Int) (4 : Int))).fst ==
 ofLo (0 : Int) (1 : Int) &&
 ((sndL (2 : Int) (1 : Int) ((0 : Int), (0 : Int)) (prD (Int.toNat (1 : Int)) fun (x : Nat) => ((1 : Int), (0 : Int)))
 (0 : Int) (ofLo (3 : Int) (4 : Int), ofHi (3 : Int) (4 : Int))).snd ==
 ofHi (0 : Int) (1 : Int) &&
 true) &&
 hasQ
 (sndL (2 : Int) (1 : Int) ((0 : Int), (0 : Int)) (prD (Int.toNat (1 : Int)) fun (x : Nat) => ((1 : Int), (0 : Int)))
 (0 : Int) (ofLo (3 : Int) (4 : Int), ofHi (3 : Int) (4 : Int))).fst
 (sndL (2 : Int) (1 : Int) ((0 : Int), (0 : Int)) (prD (Int.toNat (1 : Int)) fun (x : Nat) => ((1 : Int), (0 : Int)))
 (0 : Int) (ofLo (3 : Int) (4 : Int), ofHi (3 : Int) (4 : Int))).snd
 (sndD (1 : Int) (prD (Int.toNat (1 : Int)) fun (x : Nat) => ((1 : Int), (0 : Int))) (0 : Int)
 (ofLo (3 : Int) (4 : Int), ofHi (3 : Int) (4 : Int)))
 ((D.l [[D.i (0 : Int), D.i (4 : Int)]]).sub (0 : Nat) ((0 : Nat) + (1 : Nat))) &&
 hasQ
 (sndL (2 : Int) (1 : Int) ((0 : Int), (0 : Int)) (prD (Int.toNat (1 : Int)) fun (x : Nat) => ((1 : Int), (0 : Int))) (0 : Int)
 (ofLo (3 : Int) (4 : Int), ofHi (3 : Int) (4 : Int))).fst
 (sndL (2 : Int) (1 : Int) ((0 : Int), (0 : Int)) (prD (Int.toNat (1 : Int)) fun (x : Nat) => ((1 : Int), (0 : Int))) (0 : Int)
 (ofLo (3 : Int) (4 : Int), ofHi (3 : Int) (4 : Int))).snd
 (sndD (1 : Int) (prD (Int.toNat (1 : Int)) fun (x : Nat) => ((1 : Int), (0 : Int))) (0 : Int)
 (ofLo (3 : Int) (4 : Int), ofHi (3 : Int) (4 : Int)))
 (D.l [])) =
 true ∧
 True →
 (sndD (1 : Int) (prD (Int.toNat (1 : Int)) fun (x : Nat) => ((1 : Int), (0 : Int))) (0 : Int)
 (ofLo (3 : Int) (4 : Int), ofHi (3 : Int) (4 : Int))).len ≤
 (8796093022208 : Nat)) ∧
 (((sndL (2 : Int) (1 : Int) ((0 : Int), (0 : Int)) (prD (Int.toNat (1 : Int)) fun (x : Nat) => ((1 : Int), (0 : Int))) (0 : Int)
 (ofLo (3 : Int) (4 : Int), ofHi (3 : Int) (4 : Int))).fst ==
 ofLo (0 : Int) (1 : Int) &&
 ((sndL (2 : Int) (1 : Int) ((0 : Int), (0 : Int)) (prD (Int.toNat (1 : Int)) fun (x : Nat) => ((1 : Int), (0 : Int)))
 (0 : Int) (ofLo (3 : Int) (4 : Int), ofHi (3 : Int) (4 : Int))).snd ==
 ofHi (0 : Int) (1 : Int) &&
 true) &&
 hasQ
 (sndL (2 : Int) (1 : Int) ((0 : Int), (0 : Int)) (prD (Int.toNat (1 : Int)) fun (x : Nat) => ((1 : Int), (0 : Int)))
 (0 : Int) (ofLo (3 : Int) (4 : Int), ofHi (3 : Int) (4 : Int))).fst
 (sndL (2 : Int) (1 : Int) ((0 : Int), (0 : Int)) (prD (Int.toNat (1 : Int)) fun (x : Nat) => ((1 : Int), (0 : Int)))
 (0 : Int) (ofLo (3 : Int) (4 : Int), ofHi (3 : Int) (4 : Int))).snd
 (sndD (1 : Int) (prD (Int.toNat (1 : Int)) fun (x : Nat) => ((1 : Int), (0 : Int))) (0 : Int)
 (ofLo (3 : Int) (4 : Int), ofHi (3 : Int) (4 : Int)))
 ((D.l [[D.i (0 : Int), D.i (4 : Int)]]).sub (0 : Nat) ((0 : Nat) + (1 : Nat))) &&
 hasQ
 (sndL (2 : Int) (1 : Int) ((0 : Int), (0 : Int)) (prD (Int.toNat (1 : Int)) fun (x : Nat) => ((1 : Int), (0 : Int)))
 (0 : Int) (ofLo (3 : Int) (4 : Int), ofHi (3 : Int) (4 : Int))).fst
 (sndL (2 : Int) (1 : Int) ((0 : Int), (0 : Int)) (prD (Int.toNat (1 : Int)) fun (x : Nat) => ((1 : Int), (0 : Int)))
 (0 : Int) (ofLo (3 : Int) (4 : Int), ofHi (3 : Int) (4 : Int))).snd
 (sndD (1 : Int) (prD (Int.toNat (1 : Int)) fun (x : Nat) => ((1 : Int), (0 : Int))) (0 : Int)
 (ofLo (3 : Int) (4 : Int), ofHi (3 : Int) (4 : Int)))
 (D.l []) &&
 !hasQ
 (sndL (2 : Int) (1 : Int) ((0 : Int), (0 : Int)) (prD (Int.toNat (1 : Int)) fun (x : Nat) => ((1 : Int), (0 : Int)))
 (0 : Int) (ofLo (3 : Int) (4 : Int), ofHi (3 : Int) (4 : Int))).fst
 (sndL (2 : Int) (1 : Int) ((0 : Int), (0 : Int)) (prD (Int.toNat (1 : Int)) fun (x : Nat) => ((1 : Int), (0 : Int)))
 (0 : Int) (ofLo (3 : Int) (4 : Int), ofHi (3 : Int) (4 : Int))).snd
 (sndD (1 : Int) (prD (Int.toNat (1 : Int)) fun (x : Nat) => ((1 : Int), (0 : Int))) (0 : Int)
 (ofLo (3 : Int) (4 : Int), ofHi (3 : Int) (4 : Int)))
 ((D.l [[D.i (0 : Int), D.i (5 : Int)]]).sub (0 : Nat) ((0 : Nat) + (1 : Nat)))) =
 true ∧
 True →
 (sndD (1 : Int) (prD (Int.toNat (1 : Int)) fun (x : Nat) => ((1 : Int), (0 : Int))) (0 : Int)
 (ofLo (3 : Int) (4 : Int), ofHi (3 : Int) (4 : Int))).len ≤
 (8796093022208 : Nat)) ∧
 ((sndL (2 : Int) (1 : Int) ((0 : Int), (0 : Int)) (prD (Int.toNat (1 : Int)) fun (x : Nat) => ((1 : Int), (0 : Int))) (0 : Int)
 (ofLo (3 : Int) (4 : Int), ofHi (3 : Int) (4 : Int))).fst ==
 ofLo (0 : Int) (1 : Int) &&
 ((sndL (2 : Int) (1 : Int) ((0 : Int), (0 : Int)) (prD (Int.toNat (1 : Int)) fun (x : Nat) => ((1 : Int), (0 : Int)))
 (0 : Int) (ofLo (3 : Int) (4 : Int), ofHi (3 : Int) (4 : Int))).snd ==
 ofHi (0 : Int) (1 : Int) &&
 true) &&
 hasQ
 (sndL (2 : Int) (1 : Int) ((0 : Int), (0 : Int)) (prD (Int.toNat (1 : Int)) fun (x : Nat) => ((1 : Int), (0 : Int)))
 (0 : Int) (ofLo (3 : Int) (4 : Int), ofHi (3 : Int) (4 : Int))).fst
 (sndL (2 : Int) (1 : Int) ((0 : Int), (0 : Int)) (prD (Int.toNat (1 : Int)) fun (x : Nat) => ((1 : Int), (0 : Int)))
 (0 : Int) (ofLo (3 : Int) (4 : Int), ofHi (3 : Int) (4 : Int))).snd
 (sndD (1 : Int) (prD (Int.toNat (1 : Int)) fun (x : Nat) => ((1 : Int), (0 : Int))) (0 : Int)
 (ofLo (3 : Int) (4 : Int), ofHi (3 : Int) (4 : Int)))
 ((D.l [[D.i (0 : Int), D.i (4 : Int)]]).sub (0 : Nat) ((0 : Nat) + (1 : Nat))) &&
 hasQ
 (sndL (2 : Int) (1 : Int) ((0 : Int), (0 : Int)) (prD (Int.toNat (1 : Int)) fun (x : Nat) => ((1 : Int), (0 : Int)))
 (0 : Int) (ofLo (3 : Int) (4 : Int), ofHi (3 : Int) (4 : Int))).fst
 (sndL (2 : Int) (1 : Int) ((0 : Int), (0 : Int)) (prD (Int.toNat (1 : Int)) fun (x : Nat) => ((1 : Int), (0 : Int)))
 (0 : Int) (ofLo (3 : Int) (4 : Int), ofHi (3 : Int) (4 : Int))).snd
 (sndD (1 : Int) (prD (Int.toNat (1 : Int)) fun (x : Nat) => ((1 : Int), (0 : Int))) (0 : Int)
 (ofLo (3 : Int) (4 : Int), ofHi (3 : Int) (4 : Int)))
 (D.l []) &&
 !hasQ
 (sndL (2 : Int) (1 : Int) ((0 : Int), (0 : Int)) (prD (Int.toNat (1 : Int)) fun (x : Nat) => ((1 : Int), (0 : Int)))
 (0 : Int) (ofLo (3 : Int) (4 : Int), ofHi (3 : Int) (4 : Int))).fst
 (sndL (2 : Int) (1 : Int) ((0 : Int), (0 : Int)) (prD (Int.toNat (1 : Int)) fun (x : Nat) => ((1 : Int), (0 : Int)))
 (0 : Int) (ofLo (3 : Int) (4 : Int), ofHi (3 : Int) (4 : Int))).snd
 (sndD (1 : Int) (prD (Int.toNat (1 : Int)) fun (x : Nat) => ((1 : Int), (0 : Int))) (0 : Int)
 (ofLo (3 : Int) (4 : Int), ofHi (3 : Int) (4 : Int)))
 ((D.l [[D.i (0 : Int), D.i (5 : Int)]]).sub (0 : Nat) ((0 : Nat) + (1 : Nat))) &&
 (↑(tgD
 (sndD (1 : Int) (prD (Int.toNat (1 : Int)) fun (x : Nat) => ((1 : Int), (0 : Int))) (0 : Int)
 (ofLo (3 : Int) (4 : Int), ofHi (3 : Int) (4 : Int)))
 (sndD (1 : Int) (prD (Int.toNat (1 : Int)) fun (x : Nat) => ((1 : Int), (0 : Int))) (0 : Int)
 (ofLo (3 : Int) (4 : Int), ofHi (3 : Int) (4 : Int))).len).len :
 Int) ==
 (1 : Int)) =
 true) (by kernel_rfl) ?_
    have eL : sndL 2 1 (0, 0) (prD (Int.toNat 1) fun _ => (1, 0)) 0 (ofLo 3 4, ofHi 3 4) = (0, 1) := by rfl
    have eD : sndD 1 (prD (Int.toNat 1) fun _ => (1, 0)) 0 (ofLo 3 4, ofHi 3 4) = .l [[.i 3, .i 4]] := by rfl
    simp only [eL, eD]
    (repeat' first | apply And.intro | intro _) <;> first | trivial | rfl | decide
  · trivial
end Go.Proofs.Ytbcbcambkjhhhaa.Sx.Z
