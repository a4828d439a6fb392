/-
  Comparisons: step's Holds, the reference's, and Not.; check's small tests: a place, a variable, nothing, of an expression and of a statement.; check's tests of what is nothing: blocks of memory that are kept over calls.; check's test of a list of statements, each of which is right; of a process; of a system without channels.; Rows of edges in memory: what is kept where something grows; what the seat's types are.; conf's copies of lists: of one number, of none, of one list, of no lists.; check's expressions as trees, what it is for a value to be such a tree in memory, and the number, or the error, of one.
-/
import Derived.Test.YtdagadcflignfaaB21
import Derived.Test.YtdagadcflignfaaChecked
import Derived.WalkKit
import Derived.ProofKit
import Derived.Below
import Derived.Handy
import Derived.Lib.Hide
import Derived.IntWalk
import Derived.Deep.WholeRow
import Derived.Great.BuildSlice
import Derived.Deep.Cut
import Derived.Deep.MidRow
import Derived.Deep.AppendLies
import Derived.Deep.RegionLaw
import Derived.Deep.QuietTactic
import Derived.BigQuiet
import Derived.RegionTactic
import Derived.StillTailTactics
import Derived.Great.Walk
import Derived.Maps.AppendAt
namespace Go.Proofs.Ytdagadcflignfaa.Sx.Z
open Go.RowKit
def hdP (op : Int) (r s : Int × Int) : Bool × Int := if r.2 ≠ 0 then (false, r.2) else if s.2 ≠ 0 then (false, s.2) else (if op = 1 then r.1 == s.1 else if op = 2 then r.1 != s.1 else if op = 3 then decide (r.1 < s.1) else if op = 4 then decide (r.1 ≤ s.1) else if op = 5 then decide (r.1 > s.1) else if op = 6 then decide (r.1 ≥ s.1) else false, 0)
def notP (op : Int) : Int := if op = 1 then 2 else if op = 2 then 1 else if op = 3 then 6 else if op = 6 then 3 else if op = 4 then 5 else if op = 5 then 4 else 0
theorem not_hd {op : Int} (h : 1 ≤ op ∧ op < 7) (r s : Int × Int) : (hdP op r s).2 = 0 → (hdP (notP op) r s).1 = !(hdP op r s).1 := by
  unfold hdP
  by_cases hr : r.2 ≠ 0
  · simp only [if_pos hr]; exact fun h => absurd h hr
  · simp only [if_neg hr]
    by_cases hs : s.2 ≠ 0
    · simp only [if_pos hs]; exact fun h => absurd h hs
    · simp only [if_neg hs]
      refine fun _ => ?_
      generalize r.1 = a
      generalize s.1 = b
      have : op = 1 ∨ op = 2 ∨ op = 3 ∨ op = 4 ∨ op = 5 ∨ op = 6 := by omega
      rcases this with rfl | rfl | rfl | rfl | rfl | rfl <;> simp [notP, bne] <;> (rw [Bool.eq_iff_iff]; simp) <;> omega
noncomputable def both2S : FSpec := fun ds _ => match ds with
  | [.i k, .i n, .i v, .d d, .i k2, .i n2, .i v2, .d d2, .d g] => some { val := .tup [.sc (.int .i64 (.sym (if (bthP (evT (vD g) (ex k n v d)) (evT (vD g) (ex k2 n2 v2 d2))) = 0 then (evT (vD g) (ex k n v d)).1 else 0))), .sc (.int .i64 (.sym (if (bthP (evT (vD g) (ex k n v d)) (evT (vD g) (ex k2 n2 v2 d2))) = 0 then (evT (vD g) (ex k2 n2 v2 d2)).1 else 0))), .sc (.int .i64 (.sym (bthP (evT (vD g) (ex k n v d)) (evT (vD g) (ex k2 n2 v2 d2)))))], vc := [Tm g.len (ex k n v d), Tm g.len (ex k2 n2 v2 d2), InV g.len (vD g)] }
  | _ => none
noncomputable def both2C : Con := con [xpA, xpA, .sc (.rows 3)] both2S
theorem both2_ok : ConOK Try.prog 46 both2C := by
  refine fn_ob tt_ok mixed Try.func46 rfl (fun _ _ => by kernel_rfl) (A := fun ds => ⟨fun _ => Cons.of [(15, sevC)], fun _ => none, fun _ => none⟩) (fun _ _ => (cons_cons sev_ok cons_nil)) (by kernel_rfl) ?_
  intro ds fr
  unfold both2S
  split
  · rename_i k n v d k2 n2 v2 d2 g
    refine kmp (q := Tm (↑g.len : Int) (ex k n v d) →
 Tm (↑g.len : Int) (ex k2 n2 v2 d2) →
 InV (↑g.len : Int) (vD g) →
 Tm (↑g.len : Int) (ex k n v d) ∧
 InV (↑g.len : Int) (vD g) ∧
 (((evT (vD g) (ex k n v d)).snd != (0 : Int)) = true →
 ((0 : Int) = if bthP (evT (vD g) (ex k n v d)) (evT (vD g) (ex k2 n2 v2 d2)) = (0 : Int) then (evT (vD g) (ex k n v d)).fst else (0 : Int)) ∧
 ((0 : Int) =
 if bthP (evT (vD g) (ex k n v d)) (evT (vD g) (ex k2 n2 v2 d2)) = (0 : Int) then (evT (vD g) (ex k2 n2 v2 d2)).fst else (0 : Int)) ∧
 (evT (vD g) (ex k n v d)).snd = bthP (evT (vD g) (ex k n v d)) (evT (vD g) (ex k2 n2 v2 d2))) ∧
 (((evT (vD g) (ex k n v d)).snd != (0 : Int)) = false →
 Tm (↑g.len : Int) (ex k2 n2 v2 d2) ∧
 InV (↑g.len : Int) (vD g) ∧
 (((evT (vD g) (ex k2 n2 v2 d2)).snd != (0 : Int)) = true →
 ((0 : Int) =
 if bthP (evT (vD g) (ex k n v d)) (evT (vD g) (ex k2 n2 v2 d2)) = (0 : Int) then (evT (vD g) (ex k n v d)).fst else (0 : Int)) ∧
 ((0 : Int) =
 if bthP (evT (vD g) (ex k n v d)) (evT (vD g) (ex k2 n2 v2 d2)) = (0 : Int) then (evT (vD g) (ex k2 n2 v2 d2)).fst else (0 : Int)) ∧
 (evT (vD g) (ex k2 n2 v2 d2)).snd = bthP (evT (vD g) (ex k n v d)) (evT (vD g) (ex k2 n2 v2 d2))) ∧
 (((evT (vD g) (ex k2 n2 v2 d2)).snd != (0 : Int)) = false →
 ((evT (vD g) (ex k n v d)).fst =
 if bthP (evT (vD g) (ex k n v d)) (evT (vD g) (ex k2 n2 v2 d2)) = (0 : Int) then (evT (vD g) (ex k n v d)).fst else (0 : Int)) ∧
 ((evT (vD g) (ex k2 n2 v2 d2)).fst =
 if bthP (evT (vD g) (ex k n v d)) (evT (vD g) (ex k2 n2 v2 d2)) = (0 : Int) then (evT (vD g) (ex k2 n2 v2 d2)).fst else (0 : Int)) ∧
 (0 : Int) = bthP (evT (vD g) (ex k n v d)) (evT (vD g) (ex k2 n2 v2 d2))))) (by kernel_rfl) ?_
    intro hT hT2 hg
    have ra := ev_in hg hT
    have rb := ev_in hg hT2
    generalize evT (vD g) (ex k n v d) = r at *
    generalize evT (vD g) (ex k2 n2 v2 d2) = s at *
    refine ⟨hT, hg, fun e => ?_, fun e => ⟨hT2, hg, fun f => ?_, fun f => ?_⟩⟩
    · have e : r.2 ≠ 0 := by simpa using e
      have b : bthP r s = r.2 := if_pos e
      rw [b, if_neg e, if_neg e]; exact ⟨rfl, rfl, rfl⟩
    · have e : r.2 = 0 := by simpa using e
      have f : s.2 ≠ 0 := by simpa using f
      have b : bthP r s = s.2 := if_neg (by omega)
      rw [b, if_neg f, if_neg f]; exact ⟨rfl, rfl, rfl⟩
    · have e : r.2 = 0 := by simpa using e
      have f : s.2 = 0 := by simpa using f
      have b : bthP r s = 0 := (if_neg (by omega)).trans f
      rw [b, if_pos rfl, if_pos rfl]; exact ⟨rfl, rfl, rfl⟩
  · trivial
noncomputable def holdsS : FSpec := fun ds _ => match ds with
  | [.i op, .i k, .i n, .i v, .d d, .i k2, .i n2, .i v2, .d d2, .d g] => some { val := .tup [.sc (.bool (.sym (hdP op (evT (vD g) (ex k n v d)) (evT (vD g) (ex k2 n2 v2 d2))).1)), .sc (.int .i64 (.sym (hdP op (evT (vD g) (ex k n v d)) (evT (vD g) (ex k2 n2 v2 d2))).2))], vc := [Tm g.len (ex k n v d), Tm g.len (ex k2 n2 v2 d2), InV g.len (vD g)] }
  | _ => none
noncomputable def holdsC : Con := con [.agg [.c (.int .i64), .c (.int .i64), .c (.int .i64), .c (.int .i64), .c (.rows 25), .c (.int .i64), .c (.int .i64), .c (.int .i64), .c (.rows 25)], .sc (.rows 3)] holdsS
theorem holds_ok : ConOK Try.prog 19 holdsC := by
  refine fn_ob tt_ok mixed Try.func19 rfl (fun _ _ => by kernel_rfl) (A := fun ds => ⟨fun _ => Cons.of [(46, both2C)], fun _ => none, fun _ => none⟩) (fun _ _ => (cons_cons both2_ok cons_nil)) (by kernel_rfl) ?_
  intro ds fr
  unfold holdsS
  split
  · rename_i op k n v d k2 n2 v2 d2 g
    refine kmp (q := Tm (↑g.len : Int) (ex k n v d) →
 Tm (↑g.len : Int) (ex k2 n2 v2 d2) →
 InV (↑g.len : Int) (vD g) →
 Tm (↑g.len : Int) (ex k n v d) ∧
 Tm (↑g.len : Int) (ex k2 n2 v2 d2) ∧
 InV (↑g.len : Int) (vD g) ∧
 ((bthP (evT (vD g) (ex k n v d)) (evT (vD g) (ex k2 n2 v2 d2)) != (0 : Int)) = true →
 false = (hdP op (evT (vD g) (ex k n v d)) (evT (vD g) (ex k2 n2 v2 d2))).fst ∧
 bthP (evT (vD g) (ex k n v d)) (evT (vD g) (ex k2 n2 v2 d2)) = (hdP op (evT (vD g) (ex k n v d)) (evT (vD g) (ex k2 n2 v2 d2))).snd) ∧
 ((bthP (evT (vD g) (ex k n v d)) (evT (vD g) (ex k2 n2 v2 d2)) != (0 : Int)) = false →
 ((op == (1 : Int)) = true →
 ((if bthP (evT (vD g) (ex k n v d)) (evT (vD g) (ex k2 n2 v2 d2)) = (0 : Int) then (evT (vD g) (ex k n v d)).fst else (0 : Int)) ==
 if bthP (evT (vD g) (ex k n v d)) (evT (vD g) (ex k2 n2 v2 d2)) = (0 : Int) then (evT (vD g) (ex k2 n2 v2 d2)).fst else (0 : Int)) =
 (hdP op (evT (vD g) (ex k n v d)) (evT (vD g) (ex k2 n2 v2 d2))).fst ∧
 (0 : Int) = (hdP op (evT (vD g) (ex k n v d)) (evT (vD g) (ex k2 n2 v2 d2))).snd) ∧
 ((op == (1 : Int)) = false →
 ((op == (2 : Int)) = true →
 ((if bthP (evT (vD g) (ex k n v d)) (evT (vD g) (ex k2 n2 v2 d2)) = (0 : Int) then (evT (vD g) (ex k n v d)).fst else (0 : Int)) !=
 if bthP (evT (vD g) (ex k n v d)) (evT (vD g) (ex k2 n2 v2 d2)) = (0 : Int) then (evT (vD g) (ex k2 n2 v2 d2)).fst
 else (0 : Int)) =
 (hdP op (evT (vD g) (ex k n v d)) (evT (vD g) (ex k2 n2 v2 d2))).fst ∧
 (0 : Int) = (hdP op (evT (vD g) (ex k n v d)) (evT (vD g) (ex k2 n2 v2 d2))).snd) ∧
 ((op == (2 : Int)) = false →
 ((op == (3 : Int)) = true →
 decide
 ((if bthP (evT (vD g) (ex k n v d)) (evT (vD g) (ex k2 n2 v2 d2)) = (0 : Int) then (evT (vD g) (ex k n v d)).fst
 else (0 : Int)) <
 if bthP (evT (vD g) (ex k n v d)) (evT (vD g) (ex k2 n2 v2 d2)) = (0 : Int) then (evT (vD g) (ex k2 n2 v2 d2)).fst
 else (0 : Int)) =
 (hdP op (evT (vD g) (ex k n v d)) (evT (vD g) (ex k2 n2 v2 d2))).fst ∧
 (0 : Int) = (hdP op (evT (vD g) (ex k n v d)) (evT (vD g) (ex k2 n2 v2 d2))).snd) ∧
 ((op == (3 : Int)) = false →
 ((op == (4 : Int)) = true →
 decide
 ((if bthP (evT (vD g) (ex k n v d)) (evT (vD g) (ex k2 n2 v2 d2)) = (0 : Int) then (evT (vD g) (ex k n v d)).fst
 else (0 : Int)) ≤
 if bthP (evT (vD g) (ex k n v d)) (evT (vD g) (ex k2 n2 v2 d2)) = (0 : Int) then (evT (vD g) (ex k2 n2 v2 d2)).fst
 else (0 : Int)) =
 (hdP op (evT (vD g) (ex k n v d)) (evT (vD g) (ex k2 n2 v2 d2))).fst ∧
 (0 : Int) = (hdP op (evT (vD g) (ex k n v d)) (evT (vD g) (ex k2 n2 v2 d2))).snd) ∧
 ((op == (4 : Int)) = false →
 ((op == (5 : Int)) = true →
 decide
 ((if bthP (evT (vD g) (ex k n v d)) (evT (vD g) (ex k2 n2 v2 d2)) = (0 : Int) then (evT (vD g) (ex k n v d)).fst
 else (0 : Int)) >
 if bthP (evT (vD g) (ex k n v d)) (evT (vD g) (ex k2 n2 v2 d2)) = (0 : Int) then (evT (vD g) (ex k2 n2 v2 d2)).fst
 else (0 : Int)) =
 (hdP op (evT (vD g) (ex k n v d)) (evT (vD g) (ex k2 n2 v2 d2))).fst ∧
 (0 : Int) = (hdP op (evT (vD g) (ex k n v d)) (evT (vD g) (ex k2 n2 v2 d2))).snd) ∧
 ((op == (5 : Int)) = false →
 ((op == (6 : Int)) = true →
 decide
 ((if bthP (evT (vD g) (ex k n v d)) (evT (vD g) (ex k2 n2 v2 d2)) = (0 : Int) then (evT (vD g) (ex k n v d)).fst
 else (0 : Int)) ≥
 if bthP (evT (vD g) (ex k n v d)) (evT (vD g) (ex k2 n2 v2 d2)) = (0 : Int) then
 (evT (vD g) (ex k2 n2 v2 d2)).fst
 else (0 : Int)) =
 (hdP op (evT (vD g) (ex k n v d)) (evT (vD g) (ex k2 n2 v2 d2))).fst ∧
 (0 : Int) = (hdP op (evT (vD g) (ex k n v d)) (evT (vD g) (ex k2 n2 v2 d2))).snd) ∧
 ((op == (6 : Int)) = false →
 false = (hdP op (evT (vD g) (ex k n v d)) (evT (vD g) (ex k2 n2 v2 d2))).fst ∧
 (0 : Int) = (hdP op (evT (vD g) (ex k n v d)) (evT (vD g) (ex k2 n2 v2 d2))).snd)))))))) (by kernel_rfl) ?_
    intro hT hT2 hg
    have ra := ev_in hg hT
    have rb := ev_in hg hT2
    generalize evT (vD g) (ex k n v d) = r at *
    generalize evT (vD g) (ex k2 n2 v2 d2) = s at *
    refine ⟨hT, hT2, hg, fun e => ?_, fun e => ?_⟩
    · have e : bthP r s ≠ 0 := by simpa using e
      unfold hdP
      by_cases q : r.2 ≠ 0
      · rw [if_pos q]; exact ⟨rfl, if_pos q⟩
      · have b : bthP r s = s.2 := if_neg q
        rw [if_neg q, if_pos (by omega)]; exact ⟨rfl, b⟩
    · have e : bthP r s = 0 := by simpa using e
      have r0 : ¬ r.2 ≠ 0 := by
        intro q
        have b : bthP r s = r.2 := if_pos q
        omega
      have s0 : ¬ s.2 ≠ 0 := by
        have b : bthP r s = s.2 := if_neg r0
        omega
      unfold hdP
      simp only [if_pos e, if_neg r0, if_neg s0]
      grind
  · trivial
noncomputable def rholdsS : FSpec := fun ds _ => match ds with
  | [.i op, .i k, .i n, .i v, .d d, .i k2, .i n2, .i v2, .d d2, .d g] => some { val := .tup [.sc (.bool (.sym (hdP op (evT (vD g) (ex k n v d)) (evT (vD g) (ex k2 n2 v2 d2))).1)), .sc (.int .i64 (.sym (hdP op (evT (vD g) (ex k n v d)) (evT (vD g) (ex k2 n2 v2 d2))).2))], vc := [Tm g.len (ex k n v d), Tm g.len (ex k2 n2 v2 d2), InV g.len (vD g)] }
  | _ => none
noncomputable def rholdsC : Con := con [.agg [.c (.int .i64), .c (.int .i64), .c (.int .i64), .c (.int .i64), .c (.rows 64), .c (.int .i64), .c (.int .i64), .c (.int .i64), .c (.rows 64)], .sc (.rows 3)] rholdsS
theorem rholds_ok : ConOK Try.prog 20 rholdsC := by
  refine fn_ob tt_ok mixed Try.func20 rfl (fun _ _ => by kernel_rfl) (A := fun ds => ⟨fun _ => Cons.of [(17, revC)], fun _ => none, fun _ => none⟩) (fun _ _ => (cons_cons rev_ok cons_nil)) (by kernel_rfl) ?_
  intro ds fr
  unfold rholdsS
  split
  · rename_i op k n v d k2 n2 v2 d2 g
    refine kmp (q := Tm (↑g.len : Int) (ex k n v d) →
 Tm (↑g.len : Int) (ex k2 n2 v2 d2) →
 InV (↑g.len : Int) (vD g) →
 Tm (↑g.len : Int) (ex k n v d) ∧
 InV (↑g.len : Int) (vD g) ∧
 (((evT (vD g) (ex k n v d)).snd != (0 : Int)) = true →
 false = (hdP op (evT (vD g) (ex k n v d)) (evT (vD g) (ex k2 n2 v2 d2))).fst ∧
 (evT (vD g) (ex k n v d)).snd = (hdP op (evT (vD g) (ex k n v d)) (evT (vD g) (ex k2 n2 v2 d2))).snd) ∧
 (((evT (vD g) (ex k n v d)).snd != (0 : Int)) = false →
 Tm (↑g.len : Int) (ex k2 n2 v2 d2) ∧
 InV (↑g.len : Int) (vD g) ∧
 (((evT (vD g) (ex k2 n2 v2 d2)).snd != (0 : Int)) = true →
 false = (hdP op (evT (vD g) (ex k n v d)) (evT (vD g) (ex k2 n2 v2 d2))).fst ∧
 (evT (vD g) (ex k2 n2 v2 d2)).snd = (hdP op (evT (vD g) (ex k n v d)) (evT (vD g) (ex k2 n2 v2 d2))).snd) ∧
 (((evT (vD g) (ex k2 n2 v2 d2)).snd != (0 : Int)) = false →
 ((op == (1 : Int)) = true →
 ((evT (vD g) (ex k n v d)).fst == (evT (vD g) (ex k2 n2 v2 d2)).fst) =
 (hdP op (evT (vD g) (ex k n v d)) (evT (vD g) (ex k2 n2 v2 d2))).fst ∧
 (0 : Int) = (hdP op (evT (vD g) (ex k n v d)) (evT (vD g) (ex k2 n2 v2 d2))).snd) ∧
 ((op == (1 : Int)) = false →
 ((op == (2 : Int)) = true →
 ((evT (vD g) (ex k n v d)).fst != (evT (vD g) (ex k2 n2 v2 d2)).fst) =
 (hdP op (evT (vD g) (ex k n v d)) (evT (vD g) (ex k2 n2 v2 d2))).fst ∧
 (0 : Int) = (hdP op (evT (vD g) (ex k n v d)) (evT (vD g) (ex k2 n2 v2 d2))).snd) ∧
 ((op == (2 : Int)) = false →
 ((op == (3 : Int)) = true →
 decide ((evT (vD g) (ex k n v d)).fst < (evT (vD g) (ex k2 n2 v2 d2)).fst) =
 (hdP op (evT (vD g) (ex k n v d)) (evT (vD g) (ex k2 n2 v2 d2))).fst ∧
 (0 : Int) = (hdP op (evT (vD g) (ex k n v d)) (evT (vD g) (ex k2 n2 v2 d2))).snd) ∧
 ((op == (3 : Int)) = false →
 ((op == (4 : Int)) = true →
 decide ((evT (vD g) (ex k n v d)).fst ≤ (evT (vD g) (ex k2 n2 v2 d2)).fst) =
 (hdP op (evT (vD g) (ex k n v d)) (evT (vD g) (ex k2 n2 v2 d2))).fst ∧
 (0 : Int) = (hdP op (evT (vD g) (ex k n v d)) (evT (vD g) (ex k2 n2 v2 d2))).snd) ∧
 ((op == (4 : Int)) = false →
 ((op == (5 : Int)) = true →
 decide ((evT (vD g) (ex k n v d)).fst > (evT (vD g) (ex k2 n2 v2 d2)).fst) =
 (hdP op (evT (vD g) (ex k n v d)) (evT (vD g) (ex k2 n2 v2 d2))).fst ∧
 (0 : Int) = (hdP op (evT (vD g) (ex k n v d)) (evT (vD g) (ex k2 n2 v2 d2))).snd) ∧
 ((op == (5 : Int)) = false →
 ((op == (6 : Int)) = true →
 decide ((evT (vD g) (ex k n v d)).fst ≥ (evT (vD g) (ex k2 n2 v2 d2)).fst) =
 (hdP op (evT (vD g) (ex k n v d)) (evT (vD g) (ex k2 n2 v2 d2))).fst ∧
 (0 : Int) = (hdP op (evT (vD g) (ex k n v d)) (evT (vD g) (ex k2 n2 v2 d2))).snd) ∧
 ((op == (6 : Int)) = false →
 false = (hdP op (evT (vD g) (ex k n v d)) (evT (vD g) (ex k2 n2 v2 d2))).fst ∧
 (0 : Int) = (hdP op (evT (vD g) (ex k n v d)) (evT (vD g) (ex k2 n2 v2 d2))).snd))))))))) (by kernel_rfl) ?_
    intro hT hT2 hg
    have ra := ev_in hg hT
    have rb := ev_in hg hT2
    generalize evT (vD g) (ex k n v d) = r at *
    generalize evT (vD g) (ex k2 n2 v2 d2) = s at *
    refine ⟨hT, hg, fun e => ?_, fun e => ⟨hT2, hg, fun f => ?_, fun f => ?_⟩⟩
    · have e : r.2 ≠ 0 := by simpa using e
      unfold hdP
      rw [if_pos e]; exact ⟨rfl, rfl⟩
    · have e : ¬ r.2 ≠ 0 := by simpa using e
      have f : s.2 ≠ 0 := by simpa using f
      unfold hdP
      rw [if_neg e, if_pos f]; exact ⟨rfl, rfl⟩
    · have e : ¬ r.2 ≠ 0 := by simpa using e
      have f : ¬ s.2 ≠ 0 := by simpa using f
      unfold hdP
      simp only [if_neg e, if_neg f]
      grind
  · trivial
noncomputable def fnotS : FSpec := fun ds _ => match ds with
  | [.i op] => some { val := .one (.sc (.int .i64 (.sym (notP op)))), vc := [] }
  | _ => none
noncomputable def fnotC : Con := con [iA] fnotS
theorem fnot_ok : ConOK Try.prog 21 fnotC := by
  refine fn_ob tt_ok mixed Try.func21 rfl (fun _ _ => by kernel_rfl) (A := fun ds => ⟨fun _ => Cons.of [], fun _ => none, fun _ => none⟩) (fun _ _ => cons_nil) (by kernel_rfl) ?_
  intro ds fr
  unfold fnotS
  split
  · rename_i op
    refine kmp (q := ((op == (1 : Int)) = true → (2 : Int) = notP op) ∧
 ((op == (1 : Int)) = false →
 ((op == (2 : Int)) = true → (1 : Int) = notP op) ∧
 ((op == (2 : Int)) = false →
 ((op == (3 : Int)) = true → (6 : Int) = notP op) ∧
 ((op == (3 : Int)) = false →
 ((op == (6 : Int)) = true → (3 : Int) = notP op) ∧
 ((op == (6 : Int)) = false →
 ((op == (4 : Int)) = true → (5 : Int) = notP op) ∧
 ((op == (4 : Int)) = false → ((op == (5 : Int)) = true → (4 : Int) = notP op) ∧ ((op == (5 : Int)) = false → (0 : Int) = notP op))))))) (by kernel_rfl) ?_
    unfold notP
    grind
  · trivial
noncomputable def tame7S : FSpec := fun ds _ => match ds with
  | [.i k, .i n, .i v, .d d, .i q] => some { val := .one (.agg [.c (.int .i64 (.sym (tamP 3 q.toNat (ex k n v d) : Xp).k)), .c (.int .i64 (.sym (tamP 3 q.toNat (ex k n v d) : Xp).n)), .c (.int .i64 (.sym (tamP 3 q.toNat (ex k n v d) : Xp).v)), .c (.rows 64 (dE (tamP 3 q.toNat (ex k n v d) : Xp).kids))]), vc := [0 ≤ q ∧ q ≤ 100] }
  | _ => none
noncomputable def tame7C : Con := con [rxpA, iA] tame7S
noncomputable def tame7M : List Dat → Nat := fun ds => match ds with
  | [.i k, .i n, .i v, .d d, .i q] => q.toNat
  | _ => 0
noncomputable def tame7Su (m : Nat) : FSpec := fun ds _ => match ds with
  | [.i k, .i n, .i v, .d d, .i q] => some { val := .one (.agg [.c (.int .i64 (.sym (tamP 3 q.toNat (ex k n v d) : Xp).k)), .c (.int .i64 (.sym (tamP 3 q.toNat (ex k n v d) : Xp).n)), .c (.int .i64 (.sym (tamP 3 q.toNat (ex k n v d) : Xp).v)), .c (.rows 64 (dE (tamP 3 q.toNat (ex k n v d) : Xp).kids))]), vc := [q.toNat < m, 0 ≤ q ∧ q ≤ 100] }
  | _ => none
theorem tame7_under (m : Nat) : tame7S.under tame7M m = tame7Su m := by
  funext ds fr
  unfold FSpec.under tame7S tame7M tame7Su
  split
  · rename_i e h
    split at h
    · obtain rfl := Option.some.inj h; rfl
    · cases h
  · rename_i h
    split at h
    · cases h
    · rfl
theorem tame7_step (m : Nat) (ih : ConOK Try.prog 14 (con [rxpA, iA] (tame7Su m))) : ConOK Try.prog 14 (con [rxpA, iA] (tame7Su (m + 1))) := by
  refine fn_ob tt_ok mixed Try.func14 rfl (fun _ _ => by kernel_rfl) (A := fun ds => ⟨fun _ => Cons.of [(14, con [rxpA, iA] (tame7Su m))], fun _ => none, fun _ => none⟩) (fun _ _ => (cons_cons ih cons_nil)) (by kernel_rfl) ?_
  intro ds fr
  unfold tame7Su
  split
  · rename_i k n v d q
    refine kmp (q := q.toNat < m + (1 : Nat) →
 (0 : Int) ≤ q ∧ q ≤ (100 : Int) →
 ((decide (k ≥ (4 : Int)) && decide (k ≤ (8 : Int)) && (↑d.len : Int) == (2 : Int) && decide (q > (0 : Int))) = true →
 nat_lit 0 < d.len ∧
 (IntKind.i64.wrap (q - (1 : Int))).toNat < m ∧
 ((0 : Int) ≤ IntKind.i64.wrap (q - (1 : Int)) ∧ IntKind.i64.wrap (q - (1 : Int)) ≤ (100 : Int)) ∧
 nat_lit 1 < d.len ∧
 (IntKind.i64.wrap (q - (1 : Int))).toNat < m ∧
 ((0 : Int) ≤ IntKind.i64.wrap (q - (1 : Int)) ∧ IntKind.i64.wrap (q - (1 : Int)) ≤ (100 : Int)) ∧
 nat_lit 0 + nat_lit 2 ≤
 (D.l
 [[D.i
 (tamP (3 : Int) (IntKind.i64.wrap (q - (1 : Int))).toNat
 (ex (d.el (nat_lit 0) (0 : Nat)).toI (d.el (nat_lit 0) ((0 : Nat) + (1 : Nat))).toI
 (d.el (nat_lit 0) ((0 : Nat) + (1 : Nat) + (1 : Nat))).toI
 (d.el (nat_lit 0) ((0 : Nat) + (1 : Nat) + (1 : Nat) + (1 : Nat))))).k,
 D.i
 (tamP (3 : Int) (IntKind.i64.wrap (q - (1 : Int))).toNat
 (ex (d.el (nat_lit 0) (0 : Nat)).toI (d.el (nat_lit 0) ((0 : Nat) + (1 : Nat))).toI
 (d.el (nat_lit 0) ((0 : Nat) + (1 : Nat) + (1 : Nat))).toI
 (d.el (nat_lit 0) ((0 : Nat) + (1 : Nat) + (1 : Nat) + (1 : Nat))))).n,
 D.i
 (tamP (3 : Int) (IntKind.i64.wrap (q - (1 : Int))).toNat
 (ex (d.el (nat_lit 0) (0 : Nat)).toI (d.el (nat_lit 0) ((0 : Nat) + (1 : Nat))).toI
 (d.el (nat_lit 0) ((0 : Nat) + (1 : Nat) + (1 : Nat))).toI
 (d.el (nat_lit 0) ((0 : Nat) + (1 : Nat) + (1 : Nat) + (1 : Nat))))).v,
 dE
 (tamP (3 : Int) (IntKind.i64.wrap (q - (1 : Int))).toNat
 (ex (d.el (nat_lit 0) (0 : Nat)).toI (d.el (nat_lit 0) ((0 : Nat) + (1 : Nat))).toI
 (d.el (nat_lit 0) ((0 : Nat) + (1 : Nat) + (1 : Nat))).toI
 (d.el (nat_lit 0) ((0 : Nat) + (1 : Nat) + (1 : Nat) + (1 : Nat))))).kids],
 [D.i
 (tamP (3 : Int) (IntKind.i64.wrap (q - (1 : Int))).toNat
 (ex (d.el (nat_lit 1) (0 : Nat)).toI (d.el (nat_lit 1) ((0 : Nat) + (1 : Nat))).toI
 (d.el (nat_lit 1) ((0 : Nat) + (1 : Nat) + (1 : Nat))).toI
 (d.el (nat_lit 1) ((0 : Nat) + (1 : Nat) + (1 : Nat) + (1 : Nat))))).k,
 D.i
 (tamP (3 : Int) (IntKind.i64.wrap (q - (1 : Int))).toNat
 (ex (d.el (nat_lit 1) (0 : Nat)).toI (d.el (nat_lit 1) ((0 : Nat) + (1 : Nat))).toI
 (d.el (nat_lit 1) ((0 : Nat) + (1 : Nat) + (1 : Nat))).toI
 (d.el (nat_lit 1) ((0 : Nat) + (1 : Nat) + (1 : Nat) + (1 : Nat))))).n,
 D.i
 (tamP (3 : Int) (IntKind.i64.wrap (q - (1 : Int))).toNat
 (ex (d.el (nat_lit 1) (0 : Nat)).toI (d.el (nat_lit 1) ((0 : Nat) + (1 : Nat))).toI
 (d.el (nat_lit 1) ((0 : Nat) + (1 : Nat) + (1 : Nat))).toI
 (d.el (nat_lit 1) ((0 : Nat) + (1 : Nat) + (1 : Nat) + (1 : Nat))))).v,
 dE
 (tamP (3 : Int) (IntKind.i64.wrap (q - (1 : Int))).toNat
 (ex (d.el (nat_lit 1) (0 : Nat)).toI (d.el (nat_lit 1) ((0 : Nat) + (1 : Nat))).toI
 (d.el (nat_lit 1) ((0 : Nat) + (1 : Nat) + (1 : Nat))).toI
 (d.el (nat_lit 1) ((0 : Nat) + (1 : Nat) + (1 : Nat) + (1 : Nat))))).kids]]).len ∧
 k = (tamP (3 : Int) q.toNat (ex k n v d)).k ∧
 (0 : Int) = (tamP (3 : Int) q.toNat (ex k n v d)).n ∧
 (0 : Int) = (tamP (3 : Int) q.toNat (ex k n v d)).v ∧
 List.drop (nat_lit 0)
 (List.take (nat_lit 0 + nat_lit 2)
 [[D.i
 (tamP (3 : Int) (IntKind.i64.wrap (q - (1 : Int))).toNat
 (ex (d.el (nat_lit 0) (0 : Nat)).toI (d.el (nat_lit 0) ((0 : Nat) + (1 : Nat))).toI
 (d.el (nat_lit 0) ((0 : Nat) + (1 : Nat) + (1 : Nat))).toI
 (d.el (nat_lit 0) ((0 : Nat) + (1 : Nat) + (1 : Nat) + (1 : Nat))))).k,
 D.i
 (tamP (3 : Int) (IntKind.i64.wrap (q - (1 : Int))).toNat
 (ex (d.el (nat_lit 0) (0 : Nat)).toI (d.el (nat_lit 0) ((0 : Nat) + (1 : Nat))).toI
 (d.el (nat_lit 0) ((0 : Nat) + (1 : Nat) + (1 : Nat))).toI
 (d.el (nat_lit 0) ((0 : Nat) + (1 : Nat) + (1 : Nat) + (1 : Nat))))).n,
 D.i
 (tamP (3 : Int) (IntKind.i64.wrap (q - (1 : Int))).toNat
 (ex (d.el (nat_lit 0) (0 : Nat)).toI (d.el (nat_lit 0) ((0 : Nat) + (1 : Nat))).toI
 (d.el (nat_lit 0) ((0 : Nat) + (1 : Nat) + (1 : Nat))).toI
 (d.el (nat_lit 0) ((0 : Nat) + (1 : Nat) + (1 : Nat) + (1 : Nat))))).v,
 dE
 (tamP (3 : Int) (IntKind.i64.wrap (q - (1 : Int))).toNat
 (ex (d.el (nat_lit 0) (0 : Nat)).toI (d.el (nat_lit 0) ((0 : Nat) + (1 : Nat))).toI
 (d.el (nat_lit 0) ((0 : Nat) + (1 : Nat) + (1 : Nat))).toI
 (d.el (nat_lit 0) ((0 : Nat) + (1 : Nat) + (1 : Nat) + (1 : Nat))))).kids],
 [D.i
 (tamP (3 : Int) (IntKind.i64.wrap (q - (1 : Int))).toNat
 (ex (d.el (nat_lit 1) (0 : Nat)).toI (d.el (nat_lit 1) ((0 : Nat) + (1 : Nat))).toI
 (d.el (nat_lit 1) ((0 : Nat) + (1 : Nat) + (1 : Nat))).toI
 (d.el (nat_lit 1) ((0 : Nat) + (1 : Nat) + (1 : Nat) + (1 : Nat))))).k,
 D.i
 (tamP (3 : Int) (IntKind.i64.wrap (q - (1 : Int))).toNat
 (ex (d.el (nat_lit 1) (0 : Nat)).toI (d.el (nat_lit 1) ((0 : Nat) + (1 : Nat))).toI
 (d.el (nat_lit 1) ((0 : Nat) + (1 : Nat) + (1 : Nat))).toI
 (d.el (nat_lit 1) ((0 : Nat) + (1 : Nat) + (1 : Nat) + (1 : Nat))))).n,
 D.i
 (tamP (3 : Int) (IntKind.i64.wrap (q - (1 : Int))).toNat
 (ex (d.el (nat_lit 1) (0 : Nat)).toI (d.el (nat_lit 1) ((0 : Nat) + (1 : Nat))).toI
 (d.el (nat_lit 1) ((0 : Nat) + (1 : Nat) + (1 : Nat))).toI
 (d.el (nat_lit 1) ((0 : Nat) + (1 : Nat) + (1 : Nat) + (1 : Nat))))).v,
 dE
 (tamP (3 : Int) (IntKind.i64.wrap (q - (1 : Int))).toNat
 (ex (d.el (nat_lit 1) (0 : Nat)).toI (d.el (nat_lit 1) ((0 : Nat) + (1 : Nat))).toI
 (d.el (nat_lit 1) ((0 : Nat) + (1 : Nat) + (1 : Nat))).toI
 (d.el (nat_lit 1) ((0 : Nat) + (1 : Nat) + (1 : Nat) + (1 : Nat))))).kids]]) =
 List.map encE (tamP (3 : Int) q.toNat (ex k n v d)).kids) ∧
 ((decide (k ≥ (4 : Int)) && decide (k ≤ (8 : Int)) && (↑d.len : Int) == (2 : Int) && decide (q > (0 : Int))) = false →
 ((k == (3 : Int) && (↑d.len : Int) == (1 : Int) && decide (q > (0 : Int))) = true →
 nat_lit 0 < d.len ∧
 (IntKind.i64.wrap (q - (1 : Int))).toNat < m ∧
 ((0 : Int) ≤ IntKind.i64.wrap (q - (1 : Int)) ∧ IntKind.i64.wrap (q - (1 : Int)) ≤ (100 : Int)) ∧
 nat_lit 0 + nat_lit 1 ≤
 (D.l
 [[D.i
 (tamP (3 : Int) (IntKind.i64.wrap (q - (1 : Int))).toNat
 (ex (d.el (nat_lit 0) (0 : Nat)).toI (d.el (nat_lit 0) ((0 : Nat) + (1 : Nat))).toI
 (d.el (nat_lit 0) ((0 : Nat) + (1 : Nat) + (1 : Nat))).toI
 (d.el (nat_lit 0) ((0 : Nat) + (1 : Nat) + (1 : Nat) + (1 : Nat))))).k,
 D.i
 (tamP (3 : Int) (IntKind.i64.wrap (q - (1 : Int))).toNat
 (ex (d.el (nat_lit 0) (0 : Nat)).toI (d.el (nat_lit 0) ((0 : Nat) + (1 : Nat))).toI
 (d.el (nat_lit 0) ((0 : Nat) + (1 : Nat) + (1 : Nat))).toI
 (d.el (nat_lit 0) ((0 : Nat) + (1 : Nat) + (1 : Nat) + (1 : Nat))))).n,
 D.i
 (tamP (3 : Int) (IntKind.i64.wrap (q - (1 : Int))).toNat
 (ex (d.el (nat_lit 0) (0 : Nat)).toI (d.el (nat_lit 0) ((0 : Nat) + (1 : Nat))).toI
 (d.el (nat_lit 0) ((0 : Nat) + (1 : Nat) + (1 : Nat))).toI
 (d.el (nat_lit 0) ((0 : Nat) + (1 : Nat) + (1 : Nat) + (1 : Nat))))).v,
 dE
 (tamP (3 : Int) (IntKind.i64.wrap (q - (1 : Int))).toNat
 (ex (d.el (nat_lit 0) (0 : Nat)).toI (d.el (nat_lit 0) ((0 : Nat) + (1 : Nat))).toI
 (d.el (nat_lit 0) ((0 : Nat) + (1 : Nat) + (1 : Nat))).toI
 (d.el (nat_lit 0) ((0 : Nat) + (1 : Nat) + (1 : Nat) + (1 : Nat))))).kids]]).len ∧
 (3 : Int) = (tamP (3 : Int) q.toNat (ex k n v d)).k ∧
 (0 : Int) = (tamP (3 : Int) q.toNat (ex k n v d)).n ∧
 (0 : Int) = (tamP (3 : Int) q.toNat (ex k n v d)).v ∧
 List.drop (nat_lit 0)
 (List.take (nat_lit 0 + nat_lit 1)
 [[D.i
 (tamP (3 : Int) (IntKind.i64.wrap (q - (1 : Int))).toNat
 (ex (d.el (nat_lit 0) (0 : Nat)).toI (d.el (nat_lit 0) ((0 : Nat) + (1 : Nat))).toI
 (d.el (nat_lit 0) ((0 : Nat) + (1 : Nat) + (1 : Nat))).toI
 (d.el (nat_lit 0) ((0 : Nat) + (1 : Nat) + (1 : Nat) + (1 : Nat))))).k,
 D.i
 (tamP (3 : Int) (IntKind.i64.wrap (q - (1 : Int))).toNat
 (ex (d.el (nat_lit 0) (0 : Nat)).toI (d.el (nat_lit 0) ((0 : Nat) + (1 : Nat))).toI
 (d.el (nat_lit 0) ((0 : Nat) + (1 : Nat) + (1 : Nat))).toI
 (d.el (nat_lit 0) ((0 : Nat) + (1 : Nat) + (1 : Nat) + (1 : Nat))))).n,
 D.i
 (tamP (3 : Int) (IntKind.i64.wrap (q - (1 : Int))).toNat
 (ex (d.el (nat_lit 0) (0 : Nat)).toI (d.el (nat_lit 0) ((0 : Nat) + (1 : Nat))).toI
 (d.el (nat_lit 0) ((0 : Nat) + (1 : Nat) + (1 : Nat))).toI
 (d.el (nat_lit 0) ((0 : Nat) + (1 : Nat) + (1 : Nat) + (1 : Nat))))).v,
 dE
 (tamP (3 : Int) (IntKind.i64.wrap (q - (1 : Int))).toNat
 (ex (d.el (nat_lit 0) (0 : Nat)).toI (d.el (nat_lit 0) ((0 : Nat) + (1 : Nat))).toI
 (d.el (nat_lit 0) ((0 : Nat) + (1 : Nat) + (1 : Nat))).toI
 (d.el (nat_lit 0) ((0 : Nat) + (1 : Nat) + (1 : Nat) + (1 : Nat))))).kids]]) =
 List.map encE (tamP (3 : Int) q.toNat (ex k n v d)).kids) ∧
 ((k == (3 : Int) && (↑d.len : Int) == (1 : Int) && decide (q > (0 : Int))) = false →
 ((k == (2 : Int)) = true →
 (2 : Int) = (tamP (3 : Int) q.toNat (ex k n v d)).k ∧
 (0 : Int) = (tamP (3 : Int) q.toNat (ex k n v d)).n ∧
 IntKind.i64.wrap ((IntKind.u64.wrap v).tmod (3 : Int)) = (tamP (3 : Int) q.toNat (ex k n v d)).v ∧
 List.map encE (tamP (3 : Int) q.toNat (ex k n v d)).kids = []) ∧
 ((k == (2 : Int)) = false →
 (1 : Int) = (tamP (3 : Int) q.toNat (ex k n v d)).k ∧
 IntKind.i64.wrap ((IntKind.u64.wrap n).tmod (2147483648 : Int)) = (tamP (3 : Int) q.toNat (ex k n v d)).n ∧
 (0 : Int) = (tamP (3 : Int) q.toNat (ex k n v d)).v ∧ List.map encE (tamP (3 : Int) q.toNat (ex k n v d)).kids = [])))) (by kernel_rfl) ?_
    intro hm h1
    have e0 : ∀ i, ex (d.el i 0).toI (d.el i (0 + 1)).toI (d.el i (0 + 1 + 1)).toI (d.el i (0 + 1 + 1 + 1)) = exE d i := fun i => rfl
    have enc : ∀ t : Xp, [D.i t.k, D.i t.n, D.i t.v, dE t.kids] = encE t := fun t => (encE_eq t).symm
    simp only [e0, enc, tam_eq 3 q.toNat k n v d]
    by_cases c1 : (4 ≤ k ∧ k ≤ 8) ∧ d.len = 2 ∧ 0 < q.toNat
    · have hw : IntKind.i64.wrap (q - 1) = q - 1 := wr _ (by omega)
      have ht : (q - 1).toNat = q.toNat - 1 := by omega
      have cc : (decide (k ≥ 4) && decide (k ≤ 8) && (d.len : Int) == 2 && decide (q > 0)) = true := by simp; omega
      simp only [if_pos c1, hw, ht, cc, true_implies, Bool.true_eq_false, false_implies, and_true]
      refine ⟨by omega, by omega, by omega, by omega, by omega, by omega, by simp [D.len, D.rows], rfl, rfl, rfl, rfl⟩
    · have cc : (decide (k ≥ 4) && decide (k ≤ 8) && (d.len : Int) == 2 && decide (q > 0)) = false := by
        cases hb : (decide (k ≥ 4) && decide (k ≤ 8) && (d.len : Int) == 2 && decide (q > 0)) with
        | false => rfl
        | true => exfalso; simp at hb; omega
      simp only [if_neg c1, cc, true_implies, Bool.false_eq_true, false_implies, true_and]
      by_cases c2 : k = 3 ∧ d.len = 1 ∧ 0 < q.toNat
      · have hw : IntKind.i64.wrap (q - 1) = q - 1 := wr _ (by omega)
        have ht : (q - 1).toNat = q.toNat - 1 := by omega
        have cc : (k == 3 && (d.len : Int) == 1 && decide (q > 0)) = true := by simp; omega
        simp only [if_pos c2, hw, ht, cc, true_implies, Bool.true_eq_false, false_implies, and_true]
        refine ⟨by omega, by omega, by omega, by simp [D.len, D.rows], rfl, rfl, rfl, rfl⟩
      · have cc : (k == 3 && (d.len : Int) == 1 && decide (q > 0)) = false := by
          cases hb : (k == 3 && (d.len : Int) == 1 && decide (q > 0)) with
          | false => rfl
          | true => exfalso; simp at hb; omega
        simp only [if_neg c2, cc, true_implies, Bool.false_eq_true, false_implies, true_and]
        have hw0 : IntKind.u64.wrap 3 ≠ 0 := by rw [IntKind.wrap_u64]; omega
        have hu : IntKind.u64.wrap 2147483648 = 2147483648 := by decide
        have hu3 : IntKind.u64.wrap 3 = 3 := by decide
        refine ⟨fun c3 => ?_, fun c3 => ?_⟩
        · have c3 : k = 2 := by simpa using c3
          simp only [if_pos c3]
          (repeat' apply And.intro) <;> first | rfl | trivial | (show _ = modU v 3; unfold modU; rw [hu3])
        · have c3 : ¬ k = 2 := by simpa using c3
          simp only [if_neg c3]
          (repeat' apply And.intro) <;> first | rfl | trivial | (show _ = modU n 2147483648; unfold modU; rw [hu])
  · trivial
theorem tame7_ok : ConOK Try.prog 14 tame7C :=
  con_rec tame7M (fun _ _ => by kernel_rfl) fun m ih => by
    rw [tame7_under] at ih ⊢
    exact tame7_step m ih
end Go.Proofs.Ytdagadcflignfaa.Sx.Z
namespace Go.Proofs.Ytdagadcflignfaa
open Go.RowKit

theorem place_yes (x n : Int) (w : World) (h0 : 0 ≤ x) (h1 : x < n) :
    Calls Try.prog 81 #[.int .i64 x, .int .i64 n] w fun e w' => e = .returned (.bool true) ∧ w = w' := by
  go_enter Try.func81, Try.ntmps81
  go_wp2
  go_ret
  exact ⟨by simp, rfl⟩

theorem var_yes (A : Option Addr) (n c : Nat) (p v x : Int) (w : World) (h0 : 0 ≤ x) (h1 : x < v) :
    Calls Try.prog 106 #[.agg #[.slice A n c, .int .i64 p, .int .i64 v], .int .i64 x] w fun e w' => e = .returned (.bool true) ∧ Below w.heap.size w w' := by
  go_enter Try.func106, Try.ntmps106
  go_wp2_with (go_at_call 81; refine (place_yes _ _ _ h0 h1).mono ?_; rintro e w' ⟨rfl, rfl⟩)
  go_ret
  exact ⟨rfl, by go_grown⟩

theorem exprNothing_any (w : World) :
    Calls Try.prog 142 #[.agg #[.int .i64 0, .int .i64 0, .int .i64 0, .slice none 0 0]] w fun e w' => e = .returned (.bool true) ∧ Below w.heap.size w w' := by
  go_enter Try.func142, Try.ntmps142
  go_wp2
  go_ret
  exact ⟨rfl, by go_grown⟩

theorem noExpr_any (w : World) :
    Calls Try.prog 131 #[.agg #[.int .i64 0, .int .i64 0, .int .i64 0, .slice none 0 0]] w fun e w' => e = .returned (.bool true) ∧ Below w.heap.size w w' := by
  go_enter Try.func131, Try.ntmps131
  go_wp2
  go_ret
  exact ⟨rfl, by go_grown⟩

theorem exprNum_any (A : Option Addr) (n c : Nat) (p v x : Int) (w : World) (h0 : 0 ≤ x) (h1 : x ≤ 2147483647) :
    Calls Try.prog 107 #[.agg #[.slice A n c, .int .i64 p, .int .i64 v], .agg #[.int .i64 1, .int .i64 x, .int .i64 0, .slice none 0 0]] w fun e w' => e = .returned (.bool true) ∧ Below w.heap.size w w' := by
  go_enter Try.func107, Try.ntmps107
  go_wp2
  go_ret
  exact ⟨by simp, by go_grown⟩
end Go.Proofs.Ytdagadcflignfaa
namespace Go.Proofs.Ytdagadcflignfaa
open Go.RowKit
theorem bel_up {B : Nat} {w w1 w2 : World} (h1 : Below B w w1) (hB : B ≤ w.heap.size) (h2 : Below w1.heap.size w1 w2) : Below B w w2 := h1.trans (h2.mono (Nat.le_trans hB h1.size))
theorem blk_ltS {W : World} {b : Nat} {x : Obj} (h : W.heap[b]? = some x) : b < W.heap.size := by
  rcases Nat.lt_or_ge b W.heap.size with h1 | h1
  · exact h1
  · rw [Array.getElem?_eq_none h1] at h; cases h
theorem blkAS (W : World) (x : Obj) {b : Nat} (h : W.heap.size = b) : (W.alloc x).heap[b]? = some x := by
  subst h
  exact heap_alloc_new W x
theorem blk_keepS {W W1 : World} {b : Nat} {x : Obj} (hb : Below W.heap.size W W1) (h : W.heap[b]? = some x) : W1.heap[b]? = some x := (hb.block b (blk_ltS h)).trans h
theorem blkUpS {W : World} {b : Nat} {x : Obj} (h : W.heap[b]? = some x) (ob : Obj) : (W.alloc ob).heap[b]? = some x := blk_keepS ((Below.refl _ W).alloc (Nat.le_refl _) ob) h
theorem row_ofS {W : World} {b : Nat} {R : Array Value} {t : TypeId} {fr : Nat × Nat} (h : W.heap[b]? = some (.cells R t fr)) : ∀ o, W.cell? ⟨b, o, none⟩ = R[o]? := fun o => cell_of_row W b o R t fr h
theorem info_st : (Try.prog.info? 32).map (·.size) = some 20 := by kernel_rfl
theorem wpList_store_new {P : Program} {ops : Array Oper} {rest : List Oper} {o : Oper} {a : Act} {w : World} {Q : Exit → Act → World → Prop} (hgd : o.guard = none) (ty : TypeId) (x y : Operand) (ho : o.op = .store ty x y)
    (hd : o.dst = none) (W : World) (b : Nat) (c cells : Array Value) (hw : w = W.alloc (.cells c ty)) (hb : W.heap.size = b) (hx : a.eval x = .pointer (some ⟨b, 0, none⟩)) (hy : a.eval y = .agg cells)
    (hi : (P.info? ty).map (·.size) = some cells.size) (hold : c.size = cells.size) (h1 : cells.all (·.oneCell') = true)
    (h : wpList P ops Q rest a (W.alloc (.cells cells ty))) : wpList P ops Q (o :: rest) a w := by
  subst hw hb
  refine wpList_plain hgd fun _ hK => ?_
  unfold Oper.wp execOp
  simp only [ho, hx, hy, run_storeAt_new W ty c cells hi hold h1, Sem.run_bind, Sem.run_pure, Result.andThen_ok]
  have e : a.put o.dst undef = a := by rw [hd]; rfl
  have h2 := hK _ _ h
  rw [← e] at h2
  exact h2
theorem ld_row {P : Program} {ops : Array Oper} {rest : List Oper} {o : Oper} {a : Act} {w : World} {Q : Exit → Act → World → Prop} (ty : TypeId) (x : Operand) (ho : o.op = .load ty x)
    (g : Nat) (hx : a.eval x = .pointer (some ⟨g, 0, none⟩)) (t : TypeId) (cs : Array Value) (fr : Nat × Nat) (d : TypeDesc) (hg : w.heap[g]? = some (.cells cs t fr))
    (hu : P.underlying ty = some d) (hd : (match d with | .struct _ | .array _ _ => true | _ => false) = true) (hi : (P.info? ty).map (·.size) = some cs.size) (hw : Region.wanted o (yielded ops a.tmps) = true)
    (h : wpList P ops Q rest (a.put o.dst (.agg cs)) w) : wpList P ops Q (o :: rest) a w :=
  BigFrame.wpList_want hw fun _ hK => wp_load_row ty x ho g hx t cs fr d hg hu hd hi (hK _ _ h)
theorem wp_worldS {P : Program} {c : Code} {Q : Exit → Act → World → Prop} {a : Act} {w : World} (F : World → Prop) (hF : F w) (h : ∀ W, F W → c.wp P Q a W) : c.wp P Q a w := h w hF


set_option maxHeartbeats 1000000 in
theorem nothing_any (w : World) :
    Calls Try.prog 108 #[.agg #[.int .i64 0, .int .i64 0, .int .i64 0, .int .i64 0, .int .i64 0, .int .i64 0, .int .i64 0, .slice none 0 0, .int .i64 0, .int .i64 0, .int .i64 0, .int .i64 0, .slice none 0 0, .int .i64 0, .int .i64 0, .int .i64 0, .slice none 0 0, .slice none 0 0, .slice none 0 0, .slice none 0 0]] w fun e w' => e = .returned (.bool true) ∧ Below w.heap.size w w' := by
  go_enter Try.func108, Try.ntmps108
  go_wp2_with fail
  refine (exprNothing_any _).mono ?_
  rintro e w1 ⟨rfl, hb1⟩
  have k1_0 := Lib.hid (blk_keepS hb1 (b := w.heap.size) (blkAS _ _ (by first | rfl | (simp only [World.size_alloc]))))
  have hB1 : Below w.heap.size w w1 := bel_up (by go_grown) (Nat.le_refl _) hb1
  have hz1 : w.heap.size + 1 ≤ w1.heap.size := by have := hb1.size; simp only [World.size_alloc] at this; omega
  clear hb1
  have r1_0 := row_ofS k1_0.out
  go_wp2_with fail
  refine (exprNothing_any _).mono ?_
  rintro e w2 ⟨rfl, hb2⟩
  have k2_0 := Lib.hid (blk_keepS hb2 k1_0.out)
  have hB2 : Below w.heap.size w w2 := bel_up hB1 (Nat.le_refl _) hb2
  have hz2 : w.heap.size + 1 ≤ w2.heap.size := Nat.le_trans hz1 hb2.size
  clear hb2 hB1 hz1 k1_0 r1_0
  have r2_0 := row_ofS k2_0.out
  go_wp2_with fail
  refine (exprNothing_any _).mono ?_
  rintro e w3 ⟨rfl, hb3⟩
  have k3_0 := Lib.hid (blk_keepS hb3 k2_0.out)
  have hB3 : Below w.heap.size w w3 := bel_up hB2 (Nat.le_refl _) hb3
  have hz3 : w.heap.size + 1 ≤ w3.heap.size := Nat.le_trans hz2 hb3.size
  clear hb3 hB2 hz2 k2_0 r2_0
  have r3_0 := row_ofS k3_0.out
  go_wp2_with fail
  go_ret
  exact ⟨rfl, hB3⟩

end Go.Proofs.Ytdagadcflignfaa
namespace Go.Proofs.Ytdagadcflignfaa
open Go.RowKit

theorem ld_mid {P : Program} {ops : Array Oper} {rest : List Oper} {o : Oper} {a : Act} {w : World} {Q : Exit → Act → World → Prop} (ty : TypeId) (x : Operand) (ho : o.op = .load ty x)
    (b k : Nat) (hx : a.eval x = .pointer (some ⟨b, k, none⟩)) (cs : List Value) (d : TypeDesc) (hc : w.rangeAt b k cs)
    (hu : P.underlying ty = some d) (hd : d.isRow = true) (hi : (P.info? ty).map (·.size) = some cs.length) (hw : Region.wanted o (yielded ops a.tmps) = true)
    (h : wpList P ops Q rest (a.put o.dst (.agg cs.toArray)) w) : wpList P ops Q (o :: rest) a w :=
  BigFrame.wpList_want hw fun _ hK => wp_load_mid ty x ho b k hx cs d hc hu hd hi (hK _ _ h)
theorem range_keep {W W1 : World} {B b o : Nat} {cs : List Value} (hb : Below B W W1) (hlt : b < B) (h : W.rangeAt b o cs) : W1.rangeAt b o cs := fun j v hv => (hb.cell (p := ⟨b, o + j, none⟩) hlt).trans (h j v hv)
/-- Elements lie side by side behind A, each of so many cells, in a block below B. -/
def ElemsAt (w : World) (B : Nat) (A : Option Addr) (k size : Nat) (L : Nat → List Value) : Prop :=
  ∀ i, i < k → ∃ g, A = some ⟨g, 0, none⟩ ∧ g < B ∧ w.rangeAt g (i * size) (L i) ∧ (L i).length = size ∧ ∀ x ∈ L i, x.oneCell' = true
theorem ElemsAt.below {w w' : World} {B B' : Nat} {A : Option Addr} {k size : Nat} {L : Nat → List Value} (h : ElemsAt w B A k size L) (hb : Below B w w') (hB : B ≤ B') : ElemsAt w' B' A k size L := fun i hi => by
  obtain ⟨g, h1, h2, h3, h4, h5⟩ := h i hi
  exact ⟨g, h1, Nat.lt_of_lt_of_le h2 hB, range_keep hb h2 h3, h4, h5⟩
/-- The statement of these cells is told right, whatever was made since. -/
def StOk (w : World) (A : Option Addr) (n c : Nat) (p v : Int) (cs : List Value) : Prop :=
  ∀ W, Below w.heap.size w W → Calls Try.prog 83 #[.agg #[.slice A n c, .int .i64 p, .int .i64 v], .agg cs.toArray] W fun e w' => e = .returned (.bool true) ∧ Below W.heap.size W w'
theorem info_st' {cs : List Value} (h : cs.length = 20) : (Try.prog.info? 32).map (·.size) = some cs.toArray.size := by rw [List.size_toArray, h]; exact info_st

set_option maxRecDepth 100000 in
set_option maxHeartbeats 2000000 in
theorem body_right (A : Option Addr) (n c : Nat) (p v : Int) (D : Option Addr) (k cap : Nat) (L : Nat → List Value) (w : World) (hk : k ≤ 1000000) (_hkc : k ≤ cap) (hm : ElemsAt w w.heap.size D k 20 L) (hs : ∀ i, i < k → StOk w A n c p v (L i)) :
    Calls Try.prog 62 #[.agg #[.slice A n c, .int .i64 p, .int .i64 v], .slice D k cap] w fun e w' => e = .returned (.bool true) ∧ Below w.heap.size w w' := by
  replace hm := Lib.hid hm
  replace hs := Lib.hid hs
  go_enter Try.func62, Try.ntmps62
  go_wp2_with fail
  go_loopw [9] (fun i wr => ∃ q : Nat, q ≤ k ∧ i = .int .i64 q ∧ Hid (wr.heap[w.heap.size]? = some (.cells #[.slice A n c, .int .i64 p, .int .i64 v] 153 (0, 0))) ∧ Below w.heap.size w wr) (fun i _ => k - (intOf i).toNat)
  case atStart => exact ⟨0, by omega, rfl, Lib.hid (blkAS _ _ rfl), (Below.refl _ _).alloc (Nat.le_refl _) _⟩
  case round =>
    obtain ⟨q, hq, rfl, hk0, hB⟩ := hrel
    by_cases hlt : q < k
    · obtain ⟨g, rfl, hg, hr, hl, h1⟩ := hm.out q hlt
      have Hr := Lib.hid (range_keep hB hg hr)
      obtain ⟨cs, hcs⟩ : ∃ cs, L q = cs := ⟨_, rfl⟩
      have Hst := Lib.hid (hs.out q hlt)
      rw [hcs] at Hr hl h1 Hst
      have Hl := Lib.hid hl
      have H1 := Lib.hid (all_oneCell_toArray h1)
      clear hr hl h1 hcs
      have e20 : (wr.heap.size : Nat) = wr.heap.size := rfl
      clear e20
      go_wp2_with (first
        | (refine ld_mid 32 _ rfl _ _ rfl cs _ Hr.out Try.underlying32 rfl (by rw [Hl.out]; exact info_st) rfl ?_)
        | (refine wpList_store_new rfl 32 _ _ rfl rfl _ _ _ _ rfl rfl rfl rfl (info_st' Hl.out) (by simp [Hl.out]) H1.out ?_)
        | (refine ld_row 153 _ rfl _ rfl _ _ _ _ (blkUpS hk0.out _) Try.underlying153 rfl (by kernel_rfl) rfl ?_)
        | (refine ld_row 32 _ rfl _ rfl _ _ _ _ (blkAS _ _ rfl) Try.underlying32 rfl (info_st' Hl.out) rfl ?_))
      refine (Hst.out _ (hB.alloc hB.size _)).mono ?_
      rintro e w2 ⟨rfl, hb2⟩
      have k2 := Lib.hid (blk_keepS hb2 (blkUpS hk0.out _))
      have hB2 : Below w.heap.size w w2 := bel_up (hB.alloc hB.size _) (Nat.le_refl _) hb2
      clear hb2 hk0 hB Hst Hr Hl H1
      go_wp2
      go_roundw
      case rel => exact ⟨q + 1, by omega, by go_num, k2, hB2⟩
      case measure => simp [intOf]; omega
    · go_wp2
      go_ret
      exact ⟨rfl, hB⟩
end Go.Proofs.Ytdagadcflignfaa
namespace Go.Proofs.Ytdagadcflignfaa
open Go.RowKit

theorem info_edge : (Try.prog.info? 53).map (·.size) = some 19 := by kernel_rfl
theorem info_edge' : (Try.prog.info? 53).map (fun i => (i.zero, i.size, i.bytes)) = some (some (.agg #[.int .i64 0, .int .i64 0, .int .i64 0, .int .i64 0, .int .i64 0, .int .i64 0, .int .i64 0, .int .i64 0, .int .i64 0, .slice none 0 0, .int .i64 0, .int .i64 0, .int .i64 0, .int .i64 0, .slice none 0 0, .int .i64 0, .int .i64 0, .int .i64 0, .slice none 0 0]), 19, 200) := by kernel_rfl
theorem grown_blk {W w1 : World} {own : Option Nat} {b : Nat} {x : Obj} (h : W.grownBy w1 own) (hb : W.heap[b]? = some x) (hne : own ≠ some b) : w1.heap[b]? = some x := (h.block b (blk_ltS hb) (fun e => hne e.symm)).trans hb
theorem frozen_ofS {W : World} {b : Nat} {R : Array Value} {t : TypeId} (h : W.heap[b]? = some (.cells R t (0, 0))) (o : Nat) : W.frozen? ⟨b, o, none⟩ = false := by simp [World.frozen?, h]
theorem below_grown {B : Nat} {w W w1 : World} {own : Option Nat} (hgrow : W.grownBy w1 own) (hb : Below w.heap.size w W) (hB : B ≤ w.heap.size) (ho : ∀ b, own = some b → B ≤ b) : Below B w w1 := (hb.mono hB).grown hgrow (Nat.le_trans hB hb.size) ho
theorem still_ld_mid {P : Program} {ops : Array Oper} {rest : List Oper} {o : Oper} {a : Act} {w : World} {Q : Act → Prop} (ty : TypeId) (x : Operand) (ho : o.op = .load ty x)
    (b k : Nat) (hx : a.eval x = .pointer (some ⟨b, k, none⟩)) (cs : List Value) (d : TypeDesc) (hc : w.rangeAt b k cs)
    (hu : P.underlying ty = some d) (hd : d.isRow = true) (hi : (P.info? ty).map (·.size) = some cs.length) (hw : Region.wanted o (yielded ops a.tmps) = true)
    (h : wpStill P ops w Q rest (a.put o.dst (.agg cs.toArray))) : wpStill P ops w Q (o :: rest) a := by
  unfold wpStill
  rw [if_pos hw]
  unfold Oper.still execOp
  simp only [ho, hx, Instr.loadAt, Instr.sureAddr, Sem.run_bind, Sem.run_pure, Result.andThen_ok, run_loadVar_mid w b k ty cs d hc hu hd hi]
  exact ⟨rfl, h⟩
/-- The cells of an edge. -/
def LoadS (t : TypeId) (v : Value) : Sem Value := Instr.loadAt t v
theorem to_LoadS (v : Value) : Instr.loadAt 53 v = LoadS 53 v := rfl
theorem info_graph : (Try.prog.info? 49).map (fun i => (i.zero, i.size, i.bytes)) = some (some (.agg #[.int .i64 0, .slice none 0 0, .slice none 0 0]), 3, 56) := by kernel_rfl
theorem info_int : (Try.prog.info? 3).map (fun i => (i.zero, i.size, i.bytes)) = some (some (.int .i64 0), 1, 8) := by kernel_rfl
theorem own_form' {w : World} {b : Nat} {e : TypeId} {size n ce : Nat} {A : Option Addr} {xs : List Value} (h : w.ownsRow b e size (.slice A (n + 1) ce) (n + 1) xs) : ∃ g, A = some ⟨g, 0, none⟩ := by
  rcases h.2 with ⟨_, h0⟩ | ⟨g, cap, cur, hv, _⟩
  · omega
  · injection hv with h1 h2 h3
    exact ⟨g, h1⟩
theorem own_cap {w : World} {b g : Nat} {e : TypeId} {size n ce : Nat} {xs : List Value} (h : w.ownsRow b e size (.slice (some ⟨g, 0, none⟩) n ce) n xs) : n ≤ ce := by
  rcases h.2 with ⟨h1, _⟩ | ⟨_, _, _, h1, _, _, h2, _⟩
  · cases h1
  · cases h1; exact h2
theorem blk_setS {W : World} {b g o : Nat} {x : Obj} {v : Value} (h : W.heap[b]? = some x) (hne : b ≠ g) : (W.setCell ⟨g, o, none⟩ v).heap[b]? = some x := by
  rw [Below.heap_setCell _ _ _ _ hne]
  exact h
theorem own_set {w : World} {b : Nat} {e : TypeId} {size n : Nat} {v : Value} {xs : List Value} (h : w.ownsRow b e size v n xs) {g o : Nat} {x : Value} (hg : g < b) : (w.setCell ⟨g, o, none⟩ x).ownsRow b e size v n xs := by
  have hset : w.grownBy (w.setCell ⟨g, o, none⟩ x) (some g) := ⟨rfl, rfl, rfl, by simp, fun i hi hne => Below.heap_setCell _ _ _ _ (by rintro rfl; exact hne rfl)⟩
  refine h.kept hset ?_
  cases hh : v.ownBlock with
  | none => exact .inl rfl
  | some k => exact .inr (fun e => by have := (h.lt k hh).1; simp at e; omega)
end Go.Proofs.Ytdagadcflignfaa
namespace Go.Proofs.Ytdagadcflignfaa
open Go.RowKit

/-- No elements appended to nil. -/
theorem run_append_zero {P : Program} (t ty e : TypeId) (i : TypeInfo) (ht : P.underlying t = some (.slice e)) (hi : P.info? e = some i) (A : Option Addr) (c : Nat) (w : World) :
    (Builtin.append_ #[t, t] ty #[.slice none 0 0, .slice A 0 c]).run P w = .ok (.slice none 0 0) w := by
  cases A with
  | none => simp [Builtin.append_, run_underlying ht, sizeOf, typeInfo, hi, Builtin.lenOf, Builtin.firstCells]
  | some ad => simp [Builtin.append_, run_underlying ht, sizeOf, typeInfo, hi, Builtin.lenOf, Builtin.firstCells, loadCells, loadCellsFrom]
theorem wpList_append_zero {P : Program} {w : World} {ops : Array Oper} {rest : List Oper} {o : Oper} {a : Act} {Q : Exit → Act → World → Prop} (hgd : o.guard = none) (s x : Operand) (t : TypeId)
    (ho : o.op = .call { callee := .builtin .append, args := #[s, x], argTypes := #[t, t] }) (e : TypeId) (i : TypeInfo) (ht : P.underlying t = some (.slice e)) (hi : P.info? e = some i)
    (hs : a.eval s = .slice none 0 0) (A : Option Addr) (c : Nat) (hx : a.eval x = .slice A 0 c) (h : wpList P ops Q rest (a.put o.dst (.slice none 0 0)) w) : wpList P ops Q (o :: rest) a w := by
  refine wpList_plain hgd fun _ hK => ?_
  have hr := run_append_zero (P := P) t o.type e i ht hi A c w
  unfold Oper.wp execOp
  simp only [ho, resolve, invoke, builtin, Sem.run_bind, Sem.run_pure, Result.andThen_ok, List.map_toArray, List.map_cons, List.map_nil, hs, hx, hr]
  exact hK _ _ h
theorem own_base {w : World} {b b' : Nat} {e : TypeId} {size n : Nat} {v : Value} {xs : List Value} (h : w.ownsRow b' e size v n xs) (hb : b ≤ b') : w.ownsRow b e size v n xs := by
  refine ⟨h.1, ?_⟩
  rcases h.2 with h0 | ⟨g, cap, cur, rfl, hg, h1⟩
  · exact .inl h0
  · exact .inr ⟨g, cap, cur, rfl, Nat.le_trans hb hg, h1⟩
/-- A list of one cell, of one's own. -/
def OneOut (w : World) (t : TypeId) (x : Value) (e : Ending) (w' : World) : Prop :=
  ∃ g cap, e = .returned (.slice (some ⟨g, 0, none⟩) 1 cap) ∧ w'.ownsRow w.heap.size t 1 (.slice (some ⟨g, 0, none⟩) 1 cap) 1 [x] ∧ Below w.heap.size w w'

set_option maxRecDepth 100000 in
set_option maxHeartbeats 1000000 in
theorem copyInt_one (b c : Nat) (x : Int) (w : World) (_hb : b < w.heap.size) (hx : w.cell? ⟨b, 0, none⟩ = some (.int .i64 x)) :
    Calls Try.prog 69 #[.slice (some ⟨b, 0, none⟩) 1 c] w (OneOut w 3 (.int .i64 x)) := by
  obtain ⟨ii, hii, iz0, iz1, iz2⟩ := info_parts info_int
  have hn : ∀ (j : Nat) (u : Value), ([.int .i64 x] : List Value)[j]? = some u → w.cell? ((⟨b, 0, none⟩ : Addr).add j) = some u := fun j u hu => by
    match j, hu with
    | 0, hu => cases hu; exact hx
    | j + 1, hu => simp at hu
  replace hii := Lib.hid hii
  replace hn := Lib.hid hn
  go_enter Try.func69, Try.ntmps69
  go_upto_region 1 with fail
  go_wp2_with (refine wpList_append_lies _ rfl _ _ _ rfl w.heap.size 3 ii (.int .i64 0) 1 8 Try.underlying35 hii.out iz0 iz1 iz2 rfl ?c0 (.slice none 0 0) 0 [] rfl (World.ownsRow_nil _ _ _ _) ⟨b, 0, none⟩ 1 c [.int .i64 x] rfl rfl hn.out ?c1 ?c2 ?c3 ?c4 (Nat.le_refl _) w.heap.size rfl ?_)
  case c0 => decide
  case c1 => simp [Value.oneCell']
  case c2 => decide
  case c3 => unfold maxLen; decide
  case c4 => decide
  intro g cap w1 hown hgrow _ _
  go_wp2_with fail
  have hb1 : Below w.heap.size w w1 := below_grown hgrow (Below.refl _ _) (Nat.le_refl _) (fun b hb => by simp [Value.ownBlock] at hb)
  go_ret
  exact ⟨g, cap, rfl, hown, hb1⟩
set_option maxRecDepth 100000 in
set_option maxHeartbeats 1000000 in
theorem copyInt_none (A : Option Addr) (c : Nat) (w : World) :
    Calls Try.prog 69 #[.slice A 0 c] w fun e w' => e = .returned (.slice none 0 0) ∧ w = w' := by
  obtain ⟨ii, hii, iz0, iz1, iz2⟩ := info_parts info_int
  go_enter Try.func69, Try.ntmps69
  go_wp2_with (refine wpList_append_zero rfl _ _ _ rfl 3 ii Try.underlying35 hii rfl A c rfl ?_)
  go_ret
  exact ⟨rfl, rfl⟩

/-- A list of one list of one number, both of one's own. -/
def OneList (w : World) (x : Int) (e : Ending) (w' : World) : Prop :=
  ∃ g cap b c, e = .returned (.slice (some ⟨g, 0, none⟩) 1 cap) ∧ w'.ownsRow w.heap.size 35 1 (.slice (some ⟨g, 0, none⟩) 1 cap) 1 [.slice (some ⟨b, 0, none⟩) 1 c] ∧
    w'.ownsRow w.heap.size 3 1 (.slice (some ⟨b, 0, none⟩) 1 c) 1 [.int .i64 x] ∧ Below w.heap.size w w'
theorem info_ints : (Try.prog.info? 35).map (fun i => (i.zero, i.size, i.bytes)) = some (some (.slice none 0 0), 1, 24) := by kernel_rfl
set_option maxRecDepth 100000 in
set_option maxHeartbeats 1000000 in
theorem copyInts_one (v cv b c : Nat) (x : Int) (w : World) (_hcv : 1 ≤ cv) (_hv : v < w.heap.size) (hb : b < w.heap.size) (hl : w.cell? ⟨v, 0, none⟩ = some (.slice (some ⟨b, 0, none⟩) 1 c)) (hx : w.cell? ⟨b, 0, none⟩ = some (.int .i64 x)) :
    Calls Try.prog 132 #[.slice (some ⟨v, 0, none⟩) 1 cv] w (OneList w x) := by
  obtain ⟨ii, hii, iz0, iz1, iz2⟩ := info_parts info_ints
  replace hii := Lib.hid hii
  go_enter Try.func132, Try.ntmps132
  go_wp2_with fail
  refine wp_loop_rounds 2 ?_
  rw [rounds_succ]
  go_wp2_with fail
  refine (copyInt_one b c x w hb hx).mono ?_
  rintro e w1 ⟨g, cap, rfl, hown, hb1⟩
  have hz1 := hb1.size
  go_upto_region 6 with (refine wpList_append_lies _ rfl _ _ _ rfl w.heap.size 35 ii (.slice none 0 0) 1 24 Try.underlying54 hii.out iz0 iz1 iz2 rfl ?c0 (.slice none 0 0) 0 [] rfl (World.ownsRow_nil _ _ _ _) ⟨w1.heap.size, 0, none⟩ 1 1 [.slice (some ⟨g, 0, none⟩) 1 cap] rfl rfl (World.news_of_block (cs := #[.slice (some ⟨g, 0, none⟩) 1 cap]) (t := 35) (fr := (0, 0)) (blkAS _ _ rfl)) ?c1 ?c2 ?c3 ?c4 (by simp; omega) (w1.heap.size + 1) (by simp) ?_)
  case c0 => decide
  case c1 => simp [Value.oneCell']
  case c2 => decide
  case c3 => unfold maxLen; decide
  case c4 => decide
  intro g2 cap2 w2 hown2 hgrow _ _
  have hb2 : Below w.heap.size w w2 := below_grown hgrow (hb1.alloc hb1.size _) (Nat.le_refl _) (fun b hb => by simp [Value.ownBlock] at hb)
  have hown' := (hown.alloc (.cells #[.slice (some ⟨g, 0, none⟩) 1 cap] 35)).kept hgrow (by simp [Value.ownBlock])
  replace hown' := Lib.hid hown'
  replace hown2 := Lib.hid hown2
  clear hown hgrow hb1
  go_wp2_with fail
  rw [rounds_succ]
  go_wp2_with fail
  go_ret
  exact ⟨g2, cap2, g, cap, rfl, hown2.out, hown'.out, hb2⟩
set_option maxRecDepth 100000 in
set_option maxHeartbeats 1000000 in
theorem copyMsgs_none (A : Option Addr) (c : Nat) (w : World) :
    Calls Try.prog 133 #[.slice A 0 c] w fun e w' => e = .returned (.slice none 0 0) ∧ w = w' := by
  go_enter Try.func133, Try.ntmps133
  go_wp2_with fail
  refine wp_loop_rounds 1 ?_
  rw [rounds_succ]
  go_wp2_with fail
  go_ret
  exact ⟨rfl, rfl⟩
end Go.Proofs.Ytdagadcflignfaa
namespace Go.Proofs.Ytdagadcflignfaa
open Go.RowKit

/-- An expression: its kind, number, variable, kids. -/
inductive Ex where
  | mk (kind num var : Int) (kids : List Ex)

/-- v is the tree e, at most d deep, in the world w; its rows lie below block B. -/
def ExIn (w : World) (B : Nat) : Nat → Ex → Value → Prop
  | 0, _, _ => False
  | d + 1, .mk k m x kids, v => ∃ A n c, v = .agg #[.int .i64 k, .int .i64 m, .int .i64 x, .slice A n c] ∧ kids.length = n ∧ n ≤ c ∧
      ∀ i e, kids[i]? = some e → ∃ b v0 v1 v2 v3, A = some ⟨b, 0, none⟩ ∧ b < B ∧ w.cell? ⟨b, i * 4, none⟩ = some v0 ∧ w.cell? ⟨b, i * 4 + 1, none⟩ = some v1 ∧ w.cell? ⟨b, i * 4 + 2, none⟩ = some v2 ∧ w.cell? ⟨b, i * 4 + 3, none⟩ = some v3 ∧
        ExIn w B d e (.agg #[v0, v1, v2, v3])
theorem ExIn.keep {w w' : World} {B : Nat} (hk : ∀ b o, b < B → w'.cell? ⟨b, o, none⟩ = w.cell? ⟨b, o, none⟩) : ∀ (d : Nat) (e : Ex) (v : Value), ExIn w B d e v → ExIn w' B d e v := by
  intro d
  induction d with
  | zero => intro e v h; exact h.elim
  | succ d ih =>
    intro e v h
    match e, h with
    | .mk k m x kids, ⟨A, n, c, hv, hn, hc, hkid⟩ =>
      refine ⟨A, n, c, hv, hn, hc, fun i e he => ?_⟩
      obtain ⟨b, v0, v1, v2, v3, hA, hB, a0, a1, a2, a3, hi⟩ := hkid i e he
      exact ⟨b, v0, v1, v2, v3, hA, hB, (hk b _ hB).trans a0, (hk b _ hB).trans a1, (hk b _ hB).trans a2, (hk b _ hB).trans a3, ih e _ hi⟩
theorem ExIn.below {w w' : World} {B d : Nat} {e : Ex} {v : Value} (h : ExIn w B d e v) (hb : Below B w w') : ExIn w' B d e v :=
  h.keep (fun b o hB => hb.cell (p := ⟨b, o, none⟩) hB) d e v
theorem ExIn.mono {w : World} {B B' : Nat} (hB : B ≤ B') : ∀ (d : Nat) (e : Ex) (v : Value), ExIn w B d e v → ExIn w B' d e v := by
  intro d
  induction d with
  | zero => intro e v h; exact h.elim
  | succ d ih =>
    intro e v h
    match e, h with
    | .mk k m x kids, ⟨A, n, c, hv, hn, hc, hkid⟩ =>
      refine ⟨A, n, c, hv, hn, hc, fun i e he => ?_⟩
      obtain ⟨b, v0, v1, v2, v3, hA, hb, a0, a1, a2, a3, hi⟩ := hkid i e he
      exact ⟨b, v0, v1, v2, v3, hA, Nat.lt_of_lt_of_le hb hB, a0, a1, a2, a3, ih e _ hi⟩
/-- A tree's value is four cells. -/
theorem ExIn.form {w : World} {B d : Nat} {e : Ex} {v : Value} (h : ExIn w B d e v) : ∃ k m x A n c, v = .agg #[.int .i64 k, .int .i64 m, .int .i64 x, .slice A n c] := by
  match d, e, h with
  | d + 1, .mk k m x kids, ⟨A, n, c, hv, _⟩ => exact ⟨k, m, x, A, n, c, hv⟩
/-- A tree without kids. -/
theorem ExIn.leaf (w : World) (B d : Nat) (k m x : Int) : ExIn w B (d + 1) (.mk k m x []) (.agg #[.int .i64 k, .int .i64 m, .int .i64 x, .slice none 0 0]) :=
  ⟨none, 0, 0, rfl, rfl, Nat.le_refl _, fun i e he => by simp at he⟩
/-- A tree of one kid, whose four cells lie in a block of their own. -/
theorem ExIn.one {w : World} {B d b : Nat} {e : Ex} {v0 v1 v2 v3 : Value} (h : ExIn w B d e (.agg #[v0, v1, v2, v3])) (hb : b < B) (h0 : w.cell? ⟨b, 0, none⟩ = some v0) (h1 : w.cell? ⟨b, 1, none⟩ = some v1) (h2 : w.cell? ⟨b, 2, none⟩ = some v2) (h3 : w.cell? ⟨b, 3, none⟩ = some v3) (k m x : Int) (c : Nat) (hc : 1 ≤ c) :
    ExIn w B (d + 1) (.mk k m x [e]) (.agg #[.int .i64 k, .int .i64 m, .int .i64 x, .slice (some ⟨b, 0, none⟩) 1 c]) := by
  refine ⟨_, 1, c, rfl, rfl, hc, fun i e' he => ?_⟩
  match i, he with
  | 0, he =>
    have : e = e' := by simpa using he
    subst this
    exact ⟨b, v0, v1, v2, v3, rfl, hb, h0, h1, h2, h3, h⟩
  | i + 1, he => simp at he
/-- A tree of two kids, whose eight cells lie in a block of their own. -/
theorem ExIn.two {w : World} {B d b : Nat} {e f : Ex} {v0 v1 v2 v3 u0 u1 u2 u3 : Value} (h : ExIn w B d e (.agg #[v0, v1, v2, v3])) (h' : ExIn w B d f (.agg #[u0, u1, u2, u3])) (hb : b < B) (h0 : w.cell? ⟨b, 0, none⟩ = some v0) (h1 : w.cell? ⟨b, 1, none⟩ = some v1) (h2 : w.cell? ⟨b, 2, none⟩ = some v2) (h3 : w.cell? ⟨b, 3, none⟩ = some v3)
    (h4 : w.cell? ⟨b, 4, none⟩ = some u0) (h5 : w.cell? ⟨b, 5, none⟩ = some u1) (h6 : w.cell? ⟨b, 6, none⟩ = some u2) (h7 : w.cell? ⟨b, 7, none⟩ = some u3) (k m x : Int) (c : Nat) (hc : 2 ≤ c) :
    ExIn w B (d + 1) (.mk k m x [e, f]) (.agg #[.int .i64 k, .int .i64 m, .int .i64 x, .slice (some ⟨b, 0, none⟩) 2 c]) := by
  refine ⟨_, 2, c, rfl, rfl, hc, fun i e' he => ?_⟩
  match i, he with
  | 0, he =>
    have : e = e' := by simpa using he
    subst this
    exact ⟨b, v0, v1, v2, v3, rfl, hb, h0, h1, h2, h3, h⟩
  | 1, he =>
    have : f = e' := by simpa using he
    subst this
    exact ⟨b, u0, u1, u2, u3, rfl, hb, h4, h5, h6, h7, h'⟩
  | i + 2, he => simp at he

/-- The variables' numbers lie one behind the other at A, below block B. -/
def VarsAt (w : World) (B : Nat) (A : Option Addr) (vs : List Int) : Prop :=
  ∀ i v, vs[i]? = some v → ∃ b, A = some ⟨b, 0, none⟩ ∧ b < B ∧ w.cell? ⟨b, i, none⟩ = some (.int .i64 v)
theorem VarsAt.below {w w' : World} {B : Nat} {A : Option Addr} {vs : List Int} (h : VarsAt w B A vs) (hb : Below B w w') : VarsAt w' B A vs := fun i v hi => by
  obtain ⟨b, hA, hB, hc⟩ := h i v hi
  exact ⟨b, hA, hB, (hb.cell (p := ⟨b, i, none⟩) hB).trans hc⟩
theorem VarsAt.mono {w : World} {B B' : Nat} {A : Option Addr} {vs : List Int} (h : VarsAt w B A vs) (hB : B ≤ B') : VarsAt w B' A vs := fun i v hi => by
  obtain ⟨b, hA, hb, hc⟩ := h i v hi
  exact ⟨b, hA, Nat.lt_of_lt_of_le hb hB, hc⟩

/-- A number, if it is one of 32 bits; else the kind of an overflow. -/
def cutI (n : Int) : Int × Int := if -2147483648 ≤ n ∧ n ≤ 2147483647 then (n, 0) else (0, 2)
/-- What an operation makes of two numbers. -/
def opI (k a b : Int) : Int × Int :=
  if k = 4 then cutI (a + b) else if k = 5 then cutI (a - b) else if k = 6 then cutI (a * b) else if b = 0 then (0, 3) else if k = 7 then cutI (a.tdiv b) else cutI (a.tmod b)
/-- Of two, the left one ahead. -/
def two (l r : Int × Int) (f : Int → Int → Int × Int) : Int × Int := if l.2 ≠ 0 then (0, l.2) else if r.2 ≠ 0 then (0, r.2) else f l.1 r.1
/-- The number of an expression, or 0 and the kind of an error. -/
def evF (vs : List Int) : Nat → Ex → Int × Int
  | 0, _ => (0, 0)
  | d + 1, .mk k m x kids =>
    if k = 1 then cutI m
    else if k = 2 then (if 0 ≤ x ∧ x < (vs.length : Int) then cutI (vs.getD x.toNat 0) else (0, 0))
    else if k = 3 then (match kids with
      | [a] => if (evF vs d a).2 ≠ 0 then (0, (evF vs d a).2) else cutI (- (evF vs d a).1)
      | _ => (0, 0))
    else if 4 ≤ k ∧ k ≤ 8 then (match kids with
      | [a, b] => two (evF vs d a) (evF vs d b) (opI k)
      | _ => (0, 0))
    else (0, 0)
def InR (p : Int × Int) : Prop := -2147483648 ≤ p.1 ∧ p.1 ≤ 2147483647 ∧ (p.2 = 0 ∨ p.2 = 2 ∨ p.2 = 3) ∧ (p.2 = 0 ∨ p.1 = 0)
theorem cutI_in (n : Int) : InR (cutI n) := by
  unfold cutI InR
  split <;> simp <;> omega
theorem opI_in (k a b : Int) : InR (opI k a b) := by
  unfold opI
  repeat' split
  all_goals first | exact cutI_in _ | (unfold InR; simp)
theorem evF_in (vs : List Int) : ∀ (d : Nat) (e : Ex), InR (evF vs d e) := by
  intro d
  induction d with
  | zero => intro e; unfold evF InR; simp
  | succ d ih =>
    intro e
    obtain ⟨k, m, x, kids⟩ := e
    unfold evF
    repeat' split
    all_goals first
      | exact cutI_in _
      | (unfold InR; simp; done)
      | (rename_i a _; have := ih a; unfold InR at *; simp; omega)
      | (rename_i a b _; have h1 := ih a; have h2 := ih b; unfold two; repeat' split
         all_goals first | exact opI_in _ _ _ | (unfold InR at *; simp; omega))
      | (rename_i a; have := ih a; unfold InR at *; simp; omega)
      | (rename_i a b; have h1 := ih a; have h2 := ih b; unfold two; repeat' split
         all_goals first | exact opI_in _ _ _ | (unfold InR at *; simp; omega))
end Go.Proofs.Ytdagadcflignfaa
