/-
  step's Eval of trees that tame tells.
-/
import Derived.Test.YtdagadcflignfaaB20
namespace Go.Proofs.Ytdagadcflignfaa.Sx.Z
open Go.RowKit
def cutP (n : Int) : Int × Int := if n < -2147483648 ∨ 2147483647 < n then (0, 2) else (n, 0)
def isN (n : Int) : Prop := -9223372036854775808 ≤ n ∧ n ≤ 9223372036854775807
theorem w32 (n : Int) (h : isN n) : (IntKind.i64.wrap (IntKind.i32.wrap n) = n) ↔ (-2147483648 ≤ n ∧ n ≤ 2147483647) := by
  unfold isN at h
  rw [IntKind.wrap_i32, IntKind.wrap_i64]
  omega
theorem cut_opT {k a b x : Int} (hx : valP k a b = x) (h7 : k ≤ 6 ∨ b ≠ 0) : (if errP k a b = 0 then (valP k a b, 0) else (0, errP k a b)) = cutP x := by
  have := errP_or k a b
  rw [hx] at this ⊢
  unfold cutP
  by_cases h : x < -2147483648 ∨ 2147483647 < x
  · have : errP k a b = 2 := by omega
    rw [if_pos h, if_neg (by omega), this]
  · rw [if_neg h, if_pos (by omega)]
theorem cut_in {n : Int} (h : -2147483648 ≤ n ∧ n ≤ 2147483647) : cutP n = (n, 0) := if_neg (by omega)
def bthP (r s : Int × Int) : Int := if r.2 ≠ 0 then r.2 else s.2
noncomputable def cutS : FSpec := fun ds _ => match ds with
  | [.i n] => some { val := .tup [.sc (.int .i64 (.sym (cutP n).1)), .sc (.int .i64 (.sym (cutP n).2))], vc := [isN n] }
  | _ => none
noncomputable def cutC : Con := con [iA] cutS
theorem cut_ok : ConOK Try.prog 42 cutC := by
  refine fn_ob tt_ok mixed Try.func42 rfl (fun _ _ => by kernel_rfl) (A := fun ds => ⟨fun _ => Cons.of [], fun _ => none, fun _ => none⟩) (fun _ _ => cons_nil) (by kernel_rfl) ?_
  intro ds fr
  unfold cutS
  split
  · rename_i n
    refine kmp (q := isN n →
 ((IntKind.i64.wrap (IntKind.i32.wrap n) != n) = true → (0 : Int) = (cutP n).fst ∧ (2 : Int) = (cutP n).snd) ∧
 ((IntKind.i64.wrap (IntKind.i32.wrap n) != n) = false → n = (cutP n).fst ∧ (0 : Int) = (cutP n).snd)) (by kernel_rfl) ?_
    intro hn
    have := w32 n hn
    unfold cutP
    refine ⟨fun e => ?_, fun e => ?_⟩
    · have e : ¬ IntKind.i64.wrap (IntKind.i32.wrap n) = n := by simpa using e
      rw [if_pos (by omega)]; exact ⟨rfl, rfl⟩
    · have e : IntKind.i64.wrap (IntKind.i32.wrap n) = n := by simpa using e
      rw [if_neg (by omega)]; exact ⟨rfl, rfl⟩
  · trivial
noncomputable def sevS : FSpec := fun ds _ => match ds with
  | [.i k, .i n, .i v, .d d, .d g] => some { val := .tup [.sc (.int .i64 (.sym (evT (vD g) (ex k n v d)).1)), .sc (.int .i64 (.sym (evT (vD g) (ex k n v d)).2))], vc := [Tm g.len (ex k n v d), InV g.len (vD g)] }
  | _ => none
noncomputable def sevC : Con := con [xpA, .sc (.rows 3)] sevS
noncomputable def sevM : List Dat → Nat := fun ds => match ds with
  | [.i k, .i n, .i v, .d d, .d g] => SizeOf.sizeOf d
  | _ => 0
noncomputable def sevSu (m : Nat) : FSpec := fun ds _ => match ds with
  | [.i k, .i n, .i v, .d d, .d g] => some { val := .tup [.sc (.int .i64 (.sym (evT (vD g) (ex k n v d)).1)), .sc (.int .i64 (.sym (evT (vD g) (ex k n v d)).2))], vc := [SizeOf.sizeOf d < m, Tm g.len (ex k n v d), InV g.len (vD g)] }
  | _ => none
theorem sev_under (m : Nat) : sevS.under sevM m = sevSu m := by
  funext ds fr
  unfold FSpec.under sevS sevM sevSu
  split
  · rename_i e h
    split at h
    · obtain rfl := Option.some.inj h; rfl
    · cases h
  · rename_i h
    split at h
    · cases h
    · rfl
noncomputable def negatedS (m : Nat) : FSpec := fun ds _ => match ds with
  | [.i k, .i n, .i v, .d d, .d g] => some { val := .tup [.sc (.int .i64 (.sym (opT 5 (0, 0) (evT (vD g) (ex k n v d))).1)), .sc (.int .i64 (.sym (opT 5 (0, 0) (evT (vD g) (ex k n v d))).2))], vc := [SizeOf.sizeOf d < m, Tm g.len (ex k n v d), InV g.len (vD g)] }
  | _ => none
noncomputable def negatedC (m : Nat) : Con := con [xpA, .sc (.rows 3)] (negatedS m)
theorem negated_ok {m : Nat} (ih : ConOK Try.prog 15 (con [xpA, .sc (.rows 3)] (sevSu m))) : ConOK Try.prog 43 (negatedC m) := by
  refine fn_ob tt_ok mixed Try.func43 rfl (fun _ _ => by kernel_rfl) (A := fun ds => ⟨fun _ => Cons.of [(15, (con [xpA, .sc (.rows 3)] (sevSu m))), (42, cutC)], fun _ => none, fun _ => none⟩) (fun _ _ => (cons_cons ih (cons_cons cut_ok cons_nil))) (by kernel_rfl) ?_
  intro ds fr
  unfold negatedS
  split
  · rename_i k n v d g
    refine kmp (q := SizeOf.sizeOf d < m →
 Tm (↑g.len : Int) (ex k n v d) →
 InV (↑g.len : Int) (vD g) →
 SizeOf.sizeOf d < m ∧
 Tm (↑g.len : Int) (ex k n v d) ∧
 InV (↑g.len : Int) (vD g) ∧
 (((evT (vD g) (ex k n v d)).snd != (0 : Int)) = true →
 (0 : Int) = (opT (5 : Int) ((0 : Int), (0 : Int)) (evT (vD g) (ex k n v d))).fst ∧
 (evT (vD g) (ex k n v d)).snd = (opT (5 : Int) ((0 : Int), (0 : Int)) (evT (vD g) (ex k n v d))).snd) ∧
 (((evT (vD g) (ex k n v d)).snd != (0 : Int)) = false →
 isN (IntKind.i64.wrap ((0 : Int) - (evT (vD g) (ex k n v d)).fst)) ∧
 (cutP (IntKind.i64.wrap ((0 : Int) - (evT (vD g) (ex k n v d)).fst))).fst =
 (opT (5 : Int) ((0 : Int), (0 : Int)) (evT (vD g) (ex k n v d))).fst ∧
 (cutP (IntKind.i64.wrap ((0 : Int) - (evT (vD g) (ex k n v d)).fst))).snd =
 (opT (5 : Int) ((0 : Int), (0 : Int)) (evT (vD g) (ex k n v d))).snd)) (by kernel_rfl) ?_
    intro hm hT hg
    have ra := ev_in hg hT
    generalize evT (vD g) (ex k n v d) = r at *
    refine ⟨hm, hT, hg, fun e => ?_, fun e => ?_⟩
    · have e : r.2 ≠ 0 := by simpa using e
      rw [opT_r rfl e]; exact ⟨rfl, rfl⟩
    · have e : r.2 = 0 := by simpa using e
      have w : IntKind.i64.wrap (0 - r.1) = 0 - r.1 := wr _ (by omega)
      have q := cut_opT (k := 5) (a := 0) (b := r.1) (x := 0 - r.1) rfl (by omega)
      rw [w, opT_v rfl e]
      dsimp only
      rw [q]
      exact ⟨by unfold isN; omega, rfl, rfl⟩
  · trivial
noncomputable def bothS (m : Nat) : FSpec := fun ds _ => match ds with
  | [.i k, .i n, .i v, .d d, .i k2, .i n2, .i v2, .d d2, .d g] => some { val := .tup [.sc (.int .i64 (.sym (if (bthP (evT (vD g) (ex k n v d)) (evT (vD g) (ex k2 n2 v2 d2))) = 0 then (evT (vD g) (ex k n v d)).1 else 0))), .sc (.int .i64 (.sym (if (bthP (evT (vD g) (ex k n v d)) (evT (vD g) (ex k2 n2 v2 d2))) = 0 then (evT (vD g) (ex k2 n2 v2 d2)).1 else 0))), .sc (.int .i64 (.sym (bthP (evT (vD g) (ex k n v d)) (evT (vD g) (ex k2 n2 v2 d2)))))], vc := [SizeOf.sizeOf d < m, SizeOf.sizeOf d2 < m, Tm g.len (ex k n v d), Tm g.len (ex k2 n2 v2 d2), InV g.len (vD g)] }
  | _ => none
noncomputable def bothC (m : Nat) : Con := con [xpA, xpA, .sc (.rows 3)] (bothS m)
theorem both_ok {m : Nat} (ih : ConOK Try.prog 15 (con [xpA, .sc (.rows 3)] (sevSu m))) : ConOK Try.prog 46 (bothC m) := by
  refine fn_ob tt_ok mixed Try.func46 rfl (fun _ _ => by kernel_rfl) (A := fun ds => ⟨fun _ => Cons.of [(15, (con [xpA, .sc (.rows 3)] (sevSu m)))], fun _ => none, fun _ => none⟩) (fun _ _ => (cons_cons ih cons_nil)) (by kernel_rfl) ?_
  intro ds fr
  unfold bothS
  split
  · rename_i k n v d k2 n2 v2 d2 g
    refine kmp (q := SizeOf.sizeOf d < m →
 SizeOf.sizeOf d2 < m →
 Tm (↑g.len : Int) (ex k n v d) →
 Tm (↑g.len : Int) (ex k2 n2 v2 d2) →
 InV (↑g.len : Int) (vD g) →
 SizeOf.sizeOf d < m ∧
 Tm (↑g.len : Int) (ex k n v d) ∧
 InV (↑g.len : Int) (vD g) ∧
 (((evT (vD g) (ex k n v d)).snd != (0 : Int)) = true →
 ((0 : Int) =
 if bthP (evT (vD g) (ex k n v d)) (evT (vD g) (ex k2 n2 v2 d2)) = (0 : Int) then (evT (vD g) (ex k n v d)).fst else (0 : Int)) ∧
 ((0 : Int) =
 if bthP (evT (vD g) (ex k n v d)) (evT (vD g) (ex k2 n2 v2 d2)) = (0 : Int) then (evT (vD g) (ex k2 n2 v2 d2)).fst else (0 : Int)) ∧
 (evT (vD g) (ex k n v d)).snd = bthP (evT (vD g) (ex k n v d)) (evT (vD g) (ex k2 n2 v2 d2))) ∧
 (((evT (vD g) (ex k n v d)).snd != (0 : Int)) = false →
 SizeOf.sizeOf d2 < m ∧
 Tm (↑g.len : Int) (ex k2 n2 v2 d2) ∧
 InV (↑g.len : Int) (vD g) ∧
 (((evT (vD g) (ex k2 n2 v2 d2)).snd != (0 : Int)) = true →
 ((0 : Int) =
 if bthP (evT (vD g) (ex k n v d)) (evT (vD g) (ex k2 n2 v2 d2)) = (0 : Int) then (evT (vD g) (ex k n v d)).fst
 else (0 : Int)) ∧
 ((0 : Int) =
 if bthP (evT (vD g) (ex k n v d)) (evT (vD g) (ex k2 n2 v2 d2)) = (0 : Int) then (evT (vD g) (ex k2 n2 v2 d2)).fst
 else (0 : Int)) ∧
 (evT (vD g) (ex k2 n2 v2 d2)).snd = bthP (evT (vD g) (ex k n v d)) (evT (vD g) (ex k2 n2 v2 d2))) ∧
 (((evT (vD g) (ex k2 n2 v2 d2)).snd != (0 : Int)) = false →
 ((evT (vD g) (ex k n v d)).fst =
 if bthP (evT (vD g) (ex k n v d)) (evT (vD g) (ex k2 n2 v2 d2)) = (0 : Int) then (evT (vD g) (ex k n v d)).fst
 else (0 : Int)) ∧
 ((evT (vD g) (ex k2 n2 v2 d2)).fst =
 if bthP (evT (vD g) (ex k n v d)) (evT (vD g) (ex k2 n2 v2 d2)) = (0 : Int) then (evT (vD g) (ex k2 n2 v2 d2)).fst
 else (0 : Int)) ∧
 (0 : Int) = bthP (evT (vD g) (ex k n v d)) (evT (vD g) (ex k2 n2 v2 d2))))) (by kernel_rfl) ?_
    intro h1 h2 hT hT2 hg
    have ra := ev_in hg hT
    have rb := ev_in hg hT2
    generalize evT (vD g) (ex k n v d) = r at *
    generalize evT (vD g) (ex k2 n2 v2 d2) = s at *
    refine ⟨h1, hT, hg, fun e => ?_, fun e => ⟨h2, hT2, hg, fun f => ?_, fun f => ?_⟩⟩
    · have e : r.2 ≠ 0 := by simpa using e
      have b : bthP r s = r.2 := if_pos e
      rw [b, if_neg e, if_neg e]; exact ⟨rfl, rfl, rfl⟩
    · have e : r.2 = 0 := by simpa using e
      have f : s.2 ≠ 0 := by simpa using f
      have b : bthP r s = s.2 := if_neg (by omega)
      rw [b, if_neg f, if_neg f]; exact ⟨rfl, rfl, rfl⟩
    · have e : r.2 = 0 := by simpa using e
      have f : s.2 = 0 := by simpa using f
      have b : bthP r s = 0 := (if_neg (by omega)).trans f
      rw [b, if_pos rfl, if_pos rfl]; exact ⟨rfl, rfl, rfl⟩
  · trivial
noncomputable def reckonS (m : Nat) : FSpec := fun ds _ => match ds with
  | [.i c, .i k, .i n, .i v, .d d, .i k2, .i n2, .i v2, .d d2, .d g] => some { val := .tup [.sc (.int .i64 (.sym (opT c (evT (vD g) (ex k n v d)) (evT (vD g) (ex k2 n2 v2 d2))).1)), .sc (.int .i64 (.sym (opT c (evT (vD g) (ex k n v d)) (evT (vD g) (ex k2 n2 v2 d2))).2))], vc := [SizeOf.sizeOf d < m, SizeOf.sizeOf d2 < m, 4 ≤ c ∧ c ≤ 8, Tm g.len (ex k n v d), Tm g.len (ex k2 n2 v2 d2), InV g.len (vD g)] }
  | _ => none
noncomputable def reckonC (m : Nat) : Con := con [iA, xpA, xpA, .sc (.rows 3)] (reckonS m)
theorem reckon_ok {m : Nat} (ih : ConOK Try.prog 15 (con [xpA, .sc (.rows 3)] (sevSu m))) : ConOK Try.prog 44 (reckonC m) := by
  refine fn_ob tt_ok mixed Try.func44 rfl (fun _ _ => by kernel_rfl) (A := fun ds => ⟨fun _ => Cons.of [(46, (bothC m)), (42, cutC)], fun _ => none, fun _ => none⟩) (fun _ _ => (cons_cons (both_ok ih) (cons_cons cut_ok cons_nil))) (by kernel_rfl) ?_
  intro ds fr
  unfold reckonS
  split
  · rename_i c k n v d k2 n2 v2 d2 g
    refine kmp (q := SizeOf.sizeOf d < m →
 SizeOf.sizeOf d2 < m →
 (4 : Int) ≤ c ∧ c ≤ (8 : Int) →
 Tm (↑g.len : Int) (ex k n v d) →
 Tm (↑g.len : Int) (ex k2 n2 v2 d2) →
 InV (↑g.len : Int) (vD g) →
 SizeOf.sizeOf d < m ∧
 SizeOf.sizeOf d2 < m ∧
 Tm (↑g.len : Int) (ex k n v d) ∧
 Tm (↑g.len : Int) (ex k2 n2 v2 d2) ∧
 InV (↑g.len : Int) (vD g) ∧
 ((bthP (evT (vD g) (ex k n v d)) (evT (vD g) (ex k2 n2 v2 d2)) != (0 : Int)) = true →
 (0 : Int) = (opT c (evT (vD g) (ex k n v d)) (evT (vD g) (ex k2 n2 v2 d2))).fst ∧
 bthP (evT (vD g) (ex k n v d)) (evT (vD g) (ex k2 n2 v2 d2)) =
 (opT c (evT (vD g) (ex k n v d)) (evT (vD g) (ex k2 n2 v2 d2))).snd) ∧
 ((bthP (evT (vD g) (ex k n v d)) (evT (vD g) (ex k2 n2 v2 d2)) != (0 : Int)) = false →
 ((c == (4 : Int)) = true →
 isN
 (IntKind.i64.wrap
 ((if bthP (evT (vD g) (ex k n v d)) (evT (vD g) (ex k2 n2 v2 d2)) = (0 : Int) then (evT (vD g) (ex k n v d)).fst
 else (0 : Int)) +
 if bthP (evT (vD g) (ex k n v d)) (evT (vD g) (ex k2 n2 v2 d2)) = (0 : Int) then (evT (vD g) (ex k2 n2 v2 d2)).fst
 else (0 : Int))) ∧
 (cutP
 (IntKind.i64.wrap
 ((if bthP (evT (vD g) (ex k n v d)) (evT (vD g) (ex k2 n2 v2 d2)) = (0 : Int) then (evT (vD g) (ex k n v d)).fst
 else (0 : Int)) +
 if bthP (evT (vD g) (ex k n v d)) (evT (vD g) (ex k2 n2 v2 d2)) = (0 : Int) then (evT (vD g) (ex k2 n2 v2 d2)).fst
 else (0 : Int)))).fst =
 (opT c (evT (vD g) (ex k n v d)) (evT (vD g) (ex k2 n2 v2 d2))).fst ∧
 (cutP
 (IntKind.i64.wrap
 ((if bthP (evT (vD g) (ex k n v d)) (evT (vD g) (ex k2 n2 v2 d2)) = (0 : Int) then (evT (vD g) (ex k n v d)).fst
 else (0 : Int)) +
 if bthP (evT (vD g) (ex k n v d)) (evT (vD g) (ex k2 n2 v2 d2)) = (0 : Int) then (evT (vD g) (ex k2 n2 v2 d2)).fst
 else (0 : Int)))).snd =
 (opT c (evT (vD g) (ex k n v d)) (evT (vD g) (ex k2 n2 v2 d2))).snd) ∧
 ((c == (4 : Int)) = false →
 ((c == (5 : Int)) = true →
 isN
 (IntKind.i64.wrap
 ((if bthP (evT (vD g) (ex k n v d)) (evT (vD g) (ex k2 n2 v2 d2)) = (0 : Int) then (evT (vD g) (ex k n v d)).fst
 else (0 : Int)) -
 if bthP (evT (vD g) (ex k n v d)) (evT (vD g) (ex k2 n2 v2 d2)) = (0 : Int) then (evT (vD g) (ex k2 n2 v2 d2)).fst
 else (0 : Int))) ∧
 (cutP
 (IntKind.i64.wrap
 ((if bthP (evT (vD g) (ex k n v d)) (evT (vD g) (ex k2 n2 v2 d2)) = (0 : Int) then (evT (vD g) (ex k n v d)).fst
 else (0 : Int)) -
 if bthP (evT (vD g) (ex k n v d)) (evT (vD g) (ex k2 n2 v2 d2)) = (0 : Int) then
 (evT (vD g) (ex k2 n2 v2 d2)).fst
 else (0 : Int)))).fst =
 (opT c (evT (vD g) (ex k n v d)) (evT (vD g) (ex k2 n2 v2 d2))).fst ∧
 (cutP
 (IntKind.i64.wrap
 ((if bthP (evT (vD g) (ex k n v d)) (evT (vD g) (ex k2 n2 v2 d2)) = (0 : Int) then (evT (vD g) (ex k n v d)).fst
 else (0 : Int)) -
 if bthP (evT (vD g) (ex k n v d)) (evT (vD g) (ex k2 n2 v2 d2)) = (0 : Int) then
 (evT (vD g) (ex k2 n2 v2 d2)).fst
 else (0 : Int)))).snd =
 (opT c (evT (vD g) (ex k n v d)) (evT (vD g) (ex k2 n2 v2 d2))).snd) ∧
 ((c == (5 : Int)) = false →
 ((c == (6 : Int)) = true →
 isN
 (IntKind.i64.wrap
 ((if bthP (evT (vD g) (ex k n v d)) (evT (vD g) (ex k2 n2 v2 d2)) = (0 : Int) then (evT (vD g) (ex k n v d)).fst
 else (0 : Int)) *
 if bthP (evT (vD g) (ex k n v d)) (evT (vD g) (ex k2 n2 v2 d2)) = (0 : Int) then (evT (vD g) (ex k2 n2 v2 d2)).fst
 else (0 : Int))) ∧
 (cutP
 (IntKind.i64.wrap
 ((if bthP (evT (vD g) (ex k n v d)) (evT (vD g) (ex k2 n2 v2 d2)) = (0 : Int) then
 (evT (vD g) (ex k n v d)).fst
 else (0 : Int)) *
 if bthP (evT (vD g) (ex k n v d)) (evT (vD g) (ex k2 n2 v2 d2)) = (0 : Int) then
 (evT (vD g) (ex k2 n2 v2 d2)).fst
 else (0 : Int)))).fst =
 (opT c (evT (vD g) (ex k n v d)) (evT (vD g) (ex k2 n2 v2 d2))).fst ∧
 (cutP
 (IntKind.i64.wrap
 ((if bthP (evT (vD g) (ex k n v d)) (evT (vD g) (ex k2 n2 v2 d2)) = (0 : Int) then
 (evT (vD g) (ex k n v d)).fst
 else (0 : Int)) *
 if bthP (evT (vD g) (ex k n v d)) (evT (vD g) (ex k2 n2 v2 d2)) = (0 : Int) then
 (evT (vD g) (ex k2 n2 v2 d2)).fst
 else (0 : Int)))).snd =
 (opT c (evT (vD g) (ex k n v d)) (evT (vD g) (ex k2 n2 v2 d2))).snd) ∧
 ((c == (6 : Int)) = false →
 (((if bthP (evT (vD g) (ex k n v d)) (evT (vD g) (ex k2 n2 v2 d2)) = (0 : Int) then (evT (vD g) (ex k2 n2 v2 d2)).fst
 else (0 : Int)) ==
 (0 : Int)) =
 true →
 (0 : Int) = (opT c (evT (vD g) (ex k n v d)) (evT (vD g) (ex k2 n2 v2 d2))).fst ∧
 (3 : Int) = (opT c (evT (vD g) (ex k n v d)) (evT (vD g) (ex k2 n2 v2 d2))).snd) ∧
 (((if bthP (evT (vD g) (ex k n v d)) (evT (vD g) (ex k2 n2 v2 d2)) = (0 : Int) then (evT (vD g) (ex k2 n2 v2 d2)).fst
 else (0 : Int)) ==
 (0 : Int)) =
 false →
 ((c == (7 : Int)) = true →
 (if bthP (evT (vD g) (ex k n v d)) (evT (vD g) (ex k2 n2 v2 d2)) = (0 : Int) then
 (evT (vD g) (ex k2 n2 v2 d2)).fst
 else (0 : Int)) ≠
 (0 : Int) ∧
 isN
 (IntKind.i64.wrap
 ((if bthP (evT (vD g) (ex k n v d)) (evT (vD g) (ex k2 n2 v2 d2)) = (0 : Int) then
 (evT (vD g) (ex k n v d)).fst
 else (0 : Int)).tdiv
 (if bthP (evT (vD g) (ex k n v d)) (evT (vD g) (ex k2 n2 v2 d2)) = (0 : Int) then
 (evT (vD g) (ex k2 n2 v2 d2)).fst
 else (0 : Int)))) ∧
 (cutP
 (IntKind.i64.wrap
 ((if bthP (evT (vD g) (ex k n v d)) (evT (vD g) (ex k2 n2 v2 d2)) = (0 : Int) then
 (evT (vD g) (ex k n v d)).fst
 else (0 : Int)).tdiv
 (if bthP (evT (vD g) (ex k n v d)) (evT (vD g) (ex k2 n2 v2 d2)) = (0 : Int) then
 (evT (vD g) (ex k2 n2 v2 d2)).fst
 else (0 : Int))))).fst =
 (opT c (evT (vD g) (ex k n v d)) (evT (vD g) (ex k2 n2 v2 d2))).fst ∧
 (cutP
 (IntKind.i64.wrap
 ((if bthP (evT (vD g) (ex k n v d)) (evT (vD g) (ex k2 n2 v2 d2)) = (0 : Int) then
 (evT (vD g) (ex k n v d)).fst
 else (0 : Int)).tdiv
 (if bthP (evT (vD g) (ex k n v d)) (evT (vD g) (ex k2 n2 v2 d2)) = (0 : Int) then
 (evT (vD g) (ex k2 n2 v2 d2)).fst
 else (0 : Int))))).snd =
 (opT c (evT (vD g) (ex k n v d)) (evT (vD g) (ex k2 n2 v2 d2))).snd) ∧
 ((c == (7 : Int)) = false →
 (if bthP (evT (vD g) (ex k n v d)) (evT (vD g) (ex k2 n2 v2 d2)) = (0 : Int) then
 (evT (vD g) (ex k2 n2 v2 d2)).fst
 else (0 : Int)) ≠
 (0 : Int) ∧
 isN
 ((if bthP (evT (vD g) (ex k n v d)) (evT (vD g) (ex k2 n2 v2 d2)) = (0 : Int) then
 (evT (vD g) (ex k n v d)).fst
 else (0 : Int)).tmod
 (if bthP (evT (vD g) (ex k n v d)) (evT (vD g) (ex k2 n2 v2 d2)) = (0 : Int) then
 (evT (vD g) (ex k2 n2 v2 d2)).fst
 else (0 : Int))) ∧
 (cutP
 ((if bthP (evT (vD g) (ex k n v d)) (evT (vD g) (ex k2 n2 v2 d2)) = (0 : Int) then
 (evT (vD g) (ex k n v d)).fst
 else (0 : Int)).tmod
 (if bthP (evT (vD g) (ex k n v d)) (evT (vD g) (ex k2 n2 v2 d2)) = (0 : Int) then
 (evT (vD g) (ex k2 n2 v2 d2)).fst
 else (0 : Int)))).fst =
 (opT c (evT (vD g) (ex k n v d)) (evT (vD g) (ex k2 n2 v2 d2))).fst ∧
 (cutP
 ((if bthP (evT (vD g) (ex k n v d)) (evT (vD g) (ex k2 n2 v2 d2)) = (0 : Int) then
 (evT (vD g) (ex k n v d)).fst
 else (0 : Int)).tmod
 (if bthP (evT (vD g) (ex k n v d)) (evT (vD g) (ex k2 n2 v2 d2)) = (0 : Int) then
 (evT (vD g) (ex k2 n2 v2 d2)).fst
 else (0 : Int)))).snd =
 (opT c (evT (vD g) (ex k n v d)) (evT (vD g) (ex k2 n2 v2 d2))).snd))))))) (by kernel_rfl) ?_
    intro h1 h2 hc hT hT2 hg
    have ra := ev_in hg hT
    have rb := ev_in hg hT2
    generalize evT (vD g) (ex k n v d) = r at *
    generalize evT (vD g) (ex k2 n2 v2 d2) = s at *
    refine ⟨h1, h2, hT, hT2, hg, fun e => ?_, fun e => ?_⟩
    · have e : bthP r s ≠ 0 := by simpa using e
      by_cases q : r.2 ≠ 0
      · rw [opT_l q]; exact ⟨rfl, if_pos q⟩
      · have b : bthP r s = s.2 := if_neg q
        rw [opT_r (by omega) (by omega)]; exact ⟨rfl, b⟩
    · have e : bthP r s = 0 := by simpa using e
      have r0 : r.2 = 0 := by
        by_cases q : r.2 ≠ 0
        · have b : bthP r s = r.2 := if_pos q
          omega
        · omega
      have s0 : s.2 = 0 := by
        have b : bthP r s = s.2 := if_neg (by omega)
        omega
      simp only [if_pos e]
      rw [opT_v r0 s0]
      obtain ⟨a, ea⟩ := r
      obtain ⟨b, eb⟩ := s
      dsimp only at *
      have z3 : 7 ≤ c → (b == 0) = true → 0 = (if errP c a b = 0 then (valP c a b, 0) else (0, errP c a b)).1 ∧ 3 = (if errP c a b = 0 then (valP c a b, 0) else (0, errP c a b)).2 := fun h7 q => by
        have q : b = 0 := by simpa using q
        have := errP_or c a b
        rw [if_neg (by omega)]
        exact ⟨rfl, by dsimp only; omega⟩
      have fin : ∀ {x : Int}, valP c a b = x → (c ≤ 6 ∨ b ≠ 0) → isN x → isN x ∧ (cutP x).1 = (if errP c a b = 0 then (valP c a b, 0) else (0, errP c a b)).1 ∧ (cutP x).2 = (if errP c a b = 0 then (valP c a b, 0) else (0, errP c a b)).2 := fun h1 h2 h3 => by
        rw [cut_opT h1 h2]; exact ⟨h3, rfl, rfl⟩
      have hk : c = 4 ∨ c = 5 ∨ c = 6 ∨ c = 7 ∨ c = 8 := by omega
      rcases hk with rfl | rfl | rfl | rfl | rfl <;> simp only [Int.reduceBEq, Bool.false_eq_true, false_implies, true_implies, and_true, true_and, Bool.true_eq_false]
      · rw [wr (a + b) (by omega)]; exact fin rfl (by omega) (by unfold isN; omega)
      · rw [wr (a - b) (by omega)]; exact fin rfl (by omega) (by unfold isN; omega)
      · have := mul_big a b (by omega) (by omega) (by omega) (by omega)
        rw [wr (a * b) this]; exact fin rfl (by omega) this
      · have q := Int.natAbs_tdiv_le_natAbs a b
        rw [wr (a.tdiv b) (by omega)]
        exact ⟨z3 (by omega), fun q => ⟨by simpa using q, fin rfl (.inr (by simpa using q)) (by unfold isN; omega)⟩⟩
      · have q : (a.tmod b).natAbs ≤ a.natAbs := by rw [Int.natAbs_tmod]; exact Nat.mod_le _ _
        exact ⟨z3 (by omega), fun q => ⟨by simpa using q, fin (show a - a.tdiv b * b = a.tmod b by rw [Int.tmod_def, Int.mul_comm]) (.inr (by simpa using q)) (by unfold isN; omega)⟩⟩
  · trivial
theorem sev_step (m : Nat) (ih : ConOK Try.prog 15 (con [xpA, .sc (.rows 3)] (sevSu m))) : ConOK Try.prog 15 (con [xpA, .sc (.rows 3)] (sevSu (m + 1))) := by
  refine fn_ob tt_ok mixed Try.func15 rfl (fun _ _ => by kernel_rfl) (A := fun ds => ⟨fun _ => Cons.of [(42, cutC), (43, (negatedC m)), (44, (reckonC m))], fun _ => none, fun _ => none⟩) (fun _ _ => (cons_cons cut_ok (cons_cons (negated_ok ih) (cons_cons (reckon_ok ih) cons_nil)))) (by kernel_rfl) ?_
  intro ds fr
  unfold sevSu
  split
  · rename_i k n v d g
    refine kmp (q := SizeOf.sizeOf d < m + (1 : Nat) →
 Tm (↑g.len : Int) (ex k n v d) →
 InV (↑g.len : Int) (vD g) →
 ((k == (1 : Int)) = true → isN n ∧ (cutP n).fst = (evT (vD g) (ex k n v d)).fst ∧ (cutP n).snd = (evT (vD g) (ex k n v d)).snd) ∧
 ((k == (1 : Int)) = false →
 ((k == (2 : Int)) = true →
 ((decide (v ≥ (0 : Int)) && decide (v < (↑g.len : Int))) = true →
 ((0 : Int) ≤ v ∧ v < (↑g.len : Int)) ∧
 isN (g.el v.toNat (0 : Nat)).toI ∧
 (cutP (g.el v.toNat (0 : Nat)).toI).fst = (evT (vD g) (ex k n v d)).fst ∧
 (cutP (g.el v.toNat (0 : Nat)).toI).snd = (evT (vD g) (ex k n v d)).snd) ∧
 ((decide (v ≥ (0 : Int)) && decide (v < (↑g.len : Int))) = false →
 (0 : Int) = (evT (vD g) (ex k n v d)).fst ∧ (0 : Int) = (evT (vD g) (ex k n v d)).snd)) ∧
 ((k == (2 : Int)) = false →
 ((k == (3 : Int)) = true →
 (((↑d.len : Int) == (1 : Int)) = true →
 nat_lit 0 < d.len ∧
 SizeOf.sizeOf (d.el (nat_lit 0) ((0 : Nat) + (1 : Nat) + (1 : Nat) + (1 : Nat))) < m ∧
 Tm (↑g.len : Int)
 (ex (d.el (nat_lit 0) (0 : Nat)).toI (d.el (nat_lit 0) ((0 : Nat) + (1 : Nat))).toI
 (d.el (nat_lit 0) ((0 : Nat) + (1 : Nat) + (1 : Nat))).toI (d.el (nat_lit 0) ((0 : Nat) + (1 : Nat) + (1 : Nat) + (1 : Nat)))) ∧
 InV (↑g.len : Int) (vD g) ∧
 (opT (5 : Int) ((0 : Int), (0 : Int))
 (evT (vD g)
 (ex (d.el (nat_lit 0) (0 : Nat)).toI (d.el (nat_lit 0) ((0 : Nat) + (1 : Nat))).toI
 (d.el (nat_lit 0) ((0 : Nat) + (1 : Nat) + (1 : Nat))).toI
 (d.el (nat_lit 0) ((0 : Nat) + (1 : Nat) + (1 : Nat) + (1 : Nat)))))).fst =
 (evT (vD g) (ex k n v d)).fst ∧
 (opT (5 : Int) ((0 : Int), (0 : Int))
 (evT (vD g)
 (ex (d.el (nat_lit 0) (0 : Nat)).toI (d.el (nat_lit 0) ((0 : Nat) + (1 : Nat))).toI
 (d.el (nat_lit 0) ((0 : Nat) + (1 : Nat) + (1 : Nat))).toI
 (d.el (nat_lit 0) ((0 : Nat) + (1 : Nat) + (1 : Nat) + (1 : Nat)))))).snd =
 (evT (vD g) (ex k n v d)).snd) ∧
 (((↑d.len : Int) == (1 : Int)) = false → (0 : Int) = (evT (vD g) (ex k n v d)).fst ∧ (0 : Int) = (evT (vD g) (ex k n v d)).snd)) ∧
 ((k == (3 : Int)) = false →
 ((k == (4 : Int)) = true →
 ((k == (4 : Int)) = true →
 (((↑d.len : Int) == (2 : Int)) = true →
 nat_lit 0 < d.len ∧
 nat_lit 1 < d.len ∧
 SizeOf.sizeOf (d.el (nat_lit 0) ((0 : Nat) + (1 : Nat) + (1 : Nat) + (1 : Nat))) < m ∧
 SizeOf.sizeOf (d.el (nat_lit 1) ((0 : Nat) + (1 : Nat) + (1 : Nat) + (1 : Nat))) < m ∧
 ((4 : Int) ≤ k ∧ k ≤ (8 : Int)) ∧
 Tm (↑g.len : Int)
 (ex (d.el (nat_lit 0) (0 : Nat)).toI (d.el (nat_lit 0) ((0 : Nat) + (1 : Nat))).toI
 (d.el (nat_lit 0) ((0 : Nat) + (1 : Nat) + (1 : Nat))).toI
 (d.el (nat_lit 0) ((0 : Nat) + (1 : Nat) + (1 : Nat) + (1 : Nat)))) ∧
 Tm (↑g.len : Int)
 (ex (d.el (nat_lit 1) (0 : Nat)).toI (d.el (nat_lit 1) ((0 : Nat) + (1 : Nat))).toI
 (d.el (nat_lit 1) ((0 : Nat) + (1 : Nat) + (1 : Nat))).toI
 (d.el (nat_lit 1) ((0 : Nat) + (1 : Nat) + (1 : Nat) + (1 : Nat)))) ∧
 InV (↑g.len : Int) (vD g) ∧
 (opT k
 (evT (vD g)
 (ex (d.el (nat_lit 0) (0 : Nat)).toI (d.el (nat_lit 0) ((0 : Nat) + (1 : Nat))).toI
 (d.el (nat_lit 0) ((0 : Nat) + (1 : Nat) + (1 : Nat))).toI
 (d.el (nat_lit 0) ((0 : Nat) + (1 : Nat) + (1 : Nat) + (1 : Nat)))))
 (evT (vD g)
 (ex (d.el (nat_lit 1) (0 : Nat)).toI (d.el (nat_lit 1) ((0 : Nat) + (1 : Nat))).toI
 (d.el (nat_lit 1) ((0 : Nat) + (1 : Nat) + (1 : Nat))).toI
 (d.el (nat_lit 1) ((0 : Nat) + (1 : Nat) + (1 : Nat) + (1 : Nat)))))).fst =
 (evT (vD g) (ex k n v d)).fst ∧
 (opT k
 (evT (vD g)
 (ex (d.el (nat_lit 0) (0 : Nat)).toI (d.el (nat_lit 0) ((0 : Nat) + (1 : Nat))).toI
 (d.el (nat_lit 0) ((0 : Nat) + (1 : Nat) + (1 : Nat))).toI
 (d.el (nat_lit 0) ((0 : Nat) + (1 : Nat) + (1 : Nat) + (1 : Nat)))))
 (evT (vD g)
 (ex (d.el (nat_lit 1) (0 : Nat)).toI (d.el (nat_lit 1) ((0 : Nat) + (1 : Nat))).toI
 (d.el (nat_lit 1) ((0 : Nat) + (1 : Nat) + (1 : Nat))).toI
 (d.el (nat_lit 1) ((0 : Nat) + (1 : Nat) + (1 : Nat) + (1 : Nat)))))).snd =
 (evT (vD g) (ex k n v d)).snd) ∧
 (((↑d.len : Int) == (2 : Int)) = false → (0 : Int) = (evT (vD g) (ex k n v d)).fst ∧ (0 : Int) = (evT (vD g) (ex k n v d)).snd)) ∧
 ((k == (4 : Int)) = false → (0 : Int) = (evT (vD g) (ex k n v d)).fst ∧ (0 : Int) = (evT (vD g) (ex k n v d)).snd)) ∧
 ((k == (4 : Int)) = false →
 ((k == (5 : Int)) = true →
 ((k == (5 : Int)) = true →
 (((↑d.len : Int) == (2 : Int)) = true →
 nat_lit 0 < d.len ∧
 nat_lit 1 < d.len ∧
 SizeOf.sizeOf (d.el (nat_lit 0) ((0 : Nat) + (1 : Nat) + (1 : Nat) + (1 : Nat))) < m ∧
 SizeOf.sizeOf (d.el (nat_lit 1) ((0 : Nat) + (1 : Nat) + (1 : Nat) + (1 : Nat))) < m ∧
 ((4 : Int) ≤ k ∧ k ≤ (8 : Int)) ∧
 Tm (↑g.len : Int)
 (ex (d.el (nat_lit 0) (0 : Nat)).toI (d.el (nat_lit 0) ((0 : Nat) + (1 : Nat))).toI
 (d.el (nat_lit 0) ((0 : Nat) + (1 : Nat) + (1 : Nat))).toI
 (d.el (nat_lit 0) ((0 : Nat) + (1 : Nat) + (1 : Nat) + (1 : Nat)))) ∧
 Tm (↑g.len : Int)
 (ex (d.el (nat_lit 1) (0 : Nat)).toI (d.el (nat_lit 1) ((0 : Nat) + (1 : Nat))).toI
 (d.el (nat_lit 1) ((0 : Nat) + (1 : Nat) + (1 : Nat))).toI
 (d.el (nat_lit 1) ((0 : Nat) + (1 : Nat) + (1 : Nat) + (1 : Nat)))) ∧
 InV (↑g.len : Int) (vD g) ∧
 (opT k
 (evT (vD g)
 (ex (d.el (nat_lit 0) (0 : Nat)).toI (d.el (nat_lit 0) ((0 : Nat) + (1 : Nat))).toI
 (d.el (nat_lit 0) ((0 : Nat) + (1 : Nat) + (1 : Nat))).toI
 (d.el (nat_lit 0) ((0 : Nat) + (1 : Nat) + (1 : Nat) + (1 : Nat)))))
 (evT (vD g)
 (ex (d.el (nat_lit 1) (0 : Nat)).toI (d.el (nat_lit 1) ((0 : Nat) + (1 : Nat))).toI
 (d.el (nat_lit 1) ((0 : Nat) + (1 : Nat) + (1 : Nat))).toI
 (d.el (nat_lit 1) ((0 : Nat) + (1 : Nat) + (1 : Nat) + (1 : Nat)))))).fst =
 (evT (vD g) (ex k n v d)).fst ∧
 (opT k
 (evT (vD g)
 (ex (d.el (nat_lit 0) (0 : Nat)).toI (d.el (nat_lit 0) ((0 : Nat) + (1 : Nat))).toI
 (d.el (nat_lit 0) ((0 : Nat) + (1 : Nat) + (1 : Nat))).toI
 (d.el (nat_lit 0) ((0 : Nat) + (1 : Nat) + (1 : Nat) + (1 : Nat)))))
 (evT (vD g)
 (ex (d.el (nat_lit 1) (0 : Nat)).toI (d.el (nat_lit 1) ((0 : Nat) + (1 : Nat))).toI
 (d.el (nat_lit 1) ((0 : Nat) + (1 : Nat) + (1 : Nat))).toI
 (d.el (nat_lit 1) ((0 : Nat) + (1 : Nat) + (1 : Nat) + (1 : Nat)))))).snd =
 (evT (vD g) (ex k n v d)).snd) ∧
 (((↑d.len : Int) == (2 : Int)) = false →
 (0 : Int) = (evT (vD g) (ex k n v d)).fst ∧ (0 : Int) = (evT (vD g) (ex k n v d)).snd)) ∧
 ((k == (5 : Int)) = false → (0 : Int) = (evT (vD g) (ex k n v d)).fst ∧ (0 : Int) = (evT (vD g) (ex k n v d)).snd)) ∧
 ((k == (5 : Int)) = false →
 ((k == (6 : Int)) = true →
 ((k == (6 : Int)) = true →
 (((↑d.len : Int) == (2 : Int)) = true →
 nat_lit 0 < d.len ∧
 nat_lit 1 < d.len ∧
 SizeOf.sizeOf (d.el (nat_lit 0) ((0 : Nat) + (1 : Nat) + (1 : Nat) + (1 : Nat))) < m ∧
 SizeOf.sizeOf (d.el (nat_lit 1) ((0 : Nat) + (1 : Nat) + (1 : Nat) + (1 : Nat))) < m ∧
 ((4 : Int) ≤ k ∧ k ≤ (8 : Int)) ∧
 Tm (↑g.len : Int)
 (ex (d.el (nat_lit 0) (0 : Nat)).toI (d.el (nat_lit 0) ((0 : Nat) + (1 : Nat))).toI
 (d.el (nat_lit 0) ((0 : Nat) + (1 : Nat) + (1 : Nat))).toI
 (d.el (nat_lit 0) ((0 : Nat) + (1 : Nat) + (1 : Nat) + (1 : Nat)))) ∧
 Tm (↑g.len : Int)
 (ex (d.el (nat_lit 1) (0 : Nat)).toI (d.el (nat_lit 1) ((0 : Nat) + (1 : Nat))).toI
 (d.el (nat_lit 1) ((0 : Nat) + (1 : Nat) + (1 : Nat))).toI
 (d.el (nat_lit 1) ((0 : Nat) + (1 : Nat) + (1 : Nat) + (1 : Nat)))) ∧
 InV (↑g.len : Int) (vD g) ∧
 (opT k
 (evT (vD g)
 (ex (d.el (nat_lit 0) (0 : Nat)).toI (d.el (nat_lit 0) ((0 : Nat) + (1 : Nat))).toI
 (d.el (nat_lit 0) ((0 : Nat) + (1 : Nat) + (1 : Nat))).toI
 (d.el (nat_lit 0) ((0 : Nat) + (1 : Nat) + (1 : Nat) + (1 : Nat)))))
 (evT (vD g)
 (ex (d.el (nat_lit 1) (0 : Nat)).toI (d.el (nat_lit 1) ((0 : Nat) + (1 : Nat))).toI
 (d.el (nat_lit 1) ((0 : Nat) + (1 : Nat) + (1 : Nat))).toI
 (d.el (nat_lit 1) ((0 : Nat) + (1 : Nat) + (1 : Nat) + (1 : Nat)))))).fst =
 (evT (vD g) (ex k n v d)).fst ∧
 (opT k
 (evT (vD g)
 (ex (d.el (nat_lit 0) (0 : Nat)).toI (d.el (nat_lit 0) ((0 : Nat) + (1 : Nat))).toI
 (d.el (nat_lit 0) ((0 : Nat) + (1 : Nat) + (1 : Nat))).toI
 (d.el (nat_lit 0) ((0 : Nat) + (1 : Nat) + (1 : Nat) + (1 : Nat)))))
 (evT (vD g)
 (ex (d.el (nat_lit 1) (0 : Nat)).toI (d.el (nat_lit 1) ((0 : Nat) + (1 : Nat))).toI
 (d.el (nat_lit 1) ((0 : Nat) + (1 : Nat) + (1 : Nat))).toI
 (d.el (nat_lit 1) ((0 : Nat) + (1 : Nat) + (1 : Nat) + (1 : Nat)))))).snd =
 (evT (vD g) (ex k n v d)).snd) ∧
 (((↑d.len : Int) == (2 : Int)) = false →
 (0 : Int) = (evT (vD g) (ex k n v d)).fst ∧ (0 : Int) = (evT (vD g) (ex k n v d)).snd)) ∧
 ((k == (6 : Int)) = false → (0 : Int) = (evT (vD g) (ex k n v d)).fst ∧ (0 : Int) = (evT (vD g) (ex k n v d)).snd)) ∧
 ((k == (6 : Int)) = false →
 ((k == (7 : Int)) = true →
 ((k == (7 : Int)) = true →
 (((↑d.len : Int) == (2 : Int)) = true →
 nat_lit 0 < d.len ∧
 nat_lit 1 < d.len ∧
 SizeOf.sizeOf (d.el (nat_lit 0) ((0 : Nat) + (1 : Nat) + (1 : Nat) + (1 : Nat))) < m ∧
 SizeOf.sizeOf (d.el (nat_lit 1) ((0 : Nat) + (1 : Nat) + (1 : Nat) + (1 : Nat))) < m ∧
 ((4 : Int) ≤ k ∧ k ≤ (8 : Int)) ∧
 Tm (↑g.len : Int)
 (ex (d.el (nat_lit 0) (0 : Nat)).toI (d.el (nat_lit 0) ((0 : Nat) + (1 : Nat))).toI
 (d.el (nat_lit 0) ((0 : Nat) + (1 : Nat) + (1 : Nat))).toI
 (d.el (nat_lit 0) ((0 : Nat) + (1 : Nat) + (1 : Nat) + (1 : Nat)))) ∧
 Tm (↑g.len : Int)
 (ex (d.el (nat_lit 1) (0 : Nat)).toI (d.el (nat_lit 1) ((0 : Nat) + (1 : Nat))).toI
 (d.el (nat_lit 1) ((0 : Nat) + (1 : Nat) + (1 : Nat))).toI
 (d.el (nat_lit 1) ((0 : Nat) + (1 : Nat) + (1 : Nat) + (1 : Nat)))) ∧
 InV (↑g.len : Int) (vD g) ∧
 (opT k
 (evT (vD g)
 (ex (d.el (nat_lit 0) (0 : Nat)).toI (d.el (nat_lit 0) ((0 : Nat) + (1 : Nat))).toI
 (d.el (nat_lit 0) ((0 : Nat) + (1 : Nat) + (1 : Nat))).toI
 (d.el (nat_lit 0) ((0 : Nat) + (1 : Nat) + (1 : Nat) + (1 : Nat)))))
 (evT (vD g)
 (ex (d.el (nat_lit 1) (0 : Nat)).toI (d.el (nat_lit 1) ((0 : Nat) + (1 : Nat))).toI
 (d.el (nat_lit 1) ((0 : Nat) + (1 : Nat) + (1 : Nat))).toI
 (d.el (nat_lit 1) ((0 : Nat) + (1 : Nat) + (1 : Nat) + (1 : Nat)))))).fst =
 (evT (vD g) (ex k n v d)).fst ∧
 (opT k
 (evT (vD g)
 (ex (d.el (nat_lit 0) (0 : Nat)).toI (d.el (nat_lit 0) ((0 : Nat) + (1 : Nat))).toI
 (d.el (nat_lit 0) ((0 : Nat) + (1 : Nat) + (1 : Nat))).toI
 (d.el (nat_lit 0) ((0 : Nat) + (1 : Nat) + (1 : Nat) + (1 : Nat)))))
 (evT (vD g)
 (ex (d.el (nat_lit 1) (0 : Nat)).toI (d.el (nat_lit 1) ((0 : Nat) + (1 : Nat))).toI
 (d.el (nat_lit 1) ((0 : Nat) + (1 : Nat) + (1 : Nat))).toI
 (d.el (nat_lit 1) ((0 : Nat) + (1 : Nat) + (1 : Nat) + (1 : Nat)))))).snd =
 (evT (vD g) (ex k n v d)).snd) ∧
 (((↑d.len : Int) == (2 : Int)) = false →
 (0 : Int) = (evT (vD g) (ex k n v d)).fst ∧ (0 : Int) = (evT (vD g) (ex k n v d)).snd)) ∧
 ((k == (7 : Int)) = false → (0 : Int) = (evT (vD g) (ex k n v d)).fst ∧ (0 : Int) = (evT (vD g) (ex k n v d)).snd)) ∧
 ((k == (7 : Int)) = false →
 ((k == (8 : Int)) = true →
 (((↑d.len : Int) == (2 : Int)) = true →
 nat_lit 0 < d.len ∧
 nat_lit 1 < d.len ∧
 SizeOf.sizeOf (d.el (nat_lit 0) ((0 : Nat) + (1 : Nat) + (1 : Nat) + (1 : Nat))) < m ∧
 SizeOf.sizeOf (d.el (nat_lit 1) ((0 : Nat) + (1 : Nat) + (1 : Nat) + (1 : Nat))) < m ∧
 ((4 : Int) ≤ k ∧ k ≤ (8 : Int)) ∧
 Tm (↑g.len : Int)
 (ex (d.el (nat_lit 0) (0 : Nat)).toI (d.el (nat_lit 0) ((0 : Nat) + (1 : Nat))).toI
 (d.el (nat_lit 0) ((0 : Nat) + (1 : Nat) + (1 : Nat))).toI
 (d.el (nat_lit 0) ((0 : Nat) + (1 : Nat) + (1 : Nat) + (1 : Nat)))) ∧
 Tm (↑g.len : Int)
 (ex (d.el (nat_lit 1) (0 : Nat)).toI (d.el (nat_lit 1) ((0 : Nat) + (1 : Nat))).toI
 (d.el (nat_lit 1) ((0 : Nat) + (1 : Nat) + (1 : Nat))).toI
 (d.el (nat_lit 1) ((0 : Nat) + (1 : Nat) + (1 : Nat) + (1 : Nat)))) ∧
 InV (↑g.len : Int) (vD g) ∧
 (opT k
 (evT (vD g)
 (ex (d.el (nat_lit 0) (0 : Nat)).toI (d.el (nat_lit 0) ((0 : Nat) + (1 : Nat))).toI
 (d.el (nat_lit 0) ((0 : Nat) + (1 : Nat) + (1 : Nat))).toI
 (d.el (nat_lit 0) ((0 : Nat) + (1 : Nat) + (1 : Nat) + (1 : Nat)))))
 (evT (vD g)
 (ex (d.el (nat_lit 1) (0 : Nat)).toI (d.el (nat_lit 1) ((0 : Nat) + (1 : Nat))).toI
 (d.el (nat_lit 1) ((0 : Nat) + (1 : Nat) + (1 : Nat))).toI
 (d.el (nat_lit 1) ((0 : Nat) + (1 : Nat) + (1 : Nat) + (1 : Nat)))))).fst =
 (evT (vD g) (ex k n v d)).fst ∧
 (opT k
 (evT (vD g)
 (ex (d.el (nat_lit 0) (0 : Nat)).toI (d.el (nat_lit 0) ((0 : Nat) + (1 : Nat))).toI
 (d.el (nat_lit 0) ((0 : Nat) + (1 : Nat) + (1 : Nat))).toI
 (d.el (nat_lit 0) ((0 : Nat) + (1 : Nat) + (1 : Nat) + (1 : Nat)))))
 (evT (vD g)
 (ex (d.el (nat_lit 1) (0 : Nat)).toI (d.el (nat_lit 1) ((0 : Nat) + (1 : Nat))).toI
 (d.el (nat_lit 1) ((0 : Nat) + (1 : Nat) + (1 : Nat))).toI
 (d.el (nat_lit 1) ((0 : Nat) + (1 : Nat) + (1 : Nat) + (1 : Nat)))))).snd =
 (evT (vD g) (ex k n v d)).snd) ∧
 (((↑d.len : Int) == (2 : Int)) = false →
 (0 : Int) = (evT (vD g) (ex k n v d)).fst ∧ (0 : Int) = (evT (vD g) (ex k n v d)).snd)) ∧
 ((k == (8 : Int)) = false → (0 : Int) = (evT (vD g) (ex k n v d)).fst ∧ (0 : Int) = (evT (vD g) (ex k n v d)).snd))))))))) (by kernel_rfl) ?_
    intro hm hT hg
    have e0 : ∀ i, ex (d.el i 0).toI (d.el i (0 + 1)).toI (d.el i (0 + 1 + 1)).toI (d.el i (0 + 1 + 1 + 1)) = exE d i := fun i => rfl
    simp only [e0]
    have hc := tm_cells hT
    have z0 := el_lt (d := d) (i := 0) (j := 0 + 1 + 1 + 1)
    have z1 := el_lt (d := d) (i := 1) (j := 0 + 1 + 1 + 1)
    rcases hc with ⟨l, ⟨rfl, hn⟩ | ⟨rfl, hv⟩⟩ | ⟨l, rfl, ha⟩ | ⟨l, h4, h8, ha, hb⟩
    · refine ⟨fun _ => ?_, fun e => absurd e (by decide)⟩
      rw [ev_c0 _ _ _ _ l, if_pos rfl, cut_in (by omega)]
      exact ⟨by unfold isN; omega, rfl, rfl⟩
    · refine ⟨fun e => absurd e (by decide), fun _ => ⟨fun _ => ⟨fun _ => ?_, fun e => ?_⟩, fun e => absurd e (by decide)⟩⟩
      · have := hg v hv.1 hv.2
        have ev : (g.el v.toNat 0).toI = vD g v := rfl
        rw [ev, ev_c0 _ _ _ _ l, if_neg (by decide), cut_in this]
        exact ⟨hv, by unfold isN; omega, rfl, rfl⟩
      · simp at e; omega
    · refine ⟨fun e => absurd e (by decide), fun _ => ⟨fun e => absurd e (by decide), fun _ => ⟨fun _ => ⟨fun _ => ?_, fun e => by simp [l] at e⟩, fun e => absurd e (by decide)⟩⟩⟩
      rw [ev_c1 _ _ _ _ l]
      exact ⟨by omega, by have := z0 (by omega); omega, ha, hg, rfl, rfl⟩
    · have hk : k = 4 ∨ k = 5 ∨ k = 6 ∨ k = 7 ∨ k = 8 := by omega
      rw [ev_c2 _ _ _ _ l]
      rcases hk with rfl | rfl | rfl | rfl | rfl <;> simp only [Int.reduceBEq, Bool.false_eq_true, false_implies, true_implies, and_true, true_and, Bool.true_eq_false] <;> exact ⟨fun _ => ⟨by omega, by omega, by have := z0 (by omega); omega, by have := z1 (by omega); omega, by omega, ha, hb, hg⟩, fun e => by simp [l] at e⟩
  · trivial
theorem sev_ok : ConOK Try.prog 15 sevC :=
  con_rec sevM (fun _ _ => by kernel_rfl) fun m ih => by
    rw [sev_under] at ih ⊢
    exact sev_step m ih
end Go.Proofs.Ytdagadcflignfaa.Sx.Z
