/-
  ast.Words, as the executor knows it.
-/
import Derived.Test.YtomodncooiddaaaDoorLk
namespace Go.Proofs.YtomodncooiddaaaDoor.Sx.Z
open Go.RowKit
def wdD (ch ru pr : D) : D := cat (.l []) (syW ch ru pr)
/-- What Words answers: why there are none, or 0. -/
def wdE (ch ru pr : D) : Int := if syB ch ru pr = true then (if syN pr = true then (if ((wdD ch ru pr).len : Int) > 2000 then 4 else 0) else 6) else 5
def wdA (ch ru pr : D) : D := if wdE ch ru pr = 0 then wdD ch ru pr else .l []
theorem wd5 {ch ru pr : D} (h : syB ch ru pr = false) : wdE ch ru pr = 5 := by unfold wdE; rw [h]; rfl
theorem wd6 {ch ru pr : D} (h : syB ch ru pr = true) (h2 : syN pr = false) : wdE ch ru pr = 6 := by unfold wdE; rw [h, h2]; rfl
theorem wd4 {ch ru pr : D} (h : syB ch ru pr = true) (h2 : syN pr = true) (h3 : ((wdD ch ru pr).len : Int) > 2000) : wdE ch ru pr = 4 := by unfold wdE; rw [h, h2, if_pos rfl, if_pos rfl, if_pos h3]
theorem wd0 {ch ru pr : D} (h : syB ch ru pr = true) (h2 : syN pr = true) (h3 : ¬ ((wdD ch ru pr).len : Int) > 2000) : wdE ch ru pr = 0 := by unfold wdE; rw [h, h2, if_pos rfl, if_pos rfl, if_neg h3]
noncomputable def wrdS : FSpec := fun ds _ => match ds with
  | [.d ch, .d ru, .d pr] => some { val := .tup [.sc (.rows 9 (wdA ch ru pr)), .sc (.int .i64 (.sym (wdE ch ru pr)))], vc := [SyOK ch ru pr, (syB ch ru pr = true → syN pr = true → SyF ch ru pr)] }
  | _ => none
noncomputable def wrdC : Con := con [lSy] wrdS
theorem wrd_ok : ConOK Tryd.prog 8 wrdC := by
  refine fn_ob tt_ok mixed Tryd.func8 rfl (fun _ _ => by kernel_rfl) (A := fun ds => ⟨fun _ => Cons.of [(22, syrC), (23, sydC), (24, syxC), (25, tooMC)], fun _ => none, fun _ => none⟩) (fun _ _ => (cons_cons syr_ok (cons_cons syd_ok (cons_cons syx_ok (cons_cons tooM_ok cons_nil))))) (by kernel_rfl) ?_
  intro ds fr
  unfold wrdS
  split
  · rename_i ch ru pr
    refine kmp (q := SyOK ch ru pr →
 (syB ch ru pr = true → syN pr = true → SyF ch ru pr) →
 SyOK ch ru pr ∧
 ((!syB ch ru pr) = true → (wdA ch ru pr).rows = [] ∧ (5 : Int) = wdE ch ru pr) ∧
 ((!syB ch ru pr) = false →
 SyOK ch ru pr ∧
 syB ch ru pr = true ∧
 ((!syN pr) = true → (wdA ch ru pr).rows = [] ∧ (6 : Int) = wdE ch ru pr) ∧
 ((!syN pr) = false →
 SyOK ch ru pr ∧
 SyF ch ru pr ∧
 (D.l []).len ≤ (2001 : Nat) ∧
 (0 : Nat) = (0 : Nat) ∧
 (cat (D.l []) (syW ch ru pr)).len = (cat (D.l []) (syW ch ru pr)).len ∧
 (cat (D.l []) (syW ch ru pr)).len ≤ (3000000000000 : Nat) ∧
 (decide ((↑(cat (D.l []) (syW ch ru pr)).len : Int) > (2000 : Int)) = true →
 (wdA ch ru pr).rows = [] ∧ (4 : Int) = wdE ch ru pr) ∧
 (decide ((↑(cat (D.l []) (syW ch ru pr)).len : Int) > (2000 : Int)) = false →
 (0 : Nat) + (cat (D.l []) (syW ch ru pr)).len ≤ (cat (D.l []) (syW ch ru pr)).len ∧
 List.drop ((0 : Nat))
 (List.take ((0 : Nat) + (cat (D.l []) (syW ch ru pr)).len)
 (List.take (2001 : Nat) ([] ++ List.map sR (syW ch ru pr)))) =
 (wdA ch ru pr).rows ∧
 (0 : Int) = wdE ch ru pr)))) (by kernel_rfl) ?_
    intro hk hf
    have an : wdE ch ru pr ≠ 0 → (wdA ch ru pr).rows = [] := fun h => by unfold wdA; rw [if_neg h]; rfl
    refine ⟨hk, fun h => ?_, fun h => ?_⟩
    · rw [Bool.not_eq_true'] at h
      have e := wd5 h
      exact ⟨an (by rw [e]; decide), e.symm⟩
    · rw [Bool.not_eq_false'] at h
      refine ⟨hk, h, fun h2 => ?_, fun h2 => ?_⟩
      · rw [Bool.not_eq_true'] at h2
        have e := wd6 h h2
        exact ⟨an (by rw [e]; decide), e.symm⟩
      · rw [Bool.not_eq_false'] at h2
        refine ⟨hk, hf h h2, Nat.zero_le _, rfl, rfl, Nat.le_trans (cat_le _ _) (by decide), fun h3 => ?_, fun h3 => ?_⟩
        · have e := wd4 h h2 (of_decide_eq_true h3)
          exact ⟨an (by rw [e]; decide), e.symm⟩
        · have e := wd0 h h2 (of_decide_eq_false h3)
          have ea : wdA ch ru pr = wdD ch ru pr := if_pos e
          refine ⟨by omega, ?_, e.symm⟩
          rw [ea, Nat.zero_add]
          show List.drop 0 (List.take (wdD ch ru pr).rows.length (wdD ch ru pr).rows) = _
          rw [List.take_length]; rfl
  · trivial
end Go.Proofs.YtomodncooiddaaaDoor.Sx.Z
