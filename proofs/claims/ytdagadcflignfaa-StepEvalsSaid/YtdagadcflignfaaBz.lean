/-
  StepEvals: of all expressions, comparisons and variables the number, or the error, is told.
  Conditions: none.
-/
import Derived.Test.YtdagadcflignfaaRows
import Derived.WalkKit
import Derived.ProofKit
import Derived.OpenShut
import Derived.ChangeOld
import Derived.Below
import Derived.Test.YtdagadcflignfaaB28
namespace Go.Proofs.Ytdagadcflignfaa.Sx.Z
theorem stepEvals_ob : ∀ Ds, DsOk tt [64, 64, 65] Ds → lawOb tt sevalsC [64, 64, 65] Ds := by
  intro Ds hD
  obtain ⟨d0, Ds, rfl, h0, hD⟩ := dsOk_cons hD
  obtain ⟨d1, Ds, rfl, h1, hD⟩ := dsOk_cons hD
  obtain ⟨d2, Ds, rfl, h2, hD⟩ := dsOk_cons hD
  obtain rfl := dsOk_nil hD
  have k0 := h0 _ (by kernel_rfl : kT tt 9 64 = some ([.int .i64, .int .i64, .int .i64, .slice 64]))
  have k1 := h1 _ (by kernel_rfl : kT tt 9 64 = some ([.int .i64, .int .i64, .int .i64, .slice 64]))
  have k2 := h2 _ (by kernel_rfl : kT tt 9 65 = some ([.int .i32, .int .i32, .int .i32]))
  refine kmp (q := true = true ∧ (R3 fun (o : Nat) => (d2.el (0 : Nat) ((0 : Nat) + o)).toI) ∧ True) (by kernel_rfl) ?_
  exact ⟨rfl, fun j hj => by
    have q : j = 0 ∨ j = 1 ∨ j = 2 := by omega
    show -2147483648 ≤ (d2.el 0 (0 + j)).toI ∧ (d2.el 0 (0 + j)).toI ≤ 2147483647
    rw [Nat.zero_add]
    rcases q with rfl | rfl | rfl
    · exact dok_i32 (k2 0 _ rfl)
    · exact dok_i32 (k2 1 _ rfl)
    · exact dok_i32 (k2 2 _ rfl), trivial⟩
end Go.Proofs.Ytdagadcflignfaa.Sx.Z
namespace Go.Proofs.Ytdagadcflignfaa
open Go.ChangeShapes Go.WideShapes Go.ChangeAt Go.RowKit
theorem stepEvals_own : ownKnob Try.prog.godebug = none := by kernel_rfl
theorem stepEvals_laidOut : laidOutB Try.prog = true := by kernel_rfl
set_option maxRecDepth 100000 in
theorem stepEvals_lifted (os : Os) (started : os.Started) (H : Type) (enc : TypeId × Value → H) :
    ReturnsInHanded {} Try.checked os 5 .any (Rows.stepEvalsSpec.pre6 enc Try.prog Try.f5 Rows.stepEvalsRow.domain false) (Rows.stepEvalsSpec.post enc Try.prog Try.f5 false true false false) := by
  refine returnsInHanded_of_change (C := Try.checked) stepEvals_own started (by kernel_rfl) Try.func5
    (ChangeSpec.witness6 (enc := enc) (C := Try.checked) false ⟨#[], #[.agg #[.int .i64 0, .int .i64 0, .int .i64 0, .slice none 0 0], .agg #[.int .i64 0, .int .i64 0, .int .i64 0, .slice none 0 0], .agg #[.int .i32 0, .int .i32 0, .int .i32 0]], []⟩ 8 (by kernel_rfl) (by kernel_rfl) (by kernel_rfl) (by kernel_rfl)) ?_
  intro W base args ds gs before hval0 hW _ _
  have hval : ∀ (j : Nat) t v, Try.f5.params[j]? = some t → args[j]? = some v → Value.okWide Try.prog W .any base t v := hval0
  have hW' := hW
  obtain ⟨p, q, hA0, hV, rfl, _, _⟩ := hW
  have hA : DataW.TrodAll enc Try.prog W 0 (fun _ => true) true Try.f5.params.toList args.toList ds p := hA0
  rw [Try.params5] at hA hval
  obtain ⟨rfl, rfl⟩ := trodVars_none hV
  clear hA0 hval0
  refine (Sx.law_in Sx.Z.tt_ok Sx.Z.kall Sx.Z.sevals_ok hA hval Sx.Z.stepEvals_ob).mono fun e W' ⟨he, bel⟩ => ?_
  subst he
  have hO := Sx.args_out stepEvals_laidOut bel _ _ _ _ (by kernel_rfl) hA
  rw [← Try.params5] at hO
  obtain ⟨_, _, x0, ds0, _, _, _, rfl, _, _, r0⟩ := trodAll_cons hA
  obtain ⟨_, _, x1, ds1, _, _, _, rfl, _, _, r1⟩ := trodAll_cons r0
  obtain ⟨_, _, x2, ds2, _, _, _, rfl, _, _, r2⟩ := trodAll_cons r1
  obtain ⟨_, rfl, _⟩ := trodAll_nil r2
  exact ⟨_, rfl, _, _, _, [], _, [], hW', trodAll_mk1 (shut_bool Try.underlying4 _), hO, rfl, bel.frame _, fun h => by cases h⟩
theorem stepEvals_holds : Rows.StepEvalsSaid :=
  OpenClaim.holds_of_wide 5 Try.f5 rfl rfl rfl rfl rfl rfl rfl ⟨rfl, rfl, rfl, rfl, rfl⟩ rfl rfl rfl rfl rfl (by kernel_rfl) Try.func5 (by kernel_rfl)
    (of_decide_eq_true (by kernel_rfl)) (by unfold Func.isWrapper; first | (rw [if_pos (by decide +kernel)]; kernel_rfl) | (rw [if_neg (by decide +kernel)]; exact ⟨rfl, rfl⟩))
    (fun os started H enc _ => stepEvals_lifted os started H enc)
end Go.Proofs.Ytdagadcflignfaa
