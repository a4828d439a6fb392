/-
  NumNobody: of variables that there are not, and of Nums of another count, the Num is told as it is.
  Conditions: none.
-/
import Derived.Test.YtefdfggkhnahiaaRows
import Derived.Test.YtefdfggkhnahiaaNt
import Derived.WalkKit
import Derived.ProofKit
import Derived.OpenShut
import Derived.ChangeOld
import Derived.Below
namespace Go.Proofs.Ytefdfggkhnahiaa.Sx.Z
theorem numNobody_ob : ∀ Ds, DsOk tt [3, 3, 36] Ds → lawOb tt nnobodyC [3, 3, 36] Ds := by
  intro Ds hD
  obtain ⟨d0, Ds, rfl, h0, hD⟩ := dsOk_cons hD
  obtain ⟨d1, Ds, rfl, h1, hD⟩ := dsOk_cons hD
  obtain ⟨d2, Ds, rfl, h2, hD⟩ := dsOk_cons hD
  obtain rfl := dsOk_nil hD
  have k0 := h0 _ (by kernel_rfl : kT tt 9 3 = some ([.int .i64]))
  have k1 := h1 _ (by kernel_rfl : kT tt 9 3 = some ([.int .i64]))
  have k2 := h2 _ (by kernel_rfl : kT tt 9 36 = some ([.int .i64, .int .i64]))
  refine kmp (q := true = true ∧ True) (by kernel_rfl) ?_
  exact ⟨rfl, trivial⟩
end Go.Proofs.Ytefdfggkhnahiaa.Sx.Z
namespace Go.Proofs.Ytefdfggkhnahiaa
open Go.ChangeShapes Go.WideShapes Go.ChangeAt Go.RowKit
theorem numNobody_own : ownKnob Try.prog.godebug = none := by kernel_rfl
theorem numNobody_laidOut : laidOutB Try.prog = true := by kernel_rfl
set_option maxRecDepth 100000 in
theorem numNobody_lifted (os : Os) (started : os.Started) (H : Type) (enc : TypeId × Value → H) :
    ReturnsInHanded {} Try.checked os 6 .any (Rows.numNobodySpec.pre6 enc Try.prog Try.f6 Rows.numNobodyRow.domain false) (Rows.numNobodySpec.post enc Try.prog Try.f6 false true false false) := by
  refine returnsInHanded_of_change (C := Try.checked) numNobody_own started (by kernel_rfl) Try.func6
    (ChangeSpec.witness6 (enc := enc) (C := Try.checked) false ⟨#[], #[.int .i64 0, .int .i64 0, .agg #[.int .i64 0, .int .i64 0]], []⟩ 8 (by kernel_rfl) (by kernel_rfl) (by kernel_rfl) (by kernel_rfl)) ?_
  intro W base args ds gs before hval0 hW _ _
  have hval : ∀ (j : Nat) t v, Try.f6.params[j]? = some t → args[j]? = some v → Value.okWide Try.prog W .any base t v := hval0
  have hW' := hW
  obtain ⟨p, q, hA0, hV, rfl, _, _⟩ := hW
  have hA : DataW.TrodAll enc Try.prog W 0 (fun _ => true) true Try.f6.params.toList args.toList ds p := hA0
  rw [Try.params6] at hA hval
  obtain ⟨rfl, rfl⟩ := trodVars_none hV
  clear hA0 hval0
  refine (Sx.law_in Sx.Z.tt_ok Sx.Z.kall Sx.Z.nnobody_ok hA hval Sx.Z.numNobody_ob).mono fun e W' ⟨he, bel⟩ => ?_
  subst he
  have hO := Sx.args_out numNobody_laidOut bel _ _ _ _ (by kernel_rfl) hA
  rw [← Try.params6] at hO
  obtain ⟨_, _, x0, ds0, _, _, _, rfl, _, _, r0⟩ := trodAll_cons hA
  obtain ⟨_, _, x1, ds1, _, _, _, rfl, _, _, r1⟩ := trodAll_cons r0
  obtain ⟨_, _, x2, ds2, _, _, _, rfl, _, _, r2⟩ := trodAll_cons r1
  obtain ⟨_, rfl, _⟩ := trodAll_nil r2
  exact ⟨_, rfl, _, _, _, [], _, [], hW', trodAll_mk1 (shut_bool Try.underlying4 _), hO, rfl, bel.frame _, fun h => by cases h⟩
theorem numNobody_holds : Rows.NumNobodySaid :=
  OpenClaim.holds_of_wide 6 Try.f6 rfl rfl rfl rfl rfl rfl rfl ⟨rfl, rfl, rfl, rfl, rfl⟩ rfl rfl rfl rfl rfl (by kernel_rfl) Try.func6 (by kernel_rfl)
    (of_decide_eq_true (by kernel_rfl)) (by unfold Func.isWrapper; first | (rw [if_pos (by decide +kernel)]; kernel_rfl) | (rw [if_neg (by decide +kernel)]; exact ⟨rfl, rfl⟩))
    (fun os started H enc _ => numNobody_lifted os started H enc)
end Go.Proofs.Ytefdfggkhnahiaa
