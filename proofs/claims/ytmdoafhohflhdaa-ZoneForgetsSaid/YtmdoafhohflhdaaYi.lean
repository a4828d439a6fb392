/-
  ZoneForgets: a variable that was forgotten may be anything, and the others are as they were among themselves.
  Conditions: none.
-/
import Derived.Test.YtmdoafhohflhdaaRows
import Derived.Test.YtmdoafhohflhdaaYh
import Derived.WalkKit
import Derived.ProofKit
import Derived.OpenShut
import Derived.ChangeOld
import Derived.Below
namespace Go.Proofs.Ytmdoafhohflhdaa.Sx.Z
theorem zoneForgets_ob : ∀ Ds, DsOk tt [22, 3] Ds → lawOb tt zforgetsC [22, 3] Ds := by
  intro Ds hD
  obtain ⟨d0, Ds, rfl, h0, hD⟩ := dsOk_cons hD
  obtain ⟨d1, Ds, rfl, h1, hD⟩ := dsOk_cons hD
  obtain rfl := dsOk_nil hD
  have k0 := h0 _ (by kernel_rfl : kT tt 9 22 = some ([.slice 44]))
  have k1 := h1 _ (by kernel_rfl : kT tt 9 3 = some ([.int .i64]))
  refine kmp (q := true = true ∧ True) (by kernel_rfl) ?_
  exact ⟨rfl, trivial⟩
end Go.Proofs.Ytmdoafhohflhdaa.Sx.Z
namespace Go.Proofs.Ytmdoafhohflhdaa
open Go.ChangeShapes Go.WideShapes Go.ChangeAt Go.RowKit
theorem zoneForgets_own : ownKnob Try.prog.godebug = none := by kernel_rfl
theorem zoneForgets_laidOut : laidOutB Try.prog = true := by kernel_rfl
set_option maxRecDepth 100000 in
theorem zoneForgets_lifted (os : Os) (started : os.Started) (H : Type) (enc : TypeId × Value → H) :
    ReturnsInHanded {} Try.checked os 11 .any (Rows.zoneForgetsSpec.pre6 enc Try.prog Try.f11 Rows.zoneForgetsRow.domain false) (Rows.zoneForgetsSpec.post enc Try.prog Try.f11 false true false false) := by
  refine returnsInHanded_of_change (C := Try.checked) zoneForgets_own started (by kernel_rfl) Try.func11
    (ChangeSpec.witness6 (enc := enc) (C := Try.checked) false ⟨#[], #[.slice none 0 0, .int .i64 0], []⟩ 8 (by kernel_rfl) (by kernel_rfl) (by kernel_rfl) (by kernel_rfl)) ?_
  intro W base args ds gs before hval0 hW _ _
  have hval : ∀ (j : Nat) t v, Try.f11.params[j]? = some t → args[j]? = some v → Value.okWide Try.prog W .any base t v := hval0
  have hW' := hW
  obtain ⟨p, q, hA0, hV, rfl, _, _⟩ := hW
  have hA : DataW.TrodAll enc Try.prog W 0 (fun _ => true) true Try.f11.params.toList args.toList ds p := hA0
  rw [Try.params11] at hA hval
  obtain ⟨rfl, rfl⟩ := trodVars_none hV
  clear hA0 hval0
  refine (Sx.law_in Sx.Z.tt_ok Sx.Z.kall Sx.Z.zforgets_ok hA hval Sx.Z.zoneForgets_ob).mono fun e W' ⟨he, bel⟩ => ?_
  subst he
  have hO := Sx.args_out zoneForgets_laidOut bel _ _ _ _ (by kernel_rfl) hA
  rw [← Try.params11] at hO
  obtain ⟨_, _, x0, ds0, _, _, _, rfl, _, _, r0⟩ := trodAll_cons hA
  obtain ⟨_, _, x1, ds1, _, _, _, rfl, _, _, r1⟩ := trodAll_cons r0
  obtain ⟨_, rfl, _⟩ := trodAll_nil r1
  exact ⟨_, rfl, _, _, _, [], _, [], hW', trodAll_mk1 (shut_bool Try.underlying4 _), hO, rfl, bel.frame _, fun h => by cases h⟩
theorem zoneForgets_holds : Rows.ZoneForgetsSaid :=
  OpenClaim.holds_of_wide 11 Try.f11 rfl rfl rfl rfl rfl rfl rfl ⟨rfl, rfl, rfl, rfl, rfl⟩ rfl rfl rfl rfl rfl (by kernel_rfl) Try.func11 (by kernel_rfl)
    (of_decide_eq_true (by kernel_rfl)) (by unfold Func.isWrapper; first | (rw [if_pos (by decide +kernel)]; kernel_rfl) | (rw [if_neg (by decide +kernel)]; exact ⟨rfl, rfl⟩))
    (fun os started H enc _ => zoneForgets_lifted os started H enc)
end Go.Proofs.Ytmdoafhohflhdaa
