/-
  JetsamChannels: of messages that go by turns, as their rule lets them, each is had by what may be in the channel, and its state by what the rule may be in.
  Conditions: none.
-/
import Derived.Test.YtdagadcflignfaaRows
import Derived.WalkKit
import Derived.ProofKit
import Derived.OpenShut
import Derived.ChangeOld
import Derived.Below
import Derived.Test.YtdagadcflignfaaA20
namespace Go.Proofs.Ytdagadcflignfaa.Sx.Z
theorem jetsamChannels_ob : ∀ Ds, DsOk tt [3, 78] Ds → lawOb tt jchanC [3, 78] Ds := by
  intro Ds hD
  obtain ⟨d0, Ds, rfl, h0, hD⟩ := dsOk_cons hD
  obtain ⟨d1, Ds, rfl, h1, hD⟩ := dsOk_cons hD
  obtain rfl := dsOk_nil hD
  have k0 := h0 _ (by kernel_rfl : kT tt 9 3 = some ([.int .i64]))
  have k1 := h1 _ (by kernel_rfl : kT tt 9 78 = some ([.slice 21]))
  refine kmp (q := true = true ∧ Rn (d1.el (0 : Nat) (0 : Nat)) ∧ True) (by kernel_rfl) ?_
  have k := k1 0 _ rfl
  cases k with
  | slice e d hl h => exact ⟨rfl, fun i hi => dok_i32 (h i 0 _ hi (by rfl)), trivial⟩
end Go.Proofs.Ytdagadcflignfaa.Sx.Z
namespace Go.Proofs.Ytdagadcflignfaa
open Go.ChangeShapes Go.WideShapes Go.ChangeAt Go.RowKit
theorem jetsamChannels_own : ownKnob Try.prog.godebug = none := by kernel_rfl
theorem jetsamChannels_laidOut : laidOutB Try.prog = true := by kernel_rfl
set_option maxRecDepth 100000 in
theorem jetsamChannels_lifted (os : Os) (started : os.Started) (H : Type) (enc : TypeId × Value → H) :
    ReturnsInHanded {} Try.checked os 6 .any (Rows.jetsamChannelsSpec.pre6 enc Try.prog Try.f6 Rows.jetsamChannelsRow.domain false) (Rows.jetsamChannelsSpec.post enc Try.prog Try.f6 false true false false) := by
  refine returnsInHanded_of_change (C := Try.checked) jetsamChannels_own started (by kernel_rfl) Try.func6
    (ChangeSpec.witness6 (enc := enc) (C := Try.checked) false ⟨#[], #[.int .i64 0, .slice none 0 0], []⟩ 8 (by kernel_rfl) (by kernel_rfl) (by kernel_rfl) (by kernel_rfl)) ?_
  intro W base args ds gs before hval0 hW _ _
  have hval : ∀ (j : Nat) t v, Try.f6.params[j]? = some t → args[j]? = some v → Value.okWide Try.prog W .any base t v := hval0
  have hW' := hW
  obtain ⟨p, q, hA0, hV, rfl, _, _⟩ := hW
  have hA : DataW.TrodAll enc Try.prog W 0 (fun _ => true) true Try.f6.params.toList args.toList ds p := hA0
  rw [Try.params6] at hA hval
  obtain ⟨rfl, rfl⟩ := trodVars_none hV
  clear hA0 hval0
  refine (Sx.law_in Sx.Z.tt_ok Sx.Z.kall Sx.Z.jchan_ok hA hval Sx.Z.jetsamChannels_ob).mono fun e W' ⟨he, bel⟩ => ?_
  subst he
  have hO := Sx.args_out jetsamChannels_laidOut bel _ _ _ _ (by kernel_rfl) hA
  rw [← Try.params6] at hO
  obtain ⟨_, _, x0, ds0, _, _, _, rfl, _, _, r0⟩ := trodAll_cons hA
  obtain ⟨_, _, x1, ds1, _, _, _, rfl, _, _, r1⟩ := trodAll_cons r0
  obtain ⟨_, rfl, _⟩ := trodAll_nil r1
  exact ⟨_, rfl, _, _, _, [], _, [], hW', trodAll_mk1 (shut_bool Try.underlying4 _), hO, rfl, bel.frame _, fun h => by cases h⟩
theorem jetsamChannels_holds : Rows.JetsamChannelsSaid :=
  OpenClaim.holds_of_wide 6 Try.f6 rfl rfl rfl rfl rfl rfl rfl ⟨rfl, rfl, rfl, rfl, rfl⟩ rfl rfl rfl rfl rfl (by kernel_rfl) Try.func6 (by kernel_rfl)
    (of_decide_eq_true (by kernel_rfl)) (by unfold Func.isWrapper; first | (rw [if_pos (by decide +kernel)]; kernel_rfl) | (rw [if_neg (by decide +kernel)]; exact ⟨rfl, rfl⟩))
    (fun os started H enc _ => jetsamChannels_lifted os started H enc)
end Go.Proofs.Ytdagadcflignfaa
