import Derived.Test.YtbhbjhejkamlnaaRows
import Derived.WalkKit
import Derived.ProofKit
import Derived.OpenShut
import Derived.ChangeOld
import Derived.Below
import Derived.Test.YtbhbjhejkamlnaaZ18
namespace Go.Proofs.Ytbhbjhejkamlnaa.Sx.Z
theorem parseReads_ob : ∀ Ds, DsOk tt [9] Ds -> lawOb tt przC [9] Ds := by
  intro Ds hD
  obtain ⟨d0, Ds, rfl, h0, hD⟩ := dsOk_cons hD
  obtain rfl := dsOk_nil hD
  have k0 := h0 _ (by kernel_rfl : kT tt 9 9 = some ([.str]))
  refine kmp (q := true = true /\ True) (by kernel_rfl) ?_
  exact ⟨rfl, trivial⟩
end Go.Proofs.Ytbhbjhejkamlnaa.Sx.Z
namespace Go.Proofs.Ytbhbjhejkamlnaa
open Go.ChangeShapes Go.WideShapes Go.ChangeAt Go.RowKit
theorem parseReads_own : ownKnob Try.prog.godebug = none := by kernel_rfl
theorem parseReads_laidOut : laidOutB Try.prog = true := by kernel_rfl
set_option maxRecDepth 100000 in
theorem parseReads_lifted (os : Os) (started : os.Started) (H : Type) (enc : TypeId × Value -> H) :
    ReturnsInHanded {} Try.checked os 3 .any (Rows.parseReadsSpec.pre6 enc Try.prog Try.f3 Rows.parseReadsRow.domain false) (Rows.parseReadsSpec.post enc Try.prog Try.f3 false true false false) := by
  refine returnsInHanded_of_change (C := Try.checked) parseReads_own started (by kernel_rfl) Try.func3
    (ChangeSpec.witness6 (enc := enc) (C := Try.checked) false ⟨#[], #[.string ByteArray.empty], []⟩ 8 (by kernel_rfl) (by kernel_rfl) (by kernel_rfl) (by kernel_rfl)) ?_
  intro W base args ds gs before hval0 hW _ _
  have hval : ∀ (j : Nat) t v, Try.f3.params[j]? = some t -> args[j]? = some v -> Value.okWide Try.prog W .any base t v := hval0
  have hW' := hW
  obtain ⟨p, q, hA0, hV, rfl, _, _⟩ := hW
  have hA : DataW.TrodAll enc Try.prog W 0 (fun _ => true) true Try.f3.params.toList args.toList ds p := hA0
  rw [Try.params3] at hA hval
  obtain ⟨rfl, rfl⟩ := trodVars_none hV
  clear hA0 hval0
  refine (Sx.law_in Sx.Z.tt_ok Sx.Z.kall Sx.Z.prz_ok hA hval Sx.Z.parseReads_ob (fun _ _ h => h.elim)).mono fun e W' ⟨he, bel⟩ => ?_
  subst he
  have hO := Sx.args_out parseReads_laidOut bel _ _ _ _ (by kernel_rfl) hA
  rw [← Try.params3] at hO
  obtain ⟨_, _, x0, ds0, _, _, _, rfl, _, _, r0⟩ := trodAll_cons hA
  obtain ⟨_, rfl, _⟩ := trodAll_nil r0
  exact ⟨_, rfl, _, _, _, [], _, [], hW', trodAll_mk1 (shut_bool Try.underlying4 _), hO, rfl, bel.frame _, fun h => by cases h⟩
theorem parseReads_holds : Rows.ParseReadsSaid :=
  OpenClaim.holds_of_wide 3 Try.f3 rfl rfl rfl rfl rfl rfl rfl ⟨rfl, rfl, rfl, rfl, rfl⟩ rfl rfl rfl rfl rfl (by kernel_rfl) Try.func3 (by kernel_rfl)
    (of_decide_eq_true (by kernel_rfl)) (by unfold Func.isWrapper; first | (rw [if_pos (by decide +kernel)]; kernel_rfl) | (rw [if_neg (by decide +kernel)]; exact ⟨rfl, rfl⟩))
    (fun os started H enc _ => parseReads_lifted os started H enc)
end Go.Proofs.Ytbhbjhejkamlnaa
