/-
  EvalNones: of no numbers nothing comes, and no error; of expressions that cannot be nothing panics.
  Conditions: none.
-/
import Derived.Test.YtbcbcambkjhhhaaRows
import Derived.WalkKit
import Derived.ProofKit
import Derived.OpenShut
import Derived.ChangeOld
import Derived.Below
import Derived.HandedShaped
import Derived.Test.YtbcbcambkjhhhaaMm1
namespace Go.Proofs.Ytbcbcambkjhhhaa.Sx.Z
theorem evalNones_ob : ∀ d0 Ds, SmallB (ex (d0.el 0 0).toI (d0.el 0 1).toI (d0.el 0 2).toI (d0.el 0 3)) → DsOk tt [3] Ds → lawOb tt enonesC [24, 3] (d0 :: Ds) := by
  intro d0 Ds hS hD
  obtain ⟨d1, Ds, rfl, h1, hD⟩ := dsOk_cons hD
  obtain rfl := dsOk_nil hD
  refine kmp (q := true = true ∧
 SmallB
 (ex (d0.el (0 : Nat) (0 : Nat)).toI (d0.el (0 : Nat) ((0 : Nat) + (1 : Nat))).toI (d0.el (0 : Nat) ((0 : Nat) + (1 : Nat) + (1 : Nat))).toI
 (d0.el (0 : Nat) ((0 : Nat) + (1 : Nat) + (1 : Nat) + (1 : Nat)))) ∧
 True) (by kernel_rfl) ?_
  exact ⟨rfl, hS, trivial⟩
end Go.Proofs.Ytbcbcambkjhhhaa.Sx.Z
namespace Go.Proofs.Ytbcbcambkjhhhaa
open Go.ChangeShapes Go.WideShapes Go.ChangeAt Go.RowKit
theorem evalNones_own : ownKnob Try.prog.godebug = none := by kernel_rfl
theorem evalNones_laidOut : laidOutB Try.prog = true := by kernel_rfl
set_option maxRecDepth 100000 in
theorem evalNones_lifted (os : Os) (started : os.Started) (H : Type) (enc : TypeId × Value → H) :
    ReturnsInHanded {} Try.checked os 10 .any (Rows.evalNonesSpec.pre6 enc Try.prog Try.f10 Rows.evalNonesRow.domain false) (Rows.evalNonesSpec.post enc Try.prog Try.f10 false true false false) := by
  refine returnsInHanded_of_change_shaped (C := Try.checked) evalNones_own started (by kernel_rfl) Try.func10
    (ChangeSpec.witness6 (enc := enc) (C := Try.checked) false ⟨#[], #[.agg #[.int .i64 0, .int .i64 0, .int .i64 0, .slice none 0 0], .int .i64 0], []⟩ 8 (by kernel_rfl) (by kernel_rfl) (by kernel_rfl) (by kernel_rfl)) ?_
  intro W base args ds gs before hval0 hW _ hz _ _
  have hval : ∀ (j : Nat) t v, Try.f10.params[j]? = some t → args[j]? = some v → Value.okWide Try.prog W .any base t v := hval0
  have hW' := hW
  obtain ⟨p, q, hA0, hV, rfl, _, _⟩ := hW
  have hA : DataW.TrodAll enc Try.prog W 0 (fun _ => true) true Try.f10.params.toList args.toList ds p := hA0
  rw [Try.params10] at hA hval
  obtain ⟨rfl, rfl⟩ := trodVars_none hV
  clear hA0 hval0
  obtain ⟨v0, vs0, d0, ds0, p0, q0, hargs, rfl, rfl, h0, r0⟩ := trodAll_cons hA
  have hz3 : ((DataW.weightsEach Try.prog (24 :: (3 :: DataSpec.varTypes Try.checked.prog Rows.evalNonesSpec.plain)) (d0 :: (ds0 ++ []))).all (fun x => decide (x ≤ reachBytes))) = true := by
    rw [Try.params10] at hz
    exact hz
  rw [DataW.weightsEach, List.all_append, Bool.and_eq_true] at hz3
  have hk0 : Sx.kT Sx.Z.tt 9 24 = some [.int .i64, .int .i64, .int .i64, .slice 24] := by kernel_rfl
  refine (Sx.law_in3 Sx.Z.tt_ok Sx.Z.kall Sx.Z.enones_ok (T := 24) (Ts := [3]) rfl hargs h0 r0 (fun x hx => of_decide_eq_true (List.all_eq_true.1 hz3.1 x hx)) hk0 hval fun d Ds hB hD => Sx.Z.evalNones_ob d Ds (Sx.Z.small_in _ _ (Nat.lt_succ_self _) (hB 3 _ rfl) _ _ _) hD).mono fun e W' ⟨he, bel⟩ => ?_
  subst he
  have hO := Sx.args_out evalNones_laidOut bel _ _ _ _ (by kernel_rfl) hA
  rw [← Try.params10] at hO
  obtain ⟨_, _, x1, ds1, _, _, _, rfl, _, _, r1⟩ := trodAll_cons r0
  obtain ⟨_, rfl, _⟩ := trodAll_nil r1
  exact ⟨_, rfl, _, _, _, [], _, [], hW', trodAll_mk1 (shut_bool Try.underlying4 _), hO, rfl, bel.frame _, fun h => by cases h⟩
theorem evalNones_holds : Rows.EvalNonesSaid :=
  OpenClaim.holds_of_wide 10 Try.f10 rfl rfl rfl rfl rfl rfl rfl ⟨rfl, rfl, rfl, rfl, rfl⟩ rfl rfl rfl rfl rfl (by kernel_rfl) Try.func10 (by kernel_rfl)
    (of_decide_eq_true (by kernel_rfl)) (by unfold Func.isWrapper; first | (rw [if_pos (by decide +kernel)]; kernel_rfl) | (rw [if_neg (by decide +kernel)]; exact ⟨rfl, rfl⟩))
    (fun os started H enc _ => evalNones_lifted os started H enc)
end Go.Proofs.Ytbcbcambkjhhhaa
