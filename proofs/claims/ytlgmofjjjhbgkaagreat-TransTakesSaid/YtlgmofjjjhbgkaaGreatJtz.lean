/-
  TransTakes: over a Recv the variable is what the channel tells of that tag, and nothing if there is no message of it.
  Conditions: none.
-/
import Derived.Test.YtlgmofjjjhbgkaaGreatRows
import Derived.WalkKit
import Derived.ProofKit
import Derived.OpenShut
import Derived.ChangeOld
import Derived.Below
import Derived.Test.YtlgmofjjjhbgkaaGreatJt27
namespace Go.Proofs.YtlgmofjjjhbgkaaGreat.Sx.Z
theorem transTakes_ob : ∀ Ds, DsOk tt [21, 21, 4] Ds → lawOb tt uktakesC [21, 21, 4] Ds := by
  intro Ds hD
  obtain ⟨d0, Ds, rfl, h0, hD⟩ := dsOk_cons hD
  obtain ⟨d1, Ds, rfl, h1, hD⟩ := dsOk_cons hD
  obtain ⟨d2, Ds, rfl, h2, hD⟩ := dsOk_cons hD
  obtain rfl := dsOk_nil hD
  have k0 := h0 _ (by kernel_rfl : kT tt 9 21 = some ([.int .i32]))
  have k1 := h1 _ (by kernel_rfl : kT tt 9 21 = some ([.int .i32]))
  have k2 := h2 _ (by kernel_rfl : kT tt 9 4 = some ([.bool]))
  refine kmp (q := true = true ∧
 ((-2147483648 : Int) ≤ (d0.el (0 : Nat) (0 : Nat)).toI ∧ (d0.el (0 : Nat) (0 : Nat)).toI ≤ (2147483647 : Int)) ∧
 ((-2147483648 : Int) ≤ (d1.el (0 : Nat) (0 : Nat)).toI ∧ (d1.el (0 : Nat) (0 : Nat)).toI ≤ (2147483647 : Int)) ∧ True) (by kernel_rfl) ?_
  exact ⟨rfl, dok_i32 (k0 0 _ rfl), dok_i32 (k1 0 _ rfl), trivial⟩
end Go.Proofs.YtlgmofjjjhbgkaaGreat.Sx.Z
namespace Go.Proofs.YtlgmofjjjhbgkaaGreat
open Go.ChangeShapes Go.WideShapes Go.ChangeAt Go.RowKit
theorem transTakes_own : ownKnob Tryz.prog.godebug = none := by kernel_rfl
theorem transTakes_laidOut : laidOutB Tryz.prog = true := by kernel_rfl
set_option maxRecDepth 100000 in
theorem transTakes_lifted (os : Os) (started : os.Started) (H : Type) (enc : TypeId × Value → H) :
    ReturnsInHanded {} Tryz.checked os 6 .any (Rows.transTakesSpec.pre6 enc Tryz.prog Tryz.f6 Rows.transTakesRow.domain false) (Rows.transTakesSpec.post enc Tryz.prog Tryz.f6 false true false false) := by
  refine returnsInHanded_of_change (C := Tryz.checked) transTakes_own started (by kernel_rfl) Tryz.func6
    (ChangeSpec.witness6 (enc := enc) (C := Tryz.checked) false ⟨#[], #[.int .i32 0, .int .i32 0, .bool false], []⟩ 8 (by kernel_rfl) (by kernel_rfl) (by kernel_rfl) (by kernel_rfl)) ?_
  intro W base args ds gs before hval0 hW _ _
  have hval : ∀ (j : Nat) t v, Tryz.f6.params[j]? = some t → args[j]? = some v → Value.okWide Tryz.prog W .any base t v := hval0
  have hW' := hW
  obtain ⟨p, q, hA0, hV, rfl, _, _⟩ := hW
  have hA : DataW.TrodAll enc Tryz.prog W 0 (fun _ => true) true Tryz.f6.params.toList args.toList ds p := hA0
  rw [Tryz.params6] at hA hval
  obtain ⟨rfl, rfl⟩ := trodVars_none hV
  clear hA0 hval0
  refine (Sx.law_in Sx.Z.tt_ok Sx.Z.kall Sx.Z.uktakes_ok hA hval Sx.Z.transTakes_ob).mono fun e W' ⟨he, bel⟩ => ?_
  subst he
  have hO := Sx.args_out transTakes_laidOut bel _ _ _ _ (by kernel_rfl) hA
  rw [← Tryz.params6] at hO
  obtain ⟨_, _, x0, ds0, _, _, _, rfl, _, _, r0⟩ := trodAll_cons hA
  obtain ⟨_, _, x1, ds1, _, _, _, rfl, _, _, r1⟩ := trodAll_cons r0
  obtain ⟨_, _, x2, ds2, _, _, _, rfl, _, _, r2⟩ := trodAll_cons r1
  obtain ⟨_, rfl, _⟩ := trodAll_nil r2
  exact ⟨_, rfl, _, _, _, [], _, [], hW', trodAll_mk1 (shut_bool Tryz.underlying4 _), hO, rfl, bel.frame _, fun h => by cases h⟩
theorem transTakes_holds : Rows.TransTakesSaid :=
  OpenClaim.holds_of_wide 6 Tryz.f6 rfl rfl rfl rfl rfl rfl rfl ⟨rfl, rfl, rfl, rfl, rfl⟩ rfl rfl rfl rfl rfl (by kernel_rfl) Tryz.func6 (by kernel_rfl)
    (of_decide_eq_true (by kernel_rfl)) (by unfold Func.isWrapper; first | (rw [if_pos (by decide +kernel)]; kernel_rfl) | (rw [if_neg (by decide +kernel)]; exact ⟨rfl, rfl⟩))
    (fun os started H enc _ => transTakes_lifted os started H enc)
end Go.Proofs.YtlgmofjjjhbgkaaGreat
