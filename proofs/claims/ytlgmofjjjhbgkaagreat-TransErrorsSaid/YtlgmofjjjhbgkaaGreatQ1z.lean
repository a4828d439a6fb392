/-
  TransErrors: of one row of numbers an edge tells just the error that there is, of expressions and assertions
  Conditions: none.
-/
import Derived.Test.YtlgmofjjjhbgkaaGreatRows
import Derived.Test.YtlgmofjjjhbgkaaGreatQ1
import Derived.WalkKit
import Derived.ProofKit
import Derived.OpenShut
import Derived.ChangeOld
import Derived.Below
namespace Go.Proofs.YtlgmofjjjhbgkaaGreat.Sx.Z
theorem transErrors_ob : ∀ Ds, DsOk tt [22, 22, 3] Ds → lawOb tt terrorsC [22, 22, 3] Ds := by
  intro Ds hD
  obtain ⟨d0, Ds, rfl, h0, hD⟩ := dsOk_cons hD
  obtain ⟨d1, Ds, rfl, h1, hD⟩ := dsOk_cons hD
  obtain ⟨d2, Ds, rfl, h2, hD⟩ := dsOk_cons hD
  obtain rfl := dsOk_nil hD
  have k0 := h0 _ (by kernel_rfl : kT tt 9 22 = some ([.int .i32, .int .i32]))
  have k1 := h1 _ (by kernel_rfl : kT tt 9 22 = some ([.int .i32, .int .i32]))
  have k2 := h2 _ (by kernel_rfl : kT tt 9 3 = some ([.int .i64]))
  refine kmp (q := true = true ∧
 (∀ (j : Nat), j < (2 : Nat) → (-2147483648 : Int) ≤ (d0.el (0 : Nat) ((0 : Nat) + j)).toI ∧ (d0.el (0 : Nat) ((0 : Nat) + j)).toI ≤ (2147483647 : Int)) ∧
 (∀ (j : Nat), j < (2 : Nat) → (-2147483648 : Int) ≤ (d1.el (0 : Nat) ((0 : Nat) + j)).toI ∧ (d1.el (0 : Nat) ((0 : Nat) + j)).toI ≤ (2147483647 : Int)) ∧
 True) (by kernel_rfl) ?_
  exact ⟨rfl, fun j hj => by
    have q : j = 0 ∨ j = 1 := by omega
    rcases q with rfl | rfl
    · exact dok_i32 (k0 0 _ rfl)
    · exact dok_i32 (k0 1 _ rfl), fun j hj => by
    have q : j = 0 ∨ j = 1 := by omega
    rcases q with rfl | rfl
    · exact dok_i32 (k1 0 _ rfl)
    · exact dok_i32 (k1 1 _ rfl), trivial⟩
end Go.Proofs.YtlgmofjjjhbgkaaGreat.Sx.Z
namespace Go.Proofs.YtlgmofjjjhbgkaaGreat
open Go.ChangeShapes Go.WideShapes Go.ChangeAt Go.RowKit
theorem transErrors_own : ownKnob Tryz.prog.godebug = none := by kernel_rfl
theorem transErrors_laidOut : laidOutB Tryz.prog = true := by kernel_rfl
set_option maxRecDepth 100000 in
theorem transErrors_lifted (os : Os) (started : os.Started) (H : Type) (enc : TypeId × Value → H) :
    ReturnsInHanded {} Tryz.checked os 3 .any (Rows.transErrorsSpec.pre6 enc Tryz.prog Tryz.f3 Rows.transErrorsRow.domain false) (Rows.transErrorsSpec.post enc Tryz.prog Tryz.f3 false true false false) := by
  refine returnsInHanded_of_change (C := Tryz.checked) transErrors_own started (by kernel_rfl) Tryz.func3
    (ChangeSpec.witness6 (enc := enc) (C := Tryz.checked) false ⟨#[], #[.agg #[.int .i32 0, .int .i32 0], .agg #[.int .i32 0, .int .i32 0], .int .i64 0], []⟩ 8 (by kernel_rfl) (by kernel_rfl) (by kernel_rfl) (by kernel_rfl)) ?_
  intro W base args ds gs before hval0 hW _ _
  have hval : ∀ (j : Nat) t v, Tryz.f3.params[j]? = some t → args[j]? = some v → Value.okWide Tryz.prog W .any base t v := hval0
  have hW' := hW
  obtain ⟨p, q, hA0, hV, rfl, _, _⟩ := hW
  have hA : DataW.TrodAll enc Tryz.prog W 0 (fun _ => true) true Tryz.f3.params.toList args.toList ds p := hA0
  rw [Tryz.params3] at hA hval
  obtain ⟨rfl, rfl⟩ := trodVars_none hV
  clear hA0 hval0
  refine (Sx.law_in Sx.Z.tt_ok Sx.Z.kall Sx.Z.terrors_ok hA hval Sx.Z.transErrors_ob).mono fun e W' ⟨he, bel⟩ => ?_
  subst he
  have hO := Sx.args_out transErrors_laidOut bel _ _ _ _ (by kernel_rfl) hA
  rw [← Tryz.params3] at hO
  obtain ⟨_, _, x0, ds0, _, _, _, rfl, _, _, r0⟩ := trodAll_cons hA
  obtain ⟨_, _, x1, ds1, _, _, _, rfl, _, _, r1⟩ := trodAll_cons r0
  obtain ⟨_, _, x2, ds2, _, _, _, rfl, _, _, r2⟩ := trodAll_cons r1
  obtain ⟨_, rfl, _⟩ := trodAll_nil r2
  exact ⟨_, rfl, _, _, _, [], _, [], hW', trodAll_mk1 (shut_bool Tryz.underlying4 _), hO, rfl, bel.frame _, fun h => by cases h⟩
theorem transErrors_holds : Rows.TransErrorsSaid :=
  OpenClaim.holds_of_wide 3 Tryz.f3 rfl rfl rfl rfl rfl rfl rfl ⟨rfl, rfl, rfl, rfl, rfl⟩ rfl rfl rfl rfl rfl (by kernel_rfl) Tryz.func3 (by kernel_rfl)
    (of_decide_eq_true (by kernel_rfl)) (by unfold Func.isWrapper; first | (rw [if_pos (by decide +kernel)]; kernel_rfl) | (rw [if_neg (by decide +kernel)]; exact ⟨rfl, rfl⟩))
    (fun os started H enc _ => transErrors_lifted os started H enc)
end Go.Proofs.YtlgmofjjjhbgkaaGreat
