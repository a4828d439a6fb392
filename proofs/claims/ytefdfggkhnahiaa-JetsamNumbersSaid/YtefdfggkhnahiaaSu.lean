/-
  JetsamNumbers: of three variables of which two follow the first one, whatever holds one holds the others.
  Conditions: none.
-/
import Derived.Test.YtefdfggkhnahiaaRows
import Derived.Test.YtefdfggkhnahiaaSt
import Derived.WalkKit
import Derived.ProofKit
import Derived.OpenShut
import Derived.ChangeOld
import Derived.Below
namespace Go.Proofs.Ytefdfggkhnahiaa.Sx.Z
theorem jetsamNumbers_ob : ∀ Ds, DsOk tt [21, 5, 66] Ds → lawOb tt njetC [21, 5, 66] Ds := by
  intro Ds hD
  obtain ⟨d0, Ds, rfl, h0, hD⟩ := dsOk_cons hD
  obtain ⟨d1, Ds, rfl, h1, hD⟩ := dsOk_cons hD
  obtain ⟨d2, Ds, rfl, h2, hD⟩ := dsOk_cons hD
  obtain rfl := dsOk_nil hD
  have k0 := h0 _ (by kernel_rfl : kT tt 9 21 = some ([.int .i32]))
  have k1 := h1 _ (by kernel_rfl : kT tt 9 5 = some ([.int .u8]))
  have k2 := h2 _ (by kernel_rfl : kT tt 9 66 = some ([.int .i16, .int .i16]))
  refine kmp (q := true = true ∧
 ((-2147483648 : Int) ≤ (d0.el (0 : Nat) (0 : Nat)).toI ∧ (d0.el (0 : Nat) (0 : Nat)).toI ≤ (2147483647 : Int)) ∧
 ((0 : Int) ≤ (d1.el (0 : Nat) (0 : Nat)).toI ∧ (d1.el (0 : Nat) (0 : Nat)).toI ≤ (255 : Int)) ∧
 (∀ (o : Nat), o < (2 : Nat) → (-32768 : Int) ≤ (d2.el (0 : Nat) ((0 : Nat) + o)).toI ∧ (d2.el (0 : Nat) ((0 : Nat) + o)).toI ≤ (32767 : Int)) ∧ True) (by kernel_rfl) ?_
  exact ⟨rfl, dok_i32 (k0 _ _ rfl), dok_u8 (k1 _ _ rfl), fun o ho => by
    have : ∀ j, j < 2 → -32768 ≤ (d2.el 0 j).toI ∧ (d2.el 0 j).toI ≤ 32767 := fun j hj => by
      have : j = 0 ∨ j = 1 := by omega
      rcases this with rfl | rfl <;> exact dok_i16 (k2 _ _ rfl)
    rw [Nat.zero_add]
    exact this o ho, trivial⟩
end Go.Proofs.Ytefdfggkhnahiaa.Sx.Z
namespace Go.Proofs.Ytefdfggkhnahiaa
open Go.ChangeShapes Go.WideShapes Go.ChangeAt Go.RowKit
theorem jetsamNumbers_own : ownKnob Try.prog.godebug = none := by kernel_rfl
theorem jetsamNumbers_laidOut : laidOutB Try.prog = true := by kernel_rfl
set_option maxRecDepth 100000 in
theorem jetsamNumbers_lifted (os : Os) (started : os.Started) (H : Type) (enc : TypeId × Value → H) :
    ReturnsInHanded {} Try.checked os 10 .any (Rows.jetsamNumbersSpec.pre6 enc Try.prog Try.f10 Rows.jetsamNumbersRow.domain false) (Rows.jetsamNumbersSpec.post enc Try.prog Try.f10 false true false false) := by
  refine returnsInHanded_of_change (C := Try.checked) jetsamNumbers_own started (by kernel_rfl) Try.func10
    (ChangeSpec.witness6 (enc := enc) (C := Try.checked) false ⟨#[], #[.int .i32 0, .int .u8 0, .agg #[.int .i16 0, .int .i16 0]], []⟩ 8 (by kernel_rfl) (by kernel_rfl) (by kernel_rfl) (by kernel_rfl)) ?_
  intro W base args ds gs before hval0 hW _ _
  have hval : ∀ (j : Nat) t v, Try.f10.params[j]? = some t → args[j]? = some v → Value.okWide Try.prog W .any base t v := hval0
  have hW' := hW
  obtain ⟨p, q, hA0, hV, rfl, _, _⟩ := hW
  have hA : DataW.TrodAll enc Try.prog W 0 (fun _ => true) true Try.f10.params.toList args.toList ds p := hA0
  rw [Try.params10] at hA hval
  obtain ⟨rfl, rfl⟩ := trodVars_none hV
  clear hA0 hval0
  refine (Sx.law_in Sx.Z.tt_ok Sx.Z.kall (Sx.Z.njet_ok Sx.Z.stands_ok) hA hval Sx.Z.jetsamNumbers_ob).mono fun e W' ⟨he, bel⟩ => ?_
  subst he
  have hO := Sx.args_out jetsamNumbers_laidOut bel _ _ _ _ (by kernel_rfl) hA
  rw [← Try.params10] at hO
  obtain ⟨_, _, x0, ds0, _, _, _, rfl, _, _, r0⟩ := trodAll_cons hA
  obtain ⟨_, _, x1, ds1, _, _, _, rfl, _, _, r1⟩ := trodAll_cons r0
  obtain ⟨_, _, x2, ds2, _, _, _, rfl, _, _, r2⟩ := trodAll_cons r1
  obtain ⟨_, rfl, _⟩ := trodAll_nil r2
  exact ⟨_, rfl, _, _, _, [], _, [], hW', trodAll_mk1 (shut_bool Try.underlying4 _), hO, rfl, bel.frame _, fun h => by cases h⟩
theorem jetsamNumbers_holds : Rows.JetsamNumbersSaid :=
  OpenClaim.holds_of_wide 10 Try.f10 rfl rfl rfl rfl rfl rfl rfl ⟨rfl, rfl, rfl, rfl, rfl⟩ rfl rfl rfl rfl rfl (by kernel_rfl) Try.func10 (by kernel_rfl)
    (of_decide_eq_true (by kernel_rfl)) (by unfold Func.isWrapper; first | (rw [if_pos (by decide +kernel)]; kernel_rfl) | (rw [if_neg (by decide +kernel)]; exact ⟨rfl, rfl⟩))
    (fun os started H enc _ => jetsamNumbers_lifted os started H enc)
end Go.Proofs.Ytefdfggkhnahiaa
