/-
  EvalAlone: of one row of numbers alone just its number, or its error, is told.
  Conditions: none.
-/
import Derived.Test.YtbcbcambkjhhhaaRows
import Derived.Test.YtbcbcambkjhhhaaProg
import Derived.Test.YtbcbcambkjhhhaaChecked
import Derived.WalkKit
import Derived.ProofKit
import Derived.OpenShut
import Derived.ChangeOld
import Derived.Below
import Derived.Laws.Bits64
import Derived.ChangeArms
import Derived.WideShapes
import Derived.ChangeShapes
import Derived.Carry
import Derived.DataReads
import Derived.KernelRfl
import Derived.Deep.LoopGhost
import Derived.Laws.Append
import Derived.Laws.AppendOwn
import Derived.Laws.MakeOwn
import Derived.Laws.StructEq
import Derived.Laws.Cells
import Derived.Laws.CopyRow
import Derived.Laws.Rows
import Derived.Orders
import Derived.ChangeKeysEq
import Derived.IntWalk
import Derived.Deep.CutRange
import Derived.Handy
import Derived.Lib.Hide
import Derived.Deep.WholeRow
import Derived.Deep.Cut
import Derived.Deep.RegionHeld3
import Derived.RegionTactic
import Derived.Test.YtbcbcambkjhhhaaMA
import Derived.Test.YtbcbcambkjhhhaaMB
import Derived.Test.YtbcbcambkjhhhaaMC
import Derived.Test.YtbcbcambkjhhhaaMD
import Derived.Test.YtbcbcambkjhhhaaME
import Derived.Test.YtbcbcambkjhhhaaMF
import Derived.Test.YtbcbcambkjhhhaaMG
import Derived.Test.YtbcbcambkjhhhaaMH
import Derived.Test.YtbcbcambkjhhhaaMI
import Derived.Test.YtbcbcambkjhhhaaMJ
import Derived.Test.YtbcbcambkjhhhaaMK
import Derived.Test.YtbcbcambkjhhhaaML
import Derived.Test.YtbcbcambkjhhhaaMM
import Derived.Test.YtbcbcambkjhhhaaMj1
import Derived.Test.YtbcbcambkjhhhaaMd1
import Derived.Test.YtbcbcambkjhhhaaMe1
namespace Go.Proofs.Ytbcbcambkjhhhaa.Sx.Z
theorem evalAlone_ob : ∀ Ds, DsOk tt [24, 25, 3] Ds → lawOb tt ealoneC [24, 25, 3] Ds := by
  intro Ds hD
  obtain ⟨d0, Ds, rfl, h0, hD⟩ := dsOk_cons hD
  obtain ⟨d1, Ds, rfl, h1, hD⟩ := dsOk_cons hD
  obtain ⟨d2, Ds, rfl, h2, hD⟩ := dsOk_cons hD
  obtain rfl := dsOk_nil hD
  have k0 := h0 _ (by kernel_rfl : kT tt 9 24 = some ([.int .i64, .int .i64, .int .i64, .slice 24]))
  have k1 := h1 _ (by kernel_rfl : kT tt 9 25 = some ([.int .i32, .int .i32, .int .i32]))
  have k2 := h2 _ (by kernel_rfl : kT tt 9 3 = some ([.int .i64]))
  refine kmp (q := true = true ∧
 (∀ (j : Nat), j < (3 : Nat) → (-2147483648 : Int) ≤ (d1.el (0 : Nat) ((0 : Nat) + j)).toI ∧ (d1.el (0 : Nat) ((0 : Nat) + j)).toI ≤ (2147483647 : Int)) ∧ True) (by kernel_rfl) ?_
  exact ⟨rfl, fun j hj => by
    have q : j = 0 ∨ j = 1 ∨ j = 2 := by omega
    rw [Nat.zero_add]
    rcases q with rfl | rfl | rfl
    · exact dok_i32 (k1 0 _ rfl)
    · exact dok_i32 (k1 1 _ rfl)
    · exact dok_i32 (k1 2 _ rfl), trivial⟩
end Go.Proofs.Ytbcbcambkjhhhaa.Sx.Z
namespace Go.Proofs.Ytbcbcambkjhhhaa
open Go.ChangeShapes Go.WideShapes Go.ChangeAt Go.RowKit
theorem evalAlone_own : ownKnob Try.prog.godebug = none := by kernel_rfl
theorem evalAlone_laidOut : laidOutB Try.prog = true := by kernel_rfl
set_option maxRecDepth 100000 in
theorem evalAlone_lifted (os : Os) (started : os.Started) (H : Type) (enc : TypeId × Value → H) :
    ReturnsInHanded {} Try.checked os 8 .any (Rows.evalAloneSpec.pre6 enc Try.prog Try.f8 Rows.evalAloneRow.domain false) (Rows.evalAloneSpec.post enc Try.prog Try.f8 false true false false) := by
  refine returnsInHanded_of_change (C := Try.checked) evalAlone_own started (by kernel_rfl) Try.func8
    (ChangeSpec.witness6 (enc := enc) (C := Try.checked) false ⟨#[], #[.agg #[.int .i64 0, .int .i64 0, .int .i64 0, .slice none 0 0], .agg #[.int .i32 0, .int .i32 0, .int .i32 0], .int .i64 0], []⟩ 8 (by kernel_rfl) (by kernel_rfl) (by kernel_rfl) (by kernel_rfl)) ?_
  intro W base args ds gs before hval0 hW _ _
  have hval : ∀ (j : Nat) t v, Try.f8.params[j]? = some t → args[j]? = some v → Value.okWide Try.prog W .any base t v := hval0
  have hW' := hW
  obtain ⟨p, q, hA0, hV, rfl, _, _⟩ := hW
  have hA : DataW.TrodAll enc Try.prog W 0 (fun _ => true) true Try.f8.params.toList args.toList ds p := hA0
  rw [Try.params8] at hA hval
  obtain ⟨rfl, rfl⟩ := trodVars_none hV
  clear hA0 hval0
  refine (Sx.law_in Sx.Z.tt_ok Sx.Z.kall Sx.Z.ealone_ok hA hval Sx.Z.evalAlone_ob).mono fun e W' ⟨he, bel⟩ => ?_
  subst he
  have hO := Sx.args_out evalAlone_laidOut bel _ _ _ _ (by kernel_rfl) hA
  rw [← Try.params8] at hO
  obtain ⟨_, _, x0, ds0, _, _, _, rfl, _, _, r0⟩ := trodAll_cons hA
  obtain ⟨_, _, x1, ds1, _, _, _, rfl, _, _, r1⟩ := trodAll_cons r0
  obtain ⟨_, _, x2, ds2, _, _, _, rfl, _, _, r2⟩ := trodAll_cons r1
  obtain ⟨_, rfl, _⟩ := trodAll_nil r2
  exact ⟨_, rfl, _, _, _, [], _, [], hW', trodAll_mk1 (shut_bool Try.underlying4 _), hO, rfl, bel.frame _, fun h => by cases h⟩
theorem evalAlone_holds : Rows.EvalAloneSaid :=
  OpenClaim.holds_of_wide 8 Try.f8 rfl rfl rfl rfl rfl rfl rfl ⟨rfl, rfl, rfl, rfl, rfl⟩ rfl rfl rfl rfl rfl (by kernel_rfl) Try.func8 (by kernel_rfl)
    (of_decide_eq_true (by kernel_rfl)) (by unfold Func.isWrapper; first | (rw [if_pos (by decide +kernel)]; kernel_rfl) | (rw [if_neg (by decide +kernel)]; exact ⟨rfl, rfl⟩))
    (fun os started H enc _ => evalAlone_lifted os started H enc)
end Go.Proofs.Ytbcbcambkjhhhaa
