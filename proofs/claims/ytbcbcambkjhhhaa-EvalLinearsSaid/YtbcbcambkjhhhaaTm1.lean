/-
  EvalLinears: of all expressions it is told whether they are a variable's number and so much more.
  Conditions: none.
-/
import Derived.Test.YtbcbcambkjhhhaaRows
import Derived.Test.YtbcbcambkjhhhaaProg
import Derived.Test.YtbcbcambkjhhhaaChecked
import Derived.WalkKit
import Derived.ProofKit
import Derived.OpenShut
import Derived.ChangeOld
import Derived.Below
import Derived.Laws.Bits64
import Derived.ChangeArms
import Derived.WideShapes
import Derived.ChangeShapes
import Derived.Carry
import Derived.DataReads
import Derived.KernelRfl
import Derived.Deep.LoopGhost
import Derived.Laws.Append
import Derived.Laws.AppendOwn
import Derived.Laws.MakeOwn
import Derived.Laws.StructEq
import Derived.Laws.Cells
import Derived.Laws.CopyRow
import Derived.Laws.Rows
import Derived.Orders
import Derived.ChangeKeysEq
import Derived.IntWalk
import Derived.Deep.CutRange
import Derived.Handy
import Derived.Lib.Hide
import Derived.Deep.WholeRow
import Derived.Deep.Cut
import Derived.Deep.RegionHeld3
import Derived.RegionTactic
import Derived.Test.YtbcbcambkjhhhaaMA
import Derived.Test.YtbcbcambkjhhhaaMB
import Derived.Test.YtbcbcambkjhhhaaMC
import Derived.Test.YtbcbcambkjhhhaaMD
import Derived.Test.YtbcbcambkjhhhaaME
import Derived.Test.YtbcbcambkjhhhaaMF
import Derived.Test.YtbcbcambkjhhhaaMG
import Derived.Test.YtbcbcambkjhhhaaMH
import Derived.Test.YtbcbcambkjhhhaaMI
import Derived.Test.YtbcbcambkjhhhaaMJ
import Derived.Test.YtbcbcambkjhhhaaMK
import Derived.Test.YtbcbcambkjhhhaaML
import Derived.Test.YtbcbcambkjhhhaaMM
import Derived.Test.YtbcbcambkjhhhaaMj1
import Derived.Test.YtbcbcambkjhhhaaMa1
namespace Go.Proofs.Ytbcbcambkjhhhaa.Sx.Z
theorem evalLinears_ob : ∀ Ds, DsOk tt [24] Ds → lawOb tt elinearsC [24] Ds := by
  intro Ds hD
  obtain ⟨d0, Ds, rfl, h0, hD⟩ := dsOk_cons hD
  obtain rfl := dsOk_nil hD
  have k0 := h0 _ (by kernel_rfl : kT tt 9 24 = some ([.int .i64, .int .i64, .int .i64, .slice 24]))
  refine kmp (q := true = true ∧ True) (by kernel_rfl) ?_
  exact ⟨rfl, trivial⟩
end Go.Proofs.Ytbcbcambkjhhhaa.Sx.Z
namespace Go.Proofs.Ytbcbcambkjhhhaa
open Go.ChangeShapes Go.WideShapes Go.ChangeAt Go.RowKit
theorem evalLinears_own : ownKnob Try.prog.godebug = none := by kernel_rfl
theorem evalLinears_laidOut : laidOutB Try.prog = true := by kernel_rfl
set_option maxRecDepth 100000 in
theorem evalLinears_lifted (os : Os) (started : os.Started) (H : Type) (enc : TypeId × Value → H) :
    ReturnsInHanded {} Try.checked os 6 .any (Rows.evalLinearsSpec.pre6 enc Try.prog Try.f6 Rows.evalLinearsRow.domain false) (Rows.evalLinearsSpec.post enc Try.prog Try.f6 false true false false) := by
  refine returnsInHanded_of_change (C := Try.checked) evalLinears_own started (by kernel_rfl) Try.func6
    (ChangeSpec.witness6 (enc := enc) (C := Try.checked) false ⟨#[], #[.agg #[.int .i64 0, .int .i64 0, .int .i64 0, .slice none 0 0]], []⟩ 8 (by kernel_rfl) (by kernel_rfl) (by kernel_rfl) (by kernel_rfl)) ?_
  intro W base args ds gs before hval0 hW _ _
  have hval : ∀ (j : Nat) t v, Try.f6.params[j]? = some t → args[j]? = some v → Value.okWide Try.prog W .any base t v := hval0
  have hW' := hW
  obtain ⟨p, q, hA0, hV, rfl, _, _⟩ := hW
  have hA : DataW.TrodAll enc Try.prog W 0 (fun _ => true) true Try.f6.params.toList args.toList ds p := hA0
  rw [Try.params6] at hA hval
  obtain ⟨rfl, rfl⟩ := trodVars_none hV
  clear hA0 hval0
  refine (Sx.law_in Sx.Z.tt_ok Sx.Z.kall Sx.Z.elinears_ok hA hval Sx.Z.evalLinears_ob).mono fun e W' ⟨he, bel⟩ => ?_
  subst he
  have hO := Sx.args_out evalLinears_laidOut bel _ _ _ _ (by kernel_rfl) hA
  rw [← Try.params6] at hO
  obtain ⟨_, _, x0, ds0, _, _, _, rfl, _, _, r0⟩ := trodAll_cons hA
  obtain ⟨_, rfl, _⟩ := trodAll_nil r0
  exact ⟨_, rfl, _, _, _, [], _, [], hW', trodAll_mk1 (shut_bool Try.underlying4 _), hO, rfl, bel.frame _, fun h => by cases h⟩
theorem evalLinears_holds : Rows.EvalLinearsSaid :=
  OpenClaim.holds_of_wide 6 Try.f6 rfl rfl rfl rfl rfl rfl rfl ⟨rfl, rfl, rfl, rfl, rfl⟩ rfl rfl rfl rfl rfl (by kernel_rfl) Try.func6 (by kernel_rfl)
    (of_decide_eq_true (by kernel_rfl)) (by unfold Func.isWrapper; first | (rw [if_pos (by decide +kernel)]; kernel_rfl) | (rw [if_neg (by decide +kernel)]; exact ⟨rfl, rfl⟩))
    (fun os started H enc _ => evalLinears_lifted os started H enc)
end Go.Proofs.Ytbcbcambkjhhhaa
