/-
  EvalAssumes: of all comparisons, and of each of two rows of numbers, a row of which it holds is had, nothing else comes in, and errors are told; of one row alone it is that, or none.
  Conditions: none.
-/
import Derived.Test.YtbcbcambkjhhhaaRows
import Derived.Test.YtbcbcambkjhhhaaProg
import Derived.Test.YtbcbcambkjhhhaaChecked
import Derived.WalkKit
import Derived.ProofKit
import Derived.OpenShut
import Derived.ChangeOld
import Derived.Below
import Derived.Laws.Bits64
import Derived.ChangeArms
import Derived.WideShapes
import Derived.ChangeShapes
import Derived.Carry
import Derived.DataReads
import Derived.KernelRfl
import Derived.Deep.LoopGhost
import Derived.Laws.Append
import Derived.Laws.AppendOwn
import Derived.Laws.MakeOwn
import Derived.Laws.StructEq
import Derived.Laws.Cells
import Derived.Laws.CopyRow
import Derived.Laws.Rows
import Derived.Orders
import Derived.ChangeKeysEq
import Derived.IntWalk
import Derived.Deep.CutRange
import Derived.Handy
import Derived.Lib.Hide
import Derived.Deep.WholeRow
import Derived.Deep.Cut
import Derived.Deep.RegionHeld3
import Derived.RegionTactic
import Derived.Test.YtbcbcambkjhhhaaMA
import Derived.Test.YtbcbcambkjhhhaaMB
import Derived.Test.YtbcbcambkjhhhaaMC
import Derived.Test.YtbcbcambkjhhhaaMD
import Derived.Test.YtbcbcambkjhhhaaME
import Derived.Test.YtbcbcambkjhhhaaMF
import Derived.Test.YtbcbcambkjhhhaaMG
import Derived.Test.YtbcbcambkjhhhaaMH
import Derived.Test.YtbcbcambkjhhhaaMI
import Derived.Test.YtbcbcambkjhhhaaMJ
import Derived.Test.YtbcbcambkjhhhaaMK
import Derived.Test.YtbcbcambkjhhhaaML
import Derived.Test.YtbcbcambkjhhhaaMM
import Derived.Test.YtbcbcambkjhhhaaMj1
import Derived.Test.YtbcbcambkjhhhaaMd1
import Derived.Test.YtbcbcambkjhhhaaMh1
namespace Go.Proofs.Ytbcbcambkjhhhaa.Sx.Z
theorem evalAssumes_ob : ∀ Ds, DsOk tt [24, 24, 85] Ds → lawOb tt eassumesC [24, 24, 85] Ds := by
  intro Ds hD
  obtain ⟨d0, Ds, rfl, h0, hD⟩ := dsOk_cons hD
  obtain ⟨d1, Ds, rfl, h1, hD⟩ := dsOk_cons hD
  obtain ⟨d2, Ds, rfl, h2, hD⟩ := dsOk_cons hD
  obtain rfl := dsOk_nil hD
  have k0 := h0 _ (by kernel_rfl : kT tt 9 24 = some ([.int .i64, .int .i64, .int .i64, .slice 24]))
  have k1 := h1 _ (by kernel_rfl : kT tt 9 24 = some ([.int .i64, .int .i64, .int .i64, .slice 24]))
  have k2 := h2 _ (by kernel_rfl : kT tt 9 85 = some ([.int .i32, .int .i32, .int .i32, .int .i32, .int .i32, .int .i32, .bool]))
  refine kmp (q := true = true ∧
 (∀ (j : Nat),
 j < (3 : Nat) →
 ((-2147483648 : Int) ≤ (d2.el (0 : Nat) ((0 : Nat) + j)).toI ∧ (d2.el (0 : Nat) ((0 : Nat) + j)).toI ≤ (2147483647 : Int)) ∧
 (-2147483648 : Int) ≤ (d2.el (0 : Nat) ((0 : Nat) + (3 : Nat) + j)).toI ∧ (d2.el (0 : Nat) ((0 : Nat) + (3 : Nat) + j)).toI ≤ (2147483647 : Int)) ∧
 True) (by kernel_rfl) ?_
  exact ⟨rfl, fun j hj => by
    have q : j = 0 ∨ j = 1 ∨ j = 2 := by omega
    rcases q with rfl | rfl | rfl
    · exact ⟨dok_i32 (k2 0 _ rfl), dok_i32 (k2 3 _ rfl)⟩
    · exact ⟨dok_i32 (k2 1 _ rfl), dok_i32 (k2 4 _ rfl)⟩
    · exact ⟨dok_i32 (k2 2 _ rfl), dok_i32 (k2 5 _ rfl)⟩, trivial⟩
end Go.Proofs.Ytbcbcambkjhhhaa.Sx.Z
namespace Go.Proofs.Ytbcbcambkjhhhaa
open Go.ChangeShapes Go.WideShapes Go.ChangeAt Go.RowKit
theorem evalAssumes_own : ownKnob Try.prog.godebug = none := by kernel_rfl
theorem evalAssumes_laidOut : laidOutB Try.prog = true := by kernel_rfl
set_option maxRecDepth 100000 in
theorem evalAssumes_lifted (os : Os) (started : os.Started) (H : Type) (enc : TypeId × Value → H) :
    ReturnsInHanded {} Try.checked os 9 .any (Rows.evalAssumesSpec.pre6 enc Try.prog Try.f9 Rows.evalAssumesRow.domain false) (Rows.evalAssumesSpec.post enc Try.prog Try.f9 false true false false) := by
  refine returnsInHanded_of_change (C := Try.checked) evalAssumes_own started (by kernel_rfl) Try.func9
    (ChangeSpec.witness6 (enc := enc) (C := Try.checked) false ⟨#[], #[.agg #[.int .i64 0, .int .i64 0, .int .i64 0, .slice none 0 0], .agg #[.int .i64 0, .int .i64 0, .int .i64 0, .slice none 0 0], .agg #[.int .i32 0, .int .i32 0, .int .i32 0, .int .i32 0, .int .i32 0, .int .i32 0, .bool false]], []⟩ 8 (by kernel_rfl) (by kernel_rfl) (by kernel_rfl) (by kernel_rfl)) ?_
  intro W base args ds gs before hval0 hW _ _
  have hval : ∀ (j : Nat) t v, Try.f9.params[j]? = some t → args[j]? = some v → Value.okWide Try.prog W .any base t v := hval0
  have hW' := hW
  obtain ⟨p, q, hA0, hV, rfl, _, _⟩ := hW
  have hA : DataW.TrodAll enc Try.prog W 0 (fun _ => true) true Try.f9.params.toList args.toList ds p := hA0
  rw [Try.params9] at hA hval
  obtain ⟨rfl, rfl⟩ := trodVars_none hV
  clear hA0 hval0
  refine (Sx.law_in Sx.Z.tt_ok Sx.Z.kall Sx.Z.eassumes_ok hA hval Sx.Z.evalAssumes_ob).mono fun e W' ⟨he, bel⟩ => ?_
  subst he
  have hO := Sx.args_out evalAssumes_laidOut bel _ _ _ _ (by kernel_rfl) hA
  rw [← Try.params9] at hO
  obtain ⟨_, _, x0, ds0, _, _, _, rfl, _, _, r0⟩ := trodAll_cons hA
  obtain ⟨_, _, x1, ds1, _, _, _, rfl, _, _, r1⟩ := trodAll_cons r0
  obtain ⟨_, _, x2, ds2, _, _, _, rfl, _, _, r2⟩ := trodAll_cons r1
  obtain ⟨_, rfl, _⟩ := trodAll_nil r2
  exact ⟨_, rfl, _, _, _, [], _, [], hW', trodAll_mk1 (shut_bool Try.underlying4 _), hO, rfl, bel.frame _, fun h => by cases h⟩
theorem evalAssumes_holds : Rows.EvalAssumesSaid :=
  OpenClaim.holds_of_wide 9 Try.f9 rfl rfl rfl rfl rfl rfl rfl ⟨rfl, rfl, rfl, rfl, rfl⟩ rfl rfl rfl rfl rfl (by kernel_rfl) Try.func9 (by kernel_rfl)
    (of_decide_eq_true (by kernel_rfl)) (by unfold Func.isWrapper; first | (rw [if_pos (by decide +kernel)]; kernel_rfl) | (rw [if_neg (by decide +kernel)]; exact ⟨rfl, rfl⟩))
    (fun os started H enc _ => evalAssumes_lifted os started H enc)
end Go.Proofs.Ytbcbcambkjhhhaa
