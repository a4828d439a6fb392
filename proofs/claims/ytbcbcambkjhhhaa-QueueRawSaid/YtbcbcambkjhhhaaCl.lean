/-
  QueueRaw: of all Elems nothing panics, and messages are had as it tells.
  Conditions: none.
-/
import Derived.Test.YtbcbcambkjhhhaaRows
import Derived.Test.YtbcbcambkjhhhaaCm
import Derived.WalkKit
import Derived.ProofKit
import Derived.OpenShut
import Derived.ChangeOld
import Derived.Below
import Derived.HandedShaped
import Derived.ChangeArms
namespace Go.Proofs.Ytbcbcambkjhhhaa.Sx.Z
theorem queueRaw_ob : ∀ d0 Ds, DsOk tt [55, 46, 3] (d0 :: Ds) → (d0.el 0 2).len ≤ 8796093022208 → lawOb tt qrawC [55, 46, 3] (d0 :: Ds) := by
  intro d0 Ds hD hl
  obtain ⟨_, _, e0, h0, hD⟩ := dsOk_cons hD
  cases e0
  obtain ⟨d1, Ds, rfl, h1, hD⟩ := dsOk_cons hD
  obtain ⟨d2, Ds, rfl, h2, hD⟩ := dsOk_cons hD
  obtain rfl := dsOk_nil hD
  refine kmp (q := true = true ∧ (d0.el (0 : Nat) ((0 : Nat) + (1 : Nat) + (1 : Nat))).len ≤ (8796093022208 : Nat) ∧ True) (by kernel_rfl) ?_
  exact ⟨rfl, hl, trivial⟩
end Go.Proofs.Ytbcbcambkjhhhaa.Sx.Z
namespace Go.Proofs.Ytbcbcambkjhhhaa
open Go.ChangeShapes Go.WideShapes Go.ChangeAt Go.RowKit
theorem queueRaw_own : ownKnob Try.prog.godebug = none := by kernel_rfl
theorem queueRaw_laidOut : laidOutB Try.prog = true := by kernel_rfl
set_option maxRecDepth 100000 in
theorem queueRaw_lifted (os : Os) (started : os.Started) (H : Type) (enc : TypeId × Value → H) :
    ReturnsInHanded {} Try.checked os 5 .any (Rows.queueRawSpec.pre6 enc Try.prog Try.f5 Rows.queueRawRow.domain false) (Rows.queueRawSpec.post enc Try.prog Try.f5 false true false false) := by
  refine returnsInHanded_of_change_shaped (C := Try.checked) queueRaw_own started (by kernel_rfl) Try.func5
    (ChangeSpec.witness6 (enc := enc) (C := Try.checked) false ⟨#[], #[.agg #[.int .i64 0, .int .i64 0, .slice none 0 0], .slice none 0 0, .int .i64 0], []⟩ 8 (by kernel_rfl) (by kernel_rfl) (by kernel_rfl) (by kernel_rfl)) ?_
  intro W base args ds gs before hval0 hW _ hz _ _
  have hval : ∀ (j : Nat) t v, Try.f5.params[j]? = some t → args[j]? = some v → Value.okWide Try.prog W .any base t v := hval0
  have hW' := hW
  obtain ⟨p, q, hA0, hV, rfl, _, _⟩ := hW
  have hA : DataW.TrodAll enc Try.prog W 0 (fun _ => true) true Try.f5.params.toList args.toList ds p := hA0
  rw [Try.params5] at hA hval
  obtain ⟨rfl, rfl⟩ := trodVars_none hV
  clear hA0 hval0
  obtain ⟨v0, vs0, d0, ds0, p0, q0, hargs, rfl, rfl, h0, r0⟩ := trodAll_cons hA
  have hz3 : ((DataW.weightsEach Try.prog (55 :: (46 :: 3 :: DataSpec.varTypes Try.checked.prog Rows.queueRawSpec.plain)) (d0 :: (ds0 ++ []))).all (fun x => decide (x ≤ reachBytes))) = true := by
    rw [Try.params5] at hz
    exact hz
  rw [DataW.weightsEach, List.all_append, Bool.and_eq_true] at hz3
  have hlen : ∀ a n c, v0.cells.toList[2]? = some (.slice a n c) → n ≤ 8796093022208 := fun a n c hc => Sx.Z.raw_len h0 (fun x hx => of_decide_eq_true (List.all_eq_true.1 hz3.1 x hx)) hc
  have hk0 : Sx.kT Sx.Z.tt 9 55 = some [.int .i64, .int .i64, .slice 52] := by kernel_rfl
  refine (Sx.law_in2 Sx.Z.tt_ok Sx.Z.kall Sx.Z.qraw_ok (T := 55) (Ts := [46, 3]) rfl hargs h0 r0 hk0 hval fun d Ds hD hc => Sx.Z.queueRaw_ob d Ds hD ?_).mono fun e W' ⟨he, bel⟩ => ?_
  · obtain ⟨u, hu, hr⟩ := hc 2 _ rfl
    obtain ⟨a, n, c, rfl⟩ := Sx.Z.rows_slice hr
    rw [Sx.len_of hr]
    exact hlen a n c hu
  subst he
  have hO := Sx.args_out queueRaw_laidOut bel _ _ _ _ (by kernel_rfl) hA
  rw [← Try.params5] at hO
  obtain ⟨_, _, x1, ds1, _, _, _, rfl, _, _, r1⟩ := trodAll_cons r0
  obtain ⟨_, _, x2, ds2, _, _, _, rfl, _, _, r2⟩ := trodAll_cons r1
  obtain ⟨_, rfl, _⟩ := trodAll_nil r2
  exact ⟨_, rfl, _, _, _, [], _, [], hW', trodAll_mk1 (shut_bool Try.underlying4 _), hO, rfl, bel.frame _, fun h => by cases h⟩
theorem queueRaw_holds : Rows.QueueRawSaid :=
  OpenClaim.holds_of_wide 5 Try.f5 rfl rfl rfl rfl rfl rfl rfl ⟨rfl, rfl, rfl, rfl, rfl⟩ rfl rfl rfl rfl rfl (by kernel_rfl) Try.func5 (by kernel_rfl)
    (of_decide_eq_true (by kernel_rfl)) (by unfold Func.isWrapper; first | (rw [if_pos (by decide +kernel)]; kernel_rfl) | (rw [if_neg (by decide +kernel)]; exact ⟨rfl, rfl⟩))
    (fun os started H enc _ => queueRaw_lifted os started H enc)
end Go.Proofs.Ytbcbcambkjhhhaa
