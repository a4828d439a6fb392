/-
  ReportItvs: of all Itvs and alarms the words are told.
  Conditions: none.
-/
import Derived.Test.YtomodncooiddaaaDoorRows
import Derived.Test.YtomodncooiddaaaDoorRef
import Derived.WalkKit
import Derived.ProofKit
import Derived.OpenShut
import Derived.ChangeOld
import Derived.Below
import Derived.LaidMore
import Derived.Stop.Joined
import Derived.Test.YtomodncooiddaaaDoorCards
import Derived.Test.YtomodncooiddaaaDoorTie
import Derived.SevenTiedAt
import Derived.Test.YtomodncooiddaaaDoorTb0
namespace Go.Proofs.YtomodncooiddaaaDoor.Sx.Z
theorem reportItvs_ob : ∀ Ds, DsOk tt [70, 72] Ds → lawOb tt ritvsC [70, 72] Ds := by
  intro Ds hD
  obtain ⟨d0, Ds, rfl, h0, hD⟩ := dsOk_cons hD
  obtain ⟨d1, Ds, rfl, h1, hD⟩ := dsOk_cons hD
  obtain rfl := dsOk_nil hD
  have k0 := h0 _ (by kernel_rfl : kT tt 9 70 = some ([.int .i64, .int .i64]))
  have k1 := h1 _ (by kernel_rfl : kT tt 9 72 = some ([.int .i64, .int .i64, .int .i64]))
  refine kmp (q := true = true ∧
 nI (d0.el (0 : Nat) (0 : Nat)).toI ∧
 nI (d0.el (0 : Nat) ((0 : Nat) + (1 : Nat))).toI ∧
 nI (d1.el (0 : Nat) (0 : Nat)).toI ∧
 nI (d1.el (0 : Nat) ((0 : Nat) + (1 : Nat))).toI ∧ nI (d1.el (0 : Nat) ((0 : Nat) + (1 : Nat) + (1 : Nat))).toI ∧ True) (by kernel_rfl) ?_
  exact ⟨rfl, dok_nI (k0 _ _ rfl), dok_nI (k0 _ _ rfl), dok_nI (k1 _ _ rfl), dok_nI (k1 _ _ rfl), dok_nI (k1 _ _ rfl), trivial⟩
end Go.Proofs.YtomodncooiddaaaDoor.Sx.Z
namespace Go.Proofs.YtomodncooiddaaaDoor
open Go.ChangeShapes Go.WideShapes Go.ChangeAt Go.RowKit
theorem reportItvs_own : ownKnob Tryd.prog.godebug = none := by kernel_rfl
theorem reportItvs_laidOut : laidOutB Tryd.prog = true := by kernel_rfl
theorem reportItvs_door (os : Os) (args : Array Value) : laidMetH Tryd.prog [("math/bits.deBruijn32tab", Rows.laid_math_bits_deBruijn32tab), ("math/bits.deBruijn64tab", Rows.laid_math_bits_deBruijn64tab), ("internal/strconv.uint64pow10", Rows.laid_internal_strconv_uint64pow10)] ((World.doorLaid Tryd.prog 400 os).forCall (fun _ _ => 0) ⟨#[], args, []⟩).memory :=
  laidMetH_of_parts3 (fuel := 8) (laidMet_of_run' 8 (by kernel_rfl) (by kernel_rfl)) (by kernel_rfl) (by kernel_rfl)
set_option maxRecDepth 100000 in
theorem reportItvs_lifted (os : Os) (started : os.Started) (H : Type) (enc : TypeId × Value → H) :
    ReturnsInHanded {} Tryd.checked os 6 .any (fun w args => (Rows.reportItvsSpec.pre enc Tryd.prog Tryd.f6 [] false w args ∧ laidMetH Tryd.prog [("math/bits.deBruijn32tab", Rows.laid_math_bits_deBruijn32tab), ("math/bits.deBruijn64tab", Rows.laid_math_bits_deBruijn64tab), ("internal/strconv.uint64pow10", Rows.laid_internal_strconv_uint64pow10)] w) ∧ sizedMet enc Tryd.prog Tryd.f6 (OpenSpec.ofChange Rows.reportItvsSpec) false w args)
      (Rows.reportItvsSpec.post enc Tryd.prog Tryd.f6 false true false false) := by
  refine returnsInHanded_of_change_and (C := Tryd.checked) (X := fun w _ => laidMetH Tryd.prog [("math/bits.deBruijn32tab", Rows.laid_math_bits_deBruijn32tab), ("math/bits.deBruijn64tab", Rows.laid_math_bits_deBruijn64tab), ("internal/strconv.uint64pow10", Rows.laid_internal_strconv_uint64pow10)] w) (fun _ _ _ hh h => h.of_heap hh) reportItvs_own started (by kernel_rfl) Tryd.func6
    (ChangeSpec.witness_shaped (enc := enc) (C := Tryd.checked) (os := os) (X := fun w _ => laidMetH Tryd.prog [("math/bits.deBruijn32tab", Rows.laid_math_bits_deBruijn32tab), ("math/bits.deBruijn64tab", Rows.laid_math_bits_deBruijn64tab), ("internal/strconv.uint64pow10", Rows.laid_internal_strconv_uint64pow10)] w) false (World.doorLaid Tryd.prog 400 os) #[.agg #[.int .i64 0, .int .i64 0], .agg #[.int .i64 0, .int .i64 0, .int .i64 0]] 8 rfl (World.shaped_of_RefB (by kernel_rfl) (by kernel_rfl)) (by kernel_rfl) (by kernel_rfl) (by kernel_rfl) (reportItvs_door os _)) ?_
  intro W base args ds gs before hval0 hW _ _ hL _
  have hval : ∀ (j : Nat) t v, Tryd.f6.params[j]? = some t → args[j]? = some v → Value.okWide Tryd.prog W .any base t v := hval0
  have hW' := hW
  obtain ⟨p, q, hA0, hV, rfl, _, _⟩ := hW
  have hA : DataW.TrodAll enc Tryd.prog W 0 (fun _ => true) true Tryd.f6.params.toList args.toList ds p := hA0
  rw [Tryd.params6] at hA hval
  obtain ⟨rfl, rfl⟩ := trodVars_none hV
  clear hA0 hval0
  refine (Sx.law_in Sx.Z.tt_ok Sx.Z.kall Sx.Z.ritvs_ok hA hval Sx.Z.reportItvs_ob (Sx.Z.tab_laid hL)).mono fun e W' ⟨he, bel⟩ => ?_
  subst he
  have hO := Sx.args_out reportItvs_laidOut bel _ _ _ _ (by kernel_rfl) hA
  rw [← Tryd.params6] at hO
  obtain ⟨_, _, x0, ds0, _, _, _, rfl, _, _, r0⟩ := trodAll_cons hA
  obtain ⟨_, _, x1, ds1, _, _, _, rfl, _, _, r1⟩ := trodAll_cons r0
  obtain ⟨_, rfl, _⟩ := trodAll_nil r1
  exact ⟨_, rfl, _, _, _, [], _, [], hW', trodAll_mk1 (shut_bool Tryd.underlying4 _), hO, rfl, bel.frame _, fun h => by cases h⟩
theorem reportItvs_holds : Rows.ReportItvsSaid :=
  OpenClaim.holds_of_wide 6 Tryd.f6 rfl rfl rfl rfl rfl rfl rfl ⟨rfl, rfl, rfl, rfl, rfl⟩ rfl rfl rfl rfl rfl (by kernel_rfl) Tryd.func6 (by kernel_rfl)
    (of_decide_eq_true (by kernel_rfl)) (by unfold Func.isWrapper; first | (rw [if_pos (by decide +kernel)]; kernel_rfl) | (rw [if_neg (by decide +kernel)]; exact ⟨rfl, rfl⟩))
    (fun os started H enc _ => reportItvs_lifted os started H enc)
theorem reportItvs_card : Rows.ReportItvsCardSaid :=
  Claim7.holds_tied_plain_at .later [] [.data, .data, .data] true (true, "b15268588df28ffcc194885ad60977731574ec33c7ead660b21ec75da81e5fc4") false
    reportItvs_holds (fun _ h => by cases h) (by kernel_rfl) (fun _ h => by cases h) reportItvs_row_tie rfl ⟨rfl, rfl⟩ (by kernel_rfl) rfl
    (fun f fn hf hfn => by
      obtain rfl : f = 6 := Option.some.inj ((show Tryd.prog.funcNamed "jetsam/jetsamlaw17.ReportItvs" = some 6 by kernel_rfl).symm.trans hf) |>.symm
      obtain rfl : fn = Tryd.f6 := (Option.some.inj (Tryd.func6.symm.trans hfn)).symm
      exact ⟨by kernel_rfl, fun j t ht => by
        rw [Tryd.params6] at ht
        have hm : t ∈ [72, 70] := by
          have h2 := Array.mem_of_getElem? ht
          first | (simpa using h2) | (simp at h2; simp; exact h2) | (simp at h2; rcases h2 with rfl | rfl <;> decide)
        have hall : ([72, 70].all fun u => !Tryd.prog.wantsStandIn u) = true := by kernel_rfl
        exact (show Tryd.prog.wantsStandIn t = false by simpa using List.all_eq_true.1 hall t hm)⟩)
    (by kernel_rfl)
end Go.Proofs.YtomodncooiddaaaDoor

