/-
  ReportRaw: of all results, whatever they are, the words are told.
  Conditions: none.
-/
import Derived.Test.YtomodncooiddaaaDoorRows
import Derived.Test.YtomodncooiddaaaDoorRei
import Derived.WalkKit
import Derived.ProofKit
import Derived.OpenShut
import Derived.ChangeOld
import Derived.Below
import Derived.LaidMore
import Derived.Stop.Joined
import Derived.Test.YtomodncooiddaaaDoorCards
import Derived.Test.YtomodncooiddaaaDoorTie
import Derived.SevenTiedAt
import Derived.Test.YtomodncooiddaaaDoorTb0
namespace Go.Proofs.YtomodncooiddaaaDoor.Sx.Z
theorem reportRaw_ob : ∀ Ds, DsOk tt [83] Ds → lawOb tt rrawC [83] Ds := by
  intro Ds hD
  obtain ⟨d0, Ds, rfl, h0, hD⟩ := dsOk_cons hD
  obtain rfl := dsOk_nil hD
  have k0 := h0 _ (by kernel_rfl : kT tt 9 83 = some ([.int .i64, .slice 70, .bool, .slice 70, .slice 72]))
  refine kmp (q := true = true ∧
 nI (d0.el (0 : Nat) (0 : Nat)).toI ∧
 itsR (d0.el (0 : Nat) ((0 : Nat) + (1 : Nat))) ∧
 itsR (d0.el (0 : Nat) ((0 : Nat) + (1 : Nat) + (1 : Nat) + (1 : Nat))) ∧
 alsR (d0.el (0 : Nat) ((0 : Nat) + (1 : Nat) + (1 : Nat) + (1 : Nat) + (1 : Nat))) ∧ True) (by kernel_rfl) ?_
  have q1 := k0 1 _ rfl
  have q3 := k0 3 _ rfl
  have q4 := k0 4 _ rfl
  cases q1 with
  | slice e d hl1 g1 =>
  cases q3 with
  | slice e d hl3 g3 =>
  cases q4 with
  | slice e d hl4 g4 =>
  exact ⟨rfl, dok_nI (k0 0 _ rfl), fun i hi => ⟨dok_nI (g1 i 0 _ hi rfl), dok_nI (g1 i 1 _ hi rfl)⟩, fun i hi => ⟨dok_nI (g3 i 0 _ hi rfl), dok_nI (g3 i 1 _ hi rfl)⟩, fun i hi => ⟨dok_nI (g4 i 0 _ hi rfl), dok_nI (g4 i 1 _ hi rfl), dok_nI (g4 i 2 _ hi rfl)⟩, trivial⟩
end Go.Proofs.YtomodncooiddaaaDoor.Sx.Z
namespace Go.Proofs.YtomodncooiddaaaDoor
open Go.ChangeShapes Go.WideShapes Go.ChangeAt Go.RowKit
theorem reportRaw_own : ownKnob Tryd.prog.godebug = none := by kernel_rfl
theorem reportRaw_laidOut : laidOutB Tryd.prog = true := by kernel_rfl
theorem reportRaw_door (os : Os) (args : Array Value) : laidMetH Tryd.prog [("math/bits.deBruijn32tab", Rows.laid_math_bits_deBruijn32tab), ("math/bits.deBruijn64tab", Rows.laid_math_bits_deBruijn64tab), ("internal/strconv.uint64pow10", Rows.laid_internal_strconv_uint64pow10)] ((World.doorLaid Tryd.prog 400 os).forCall (fun _ _ => 0) ⟨#[], args, []⟩).memory :=
  laidMetH_of_parts3 (fuel := 8) (laidMet_of_run' 8 (by kernel_rfl) (by kernel_rfl)) (by kernel_rfl) (by kernel_rfl)
set_option maxRecDepth 100000 in
theorem reportRaw_lifted (os : Os) (started : os.Started) (H : Type) (enc : TypeId × Value → H) :
    ReturnsInHanded {} Tryd.checked os 7 .any (fun w args => (Rows.reportRawSpec.pre enc Tryd.prog Tryd.f7 [] false w args ∧ laidMetH Tryd.prog [("math/bits.deBruijn32tab", Rows.laid_math_bits_deBruijn32tab), ("math/bits.deBruijn64tab", Rows.laid_math_bits_deBruijn64tab), ("internal/strconv.uint64pow10", Rows.laid_internal_strconv_uint64pow10)] w) ∧ sizedMet enc Tryd.prog Tryd.f7 (OpenSpec.ofChange Rows.reportRawSpec) false w args)
      (Rows.reportRawSpec.post enc Tryd.prog Tryd.f7 false true false false) := by
  refine returnsInHanded_of_change_and (C := Tryd.checked) (X := fun w _ => laidMetH Tryd.prog [("math/bits.deBruijn32tab", Rows.laid_math_bits_deBruijn32tab), ("math/bits.deBruijn64tab", Rows.laid_math_bits_deBruijn64tab), ("internal/strconv.uint64pow10", Rows.laid_internal_strconv_uint64pow10)] w) (fun _ _ _ hh h => h.of_heap hh) reportRaw_own started (by kernel_rfl) Tryd.func7
    (ChangeSpec.witness_shaped (enc := enc) (C := Tryd.checked) (os := os) (X := fun w _ => laidMetH Tryd.prog [("math/bits.deBruijn32tab", Rows.laid_math_bits_deBruijn32tab), ("math/bits.deBruijn64tab", Rows.laid_math_bits_deBruijn64tab), ("internal/strconv.uint64pow10", Rows.laid_internal_strconv_uint64pow10)] w) false (World.doorLaid Tryd.prog 400 os) #[.agg #[.int .i64 0, .slice none 0 0, .bool false, .slice none 0 0, .slice none 0 0]] 8 rfl (World.shaped_of_RefB (by kernel_rfl) (by kernel_rfl)) (by kernel_rfl) (by kernel_rfl) (by kernel_rfl) (reportRaw_door os _)) ?_
  intro W base args ds gs before hval0 hW _ _ hL _
  have hval : ∀ (j : Nat) t v, Tryd.f7.params[j]? = some t → args[j]? = some v → Value.okWide Tryd.prog W .any base t v := hval0
  have hW' := hW
  obtain ⟨p, q, hA0, hV, rfl, _, _⟩ := hW
  have hA : DataW.TrodAll enc Tryd.prog W 0 (fun _ => true) true Tryd.f7.params.toList args.toList ds p := hA0
  rw [Tryd.params7] at hA hval
  obtain ⟨rfl, rfl⟩ := trodVars_none hV
  clear hA0 hval0
  refine (Sx.law_in Sx.Z.tt_ok Sx.Z.kall Sx.Z.rraw_ok hA hval Sx.Z.reportRaw_ob (Sx.Z.tab_laid hL)).mono fun e W' ⟨he, bel⟩ => ?_
  subst he
  have hO := Sx.args_out reportRaw_laidOut bel _ _ _ _ (by kernel_rfl) hA
  rw [← Tryd.params7] at hO
  obtain ⟨_, _, x0, ds0, _, _, _, rfl, _, _, r0⟩ := trodAll_cons hA
  obtain ⟨_, rfl, _⟩ := trodAll_nil r0
  exact ⟨_, rfl, _, _, _, [], _, [], hW', trodAll_mk1 (shut_bool Tryd.underlying4 _), hO, rfl, bel.frame _, fun h => by cases h⟩
theorem reportRaw_holds : Rows.ReportRawSaid :=
  OpenClaim.holds_of_wide 7 Tryd.f7 rfl rfl rfl rfl rfl rfl rfl ⟨rfl, rfl, rfl, rfl, rfl⟩ rfl rfl rfl rfl rfl (by kernel_rfl) Tryd.func7 (by kernel_rfl)
    (of_decide_eq_true (by kernel_rfl)) (by unfold Func.isWrapper; first | (rw [if_pos (by decide +kernel)]; kernel_rfl) | (rw [if_neg (by decide +kernel)]; exact ⟨rfl, rfl⟩))
    (fun os started H enc _ => reportRaw_lifted os started H enc)
theorem reportRaw_card : Rows.ReportRawCardSaid :=
  Claim7.holds_tied_plain_at .later [] [.data, .data, .data] true (true, "b15268588df28ffcc194885ad60977731574ec33c7ead660b21ec75da81e5fc4") false
    reportRaw_holds (fun _ h => by cases h) (by kernel_rfl) (fun _ h => by cases h) reportRaw_row_tie rfl ⟨rfl, rfl⟩ (by kernel_rfl) rfl
    (fun f fn hf hfn => by
      obtain rfl : f = 7 := Option.some.inj ((show Tryd.prog.funcNamed "jetsam/jetsamlaw17.ReportRaw" = some 7 by kernel_rfl).symm.trans hf) |>.symm
      obtain rfl : fn = Tryd.f7 := (Option.some.inj (Tryd.func7.symm.trans hfn)).symm
      exact ⟨by kernel_rfl, fun j t ht => by
        rw [Tryd.params7] at ht
        have hm : t ∈ [83] := by
          have h2 := Array.mem_of_getElem? ht
          first | (simpa using h2) | (simp at h2; simp; exact h2) | (simp at h2; rcases h2 with rfl | rfl <;> decide)
        have hall : ([83].all fun u => !Tryd.prog.wantsStandIn u) = true := by kernel_rfl
        exact (show Tryd.prog.wantsStandIn t = false by simpa using List.all_eq_true.1 hall t hm)⟩)
    (by kernel_rfl)
end Go.Proofs.YtomodncooiddaaaDoor

