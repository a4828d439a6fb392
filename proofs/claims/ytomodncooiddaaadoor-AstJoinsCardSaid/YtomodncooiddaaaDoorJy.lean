/-
  AstJoins: the words of a process's statements are those of each, one behind the other.
  Conditions: none.
-/
import Derived.Test.YtomodncooiddaaaDoorRows
import Derived.Test.YtomodncooiddaaaDoorJz
import Derived.WalkKit
import Derived.ProofKit
import Derived.OpenShut
import Derived.ChangeOld
import Derived.Below
import Derived.LaidMore
import Derived.Stop.Joined
import Derived.Test.YtomodncooiddaaaDoorCards
import Derived.Test.YtomodncooiddaaaDoorTie
import Derived.SevenTiedAt
import Derived.Test.YtomodncooiddaaaDoorTb0
namespace Go.Proofs.YtomodncooiddaaaDoor.Sx.Z
theorem astJoins_ob : ∀ d0 Ds, bS (d0.el 0 0) → DsOk tt [] Ds → lawOb tt jnsC [24] (d0 :: Ds) := by
  intro d0 Ds hS hD
  obtain rfl := dsOk_nil hD
  refine kmp (q := true = true ∧ bS (d0.el (0 : Nat) (0 : Nat)) ∧ True) (by kernel_rfl) ?_
  exact ⟨rfl, hS, trivial⟩
end Go.Proofs.YtomodncooiddaaaDoor.Sx.Z
namespace Go.Proofs.YtomodncooiddaaaDoor
open Go.ChangeShapes Go.WideShapes Go.ChangeAt Go.RowKit
theorem astJoins_own : ownKnob Tryd.prog.godebug = none := by kernel_rfl
theorem astJoins_laidOut : laidOutB Tryd.prog = true := by kernel_rfl
theorem astJoins_door (os : Os) (args : Array Value) : laidMetH Tryd.prog [("math/bits.deBruijn32tab", Rows.laid_math_bits_deBruijn32tab), ("math/bits.deBruijn64tab", Rows.laid_math_bits_deBruijn64tab), ("internal/strconv.uint64pow10", Rows.laid_internal_strconv_uint64pow10)] ((World.doorLaid Tryd.prog 400 os).forCall (fun _ _ => 0) ⟨#[], args, []⟩).memory :=
  laidMetH_of_parts3 (fuel := 8) (laidMet_of_run' 8 (by kernel_rfl) (by kernel_rfl)) (by kernel_rfl) (by kernel_rfl)
set_option maxRecDepth 100000 in
theorem astJoins_lifted (os : Os) (started : os.Started) (H : Type) (enc : TypeId × Value → H) :
    ReturnsInHanded {} Tryd.checked os 4 .any (fun w args => (Rows.astJoinsSpec.pre enc Tryd.prog Tryd.f4 [] false w args ∧ laidMetH Tryd.prog [("math/bits.deBruijn32tab", Rows.laid_math_bits_deBruijn32tab), ("math/bits.deBruijn64tab", Rows.laid_math_bits_deBruijn64tab), ("internal/strconv.uint64pow10", Rows.laid_internal_strconv_uint64pow10)] w) ∧ sizedMet enc Tryd.prog Tryd.f4 (OpenSpec.ofChange Rows.astJoinsSpec) false w args)
      (Rows.astJoinsSpec.post enc Tryd.prog Tryd.f4 false true false false) := by
  refine returnsInHanded_of_change_and (C := Tryd.checked) (X := fun w _ => laidMetH Tryd.prog [("math/bits.deBruijn32tab", Rows.laid_math_bits_deBruijn32tab), ("math/bits.deBruijn64tab", Rows.laid_math_bits_deBruijn64tab), ("internal/strconv.uint64pow10", Rows.laid_internal_strconv_uint64pow10)] w) (fun _ _ _ hh h => h.of_heap hh) astJoins_own started (by kernel_rfl) Tryd.func4
    (ChangeSpec.witness_shaped (enc := enc) (C := Tryd.checked) (os := os) (X := fun w _ => laidMetH Tryd.prog [("math/bits.deBruijn32tab", Rows.laid_math_bits_deBruijn32tab), ("math/bits.deBruijn64tab", Rows.laid_math_bits_deBruijn64tab), ("internal/strconv.uint64pow10", Rows.laid_internal_strconv_uint64pow10)] w) false (World.doorLaid Tryd.prog 400 os) #[.slice none 0 0] 8 rfl (World.shaped_of_RefB (by kernel_rfl) (by kernel_rfl)) (by kernel_rfl) (by kernel_rfl) (by kernel_rfl) (astJoins_door os _)) ?_
  intro W base args ds gs before hval0 hW _ hz hL _
  have hval : ∀ (j : Nat) t v, Tryd.f4.params[j]? = some t → args[j]? = some v → Value.okWide Tryd.prog W .any base t v := hval0
  have hW' := hW
  obtain ⟨p, q, hA0, hV, rfl, _, _⟩ := hW
  have hA : DataW.TrodAll enc Tryd.prog W 0 (fun _ => true) true Tryd.f4.params.toList args.toList ds p := hA0
  rw [Tryd.params4] at hA hval
  obtain ⟨rfl, rfl⟩ := trodVars_none hV
  clear hA0 hval0
  obtain ⟨v0, vs0, d0, ds0, p0, q0, hargs, rfl, rfl, h0, r0⟩ := trodAll_cons hA
  have hz3 : ((DataW.weightsEach Tryd.prog (24 :: ([] ++ DataSpec.varTypes Tryd.checked.prog Rows.astJoinsSpec.plain)) (d0 :: (ds0 ++ []))).all (fun x => decide (x ≤ reachBytes))) = true := by
    rw [Tryd.params4] at hz
    exact hz
  rw [DataW.weightsEach, List.all_append, Bool.and_eq_true] at hz3
  have hk0 : Sx.kT Sx.Z.tt 9 24 = some [.slice 39] := by kernel_rfl
  refine (Sx.law_in3 Sx.Z.tt_ok Sx.Z.kall Sx.Z.jns_ok (T := 24) (Ts := []) rfl hargs h0 r0 (fun x hx => of_decide_eq_true (List.all_eq_true.1 hz3.1 x hx)) hk0 hval (fun d Ds hB hD => Sx.Z.astJoins_ob d Ds (Sx.Z.bS_in _ _ (Nat.le_refl _) (hB 0 _ rfl)) hD) (Sx.Z.tab_laid hL)).mono fun e W' ⟨he, bel⟩ => ?_
  subst he
  have hO := Sx.args_out astJoins_laidOut bel _ _ _ _ (by kernel_rfl) hA
  rw [← Tryd.params4] at hO
  obtain ⟨_, rfl, _⟩ := trodAll_nil r0
  exact ⟨_, rfl, _, _, _, [], _, [], hW', trodAll_mk1 (shut_bool Tryd.underlying4 _), hO, rfl, bel.frame _, fun h => by cases h⟩
theorem astJoins_holds : Rows.AstJoinsSaid :=
  OpenClaim.holds_of_wide 4 Tryd.f4 rfl rfl rfl rfl rfl rfl rfl ⟨rfl, rfl, rfl, rfl, rfl⟩ rfl rfl rfl rfl rfl (by kernel_rfl) Tryd.func4 (by kernel_rfl)
    (of_decide_eq_true (by kernel_rfl)) (by unfold Func.isWrapper; first | (rw [if_pos (by decide +kernel)]; kernel_rfl) | (rw [if_neg (by decide +kernel)]; exact ⟨rfl, rfl⟩))
    (fun os started H enc _ => astJoins_lifted os started H enc)
theorem astJoins_card : Rows.AstJoinsCardSaid :=
  Claim7.holds_tied_plain_at .later [] [.data, .data, .data] true (true, "b15268588df28ffcc194885ad60977731574ec33c7ead660b21ec75da81e5fc4") false
    astJoins_holds (fun _ h => by cases h) (by kernel_rfl) (fun _ h => by cases h) astJoins_row_tie rfl ⟨rfl, rfl⟩ (by kernel_rfl) rfl
    (fun f fn hf hfn => by
      obtain rfl : f = 4 := Option.some.inj ((show Tryd.prog.funcNamed "jetsam/jetsamlaw02.AstJoins" = some 4 by kernel_rfl).symm.trans hf) |>.symm
      obtain rfl : fn = Tryd.f4 := (Option.some.inj (Tryd.func4.symm.trans hfn)).symm
      exact ⟨by kernel_rfl, fun j t ht => by
        rw [Tryd.params4] at ht
        have hm : t ∈ [24] := by
          have h2 := Array.mem_of_getElem? ht
          first | (simpa using h2) | (simp at h2; simp; exact h2) | (simp at h2; rcases h2 with rfl | rfl <;> decide)
        have hall : ([24].all fun u => !Tryd.prog.wantsStandIn u) = true := by kernel_rfl
        exact (show Tryd.prog.wantsStandIn t = false by simpa using List.all_eq_true.1 hall t hm)⟩)
    (by kernel_rfl)
end Go.Proofs.YtomodncooiddaaaDoor

