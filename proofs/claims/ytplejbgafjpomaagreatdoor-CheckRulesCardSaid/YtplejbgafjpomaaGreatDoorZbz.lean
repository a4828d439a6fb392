/-
  CheckRules: a rule's moves are told as its rows, whatever the moves.
  Conditions: none.
-/
import Derived.Test.YtplejbgafjpomaaGreatDoorRows
import Derived.WalkKit
import Derived.ProofKit
import Derived.OpenShut
import Derived.ChangeOld
import Derived.Below
import Derived.LaidMore
import Derived.Stop.Joined
import Derived.Test.YtplejbgafjpomaaGreatDoorCards
import Derived.Test.YtplejbgafjpomaaGreatDoorTie
import Derived.SevenTiedAt
import Derived.Test.YtplejbgafjpomaaGreatDoorZb21
set_option linter.unusedVariables false
set_option linter.unusedSimpArgs false
namespace Go.Proofs.YtplejbgafjpomaaGreatDoor.Sx.Z
theorem checkRules_ob:∀ d0 Ds,(d0.el 0 0).len*32<=140737488355328->DsOk tt [] Ds->lawOb tt crsC [80] (d0::Ds):=by
 intro d0 Ds hS hD;obtain rfl:=dsOk_nil hD;refine kmp (q:=true=true/\(d0.el (0:Nat) 0).len<=1000000000000000/\True) (by kernel_rfl) ?_
 exact ⟨rfl,by omega,trivial⟩
end Go.Proofs.YtplejbgafjpomaaGreatDoor.Sx.Z
namespace Go.Proofs.YtplejbgafjpomaaGreatDoor
open Go.ChangeShapes Go.WideShapes Go.ChangeAt Go.RowKit
theorem checkRules_own:ownKnob Tryz.prog.godebug=none:=by kernel_rfl
theorem checkRules_laidOut:laidOutB Tryz.prog=true:=by kernel_rfl
theorem checkRules_door (os : Os) (args : Array Value) : laidMetH Tryz.prog [("math/bits.deBruijn32tab", Rows.laid_math_bits_deBruijn32tab), ("math/bits.deBruijn64tab", Rows.laid_math_bits_deBruijn64tab), ("internal/strconv.uint64pow10", Rows.laid_internal_strconv_uint64pow10)] ((World.doorLaid Tryz.prog 400 os).forCall (fun _ _ => 0) ⟨#[], args, []⟩).memory :=
 laidMetH_of_parts3 (fuel:=8) (laidMet_of_run' 8 (by kernel_rfl) (by kernel_rfl)) (by kernel_rfl) (by kernel_rfl)
set_option maxRecDepth 100000 in
theorem checkRules_lifted (os:Os) (started:os.Started) (H:Type) (enc:TypeId × Value->H) :
 ReturnsInHanded {} Tryz.checked os 5 .any (fun w args=>(Rows.checkRulesSpec.pre enc Tryz.prog Tryz.f5 [] false w args /\ laidMetH Tryz.prog [("math/bits.deBruijn32tab", Rows.laid_math_bits_deBruijn32tab), ("math/bits.deBruijn64tab", Rows.laid_math_bits_deBruijn64tab), ("internal/strconv.uint64pow10", Rows.laid_internal_strconv_uint64pow10)] w) /\ sizedMet enc Tryz.prog Tryz.f5 (OpenSpec.ofChange Rows.checkRulesSpec) false w args)
  (Rows.checkRulesSpec.post enc Tryz.prog Tryz.f5 false true false false):=by
 refine returnsInHanded_of_change_and (C := Tryz.checked) (X := fun w _=>laidMetH Tryz.prog [("math/bits.deBruijn32tab", Rows.laid_math_bits_deBruijn32tab), ("math/bits.deBruijn64tab", Rows.laid_math_bits_deBruijn64tab), ("internal/strconv.uint64pow10", Rows.laid_internal_strconv_uint64pow10)] w) (fun _ _ _ hh h=>h.of_heap hh) checkRules_own started (by kernel_rfl) Tryz.func5
  (ChangeSpec.witness_shaped (enc := enc) (C := Tryz.checked) (os := os) (X := fun w _=>laidMetH Tryz.prog [("math/bits.deBruijn32tab", Rows.laid_math_bits_deBruijn32tab), ("math/bits.deBruijn64tab", Rows.laid_math_bits_deBruijn64tab), ("internal/strconv.uint64pow10", Rows.laid_internal_strconv_uint64pow10)] w) false (World.doorLaid Tryz.prog 400 os) #[.slice none 0 0] 8 rfl (World.shaped_of_RefB (by kernel_rfl) (by kernel_rfl)) (by kernel_rfl) (by kernel_rfl) (by kernel_rfl) (checkRules_door os _)) ?_
 intro W base args ds gs before hval0 hW _ hz hL _;have hval:∀ (j:Nat) t v,Tryz.f5.params[j]? = some t->args[j]? = some v->Value.okWide Tryz.prog W .any base t v:=hval0;have hW':=hW;obtain ⟨p,q,hA0,hV,rfl,_,_⟩:=hW;have hA:DataW.TrodAll enc Tryz.prog W 0 (fun _=>true) true Tryz.f5.params.toList args.toList ds p:=hA0;rw [Tryz.params5] at hA hval;obtain ⟨rfl,rfl⟩:=trodVars_none hV;clear hA0 hval0;obtain ⟨v0,vs0,d0,ds0,p0,q0,hargs,rfl,rfl,h0,r0⟩:=trodAll_cons hA;have hz3:((DataW.weightsEach Tryz.prog (80::([]++DataSpec.varTypes Tryz.checked.prog Rows.checkRulesSpec.plain)) (d0::(ds0++[]))).all (fun x=>decide (x<=reachBytes)))=true:=by
  rw [Tryz.params5] at hz;exact hz
 rw [DataW.weightsEach,List.all_append,Bool.and_eq_true] at hz3;have hk0:Sx.kT Sx.Z.tt 9 80=some [.slice 84]:=by kernel_rfl
 refine (Sx.law_in3 Sx.Z.tt_ok Sx.Z.kall (Sx.Z.crs_ok) (T:=80) (Ts:=[]) rfl hargs h0 r0 (fun x hx=>of_decide_eq_true (List.all_eq_true.1 hz3.1 x hx)) hk0 hval (fun d Ds hB hD=>Sx.Z.checkRules_ob d Ds (Sx.Z.mv_in (hB 0 _ rfl)) hD) (Sx.Z.tab_laid hL)).mono fun e W' ⟨he,bel⟩=>?_
 subst he;have hO:=Sx.args_out checkRules_laidOut bel _ _ _ _ (by kernel_rfl) hA;rw [<- Tryz.params5] at hO;obtain ⟨_,rfl,_⟩:=trodAll_nil r0;exact ⟨_,rfl,_,_,_,[],_,[],hW',trodAll_mk1 (shut_bool Tryz.underlying4 _),hO,rfl,bel.frame _,fun h=>by cases h⟩
theorem checkRules_holds:Rows.CheckRulesSaid:=
 OpenClaim.holds_of_wide 5 Tryz.f5 rfl rfl rfl rfl rfl rfl rfl ⟨rfl,rfl,rfl,rfl,rfl⟩ rfl rfl rfl rfl rfl (by kernel_rfl) Tryz.func5 (by kernel_rfl)
  (of_decide_eq_true (by kernel_rfl)) (by unfold Func.isWrapper;first |(rw [if_pos (by decide +kernel)];kernel_rfl) |(rw [if_neg (by decide +kernel)];exact ⟨rfl,rfl⟩))
  (fun os started H enc _=>checkRules_lifted os started H enc)
theorem checkRules_card:Rows.CheckRulesCardSaid:=
 Claim7.holds_tied_plain_at .later [] [.data, .data, .data] true (true, "b8825f387cd77e8c1cca78c0508e399ad6bea8e8a70c6dbb38f0b17e38191477") false
  checkRules_holds (fun _ h=>by cases h) (by kernel_rfl) (fun _ h=>by cases h) checkRules_row_tie rfl ⟨rfl,rfl⟩ (by kernel_rfl) rfl
  (fun f fn hf hfn=>by
    obtain rfl : f = 5 := Option.some.inj ((show Tryz.prog.funcNamed "jetsam/jetsamlaw04.CheckRules" = some 5 by kernel_rfl).symm.trans hf) |>.symm;obtain rfl:fn=Tryz.f5:=(Option.some.inj (Tryz.func5.symm.trans hfn)).symm;exact ⟨by kernel_rfl,fun j t ht=>by
     rw [Tryz.params5] at ht;have hm:t∈[80]:=by
      have h2:=Array.mem_of_getElem? ht
      first |(simpa using h2) |(simp at h2;simp;exact h2) |(simp at h2;rcases h2 with rfl |rfl<;>decide)
     have hall:([80].all fun u=>!Tryz.prog.wantsStandIn u)=true:=by kernel_rfl
     exact (show Tryz.prog.wantsStandIn t=false by simpa using List.all_eq_true.1 hall t hm)⟩)
  (by kernel_rfl)
end Go.Proofs.YtplejbgafjpomaaGreatDoor
