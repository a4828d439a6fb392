/-
  CheckPlaces: each channel's ends, tags and kind, and each process's count of variables, are told as they were declared.
  Conditions: none.
-/
import Derived.Test.YtplejbgafjpomaaGreatDoorRows
import Derived.WalkKit
import Derived.ProofKit
import Derived.OpenShut
import Derived.ChangeOld
import Derived.Below
import Derived.LaidMore
import Derived.Stop.Joined
import Derived.Test.YtplejbgafjpomaaGreatDoorCards
import Derived.Test.YtplejbgafjpomaaGreatDoorTie
import Derived.SevenTiedAt
import Derived.Test.YtplejbgafjpomaaGreatDoorZa27
import Derived.Test.YtplejbgafjpomaaGreatDoorZa28
set_option linter.unusedVariables false
set_option linter.unusedSimpArgs false
namespace Go.Proofs.YtplejbgafjpomaaGreatDoor.Sx.Z
theorem checkPlaces_ob:∀ d0 Ds,SyS (d0.el 0 0) (d0.el 0 1) (d0.el 0 2)->DsOk tt [] Ds->lawOb tt kpqC [26] (d0::Ds):=by
 intro d0 Ds hS hD;obtain rfl:=dsOk_nil hD;refine kmp (q:=true=true/\SyS (d0.el (0:Nat) 0) (d0.el (0:Nat) 1) (d0.el (0:Nat) 2)/\CkS (cpC (d0.el (0:Nat) 0)) (cpU (d0.el (0:Nat) 1)) (cpP (d0.el (0:Nat) 2))/\True) (by kernel_rfl) ?_
 exact ⟨rfl,hS,ckS_of (SyS_cp hS),trivial⟩
end Go.Proofs.YtplejbgafjpomaaGreatDoor.Sx.Z
namespace Go.Proofs.YtplejbgafjpomaaGreatDoor
open Go.ChangeShapes Go.WideShapes Go.ChangeAt Go.RowKit
theorem checkPlaces_own:ownKnob Tryz.prog.godebug=none:=by kernel_rfl
theorem checkPlaces_laidOut:laidOutB Tryz.prog=true:=by kernel_rfl
theorem checkPlaces_door (os : Os) (args : Array Value) : laidMetH Tryz.prog [("math/bits.deBruijn32tab", Rows.laid_math_bits_deBruijn32tab), ("math/bits.deBruijn64tab", Rows.laid_math_bits_deBruijn64tab), ("internal/strconv.uint64pow10", Rows.laid_internal_strconv_uint64pow10)] ((World.doorLaid Tryz.prog 400 os).forCall (fun _ _ => 0) ⟨#[], args, []⟩).memory :=
 laidMetH_of_parts3 (fuel:=8) (laidMet_of_run' 8 (by kernel_rfl) (by kernel_rfl)) (by kernel_rfl) (by kernel_rfl)
set_option maxRecDepth 100000 in
theorem checkPlaces_lifted (os:Os) (started:os.Started) (H:Type) (enc:TypeId × Value->H) :
 ReturnsInHanded {} Tryz.checked os 4 .any (fun w args=>(Rows.checkPlacesSpec.pre enc Tryz.prog Tryz.f4 [] false w args /\ laidMetH Tryz.prog [("math/bits.deBruijn32tab", Rows.laid_math_bits_deBruijn32tab), ("math/bits.deBruijn64tab", Rows.laid_math_bits_deBruijn64tab), ("internal/strconv.uint64pow10", Rows.laid_internal_strconv_uint64pow10)] w) /\ sizedMet enc Tryz.prog Tryz.f4 (OpenSpec.ofChange Rows.checkPlacesSpec) false w args)
  (Rows.checkPlacesSpec.post enc Tryz.prog Tryz.f4 false true false false):=by
 refine returnsInHanded_of_change_and (C := Tryz.checked) (X := fun w _=>laidMetH Tryz.prog [("math/bits.deBruijn32tab", Rows.laid_math_bits_deBruijn32tab), ("math/bits.deBruijn64tab", Rows.laid_math_bits_deBruijn64tab), ("internal/strconv.uint64pow10", Rows.laid_internal_strconv_uint64pow10)] w) (fun _ _ _ hh h=>h.of_heap hh) checkPlaces_own started (by kernel_rfl) Tryz.func4
  (ChangeSpec.witness_shaped (enc := enc) (C := Tryz.checked) (os := os) (X := fun w _=>laidMetH Tryz.prog [("math/bits.deBruijn32tab", Rows.laid_math_bits_deBruijn32tab), ("math/bits.deBruijn64tab", Rows.laid_math_bits_deBruijn64tab), ("internal/strconv.uint64pow10", Rows.laid_internal_strconv_uint64pow10)] w) false (World.doorLaid Tryz.prog 400 os) #[.agg #[.slice none 0 0, .slice none 0 0, .slice none 0 0]] 8 rfl (World.shaped_of_RefB (by kernel_rfl) (by kernel_rfl)) (by kernel_rfl) (by kernel_rfl) (by kernel_rfl) (checkPlaces_door os _)) ?_
 intro W base args ds gs before hval0 hW _ hz hL _;have hval:∀ (j:Nat) t v,Tryz.f4.params[j]? = some t->args[j]? = some v->Value.okWide Tryz.prog W .any base t v:=hval0;have hW':=hW;obtain ⟨p,q,hA0,hV,rfl,_,_⟩:=hW;have hA:DataW.TrodAll enc Tryz.prog W 0 (fun _=>true) true Tryz.f4.params.toList args.toList ds p:=hA0;rw [Tryz.params4] at hA hval;obtain ⟨rfl,rfl⟩:=trodVars_none hV;clear hA0 hval0;obtain ⟨v0,vs0,d0,ds0,p0,q0,hargs,rfl,rfl,h0,r0⟩:=trodAll_cons hA;have hz3:((DataW.weightsEach Tryz.prog (26::([]++DataSpec.varTypes Tryz.checked.prog Rows.checkPlacesSpec.plain)) (d0::(ds0++[]))).all (fun x=>decide (x<=reachBytes)))=true:=by
  rw [Tryz.params4] at hz;exact hz
 rw [DataW.weightsEach,List.all_append,Bool.and_eq_true] at hz3;have hk0:Sx.kT Sx.Z.tt 9 26=some [.slice 72,.slice 86,.slice 75]:=by kernel_rfl
 refine (Sx.law_in3 Sx.Z.tt_ok Sx.Z.kall (Sx.Z.kpq_ok Sx.Z.bru_ok) (T:=26) (Ts:=[]) rfl hargs h0 r0 (fun x hx=>of_decide_eq_true (List.all_eq_true.1 hz3.1 x hx)) hk0 hval (fun d Ds hB hD=>Sx.Z.checkPlaces_ob d Ds (Sx.Z.sy_in (hB 0 _ rfl) (hB 1 _ rfl) (hB 2 _ rfl)) hD) (Sx.Z.tab_laid hL)).mono fun e W' ⟨he,bel⟩=>?_
 subst he;have hO:=Sx.args_out checkPlaces_laidOut bel _ _ _ _ (by kernel_rfl) hA;rw [<- Tryz.params4] at hO;obtain ⟨_,rfl,_⟩:=trodAll_nil r0;exact ⟨_,rfl,_,_,_,[],_,[],hW',trodAll_mk1 (shut_bool Tryz.underlying4 _),hO,rfl,bel.frame _,fun h=>by cases h⟩
theorem checkPlaces_holds:Rows.CheckPlacesSaid:=
 OpenClaim.holds_of_wide 4 Tryz.f4 rfl rfl rfl rfl rfl rfl rfl ⟨rfl,rfl,rfl,rfl,rfl⟩ rfl rfl rfl rfl rfl (by kernel_rfl) Tryz.func4 (by kernel_rfl)
  (of_decide_eq_true (by kernel_rfl)) (by unfold Func.isWrapper;first |(rw [if_pos (by decide +kernel)];kernel_rfl) |(rw [if_neg (by decide +kernel)];exact ⟨rfl,rfl⟩))
  (fun os started H enc _=>checkPlaces_lifted os started H enc)
theorem checkPlaces_card:Rows.CheckPlacesCardSaid:=
 Claim7.holds_tied_plain_at .later [] [.data, .data, .data] true (true, "b8825f387cd77e8c1cca78c0508e399ad6bea8e8a70c6dbb38f0b17e38191477") false
  checkPlaces_holds (fun _ h=>by cases h) (by kernel_rfl) (fun _ h=>by cases h) checkPlaces_row_tie rfl ⟨rfl,rfl⟩ (by kernel_rfl) rfl
  (fun f fn hf hfn=>by
    obtain rfl : f = 4 := Option.some.inj ((show Tryz.prog.funcNamed "jetsam/jetsamlaw04.CheckPlaces" = some 4 by kernel_rfl).symm.trans hf) |>.symm;obtain rfl:fn=Tryz.f4:=(Option.some.inj (Tryz.func4.symm.trans hfn)).symm;exact ⟨by kernel_rfl,fun j t ht=>by
     rw [Tryz.params4] at ht;have hm:t∈[26]:=by
      have h2:=Array.mem_of_getElem? ht
      first |(simpa using h2) |(simp at h2;simp;exact h2) |(simp at h2;rcases h2 with rfl |rfl<;>decide)
     have hall:([26].all fun u=>!Tryz.prog.wantsStandIn u)=true:=by kernel_rfl
     exact (show Tryz.prog.wantsStandIn t=false by simpa using List.all_eq_true.1 hall t hm)⟩)
  (by kernel_rfl)
end Go.Proofs.YtplejbgafjpomaaGreatDoor
