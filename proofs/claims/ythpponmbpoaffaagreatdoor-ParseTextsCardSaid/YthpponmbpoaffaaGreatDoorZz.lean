/-
  ParseTexts: of all systems that have a text, Parse of it is the same system; so is that of its text without blanks where none must be.
  Conditions: none.
-/
import Derived.Test.YthpponmbpoaffaaGreatDoorRows
import Derived.WalkKit
import Derived.ProofKit
import Derived.OpenShut
import Derived.ChangeOld
import Derived.Below
import Derived.LaidMore
import Derived.Stop.Joined
import Derived.Test.YthpponmbpoaffaaGreatDoorCards
import Derived.Test.YthpponmbpoaffaaGreatDoorTie
import Derived.SevenTiedAt
import Derived.Test.YthpponmbpoaffaaGreatDoorZ32
namespace Go.Proofs.YthpponmbpoaffaaGreatDoor.Sx.Z
theorem str_in {d:D} (h:DOkB Tryz.prog (.slice 9) d):d.len*16<=140737488355328:=by
 cases h with
 |slice e d h1 h2=>
  have hb:Tryz.prog.bytesOf 9=16:=by kernel_rfl
  rw [hb] at h1
  exact Nat.le_trans h1 (by decide)
theorem mv_in {d:D} (h:DOkB Tryz.prog (.slice 55) d):d.len*32<=140737488355328:=by
 cases h with
 |slice e d h1 h2=>
  have hb:Tryz.prog.bytesOf 55=32:=by kernel_rfl
  rw [hb] at h1
  exact Nat.le_trans h1 (by decide)
theorem ch_in {d:D} (h:DOkB Tryz.prog (.slice 46) d):d.len*88<=140737488355328/\∀ i,i<d.len->(d.el i 5).len*16<=140737488355328:=by
 cases h with
 |slice e d h1 h2=>
  have hb:Tryz.prog.bytesOf 46=88:=by kernel_rfl
  rw [hb] at h1
  exact ⟨Nat.le_trans h1 (by decide),fun i hi=>str_in (h2 i 5 _ hi (by rfl))⟩
theorem ru_in {d:D} (h:DOkB Tryz.prog (.slice 50) d):d.len*40<=140737488355328/\∀ i,i<d.len->(d.el i 1).len*32<=140737488355328:=by
 cases h with
 |slice e d h1 h2=>
  have hb:Tryz.prog.bytesOf 50=40:=by kernel_rfl
  rw [hb] at h1
  exact ⟨Nat.le_trans h1 (by decide),fun i hi=>mv_in (h2 i 1 _ hi (by rfl))⟩
theorem pr_in {d:D} (h:DOkB Tryz.prog (.slice 59) d):d.len*64<=140737488355328/\(∀ i,i<d.len->(d.el i 1).len*16<=140737488355328)/\∀ i,i<d.len->bS (d.el i 2):=by
 cases h with
 |slice e d h1 h2=>
  have hb:Tryz.prog.bytesOf 59=64:=by kernel_rfl
  rw [hb] at h1
  exact ⟨Nat.le_trans h1 (by decide),fun i hi=>str_in (h2 i 1 _ hi (by rfl)),fun i hi=>bS_in _ _ (Nat.le_refl _) (h2 i 2 _ hi (by rfl))⟩
theorem sy_in {c u p:D} (hc:DOkB Tryz.prog (.slice 46) c) (hu:DOkB Tryz.prog (.slice 50) u) (hp:DOkB Tryz.prog (.slice 59) p):SyS c u p:=
 ⟨(ch_in hc).1,(ch_in hc).2,(ru_in hu).1,(ru_in hu).2,(pr_in hp).1,(pr_in hp).2.1,(pr_in hp).2.2⟩
theorem parseTexts_ob:∀ d0 Ds,SyS (d0.el 0 0) (d0.el 0 1) (d0.el 0 2)->DsOk tt [] Ds->lawOb tt ptxC [26] (d0::Ds):=by
 intro d0 Ds hS hD
 obtain rfl:=dsOk_nil hD
 refine kmp (q:=true=true/\SyS (d0.el (0:Nat) (0:Nat)) (d0.el (0:Nat) 1) (d0.el (0:Nat) 2)/\True) (by kernel_rfl) ?_
 exact ⟨rfl,hS,trivial⟩
end Go.Proofs.YthpponmbpoaffaaGreatDoor.Sx.Z
namespace Go.Proofs.YthpponmbpoaffaaGreatDoor
open Go.ChangeShapes Go.WideShapes Go.ChangeAt Go.RowKit
theorem parseTexts_own:ownKnob Tryz.prog.godebug=none:=by kernel_rfl
theorem parseTexts_laidOut:laidOutB Tryz.prog=true:=by kernel_rfl
theorem parseTexts_door (os : Os) (args : Array Value) : laidMetH Tryz.prog [("math/bits.deBruijn32tab", Rows.laid_math_bits_deBruijn32tab), ("math/bits.deBruijn64tab", Rows.laid_math_bits_deBruijn64tab), ("internal/strconv.uint64pow10", Rows.laid_internal_strconv_uint64pow10)] ((World.doorLaid Tryz.prog 400 os).forCall (fun _ _ => 0) ⟨#[], args, []⟩).memory :=
 laidMetH_of_parts3 (fuel:=8) (laidMet_of_run' 8 (by kernel_rfl) (by kernel_rfl)) (by kernel_rfl) (by kernel_rfl)
set_option maxRecDepth 100000 in
theorem parseTexts_lifted (os:Os) (started:os.Started) (H:Type) (enc:TypeId × Value->H) :
 ReturnsInHanded {} Tryz.checked os 3 .any (fun w args=>(Rows.parseTextsSpec.pre enc Tryz.prog Tryz.f3 [] false w args /\ laidMetH Tryz.prog [("math/bits.deBruijn32tab", Rows.laid_math_bits_deBruijn32tab), ("math/bits.deBruijn64tab", Rows.laid_math_bits_deBruijn64tab), ("internal/strconv.uint64pow10", Rows.laid_internal_strconv_uint64pow10)] w) /\ sizedMet enc Tryz.prog Tryz.f3 (OpenSpec.ofChange Rows.parseTextsSpec) false w args)
  (Rows.parseTextsSpec.post enc Tryz.prog Tryz.f3 false true false false):=by
 refine returnsInHanded_of_change_and (C := Tryz.checked) (X := fun w _=>laidMetH Tryz.prog [("math/bits.deBruijn32tab", Rows.laid_math_bits_deBruijn32tab), ("math/bits.deBruijn64tab", Rows.laid_math_bits_deBruijn64tab), ("internal/strconv.uint64pow10", Rows.laid_internal_strconv_uint64pow10)] w) (fun _ _ _ hh h=>h.of_heap hh) parseTexts_own started (by kernel_rfl) Tryz.func3
  (ChangeSpec.witness_shaped (enc := enc) (C := Tryz.checked) (os := os) (X := fun w _=>laidMetH Tryz.prog [("math/bits.deBruijn32tab", Rows.laid_math_bits_deBruijn32tab), ("math/bits.deBruijn64tab", Rows.laid_math_bits_deBruijn64tab), ("internal/strconv.uint64pow10", Rows.laid_internal_strconv_uint64pow10)] w) false (World.doorLaid Tryz.prog 400 os) #[.agg #[.slice none 0 0, .slice none 0 0, .slice none 0 0]] 8 rfl (World.shaped_of_RefB (by kernel_rfl) (by kernel_rfl)) (by kernel_rfl) (by kernel_rfl) (by kernel_rfl) (parseTexts_door os _)) ?_
 intro W base args ds gs before hval0 hW _ hz hL _
 have hval:∀ (j:Nat) t v,Tryz.f3.params[j]? = some t->args[j]? = some v->Value.okWide Tryz.prog W .any base t v:=hval0
 have hW':=hW
 obtain ⟨p,q,hA0,hV,rfl,_,_⟩:=hW
 have hA:DataW.TrodAll enc Tryz.prog W 0 (fun _=>true) true Tryz.f3.params.toList args.toList ds p:=hA0
 rw [Tryz.params3] at hA hval
 obtain ⟨rfl,rfl⟩:=trodVars_none hV
 clear hA0 hval0
 obtain ⟨v0,vs0,d0,ds0,p0,q0,hargs,rfl,rfl,h0,r0⟩:=trodAll_cons hA
 have hz3:((DataW.weightsEach Tryz.prog (26::([]++DataSpec.varTypes Tryz.checked.prog Rows.parseTextsSpec.plain)) (d0::(ds0++[]))).all (fun x=>decide (x<=reachBytes)))=true:=by
  rw [Tryz.params3] at hz
  exact hz
 rw [DataW.weightsEach,List.all_append,Bool.and_eq_true] at hz3
 have hk0:Sx.kT Sx.Z.tt 9 26=some [.slice 46,.slice 50,.slice 59]:=by kernel_rfl
 refine (Sx.law_in3 Sx.Z.tt_ok Sx.Z.kall Sx.Z.ptx_ok (T:=26) (Ts:=[]) rfl hargs h0 r0 (fun x hx=>of_decide_eq_true (List.all_eq_true.1 hz3.1 x hx)) hk0 hval (fun d Ds hB hD=>Sx.Z.parseTexts_ob d Ds (Sx.Z.sy_in (hB 0 _ rfl) (hB 1 _ rfl) (hB 2 _ rfl)) hD) (Sx.Z.tab_laid hL)).mono fun e W' ⟨he,bel⟩=>?_
 subst he
 have hO:=Sx.args_out parseTexts_laidOut bel _ _ _ _ (by kernel_rfl) hA
 rw [<- Tryz.params3] at hO
 obtain ⟨_,rfl,_⟩:=trodAll_nil r0
 exact ⟨_,rfl,_,_,_,[],_,[],hW',trodAll_mk1 (shut_bool Tryz.underlying4 _),hO,rfl,bel.frame _,fun h=>by cases h⟩
theorem parseTexts_holds:Rows.ParseTextsSaid:=
 OpenClaim.holds_of_wide 3 Tryz.f3 rfl rfl rfl rfl rfl rfl rfl ⟨rfl,rfl,rfl,rfl,rfl⟩ rfl rfl rfl rfl rfl (by kernel_rfl) Tryz.func3 (by kernel_rfl)
  (of_decide_eq_true (by kernel_rfl)) (by unfold Func.isWrapper;first |(rw [if_pos (by decide +kernel)];kernel_rfl) |(rw [if_neg (by decide +kernel)];exact ⟨rfl,rfl⟩))
  (fun os started H enc _=>parseTexts_lifted os started H enc)
theorem parseTexts_card:Rows.ParseTextsCardSaid:=
 Claim7.holds_tied_plain_at .later [] [.data, .data, .data] true (true, "f37856e31efdd5d2afd6d85cce5dd8b58a9a85646ad1d41e5297a745cf7eb860") false
  parseTexts_holds (fun _ h=>by cases h) (by kernel_rfl) (fun _ h=>by cases h) parseTexts_row_tie rfl ⟨rfl,rfl⟩ (by kernel_rfl) rfl
  (fun f fn hf hfn=>by
    obtain rfl : f = 3 := Option.some.inj ((show Tryz.prog.funcNamed "jetsam/jetsamlaw03.ParseTexts" = some 3 by kernel_rfl).symm.trans hf) |>.symm
    obtain rfl:fn=Tryz.f3:=(Option.some.inj (Tryz.func3.symm.trans hfn)).symm
    exact ⟨by kernel_rfl,fun j t ht=>by
     rw [Tryz.params3] at ht
     have hm:t∈[26]:=by
      have h2:=Array.mem_of_getElem? ht
      first |(simpa using h2) |(simp at h2;simp;exact h2) |(simp at h2;rcases h2 with rfl |rfl<;>decide)
     have hall:([26].all fun u=>!Tryz.prog.wantsStandIn u)=true:=by kernel_rfl
     exact (show Tryz.prog.wantsStandIn t=false by simpa using List.all_eq_true.1 hall t hm)⟩)
  (by kernel_rfl)
end Go.Proofs.YthpponmbpoaffaaGreatDoor
