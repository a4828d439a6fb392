/-
  CheckRight: of all systems with numbers it is told whether they may be.
  Conditions: none.
-/
import Derived.Test.YtcfkhnlkfgmoiaaGreatDoorRows
import Derived.WalkKit
import Derived.ProofKit
import Derived.OpenShut
import Derived.ChangeOld
import Derived.Below
import Derived.LaidMore
import Derived.Stop.Joined
import Derived.Test.YtcfkhnlkfgmoiaaGreatDoorCards
import Derived.Test.YtcfkhnlkfgmoiaaGreatDoorTie
import Derived.SevenTiedAt
import Derived.Test.YtcfkhnlkfgmoiaaGreatDoorZc25
set_option linter.unusedVariables false
set_option linter.unusedSimpArgs false
namespace Go.Proofs.YtcfkhnlkfgmoiaaGreatDoor.Sx.Z
theorem k4_in:∀ (m:Nat) (d:D),SizeOf.sizeOf d<=m->DOkB Tryz.prog (.slice 54) d->k4S d:=by
 intro m
 induction m with
 |zero=>
  intro d h hd
  cases hd with
  |slice e d h1 h2=>
   have hb:Tryz.prog.bytesOf 54=48:=by kernel_rfl
   rw [hb] at h1;refine (k4S_iff d).2 ⟨Nat.le_trans h1 (by decide),fun i hi=>?_⟩;have:=lel_lt (j:=3) hi;omega
 |succ m ih=>
  intro d h hd
  cases hd with
  |slice e d h1 h2=>
   have hb:Tryz.prog.bytesOf 54=48:=by kernel_rfl
   rw [hb] at h1;refine (k4S_iff d).2 ⟨Nat.le_trans h1 (by decide),fun i hi=>?_⟩;have:=lel_lt (j:=3) hi;exact ih _ (by omega) (h2 i 3 _ hi (by rfl))
theorem b4_in:∀ (m:Nat) (d:D),SizeOf.sizeOf d<=m->DOkB Tryz.prog (.slice 59) d->b4S d:=by
 intro m
 induction m with
 |zero=>
  intro d h hd
  cases hd with
  |slice e d h1 h2=>
   have hb:Tryz.prog.bytesOf 59=256:=by kernel_rfl
   rw [hb] at h1;refine (b4S_iff d).2 ⟨Nat.le_trans h1 (by decide),fun i hi=>?_⟩;have:=lel_lt (j:=3) hi;omega
 |succ m ih=>
  intro d h hd
  cases hd with
  |slice e d h1 h2=>
   have hb:Tryz.prog.bytesOf 59=256:=by kernel_rfl
   rw [hb] at h1;refine (b4S_iff d).2 ⟨Nat.le_trans h1 (by decide),fun i hi=>?_⟩;have l1:=lel_lt (j:=17) hi;have l2:=lel_lt (j:=18) hi;have l3:=lel_lt (j:=19) hi;have ha:=h2 i 19 _ hi (by rfl);refine ⟨k4_in _ _ (Nat.le_refl _) (h2 i 7 _ hi (by rfl)),k4_in _ _ (Nat.le_refl _) (h2 i 12 _ hi (by rfl)),k4_in _ _ (Nat.le_refl _) (h2 i 16 _ hi (by rfl)),ih _ (by omega) (h2 i 17 _ hi (by rfl)),ih _ (by omega) (h2 i 18 _ hi (by rfl)),?_⟩;generalize d.el i 19=am at ha l3 ⊢
   cases ha with
   |slice e am a1 a2=>
    have hb2:Tryz.prog.bytesOf 152=40:=by kernel_rfl
    rw [hb2] at a1;refine ⟨Nat.le_trans a1 (by decide),fun j hj=>?_⟩;have l4:=lel_lt (j:=2) hj;exact ih _ (by omega) (a2 j 2 _ hj (by rfl))
theorem int_in {d:D} (h:DOkB Tryz.prog (.slice 3) d):d.len*8<=140737488355328:=by
 cases h with
 |slice e d h1 h2=>
  have hb:Tryz.prog.bytesOf 3=8:=by kernel_rfl
  rw [hb] at h1;exact Nat.le_trans h1 (by decide)
theorem rr_in {d:D} (h:DOkB Tryz.prog (.slice 47) d):d.len*24<=140737488355328/\∀ i,i<d.len->(d.el i 0).len*8<=140737488355328:=by
 cases h with
 |slice e d h1 h2=>
  have hb:Tryz.prog.bytesOf 47=24:=by kernel_rfl
  rw [hb] at h1;exact ⟨Nat.le_trans h1 (by decide),fun i hi=>int_in (h2 i 0 _ hi (by rfl))⟩
theorem c4_in {d:D} (h:DOkB Tryz.prog (.slice 46) d):d.len*64<=140737488355328/\(∀ i,i<d.len->(d.el i 5).len*24<=140737488355328)/\∀ i,i<d.len->∀ k,k<(d.el i 5).len->((d.el i 5).el k 0).len*8<=140737488355328:=by
 cases h with
 |slice e d h1 h2=>
  have hb:Tryz.prog.bytesOf 46=64:=by kernel_rfl
  rw [hb] at h1;exact ⟨Nat.le_trans h1 (by decide),fun i hi=>(rr_in (h2 i 5 _ hi (by rfl))).1,fun i hi=>(rr_in (h2 i 5 _ hi (by rfl))).2⟩
theorem p4_in {d:D} (h:DOkB Tryz.prog (.slice 51) d):d.len*32<=140737488355328/\∀ i,i<d.len->b4S (d.el i 1):=by
 cases h with
 |slice e d h1 h2=>
  have hb:Tryz.prog.bytesOf 51=32:=by kernel_rfl
  rw [hb] at h1;exact ⟨Nat.le_trans h1 (by decide),fun i hi=>b4_in _ _ (Nat.le_refl _) (h2 i 1 _ hi (by rfl))⟩
theorem s4_in {c p:D} (hc:DOkB Tryz.prog (.slice 46) c) (hp:DOkB Tryz.prog (.slice 51) p):Sy4 c p:=
 ⟨(c4_in hc).1,(c4_in hc).2.1,(c4_in hc).2.2,(p4_in hp).1,(p4_in hp).2⟩
theorem checkRight_ob:∀ d0 Ds,Sy4 (d0.el 0 0) (d0.el 0 1)->DsOk tt [] Ds->lawOb tt ckrC [25] (d0::Ds):=by
 intro d0 Ds hS hD;obtain rfl:=dsOk_nil hD;refine kmp (q:=true=true/\Sy4 (d0.el (0:Nat) 0) (d0.el (0:Nat) 1)/\True) (by kernel_rfl) ?_
 exact ⟨rfl,hS,trivial⟩
end Go.Proofs.YtcfkhnlkfgmoiaaGreatDoor.Sx.Z
namespace Go.Proofs.YtcfkhnlkfgmoiaaGreatDoor
open Go.ChangeShapes Go.WideShapes Go.ChangeAt Go.RowKit
theorem checkRight_own:ownKnob Tryz.prog.godebug=none:=by kernel_rfl
theorem checkRight_laidOut:laidOutB Tryz.prog=true:=by kernel_rfl
theorem checkRight_door (os : Os) (args : Array Value) : laidMetH Tryz.prog [("math/bits.deBruijn32tab", Rows.laid_math_bits_deBruijn32tab), ("math/bits.deBruijn64tab", Rows.laid_math_bits_deBruijn64tab), ("internal/strconv.uint64pow10", Rows.laid_internal_strconv_uint64pow10)] ((World.doorLaid Tryz.prog 400 os).forCall (fun _ _ => 0) ⟨#[], args, []⟩).memory :=
 laidMetH_of_parts3 (fuel:=8) (laidMet_of_run' 8 (by kernel_rfl) (by kernel_rfl)) (by kernel_rfl) (by kernel_rfl)
set_option maxRecDepth 100000 in
theorem checkRight_lifted (os:Os) (started:os.Started) (H:Type) (enc:TypeId × Value->H) :
 ReturnsInHanded {} Tryz.checked os 3 .any (fun w args=>(Rows.checkRightSpec.pre enc Tryz.prog Tryz.f3 [] false w args /\ laidMetH Tryz.prog [("math/bits.deBruijn32tab", Rows.laid_math_bits_deBruijn32tab), ("math/bits.deBruijn64tab", Rows.laid_math_bits_deBruijn64tab), ("internal/strconv.uint64pow10", Rows.laid_internal_strconv_uint64pow10)] w) /\ sizedMet enc Tryz.prog Tryz.f3 (OpenSpec.ofChange Rows.checkRightSpec) false w args)
  (Rows.checkRightSpec.post enc Tryz.prog Tryz.f3 false true false false):=by
 refine returnsInHanded_of_change_and (C := Tryz.checked) (X := fun w _=>laidMetH Tryz.prog [("math/bits.deBruijn32tab", Rows.laid_math_bits_deBruijn32tab), ("math/bits.deBruijn64tab", Rows.laid_math_bits_deBruijn64tab), ("internal/strconv.uint64pow10", Rows.laid_internal_strconv_uint64pow10)] w) (fun _ _ _ hh h=>h.of_heap hh) checkRight_own started (by kernel_rfl) Tryz.func3
  (ChangeSpec.witness_shaped (enc := enc) (C := Tryz.checked) (os := os) (X := fun w _=>laidMetH Tryz.prog [("math/bits.deBruijn32tab", Rows.laid_math_bits_deBruijn32tab), ("math/bits.deBruijn64tab", Rows.laid_math_bits_deBruijn64tab), ("internal/strconv.uint64pow10", Rows.laid_internal_strconv_uint64pow10)] w) false (World.doorLaid Tryz.prog 400 os) #[.agg #[.slice none 0 0, .slice none 0 0]] 8 rfl (World.shaped_of_RefB (by kernel_rfl) (by kernel_rfl)) (by kernel_rfl) (by kernel_rfl) (by kernel_rfl) (checkRight_door os _)) ?_
 intro W base args ds gs before hval0 hW _ hz hL _;have hval:∀ (j:Nat) t v,Tryz.f3.params[j]? = some t->args[j]? = some v->Value.okWide Tryz.prog W .any base t v:=hval0;have hW':=hW;obtain ⟨p,q,hA0,hV,rfl,_,_⟩:=hW;have hA:DataW.TrodAll enc Tryz.prog W 0 (fun _=>true) true Tryz.f3.params.toList args.toList ds p:=hA0;rw [Tryz.params3] at hA hval;obtain ⟨rfl,rfl⟩:=trodVars_none hV;clear hA0 hval0;obtain ⟨v0,vs0,d0,ds0,p0,q0,hargs,rfl,rfl,h0,r0⟩:=trodAll_cons hA;have hz3:((DataW.weightsEach Tryz.prog (25::([]++DataSpec.varTypes Tryz.checked.prog Rows.checkRightSpec.plain)) (d0::(ds0++[]))).all (fun x=>decide (x<=reachBytes)))=true:=by
  rw [Tryz.params3] at hz;exact hz
 rw [DataW.weightsEach,List.all_append,Bool.and_eq_true] at hz3;have hk0:Sx.kT Sx.Z.tt 9 25=some [.slice 46,.slice 51]:=by kernel_rfl
 refine (Sx.law_in3 Sx.Z.tt_ok Sx.Z.kall Sx.Z.ckr_ok (T:=25) (Ts:=[]) rfl hargs h0 r0 (fun x hx=>of_decide_eq_true (List.all_eq_true.1 hz3.1 x hx)) hk0 hval (fun d Ds hB hD=>Sx.Z.checkRight_ob d Ds (Sx.Z.s4_in (hB 0 _ rfl) (hB 1 _ rfl)) hD) (Sx.Z.tab_laid hL)).mono fun e W' ⟨he,bel⟩=>?_
 subst he;have hO:=Sx.args_out checkRight_laidOut bel _ _ _ _ (by kernel_rfl) hA;rw [<- Tryz.params3] at hO;obtain ⟨_,rfl,_⟩:=trodAll_nil r0;exact ⟨_,rfl,_,_,_,[],_,[],hW',trodAll_mk1 (shut_bool Tryz.underlying4 _),hO,rfl,bel.frame _,fun h=>by cases h⟩
theorem checkRight_holds:Rows.CheckRightSaid:=
 OpenClaim.holds_of_wide 3 Tryz.f3 rfl rfl rfl rfl rfl rfl rfl ⟨rfl,rfl,rfl,rfl,rfl⟩ rfl rfl rfl rfl rfl (by kernel_rfl) Tryz.func3 (by kernel_rfl)
  (of_decide_eq_true (by kernel_rfl)) (by unfold Func.isWrapper;first |(rw [if_pos (by decide +kernel)];kernel_rfl) |(rw [if_neg (by decide +kernel)];exact ⟨rfl,rfl⟩))
  (fun os started H enc _=>checkRight_lifted os started H enc)
theorem checkRight_card:Rows.CheckRightCardSaid:=
 Claim7.holds_tied_plain_at .later [] [.data, .data, .data] true (true, "3586fa29550fb151b82abd3fbadc558f752c40c0d13ff7bd590789a9ef270dce") false
  checkRight_holds (fun _ h=>by cases h) (by kernel_rfl) (fun _ h=>by cases h) checkRight_row_tie rfl ⟨rfl,rfl⟩ (by kernel_rfl) rfl
  (fun f fn hf hfn=>by
    obtain rfl : f = 3 := Option.some.inj ((show Tryz.prog.funcNamed "jetsam/jetsamlaw04.CheckRight" = some 3 by kernel_rfl).symm.trans hf) |>.symm;obtain rfl:fn=Tryz.f3:=(Option.some.inj (Tryz.func3.symm.trans hfn)).symm;exact ⟨by kernel_rfl,fun j t ht=>by
     rw [Tryz.params3] at ht;have hm:t∈[25]:=by
      have h2:=Array.mem_of_getElem? ht
      first |(simpa using h2) |(simp at h2;simp;exact h2) |(simp at h2;rcases h2 with rfl |rfl<;>decide)
     have hall:([25].all fun u=>!Tryz.prog.wantsStandIn u)=true:=by kernel_rfl
     exact (show Tryz.prog.wantsStandIn t=false by simpa using List.all_eq_true.1 hall t hm)⟩)
  (by kernel_rfl)
end Go.Proofs.YtcfkhnlkfgmoiaaGreatDoor
