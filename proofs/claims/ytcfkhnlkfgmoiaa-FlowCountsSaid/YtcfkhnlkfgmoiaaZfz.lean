/-
  FlowCounts: no edge but those that the statements make
  Conditions: none.
-/
import Derived.Test.YtcfkhnlkfgmoiaaRows
import Derived.WalkKit
import Derived.ProofKit
import Derived.OpenShut
import Derived.ChangeOld
import Derived.Below
import Derived.Test.YtcfkhnlkfgmoiaaZf19
set_option linter.unusedVariables false
set_option linter.unusedSimpArgs false
namespace Go.Proofs.Ytcfkhnlkfgmoiaa.Sx.Z
theorem flowCounts_ob:∀ Ds,DsOk tt [3,3,3] Ds->lawOb tt fctC [3,3,3] Ds:=by
 intro Ds hD;obtain ⟨d0,Ds,rfl,h0,hD⟩:=dsOk_cons hD;obtain ⟨d1,Ds,rfl,h1,hD⟩:=dsOk_cons hD;obtain ⟨d2,Ds,rfl,h2,hD⟩:=dsOk_cons hD;obtain rfl:=dsOk_nil hD;have k0:=h0 _ (by kernel_rfl:kT tt 9 3=some ([.int .i64]));have k1:=h1 _ (by kernel_rfl:kT tt 9 3=some ([.int .i64]));have k2:=h2 _ (by kernel_rfl:kT tt 9 3=some ([.int .i64]));refine kmp (q:=true=true/\True) (by kernel_rfl) ?_
 exact ⟨rfl,trivial⟩
end Go.Proofs.Ytcfkhnlkfgmoiaa.Sx.Z
namespace Go.Proofs.Ytcfkhnlkfgmoiaa
open Go.ChangeShapes Go.WideShapes Go.ChangeAt Go.RowKit
theorem flowCounts_own:ownKnob Try.prog.godebug=none:=by kernel_rfl
theorem flowCounts_laidOut:laidOutB Try.prog=true:=by kernel_rfl
set_option maxRecDepth 100000 in
theorem flowCounts_lifted (os:Os) (started:os.Started) (H:Type) (enc:TypeId × Value->H) :
 ReturnsInHanded {} Try.checked os 4 .any (Rows.flowCountsSpec.pre6 enc Try.prog Try.f4 Rows.flowCountsRow.domain false) (Rows.flowCountsSpec.post enc Try.prog Try.f4 false true false false):=by
 refine returnsInHanded_of_change (C:=Try.checked) flowCounts_own started (by kernel_rfl) Try.func4
  (ChangeSpec.witness6 (enc:=enc) (C:=Try.checked) false ⟨#[],#[.int .i64 0,.int .i64 0,.int .i64 0],[]⟩ 8 (by kernel_rfl) (by kernel_rfl) (by kernel_rfl) (by kernel_rfl)) ?_
 intro W base args ds gs before hval0 hW _ _;have hval:∀ (j:Nat) t v,Try.f4.params[j]? = some t->args[j]? = some v->Value.okWide Try.prog W .any base t v:=hval0;have hW':=hW;obtain ⟨p,q,hA0,hV,rfl,_,_⟩:=hW;have hA:DataW.TrodAll enc Try.prog W 0 (fun _=>true) true Try.f4.params.toList args.toList ds p:=hA0;rw [Try.params4] at hA hval;obtain ⟨rfl,rfl⟩:=trodVars_none hV;clear hA0 hval0;refine (Sx.law_in Sx.Z.tt_ok Sx.Z.kall Sx.Z.fct_ok hA hval Sx.Z.flowCounts_ob (fun _ _ h=>h.elim)).mono fun e W' ⟨he,bel⟩=>?_
 subst he;have hO:=Sx.args_out flowCounts_laidOut bel _ _ _ _ (by kernel_rfl) hA;rw [<- Try.params4] at hO;obtain ⟨_,_,x0,ds0,_,_,_,rfl,_,_,r0⟩:=trodAll_cons hA;obtain ⟨_,_,x1,ds1,_,_,_,rfl,_,_,r1⟩:=trodAll_cons r0;obtain ⟨_,_,x2,ds2,_,_,_,rfl,_,_,r2⟩:=trodAll_cons r1;obtain ⟨_,rfl,_⟩:=trodAll_nil r2;exact ⟨_,rfl,_,_,_,[],_,[],hW',trodAll_mk1 (shut_bool Try.underlying4 _),hO,rfl,bel.frame _,fun h=>by cases h⟩
theorem flowCounts_holds:Rows.FlowCountsSaid:=
 OpenClaim.holds_of_wide 4 Try.f4 rfl rfl rfl rfl rfl rfl rfl ⟨rfl,rfl,rfl,rfl,rfl⟩ rfl rfl rfl rfl rfl (by kernel_rfl) Try.func4 (by kernel_rfl)
  (of_decide_eq_true (by kernel_rfl)) (by unfold Func.isWrapper;first |(rw [if_pos (by decide +kernel)];kernel_rfl) |(rw [if_neg (by decide +kernel)];exact ⟨rfl,rfl⟩))
  (fun os started H enc _=>flowCounts_lifted os started H enc)
end Go.Proofs.Ytcfkhnlkfgmoiaa
