/-
  ParseBlanks: blanks and line ends between words change nothing but places
  Conditions: what comes in is of bulk at most 1048576 (the statement's own bound).
-/
import Derived.Test.YtbhbjhejkamlnaaRows
import Derived.WalkKit
import Derived.ProofKit
import Derived.OpenShut
import Derived.ChangeOld
import Derived.Below
import Derived.JoinedCond
import Derived.Test.YtbhbjhejkamlnaaZu35
import Derived.Test.YtbhbjhejkamlnaaZu26
set_option linter.unusedVariables false
set_option linter.unusedSimpArgs false
namespace Go.Proofs.Ytbhbjhejkamlnaa.Sx.Z
theorem sW_any {d:D} (h:sW d) (i j:Nat):sW (d.el i j):=by
 by_cases hi:i<d.len
 ·exact sW_el h hi j
 ·have e:d.el i j = .i 0:=by
   show (d.rows.getD i []).getD j (.i 0)=_
   rw [List.getD_eq_getElem?_getD (l:=d.rows),List.getElem?_eq_none (by have:¬ i<d.rows.length:=hi;omega)]
   rfl
  rw [e]
  show (1:Nat)<=2097153
  decide
theorem parseBlanks_ob:∀ Ds,DsOk tt [34,41] Ds->(∀ d∈Ds,wD d<=2097153)->lawOb tt pblC [34,41] Ds:=by
 intro Ds hD hw
 obtain ⟨d0,Ds,rfl,h0,hD⟩:=dsOk_cons hD
 obtain ⟨d1,Ds,rfl,h1,hD⟩:=dsOk_cons hD
 obtain rfl:=dsOk_nil hD
 have w0:sW d0:=hw d0 (by simp)
 have w1:sW d1:=hw d1 (by simp)
 refine kmp (q:=true=true/\sW (d0.el (0:Nat) (0:Nat))/\sW (d0.el (0:Nat) 1)/\sW (d0.el (0:Nat) 2)/\u8g (d1.el (0:Nat) (0:Nat))/\True) (by kernel_rfl) ?_
 have k1:=h1 _ (by kernel_rfl:kT tt 9 41=some ([.slice 5]))
 refine ⟨rfl,sW_any w0 0 0,sW_any w0 0 1,sW_any w0 0 2,fun i hi=>?_,trivial⟩
 have h8:=k1 0 _ rfl
 cases h8 with
 |slice e d _ h=>
  have h9:=h i 0 _ hi rfl
  cases h9 with
  |int k d h=>simp [Lit.wf,IntKind.min,IntKind.max,IntKind.bits,IntKind.signed] at h;omega
end Go.Proofs.Ytbhbjhejkamlnaa.Sx.Z
namespace Go.Proofs.Ytbhbjhejkamlnaa
open Go.ChangeShapes Go.WideShapes Go.ChangeAt Go.RowKit
theorem parseBlanks_own:ownKnob Try.prog.godebug=none:=by kernel_rfl
theorem parseBlanks_laidOut:laidOutB Try.prog=true:=by kernel_rfl
set_option maxRecDepth 100000 in
theorem parseBlanks_lifted (os:Os) (started:os.Started) (H:Type) (enc:TypeId × Value->H) (F:Stop.Interp) :
 ReturnsInHanded {} Try.checked os 6 .any ((Rows.OpenSpec.upto Rows.parseBlanksSpec).pre6 enc Try.prog Try.f6 Rows.parseBlanksUptoRow.domain false) (((Rows.OpenSpec.upto Rows.parseBlanksSpec).at F).post enc Try.prog Try.f6 false true false false):=by
 refine returnsInHanded_of_cond (C:=Try.checked) (s:=Rows.OpenSpec.upto Rows.parseBlanksSpec) (k:=Rows.uptoSmall) rfl parseBlanks_own started (by kernel_rfl) Try.func6
  (OpenSpec.witness (enc:=enc) (C:=Try.checked) (s:=Rows.OpenSpec.upto Rows.parseBlanksSpec) (k:=Rows.uptoSmall) rfl false ⟨#[],#[.agg #[.slice none 0 0,.slice none 0 0,.slice none 0 0],.slice none 0 0],[]⟩ 8 (by kernel_rfl) (by kernel_rfl) (by kernel_rfl)
    (x:=([.agg [.nil,.nil,.nil],.nil],[],[])) (by kernel_rfl) rfl (by kernel_rfl)) ?_
 intro W base args ds gs before hval0 hW _ hk _
 have hval:∀ (j:Nat) t v,Try.f6.params[j]? = some t->args[j]? = some v->Value.okWide Try.prog W .any base t v:=hval0
 have hW':=hW
 obtain ⟨p,q,hA0,hV,rfl,_,_⟩:=hW
 have hA:DataW.TrodAll enc Try.prog W 0 (fun _=>true) true Try.f6.params.toList args.toList ds p:=hA0
 rw [Try.params6] at hA hval
 obtain ⟨rfl,rfl⟩:=trodVars_none hV
 clear hA0 hval0
 rw [List.append_nil] at hk
 have hb:Rows.uptoBulkAll ds<=1048576:=of_decide_eq_true hk
 refine (Sx.law_inU Sx.Z.tt_ok Sx.Z.kall Sx.Z.pbl_ok hA hb hval Sx.Z.parseBlanks_ob (fun _ _ h=>h.elim)).mono fun e W' ⟨he,bel⟩=>?_
 subst he
 have hO:=Sx.args_out parseBlanks_laidOut bel _ _ _ _ (by kernel_rfl) hA
 rw [<- Try.params6] at hO
 obtain ⟨_,_,x0,ds0,_,_,_,rfl,_,_,r0⟩:=trodAll_cons hA
 obtain ⟨_,_,x1,ds1,_,_,_,rfl,_,_,r1⟩:=trodAll_cons r0
 obtain ⟨_,rfl,_⟩:=trodAll_nil r1
 exact ⟨_,rfl,_,_,_,[],_,[],hW',trodAll_mk1 (shut_bool Try.underlying4 _),hO,rfl,bel.frame _,fun h=>by cases h⟩
theorem parseBlanksUpto_holds:Rows.ParseBlanksUptoSaid:=
 OpenClaim.holds_of_cond 6 Try.f6 rfl rfl rfl rfl rfl rfl rfl ⟨rfl,rfl,rfl,rfl,rfl⟩ rfl rfl rfl rfl rfl (by kernel_rfl) Try.func6 (by kernel_rfl)
  (of_decide_eq_true (by kernel_rfl)) (by unfold Func.isWrapper;first |(rw [if_pos (by decide +kernel)];kernel_rfl) |(rw [if_neg (by decide +kernel)];exact ⟨rfl,rfl⟩))
  (fun os started H enc _ F=>parseBlanks_lifted os started H enc F)
end Go.Proofs.Ytbhbjhejkamlnaa
