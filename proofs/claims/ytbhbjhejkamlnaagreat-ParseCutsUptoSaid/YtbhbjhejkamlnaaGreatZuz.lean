/-
  ParseCuts: of a text that is cut, or of which a word is another one, it is told where it is none
  Conditions: what comes in is of bulk at most 1048576 (the statement's own bound).
-/
import Derived.Test.YtbhbjhejkamlnaaGreatRows
import Derived.WalkKit
import Derived.ProofKit
import Derived.OpenShut
import Derived.ChangeOld
import Derived.Below
import Derived.JoinedCond
import Derived.Test.YtbhbjhejkamlnaaGreatZu36
import Derived.Test.YtbhbjhejkamlnaaGreatZu26
set_option linter.unusedVariables false
set_option linter.unusedSimpArgs false
namespace Go.Proofs.YtbhbjhejkamlnaaGreat.Sx.Z
theorem sW_any {d:D} (h:sW d) (i j:Nat):sW (d.el i j):=by
 by_cases hi:i<d.len
 ·exact sW_el h hi j
 ·have e:d.el i j = .i 0:=by
   show (d.rows.getD i []).getD j (.i 0)=_;rw [List.getD_eq_getElem?_getD (l:=d.rows),List.getElem?_eq_none (by have:¬ i<d.rows.length:=hi;omega)]
   rfl
  rw [e];show (1:Nat)<=2097153
  decide
theorem parseCuts_ob:∀ Ds,DsOk tt [39,3,9] Ds->(∀ d∈Ds,wD d<=2097153)->lawOb tt pctC [39,3,9] Ds:=by
 intro Ds hD hw;obtain ⟨d0,Ds,rfl,h0,hD⟩:=dsOk_cons hD;obtain ⟨d1,Ds,rfl,h1,hD⟩:=dsOk_cons hD;obtain ⟨d2,Ds,rfl,h2,hD⟩:=dsOk_cons hD;obtain rfl:=dsOk_nil hD;have w0:sW d0:=hw d0 (by simp)
 have w1:sW d1:=hw d1 (by simp)
 have w2:sW d2:=hw d2 (by simp)
 refine kmp (q:=true=true/\sW (d0.el (0:Nat) 0)/\sW (d0.el (0:Nat) 1)/\sW (d0.el (0:Nat) 2)/\True) (by kernel_rfl) ?_
 exact ⟨rfl,sW_any w0 0 0,sW_any w0 0 1,sW_any w0 0 2,trivial⟩
end Go.Proofs.YtbhbjhejkamlnaaGreat.Sx.Z
namespace Go.Proofs.YtbhbjhejkamlnaaGreat
open Go.ChangeShapes Go.WideShapes Go.ChangeAt Go.RowKit
theorem parseCuts_own:ownKnob Tryz.prog.godebug=none:=by kernel_rfl
theorem parseCuts_laidOut:laidOutB Tryz.prog=true:=by kernel_rfl
set_option maxRecDepth 100000 in
theorem parseCuts_lifted (os:Os) (started:os.Started) (H:Type) (enc:TypeId × Value->H) (F:Stop.Interp) :
 ReturnsInHanded {} Tryz.checked os 4 .any ((Rows.OpenSpec.upto Rows.parseCutsSpec).pre6 enc Tryz.prog Tryz.f4 Rows.parseCutsUptoRow.domain false) (((Rows.OpenSpec.upto Rows.parseCutsSpec).at F).post enc Tryz.prog Tryz.f4 false true false false):=by
 refine returnsInHanded_of_cond (C:=Tryz.checked) (s:=Rows.OpenSpec.upto Rows.parseCutsSpec) (k:=Rows.uptoSmall) rfl parseCuts_own started (by kernel_rfl) Tryz.func4
  (OpenSpec.witness (enc:=enc) (C:=Tryz.checked) (s:=Rows.OpenSpec.upto Rows.parseCutsSpec) (k:=Rows.uptoSmall) rfl false ⟨#[],#[.agg #[.slice none 0 0,.slice none 0 0,.slice none 0 0],.int .i64 0,.string ByteArray.empty],[]⟩ 8 (by kernel_rfl) (by kernel_rfl) (by kernel_rfl)
    (x:=([.agg [.nil,.nil,.nil],.lit (.int .i64 0),.lit (.string [])],[],[])) (by kernel_rfl) rfl (by kernel_rfl)) ?_
 intro W base args ds gs before hval0 hW _ hk _;have hval:∀ (j:Nat) t v,Tryz.f4.params[j]? = some t->args[j]? = some v->Value.okWide Tryz.prog W .any base t v:=hval0;have hW':=hW;obtain ⟨p,q,hA0,hV,rfl,_,_⟩:=hW;have hA:DataW.TrodAll enc Tryz.prog W 0 (fun _=>true) true Tryz.f4.params.toList args.toList ds p:=hA0
 rw [Tryz.params4] at hA hval;obtain ⟨rfl,rfl⟩:=trodVars_none hV;clear hA0 hval0;rw [List.append_nil] at hk;have hb:Rows.uptoBulkAll ds<=1048576:=of_decide_eq_true hk;refine (Sx.law_inU Sx.Z.tt_ok Sx.Z.kall Sx.Z.pct_ok hA hb hval Sx.Z.parseCuts_ob (fun _ _ h=>h.elim)).mono fun e W' ⟨he,bel⟩=>?_
 subst he;have hO:=Sx.args_out parseCuts_laidOut bel _ _ _ _ (by kernel_rfl) hA
 rw [<- Tryz.params4] at hO;obtain ⟨_,_,x0,ds0,_,_,_,rfl,_,_,r0⟩:=trodAll_cons hA;obtain ⟨_,_,x1,ds1,_,_,_,rfl,_,_,r1⟩:=trodAll_cons r0;obtain ⟨_,_,x2,ds2,_,_,_,rfl,_,_,r2⟩:=trodAll_cons r1;obtain ⟨_,rfl,_⟩:=trodAll_nil r2;exact ⟨_,rfl,_,_,_,[],_,[],hW',trodAll_mk1 (shut_bool Tryz.underlying4 _),hO,rfl,bel.frame _,fun h=>by cases h⟩
theorem parseCutsUpto_holds:Rows.ParseCutsUptoSaid:=
 OpenClaim.holds_of_cond 4 Tryz.f4 rfl rfl rfl rfl rfl rfl rfl ⟨rfl,rfl,rfl,rfl,rfl⟩ rfl rfl rfl rfl rfl (by kernel_rfl) Tryz.func4 (by kernel_rfl)
  (of_decide_eq_true (by kernel_rfl)) (by unfold Func.isWrapper;first |(rw [if_pos (by decide +kernel)];kernel_rfl) |(rw [if_neg (by decide +kernel)];exact ⟨rfl,rfl⟩))
  (fun os started H enc _ F=>parseCuts_lifted os started H enc F)
end Go.Proofs.YtbhbjhejkamlnaaGreat
