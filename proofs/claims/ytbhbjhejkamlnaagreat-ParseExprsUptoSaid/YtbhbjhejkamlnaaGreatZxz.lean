/-
  ParseExprs: of all expressions that stand in more ( and ) than must, the same expression is told, as long as they aren't too deep
  Conditions: what comes in is of bulk at most 1048576 (the statement's own bound).
-/
import Derived.Test.YtbhbjhejkamlnaaGreatRows
import Derived.WalkKit
import Derived.ProofKit
import Derived.OpenShut
import Derived.ChangeOld
import Derived.Below
import Derived.JoinedCond
import Derived.Test.YtbhbjhejkamlnaaGreatZx38
import Derived.Test.YtbhbjhejkamlnaaGreatZx27
set_option linter.all false
namespace Go.Proofs.YtbhbjhejkamlnaaGreat.Sx.Z
theorem parseExprs_ob:∀ Ds,jo tt [24,3] Ds->(∀ d∈Ds,wD d<=2097153)->r7 tt EX [24,3] Ds:=by
 intro Ds hD hw;obtain ⟨d0,Ds,rfl,h0,hD⟩:=xS hD;obtain ⟨d1,Ds,rfl,h1,hD⟩:=xS hD;obtain rfl:=GT hD;have w0:sW d0:=Nat.le_trans (hw d0 (by simp)) (by decide);have w1:sW d1:=Nat.le_trans (hw d1 (by simp)) (by decide);refine kmp (q:=true=true/\sW (prX (d0.el (0:Nat) 0).toI (d0.el (0:Nat) 1).toI (d0.el (0:Nat) 2).toS (d0.el (0:Nat) 3))/\True) (by kernel_rfl) ?_
 exact ⟨rfl,Mw (hw d0 (by simp)),trivial⟩
end Go.Proofs.YtbhbjhejkamlnaaGreat.Sx.Z
namespace Go.Proofs.YtbhbjhejkamlnaaGreat
open Go.ChangeShapes Go.WideShapes Go.ChangeAt Go.RowKit
theorem Nh:ownKnob Tryz.prog.godebug=none:=by kernel_rfl
theorem Ni:laidOutB Tryz.prog=true:=by kernel_rfl
set_option maxRecDepth 100000 in
theorem Nj (os:Os) (started:os.Started) (H:Type) (enc:TypeId × Value->H) (F:Stop.Interp) :
 ReturnsInHanded {} Tryz.checked os 3 .any ((Rows.OpenSpec.upto Rows.parseExprsSpec).pre6 enc Tryz.prog Tryz.f3 Rows.parseExprsUptoRow.domain false) (((Rows.OpenSpec.upto Rows.parseExprsSpec).at F).post enc Tryz.prog Tryz.f3 false true false false):=by
 refine returnsInHanded_of_cond (C:=Tryz.checked) (s:=Rows.OpenSpec.upto Rows.parseExprsSpec) (k:=Rows.uptoSmall) rfl Nh started (by kernel_rfl) Tryz.func3
  (OpenSpec.witness (enc:=enc) (C:=Tryz.checked) (s:=Rows.OpenSpec.upto Rows.parseExprsSpec) (k:=Rows.uptoSmall) rfl false ⟨#[],#[.agg #[.int .i64 0,.int .i64 0,.string ByteArray.empty,.slice none 0 0],.int .i64 0],[]⟩ 8 (by kernel_rfl) (by kernel_rfl) (by kernel_rfl)
    (x:=([.agg [.lit (.int .i64 0),.lit (.int .i64 0),.lit (.string []),.nil],.lit (.int .i64 0)],[],[])) (by kernel_rfl) rfl (by kernel_rfl)) ?_
 intro W base args ds gs before hval0 hW _ hk _;have hval:∀ (j:Nat) t v,Tryz.f3.params[j]? = some t->args[j]? = some v->Value.okWide Tryz.prog W .any base t v:=hval0;have hW':=hW;obtain ⟨p,q,hA0,hV,rfl,_,_⟩:=hW;have hA:DataW.TrodAll enc Tryz.prog W 0 (fun _=>true) true Tryz.f3.params.toList args.toList ds p:=hA0;rw[Tryz.params3] at hA hval;obtain ⟨rfl,rfl⟩:=trodVars_none hV;clear hA0 hval0;rw[List.append_nil] at hk;have hb:Rows.uptoBulkAll ds<=1048576:=of_decide_eq_true hk;refine (Sx.J9 Sx.Z.tt_ok Sx.Z.kall Sx.Z.pex_ok hA hb hval Sx.Z.parseExprs_ob (fun _ _ h=>h.elim)).mono fun e W' ⟨he,bel⟩=>?_
 subst he;have hO:=Sx.xT Ni bel _ _ _ _ (by kernel_rfl) hA;rw[<- Tryz.params3] at hO;obtain ⟨_,_,x0,ds0,_,_,_,rfl,_,_,r0⟩:=trodAll_cons hA;obtain ⟨_,_,x1,ds1,_,_,_,rfl,_,_,r1⟩:=trodAll_cons r0;obtain ⟨_,rfl,_⟩:=trodAll_nil r1;exact ⟨_,rfl,_,_,_,[],_,[],hW',trodAll_mk1 (shut_bool Tryz.underlying4 _),hO,rfl,bel.frame _,fun h=>by cases h⟩
theorem parseExprsUpto_holds:Rows.ParseExprsUptoSaid:=
 OpenClaim.holds_of_cond 3 Tryz.f3 rfl rfl rfl rfl rfl rfl rfl ⟨rfl,rfl,rfl,rfl,rfl⟩ rfl rfl rfl rfl rfl (by kernel_rfl) Tryz.func3 (by kernel_rfl)
  (of_decide_eq_true (by kernel_rfl)) (by unfold Func.isWrapper;first |(rw[if_pos (by decide +kernel)];kernel_rfl) |(rw[if_neg (by decide +kernel)];exact ⟨rfl,rfl⟩))
  (fun os started H enc _ F=>Nj os started H enc F)
end Go.Proofs.YtbhbjhejkamlnaaGreat
