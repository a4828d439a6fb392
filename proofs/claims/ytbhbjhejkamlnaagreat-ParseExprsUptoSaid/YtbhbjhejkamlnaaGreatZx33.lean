import Derived.Test.YtbhbjhejkamlnaaGreatZx28
import Derived.Test.YtbhbjhejkamlnaaGreatZx32
set_option linter.all false
namespace Go.Proofs.YtbhbjhejkamlnaaGreat.Sx.Z
open Go.RowKit
def gS0:AP:=.agg [.c (.rows 62),.c (.rows 66),.c (.rows 34)]
def rpq (d:D) (i:Nat):Bool:=nmB (d.el i 0).toS&&nsA (d.el i 1)&&vB (d.el i 2)
def vSy (ch ru pr:D):Bool:=bO ch.len (chE ch)&&(bO ru.len (ruE ru)&&bO pr.len (rpq pr))
theorem Cw {ch ru pr:D} (h:vSy ch ru pr=true):syB ch ru pr=true:=by
 unfold vSy at h;unfold syB;simp only[Bool.and_eq_true] at h ⊢;refine ⟨h.1,h.2.1,eZ fun i hi=>?_⟩;have:=bP.1 h.2.2 i hi;unfold rpq at this;unfold prE;simp only[Bool.and_eq_true] at this ⊢;exact ⟨this.1,Kj _ _ (Nat.le_refl _) this.2⟩
noncomputable def Cx:FSpec:=fun ds _=>match ds with
 | [.d ch,.d ru,.d pr]=>some {val:=.one (.sc (.bool (.sym (vSy ch ru pr)))),vc:=[sW ch,sW ru,sW pr]}
 |_=>none
noncomputable def Cy:Con:=con [gS0] Cx
theorem K5:ConOK Tryz.prog 12 Cy:=by
 refine bg tt_ok au Tryz.func12 rfl (fun _ _=>by kernel_rfl) (A:=fun ds=>⟨fun _=>Cons.of [(35,qn),(36,tY),(37,BS)],fun k=>match k,ds with | 2,[.d ch,.d ru,.d pr]=>some {ι:=Nat,pre:=fun s q=>q<=ch.len/\∀ j,j<q->chE ch j=true,μ:=fun q=>2200001-q,st:=fun s q=>aV s [(3,.one (.sc (.int .i64 (.sym ((q:Nat))))))] [1] [] [1]} | 8,[.d ch,.d ru,.d pr]=>some {ι:=Nat,pre:=fun s q=>q<=(ch.el (aN s 3) 5).len/\∀ j,j<q->nsE (ch.el (aN s 3) 5) j=true,μ:=fun q=>2200001-q,st:=fun s q=>aV s [(5,.one (.sc (.int .i64 (.sym ((q:Nat))))))] [1,3,4] [] [1,4]} | 13,[.d ch,.d ru,.d pr]=>some {ι:=Nat,pre:=fun s q=>q<=ru.len/\∀ j,j<q->ruE ru j=true,μ:=fun q=>2200001-q,st:=fun s q=>aV s [(6,.one (.sc (.int .i64 (.sym ((q:Nat))))))] [1] [] [1]} | 18,[.d ch,.d ru,.d pr]=>some {ι:=Nat,pre:=fun s q=>q<=(ru.el (aN s 6) 1).len/\∀ j,j<q->mvE (ru.el (aN s 6) 1) j=true,μ:=fun q=>2200001-q,st:=fun s q=>aV s [(7,.one (.sc (.int .i64 (.sym ((q:Nat))))))] [1,6] [] [1]} | 24,[.d ch,.d ru,.d pr]=>some {ι:=Nat,pre:=fun s q=>q<=pr.len/\∀ j,j<q->rpq pr j=true,μ:=fun q=>2200001-q,st:=fun s q=>aV s [(9,.one (.sc (.int .i64 (.sym ((q:Nat))))))] [1] [] [1]} | 30,[.d ch,.d ru,.d pr]=>some {ι:=Nat,pre:=fun s q=>q<=(pr.el (aN s 9) 1).len/\∀ j,j<q->nsE (pr.el (aN s 9) 1) j=true,μ:=fun q=>2200001-q,st:=fun s q=>aV s [(11,.one (.sc (.int .i64 (.sym ((q:Nat))))))] [1,9,10] [] [1,10]} |_,_=>none,fun _=>none⟩) (fun _ _=>(af tX (af BM (af Km aq)))) (by kernel_rfl) ?_
 intro ds fr;unfold Cx;split
 ·rename_i ch ru pr
  refine kmp (q:=ac (fun (i:Nat)=>ch.el (i:Int).toNat 5) fun Ea=>ac (fun (i:Nat)=>ch.el (i:Int).toNat 4) fun Eb=>ac (fun (i:Nat)=>ru.el (i:Int).toNat 1) fun Ec=>ac (fun (i:Nat)=>ch.el (i:Int).toNat 3) fun Ed=>ac (fun (i:Nat)=>pr.el (i:Int).toNat 1) fun Ee=>ac (fun (i:Nat)=>pr.el (i:Int).toNat 2) fun Ef=>ac (fun (i:Nat)=>ch.el (i:Int).toNat 1) fun Eg=>ac (fun (i:Nat)=>ch.el (i:Int).toNat 2) fun Eh=>ac (fun (i:Nat)=>ch.el (i:Int).toNat 0) fun Ei=>ac (fun (i:Nat)=>pr.el (i:Int).toNat 0) fun Ej=>ac (fun (i:Nat) (i_1:Nat)=>(Ec i).el (i_1:Int).toNat 2) fun Ek=>ac (fun (i:Nat)=>ru.el (i:Int).toNat (0+0:Nat)) fun El=>ac (fun (i:Nat) (i_1:Nat)=>(Ec i).el (i_1:Int).toNat 1) fun Em=>sW ch->sW ru->sW pr->(∃ (i:Nat),(i<=ch.len/\∀ (j:Nat),j<i->chE ch j=true)/\0=(i:Int)/\ch.rows=ch.rows/\ru.rows=ru.rows/\pr.rows=pr.rows)/\∀ (i:Nat),(i<=ch.len/\∀ (j:Nat),j<i->chE ch j=true)->(decide ((i:Int)<(ch.len:Int))=true->(0<=(i:Int)/\(i:Int)<(ch.len:Int))/\(Ei i).toS.size<=2147483647/\((!nmB (Ei i).toS)=false/\True->(Ed i).toS.size<=2147483647)/\((!nmB (Ei i).toS || !nmB (Ed i).toS)=false/\True->(Eb i).toS.size<=2147483647)/\((!nmB (Ei i).toS || !nmB (Ed i).toS || !nmB (Eb i).toS ||decide ((Eg i).toI<0) ||decide ((Eg i).toI>2) || !nuB (Eh i).toI ||((Ea i).len:Int)==0)=true->false=vSy ch ru pr)/\((!nmB (Ei i).toS || !nmB (Ed i).toS || !nmB (Eb i).toS ||decide ((Eg i).toI<0) ||decide ((Eg i).toI>2) || !nuB (Eh i).toI ||((Ea i).len:Int)==0)=false->(∃ (i_1:Nat),(i_1<=(ch.el i 5).len/\∀ (j:Nat),j<i_1->nsE (ch.el i 5) j=true)/\0=(i_1:Int)/\(i:Int)=(i:Int)/\ch.rows=ch.rows/\ru.rows=ru.rows/\pr.rows=pr.rows/\Value.string (Ei i).toS=Value.string (Ei i).toS/\(Eg i).toI=(Eg i).toI/\(Eh i).toI=(Eh i).toI/\Value.string (Ed i).toS=Value.string (Ed i).toS/\Value.string (Eb i).toS=Value.string (Eb i).toS/\(Ea i).rows=(Ea i).rows)/\∀ (i_1:Nat),(i_1<=(ch.el i 5).len/\∀ (j:Nat),j<i_1->nsE (ch.el i 5) j=true)->(decide ((i_1:Int)<((Ea i).len:Int))=true->(0<=(i_1:Int)/\(i_1:Int)<((Ea i).len:Int))/\((Ea i).el (i_1:Int).toNat 0).toS.size<=2147483647/\((!nmB ((Ea i).el (i_1:Int).toNat 0).toS)=true->false=vSy ch ru pr)/\((!nmB ((Ea i).el (i_1:Int).toNat 0).toS)=false->∃ (j:Nat),(j<=(ch.el i 5).len/\∀ (j_1:Nat),j_1<j->nsE (ch.el i 5) j_1=true)/\(2200001:Nat)-j<(2200001:Nat)-i_1/\IntKind.i64.wrap ((i_1:Int)+1)=(j:Int)/\(i:Int)=(i:Int)/\ch.rows=ch.rows/\ru.rows=ru.rows/\pr.rows=pr.rows/\Value.string (Ei i).toS=Value.string (Ei i).toS/\(Eg i).toI=(Eg i).toI/\(Eh i).toI=(Eh i).toI/\Value.string (Ed i).toS=Value.string (Ed i).toS/\Value.string (Eb i).toS=Value.string (Eb i).toS/\(Ea i).rows=(Ea i).rows))/\(decide ((i_1:Int)<((Ea i).len:Int))=false->∃ (j:Nat),(j<=ch.len/\∀ (j_1:Nat),j_1<j->chE ch j_1=true)/\(2200001:Nat)-j<(2200001:Nat)-i/\IntKind.i64.wrap ((i:Int)+1)=(j:Int)/\ch.rows=ch.rows/\ru.rows=ru.rows/\pr.rows=pr.rows)))/\(decide ((i:Int)<(ch.len:Int))=false->(∃ (i:Nat),(i<=ru.len/\∀ (j:Nat),j<i->ruE ru j=true)/\0=(i:Int)/\ch.rows=ch.rows/\ru.rows=ru.rows/\pr.rows=pr.rows)/\∀ (i:Nat),(i<=ru.len/\∀ (j:Nat),j<i->ruE ru j=true)->(decide ((i:Int)<(ru.len:Int))=true->(0<=(i:Int)/\(i:Int)<(ru.len:Int))/\(El i).toS.size<=2147483647/\((!nmB (El i).toS)=true->false=vSy ch ru pr)/\((!nmB (El i).toS)=false->(∃ (i_1:Nat),(i_1<=(ru.el i 1).len/\∀ (j:Nat),j<i_1->mvE (ru.el i 1) j=true)/\0=(i_1:Int)/\(i:Int)=(i:Int)/\ch.rows=ch.rows/\ru.rows=ru.rows/\pr.rows=pr.rows)/\∀ (i_1:Nat),(i_1<=(ru.el i 1).len/\∀ (j:Nat),j<i_1->mvE (ru.el i 1) j=true)->(0<=(i:Int)/\(i:Int)<(ru.len:Int))/\(decide ((i_1:Int)<((Ec i).len:Int))=true->(0<=(i:Int)/\(i:Int)<(ru.len:Int))/\(0<=(i_1:Int)/\(i_1:Int)<((Ec i).len:Int))/\((!nuB ((Ec i).el (i_1:Int).toNat 0).toI || !nuB (Ek i i_1).toI)=false/\True->(Em i i_1).toS.size<=2147483647)/\((!nuB ((Ec i).el (i_1:Int).toNat 0).toI || !nuB (Ek i i_1).toI || !nmB (Em i i_1).toS)=true->false=vSy ch ru pr)/\((!nuB ((Ec i).el (i_1:Int).toNat 0).toI || !nuB (Ek i i_1).toI || !nmB (Em i i_1).toS)=false->∃ (j:Nat),(j<=(ru.el i 1).len/\∀ (j_1:Nat),j_1<j->mvE (ru.el i 1) j_1=true)/\(2200001:Nat)-j<(2200001:Nat)-i_1/\IntKind.i64.wrap ((i_1:Int)+1)=(j:Int)/\(i:Int)=(i:Int)/\ch.rows=ch.rows/\ru.rows=ru.rows/\pr.rows=pr.rows))/\(decide ((i_1:Int)<((Ec i).len:Int))=false->∃ (j:Nat),(j<=ru.len/\∀ (j_1:Nat),j_1<j->ruE ru j_1=true)/\(2200001:Nat)-j<(2200001:Nat)-i/\IntKind.i64.wrap ((i:Int)+1)=(j:Int)/\ch.rows=ch.rows/\ru.rows=ru.rows/\pr.rows=pr.rows)))/\(decide ((i:Int)<(ru.len:Int))=false->(∃ (i:Nat),(i<=pr.len/\∀ (j:Nat),j<i->rpq pr j=true)/\0=(i:Int)/\ch.rows=ch.rows/\ru.rows=ru.rows/\pr.rows=pr.rows)/\∀ (i:Nat),(i<=pr.len/\∀ (j:Nat),j<i->rpq pr j=true)->(decide ((i:Int)<(pr.len:Int))=true->(0<=(i:Int)/\(i:Int)<(pr.len:Int))/\(Ej i).toS.size<=2147483647/\((!nmB (Ej i).toS)=false/\True->sW (Ef i))/\((!nmB (Ej i).toS || !vB (Ef i))=true->false=vSy ch ru pr)/\((!nmB (Ej i).toS || !vB (Ef i))=false->(∃ (i_1:Nat),(i_1<=(pr.el i 1).len/\∀ (j:Nat),j<i_1->nsE (pr.el i 1) j=true)/\0=(i_1:Int)/\(i:Int)=(i:Int)/\ch.rows=ch.rows/\ru.rows=ru.rows/\pr.rows=pr.rows/\Value.string (Ej i).toS=Value.string (Ej i).toS/\(Ee i).rows=(Ee i).rows/\(Ef i).rows=(Ef i).rows)/\∀ (i_1:Nat),(i_1<=(pr.el i 1).len/\∀ (j:Nat),j<i_1->nsE (pr.el i 1) j=true)->(decide ((i_1:Int)<((Ee i).len:Int))=true->(0<=(i_1:Int)/\(i_1:Int)<((Ee i).len:Int))/\((Ee i).el (i_1:Int).toNat 0).toS.size<=2147483647/\((!nmB ((Ee i).el (i_1:Int).toNat 0).toS)=true->false=vSy ch ru pr)/\((!nmB ((Ee i).el (i_1:Int).toNat 0).toS)=false->∃ (j:Nat),(j<=(pr.el i 1).len/\∀ (j_1:Nat),j_1<j->nsE (pr.el i 1) j_1=true)/\(2200001:Nat)-j<(2200001:Nat)-i_1/\IntKind.i64.wrap ((i_1:Int)+1)=(j:Int)/\(i:Int)=(i:Int)/\ch.rows=ch.rows/\ru.rows=ru.rows/\pr.rows=pr.rows/\Value.string (Ej i).toS=Value.string (Ej i).toS/\(Ee i).rows=(Ee i).rows/\(Ef i).rows=(Ef i).rows))/\(decide ((i_1:Int)<((Ee i).len:Int))=false->∃ (j:Nat),(j<=pr.len/\∀ (j_1:Nat),j_1<j->rpq pr j_1=true)/\(2200001:Nat)-j<(2200001:Nat)-i/\IntKind.i64.wrap ((i:Int)+1)=(j:Int)/\ch.rows=ch.rows/\ru.rows=ru.rows/\pr.rows=pr.rows)))/\(decide ((i:Int)<(pr.len:Int))=false->true=vSy ch ru pr)))) (by kernel_rfl) ?_
  dsimp +instances only [ac]
  intro h1 h2 h3;have en:∀ i:Nat,(i:Int).toNat=i:=fun i=>Int.toNat_natCast i
  simp only[Nat.reduceAdd,Nat.zero_add,en];have nx:∀ i:Nat,i<=2200000->IntKind.i64.wrap ((i:Int)+1)=((i+1:Nat):Int):=fun i hi=>by rw[IntWalk.i64_in _ (by omega)];omega
  have ext:∀ {f:Nat->Bool} {i:Nat},(∀ j,j<i->f j=true)->f i=true->∀ j,j<i+1->f j=true:=fun {f i} h g j hj=>by
   rcases Nat.lt_or_ge j i with h1 |h1
   ·exact h j h1
   ·obtain rfl:j=i:=by omega
    exact g
  have l1:=bZ h1;have l2:=bZ h2;have l3:=bZ h3;refine ⟨⟨0,⟨Nat.zero_le _,fun j hj=>absurd hj (Nat.not_lt_zero j)⟩,rfl,(by (repeat' with_reducible constructor)<;>rfl)⟩,fun i hp=>⟨fun hc=>?_,fun hc=>?_⟩⟩
  ·have hc:=of_decide_eq_true hc;have hi:i<ch.len:=by omega
   have bad:chE ch i=false->false=vSy ch ru pr:=fun h=>by unfold vSy;rw[gQ hi h];rfl
   have s5:=aK h1 hi 5;have l5:=bZ s5;refine ⟨⟨by omega,hc⟩,dn (aK h1 hi 0),fun _=>dn (aK h1 hi 3),fun _=>dn (aK h1 hi 4),fun hb=>bad ?_,fun hb=>⟨⟨0,⟨Nat.zero_le _,fun j hj=>absurd hj (Nat.not_lt_zero j)⟩,rfl,(by (repeat' with_reducible constructor)<;>rfl)⟩,fun q hq=>⟨fun hc=>?_,fun hc=>?_⟩⟩⟩
   ·unfold chE chB
    cases hx:(nmB (ch.el i 0).toS&&decide ((ch.el i 1).toI>=0)&&decide ((ch.el i 1).toI<=2)&&nuB (ch.el i 2).toI&&nmB (ch.el i 3).toS&&nmB (ch.el i 4).toS&&decide (((ch.el i 5).len:Int)>0)&&nsA (ch.el i 5)) with
    |false=>rfl
    |true=>
     simp only[Bool.and_eq_true,decide_eq_true_eq] at hx;simp only[Bool.or_eq_true,Bool.not_eq_true',decide_eq_true_eq,beq_iff_eq] at hb;obtain ⟨⟨⟨⟨⟨⟨⟨x1,x2⟩,x3⟩,x4⟩,x5⟩,x6⟩,x7⟩,_⟩:=hx;rw[x1,x5,x6,x4] at hb;simp only[Bool.true_eq_false,false_or,or_false] at hb;omega
   ·have hc:=of_decide_eq_true hc;have hq2:q<(ch.el i 5).len:=by omega
    refine ⟨⟨by omega,hc⟩,dn (aK s5 hq2 0),fun hb=>bad ?_,fun hb=>⟨q+1,⟨hq2,ext hq.2 ?_⟩,by omega,nx q (by omega),(by (repeat' with_reducible constructor)<;>rfl)⟩⟩
    ·have:nsA (ch.el i 5)=false:=gQ hq2 (by unfold nsE;simpa using hb);unfold chE chB;rw[this,Bool.and_false]
    ·unfold nsE;simpa using hb
   ·have hc:=of_decide_eq_false hc;refine ⟨i+1,⟨hi,ext hp.2 ?_⟩,by omega,nx i (by omega),(by (repeat' with_reducible constructor)<;>rfl)⟩;have:nsA (ch.el i 5)=true:=eZ fun j hj=>hq.2 j (by omega)
    unfold chE chB;rw[this];simp only[Bool.or_eq_false_iff,Bool.not_eq_false',decide_eq_false_iff_not,beq_eq_false_iff_ne] at hb;obtain ⟨⟨⟨⟨⟨⟨x1,x2⟩,x3⟩,x4⟩,x5⟩,x6⟩,x7⟩:=hb;rw[x1,x2,x3,x6,decide_eq_true (by omega),decide_eq_true (by omega),decide_eq_true (by omega)];rfl
  have hc:=of_decide_eq_false hc;have hch:bO ch.len (chE ch)=true:=eZ fun j hj=>hp.2 j (by omega)
  refine ⟨⟨0,⟨Nat.zero_le _,fun j hj=>absurd hj (Nat.not_lt_zero j)⟩,rfl,(by (repeat' with_reducible constructor)<;>rfl)⟩,fun i hp=>⟨fun hc=>?_,fun hc=>?_⟩⟩
  ·have hc:=of_decide_eq_true hc;have hi:i<ru.len:=by omega
   have bad:ruE ru i=false->false=vSy ch ru pr:=fun h=>by unfold vSy;rw[hch,gQ hi h];rfl
   have s5:=aK h2 hi 1;have l5:=bZ s5;have hx:(0:Int)<=(i:Int)/\(i:Int)<(ru.len:Int):=⟨by omega,hc⟩;refine ⟨hx,dn (aK h2 hi 0),fun hb=>bad ?_,fun hb=>⟨⟨0,⟨Nat.zero_le _,fun j hj=>absurd hj (Nat.not_lt_zero j)⟩,rfl,(by (repeat' with_reducible constructor)<;>rfl)⟩,fun q hq=>⟨hx,fun hc=>?_,fun hc=>?_⟩⟩⟩
   ·unfold ruE ruB;rw[show nmB (ru.el i 0).toS=false by simpa using hb,Bool.and_false]
   ·have hc:=of_decide_eq_true hc;have hq2:q<(ru.el i 1).len:=by omega
    have er:mvE (ru.el i 1) q = !(!nuB ((ru.el i 1).el q 0).toI || !nuB ((ru.el i 1).el q 2).toI || !nmB ((ru.el i 1).el q 1).toS):=by
     unfold mvE
     cases nuB ((ru.el i 1).el q 0).toI<;>cases nuB ((ru.el i 1).el q 2).toI<;>cases nmB ((ru.el i 1).el q 1).toS<;>rfl
    refine ⟨hx,⟨by omega,hc⟩,fun _=>dn (aK s5 hq2 1),fun hb=>bad ?_,fun hb=>⟨q+1,⟨hq2,ext hq.2 ?_⟩,by omega,nx q (by omega),(by (repeat' with_reducible constructor)<;>rfl)⟩⟩
    ·unfold ruE ruB;rw[gQ hq2 (by rw[er,hb];rfl),Bool.false_and]
    ·rw[er,hb];rfl
   ·have hc:=of_decide_eq_false hc;refine ⟨i+1,⟨hi,ext hp.2 ?_⟩,by omega,nx i (by omega),(by (repeat' with_reducible constructor)<;>rfl)⟩;unfold ruE ruB;rw[eZ fun j hj=>hq.2 j (by omega),show nmB (ru.el i 0).toS=true by simpa using hb];rfl
  have hc:=of_decide_eq_false hc;have hru:bO ru.len (ruE ru)=true:=eZ fun j hj=>hp.2 j (by omega)
  refine ⟨⟨0,⟨Nat.zero_le _,fun j hj=>absurd hj (Nat.not_lt_zero j)⟩,rfl,(by (repeat' with_reducible constructor)<;>rfl)⟩,fun i hp=>⟨fun hc=>?_,fun hc=>?_⟩⟩
  ·have hc:=of_decide_eq_true hc;have hi:i<pr.len:=by omega
   have bad:rpq pr i=false->false=vSy ch ru pr:=fun h=>by unfold vSy;rw[hch,hru,gQ hi h];rfl
   have s5:=aK h3 hi 1;have l5:=bZ s5;refine ⟨⟨by omega,hc⟩,dn (aK h3 hi 0),fun _=>aK h3 hi 2,fun hb=>bad ?_,fun hb=>⟨⟨0,⟨Nat.zero_le _,fun j hj=>absurd hj (Nat.not_lt_zero j)⟩,rfl,(by (repeat' with_reducible constructor)<;>rfl)⟩,fun q hq=>⟨fun hc=>?_,fun hc=>?_⟩⟩⟩
   ·unfold rpq;simp only[Bool.or_eq_true,Bool.not_eq_true'] at hb
    rcases hb with hb |hb
    ·rw[hb];rfl
    ·rw[hb,Bool.and_false]
   ·have hc:=of_decide_eq_true hc;have hq2:q<(pr.el i 1).len:=by omega
    refine ⟨⟨by omega,hc⟩,dn (aK s5 hq2 0),fun hb=>bad ?_,fun hb=>⟨q+1,⟨hq2,ext hq.2 ?_⟩,by omega,nx q (by omega),(by (repeat' with_reducible constructor)<;>rfl)⟩⟩
    ·have:nsA (pr.el i 1)=false:=gQ hq2 (by unfold nsE;simpa using hb);unfold rpq;rw[this,Bool.and_false,Bool.false_and]
    ·unfold nsE;simpa using hb
   ·have hc:=of_decide_eq_false hc;refine ⟨i+1,⟨hi,ext hp.2 ?_⟩,by omega,nx i (by omega),(by (repeat' with_reducible constructor)<;>rfl)⟩;have:nsA (pr.el i 1)=true:=eZ fun j hj=>hq.2 j (by omega)
    unfold rpq;rw[this];simp only[Bool.or_eq_false_iff,Bool.not_eq_false'] at hb;rw[hb.1,hb.2];rfl
  have hc:=of_decide_eq_false hc;have hpr:bO pr.len (rpq pr)=true:=eZ fun j hj=>hp.2 j (by omega)
  unfold vSy;rw[hch,hru,hpr];rfl
 ·trivial
def dQ (d:D) (i:Nat):List D:=d.rows.getD i []
theorem Cz:∀ l:List (List D),wRs l=aZ l.length (fun i=>1+wR (l.getD i []))
 | []=>rfl
 |r::l=>by
  show 1+wR r+wRs l=aZ (l.length+1) _;rw[qj,Cz l];rfl
theorem uK (d:D):1+aZ d.len (fun i=>1+wR (dQ d i))<=wD d:=by
 cases d with
 |l rows=>
  show 1+aZ rows.length _<=1+wRs rows;rw[Cz rows];exact Nat.le_refl _
 |i n=>exact Nat.le_refl _
 |b n=>exact Nat.le_refl _
 |s n=>show 1+0<=1+n.size;omega
theorem CA:∀ (r:List D) (n:Nat),aZ n (fun j=>wD (r.getD j (.i 0))-1)<=wR r
 | [],n=>by
   have:∀ n,aZ n (fun j=>wD (([]:List D).getD j (.i 0))-1)=0:=fun n=>by
    induction n with
    |zero=>rfl
    |succ n ih=>show aZ n _+0=0;rw[ih]
   rw[this];exact Nat.zero_le _
 |x::r,0=>Nat.zero_le _
 |x::r,n+1=>by
  rw[qj];have:=CA r n;show (wD x-1)+aZ n _<=wD x+wR r;have:aZ n (fun i=>wD ((x::r).getD (i+1) (.i 0))-1)<=wR r:=this;omega
def uE (d:D) (i j:Nat):Nat:=wD (d.el i j)-1
theorem jT (d:D) (i n:Nat):aZ n (uE d i)<=wR (dQ d i):=CA (dQ d i) n
theorem lJ (f:Nat->Nat):∀ {n i:Nat},i<n->f i<=aZ n f
 |n+1,i,h=>by
  show _<=aZ n f+f n
  rcases Nat.lt_or_ge i n with h1 |h1
  ·exact Nat.le_trans (lJ f h1) (Nat.le_add_right _ _)
  ·obtain rfl:i=n:=by omega
   exact Nat.le_add_left _ _
theorem qw (f:Nat->List ByteArray) (g:Nat->Nat):∀ n,(∀ i,i<n->(f i).length<=g i)->(ae n f).length<=aZ n g
 | 0,_=>Nat.zero_le _
 |n+1,h=>by
  rw[ej,List.length_append];exact Nat.add_le_add (qw f g n fun i hi=>h i (by omega)) (h n (by omega))
theorem nJ {d:D} {f:Nat->List ByteArray} (c:Nat) (h:∀ i,i<d.len->(f i).length<=c*(1+wR (dQ d i))):(ae d.len f).length<=c*(wD d-1):=by
 have h1:=qw f _ d.len h;rw[qi] at h1;exact Nat.le_trans h1 (Nat.mul_le_mul_left c (by have:=uK d;omega))
theorem uL (b:Bool) (l:List ByteArray):(par b l).length<=l.length+2:=by
 unfold par;split
 ·rw[List.length_cons,List.length_append];exact Nat.le_refl _
 ·omega
theorem nK:∀ (m:Nat) {k n:Int} {s:ByteArray} {d:D},SizeOf.sizeOf d<=m->vX k n s d=true->(xW k n s d).length<=8*(wD d-1)+1
 |m,k,n,s,d,hm,h=>by
  by_cases h1:k=1
  ·subst h1;show 1<=_;omega
  by_cases h2:k=2
  ·subst h2;show 1<=_;omega
  have key:∀ i,i<d.len->vX (d.el i 0).toI (d.el i 1).toI (d.el i 2).toS (d.el i 3)=true->(xW (d.el i 0).toI (d.el i 1).toI (d.el i 2).toS (d.el i 3)).length<=8*wR (dQ d i)+1:=fun i hi hx=>by
   have hs:=ap (j:=3) hi
   cases m with
   |zero=>omega
   |succ m=>
    have:=nK m (by omega) hx;have hu:=Nat.le_trans (lJ (uE d i) (show 3<4 by omega)) (jT d i 4);unfold uE at hu;omega
  have hr:=uK d
  by_cases h3:k=3
  ·subst h3;obtain ⟨e,hx⟩:=iO h;rw[lq n s (by omega),List.length_cons];have:=key 0 (by omega) hx;have:=uL (biB (d.el 0 0).toI) (xW (d.el 0 0).toI (d.el 0 1).toI (d.el 0 2).toS (d.el 0 3));rw[e] at hr;have hr:1+(0+(1+wR (dQ d 0)))<=wD d:=hr;omega
  ·have hb:=ue h h1 h2 h3;obtain ⟨e,x0,x1⟩:=lD hb h;rw[iH n s hb (by omega),List.length_append,List.length_cons];have:=key 0 (by omega) x0;have:=key 1 (by omega) x1;have:=uL (brB k 0 (d.el 0 0).toI) (xW (d.el 0 0).toI (d.el 0 1).toI (d.el 0 2).toS (d.el 0 3));have:=uL (brB k 1 (d.el 1 0).toI) (xW (d.el 1 0).toI (d.el 1 1).toI (d.el 1 2).toS (d.el 1 3));rw[e] at hr;have hr:1+((0+(1+wR (dQ d 0)))+(1+wR (dQ d 1)))<=wD d:=hr;omega
theorem qx (l:List ByteArray):(blW l).length=l.length+2:=by
 unfold blW;rw[List.length_cons,List.length_append];rfl
theorem uM {op lk ln:Int} {ls:ByteArray} {ld:D} {rk rn:Int} {rs:ByteArray} {rd:D} (h:vC op lk ln ls ld rk rn rs rd=true):(cW op lk ln ls ld rk rn rs rd).length<=8*(wD ld-1)+8*(wD rd-1)+5:=by
 have:=nK _ (Nat.le_refl _) (lE h).2.1;have:=nK _ (Nat.le_refl _) (lE h).2.2;unfold cW;simp only[List.length_cons,List.length_append,List.length_nil];omega
theorem uN:∀ (m:Nat) {d:D},SizeOf.sizeOf d<=m->vB d=true->(bW d).length<=30*(wD d-1)
 |m,d,hm,h=>by
  rw[qb];refine nJ 30 fun i hi=>?_
  rw[iK] at h;have h:=bP.1 h i hi;have hu:=jT d i 19;have hu:0+uE d i 0+uE d i 1+uE d i 2+uE d i 3+uE d i 4+uE d i 5+uE d i 6+uE d i 7+uE d i 8+uE d i 9+uE d i 10+uE d i 11+uE d i 12+uE d i 13+uE d i 14+uE d i 15+uE d i 16+uE d i 17+uE d i 18<=wR (dQ d i):=hu;have kid:∀ j,vB (d.el i j)=true->(bW (d.el i j)).length<=30*uE d i j:=fun j hb=>by
   have hs:=ap (j:=j) hi
   cases m with
   |zero=>omega
   |succ m=>exact uN m (by omega) hb
  have arm:∀ j,j<(d.el i 18).len->vAr (d.el i 18) j=true->(arW (d.el i 18) j).length<=30*(1+wR (dQ (d.el i 18) j)):=fun j hj hb=>by
   have hs:=ap (j:=18) hi;have hs2:=ap (j:=2) hj;unfold vAr at hb;simp only[Bool.and_eq_true] at hb;have hv:=Nat.le_trans (lJ (uE (d.el i 18) j) (show 2<3 by omega)) (jT (d.el i 18) j 3)
   cases m with
   |zero=>omega
   |succ m=>
    have:=uN m (d:=(d.el i 18).el j 2) (by omega) hb.2;unfold arW tA;simp only[List.length_cons,qx];unfold uE at hv;omega
  unfold vSt vA bz at h;unfold ak stW fL
  by_cases k1:(d.el i 0).toI=1
  ·rw[if_pos k1] at h ⊢;simp only[Bool.and_eq_true] at h;have:=nK _ (Nat.le_refl _) h.2;have e:uE d i 6=wD (d.el i 6)-1:=rfl;simp only[List.length_cons,List.length_append,List.length_nil];omega
  rw[if_neg k1] at h ⊢
  by_cases k2:(d.el i 0).toI=2
  ·rw[if_pos k2] at h ⊢;simp only[Bool.and_eq_true] at h;have:=uM h.1.1;have:=kid 16 h.1.2;have:=kid 17 h.2;have e:uE d i 11=wD (d.el i 11)-1:=rfl;have e:uE d i 15=wD (d.el i 15)-1:=rfl;simp only[List.length_cons,List.length_append,qx];split
   ·simp only[List.length_cons,qx];omega
   ·simp only[List.length_nil];omega
  rw[if_neg k2] at h ⊢
  by_cases k3:(d.el i 0).toI=3
  ·rw[if_pos k3] at h ⊢;simp only[Bool.and_eq_true] at h;have:=uM h.1;have:=kid 16 h.2;have e:uE d i 11=wD (d.el i 11)-1:=rfl;have e:uE d i 15=wD (d.el i 15)-1:=rfl;simp only[List.length_cons,List.length_append,qx];omega
  rw[if_neg k3] at h ⊢
  by_cases k4:(d.el i 0).toI=4
  ·rw[if_pos k4] at h ⊢;simp only[Bool.and_eq_true] at h;have:=nK _ (Nat.le_refl _) h.2;have e:uE d i 6=wD (d.el i 6)-1:=rfl;simp only[List.length_cons,List.length_append,List.length_nil];omega
  rw[if_neg k4] at h ⊢
  by_cases k5:(d.el i 0).toI=5
  ·rw[if_pos k5] at h ⊢;simp only[Bool.and_eq_true] at h;have hb:=bP.1 h.2;have:=nJ (d:=d.el i 18) (f:=arW (d.el i 18)) 30 fun j hj=>arm j hj (hb j hj)
   have e:uE d i 18=wD (d.el i 18)-1:=rfl;simp only[List.length_cons,List.length_append,List.length_nil];omega
  rw[if_neg k5] at h ⊢
  by_cases k6:(d.el i 0).toI=6
  ·rw[if_pos k6] at h ⊢;have:=uM h;have e:uE d i 11=wD (d.el i 11)-1:=rfl;have e:uE d i 15=wD (d.el i 15)-1:=rfl;simp only[List.length_cons,List.length_append,List.length_nil];omega
  rw[if_neg k6] at h ⊢;split
  ·simp only[List.length_cons,List.length_nil];omega
  ·simp only[List.length_nil];omega
def pdq (pr:D) (i:Nat):Bool:=decide (bD (pr.el i 2)<=24)&&decide (bX (pr.el i 2)<=24)
def rwE (ch ru pr:D):Int:=if vSy ch ru pr=true then (if bO pr.len (pdq pr)=true then (if (syW ch ru pr).length>2000 then 4 else 0) else 6) else 5
def rwA (ch ru pr:D):D:=if rwE ch ru pr=0 then wsR (syW ch ru pr) else .l []
theorem rw5 {ch ru pr:D} (h:vSy ch ru pr=false):rwE ch ru pr=5:=by unfold rwE;rw[h];rfl
theorem rw6 {ch ru pr:D} (h:vSy ch ru pr=true) (h2:bO pr.len (pdq pr)=false):rwE ch ru pr=6:=by unfold rwE;rw[h,h2];rfl
theorem rw4 {ch ru pr:D} (h:vSy ch ru pr=true) (h2:bO pr.len (pdq pr)=true) (h3:(syW ch ru pr).length>2000):rwE ch ru pr=4:=by unfold rwE;rw[h,h2,if_pos rfl,if_pos rfl,if_pos h3]
theorem rw0 {ch ru pr:D} (h:vSy ch ru pr=true) (h2:bO pr.len (pdq pr)=true) (h3:¬ (syW ch ru pr).length>2000):rwE ch ru pr=0:=by unfold rwE;rw[h,h2,if_pos rfl,if_pos rfl,if_neg h3]
theorem uO {ch ru pr:D} (h:rwE ch ru pr≠0):rwA ch ru pr = .l []:=if_neg h
theorem uP {ch ru pr:D} (h:rwE ch ru pr=0):rwA ch ru pr=wsR (syW ch ru pr):=if_pos h
theorem CB {ch ru pr:D} (h:rwE ch ru pr=0):vSy ch ru pr=true/\bO pr.len (pdq pr)=true/\(syW ch ru pr).length<=2000:=by
 unfold rwE at h
 split at h
 ·rename_i h1
  split at h
  ·rename_i h2
   split at h
   ·cases h
   ·exact ⟨h1,h2,by omega⟩
  ·cases h
 ·cases h
theorem K6 (d:D):∀ q,q<=d.len->(ae q (tgW d)).length<=2*q:=fun q _=>by
 have h:=qw (tgW d) (fun _=>2) q fun i _=>by
  unfold tgW;split
  ·exact Nat.le_refl 2
  ·exact Nat.le_succ 1
 have:∀ n,aZ n (fun _=>2)=2*n:=fun n=>by
  induction n with
  |zero=>rfl
  |succ n ih=>show aZ n _+2=_;rw[ih];omega
 rw[this] at h;exact h
theorem K7 (ch:D) (i:Nat):(az ch i).length<=30*(1+wR (dQ ch i)):=by
 have hu:=Nat.le_trans (lJ (uE ch i) (show 5<6 by omega)) (jT ch i 6);have:=K6 (ch.el i 5) _ (Nat.le_refl _);have:=qk (ch.el i 5);unfold uE at hu;unfold az tB;simp only[List.length_cons,List.length_append,List.length_nil];omega
theorem CC (c:Nat) (f:Nat->List ByteArray) (h:∀ i,(f i).length<=c) (n:Nat):(ae n f).length<=c*n:=by
 have h:=qw f (fun _=>c) n fun i _=>h i
 have:∀ n,aZ n (fun _=>c)=c*n:=fun n=>by
  induction n with
  |zero=>rfl
  |succ n ih=>show aZ n _+c=_;rw[ih,Nat.mul_succ]
 rw[this] at h;exact h
theorem K8 (ru:D) (i:Nat):(aY ru i).length<=30*(1+wR (dQ ru i)):=by
 have hu:=Nat.le_trans (lJ (uE ru i) (show 1<2 by omega)) (jT ru i 2);have:=CC 4 (mvW (ru.el i 1)) (fun _=>Nat.le_refl 4) (ru.el i 1).len;have:=qk (ru.el i 1);unfold uE at hu;unfold aY tC;simp only[List.length_cons,List.length_append,List.length_nil];omega
theorem K9 {pr:D} {i:Nat} (h:vB (pr.el i 2)=true):(bH pr i).length<=30*(1+wR (dQ pr i)):=by
 have hu:=jT pr i 3;have hu:0+uE pr i 0+uE pr i 1+uE pr i 2<=wR (dQ pr i):=hu;have:=CC 3 (vaW (pr.el i 1)) (fun _=>Nat.le_refl 3) (pr.el i 1).len;have:=qk (pr.el i 1);have:=uN _ (Nat.le_refl _) h;unfold uE at hu;unfold bH tD;simp only[List.length_cons,List.length_append,List.length_nil];omega
theorem La {ch ru pr:D} (h:vSy ch ru pr=true) (h1:sW ch) (h2:sW ru) (h3:sW pr):(syW ch ru pr).length<=200000000:=by
 unfold vSy at h;simp only[Bool.and_eq_true] at h;have a:=nJ 30 (d:=ch) (f:=az ch) fun i _=>K7 ch i
 have b:=nJ 30 (d:=ru) (f:=aY ru) fun i _=>K8 ru i
 have c:=nJ 30 (d:=pr) (f:=bH pr) fun i hi=>K9 (by
  have:=bP.1 h.2.2 i hi;unfold rpq at this;simp only[Bool.and_eq_true] at this;exact this.2)
 have h1:wD ch<=2200000:=h1;have h2:wD ru<=2200000:=h2;have h3:wD pr<=2200000:=h3;unfold syW;simp only[List.length_append];omega
end Go.Proofs.YtbhbjhejkamlnaaGreat.Sx.Z
