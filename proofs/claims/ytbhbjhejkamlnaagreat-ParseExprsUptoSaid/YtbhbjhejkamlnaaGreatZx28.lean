import Derived.Test.YtbhbjhejkamlnaaGreatZx27
set_option linter.all false
namespace Go.Proofs.YtbhbjhejkamlnaaGreat.Sx.Z
open Go.RowKit
def vB (d:D):Bool:=(List.finRange d.len).all fun (i:Fin d.len)=>bz (d.el i 0).toI (d.el i 1).toS (d.el i 2).toS (vX (d.el i 3).toI (d.el i 4).toI (d.el i 5).toS (d.el i 6)) (vC (d.el i 7).toI (d.el i 8).toI (d.el i 9).toI (d.el i 10).toS (d.el i 11) (d.el i 12).toI (d.el i 13).toI (d.el i 14).toS (d.el i 15)) (vB (d.el i 16)) (vB (d.el i 17)) (d.el i 18).len
    ((List.finRange (d.el i 18).len).all fun (j:Fin (d.el i 18).len)=>nmB ((d.el i 18).el j 0).toS&&nmB ((d.el i 18).el j 1).toS&&vB ((d.el i 18).el j 2))
 termination_by SizeOf.sizeOf d
 decreasing_by
  ·exact ap i.isLt
  ·exact ap i.isLt
  ·exact Nat.lt_trans (ap j.isLt) (ap i.isLt)
def vAr (am:D) (j:Nat):Bool:=nmB (am.el j 0).toS&&nmB (am.el j 1).toS&&vB (am.el j 2)
def vAk (am:D) (k:Nat):Bool:=bO k (vAr am)
def vA (k:Int) (nm tg:ByteArray) (ek en:Int) (es:ByteArray) (ed:D) (op lk ln:Int) (ls:ByteArray) (ld:D) (rk rn:Int) (rs:ByteArray) (rd bd eb am:D):Bool:=
 bz k nm tg (vX ek en es ed) (vC op lk ln ls ld rk rn rs rd) (vB bd) (vB eb) am.len (vAk am am.len)
def vSt (d:D) (i:Nat):Bool:=vA (d.el i 0).toI (d.el i 1).toS (d.el i 2).toS (d.el i 3).toI (d.el i 4).toI (d.el i 5).toS (d.el i 6) (d.el i 7).toI (d.el i 8).toI (d.el i 9).toI (d.el i 10).toS (d.el i 11) (d.el i 12).toI (d.el i 13).toI (d.el i 14).toS (d.el i 15) (d.el i 16) (d.el i 17) (d.el i 18)
theorem iK (d:D):vB d=bO d.len (vSt d):=by
 rw[vB,<- p9]
 congr 1
 funext i
 unfold vSt vA vAk;rw[<- p9];rfl
theorem Kh (am:D) (k:Nat):vAk am (k+1)=(vAk am k&&vAr am k):=by
 unfold vAk bO;rw[List.range_succ,List.all_append]
 simp
theorem Ki {k:Int} {nm tg:ByteArray} {e c b el a e' c' b' el' a':Bool} {al:Int} (h:bz k nm tg e c b el al a=true) (he:e=true->e'=true) (hc:c=true->c'=true) (hb:b=true->b'=true) (hl:el=true->el'=true) (ha:a=true->a'=true):bz k nm tg e' c' b' el' al a'=true:=by
 unfold bz at h ⊢
 repeat' split at h
 all_goals simp_all
theorem Kj:∀ (m:Nat) (d:D),SizeOf.sizeOf d<=m->vB d=true->bA d=true:=by
 intro m
 induction m with
 |zero=>
  intro d hm h;rw[qa];refine eZ fun i hi=>?_
  have:=ap (j:=0) hi;omega
 |succ m ih=>
  intro d hm h;rw[iK] at h;rw[qa];refine eZ fun i hi=>?_
  have h0:=bP.1 h i hi;have z1:=ap (j:=16) hi;have z2:=ap (j:=17) hi;have z3:=ap (j:=18) hi;refine Ki h0 tW Kd (ih _ (by omega)) (ih _ (by omega)) fun ha=>?_
  refine eZ fun j hj=>?_
  have h1:=bP.1 ha j hj;have z4:=ap (j:=2) hj;unfold vAr at h1;unfold arE;simp only[Bool.and_eq_true] at h1 ⊢;exact ⟨h1.1,ih _ (by omega) h1.2⟩
noncomputable def t7:FSpec:=fun ds _=>match ds with
 | [.d d]=>some {val:=.one (.sc (.bool (.sym (vB d)))),vc:=[sW d]}
 |_=>none
noncomputable def BS:Con:=con [gB0] t7
noncomputable def t8:List Dat->Nat:=fun ds=>match ds with
 | [.d d]=>SizeOf.sizeOf d
 |_=>0
noncomputable def lB (m:Nat):FSpec:=fun ds _=>match ds with
 | [.d d]=>some {val:=.one (.sc (.bool (.sym (vB d)))),vc:=[SizeOf.sizeOf d<m,sW d]}
 |_=>none
theorem Kk (m:Nat):t7.under t8 m=lB m:=by
 funext ds fr
 unfold FSpec.under t7 t8 lB;split
 ·rename_i e h
  split at h
  ·obtain rfl:=Option.some.inj h;rfl
  ·cases h
 ·rename_i h
  split at h
  ·cases h
  ·rfl
theorem Kl (m:Nat) (ih:ConOK Tryz.prog 37 (con [gB0] (lB m))):ConOK Tryz.prog 37 (con [gB0] (lB (m+1))):=by
 refine bg tt_ok au Tryz.func37 rfl (fun _ _=>by kernel_rfl) (A:=fun ds=>⟨fun _=>Cons.of [(35,qn),(64,t5),(65,BQ),(37,con [gB0] (lB m))],fun k=>match k,ds with | 2,[.d d]=>some {ι:=Nat,pre:=fun _ i=>i<=d.len/\∀ j,j<i->vSt d j=true,μ:=fun i=>d.len+1-i,st:=fun s i=>aV s [(3,.one (.sc (.int .i64 (.sym ((i:Nat))))))] [0] [] []} | 18,[.d d]=>some {ι:=Nat,pre:=fun s q=>q<=(d.el (aN s 3) 18).len/\True,μ:=fun q=>2200001-q,st:=fun s q=>aV s [(6,.one (.sc (.int .i64 (.sym ((q:Nat)))))),(5,.one (.sc (.bool (.sym (nmB (d.el (aN s 3) 1).toS&&decide (((d.el (aN s 3) 18).len:Int)>0)&&vAk (d.el (aN s 3) 18) q)))))] [0,3,4] [] [4]} |_,_=>none,fun _=>none⟩) (fun _ _=>(af tX (af BO (af Kg (af ih aq))))) (by kernel_rfl) ?_
 intro ds fr;unfold lB;split
 ·rename_i d
  refine kmp (q:=ac (fun (i:Nat)=>d.el (i:Int).toNat 18) fun Ea=>ac (fun (i:Nat)=>vC (d.el (i:Int).toNat 7).toI (d.el (i:Int).toNat 8).toI (d.el (i:Int).toNat 9).toI (d.el (i:Int).toNat 10).toS (d.el (i:Int).toNat 11) (d.el (i:Int).toNat 12).toI (d.el (i:Int).toNat 13).toI (d.el (i:Int).toNat 14).toS (d.el (i:Int).toNat 15)&&vB (d.el (i:Int).toNat 16)) fun Eb=>ac (fun (i:Nat)=>d.el (i:Int).toNat 15) fun Ec=>ac (fun (i:Nat)=>d.el (i:Int).toNat 14) fun Ed=>ac (fun (i:Nat)=>d.el (i:Int).toNat 11) fun Ee=>ac (fun (i:Nat)=>d.el (i:Int).toNat 10) fun Ef=>ac (fun (i:Nat)=>d.el (i:Int).toNat 13) fun Eg=>ac (fun (i:Nat)=>d.el (i:Int).toNat 16) fun Eh=>ac (fun (i:Nat)=>d.el (i:Int).toNat 12) fun Ei=>ac (fun (i:Nat)=>d.el (i:Int).toNat 17) fun Ej=>ac (fun (i:Nat)=>d.el (i:Int).toNat 9) fun Ek=>ac (fun (i:Nat)=>d.el (i:Int).toNat 8) fun El=>ac (fun (i:Nat)=>d.el (i:Int).toNat 7) fun Em=>ac (fun (i:Nat)=>d.el (i:Int).toNat 6) fun En=>ac (fun (i:Nat)=>d.el (i:Int).toNat 5) fun Eo=>ac (fun (i:Nat)=>d.el (i:Int).toNat 1) fun Ep=>ac (fun (i:Nat)=>d.el (i:Int).toNat 4) fun Eq=>ac (fun (i:Nat) (i_1:Nat)=>nmB (d.el i 1).toS&&decide (((d.el i 18).len:Int)>0)&&vAk (d.el i 18) i_1&&nmB ((Ea i).el (i_1:Int).toNat (0+0:Nat)).toS&&nmB ((Ea i).el (i_1:Int).toNat 1).toS) fun Er=>ac (fun (i:Nat)=>d.el (i:Int).toNat 0) fun Es=>ac (fun (i:Nat)=>d.el (i:Int).toNat 3) fun Et=>ac (fun (i:Nat)=>d.el (i:Int).toNat 2) fun Eu=>ac (fun (i:Nat) (i_1:Nat)=>nmB (d.el i 1).toS&&decide (((d.el i 18).len:Int)>0)&&vAk (d.el i 18) i_1) fun Ev=>ac (fun (i:Nat) (i_1:Nat)=>nmB (d.el i 1).toS&&decide (((d.el i 18).len:Int)>0)&&vAk (d.el i 18) i_1&&nmB ((Ea i).el (i_1:Int).toNat (0+0:Nat)).toS) fun Ew=>ac (fun (i:Nat)=>vC (Em i).toI (El i).toI (Ek i).toI (Ef i).toS (Ee i) (Ei i).toI (Eg i).toI (Ed i).toS (Ec i)&&vB (Eh i)&&vB (Ej i)) fun Ex=>ac (fun (i:Nat)=>nmB (Ep i).toS&&nmB (Eu i).toS&&vX (Et i).toI (Eq i).toI (Eo i).toS (En i)) fun Ey=>ac (fun (i:Nat) (i_1:Nat)=>(Ea i).el (i_1:Int).toNat (0+2:Nat)) fun Ez=>ac (fun (i:Nat)=>nmB (Ep i).toS&&vX (Et i).toI (Eq i).toI (Eo i).toS (En i)) fun EA=>SizeOf.sizeOf d<m+1->sW d->(∃ (i:Nat),(i<=d.len/\∀ (j:Nat),j<i->vSt d j=true)/\0=(i:Int)/\d.rows=d.rows)/\∀ (i:Nat),(i<=d.len/\∀ (j:Nat),j<i->vSt d j=true)->(decide ((i:Int)<(d.len:Int))=true->(0<=(i:Int)/\(i:Int)<(d.len:Int))/\(((Es i).toI==1)=true->(Ep i).toS.size<=2147483647/\(nmB (Ep i).toS=true/\True->(Eo i).toS.size<=2147483647)/\(nmB (Ep i).toS=true/\True->sW (En i))/\((!(EA i))=true->false=vB d)/\((!(EA i))=false->∃ (j:Nat),(j<=d.len/\∀ (j_1:Nat),j_1<j->vSt d j_1=true)/\d.len+1-j<d.len+1-i/\IntKind.i64.wrap ((i:Int)+1)=(j:Int)/\d.rows=d.rows))/\(((Es i).toI==1)=false->(((Es i).toI==2)=true->(Ef i).toS.size<=2147483647/\sW (Ee i)/\(Ed i).toS.size<=2147483647/\sW (Ec i)/\(vC (Em i).toI (El i).toI (Ek i).toI (Ef i).toS (Ee i) (Ei i).toI (Eg i).toI (Ed i).toS (Ec i)=true/\True->SizeOf.sizeOf (Eh i)<m)/\(vC (Em i).toI (El i).toI (Ek i).toI (Ef i).toS (Ee i) (Ei i).toI (Eg i).toI (Ed i).toS (Ec i)=true/\True->sW (Eh i))/\((Eb i)=true/\True->SizeOf.sizeOf (Ej i)<m)/\((Eb i)=true/\True->sW (Ej i))/\((!(Ex i))=true->false=vB d)/\((!(Ex i))=false->∃ (j:Nat),(j<=d.len/\∀ (j_1:Nat),j_1<j->vSt d j_1=true)/\d.len+1-j<d.len+1-i/\IntKind.i64.wrap ((i:Int)+1)=(j:Int)/\d.rows=d.rows))/\(((Es i).toI==2)=false->(((Es i).toI==3)=true->(Ef i).toS.size<=2147483647/\sW (Ee i)/\(Ed i).toS.size<=2147483647/\sW (Ec i)/\(vC (Em i).toI (El i).toI (Ek i).toI (Ef i).toS (Ee i) (Ei i).toI (Eg i).toI (Ed i).toS (Ec i)=true/\True->SizeOf.sizeOf (Eh i)<m)/\(vC (Em i).toI (El i).toI (Ek i).toI (Ef i).toS (Ee i) (Ei i).toI (Eg i).toI (Ed i).toS (Ec i)=true/\True->sW (Eh i))/\((!(Eb i))=true->false=vB d)/\((!(Eb i))=false->∃ (j:Nat),(j<=d.len/\∀ (j_1:Nat),j_1<j->vSt d j_1=true)/\d.len+1-j<d.len+1-i/\IntKind.i64.wrap ((i:Int)+1)=(j:Int)/\d.rows=d.rows))/\(((Es i).toI==3)=false->(((Es i).toI==4)=true->(Ep i).toS.size<=2147483647/\(nmB (Ep i).toS=true/\True->(Eu i).toS.size<=2147483647)/\((nmB (Ep i).toS&&nmB (Eu i).toS)=true/\True->(Eo i).toS.size<=2147483647)/\((nmB (Ep i).toS&&nmB (Eu i).toS)=true/\True->sW (En i))/\((!(Ey i))=true->false=vB d)/\((!(Ey i))=false->∃ (j:Nat),(j<=d.len/\∀ (j_1:Nat),j_1<j->vSt d j_1=true)/\d.len+1-j<d.len+1-i/\IntKind.i64.wrap ((i:Int)+1)=(j:Int)/\d.rows=d.rows))/\(((Es i).toI==4)=false->(((Es i).toI==5)=true->(Ep i).toS.size<=2147483647/\(∃ (i_1:Nat),(i_1<=(d.el i 18).len/\True)/\0=(i_1:Int)/\(nmB (Ep i).toS&&decide (((Ea i).len:Int)>0))=(Ev i i_1)/\d.rows=d.rows/\(i:Int)=(i:Int)/\(Es i).toI=(Es i).toI/\Value.string (Ep i).toS=Value.string (Ep i).toS/\Value.string (Eu i).toS=Value.string (Eu i).toS/\(Et i).toI=(Et i).toI/\(Eq i).toI=(Eq i).toI/\Value.string (Eo i).toS=Value.string (Eo i).toS/\(En i).rows=(En i).rows/\(Em i).toI=(Em i).toI/\(El i).toI=(El i).toI/\(Ek i).toI=(Ek i).toI/\Value.string (Ef i).toS=Value.string (Ef i).toS/\(Ee i).rows=(Ee i).rows/\(Ei i).toI=(Ei i).toI/\(Eg i).toI=(Eg i).toI/\Value.string (Ed i).toS=Value.string (Ed i).toS/\(Ec i).rows=(Ec i).rows/\(Eh i).rows=(Eh i).rows/\(Ej i).rows=(Ej i).rows/\(Ea i).rows=(Ea i).rows)/\∀ (i_1:Nat),i_1<=(d.el i 18).len/\True->(decide ((i_1:Int)<((Ea i).len:Int))=true->((Ev i i_1)=true/\True->0<=(i_1:Int)/\(i_1:Int)<((Ea i).len:Int))/\((Ev i i_1)=true/\True->((Ea i).el (i_1:Int).toNat (0+0:Nat)).toS.size<=2147483647)/\((Ew i i_1)=true/\True->0<=(i_1:Int)/\(i_1:Int)<((Ea i).len:Int))/\((Ew i i_1)=true/\True->((Ea i).el (i_1:Int).toNat 1).toS.size<=2147483647)/\((Er i i_1)=true/\True->0<=(i_1:Int)/\(i_1:Int)<((Ea i).len:Int))/\((Er i i_1)=true/\True->SizeOf.sizeOf (Ez i i_1)<m)/\((Er i i_1)=true/\True->sW (Ez i i_1))/\∃ (j:Nat),(j<=(d.el i 18).len/\True)/\(2200001:Nat)-j<(2200001:Nat)-i_1/\IntKind.i64.wrap ((i_1:Int)+1)=(j:Int)/\(nmB (d.el i 1).toS&&decide (((d.el i 18).len:Int)>0)&&vAk (d.el i 18) i_1&&nmB ((Ea i).el (i_1:Int).toNat (0+0:Nat)).toS&&nmB ((Ea i).el (i_1:Int).toNat 1).toS&&vB (Ez i i_1))=(nmB (d.el i 1).toS&&decide (((d.el i 18).len:Int)>0)&&vAk (d.el i 18) j)/\d.rows=d.rows/\(i:Int)=(i:Int)/\(Es i).toI=(Es i).toI/\Value.string (Ep i).toS=Value.string (Ep i).toS/\Value.string (Eu i).toS=Value.string (Eu i).toS/\(Et i).toI=(Et i).toI/\(Eq i).toI=(Eq i).toI/\Value.string (Eo i).toS=Value.string (Eo i).toS/\(En i).rows=(En i).rows/\(Em i).toI=(Em i).toI/\(El i).toI=(El i).toI/\(Ek i).toI=(Ek i).toI/\Value.string (Ef i).toS=Value.string (Ef i).toS/\(Ee i).rows=(Ee i).rows/\(Ei i).toI=(Ei i).toI/\(Eg i).toI=(Eg i).toI/\Value.string (Ed i).toS=Value.string (Ed i).toS/\(Ec i).rows=(Ec i).rows/\(Eh i).rows=(Eh i).rows/\(Ej i).rows=(Ej i).rows/\(Ea i).rows=(Ea i).rows)/\(decide ((i_1:Int)<((Ea i).len:Int))=false->((!(Ev i i_1))=true->false=vB d)/\((!(Ev i i_1))=false->∃ (j:Nat),(j<=d.len/\∀ (j_1:Nat),j_1<j->vSt d j_1=true)/\d.len+1-j<d.len+1-i/\IntKind.i64.wrap ((i:Int)+1)=(j:Int)/\d.rows=d.rows)))/\(((Es i).toI==5)=false->(((Es i).toI==6)=true->(Ef i).toS.size<=2147483647/\sW (Ee i)/\(Ed i).toS.size<=2147483647/\sW (Ec i)/\((!vC (Em i).toI (El i).toI (Ek i).toI (Ef i).toS (Ee i) (Ei i).toI (Eg i).toI (Ed i).toS (Ec i))=true->false=vB d)/\((!vC (Em i).toI (El i).toI (Ek i).toI (Ef i).toS (Ee i) (Ei i).toI (Eg i).toI (Ed i).toS (Ec i))=false->∃ (j:Nat),(j<=d.len/\∀ (j_1:Nat),j_1<j->vSt d j_1=true)/\d.len+1-j<d.len+1-i/\IntKind.i64.wrap ((i:Int)+1)=(j:Int)/\d.rows=d.rows))/\(((Es i).toI==6)=false->(((Es i).toI==7)=true->(Ep i).toS.size<=2147483647/\((!nmB (Ep i).toS)=true->false=vB d)/\((!nmB (Ep i).toS)=false->∃ (j:Nat),(j<=d.len/\∀ (j_1:Nat),j_1<j->vSt d j_1=true)/\d.len+1-j<d.len+1-i/\IntKind.i64.wrap ((i:Int)+1)=(j:Int)/\d.rows=d.rows))/\(((Es i).toI==7)=false->false=vB d))))))))/\(decide ((i:Int)<(d.len:Int))=false->true=vB d)) (by kernel_rfl) ?_
  dsimp +instances only [ac]
  intro hm hd;have en:∀ i:Nat,(i:Int).toNat=i:=fun i=>Int.toNat_natCast i
  simp only[Nat.reduceAdd,Nat.zero_add,en];have hl:=bZ hd;refine ⟨⟨0,⟨Nat.zero_le _,fun j hj=>absurd hj (Nat.not_lt_zero j)⟩,rfl,trivial⟩,fun i hp=>⟨fun hc=>?_,fun hc=>?_⟩⟩
  ·have hc:=of_decide_eq_true hc;have hi:i<d.len:=by omega
   have hw:IntKind.i64.wrap ((i:Int)+1)=((i+1:Nat):Int):=by rw[IntWalk.i64_in _ (by omega)];omega
   have s1:=dn (aK hd hi 1);have s2:=dn (aK hd hi 2);have s5:=dn (aK hd hi 5);have s6:=aK hd hi 6;have s10:=dn (aK hd hi 10);have s11:=aK hd hi 11;have s14:=dn (aK hd hi 14);have s15:=aK hd hi 15;have s16:=aK hd hi 16;have s17:=aK hd hi 17;have s18:=aK hd hi 18;have z16:=ap (j:=16) hi;have z17:=ap (j:=17) hi;have z18:=ap (j:=18) hi;have z16:SizeOf.sizeOf (d.el i 16)<m:=by omega
   have z17:SizeOf.sizeOf (d.el i 17)<m:=by omega
   have fin:∀ X:Bool,X=vSt d i->((!X)=true->false=vB d)/\((!X)=false->∃ j:Nat,(j<=d.len/\∀ j_1,j_1<j->vSt d j_1=true)/\d.len+1-j<d.len+1-i/\IntKind.i64.wrap ((i:Int)+1)=(j:Int)/\True):=fun X hX=>by
    refine ⟨fun h=>?_,fun h=>⟨i+1,⟨hi,fun j hj=>?_⟩,by omega,hw,trivial⟩⟩
    ·rw[iK];exact (gQ hi (by rw[<- hX];simpa using h)).symm
    ·rcases Nat.lt_or_ge j i with h1 |h1
     ·exact hp.2 j h1
     ·obtain rfl:j=i:=by omega
      rw[<- hX];simpa using h
   refine ⟨⟨by omega,hc⟩,fun k=>⟨s1,fun _=>s5,fun _=>s6,fin _ ?_⟩,fun k1=>⟨fun k=>⟨s10,s11,s14,s15,fun _=>z16,fun _=>s16,fun _=>z17,fun _=>s17,fin _ ?_⟩,fun k2=>⟨fun k=>⟨s10,s11,s14,s15,fun _=>z16,fun _=>s16,fin _ ?_⟩,fun k3=>⟨fun k=>⟨s1,fun _=>s2,fun _=>s5,fun _=>s6,fin _ ?_⟩,fun k4=>⟨fun k=>⟨s1,⟨0,⟨Nat.zero_le _,trivial⟩,rfl,?_,(by (repeat' with_reducible constructor)<;>rfl)⟩,fun q hq=>⟨fun hc=>?_,fun hc=>fin _ ?_⟩⟩,fun k5=>⟨fun k=>⟨s10,s11,s14,s15,fin _ ?_⟩,fun k6=>⟨fun k=>⟨s1,fin _ ?_⟩,fun k7=>?_⟩⟩⟩⟩⟩⟩⟩
   ·unfold vSt vA bz;rw[eq_of_beq k];rfl
   ·unfold vSt vA bz;rw[eq_of_beq k];rfl
   ·unfold vSt vA bz;rw[eq_of_beq k];rfl
   ·unfold vSt vA bz;rw[eq_of_beq k];rfl
   ·show _=(_&&true);rw[Bool.and_true]
   ·have hc:=of_decide_eq_true hc;have hq2:q<(d.el i 18).len:=by omega
    have hl2:=bZ s18;have t0:=dn (aK s18 hq2 0);have t1:=dn (aK s18 hq2 1);have t2:=aK s18 hq2 2;have t3:=ap (j:=2) hq2;have hx:(0:Int)<=(q:Int)/\(q:Int)<((d.el i 18).len:Int):=⟨by omega,hc⟩;have hw2:IntKind.i64.wrap ((q:Int)+1)=((q+1:Nat):Int):=by rw[IntWalk.i64_in _ (by omega)];omega
    refine ⟨fun _=>hx,fun _=>t0,fun _=>hx,fun _=>t1,fun _=>hx,fun _=>by omega,fun _=>t2,q+1,⟨hq2,trivial⟩,by omega,hw2,?_,(by (repeat' with_reducible constructor)<;>rfl)⟩;rw[Kh];unfold vAr;simp only[Bool.and_assoc]
   ·have hc:=of_decide_eq_false hc;obtain rfl:q=(d.el i 18).len:=by have:=hq.1;omega
    unfold vSt vA bz;rw[eq_of_beq k];rfl
   ·unfold vSt vA bz;rw[eq_of_beq k];rfl
   ·unfold vSt vA bz;rw[eq_of_beq k];rfl
   ·rw[iK];refine (gQ hi ?_).symm;unfold vSt vA bz;rw[if_neg (ne_of_beq_false k1),if_neg (ne_of_beq_false k2),if_neg (ne_of_beq_false k3),if_neg (ne_of_beq_false k4),if_neg (ne_of_beq_false k5),if_neg (ne_of_beq_false k6),if_neg (ne_of_beq_false k7)]
  ·have hc:=of_decide_eq_false hc;rw[iK];exact (eZ fun j hj=>hp.2 j (by omega)).symm
 ·trivial
theorem Km:ConOK Tryz.prog 37 BS:=
 fY t8 (fun _ _=>by kernel_rfl) fun m ih=>by
  rw[Kk] at ih ⊢;exact Kl m ih
end Go.Proofs.YtbhbjhejkamlnaaGreat.Sx.Z
