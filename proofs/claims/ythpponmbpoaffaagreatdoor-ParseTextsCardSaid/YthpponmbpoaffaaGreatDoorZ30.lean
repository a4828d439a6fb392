import Derived.Test.YthpponmbpoaffaaGreatDoorZ29
import Derived.Test.YthpponmbpoaffaaGreatDoorZ22
namespace Go.Proofs.YthpponmbpoaffaaGreatDoor.Sx.Z
open Go.RowKit
def mvC (mv:D) (i:Nat):List D:=[.i (mv.el i 0).toI,.s (mv.el i 1).toS,.i (mv.el i 2).toI]
def ruC0 (nm:ByteArray) (mv:D):Ru:=⟨nm,.l (rowsTo (mvC mv) mv.len)⟩
def prC0 (nm:ByteArray) (vs bd:D):Po:=⟨nm,nsC vs,bC bd⟩
theorem wmG_tk {ws:D} {p:Nat} {pa:Int} {w:ByteArray} (h:TkA ws p w):wmG ws (rp p pa) = !(w.data.toList==cbB.data.toList&&decide (kOf w>=3)):=by
 unfold wmG;rw [isB_tk h];rfl
theorem ru_rd {ws:D} (hw:ws.len<=1000000) (en:Int) {nm:ByteArray} {mv:D} (hA:ruB nm mv=true) {p:Nat} {pa:Int} (hT:At ws p (ruWd nm mv)) :
 wuZ ws en (rp (p+1) pa)=ruC0 nm mv/\wuR ws en (rp (p+1) pa)=rp (p+(ruWd nm mv).length) pa:=by
 unfold ruB at hA
 simp only [Bool.and_eq_true] at hA
 have h1:=allB_iff.1 hA.1
 have k0:=nm_word hA.2
 have hm:∀ i,i<mv.len->(kOf (itW (mv.el i 0).toI)=2/\nOf (itW (mv.el i 0).toI)=(mv.el i 0).toI)/\kOf (mv.el i 1).toS=1/\(kOf (itW (mv.el i 2).toI)=2/\nOf (itW (mv.el i 2).toI)=(mv.el i 2).toI):=fun i hi=>by
  have:=h1 i hi
  unfold mvE at this
  simp only [Bool.and_eq_true] at this
  exact ⟨nu_word this.1.1,nm_word this.1.2,nu_word this.2⟩
 have hT:At ws p (⟨#[114,117,108,101]⟩::nm::⟨#[123]⟩::(catTo mv.len (mvW mv)++[⟨#[125]⟩])):=hT
 have el:(ruWd nm mv).length=4+(catTo mv.len (mvW mv)).length:=by
  show (_::_::_::(catTo mv.len (mvW mv)++[_])).length=_
  simp only [List.length_cons,List.length_append,List.length_nil];omega
 obtain ⟨a0,b0⟩:=hT.cons
 obtain ⟨a1,b1⟩:=b0.cons
 obtain ⟨a2,b2⟩:=b1.cons
 obtain ⟨c1,c2⟩:=b2.app
 obtain ⟨c3,_⟩:=c2.cons
 have e0:wnR ws en 1 (rp (p+1) pa)=rp (p+1+1) pa:=wn_tk a1 k0
 have e1:wuA ws en (rp (p+1) pa)=rp (p+1+1+1) pa:=by unfold wuA;rw [e0];exact mu_tk a2 (by decide)
 generalize hP:p+1+1+1=P at *
 have hP':P=p+3:=by omega
 have hle:=c1.le (show P<=ws.len by have:=a2.lt;omega)
 have eM:wuM ws en (rp (p+1) pa)=(.l (rowsTo (mvC mv) mv.len),rp (P+(catTo mv.len (mvW mv)).length) pa):=by
  unfold wuM
  rw [e1]
  have:=sqE_all (wu_se (ws:=ws) en) hw (f:=mvW mv) (g:=mvC mv) (n:=mv.len) (p:=P) (pa:=pa) (b:=[]) (fun i hi=>by have:=cat_mono (mvW mv) (show i<=mv.len by omega);omega) (fun i hi=>by
   rw [wmG_tk (At.cons (show At ws _ (itW (mv.el i 0).toI::_) from c1.nth hi)).1,(hm i hi).1.1];simp) (fun i hi=>by
   obtain ⟨⟨m1,m2⟩,m3,m4,m5⟩:=hm i hi
   obtain ⟨x1,y1⟩:=At.cons (show At ws _ (itW (mv.el i 0).toI::(mv.el i 1).toS::itW (mv.el i 2).toI::[⟨#[59]⟩]) from c1.nth hi)
   obtain ⟨x2,y2⟩:=y1.cons
   obtain ⟨x3,y3⟩:=y2.cons
   obtain ⟨x4,_⟩:=y3.cons
   generalize hQ:P+(catTo i (mvW mv)).length=Q at *
   have f1:wnR ws en 2 (rp Q pa)=rp (Q+1) pa:=wn_tk x1 m1
   have f2:wuX ws en (rp Q pa)=rp (Q+1+1) pa:=by unfold wuX;rw [f1];exact wn_tk x2 m3
   have f3:wnR ws en 2 (rp (Q+1+1) pa)=rp (Q+1+1+1) pa:=wn_tk x3 m4
   unfold wuF
   rw [f2,f1,f3,wnN_tk x1 m1,m2,wnS_tk x2 m3,wnN_tk x3 m4,m5,show muR ws en seB (rp (Q+1+1+1) pa)=rp (Q+1+1+1+1) pa from mu_tk x4 (by decide)]
   rfl) (by rw [wmG_tk c3];decide)
  rw [this];rfl
 constructor
 ·unfold wuZ
  rw [eM,wnS_tk a1 k0];rfl
 ·unfold wuR
  rw [eM]
  show muR ws en cbB (rp _ pa)=_
  rw [show muR ws en cbB (rp (P+(catTo mv.len (mvW mv)).length) pa)=rp (P+(catTo mv.len (mvW mv)).length+1) pa from mu_tk c3 (by decide),el,hP']
  congr 1;omega
theorem pr_rd {ws:D} (hw:ws.len<=1000000) (en:Int) {nm:ByteArray} {vs bd:D} (h0:nmB nm=true) (hv:nsA vs=true) (hb:bA bd=true) (hN:bN bd 0=true) {p:Nat} {pa:Int} (hT:At ws p (prWd nm vs bd)) :
 wpZ ws en (rp (p+1) pa)=prC0 nm vs bd/\wpR ws en (rp (p+1) pa)=rp (p+(prWd nm vs bd).length) pa:=by
 have h1:=allB_iff.1 hv
 have k0:=nm_word h0
 have hT:At ws p (⟨#[112,114,111,99]⟩::nm::⟨#[123]⟩::(catTo vs.len (vaW vs)++(bW bd++[⟨#[125]⟩]))):=hT
 have el:(prWd nm vs bd).length=4+(catTo vs.len (vaW vs)).length+(bW bd).length:=by
  show (_::_::_::(catTo vs.len (vaW vs)++(bW bd++[_]))).length=_
  simp only [List.length_cons,List.length_append,List.length_nil];omega
 obtain ⟨a0,b0⟩:=hT.cons
 obtain ⟨a1,b1⟩:=b0.cons
 obtain ⟨a2,b2⟩:=b1.cons
 obtain ⟨c1,c2⟩:=b2.app
 obtain ⟨c3,c4⟩:=c2.app
 obtain ⟨c5,_⟩:=c4.cons
 have e0:wnR ws en 1 (rp (p+1) pa)=rp (p+1+1) pa:=wn_tk a1 k0
 have e1:wuA ws en (rp (p+1) pa)=rp (p+1+1+1) pa:=by unfold wuA;rw [e0];exact mu_tk a2 (by decide)
 generalize hP:p+1+1+1=P at *
 have hP':P=p+3:=by omega
 have hle:=c1.le (show P<=ws.len by have:=a2.lt;omega)
 have nx:∃ w,TkA ws (P+(catTo vs.len (vaW vs)).length) w/\sQd w:=by
  have c3':=c3
  rw [bW_eq] at c3'
  have c5':=c5
  rw [bW_eq] at c5'
  rw [bA_eq] at hb
  have hb:=allB_iff.1 hb
  have:=c3'.next (Q:=sQd) (fun i hi=>by obtain ⟨w,l,e1,e2⟩:=stW_head (hb i hi);exact ⟨w,l,e1,.inl e2⟩) c5' (.inr rfl) (Nat.zero_le _)
  exact this
 have eV:wpV ws en (rp (p+1) pa)=(nsC vs,rp (P+(catTo vs.len (vaW vs)).length) pa):=by
  unfold wpV
  rw [e1]
  have:=seq_all (wvF_sq (ws:=ws) en) hw (f:=vaW vs) (g:=nmC vs) (n:=vs.len) (p:=P) (pa:=pa) (b:=[]) (fun i hi=>by have:=cat_mono (vaW vs) (show i<=vs.len by omega);omega) (fun i hi=>by
   rw [wkG_tk (At.cons (show At ws _ (kwV::_) from c1.nth hi)).1];decide) (fun i hi=>by
   have kv:kOf (vs.el i 0).toS=1:=nm_word (h1 i hi)
   obtain ⟨x1,y1⟩:=At.cons (show At ws _ (kwV::(vs.el i 0).toS::[⟨#[59]⟩]) from c1.nth hi)
   obtain ⟨x2,y2⟩:=y1.cons
   obtain ⟨x3,_⟩:=y2.cons
   generalize hQ:P+(catTo i (vaW vs)).length=Q at *
   have f1:wnR ws en 1 (rp (Q+1) pa)=rp (Q+1+1) pa:=wn_tk x2 kv
   unfold wvF
   rw [gx_rp,f1,wnS_tk x2 kv,show muR ws en seB (rp (Q+1+1) pa)=rp (Q+1+1+1) pa from mu_tk x3 (by decide)]
   rfl) (by
   obtain ⟨w,w1,w2⟩:=nx
   rw [wkG_tk w1]
   rcases w2 with (w2 |rfl |rfl |rfl |rfl |rfl |rfl) |rfl
   ·rw [w2];simp
   all_goals decide)
  rw [this];rfl
 have eB:wpB ws en (rp (p+1) pa)=(bC bd,rp (P+(catTo vs.len (vaW vs)).length+(bW bd).length) pa):=by
  unfold wpB
  rw [eV]
  exact body_rd hw en hb hN hle c3 c5
 constructor
 ·unfold wpZ
  rw [eB,eV,wnS_tk a1 k0];rfl
 ·unfold wpR
  rw [eB]
  show muR ws en cbB (rp _ pa)=_
  rw [show muR ws en cbB (rp (P+(catTo vs.len (vaW vs)).length+(bW bd).length) pa)=rp (P+(catTo vs.len (vaW vs)).length+(bW bd).length+1) pa from mu_tk c5 (by decide),el,hP']
  congr 1;omega
def chCE (d:D) (i:Nat):List D:=(chC0 (d.el i 0).toS (d.el i 1).toI (d.el i 2).toI (d.el i 3).toS (d.el i 4).toS (d.el i 5)).row
def ruCE (d:D) (i:Nat):List D:=(ruC0 (d.el i 0).toS (d.el i 1)).row
def prCE (d:D) (i:Nat):List D:=(prC0 (d.el i 0).toS (d.el i 1) (d.el i 2)).row
def chCd (d:D):D:=.l (rowsTo (chCE d) d.len)
def ruCd (d:D):D:=.l (rowsTo (ruCE d) d.len)
def prCd (d:D):D:=.l (rowsTo (prCE d) d.len)
theorem cat_head {ws:D} {p:Nat} {f:Nat->List ByteArray} {n:Nat} {w:ByteArray} (h:At ws p (catTo n f)) (hn:0<n) (hf:∀ i,∃ l,f i=w::l):TkA ws p w:=by
 obtain ⟨l,hl⟩:=hf 0
 have:=h.nth hn
 rw [hl] at this
 exact this.cons.1
theorem sy_rd {ws:D} (hw:ws.len<=1000000) (en:Int) {ch ru pr:D} (hA:syB ch ru pr=true) (hN:syN pr=true) {pa:Int} (hT:At ws 0 (syW ch ru pr)) (hl:ws.len=(syW ch ru pr).length) :
 wyC ws en (rp 0 pa)=(chCd ch,rp (catTo ch.len (chWE ch)).length pa)/\wyU ws en (rp 0 pa)=(ruCd ru,rp ((catTo ch.len (chWE ch)).length+(catTo ru.len (ruWE ru)).length) pa)/\wyP ws en (rp 0 pa)=(prCd pr,rp ws.len pa)/\wyR ws en (rp 0 pa)=rp ws.len pa:=by
 unfold syB at hA
 simp only [Bool.and_eq_true] at hA
 have h1:=allB_iff.1 hA.1
 have h2:=allB_iff.1 hA.2.1
 have h3:=allB_iff.1 hA.2.2
 have hN:=allB_iff.1 hN
 have el:ws.len=(catTo ch.len (chWE ch)).length+(catTo ru.len (ruWE ru)).length+(catTo pr.len (prWE pr)).length:=by
  rw [hl];unfold syW;simp only [List.length_append];omega
 obtain ⟨a1,b1⟩:=At.app (show At ws 0 (catTo ch.len (chWE ch)++(catTo ru.len (ruWE ru)++catTo pr.len (prWE pr))) from hT)
 obtain ⟨a2,a3⟩:=b1.app
 rw [Nat.zero_add] at a2 a3
 generalize hc1:(catTo ch.len (chWE ch)).length=C1 at *
 generalize hc2:(catTo ru.len (ruWE ru)).length=C2 at *
 generalize hc3:(catTo pr.len (prWE pr)).length=C3 at *
 have n2:∀ pa,wkG kwU ws (rp (C1+C2) pa)=false/\wkG kwC ws (rp (C1+C2) pa)=false:=fun pa=>by
  by_cases hz:pr.len=0
  ·have:C3=0:=by rw [<- hc3,hz];rfl
   exact ⟨isB_end (by omega) _,isB_end (by omega) _⟩
  ·have:=cat_head a3 (by omega) (w:=kwP) (fun i=>⟨_,rfl⟩)
   rw [wkG_tk this,wkG_tk this]
   exact ⟨by decide,by decide⟩
 have n1:∀ pa,wkG kwC ws (rp C1 pa)=false:=fun pa=>by
  by_cases hz:ru.len=0
  ·have:C2=0:=by rw [<- hc2,hz];rfl
   have:=(n2 pa).2
   rw [show C1+C2=C1 by omega] at this
   exact this
  ·have:=cat_head a2 (by omega) (w:=kwU) (fun i=>⟨_,rfl⟩)
   rw [wkG_tk this]
   decide
 have eC:wyC ws en (rp 0 pa)=(chCd ch,rp C1 pa):=by
  unfold wyC
  have:=seq_all (wy0_sq (ws:=ws) en) hw (f:=chWE ch) (g:=chCE ch) (n:=ch.len) (p:=0) (pa:=pa) (b:=[]) (fun i hi=>by have:=cat_mono (chWE ch) (show i<=ch.len by omega);omega) (fun i hi=>by
   rw [wkG_tk (At.cons (show At ws _ (kwC::_) from a1.nth hi)).1];decide) (fun i hi=>by
   obtain ⟨x1,x2⟩:=ch_rd (pa:=pa) hw en (h1 i hi) (a1.nth hi)
   unfold wyF0
   rw [gx_rp,x1,x2];rfl) (by rw [hc1,Nat.zero_add];exact n1 pa)
  rw [this,hc1,Nat.zero_add];rfl
 have eU:wyU ws en (rp 0 pa)=(ruCd ru,rp (C1+C2) pa):=by
  unfold wyU
  rw [eC]
  have:=seq_all (wy1_sq (ws:=ws) en) hw (f:=ruWE ru) (g:=ruCE ru) (n:=ru.len) (p:=C1) (pa:=pa) (b:=[]) (fun i hi=>by have:=cat_mono (ruWE ru) (show i<=ru.len by omega);omega) (fun i hi=>by
   rw [wkG_tk (At.cons (show At ws _ (kwU::_) from a2.nth hi)).1];decide) (fun i hi=>by
   obtain ⟨x1,x2⟩:=ru_rd (pa:=pa) hw en (h2 i hi) (a2.nth hi)
   unfold wyF1
   rw [gx_rp,x1,x2];rfl) (by rw [hc2];exact (n2 pa).1)
  rw [hc2] at this
  show seqA (wkG kwU ws) (wyF1 ws en) ws (.l []) (rp C1 pa)=_
  rw [this];rfl
 have eP:wyP ws en (rp 0 pa)=(prCd pr,rp ws.len pa):=by
  unfold wyP
  rw [eU]
  have:=seq_all (wy2_sq (ws:=ws) en) hw (f:=prWE pr) (g:=prCE pr) (n:=pr.len) (p:=C1+C2) (pa:=pa) (b:=[]) (fun i hi=>by have:=cat_mono (prWE pr) (show i<=pr.len by omega);omega) (fun i hi=>by
   rw [wkG_tk (At.cons (show At ws _ (kwP::_) from a3.nth hi)).1];decide) (fun i hi=>by
   have hx:=h3 i hi
   unfold prE at hx
   simp only [Bool.and_eq_true] at hx
   obtain ⟨x1,x2⟩:=pr_rd (pa:=pa) hw en hx.1.1 hx.1.2 hx.2 (hN i hi) (a3.nth hi)
   unfold wyF2
   rw [gx_rp,x1,x2];rfl) (by rw [hc3];exact isB_end (by omega) _)
  rw [hc3] at this
  show seqA (wkG kwP ws) (wyF2 ws en) ws (.l []) (rp (C1+C2) pa)=_
  rw [this,el];rfl
 refine ⟨eC,eU,eP,?_⟩
 unfold wyR
 rw [eP]
 exact if_neg (Int.lt_irrefl _)
end Go.Proofs.YthpponmbpoaffaaGreatDoor.Sx.Z
namespace Go.Proofs.YthpponmbpoaffaaGreatDoor.Sx.Z
open Go.RowKit
def Bd (r t:List UInt8):Prop:=t=[] ∨ (if alnU (r.headD 0)=true then alnU (t.headD 0)=false else t.headD 0≠61)
theorem aln_dig {b:UInt8} (h:alnU b=false):digU b=false/\letU b=false:=by
 unfold alnU at h
 simp only [Bool.or_eq_false_iff] at h
 exact ⟨h.2,h.1⟩
theorem getD_app {r t:List UInt8} {n:Nat} (hn:n<=r.length) (ht:t=[] ∨ alnU (t.headD 0)=false):letU ((r++t).getD n 0)=letU (r.getD n 0):=by
 rw [List.getD_eq_getElem?_getD,List.getD_eq_getElem?_getD]
 rcases Nat.lt_or_ge n r.length with hlt |hge
 ·rw [List.getElem?_append_left hlt]
 ·rw [List.getElem?_append_right hge,List.getElem?_eq_none hge,show n-r.length=0 from by omega]
  rcases ht with rfl |h
  ·rfl
  ·match t,h with
   | [],_=>rfl
   |b::t,h=>
    show letU b=letU 0
    rw [show letU b=false from (aln_dig h).2];decide
theorem wordE_ext {r t:List UInt8} (h0:0<r.length) (h:Bd r t):wordE (r++t)=wordE r:=by
 unfold wordE
 rw [headD_app h0]
 by_cases ha:alnU (r.headD 0)=true
 ·have ht:t=[] ∨ alnU (t.headD 0)=false:=by
   rcases h with h |h
   ·exact .inl h
   ·rw [if_pos ha] at h;exact .inr h
  have hA:=lenOf_app alnU t ht r
  have hD:=lenOf_app digU t (by rcases ht with h |h;exact .inl h;exact .inr (aln_dig h).1) r
  by_cases hl:letU (r.headD 0)=true
  ·rw [if_pos hl,if_pos hl]
   unfold nameE
   rw [hA,List.take_append_of_le_length (lenOf_le _ _)]
  ·rw [if_neg hl,if_neg hl]
   have hd:digU (r.headD 0)=true:=by
    unfold alnU at ha
    simp only [Bool.or_eq_true] at ha
    exact ha.resolve_left hl
   rw [if_pos hd,if_pos hd]
   unfold numE
   rw [hD,headD_app h0,getD_app (lenOf_le _ _) ht,List.take_append_of_le_length (lenOf_le _ _)]
 ·have hf:alnU (r.headD 0)=false:=by simpa using ha
  obtain ⟨hd,hl⟩:=aln_dig hf
  rw [hd,hl]
  simp only [Bool.false_eq_true,if_false]
  unfold sgnE sgnLen
  have he:eqNext (r++t)=eqNext r:=by
   match r,h0 with
   |a::b::r,_=>rfl
   | [a],_=>
     rcases h with rfl |h
     ·rfl
     ·rw [if_neg ha] at h
      match t,h with
      | [],_=>rfl
      |b::t,h=>
       show (b==61)=false
       exact beq_false_of_ne h
  rw [headD_app h0,he]
structure wOk (w:ByteArray):Prop where
 pos:0<w.data.toList.length
 gap:gapU (w.data.toList.headD 0)=false
 wrd:wordE w.data.toList = .ok (kOf w,w.data.toList.length,nOf w)
 len:w.data.toList.length<=30
def jn:List (ByteArray × List UInt8)->List UInt8
 | []=>[]
 |x::l=>x.1.data.toList++(x.2++jn l)
def fit:List (ByteArray × List UInt8)->Prop
 | []=>True
 |x::l=>wOk x.1/\(∀ b∈x.2,gapU b=true)/\Bd x.1.data.toList (x.2++jn l)/\fit l
theorem lexW_gaps':∀ (g r:List UInt8) (p:Nat) (acc:List Tok),(∀ b∈g,gapU b=true)->lexW (g++r) p acc=lexW r (p+g.length) acc
 | [],r,p,acc,_=>rfl
 |b::g,r,p,acc,h=>by
  rw [List.cons_append,lexW_gap (by simp) (show gapU ((b::(g++r)).headD 0)=true from h b (List.mem_cons_self ..)),List.drop_one,List.tail_cons,lexW_gaps' g r (p+1) acc (fun c hc=>h c (List.mem_cons_of_mem _ hc)),List.length_cons]
  congr 1;omega
structure Tks (ts:List Tok) (l:List ByteArray):Prop where
 tx:ts.map Tok.text=l
 kd:∀ t∈ts,t.kind=kOf t.text/\t.num=nOf t.text
theorem lex_jn:∀ (l:List (ByteArray × List UInt8)) (p:Nat) (acc:List Tok),fit l->∃ ts,lexW (jn l) p acc = .ok (acc++ts)/\Tks ts (l.map Prod.fst)
 | [],p,acc,_=>⟨[],by rw [List.append_nil];rfl,rfl,fun _ h=>by cases h⟩
 |x::l,p,acc,h=>by
  obtain ⟨h1,h2,h3,h4⟩:=h
  have e:wordE (x.1.data.toList++(x.2++jn l)) = .ok (kOf x.1,x.1.data.toList.length,nOf x.1):=by rw [wordE_ext h1.pos h3];exact h1.wrd
  obtain ⟨ts,t1,t2⟩:=lex_jn l (p+x.1.data.toList.length+x.2.length) (acc++[⟨kOf x.1,x.1,nOf x.1,p⟩]) h4
  refine ⟨⟨kOf x.1,x.1,nOf x.1,p⟩::ts,?_,?_,fun t ht=>?_⟩
  ·show lexW (x.1.data.toList++(x.2++jn l)) p acc=_
   rw [lexW_word (by rw [List.length_append];have:=h1.pos;omega) (by rw [headD_app h1.pos];exact h1.gap) e,List.drop_left',List.take_left',lexW_gaps' _ _ _ _ h2]
   ·rw [show (ofL x.1.data.toList)=x.1 from rfl,t1,List.append_assoc];rfl
   ·rfl
   ·rfl
  ·rw [List.map_cons,List.map_cons,t2.tx]
  ·rcases List.mem_cons.1 ht with rfl |ht
   ·exact ⟨rfl,rfl⟩
   ·exact t2.kd t ht
theorem lexR_jn {s:ByteArray} {l:List (ByteArray × List UInt8)} (hs:s.data.toList=jn l) (hf:fit l) (hl:l.length<=2000):∃ ts,lexR s=(ts,0,0)/\Tks ts (l.map Prod.fst):=by
 obtain ⟨ts,t1,t2⟩:=lex_jn l 0 [] hf
 rw [List.nil_append] at t1
 refine ⟨ts,?_,t2⟩
 have hn:ts.length=l.length:=by
  have:=congrArg List.length t2.tx
  simpa using this
 rw [lexR_lexF,hs]
 unfold Go.Proofs.YthpponmbpoaffaaGreatDoor.lexF
 rw [t1]
 show (if 2000<ts.length then _ else _)=_
 rw [if_neg (by omega)]
theorem Tks.at {ts:List Tok} {l:List ByteArray} (h:Tks ts l):At (tokD ts) 0 l/\(tokD ts).len=l.length:=by
 have hn:ts.length=l.length:=by
  have:=congrArg List.length h.tx
  simpa using this
 refine ⟨fun j hj=>?_,by rw [tokD_len,hn]⟩
 have hj2:j<ts.length:=by omega
 have ht:ts[j]? = some ts[j]:=List.getElem?_eq_getElem hj2
 have hx:(ts[j]).text=l[j]:=by
  have:=h.tx
  subst this
  simp
 obtain ⟨k1,k2⟩:=h.kd ts[j] (List.getElem_mem hj2)
 rw [Nat.zero_add]
 refine ⟨by rw [tokD_len];exact hj2,?_,?_,?_⟩
 ·rw [tokD_el ht];exact hx
 ·rw [tokD_el ht,<- hx];exact k1
 ·rw [tokD_el ht,<- hx];exact k2
theorem toks_rd {s:ByteArray} {ts:List Tok} (t1:lexR s=(ts,0,0)) {ch ru pr:D} (t2:Tks ts (syW ch ru pr)) (hl:(syW ch ru pr).length<=2000) (hA:syB ch ru pr=true) (hN:syN pr=true) :
 rpC s=chCd ch/\rpU s=ruCd ru/\rpP s=prCd pr/\rpA s=0/\rpE s=0:=by
 obtain ⟨a1,a2⟩:=t2.at
 have hw:(tokD ts).len<=1000000:=by rw [a2];omega
 have eW:paW s=tokD ts:=by unfold paW;rw [t1]
 obtain ⟨r1,r2,r3,r4⟩:=sy_rd hw (s.size:Nat) hA hN (pa:=0) a1 a2
 have hl0:(lexR s).2.2=0:=by rw [t1]
 have hY:rpY s=rp (tokD ts).len 0:=by
  unfold rpY
  rw [eW];exact r4
 obtain ⟨g1,g2,g3,g4,g5⟩:=rp_good hl0 hY rfl
 rw [eW] at g1 g2 g3
 refine ⟨?_,?_,?_,g4,g5⟩
 ·rw [g1];exact congrArg Prod.fst r1
 ·rw [g2];exact congrArg Prod.fst r2
 ·rw [g3];exact congrArg Prod.fst r3
theorem text_rd {s:ByteArray} {l:List (ByteArray × List UInt8)} (hs:s.data.toList=jn l) (hf:fit l) (hl:l.length<=2000) {ch ru pr:D} (hA:syB ch ru pr=true) (hN:syN pr=true) (hW:l.map Prod.fst=syW ch ru pr) :
 rpC s=chCd ch/\rpU s=ruCd ru/\rpP s=prCd pr/\rpA s=0/\rpE s=0:=by
 obtain ⟨ts,t1,t2⟩:=lexR_jn hs hf hl
 rw [hW] at t2
 exact toks_rd t1 t2 (by rw [<- hW,List.length_map];exact hl) hA hN
end Go.Proofs.YthpponmbpoaffaaGreatDoor.Sx.Z
namespace Go.Proofs.YthpponmbpoaffaaGreatDoor.Sx.Z
open Go.RowKit
def alW (l:List ByteArray):Prop:=∀ w∈l,wOk w
theorem alW.nil:alW []:=fun _ h=>by cases h
theorem alW.cons {a:ByteArray} {l:List ByteArray} (h:wOk a) (hl:alW l):alW (a::l):=fun w hw=>by
 rcases List.mem_cons.1 hw with rfl |hw
 ·exact h
 ·exact hl w hw
theorem alW.app {l m:List ByteArray} (h:alW l) (hm:alW m):alW (l++m):=fun w hw=>by
 rcases List.mem_append.1 hw with hw |hw
 ·exact h w hw
 ·exact hm w hw
theorem alW.cat {n:Nat} {f:Nat->List ByteArray} (h:∀ i,i<n->alW (f i)):alW (catTo n f):=by
 induction n with
 |zero=>exact .nil
 |succ n ih=>
  rw [catTo_succ]
  exact .app (ih fun i hi=>h i (by omega)) (h n (by omega))
theorem word_gap {r:List UInt8} {k m:Int} {n:Nat} (h:wordE r = .ok (k,n,m)) (_h0:0<r.length):gapU (r.headD 0)=false:=by
 cases hg:gapU (r.headD 0) with
 |false=>rfl
 |true=>
  exfalso
  unfold wordE at h
  rcases gap_cases hg with e |e<;>rw [e] at h
  ·rw [if_neg (by decide),if_neg (by decide)] at h
   unfold sgnE sgnLen at h
   rw [e,show sgnB ((32:UInt8).toNat:Int) (eqNext r)=0 from rfl] at h
   cases h
  ·rw [if_neg (by decide),if_neg (by decide)] at h
   unfold sgnE sgnLen at h
   rw [e,show sgnB ((10:UInt8).toNat:Int) (eqNext r)=0 from rfl] at h
   cases h
theorem nm_full {s:ByteArray} (h:nmB s=true):∃ m,wordE s.data.toList = .ok (1,s.data.toList.length,m)/\0<s.data.toList.length:=by
 unfold nmB at h
 simp only [Bool.and_eq_true,beq_iff_eq] at h
 obtain ⟨_,⟨⟨h1,h2⟩,h3⟩,h4⟩:=h
 have h2:((lexR s).1.length:Int)=1:=by rw [tokD_len] at h2;exact h2
 obtain ⟨t,ht⟩:∃ t,(lexR s).1=[t]:=List.length_eq_one_iff.1 (by omega)
 rw [ht] at h3 h4
 have h3:t.kind=1:=h3
 have h4:t.text.toList=s.toList:=h4
 have h4:t.text=s:=by
  rw [ByteArray.toList_eq,ByteArray.toList_eq] at h4
  exact ByteArray.ext (Array.toList_inj.1 h4)
 cases hg:lexGo s s.size 0 [] with
 |error x=>
  obtain ⟨p,e⟩:=x
  rw [lexR_err hg rfl] at ht
  cases ht
 |ok acc=>
  by_cases hl:2000<acc.length
  ·rw [lexR_long hg rfl hl] at ht
   cases ht
  ·rw [lexR_ok hg rfl (by omega)] at ht
   have ht:acc=[t]:=ht
   have h0:0<s.size:=by
    rcases Nat.eq_zero_or_pos s.size with hz |hz
    ·rw [hz] at hg
     have:acc=[]:=by cases hg;rfl
     rw [this] at ht;cases ht
    ·exact hz
   obtain ⟨q,q1,q2⟩:=tok_nx s s.size 0 [] acc (Nat.zero_le _) (fun _ h=>by cases h) hg t (by rw [ht];exact List.mem_singleton.2 rfl)
   rw [h4] at q1
   have q0:q=0:=by omega
   rw [q0,List.drop_zero,h3,h4] at q2
   exact ⟨t.num,q2,h0⟩
theorem wOk_of {w:ByteArray} {k m:Int} (h:wordE w.data.toList = .ok (k,w.data.toList.length,m)) (h0:0<w.data.toList.length) (hl:w.data.toList.length<=30):wOk w:=by
 obtain ⟨e1,e2⟩:=kOf_eq h
 exact ⟨h0,word_gap h h0,(by rw [e1,e2];exact h),hl⟩
theorem nm_ok {s:ByteArray} (h:nmB s=true):wOk s:=by
 obtain ⟨m,h1,h2⟩:=nm_full h
 refine wOk_of h1 h2 ?_
 unfold nmB at h
 simp only [Bool.and_eq_true,Bool.not_eq_true',decide_eq_false_iff_not] at h
 have:=h.1
 have e:s.data.toList.length=s.size:=rfl
 omega
theorem nu_ok {n:Int} (h:nuB n=true):wOk (itW n):=by
 have hx:=nu_full h
 refine wOk_of hx.1 hx.2 ?_
 unfold nuB at h
 simp only [Bool.and_eq_true,decide_eq_true_eq] at h
 have:(itW n).size<=21:=Lib.itoa_length_le n (by omega) (by omega)
 have e:(itW n).data.toList.length=(itW n).size:=rfl
 omega
theorem li {w:ByteArray} {k m:Int} (h:wordE w.data.toList = .ok (k,w.data.toList.length,m)) (h0:0<w.data.toList.length) (hl:w.data.toList.length<=30:=by decide):wOk w:=wOk_of h h0 hl
theorem li_mi:wOk ⟨#[45]⟩:=li (k:=3) (m:=0) rfl (by decide)
theorem li_op:wOk ⟨#[40]⟩:=li (k:=3) (m:=0) rfl (by decide)
theorem li_cl:wOk ⟨#[41]⟩:=li (k:=3) (m:=0) rfl (by decide)
theorem li_ob:wOk ⟨#[123]⟩:=li (k:=3) (m:=0) rfl (by decide)
theorem li_cb:wOk ⟨#[125]⟩:=li (k:=3) (m:=0) rfl (by decide)
theorem li_se:wOk ⟨#[59]⟩:=li (k:=3) (m:=0) rfl (by decide)
theorem li_eq:wOk ⟨#[61]⟩:=li (k:=3) (m:=0) rfl (by decide)
theorem li_do:wOk ⟨#[46]⟩:=li (k:=3) (m:=0) rfl (by decide)
theorem li_co:wOk ⟨#[44]⟩:=li (k:=3) (m:=0) rfl (by decide)
theorem li_bi (k:Int):wOk (biW k):=by
 unfold biW
 split
 ·exact li (k:=3) (m:=0) rfl (by decide)
 ·split
  ·exact li (k:=3) (m:=0) rfl (by decide)
  ·split
   ·exact li (k:=3) (m:=0) rfl (by decide)
   ·split
    ·exact li (k:=3) (m:=0) rfl (by decide)
    ·exact li (k:=3) (m:=0) rfl (by decide)
theorem li_cm (k:Int):wOk (cmW k):=by
 unfold cmW
 split
 ·exact li (k:=3) (m:=0) rfl (by decide)
 ·split
  ·exact li (k:=3) (m:=0) rfl (by decide)
  ·split
   ·exact li (k:=3) (m:=0) rfl (by decide)
   ·split
    ·exact li (k:=3) (m:=0) rfl (by decide)
    ·split
     ·exact li (k:=3) (m:=0) rfl (by decide)
     ·exact li (k:=3) (m:=0) rfl (by decide)
theorem li_ch (k:Int):wOk (chW k):=by
 unfold chW
 split
 ·exact li (k:=4) (m:=0) rfl (by decide)
 ·split
  ·exact li (k:=4) (m:=0) rfl (by decide)
  ·exact li (k:=4) (m:=0) rfl (by decide)
theorem kw_if:wOk ⟨#[105,102]⟩:=li (k:=4) (m:=0) rfl (by decide)
theorem kw_else:wOk ⟨#[101,108,115,101]⟩:=li (k:=4) (m:=0) rfl (by decide)
theorem kw_while:wOk ⟨#[119,104,105,108,101]⟩:=li (k:=4) (m:=0) rfl (by decide)
theorem kw_send:wOk ⟨#[115,101,110,100]⟩:=li (k:=4) (m:=0) rfl (by decide)
theorem kw_recv:wOk ⟨#[114,101,99,118]⟩:=li (k:=4) (m:=0) rfl (by decide)
theorem kw_assert:wOk ⟨#[97,115,115,101,114,116]⟩:=li (k:=4) (m:=0) rfl (by decide)
theorem kw_input:wOk ⟨#[105,110,112,117,116]⟩:=li (k:=4) (m:=0) rfl (by decide)
theorem kw_chan:wOk ⟨#[99,104,97,110]⟩:=li (k:=4) (m:=0) rfl (by decide)
theorem kw_from:wOk ⟨#[102,114,111,109]⟩:=li (k:=4) (m:=0) rfl (by decide)
theorem kw_to:wOk ⟨#[116,111]⟩:=li (k:=4) (m:=0) rfl (by decide)
theorem kw_rule:wOk ⟨#[114,117,108,101]⟩:=li (k:=4) (m:=0) rfl (by decide)
theorem kw_var:wOk ⟨#[118,97,114]⟩:=li (k:=4) (m:=0) rfl (by decide)
theorem kw_proc:wOk ⟨#[112,114,111,99]⟩:=li (k:=4) (m:=0) rfl (by decide)
theorem par_al {b:Bool} {l:List ByteArray} (h:alW l):alW (par b l):=by
 cases b with
 |false=>exact h
 |true=>exact .cons li_op (.app h (.cons li_cl .nil))
theorem xW_al {k n:Int} {s:ByteArray} {d:D} (h:aX k n s d=true):alW (xW k n s d):=by
 refine ex_ind (P:=fun k n s d=>alW (xW k n s d)) ?_ ?_ ?_ ?_ h
 ·intro n s d hn
  exact .cons (nu_ok hn) .nil
 ·intro n s d hn
  exact .cons (nm_ok hn) .nil
 ·intro n s d hl ih
  rw [xW_3 n s (by omega)]
  exact .cons li_mi (par_al ih)
 ·intro k n s d hb hl ih0 ih1
  rw [xW_4 n s hb (by omega)]
  exact .app (par_al ih0) (.cons (li_bi k) (par_al ih1))
theorem cW_al {op lk ln:Int} {ls:ByteArray} {ld:D} {rk rn:Int} {rs:ByteArray} {rd:D} (h:aC op lk ln ls ld rk rn rs rd=true):alW (cW op lk ln ls ld rk rn rs rd):=by
 have:=aC_two h
 exact .cons li_op (.app (xW_al this.1) (.cons (li_cm op) (.app (xW_al this.2) (.cons li_cl .nil))))
theorem blW_al {l:List ByteArray} (h:alW l):alW (blW l):=.cons li_ob (.app h (.cons li_cb .nil))
theorem st_al {k:Int} {nm tg:ByteArray} {ek en:Int} {es:ByteArray} {ed:D} {op lk ln:Int} {ls:ByteArray} {ld:D} {rk rn:Int} {rs:ByteArray} {rd bd eb am:D}
 (Hb:bA bd=true->alW (bW bd)) (He:bA eb=true->alW (bW eb)) (Ha:∀ j,j<am.len->bA (am.el j 2)=true->alW (bW (am.el j 2))) (hA:stA k nm tg ek en es ed op lk ln ls ld rk rn rs rd bd eb am=true):alW (stW k nm tg ek en es ed op lk ln ls ld rk rn rs rd bd eb am):=by
 have hA:aStF k nm tg (aX ek en es ed) (aC op lk ln ls ld rk rn rs rd) (bA bd) (bA eb) am.len (amsA am)=true:=hA
 rcases stA_k hA with rfl |rfl |rfl |rfl |rfl |rfl |rfl
 ·have hA:(nmB nm&&aX ek en es ed)=true:=hA
  simp only [Bool.and_eq_true] at hA
  exact .cons (nm_ok hA.1) (.cons li_eq (.app (xW_al hA.2) (.cons li_se .nil)))
 ·have hA:(aC op lk ln ls ld rk rn rs rd&&bA bd&&bA eb)=true:=hA
  simp only [Bool.and_eq_true] at hA
  refine .cons kw_if (.app (cW_al hA.1.1) (.app (blW_al (Hb hA.1.2)) ?_))
  split
  ·exact .cons kw_else (blW_al (He hA.2))
  ·exact .nil
 ·have hA:(aC op lk ln ls ld rk rn rs rd&&bA bd)=true:=hA
  simp only [Bool.and_eq_true] at hA
  exact .cons kw_while (.app (cW_al hA.1) (blW_al (Hb hA.2)))
 ·have hA:(nmB nm&&nmB tg&&aX ek en es ed)=true:=hA
  simp only [Bool.and_eq_true] at hA
  exact .cons kw_send (.cons (nm_ok hA.1.1) (.cons li_do (.cons (nm_ok hA.1.2) (.cons li_op (.app (xW_al hA.2) (.cons li_cl (.cons li_se .nil)))))))
 ·have hA:(nmB nm&&decide ((am.len:Int)>0)&&amsA am)=true:=hA
  simp only [Bool.and_eq_true] at hA
  have hq:=allB_iff.1 hA.2
  refine .cons kw_recv (.cons (nm_ok hA.1.1) (.cons li_ob (.app (.cat fun j hj=>?_) (.cons li_cb .nil))))
  have h1:=hq j hj
  unfold arE at h1
  simp only [Bool.and_eq_true] at h1
  exact .cons (nm_ok h1.1.1) (.cons li_op (.cons (nm_ok h1.1.2) (.cons li_cl (blW_al (Ha j hj h1.2)))))
 ·have hA:aC op lk ln ls ld rk rn rs rd=true:=hA
  exact .cons kw_assert (.app (cW_al hA) (.cons li_se .nil))
 ·have hA:nmB nm=true:=hA
  exact .cons kw_input (.cons (nm_ok hA) (.cons li_se .nil))
theorem bW_al:∀ (z:Nat) (d:D),SizeOf.sizeOf d<=z->bA d=true->alW (bW d):=by
 intro z
 induction z with
 |zero=>intro d hz;cases d<;>simp at hz
 |succ z ih=>
  intro d hz hA
  rw [bA_eq] at hA
  have hA:=allB_iff.1 hA
  rw [bW_eq]
  refine .cat fun i hi=>?_
  have kid:∀ j,bA (d.el i j)=true->alW (bW (d.el i j)):=fun j h=>by
   have:=lel_lt (j:=j) hi
   exact ih _ (by omega) h
  have kid2:∀ j,j<(d.el i 18).len->bA ((d.el i 18).el j 2)=true->alW (bW ((d.el i 18).el j 2)):=fun j hj h=>by
   have h1:=lel_lt (j:=18) hi
   have h2:=lel_lt (j:=2) hj
   exact ih _ (by omega) h
  exact st_al (kid 16) (kid 17) kid2 (hA i hi)
theorem syW_al {ch ru pr:D} (hA:syB ch ru pr=true):alW (syW ch ru pr):=by
 unfold syB at hA
 simp only [Bool.and_eq_true] at hA
 have h1:=allB_iff.1 hA.1
 have h2:=allB_iff.1 hA.2.1
 have h3:=allB_iff.1 hA.2.2
 refine .app (.cat fun i hi=>?_) (.app (.cat fun i hi=>?_) (.cat fun i hi=>?_))
 ·have hx:=h1 i hi
  unfold chE chB at hx
  simp only [Bool.and_eq_true,decide_eq_true_eq] at hx
  obtain ⟨⟨⟨⟨⟨⟨⟨x1,x2⟩,x3⟩,x4⟩,x5⟩,x6⟩,x7⟩,x8⟩:=hx
  have x8:=allB_iff.1 x8
  refine .app (.cons kw_chan (.cons (nm_ok x1) (.cons (li_ch _) (.cons (nu_ok x4) (.cons kw_from (.cons (nm_ok x5) (.cons kw_to (.cons (nm_ok x6) (.cons li_ob .nil))))))))) (.app (.cat fun j hj=>?_) (.cons li_cb (.cons li_se .nil)))
  unfold tgW
  split
  ·exact .cons li_co (.cons (nm_ok (x8 j hj)) .nil)
  ·exact .cons (nm_ok (x8 j hj)) .nil
 ·have hx:=h2 i hi
  unfold ruE ruB at hx
  simp only [Bool.and_eq_true] at hx
  have hm:=allB_iff.1 hx.1
  refine .app (.cons kw_rule (.cons (nm_ok hx.2) (.cons li_ob .nil))) (.app (.cat fun j hj=>?_) (.cons li_cb .nil))
  have hy:=hm j hj
  unfold mvE at hy
  simp only [Bool.and_eq_true] at hy
  exact .cons (nu_ok hy.1.1) (.cons (nm_ok hy.1.2) (.cons (nu_ok hy.2) (.cons li_se .nil)))
 ·have hx:=h3 i hi
  unfold prE at hx
  simp only [Bool.and_eq_true] at hx
  have hv:=allB_iff.1 hx.1.2
  exact .app (.cons kw_proc (.cons (nm_ok hx.1.1) (.cons li_ob .nil))) (.app (.cat fun j hj=>.cons kw_var (.cons (nm_ok (hv j hj)) (.cons li_se .nil))) (.app (bW_al _ _ (Nat.le_refl _) hx.2) (.cons li_cb .nil)))
theorem fit_gaps:∀ (l:List (ByteArray × List UInt8)),(∀ x∈l,wOk x.1/\(∀ b∈x.2,gapU b=true)/\x.2≠[])->fit l
 | [],_=>trivial
 |x::l,h=>by
  obtain ⟨h1,h2,h3⟩:=h x (List.mem_cons_self ..)
  refine ⟨h1,h2,.inr ?_,fit_gaps l fun y hy=>h y (List.mem_cons_of_mem _ hy)⟩
  cases hx:x.2 with
  |nil=>exact absurd hx h3
  |cons b g=>
   rw [hx] at h2
   have hb:=gap_cases (h2 b (List.mem_cons_self ..))
   show if alnU (x.1.data.toList.headD 0)=true then alnU b=false else b≠61
   split<;>rcases hb with e |e<;>rw [e]<;>decide
end Go.Proofs.YthpponmbpoaffaaGreatDoor.Sx.Z
namespace Go.Proofs.YthpponmbpoaffaaGreatDoor.Sx.Z
open Go.RowKit
def jp:List (List UInt8 × ByteArray)->List UInt8
 | []=>[]
 |x::l=>x.1++(x.2.data.toList++jp l)
def fitp:List (List UInt8 × ByteArray)->Prop
 | []=>True
 |x::l=>wOk x.2/\(∀ b∈x.1,gapU b=true)/\Bd x.2.data.toList (jp l)/\fitp l
theorem lex_jp:∀ (l:List (List UInt8 × ByteArray)) (p:Nat) (acc:List Tok),fitp l->∃ ts,lexW (jp l) p acc = .ok (acc++ts)/\Tks ts (l.map Prod.snd)
 | [],p,acc,_=>⟨[],by rw [List.append_nil];rfl,rfl,fun _ h=>by cases h⟩
 |x::l,p,acc,h=>by
  obtain ⟨h1,h2,h3,h4⟩:=h
  have e:wordE (x.2.data.toList++jp l) = .ok (kOf x.2,x.2.data.toList.length,nOf x.2):=by rw [wordE_ext h1.pos h3];exact h1.wrd
  obtain ⟨ts,t1,t2⟩:=lex_jp l (p+x.1.length+x.2.data.toList.length) (acc++[⟨kOf x.2,x.2,nOf x.2,p+x.1.length⟩]) h4
  refine ⟨⟨kOf x.2,x.2,nOf x.2,p+x.1.length⟩::ts,?_,?_,fun t ht=>?_⟩
  ·show lexW (x.1++(x.2.data.toList++jp l)) p acc=_
   rw [lexW_gaps' _ _ _ _ h2,lexW_word (by rw [List.length_append];have:=h1.pos;omega) (by rw [headD_app h1.pos];exact h1.gap) e,List.drop_left',List.take_left']
   ·rw [show (ofL x.2.data.toList)=x.2 from rfl,t1,List.append_assoc];rfl
   ·rfl
   ·rfl
  ·rw [List.map_cons,List.map_cons,t2.tx]
  ·rcases List.mem_cons.1 ht with rfl |ht
   ·exact ⟨rfl,rfl⟩
   ·exact t2.kd t ht
theorem lexR_jp {s:ByteArray} {l:List (List UInt8 × ByteArray)} (hs:s.data.toList=jp l) (hf:fitp l) (hl:l.length<=2000):∃ ts,lexR s=(ts,0,0)/\Tks ts (l.map Prod.snd):=by
 obtain ⟨ts,t1,t2⟩:=lex_jp l 0 [] hf
 rw [List.nil_append] at t1
 refine ⟨ts,?_,t2⟩
 have hn:ts.length=l.length:=by
  have:=congrArg List.length t2.tx
  simpa using this
 rw [lexR_lexF,hs]
 unfold Go.Proofs.YthpponmbpoaffaaGreatDoor.lexF
 rw [t1]
 show (if 2000<ts.length then _ else _)=_
 rw [if_neg (by omega)]
theorem jp_app (l m:List (List UInt8 × ByteArray)):jp (l++m)=jp l++jp m:=by
 induction l with
 |nil=>rfl
 |cons x l ih=>
  show x.1++(x.2.data.toList++jp (l++m))=x.1++(x.2.data.toList++jp l)++jp m
  rw [ih];simp
def BdN (v w:ByteArray) (g:List UInt8):Prop:=g≠[] ∨ (if alnU (v.data.toList.headD 0)=true then alnU (w.data.toList.headD 0)=false else w.data.toList.headD 0≠61)
theorem bd_of {v:ByteArray} {x:List UInt8 × ByteArray} {l:List (List UInt8 × ByteArray)} (hx:wOk x.2) (hg:∀ b∈x.1,gapU b=true) (h:BdN v x.2 x.1):Bd v.data.toList (jp (x::l)):=by
 refine .inr ?_
 show if alnU (v.data.toList.headD 0)=true then alnU ((x.1++(x.2.data.toList++jp l)).headD 0)=false else (x.1++(x.2.data.toList++jp l)).headD 0≠61
 cases hc:x.1 with
 |nil=>
  rw [List.nil_append,headD_app hx.pos]
  rcases h with h |h
  ·exact absurd hc h
  ·exact h
 |cons b g=>
  rw [hc] at hg
  have hb:=gap_cases (hg b (List.mem_cons_self ..))
  show if alnU (v.data.toList.headD 0)=true then alnU b=false else b≠61
  split<;>rcases hb with e |e<;>rw [e]<;>decide
theorem fitp_of:∀ (l:List (List UInt8 × ByteArray)),(∀ x∈l,wOk x.2/\∀ b∈x.1,gapU b=true)->(∀ i (h:i+1<l.length),BdN (l[i]).2 (l[i+1]).2 (l[i+1]).1)->fitp l
 | [],_,_=>trivial
 | [x],h,_=>⟨(h x (List.mem_cons_self ..)).1,(h x (List.mem_cons_self ..)).2,.inl rfl,trivial⟩
 |x::y::l,h,hb=>by
  obtain ⟨h1,h2⟩:=h x (List.mem_cons_self ..)
  obtain ⟨h3,h4⟩:=h y (List.mem_cons_of_mem _ (List.mem_cons_self ..))
  exact ⟨h1,h2,bd_of h3 h4 (hb 0 (by simp)),fitp_of (y::l) (fun z hz=>h z (List.mem_cons_of_mem _ hz)) (fun i hi=>hb (i+1) (by simpa using hi))⟩
theorem wOk_eq {w:ByteArray} (h:wOk w) (h61:w.data.toList.headD 0=61):w.data.toList=[61] ∨ w.data.toList=[61,61]:=by
 have hw:=h.wrd
 unfold wordE at hw
 rw [h61,if_neg (by decide),if_neg (by decide)] at hw
 unfold sgnE sgnLen at hw
 rw [h61] at hw
 generalize hl:w.data.toList=l at *
 match l,h.pos with
 | [],hp=>rw [hl] at hp;exact absurd hp (by simp)
 | [a],_=>exact .inl (by rw [show a=61 from h61])
 | [a,b],_=>
   right
   have ha:a=61:=h61
   by_cases hb:b=61
   ·rw [ha,hb]
   ·exfalso
    have hn:eqNext [a,b]=false:=beq_false_of_ne hb
    rw [hn,show sgnB ((61:UInt8).toNat:Int) false=1 from rfl,if_neg (by decide)] at hw
    simp at hw
 |a::b::c::l,_=>
  exfalso
  have h2:=sgnB_le ((61:UInt8).toNat:Int) (eqNext (a::b::c::l))
  split at hw
  ·cases hw
  ·simp only [Except.ok.injEq,Prod.mk.injEq,List.length_cons] at hw
   omega
end Go.Proofs.YthpponmbpoaffaaGreatDoor.Sx.Z
namespace Go.Proofs.YthpponmbpoaffaaGreatDoor.Sx.Z
open Go.RowKit
def qX:AP:=.agg [.c (.int .i64),.c (.int .i64),.c .str,.c (.rows 76)]
def qC:AP:=.agg [.c (.int .i64),.c (.int .i64),.c (.int .i64),.c .str,.c (.rows 76),.c (.int .i64),.c (.int .i64),.c .str,.c (.rows 76)]
inductive XR:Int->Int->ByteArray->D->Int->Int->ByteArray->D->Prop
 |mk {k n:Int} {s:ByteArray} {d:D} {k2 n2:Int} {s2:ByteArray} {d2:D} (h0:k=k2) (h1:k=1->n=n2) (h2:k=2->s=s2) (h3:k=3 ∨ biB k=true->d.len=d2.len) (h4:k=3 ∨ biB k=true->∀ i,i<d.len->XR (d.el i 0).toI (d.el i 1).toI (d.el i 2).toS (d.el i 3) (d2.el i 0).toI (d2.el i 1).toI (d2.el i 2).toS (d2.el i 3)):XR k n s d k2 n2 s2 d2
def kR (a b:D) (i:Nat):Prop:=XR (a.el i 0).toI (a.el i 1).toI (a.el i 2).toS (a.el i 3) (b.el i 0).toI (b.el i 1).toI (b.el i 2).toS (b.el i 3)
def kRs (a b:D):Prop:=a.len=b.len/\∀ i,i<a.len->kR a b i
noncomputable def isbS:FSpec:=fun ds _=>match ds with
 | [.i k]=>some {val:=.one (.sc (.bool (.sym (decide (k>=4)&&decide (k<=8))))),vc:=[]}
 |_=>none
noncomputable def isbC:Con:=con [.sc (.int .i64)] isbS
theorem isb_ok:ConOK Tryz.prog 97 isbC:=by
 refine fn_ob tt_ok mixed Tryz.func97 rfl (fun _ _=>by kernel_rfl) (A:=fun ds=>⟨fun _=>Cons.of [],fun _=>none,fun _=>none⟩) (fun _ _=>cons_nil) (by kernel_rfl) ?_
 intro ds fr
 unfold isbS
 split
 ·rename_i k
  refine kmp (q:=(decide (k>=(4:Int))&&decide (k<=(8:Int)))=(decide (k>=(4:Int))&&decide (k<=(8:Int)))) (by kernel_rfl) ?_
  (repeat' (with_reducible apply And.intro))<;>first |with_reducible rfl |exact True.intro |with_reducible assumption |decide |assumption |rfl
 ·trivial
noncomputable def exsS:FSpec:=fun ds _=>match ds with
 | [.i k,.i n,.s s,.d d,.i k2,.i n2,.s s2,.d d2]=>some {val:=.one (.sc (.bool (.lit true))),vc:=[XR k n s d k2 n2 s2 d2,kS d]}
 |_=>none
noncomputable def exsC:Con:=con [qX,qX] exsS
noncomputable def exsM:List Dat->Nat:=fun ds=>match ds with
 | [.i k,.i n,.s s,.d d,.i k2,.i n2,.s s2,.d d2]=>SizeOf.sizeOf d
 |_=>0
noncomputable def exsSu (m:Nat):FSpec:=fun ds _=>match ds with
 | [.i k,.i n,.s s,.d d,.i k2,.i n2,.s s2,.d d2]=>some {val:=.one (.sc (.bool (.lit true))),vc:=[SizeOf.sizeOf d<m,XR k n s d k2 n2 s2 d2,kS d]}
 |_=>none
theorem exs_under (m:Nat):exsS.under exsM m=exsSu m:=by
 funext ds fr
 unfold FSpec.under exsS exsM exsSu
 split
 ·rename_i e h
  split at h
  ·obtain rfl:=Option.some.inj h;rfl
  ·cases h
 ·rename_i h
  split at h
  ·cases h
  ·rfl
noncomputable def eqxS (m:Nat):FSpec:=fun ds _=>match ds with
 | [.d a,.d b,.v kf]=>(match isFn 81 kf with |true=>some {val:=.one (.sc (.bool (.lit true))),vc:=[kRs a b,kS a,SizeOf.sizeOf a<m+1]} |false=>none)
 |_=>none
noncomputable def eqxC (m:Nat):Con:=con [.sc (.rows 76),.sc (.rows 76),.sc .any] (eqxS m)
theorem eqx_ok {m:Nat} (hP:ConOK Tryz.prog 81 (con [qX,qX] (exsSu m))):ConOK Tryz.prog 98 (eqxC m):=by
 refine fn_ob tt_ok mixed Tryz.func98 rfl (fun _ _=>by kernel_rfl) (A:=fun ds=>⟨fun _=>Cons.of [(81,(con [qX,qX] (exsSu m)))],fun k=>match k,ds with | 4,[.d a,.d b,.v _]=>some {ι:=Nat,pre:=fun _ i=>i<=a.len/\True,μ:=fun i=>a.len+1-i,st:=fun s i=>famR s [(17,.one (.sc (.int .i64 (.sym ((i:Nat)))))),(16,.one (.sc (.int .i64 (.sym ((a.len:Nat))))))] [0,1,2,15] [] []} |_,_=>none,fun _=>none⟩) (fun _ _=>(cons_cons hP cons_nil)) (by kernel_rfl) ?_
 intro ds fr
 unfold eqxS
 split
 ·rename_i a b kf
  split
  ·rename_i hg
   obtain rfl:=isFn_eq hg
   refine kmp (q:=kRs a b->kS a->SizeOf.sizeOf a<m+(1:Nat)->(((↑a.len:Int) != (↑b.len:Int))=true->false=true)/\(((↑a.len:Int) != (↑b.len:Int))=false->(∃ (i:Nat),(i<=a.len/\True)/\(0:Int)=(↑i:Int)/\(↑a.len:Int)=(↑a.len:Int)/\a.rows=a.rows/\b.rows=b.rows/\Value.func (Fn.func (81:Nat)) #[] #[]=Value.func (Fn.func (81:Nat)) #[] #[]/\a.rows=a.rows)/\∀ (i:Nat),i<=a.len/\True->(decide ((↑i:Int)<(↑a.len:Int))=true->((0:Int)<=(↑i:Int)/\(↑i:Int)<(↑a.len:Int))/\((0:Int)<=(↑i:Int)/\(↑i:Int)<(↑b.len:Int))/\SizeOf.sizeOf (a.el (↑i:Int).toNat 3)<m/\XR (a.el (↑i:Int).toNat (0:Nat)).toI (a.el (↑i:Int).toNat 1).toI (a.el (↑i:Int).toNat 2).toS (a.el (↑i:Int).toNat 3) (b.el (↑i:Int).toNat (0:Nat)).toI (b.el (↑i:Int).toNat 1).toI (b.el (↑i:Int).toNat 2).toS (b.el (↑i:Int).toNat 3)/\kS (a.el (↑i:Int).toNat 3)/\∃ (j:Nat),(j<=a.len/\True)/\a.len+(1:Nat)-j<a.len+(1:Nat)-i/\IntKind.i64.wrap ((↑i:Int)+(1:Int))=(↑j:Int)/\(↑a.len:Int)=(↑a.len:Int)/\a.rows=a.rows/\b.rows=b.rows/\Value.func (Fn.func (81:Nat)) #[] #[]=Value.func (Fn.func (81:Nat)) #[] #[]/\a.rows=a.rows)/\(decide ((↑i:Int)<(↑a.len:Int))=false->true=true))) (by kernel_rfl) ?_
   intro he hk hm
   obtain ⟨hl,hR⟩:=he
   have hz1:a.len<=140737488355328:=by have:=((kS_iff a).1 hk).1;omega
   refine ⟨fun hc=>by rw [hl] at hc;simp at hc,fun _=>⟨⟨0,⟨Nat.zero_le _,trivial⟩,(by (repeat' (with_reducible apply And.intro))<;>first |with_reducible rfl |exact True.intro |assumption |(symm;assumption) |rfl)⟩,fun i hi=>⟨fun hc=>?_,fun _=>rfl⟩⟩⟩
   have hc:=of_decide_eq_true hc
   have hi2:i<a.len:=by omega
   have en:(i:Int).toNat=i:=Int.toNat_natCast i
   have hw:IntKind.i64.wrap ((i:Int)+1)=((i+1:Nat):Int):=by rw [IntWalk.i64_in _ (by omega)];omega
   simp only [en]
   have z:=lel_lt (j:=3) hi2
   exact ⟨⟨by omega,hc⟩,⟨by omega,by omega⟩,Nat.lt_of_lt_of_le z (Nat.le_of_lt_succ hm),hR i hi2,((kS_iff a).1 hk).2 i hi2,i+1,⟨hi2,trivial⟩,by omega,hw,(by (repeat' (with_reducible apply And.intro))<;>first |with_reducible rfl |exact True.intro |assumption |(symm;assumption) |rfl)⟩
  ·trivial
 ·trivial
theorem exs_step (m:Nat) (ih:ConOK Tryz.prog 81 (con [qX,qX] (exsSu m))):ConOK Tryz.prog 81 (con [qX,qX] (exsSu (m+1))):=by
 refine fn_ob tt_ok mixed Tryz.func81 rfl (fun _ _=>by kernel_rfl) (A:=fun ds=>⟨fun _=>Cons.of [(98,(eqxC m)),(97,isbC)],fun _=>none,fun _=>none⟩) (fun _ _=>(cons_cons (eqx_ok ih) (cons_cons isb_ok cons_nil))) (by kernel_rfl) ?_
 intro ds fr
 unfold exsSu
 split
 ·rename_i k n s d k2 n2 s2 d2
  refine kmp (q:=SizeOf.sizeOf d<m+(1:Nat)->XR k n s d k2 n2 s2 d2->kS d->((k != k2)=true->false=true)/\((k != k2)=false->((k==(1:Int))=true->(n==n2)=true)/\((k==(1:Int))=false->((k==(2:Int))=true->(s.toList==s2.toList)=true)/\((k==(2:Int))=false->((k==(3:Int))=true->((k==(3:Int))=true->kRs d d2/\kS d/\SizeOf.sizeOf d<m+(1:Nat)/\true=true)/\((k==(3:Int))=false->true=true))/\((k==(3:Int))=false->((decide (k>=(4:Int))&&decide (k<=(8:Int)))=true->kRs d d2/\kS d/\SizeOf.sizeOf d<m+(1:Nat)/\true=true)/\((decide (k>=(4:Int))&&decide (k<=(8:Int)))=false->true=true)))))) (by kernel_rfl) ?_
  intro hm hX hk
  cases hX with
  |mk e1 e2 e3 e4 e5=>
  subst e1
  exact ⟨fun h=>by simp at h,fun _=>⟨fun h=>by rw [e2 (eq_of_beq h)];simp,fun _=>⟨fun h=>by rw [e3 (eq_of_beq h)];simp,fun _=>⟨fun h=>⟨fun _=>⟨⟨e4 (.inl (eq_of_beq h)),e5 (.inl (eq_of_beq h))⟩,hk,hm,rfl⟩,fun _=>rfl⟩,fun _=>⟨fun h=>⟨⟨e4 (.inr h),e5 (.inr h)⟩,hk,hm,rfl⟩,fun _=>rfl⟩⟩⟩⟩⟩
 ·trivial
theorem exs_ok:ConOK Tryz.prog 81 exsC:=
 con_rec exsM (fun _ _=>by kernel_rfl) fun m ih=>by
  rw [exs_under] at ih ⊢
  exact exs_step m ih
noncomputable def cosS:FSpec:=fun ds _=>match ds with
 | [.i o,.i k,.i n,.s s,.d d,.i l,.i p,.s t,.d g,.i o2,.i k2,.i n2,.s s2,.d d2,.i l2,.i p2,.s t2,.d g2]=>some {val:=.one (.sc (.bool (.lit true))),vc:=[(o=o2/\XR k n s d k2 n2 s2 d2/\XR l p t g l2 p2 t2 g2),kS d,kS g]}
 |_=>none
noncomputable def cosC:Con:=con [qC,qC] cosS
theorem cos_ok:ConOK Tryz.prog 82 cosC:=by
 refine fn_ob tt_ok mixed Tryz.func82 rfl (fun _ _=>by kernel_rfl) (A:=fun ds=>⟨fun _=>Cons.of [(81,exsC)],fun _=>none,fun _=>none⟩) (fun _ _=>(cons_cons exs_ok cons_nil)) (by kernel_rfl) ?_
 intro ds fr
 unfold cosS
 split
 ·rename_i o k n s d l p t g o2 k2 n2 s2 d2 l2 p2 t2 g2
  refine kmp (q:=o=o2/\XR k n s d k2 n2 s2 d2/\XR l p t g l2 p2 t2 g2->kS d->kS g->((o==o2)=true/\True->XR k n s d k2 n2 s2 d2)/\((o==o2)=true/\True->kS d)/\((o==o2 ||false)=true/\True->XR l p t g l2 p2 t2 g2)/\((o==o2 ||false)=true/\True->kS g)/\(o==o2 ||false ||false)=true) (by kernel_rfl) ?_
  rintro ⟨rfl,h1,h2⟩ hk hk2
  exact ⟨fun _=>h1,fun _=>hk,fun _=>h2,fun _=>hk2,by simp⟩
 ·trivial
end Go.Proofs.YthpponmbpoaffaaGreatDoor.Sx.Z
namespace Go.Proofs.YthpponmbpoaffaaGreatDoor.Sx.Z
open Go.RowKit
def qS:AP:=.agg [.c (.int .i64),.c .str,.c .str,.c (.int .i64),.c (.int .i64),.c .str,.c (.rows 76),.c (.int .i64),.c (.int .i64),.c (.int .i64),.c .str,.c (.rows 76),.c (.int .i64),.c (.int .i64),.c .str,.c (.rows 76),.c (.rows 81),.c (.rows 81),.c (.rows 111)]
def qA:AP:=.agg [.c .str,.c .str,.c (.rows 81)]
def qB:AP:=.sc (.rows 81)
inductive BR:D->D->Prop
 |mk {d d2:D} (hl:d.len=d2.len) (hk:∀ i,i<d.len->(d.el i 0).toI=(d2.el i 0).toI) (hn:∀ i,i<d.len->(d.el i 0).toI=1 ∨ (d.el i 0).toI=4 ∨ (d.el i 0).toI=5 ∨ (d.el i 0).toI=7->(d.el i 1).toS=(d2.el i 1).toS) (ht:∀ i,i<d.len->(d.el i 0).toI=4->(d.el i 2).toS=(d2.el i 2).toS)
  (he:∀ i,i<d.len->(d.el i 0).toI=1 ∨ (d.el i 0).toI=4->XR (d.el i 3).toI (d.el i 4).toI (d.el i 5).toS (d.el i 6) (d2.el i 3).toI (d2.el i 4).toI (d2.el i 5).toS (d2.el i 6))
  (hc:∀ i,i<d.len->(d.el i 0).toI=2 ∨ (d.el i 0).toI=3 ∨ (d.el i 0).toI=6->(d.el i 7).toI=(d2.el i 7).toI/\XR (d.el i 8).toI (d.el i 9).toI (d.el i 10).toS (d.el i 11) (d2.el i 8).toI (d2.el i 9).toI (d2.el i 10).toS (d2.el i 11)/\XR (d.el i 12).toI (d.el i 13).toI (d.el i 14).toS (d.el i 15) (d2.el i 12).toI (d2.el i 13).toI (d2.el i 14).toS (d2.el i 15))
  (hb:∀ i,i<d.len->(d.el i 0).toI=2 ∨ (d.el i 0).toI=3->BR (d.el i 16) (d2.el i 16)) (hs:∀ i,i<d.len->(d.el i 0).toI=2->BR (d.el i 17) (d2.el i 17))
  (ha:∀ i,i<d.len->(d.el i 0).toI=5->(d.el i 18).len=(d2.el i 18).len) (hr:∀ i,i<d.len->(d.el i 0).toI=5->∀ j,j<(d.el i 18).len->((d.el i 18).el j 0).toS=((d2.el i 18).el j 0).toS/\((d.el i 18).el j 1).toS=((d2.el i 18).el j 1).toS)
  (hq:∀ i,i<d.len->(d.el i 0).toI=5->∀ j,j<(d.el i 18).len->BR ((d.el i 18).el j 2) ((d2.el i 18).el j 2)):BR d d2
def arAl (a b:D) (j:Nat):Prop:=(a.el j 0).toS=(b.el j 0).toS/\(a.el j 1).toS=(b.el j 1).toS/\BR (a.el j 2) (b.el j 2)
def arAls (a b:D):Prop:=a.len=b.len/\∀ j,j<a.len->arAl a b j
structure stAl (k:Int) (nm:ByteArray) (tg:ByteArray) (ek:Int) (en:Int) (es:ByteArray) (ed:D) (op:Int) (lk:Int) (ln:Int) (ls:ByteArray) (ld:D) (rk:Int) (rn:Int) (rs:ByteArray) (rd:D) (b:D) (el:D) (ar:D) (k2:Int) (nm2:ByteArray) (tg2:ByteArray) (ek2:Int) (en2:Int) (es2:ByteArray) (ed2:D) (op2:Int) (lk2:Int) (ln2:Int) (ls2:ByteArray) (ld2:D) (rk2:Int) (rn2:Int) (rs2:ByteArray) (rd2:D) (b2:D) (el2:D) (ar2:D):Prop where
 a0:k=k2
 a1:k=1 ∨ k=4 ∨ k=5 ∨ k=7->nm=nm2
 a2:k=4->tg=tg2
 a3:k=1 ∨ k=4->XR ek en es ed ek2 en2 es2 ed2
 a4:k=2 ∨ k=3 ∨ k=6->op=op2/\XR lk ln ls ld lk2 ln2 ls2 ld2/\XR rk rn rs rd rk2 rn2 rs2 rd2
 a5:k=2 ∨ k=3->BR b b2
 a6:k=2->BR el el2
 a7:k=5->arAls ar ar2
def stAlE (d d2:D) (i:Nat):Prop:=stAl (d.el i 0).toI (d.el i 1).toS (d.el i 2).toS (d.el i 3).toI (d.el i 4).toI (d.el i 5).toS (d.el i 6) (d.el i 7).toI (d.el i 8).toI (d.el i 9).toI (d.el i 10).toS (d.el i 11) (d.el i 12).toI (d.el i 13).toI (d.el i 14).toS (d.el i 15) (d.el i 16) (d.el i 17) (d.el i 18) (d2.el i 0).toI (d2.el i 1).toS (d2.el i 2).toS (d2.el i 3).toI (d2.el i 4).toI (d2.el i 5).toS (d2.el i 6) (d2.el i 7).toI (d2.el i 8).toI (d2.el i 9).toI (d2.el i 10).toS (d2.el i 11) (d2.el i 12).toI (d2.el i 13).toI (d2.el i 14).toS (d2.el i 15) (d2.el i 16) (d2.el i 17) (d2.el i 18)
def stAls (d d2:D):Prop:=d.len=d2.len/\∀ i,i<d.len->stAlE d d2 i
theorem BR_al {d d2:D}:BR d d2↔stAls d d2:=by
 constructor
 ·intro h
  cases h with
  |mk hl hk hn ht he hc hb hs ha hr hq=>exact ⟨hl,fun i hi=>⟨hk i hi,hn i hi,ht i hi,he i hi,hc i hi,hb i hi,hs i hi,fun h5=>⟨ha i hi h5,fun j hj=>⟨(hr i hi h5 j hj).1,(hr i hi h5 j hj).2,hq i hi h5 j hj⟩⟩⟩⟩
 ·rintro ⟨hl,h⟩
  exact .mk hl (fun i hi=>(h i hi).a0) (fun i hi=>(h i hi).a1) (fun i hi=>(h i hi).a2) (fun i hi=>(h i hi).a3) (fun i hi=>(h i hi).a4) (fun i hi=>(h i hi).a5) (fun i hi=>(h i hi).a6) (fun i hi h5=>((h i hi).a7 h5).1) (fun i hi h5 j hj=>⟨(((h i hi).a7 h5).2 j hj).1,(((h i hi).a7 h5).2 j hj).2.1⟩) (fun i hi h5 j hj=>(((h i hi).a7 h5).2 j hj).2.2)
noncomputable def sbyS:FSpec:=fun ds _=>match ds with
 | [.d d,.d d2]=>some {val:=.one (.sc (.bool (.lit true))),vc:=[BR d d2,bS d]}
 |_=>none
noncomputable def sbyC:Con:=con [qB,qB] sbyS
noncomputable def sbyM:List Dat->Nat:=fun ds=>match ds with
 | [.d d,.d d2]=>SizeOf.sizeOf d
 |_=>0
noncomputable def sbySu (m:Nat):FSpec:=fun ds _=>match ds with
 | [.d d,.d d2]=>some {val:=.one (.sc (.bool (.lit true))),vc:=[SizeOf.sizeOf d<m,BR d d2,bS d]}
 |_=>none
theorem sby_under (m:Nat):sbyS.under sbyM m=sbySu m:=by
 funext ds fr
 unfold FSpec.under sbyS sbyM sbySu
 split
 ·rename_i e h
  split at h
  ·obtain rfl:=Option.some.inj h;rfl
  ·cases h
 ·rename_i h
  split at h
  ·cases h
  ·rfl
noncomputable def sarS (m:Nat):FSpec:=fun ds _=>match ds with
 | [.s t,.s v,.d d,.s t2,.s v2,.d d2]=>some {val:=.one (.sc (.bool (.lit true))),vc:=[(t=t2/\v=v2/\BR d d2),bS d,SizeOf.sizeOf d<m]}
 |_=>none
noncomputable def sarC (m:Nat):Con:=con [qA,qA] (sarS m)
theorem sar_ok {m:Nat} (hP:ConOK Tryz.prog 40 (con [qB,qB] (sbySu m))):ConOK Tryz.prog 84 (sarC m):=by
 refine fn_ob tt_ok mixed Tryz.func84 rfl (fun _ _=>by kernel_rfl) (A:=fun ds=>⟨fun _=>Cons.of [(40,(con [qB,qB] (sbySu m)))],fun _=>none,fun _=>none⟩) (fun _ _=>(cons_cons hP cons_nil)) (by kernel_rfl) ?_
 intro ds fr
 unfold sarS
 split
 ·rename_i t v d t2 v2 d2
  refine kmp (q:=t=t2/\v=v2/\BR d d2->bS d->SizeOf.sizeOf d<m->((t.toList==t2.toList&&v.toList==v2.toList)=true/\True->SizeOf.sizeOf d<m)/\((t.toList==t2.toList&&v.toList==v2.toList)=true/\True->BR d d2)/\((t.toList==t2.toList&&v.toList==v2.toList)=true/\True->bS d)/\(t.toList==t2.toList&&v.toList==v2.toList ||false)=true) (by kernel_rfl) ?_
  rintro ⟨rfl,rfl,hd⟩ hb hm
  exact ⟨fun _=>hm,fun _=>hd,fun _=>hb,by simp⟩
 ·trivial
noncomputable def eqaS (m:Nat):FSpec:=fun ds _=>match ds with
 | [.d a,.d b,.v kf]=>(match isFn 84 kf with |true=>some {val:=.one (.sc (.bool (.lit true))),vc:=[arAls a b,(a.len*56<=140737488355328/\∀ j,j<a.len->bS (a.el j 2)),SizeOf.sizeOf a<m+1]} |false=>none)
 |_=>none
noncomputable def eqaC (m:Nat):Con:=con [.sc (.rows 111),.sc (.rows 111),.sc .any] (eqaS m)
theorem eqa_ok {m:Nat} (hP:ConOK Tryz.prog 40 (con [qB,qB] (sbySu m))):ConOK Tryz.prog 83 (eqaC m):=by
 refine fn_ob tt_ok mixed Tryz.func83 rfl (fun _ _=>by kernel_rfl) (A:=fun ds=>⟨fun _=>Cons.of [(84,(sarC m))],fun k=>match k,ds with | 4,[.d a,.d b,.v _]=>some {ι:=Nat,pre:=fun _ i=>i<=a.len/\True,μ:=fun i=>a.len+1-i,st:=fun s i=>famR s [(17,.one (.sc (.int .i64 (.sym ((i:Nat)))))),(16,.one (.sc (.int .i64 (.sym ((a.len:Nat))))))] [0,1,2,15] [] []} |_,_=>none,fun _=>none⟩) (fun _ _=>(cons_cons (sar_ok hP) cons_nil)) (by kernel_rfl) ?_
 intro ds fr
 unfold eqaS
 split
 ·rename_i a b kf
  split
  ·rename_i hg
   obtain rfl:=isFn_eq hg
   refine kmp (q:=arAls a b->(a.len*(56:Nat)<=(140737488355328:Nat)/\∀ (j:Nat),j<a.len->bS (a.el j (2:Nat)))->SizeOf.sizeOf a<m+(1:Nat)->(((↑a.len:Int) != (↑b.len:Int))=true->false=true)/\(((↑a.len:Int) != (↑b.len:Int))=false->(∃ (i:Nat),(i<=a.len/\True)/\(0:Int)=(↑i:Int)/\(↑a.len:Int)=(↑a.len:Int)/\a.rows=a.rows/\b.rows=b.rows/\Value.func (Fn.func (84:Nat)) #[] #[]=Value.func (Fn.func (84:Nat)) #[] #[]/\a.rows=a.rows)/\∀ (i:Nat),i<=a.len/\True->(decide ((↑i:Int)<(↑a.len:Int))=true->((0:Int)<=(↑i:Int)/\(↑i:Int)<(↑a.len:Int))/\((0:Int)<=(↑i:Int)/\(↑i:Int)<(↑b.len:Int))/\((a.el (↑i:Int).toNat (0:Nat)).toS=(b.el (↑i:Int).toNat (0:Nat)).toS/\(a.el (↑i:Int).toNat 1).toS=(b.el (↑i:Int).toNat 1).toS/\BR (a.el (↑i:Int).toNat 2) (b.el (↑i:Int).toNat 2))/\bS (a.el (↑i:Int).toNat 2)/\SizeOf.sizeOf (a.el (↑i:Int).toNat 2)<m/\∃ (j:Nat),(j<=a.len/\True)/\a.len+(1:Nat)-j<a.len+(1:Nat)-i/\IntKind.i64.wrap ((↑i:Int)+(1:Int))=(↑j:Int)/\(↑a.len:Int)=(↑a.len:Int)/\a.rows=a.rows/\b.rows=b.rows/\Value.func (Fn.func (84:Nat)) #[] #[]=Value.func (Fn.func (84:Nat)) #[] #[]/\a.rows=a.rows)/\(decide ((↑i:Int)<(↑a.len:Int))=false->true=true))) (by kernel_rfl) ?_
   intro he hk hm
   obtain ⟨hl,hR⟩:=he
   have hz1:a.len<=140737488355328:=by have:=hk.1;omega
   refine ⟨fun hc=>by rw [hl] at hc;simp at hc,fun _=>⟨⟨0,⟨Nat.zero_le _,trivial⟩,(by (repeat' (with_reducible apply And.intro))<;>first |with_reducible rfl |exact True.intro |assumption |(symm;assumption) |rfl)⟩,fun i hi=>⟨fun hc=>?_,fun _=>rfl⟩⟩⟩
   have hc:=of_decide_eq_true hc
   have hi2:i<a.len:=by omega
   have en:(i:Int).toNat=i:=Int.toNat_natCast i
   have hw:IntKind.i64.wrap ((i:Int)+1)=((i+1:Nat):Int):=by rw [IntWalk.i64_in _ (by omega)];omega
   simp only [en]
   have z:=lel_lt (j:=2) hi2
   exact ⟨⟨by omega,hc⟩,⟨by omega,by omega⟩,hR i hi2,hk.2 i hi2,Nat.lt_of_lt_of_le z (Nat.le_of_lt_succ hm),i+1,⟨hi2,trivial⟩,by omega,hw,(by (repeat' (with_reducible apply And.intro))<;>first |with_reducible rfl |exact True.intro |assumption |(symm;assumption) |rfl)⟩
  ·trivial
 ·trivial
noncomputable def sstS (m:Nat):FSpec:=fun ds _=>match ds with
 | .i k :: .s nm :: .s tg :: .i ek :: .i en :: .s es :: .d ed :: .i op :: .i lk :: .i ln :: .s ls :: .d ld :: .i rk :: .i rn :: .s rs :: .d rd :: .d b :: .d el :: .d ar :: .i k2 :: .s nm2 :: .s tg2 :: .i ek2 :: .i en2 :: .s es2 :: .d ed2 :: .i op2 :: .i lk2 :: .i ln2 :: .s ls2::[.d ld2,.i rk2,.i rn2,.s rs2,.d rd2,.d b2,.d el2,.d ar2]=>some {val:=.one (.sc (.bool (.lit true))),vc:=[stAl k nm tg ek en es ed op lk ln ls ld rk rn rs rd b el ar k2 nm2 tg2 ek2 en2 es2 ed2 op2 lk2 ln2 ls2 ld2 rk2 rn2 rs2 rd2 b2 el2 ar2,kS ed/\kS ld/\kS rd/\bS b/\bS el/\ar.len*56<=140737488355328/\(∀ j,j<ar.len->bS (ar.el j 2)),SizeOf.sizeOf b<m/\SizeOf.sizeOf el<m/\SizeOf.sizeOf ar<m+1]}
 |_=>none
noncomputable def sstC (m:Nat):Con:=con [qS,qS] (sstS m)
theorem sst_ok {m:Nat} (hP:ConOK Tryz.prog 40 (con [qB,qB] (sbySu m))):ConOK Tryz.prog 65 (sstC m):=by
 refine fn_ob tt_ok mixed Tryz.func65 rfl (fun _ _=>by kernel_rfl) (A:=fun ds=>⟨fun _=>Cons.of [(40,(con [qB,qB] (sbySu m))),(81,exsC),(82,cosC),(83,(eqaC m))],fun _=>none,fun _=>none⟩) (fun _ _=>(cons_cons hP (cons_cons exs_ok (cons_cons cos_ok (cons_cons (eqa_ok hP) cons_nil))))) (by kernel_rfl) ?_
 intro ds fr
 unfold sstS
 split
 ·rename_i k nm tg ek en es ed op lk ln ls ld rk rn rs rd b el ar k2 nm2 tg2 ek2 en2 es2 ed2 op2 lk2 ln2 ls2 ld2 rk2 rn2 rs2 rd2 b2 el2 ar2
  refine kmp (q:=stAl k nm tg ek en es ed op lk ln ls ld rk rn rs rd b el ar k2 nm2 tg2 ek2 en2 es2 ed2 op2 lk2 ln2 ls2 ld2 rk2 rn2 rs2 rd2 b2 el2 ar2->(kS ed/\kS ld/\kS rd/\bS b/\bS el/\ar.len*(56:Nat)<=(140737488355328:Nat)/\∀ (j:Nat),j<ar.len->bS (ar.el j (2:Nat)))->SizeOf.sizeOf b<m/\SizeOf.sizeOf el<m/\SizeOf.sizeOf ar<m+(1:Nat)->((k != k2)=true->false=true)/\((k != k2)=false->((k==(1:Int))=true->((nm.toList==nm2.toList)=true/\True->XR ek en es ed ek2 en2 es2 ed2)/\((nm.toList==nm2.toList)=true/\True->kS ed)/\(nm.toList==nm2.toList ||false)=true)/\((k==(1:Int))=false->((k==(2:Int))=true->(op=op2/\XR lk ln ls ld lk2 ln2 ls2 ld2/\XR rk rn rs rd rk2 rn2 rs2 rd2)/\kS ld/\kS rd/\SizeOf.sizeOf b<m/\BR b b2/\bS b/\SizeOf.sizeOf el<m/\BR el el2/\bS el/\true=true)/\((k==(2:Int))=false->((k==(3:Int))=true->(op=op2/\XR lk ln ls ld lk2 ln2 ls2 ld2/\XR rk rn rs rd rk2 rn2 rs2 rd2)/\kS ld/\kS rd/\SizeOf.sizeOf b<m/\BR b b2/\bS b/\true=true)/\((k==(3:Int))=false->((k==(4:Int))=true->((nm.toList==nm2.toList&&tg.toList==tg2.toList)=true/\True->XR ek en es ed ek2 en2 es2 ed2)/\((nm.toList==nm2.toList&&tg.toList==tg2.toList)=true/\True->kS ed)/\(nm.toList==nm2.toList&&tg.toList==tg2.toList ||false)=true)/\((k==(4:Int))=false->((k==(5:Int))=true->((nm.toList==nm2.toList)=true/\True->arAls ar ar2)/\((nm.toList==nm2.toList)=true/\True->ar.len*(56:Nat)<=(140737488355328:Nat)/\∀ (j:Nat),j<ar.len->bS (ar.el j (2:Nat)))/\((nm.toList==nm2.toList)=true/\True->SizeOf.sizeOf ar<m+(1:Nat))/\(nm.toList==nm2.toList ||false)=true)/\((k==(5:Int))=false->((k==(6:Int))=true->(op=op2/\XR lk ln ls ld lk2 ln2 ls2 ld2/\XR rk rn rs rd rk2 rn2 rs2 rd2)/\kS ld/\kS rd/\true=true)/\((k==(6:Int))=false->((k==(7:Int))=true->(nm.toList==nm2.toList)=true)/\((k==(7:Int))=false->true=true))))))))) (by kernel_rfl) ?_
  rintro ⟨e0,hn,ht,he,hc,hb,hs,ha⟩ ⟨k1,k2,k3,k4,k5,k6⟩ ⟨m1,m2,m3⟩
  subst e0
  exact ⟨fun h=>by simp at h,fun _=>⟨fun h=>⟨fun _=>he (.inl (eq_of_beq h)),fun _=>k1,by rw [hn (.inl (eq_of_beq h))];simp⟩,fun _=>⟨fun h=>⟨hc (.inl (eq_of_beq h)),k2,k3,m1,hb (.inl (eq_of_beq h)),k4,m2,hs (eq_of_beq h),k5,rfl⟩,fun _=>⟨fun h=>⟨hc (.inr (.inl (eq_of_beq h))),k2,k3,m1,hb (.inr (eq_of_beq h)),k4,rfl⟩,fun _=>⟨fun h=>⟨fun _=>he (.inr (eq_of_beq h)),fun _=>k1,by rw [hn (.inr (.inl (eq_of_beq h))),ht (eq_of_beq h)];simp⟩,fun _=>⟨fun h=>⟨fun _=>ha (eq_of_beq h),fun _=>k6,fun _=>m3,by rw [hn (.inr (.inr (.inl (eq_of_beq h))))];simp⟩,fun _=>⟨fun h=>⟨hc (.inr (.inr (eq_of_beq h))),k2,k3,rfl⟩,fun _=>⟨fun h=>by rw [hn (.inr (.inr (.inr (eq_of_beq h))))];simp,fun _=>rfl⟩⟩⟩⟩⟩⟩⟩⟩
 ·trivial
noncomputable def eqsS (m:Nat):FSpec:=fun ds _=>match ds with
 | [.d a,.d b,.v kf]=>(match isFn 65 kf with |true=>some {val:=.one (.sc (.bool (.lit true))),vc:=[BR a b,bS a,SizeOf.sizeOf a<m+1]} |false=>none)
 |_=>none
noncomputable def eqsC (m:Nat):Con:=con [.sc (.rows 81),.sc (.rows 81),.sc .any] (eqsS m)
theorem eqs_ok {m:Nat} (hP:ConOK Tryz.prog 40 (con [qB,qB] (sbySu m))):ConOK Tryz.prog 64 (eqsC m):=by
 refine fn_ob tt_ok mixed Tryz.func64 rfl (fun _ _=>by kernel_rfl) (A:=fun ds=>⟨fun _=>Cons.of [(65,(sstC m))],fun k=>match k,ds with | 4,[.d a,.d b,.v _]=>some {ι:=Nat,pre:=fun _ i=>i<=a.len/\True,μ:=fun i=>a.len+1-i,st:=fun s i=>famR s [(17,.one (.sc (.int .i64 (.sym ((i:Nat)))))),(16,.one (.sc (.int .i64 (.sym ((a.len:Nat))))))] [0,1,2,15] [] []} |_,_=>none,fun _=>none⟩) (fun _ _=>(cons_cons (sst_ok hP) cons_nil)) (by kernel_rfl) ?_
 intro ds fr
 unfold eqsS
 split
 ·rename_i a b kf
  split
  ·rename_i hg
   obtain rfl:=isFn_eq hg
   refine kmp (q:=BR a b->bS a->SizeOf.sizeOf a<m+(1:Nat)->(((↑a.len:Int) != (↑b.len:Int))=true->false=true)/\(((↑a.len:Int) != (↑b.len:Int))=false->(∃ (i:Nat),(i<=a.len/\True)/\(0:Int)=(↑i:Int)/\(↑a.len:Int)=(↑a.len:Int)/\a.rows=a.rows/\b.rows=b.rows/\Value.func (Fn.func (65:Nat)) #[] #[]=Value.func (Fn.func (65:Nat)) #[] #[]/\a.rows=a.rows)/\∀ (i:Nat),i<=a.len/\True->(decide ((↑i:Int)<(↑a.len:Int))=true->((0:Int)<=(↑i:Int)/\(↑i:Int)<(↑a.len:Int))/\((0:Int)<=(↑i:Int)/\(↑i:Int)<(↑b.len:Int))/\stAl (a.el (↑i:Int).toNat (0:Nat)).toI (a.el (↑i:Int).toNat 1).toS (a.el (↑i:Int).toNat 2).toS (a.el (↑i:Int).toNat 3).toI (a.el (↑i:Int).toNat 4).toI (a.el (↑i:Int).toNat 5).toS (a.el (↑i:Int).toNat 6) (a.el (↑i:Int).toNat 7).toI (a.el (↑i:Int).toNat 8).toI (a.el (↑i:Int).toNat 9).toI (a.el (↑i:Int).toNat 10).toS (a.el (↑i:Int).toNat 11) (a.el (↑i:Int).toNat 12).toI (a.el (↑i:Int).toNat 13).toI (a.el (↑i:Int).toNat 14).toS (a.el (↑i:Int).toNat 15) (a.el (↑i:Int).toNat 16) (a.el (↑i:Int).toNat 17) (a.el (↑i:Int).toNat 18) (b.el (↑i:Int).toNat (0:Nat)).toI (b.el (↑i:Int).toNat 1).toS (b.el (↑i:Int).toNat 2).toS (b.el (↑i:Int).toNat 3).toI (b.el (↑i:Int).toNat 4).toI (b.el (↑i:Int).toNat 5).toS (b.el (↑i:Int).toNat 6) (b.el (↑i:Int).toNat 7).toI (b.el (↑i:Int).toNat 8).toI (b.el (↑i:Int).toNat 9).toI (b.el (↑i:Int).toNat 10).toS (b.el (↑i:Int).toNat 11) (b.el (↑i:Int).toNat 12).toI (b.el (↑i:Int).toNat 13).toI (b.el (↑i:Int).toNat 14).toS (b.el (↑i:Int).toNat 15) (b.el (↑i:Int).toNat 16) (b.el (↑i:Int).toNat 17) (b.el (↑i:Int).toNat 18)/\(kS (a.el (↑i:Int).toNat 6)/\kS (a.el (↑i:Int).toNat 11)/\kS (a.el (↑i:Int).toNat 15)/\bS (a.el (↑i:Int).toNat 16)/\bS (a.el (↑i:Int).toNat 17)/\(a.el (↑i:Int).toNat 18).len*(56:Nat)<=(140737488355328:Nat)/\∀ (j:Nat),j<(a.el (↑i:Int).toNat 18).len->bS ((a.el (↑i:Int).toNat 18).el j (2:Nat)))/\(SizeOf.sizeOf (a.el (↑i:Int).toNat 16)<m/\SizeOf.sizeOf (a.el (↑i:Int).toNat 17)<m/\SizeOf.sizeOf (a.el (↑i:Int).toNat 18)<m+(1:Nat))/\∃ (j:Nat),(j<=a.len/\True)/\a.len+(1:Nat)-j<a.len+(1:Nat)-i/\IntKind.i64.wrap ((↑i:Int)+(1:Int))=(↑j:Int)/\(↑a.len:Int)=(↑a.len:Int)/\a.rows=a.rows/\b.rows=b.rows/\Value.func (Fn.func (65:Nat)) #[] #[]=Value.func (Fn.func (65:Nat)) #[] #[]/\a.rows=a.rows)/\(decide ((↑i:Int)<(↑a.len:Int))=false->true=true))) (by kernel_rfl) ?_
   intro he hk hm
   obtain ⟨hl,hR⟩:=BR_al.1 he
   have hz1:a.len<=140737488355328:=by have:=((bS_iff a).1 hk).1;omega
   refine ⟨fun hc=>by rw [hl] at hc;simp at hc,fun _=>⟨⟨0,⟨Nat.zero_le _,trivial⟩,(by (repeat' (with_reducible apply And.intro))<;>first |with_reducible rfl |exact True.intro |assumption |(symm;assumption) |rfl)⟩,fun i hi=>⟨fun hc=>?_,fun _=>rfl⟩⟩⟩
   have hc:=of_decide_eq_true hc
   have hi2:i<a.len:=by omega
   have en:(i:Int).toNat=i:=Int.toNat_natCast i
   have hw:IntKind.i64.wrap ((i:Int)+1)=((i+1:Nat):Int):=by rw [IntWalk.i64_in _ (by omega)];omega
   simp only [en]
   obtain ⟨b1,b2,b3,b4,b5,b6⟩:=((bS_iff a).1 hk).2 i hi2
   have z1:=lel_lt (j:=16) hi2
   have z2:=lel_lt (j:=17) hi2
   have z3:=lel_lt (j:=18) hi2
   have hm2:=Nat.le_of_lt_succ hm
   exact ⟨⟨by omega,hc⟩,⟨by omega,by omega⟩,hR i hi2,⟨b1,b2,b3,b4,b5,b6⟩,⟨Nat.lt_of_lt_of_le z1 hm2,Nat.lt_of_lt_of_le z2 hm2,Nat.lt_of_lt_of_le z3 (Nat.le_succ_of_le hm2)⟩,i+1,⟨hi2,trivial⟩,by omega,hw,(by (repeat' (with_reducible apply And.intro))<;>first |with_reducible rfl |exact True.intro |assumption |(symm;assumption) |rfl)⟩
  ·trivial
 ·trivial
theorem sby_step (m:Nat) (ih:ConOK Tryz.prog 40 (con [qB,qB] (sbySu m))):ConOK Tryz.prog 40 (con [qB,qB] (sbySu (m+1))):=by
 refine fn_ob tt_ok mixed Tryz.func40 rfl (fun _ _=>by kernel_rfl) (A:=fun ds=>⟨fun _=>Cons.of [(64,(eqsC m))],fun _=>none,fun _=>none⟩) (fun _ _=>(cons_cons (eqs_ok ih) cons_nil)) (by kernel_rfl) ?_
 intro ds fr
 unfold sbySu
 split
 ·rename_i d d2
  refine kmp (q:=SizeOf.sizeOf d<m+(1:Nat)->BR d d2->bS d->BR d d2/\bS d/\SizeOf.sizeOf d<m+(1:Nat)/\true=true) (by kernel_rfl) ?_
  intro hm he hb
  exact ⟨he,hb,hm,rfl⟩
 ·trivial
theorem sby_ok:ConOK Tryz.prog 40 sbyC:=
 con_rec sbyM (fun _ _=>by kernel_rfl) fun m ih=>by
  rw [sby_under] at ih ⊢
  exact sby_step m ih
end Go.Proofs.YthpponmbpoaffaaGreatDoor.Sx.Z
