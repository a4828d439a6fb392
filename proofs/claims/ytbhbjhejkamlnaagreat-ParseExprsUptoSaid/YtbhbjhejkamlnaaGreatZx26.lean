import Derived.Lib.ItoaLen
import Derived.Test.YtbhbjhejkamlnaaGreatZx25
import Derived.Test.YtbhbjhejkamlnaaGreatZx1
set_option linter.all false
namespace Go.Proofs.YtbhbjhejkamlnaaGreat.Sx.Z
open Go.RowKit
theorem ap {d:D} {i j:Nat} (h:i<d.len):SizeOf.sizeOf (d.el i j)<SizeOf.sizeOf d:=by
 cases d with
 |l rows=>
  have h':i<rows.length:=h;have e:(D.l rows).el i j=(rows[i]).getD j (.i 0):=by
   show (rows.getD i []).getD j (.i 0)=_;rw[List.getD_eq_getElem?_getD (l:=rows),List.getElem?_eq_getElem h',Option.getD_some]
  rw[e,List.getD_eq_getElem?_getD];have h1:=List.sizeOf_lt_of_mem (List.getElem_mem h')
  cases hj:(rows[i])[j]? with
  |none=>
   rw[Option.getD_none];have:SizeOf.sizeOf (D.i 0)=1+SizeOf.sizeOf (0:Int):=rfl;have e2:SizeOf.sizeOf (0:Int)=1:=rfl;have:SizeOf.sizeOf (D.l rows)=1+SizeOf.sizeOf rows:=by simp
   have h2:1<=SizeOf.sizeOf (rows[i]):=by cases rows[i]<;>simp<;>omega
   omega
  |some x=>
   rw[Option.getD_some];have h2:=List.sizeOf_lt_of_mem (List.mem_of_getElem? hj);have:SizeOf.sizeOf (D.l rows)=1+SizeOf.sizeOf rows:=by simp
   omega
 |i n=>exact absurd h (Nat.not_lt_zero i)
 |b n=>exact absurd h (Nat.not_lt_zero i)
 |s n=>exact absurd h (Nat.not_lt_zero i)
def nmB (s:ByteArray):Bool:=!decide ((s.size:Int)>12)&&((ai s).2.2==0&&((bh (ai s).1).len:Int)==1&&((bh (ai s).1).el 0 0).toI==1&&(((bh (ai s).1).el 0 1).toS.toList==s.toList))
def nuB (n:Int):Bool:=decide (n>=0)&&decide (n<=2147483647)
def biB (k:Int):Bool:=decide (k>=4)&&decide (k<=8)
def aXb (k n:Int) (s:ByteArray) (len:Int) (f:Nat->Bool):Bool:=
 if k=1 then nuB n else if k=2 then nmB s else if k=3 then len==1&&f 0 else if biB k=true then len==2&&f 0&&f 1 else false
def aE (d:D) (i:Nat):Bool:=if _h:i<d.len then aXb (d.el i 0).toI (d.el i 1).toI (d.el i 2).toS (d.el i 3).len (fun j=>aE (d.el i 3) j) else false
 termination_by SizeOf.sizeOf d
 decreasing_by exact ap (by assumption)
def aX (k n:Int) (s:ByteArray) (d:D):Bool:=aXb k n s d.len (aE d)
theorem ei {k:Int} (h:biB k=true):4<=k/\k<=8:=by unfold biB at h;simp at h;omega
theorem Bb {k n:Int} {s:ByteArray} {d:D} (h:biB k=true):aX k n s d=((d.len:Int)==2&&aE d 0&&aE d 1):=by
 have hb:=ei h;unfold aX aXb;rw[if_neg (by omega),if_neg (by omega),if_neg (by omega),if_pos h]
theorem Js {k n:Int} {s:ByteArray} {d:D} (h1:k≠1) (h2:k≠2) (h3:k≠3) (h:biB k=false):aX k n s d=false:=by
 unfold aX aXb;rw[if_neg h1,if_neg h2,if_neg h3,if_neg (by rw[h];decide)]
theorem nq {d:D} {i:Nat} (h:i<d.len):aE d i=aX (d.el i 0).toI (d.el i 1).toI (d.el i 2).toS (d.el i 3):=by
 rw[aE,dif_pos h];rfl
def bO (n:Nat) (f:Nat->Bool):Bool:=(List.range n).all f
theorem bP {n:Nat} {f:Nat->Bool}:bO n f=true ↔ ∀ i,i<n->f i=true:=by
 unfold bO;rw[List.all_eq_true];exact ⟨fun h i hi=>h i (List.mem_range.2 hi),fun h i hi=>h i (List.mem_range.1 hi)⟩
theorem eZ {n:Nat} {f:Nat->Bool} (h:∀ i,i<n->f i=true):bO n f=true:=bP.2 h
theorem gQ {n i:Nat} {f:Nat->Bool} (hi:i<n) (h:f i=false):bO n f=false:=by
 cases hc:bO n f with
 |false=>rfl
 |true=>rw[bP.1 hc i hi] at h;cases h
theorem p9 {n:Nat} (f:Nat->Bool):((List.finRange n).all fun i=>f i.1)=bO n f:=by
 have h1:((List.finRange n).all fun i=>f i.1)=true↔bO n f=true:=by
  rw[bP,List.all_eq_true];exact ⟨fun h i hi=>h ⟨i,hi⟩ (List.mem_finRange _),fun h i _=>h i.1 i.2⟩
 cases hc:bO n f with
 |true=>exact h1.2 hc
 |false=>
  cases hd:((List.finRange n).all fun i=>f i.1) with
  |false=>rfl
  |true=>rw[h1.1 hd] at hc;cases hc
def aC (op lk ln:Int) (ls:ByteArray) (ld:D) (rk rn:Int) (rs:ByteArray) (rd:D):Bool:=decide (op>=1)&&decide (op<=6)&&aX lk ln ls ld&&aX rk rn rs rd
def bz (k:Int) (nm tg:ByteArray) (e c b el:Bool) (al:Int) (a:Bool):Bool:=
 if k=1 then nmB nm&&e else if k=2 then c&&b&&el else if k=3 then c&&b else if k=4 then nmB nm&&nmB tg&&e else if k=5 then nmB nm&&decide (al>0)&&a else if k=6 then c else if k=7 then nmB nm else false
def bA (d:D):Bool:=(List.finRange d.len).all fun (i:Fin d.len)=>bz (d.el i 0).toI (d.el i 1).toS (d.el i 2).toS (aX (d.el i 3).toI (d.el i 4).toI (d.el i 5).toS (d.el i 6)) (aC (d.el i 7).toI (d.el i 8).toI (d.el i 9).toI (d.el i 10).toS (d.el i 11) (d.el i 12).toI (d.el i 13).toI (d.el i 14).toS (d.el i 15)) (bA (d.el i 16)) (bA (d.el i 17)) (d.el i 18).len
    ((List.finRange (d.el i 18).len).all fun (j:Fin (d.el i 18).len)=>nmB ((d.el i 18).el j 0).toS&&nmB ((d.el i 18).el j 1).toS&&bA ((d.el i 18).el j 2))
 termination_by SizeOf.sizeOf d
 decreasing_by
  ·exact ap i.isLt
  ·exact ap i.isLt
  ·exact Nat.lt_trans (ap j.isLt) (ap i.isLt)
def arE (am:D) (j:Nat):Bool:=nmB (am.el j 0).toS&&nmB (am.el j 1).toS&&bA (am.el j 2)
def lh (am:D):Bool:=bO am.len (arE am)
def stA (k:Int) (nm tg:ByteArray) (ek en:Int) (es:ByteArray) (ed:D) (op lk ln:Int) (ls:ByteArray) (ld:D) (rk rn:Int) (rs:ByteArray) (rd bd eb am:D):Bool:=
 bz k nm tg (aX ek en es ed) (aC op lk ln ls ld rk rn rs rd) (bA bd) (bA eb) am.len (lh am)
def stE (d:D) (i:Nat):Bool:=stA (d.el i 0).toI (d.el i 1).toS (d.el i 2).toS (d.el i 3).toI (d.el i 4).toI (d.el i 5).toS (d.el i 6) (d.el i 7).toI (d.el i 8).toI (d.el i 9).toI (d.el i 10).toS (d.el i 11) (d.el i 12).toI (d.el i 13).toI (d.el i 14).toS (d.el i 15) (d.el i 16) (d.el i 17) (d.el i 18)
theorem qa (d:D):bA d=bO d.len (stE d):=by
 rw[bA,<- p9]
 congr 1
 funext i
 unfold stE stA lh;rw[<- p9];rfl
def nsE (d:D) (i:Nat):Bool:=nmB (d.el i 0).toS
def nsA (d:D):Bool:=bO d.len (nsE d)
def chB (nm:ByteArray) (k sz:Int) (f t:ByteArray) (tg:D):Bool:=nmB nm&&decide (k>=0)&&decide (k<=2)&&nuB sz&&nmB f&&nmB t&&decide ((tg.len:Int)>0)&&nsA tg
def mvE (d:D) (i:Nat):Bool:=nuB (d.el i 0).toI&&nmB (d.el i 1).toS&&nuB (d.el i 2).toI
def ruB (nm:ByteArray) (mv:D):Bool:=bO mv.len (mvE mv)&&nmB nm
def chE (d:D) (i:Nat):Bool:=chB (d.el i 0).toS (d.el i 1).toI (d.el i 2).toI (d.el i 3).toS (d.el i 4).toS (d.el i 5)
def ruE (d:D) (i:Nat):Bool:=ruB (d.el i 0).toS (d.el i 1)
def prE (d:D) (i:Nat):Bool:=nmB (d.el i 0).toS&&nsA (d.el i 1)&&bA (d.el i 2)
def syB (ch ru pr:D):Bool:=bO ch.len (chE ch)&&(bO ru.len (ruE ru)&&bO pr.len (prE pr))
def suB (k:Int):Bool:=k==4 ||k==5
def brB (k i q:Int):Bool:=if k=3 then biB q else if k=4 ∨ k=5 then i==1&&suB q else if k=6 ∨ k=7 ∨ k=8 then suB q ||(i==1&&biB q) else false
def inB (b:Bool):Int:=if b=true then 1 else 0
def xNb (k dp:Int) (q:Nat->Int) (f:Nat->Int->Bool):Bool:=
 if dp>24 then false else if k=3 then f 0 (dp+1+inB (brB 3 0 (q 0))) else if biB k=true then f 0 (dp+inB (brB k 0 (q 0)))&&f 1 (dp+inB (brB k 1 (q 1))) else true
def kN (d:D) (i:Nat) (dp:Int):Bool:=if _h:i<d.len then xNb (d.el i 0).toI dp (fun j=>((d.el i 3).el j 0).toI) (fun j q=>kN (d.el i 3) j q) else true
 termination_by SizeOf.sizeOf d
 decreasing_by exact ap (by assumption)
def xN (k:Int) (d:D) (dp:Int):Bool:=xNb k dp (fun j=>(d.el j 0).toI) (kN d)
theorem lj {d:D} {i:Nat} (h:i<d.len) (dp:Int):kN d i dp=xN (d.el i 0).toI (d.el i 3) dp:=by
 rw[kN,dif_pos h];rfl
theorem Jt {k n:Int} {s:ByteArray} {d:D} (h:aX k n s d=true):(k=3->d.len=1/\aE d 0=true)/\(biB k=true->d.len=2/\aE d 0=true/\aE d 1=true):=by
 constructor
 ·rintro rfl;have e:aX 3 n s d=((d.len:Int)==1&&aE d 0):=rfl;rw[e] at h;simp only[Bool.and_eq_true,beq_iff_eq] at h;exact ⟨by omega,h.2⟩
 ·intro hb;rw[Bb hb] at h;simp only[Bool.and_eq_true,beq_iff_eq] at h;exact ⟨by omega,h.1.2,h.2⟩
theorem Bc {op lk ln rk rn:Int} {ls rs:ByteArray} {ld rd:D} (h:aC op lk ln ls ld rk rn rs rd=true):aX lk ln ls ld=true/\aX rk rn rs rd=true:=by
 unfold aC at h;simp only[Bool.and_eq_true] at h;exact ⟨h.1.2,h.2⟩
def itW (n:Int):ByteArray:=⟨(Lib.itoa n).toArray⟩
def chW (k:Int):ByteArray:=if k=0 then ⟨#[98,108,111,99,107]⟩ else if k=1 then ⟨#[100,114,111,112]⟩ else ⟨#[108,111,115,115,121]⟩
def biW (k:Int):ByteArray:=if k=4 then ⟨#[43]⟩ else if k=5 then ⟨#[45]⟩ else if k=6 then ⟨#[42]⟩ else if k=7 then ⟨#[47]⟩ else ⟨#[37]⟩
def cmW (k:Int):ByteArray:=if k=1 then ⟨#[61,61]⟩ else if k=2 then ⟨#[33,61]⟩ else if k=3 then ⟨#[60]⟩ else if k=4 then ⟨#[60,61]⟩ else if k=5 then ⟨#[62]⟩ else ⟨#[62,61]⟩
def par (b:Bool) (l:List ByteArray):List ByteArray:=if b=true then ⟨#[40]⟩::(l++[⟨#[41]⟩]) else l
def xWb (k n:Int) (s:ByteArray) (q:Nat->Int) (f:Nat->List ByteArray):List ByteArray:=
 if k=1 then [itW n] else if k=2 then [s] else if k=3 then ⟨#[45]⟩::par (brB 3 0 (q 0)) (f 0) else if biB k=true then par (brB k 0 (q 0)) (f 0)++(biW k::par (brB k 1 (q 1)) (f 1)) else []
def kW (d:D) (i:Nat):List ByteArray:=if h:i<d.len then xWb (d.el i 0).toI (d.el i 1).toI (d.el i 2).toS (fun j=>((d.el i 3).el j 0).toI) (fun j=>kW (d.el i 3) j) else []
 termination_by SizeOf.sizeOf d
 decreasing_by exact ap h
def xW (k n:Int) (s:ByteArray) (d:D):List ByteArray:=xWb k n s (fun j=>(d.el j 0).toI) (kW d)
theorem tz {d:D} {i:Nat} (h:i<d.len):kW d i=xW (d.el i 0).toI (d.el i 1).toI (d.el i 2).toS (d.el i 3):=by
 rw[kW,dif_pos h];rfl
def cW (op lk ln:Int) (ls:ByteArray) (ld:D) (rk rn:Int) (rs:ByteArray) (rd:D):List ByteArray:=⟨#[40]⟩::(xW lk ln ls ld++(cmW op::(xW rk rn rs rd++[⟨#[41]⟩])))
def blW (l:List ByteArray):List ByteArray:=⟨#[123]⟩::(l++[⟨#[125]⟩])
def ae (n:Nat) (f:Nat->List ByteArray):List ByteArray:=((List.range n).map f).flatten
theorem ej (n:Nat) (f:Nat->List ByteArray):ae (n+1) f=ae n f++f n:=by
 unfold ae;rw[List.range_succ,List.map_append,List.flatten_append]
 simp
theorem Be {n:Nat} (f:Nat->List ByteArray):((List.finRange n).map fun i=>f i.1).flatten=ae n f:=by
 unfold ae
 congr 1
 apply List.ext_getElem
 ·simp
 ·intro i h1 h2
  simp
def fL (k:Int) (nm tg:ByteArray) (e c b el:List ByteArray) (hel:Bool) (a:List ByteArray):List ByteArray:=
 if k=1 then nm::⟨#[61]⟩::(e++[⟨#[59]⟩]) else if k=2 then ⟨#[105,102]⟩::(c++(b++(if hel=true then ⟨#[101,108,115,101]⟩::el else []))) else if k=3 then ⟨#[119,104,105,108,101]⟩::(c++b) else if k=4 then ⟨#[115,101,110,100]⟩::nm::⟨#[46]⟩::tg::⟨#[40]⟩::(e++[⟨#[41]⟩,⟨#[59]⟩]) else if k=5 then ⟨#[114,101,99,118]⟩::nm::⟨#[123]⟩::(a++[⟨#[125]⟩]) else if k=6 then ⟨#[97,115,115,101,114,116]⟩::(c++[⟨#[59]⟩]) else if k=7 then [⟨#[105,110,112,117,116]⟩,nm,⟨#[59]⟩] else []
def tA (tg v:ByteArray) (b:List ByteArray):List ByteArray:=tg::⟨#[40]⟩::v::⟨#[41]⟩::blW b
def bW (d:D):List ByteArray:=((List.finRange d.len).map fun (i:Fin d.len)=>fL (d.el i 0).toI (d.el i 1).toS (d.el i 2).toS (xW (d.el i 3).toI (d.el i 4).toI (d.el i 5).toS (d.el i 6)) (cW (d.el i 7).toI (d.el i 8).toI (d.el i 9).toI (d.el i 10).toS (d.el i 11) (d.el i 12).toI (d.el i 13).toI (d.el i 14).toS (d.el i 15)) (blW (bW (d.el i 16))) (blW (bW (d.el i 17))) (decide (((d.el i 17).len:Int)>0))
    ((List.finRange (d.el i 18).len).map fun (j:Fin (d.el i 18).len)=>tA ((d.el i 18).el j 0).toS ((d.el i 18).el j 1).toS (bW ((d.el i 18).el j 2))).flatten).flatten
 termination_by SizeOf.sizeOf d
 decreasing_by
  ·exact ap i.isLt
  ·exact ap i.isLt
  ·exact Nat.lt_trans (ap j.isLt) (ap i.isLt)
def arW (am:D) (j:Nat):List ByteArray:=tA (am.el j 0).toS (am.el j 1).toS (bW (am.el j 2))
def stW (k:Int) (nm tg:ByteArray) (ek en:Int) (es:ByteArray) (ed:D) (op lk ln:Int) (ls:ByteArray) (ld:D) (rk rn:Int) (rs:ByteArray) (rd bd eb am:D):List ByteArray:=
 fL k nm tg (xW ek en es ed) (cW op lk ln ls ld rk rn rs rd) (blW (bW bd)) (blW (bW eb)) (decide ((eb.len:Int)>0)) (ae am.len (arW am))
def ak (d:D) (i:Nat):List ByteArray:=stW (d.el i 0).toI (d.el i 1).toS (d.el i 2).toS (d.el i 3).toI (d.el i 4).toI (d.el i 5).toS (d.el i 6) (d.el i 7).toI (d.el i 8).toI (d.el i 9).toI (d.el i 10).toS (d.el i 11) (d.el i 12).toI (d.el i 13).toI (d.el i 14).toS (d.el i 15) (d.el i 16) (d.el i 17) (d.el i 18)
theorem qb (d:D):bW d=ae d.len (ak d):=by
 rw[bW,<- Be]
 congr 2
 funext i
 unfold ak stW;rw[<- Be];rfl
def tgW (tg:D) (i:Nat):List ByteArray:=if i>0 then [⟨#[44]⟩,(tg.el i 0).toS] else [(tg.el i 0).toS]
def tB (nm:ByteArray) (k n:Int) (f t:ByteArray) (tg:D):List ByteArray:=[⟨#[99,104,97,110]⟩,nm,chW k,itW n,⟨#[102,114,111,109]⟩,f,⟨#[116,111]⟩,t,⟨#[123]⟩]++(ae tg.len (tgW tg)++[⟨#[125]⟩,⟨#[59]⟩])
def mvW (mv:D) (i:Nat):List ByteArray:=[itW (mv.el i 0).toI,(mv.el i 1).toS,itW (mv.el i 2).toI,⟨#[59]⟩]
def tC (nm:ByteArray) (mv:D):List ByteArray:=[⟨#[114,117,108,101]⟩,nm,⟨#[123]⟩]++(ae mv.len (mvW mv)++[⟨#[125]⟩])
def vaW (vs:D) (i:Nat):List ByteArray:=[⟨#[118,97,114]⟩,(vs.el i 0).toS,⟨#[59]⟩]
def tD (nm:ByteArray) (vs bd:D):List ByteArray:=[⟨#[112,114,111,99]⟩,nm,⟨#[123]⟩]++(ae vs.len (vaW vs)++(bW bd++[⟨#[125]⟩]))
def az (d:D) (i:Nat):List ByteArray:=tB (d.el i 0).toS (d.el i 1).toI (d.el i 2).toI (d.el i 3).toS (d.el i 4).toS (d.el i 5)
def aY (d:D) (i:Nat):List ByteArray:=tC (d.el i 0).toS (d.el i 1)
def bH (d:D) (i:Nat):List ByteArray:=tD (d.el i 0).toS (d.el i 1) (d.el i 2)
def syW (ch ru pr:D):List ByteArray:=ae ch.len (az ch)++(ae ru.len (aY ru)++ae pr.len (bH pr))
def kOf (w:ByteArray):Int:=match bb w.data.toList with | .ok (k,_,_)=>k | .error _=>0
def nOf (w:ByteArray):Int:=match bb w.data.toList with | .ok (_,_,m)=>m | .error _=>0
theorem tE {w:ByteArray} {k:Int} {n:Nat} {m:Int} (h:bb w.data.toList = .ok (k,n,m)):kOf w=k/\nOf w=m:=by
 unfold kOf nOf;rw[h];exact ⟨rfl,rfl⟩
structure TkA (ws:D) (i:Nat) (w:ByteArray):Prop where
 lt:i<ws.len
 tx:(ws.el i 1).toS=w
 kd:(ws.el i 0).toI=kOf w
 nu:(ws.el i 2).toI=nOf w
def At (ws:D) (p:Nat) (l:List ByteArray):Prop:=∀ j (h:j<l.length),TkA ws (p+j) l[j]
theorem At.nil {ws:D} {p:Nat}:At ws p []:=fun _ h=>absurd h (Nat.not_lt_zero _)
theorem At.cons {ws:D} {p:Nat} {a:ByteArray} {l:List ByteArray} (h:At ws p (a::l)):TkA ws p a/\At ws (p+1) l:=by
 refine ⟨h 0 (Nat.zero_lt_succ _),fun j hj=>?_⟩;have:=h (j+1) (Nat.succ_lt_succ hj);rw[show p+1+j=p+(j+1) by omega];exact this
theorem At.app {ws:D} {p:Nat} {l m:List ByteArray} (h:At ws p (l++m)):At ws p l/\At ws (p+l.length) m:=by
 refine ⟨fun j hj=>?_,fun j hj=>?_⟩
 ·have:=h j (by rw[List.length_append];omega);rw[List.getElem_append_left hj] at this;exact this
 ·have:=h (l.length+j) (by rw[List.length_append];omega);rw[List.getElem_append_right (by omega)] at this;simp only[Nat.add_sub_cancel_left] at this;rw[Nat.add_assoc];exact this
theorem At.le {ws:D} {p:Nat} {l:List ByteArray} (h:At ws p l) (hp:p<=ws.len):p+l.length<=ws.len:=by
 rcases Nat.eq_zero_or_pos l.length with h0 |h0
 ·omega
 ·have:=(h (l.length-1) (by omega)).lt;omega
def rp (p:Nat) (pa:Int):Rd:=⟨(p:Int),pa,0⟩
theorem em (p:Nat) (pa:Int):gx (rp p pa)=rp (p+1) pa:=rfl
theorem iF {ws:D} {p:Nat} {pa:Int} (h:p<=ws.len) (hw:ws.len<=1000000):aa ws (rp p pa).nx:=⟨Int.natCast_nonneg p,(show (p:Int)<=(ws.len:Int) by omega),hw⟩
theorem bK {ws:D} {p:Nat} {pa:Int} {w:ByteArray} (h:TkA ws p w) (t:ByteArray):isB ws t (rp p pa)=(w.data.toList==t.data.toList&&decide (kOf w>=3)):=by
 have hl:(rp p pa).nx<(ws.len:Int):=by show (p:Int)<_;have:=h.lt;omega
 obtain ⟨e1,e2⟩:=fC hl;have e3:(rp p pa).nx.toNat=p:=Int.toNat_natCast p;rw[e3] at e1 e2;unfold isB;rw[e1,e2,h.tx,h.kd,decide_eq_true hl,ByteArray.toList_eq,ByteArray.toList_eq];rfl
theorem jH {ws:D} {p:Nat} {pa:Int} {w:ByteArray} (h:TkA ws p w) (k:Int):kiB ws k (rp p pa)=(kOf w==k):=by
 have hl:(rp p pa).nx<(ws.len:Int):=by show (p:Int)<_;have:=h.lt;omega
 have e2:=(fC hl).2;have e3:(rp p pa).nx.toNat=p:=Int.toNat_natCast p;rw[e3] at e2;unfold kiB;rw[e2,h.kd,decide_eq_true hl];rfl
theorem Ju {ws:D} {p:Nat} {pa:Int} (h:ws.len<=p) (t:ByteArray):isB ws t (rp p pa)=false:=by
 have hl:¬ (rp p pa).nx<(ws.len:Int):=by show ¬ (p:Int)<_;omega
 unfold isB;rw[decide_eq_false hl];simp
theorem jI {ws:D} {en:Int} {p:Nat} {pa:Int} {w:ByteArray} (h:TkA ws p w) (hk:kOf w>=3):muR ws en w (rp p pa)=rp (p+1) pa:=by
 unfold muR;rw[if_pos (by rw[bK h,decide_eq_true hk];simp)];exact em p pa
theorem nr {ws:D} {en k:Int} {p:Nat} {pa:Int} {w:ByteArray} (h:TkA ws p w) (hk:kOf w=k):wnR ws en k (rp p pa)=rp (p+1) pa:=by
 unfold wnR;rw[if_pos (by rw[jH h,hk];simp)];exact em p pa
theorem tF {ws:D} {p:Nat} {pa:Int} {w:ByteArray} (h:TkA ws p w) (hk:kOf w=1):wnS ws (rp p pa)=w:=by
 have hl:(rp p pa).nx<(ws.len:Int):=by show (p:Int)<_;have:=h.lt;omega
 have e1:=(fC hl).1;have e3:(rp p pa).nx.toNat=p:=Int.toNat_natCast p;unfold wnS;rw[if_pos (by rw[jH h,hk];simp),e1,e3,h.tx]
theorem Jv {ws:D} {p:Nat} {pa:Int} {w:ByteArray} (h:TkA ws p w) (hk:kOf w=2):wnN ws (rp p pa)=nOf w:=by
 have hl:(rp p pa).nx<(ws.len:Int):=by show (p:Int)<_;have:=h.lt;omega
 have e3:(rp p pa).nx.toNat=p:=Int.toNat_natCast p;unfold wnN;rw[if_pos (by rw[jH h,hk];simp)];unfold pkN;rw[if_pos hl,e3,h.nu]
theorem tG (s:ByteArray) (f p:Nat) (acc l:List Tok) (hp:p<=s.size) (ha:∀ t∈acc,∃ q,q+t.text.size<=s.size/\bb (s.data.toList.drop q) = .ok (t.kind,t.text.size,t.num)) (h:bI s f p acc = .ok l) :
 ∀ t∈l,∃ q,q+t.text.size<=s.size/\bb (s.data.toList.drop q) = .ok (t.kind,t.text.size,t.num):=by
 induction f generalizing p acc with
 |zero=>cases h;exact ha
 |succ f ih=>
  unfold bI at h
  by_cases hlt:p<s.size
  ·rw[if_pos hlt] at h
   by_cases hg:cy (s.data.toList.getD p 0)=true
   ·rw[if_pos hg] at h;exact ih (p+1) acc (by omega) ha h
   ·rw[if_neg hg] at h
    cases hw:bb (s.data.toList.drop p) with
    |error e=>rw[hw] at h;cases h
    |ok x=>
     obtain ⟨k,n,m⟩:=x;rw[hw] at h;have hlen:(s.data.toList.drop p).length=s.size-p:=by rw[List.length_drop];rfl
     obtain ⟨w1,w2,_⟩:=gr (by omega) hw;have hsz:(s.extract p (p+n)).size=n:=by rw[ByteArray.size_extract];omega
     refine ih (p+n) _ (by omega) (fun t ht=>?_) h
     rcases List.mem_append.1 ht with ht |ht
     ·exact ha t ht
     ·rw[List.mem_singleton.1 ht];exact ⟨p,by show p+(s.extract p (p+n)).size<=_;omega,by show _=Except.ok (k,(s.extract p (p+n)).size,m);rw[hsz];exact hw⟩
  ·rw[if_neg hlt] at h
   cases h;exact ha
theorem Jw {s:ByteArray} (h:nmB s=true):kOf s=1:=by
 unfold nmB at h;simp only[Bool.and_eq_true,beq_iff_eq] at h;obtain ⟨_,⟨⟨h1,h2⟩,h3⟩,h4⟩:=h;have h2:((ai s).1.length:Int)=1:=by rw[cV] at h2;exact h2
 obtain ⟨t,ht⟩:∃ t,(ai s).1=[t]:=List.length_eq_one_iff.1 (by omega);rw[ht] at h3 h4;have h3:t.kind=1:=h3;have h4:t.text.toList=s.toList:=h4;have h4:t.text=s:=by
  rw[ByteArray.toList_eq,ByteArray.toList_eq] at h4;exact ByteArray.ext (Array.toList_inj.1 h4)
 cases hg:bI s s.size 0 [] with
 |error x=>
  obtain ⟨p,e⟩:=x;rw[gK hg rfl] at ht
  cases ht
 |ok acc=>
  by_cases hl:2000<acc.length
  ·rw[mT hg rfl hl] at ht
   cases ht
  ·rw[mU hg rfl (by omega)] at ht;have ht:acc=[t]:=ht;obtain ⟨q,q1,q2⟩:=tG s s.size 0 [] acc (Nat.zero_le _) (fun _ h=>by cases h) hg t (by rw[ht];exact List.mem_singleton.2 rfl);rw[h4] at q1;have q0:q=0:=by omega
   rw[q0,List.drop_zero] at q2;rw[(tE q2).1,h3]
theorem lp (u:Nat):Lib.decDigits u=if u<10 then [UInt8.ofNat (48+u)] else Lib.decDigits (u/10)++[UInt8.ofNat (48+u%10)]:=by
 rw[Lib.decDigits]
 split<;>rfl
theorem qc {u:Nat} (h:u<10):(UInt8.ofNat (48+u)).toNat=48+u:=by
 rw[UInt8.toNat_ofNat'];omega
theorem Bf {u:Nat} (h:u<10):ay (UInt8.ofNat (48+u))=true:=by
 unfold ay bF;rw[qc h];simp only[Bool.and_eq_true,decide_eq_true_eq];omega
theorem Jx (u:Nat):(∀ b∈Lib.decDigits u,ay b=true)/\val (Lib.decDigits u)=u/\Lib.decDigits u≠[]/\(10<=u->(Lib.decDigits u).headD 0≠48)/\(u<10->(Lib.decDigits u).length=1)/\(0<u->(Lib.decDigits u).headD 0≠48):=by
 induction u using Nat.strongRecOn with
 |ind u ih=>
  by_cases h:u<10
  ·rw[lp,if_pos h];refine ⟨fun b hb=>?_,?_,by simp,fun hu=>by omega,fun _=>rfl,fun hu=>?_⟩
   ·rw[List.mem_singleton.1 hb];exact Bf h
   ·show 10*0+((UInt8.ofNat (48+u)).toNat-48)=u;rw[qc h];omega
   ·intro e;have e:UInt8.ofNat (48+u)=48:=e;have:=congrArg UInt8.toNat e;rw[qc h] at this;have:(48+u)=48:=this;omega
  ·obtain ⟨a1,a2,a3,a4,a5,a6⟩:=ih (u/10) (by omega);rw[lp,if_neg h];have hh:(Lib.decDigits (u/10)++[UInt8.ofNat (48+u%10)]).headD 0=(Lib.decDigits (u/10)).headD 0:=by
    cases hd:Lib.decDigits (u/10) with
    |nil=>exact absurd hd a3
    |cons a t=>rfl
   have h6:(Lib.decDigits (u/10)++[UInt8.ofNat (48+u%10)]).headD 0≠48:=by rw[hh];exact a6 (by omega)
   refine ⟨fun b hb=>?_,?_,by simp,fun _=>h6,fun hu=>absurd hu h,fun _=>h6⟩
   ·rcases List.mem_append.1 hb with hb |hb
    ·exact a1 b hb
    ·rw[List.mem_singleton.1 hb];exact Bf (by omega)
   ·rw[re,a2,qc (by omega)];omega
theorem tH {n:Int} (h:nuB n=true):bb (itW n).data.toList = .ok (2,(itW n).data.toList.length,n)/\0<(itW n).data.toList.length:=by
 unfold nuB at h;simp only[Bool.and_eq_true,decide_eq_true_eq] at h;have e:(itW n).data.toList=Lib.decDigits n.toNat:=by
  unfold itW Lib.itoa;rw[if_neg (by omega)]
 obtain ⟨a1,a2,a3,a4,a5,a6⟩:=Jx n.toNat;generalize hL:Lib.decDigits n.toNat=L at *;have hlen:lenOf ay L=L.length:=by
  exact wK ay L L.length (Nat.le_refl _) (fun i hi=>a1 _ (by rw[List.getD_eq_getElem?_getD,List.getElem?_eq_getElem hi];exact List.getElem_mem hi)) (fun hx=>absurd hx (Nat.lt_irrefl _))
 have hh:ay (L.headD 0)=true:=by
  cases L with
  |nil=>exact absurd rfl a3
  |cons a t=>exact a1 a (List.mem_cons_self ..)
 have hnl:bG (L.headD 0)=false:=by
  unfold ay bF at hh;unfold bG bQ;simp only[Bool.and_eq_true,decide_eq_true_eq] at hh;rw[decide_eq_false (by omega)];rfl
 have hw:bb L = .ok (2,L.length,n):=by
  unfold bb;rw[if_neg (by rw[hnl];decide),if_pos hh];unfold cq;rw[hlen,List.take_length,a2,if_neg,show ((n.toNat:Nat):Int)=n by omega];rintro (hx |⟨hx,hy⟩ |hx)
  ·omega
  ·by_cases hu:n.toNat<10
   ·have:=a5 hu;omega
   ·exact a4 (by omega) hy
  ·rw[List.getD_eq_getElem?_getD,List.getElem?_eq_none (Nat.le_refl _),Option.getD_none] at hx;exact absurd hx (by decide)
 rw[e];exact ⟨hw,List.length_pos_iff.2 a3⟩
theorem Jy {n:Int} (h:nuB n=true):kOf (itW n)=2/\nOf (itW n)=n:=tE (tH h).1
def xCb (k n:Int) (s:ByteArray) (f:Nat->Xp):Xp:=
 if k=1 then ⟨1,n,ByteArray.empty,.l []⟩ else if k=2 then ⟨2,0,s,.l []⟩ else if k=3 then ⟨3,0,ByteArray.empty,.l [(f 0).row]⟩ else X2 k (f 0) (f 1)
def kC (d:D) (i:Nat):Xp:=if _h:i<d.len then xCb (d.el i 0).toI (d.el i 1).toI (d.el i 2).toS (fun j=>kC (d.el i 3) j) else X00
 termination_by SizeOf.sizeOf d
 decreasing_by exact ap (by assumption)
def xC (k n:Int) (s:ByteArray) (d:D):Xp:=xCb k n s (kC d)
theorem tI {d:D} {i:Nat} (h:i<d.len):kC d i=xC (d.el i 0).toI (d.el i 1).toI (d.el i 2).toS (d.el i 3):=by
 rw[kC,dif_pos h];rfl
theorem Jz {P:Int->Int->ByteArray->D->Prop} (h1:∀ n s d,nuB n=true->P 1 n s d) (h2:∀ n s d,nmB s=true->P 2 n s d)
 (h3:∀ n s d,d.len=1->P (d.el 0 0).toI (d.el 0 1).toI (d.el 0 2).toS (d.el 0 3)->P 3 n s d)
 (h4:∀ k n s d,biB k=true->d.len=2->P (d.el 0 0).toI (d.el 0 1).toI (d.el 0 2).toS (d.el 0 3)->P (d.el 1 0).toI (d.el 1 1).toI (d.el 1 2).toS (d.el 1 3)->P k n s d) :
 ∀ (z:Nat) (k n:Int) (s:ByteArray) (d:D),SizeOf.sizeOf d<=z->aX k n s d=true->P k n s d:=by
 intro z
 induction z with
 |zero=>intro k n s d hz;cases d<;>simp at hz
 |succ z ih=>
  intro k n s d hz h;have kid:∀ i,i<d.len->aE d i=true->P (d.el i 0).toI (d.el i 1).toI (d.el i 2).toS (d.el i 3):=fun i hi ha=>by
   rw[nq hi] at ha;have:=ap (j:=3) hi;exact ih _ _ _ _ (by omega) ha
  by_cases e1:k=1
  ·subst e1;exact h1 n s d h
  ·by_cases e2:k=2
   ·subst e2;exact h2 n s d h
   ·obtain ⟨b1,b2⟩:=Jt h
    by_cases e3:k=3
    ·subst e3;obtain ⟨c1,c2⟩:=b1 rfl;exact h3 n s d c1 (kid 0 (by omega) c2)
    ·cases hb:biB k with
     |false=>rw[Js e1 e2 e3 hb] at h;cases h
     |true=>
      obtain ⟨c1,c2,c3⟩:=b2 hb;exact h4 k n s d hb c1 (kid 0 (by omega) c2) (kid 1 (by omega) c3)
theorem ns {P:Int->Int->ByteArray->D->Prop} (h1:∀ n s d,nuB n=true->P 1 n s d) (h2:∀ n s d,nmB s=true->P 2 n s d)
 (h3:∀ n s d,d.len=1->P (d.el 0 0).toI (d.el 0 1).toI (d.el 0 2).toS (d.el 0 3)->P 3 n s d)
 (h4:∀ k n s d,biB k=true->d.len=2->P (d.el 0 0).toI (d.el 0 1).toI (d.el 0 2).toS (d.el 0 3)->P (d.el 1 0).toI (d.el 1 1).toI (d.el 1 2).toS (d.el 1 3)->P k n s d)
 {k n:Int} {s:ByteArray} {d:D} (h:aX k n s d=true):P k n s d:=Jz h1 h2 h3 h4 _ k n s d (Nat.le_refl _) h
def noX (ws:D) (p:Nat) (l:List ByteArray):Prop:=∀ t∈l,∀ pa,isB ws t (rp p pa)=false
def dV:List ByteArray:=[⟨#[42]⟩,⟨#[47]⟩,⟨#[37]⟩]
def fc:List ByteArray:=[⟨#[43]⟩,⟨#[45]⟩]
theorem jJ {ws:D} {p:Nat} {w:ByteArray} (h:TkA ws p w) {l:List ByteArray} (hl:∀ t∈l,(w.data.toList==t.data.toList&&decide (kOf w>=3))=false):noX ws p l:=fun t ht pa=>by rw[bK h];exact hl t ht
theorem Bg {ws:D} {p:Nat} {pa:Int} (h:noX ws p dV):kQ ws sgM 6 (rp p pa)=0:=by
 unfold kQ;rw[if_neg];rintro ⟨_,hx⟩;have e:ixR ws sgM (rp p pa) 3 = -1:=by
  simp only[ixR];rw[if_neg (by rw[show (sgM.el 2 0).toS=⟨#[37]⟩ from rfl,h _ (by simp [dV,fc])];decide),if_neg (by rw[show (sgM.el 1 0).toS=⟨#[47]⟩ from rfl,h _ (by simp [dV,fc])];decide),if_neg (by rw[show (sgM.el 0 0).toS=⟨#[42]⟩ from rfl,h _ (by simp [dV,fc])];decide)]
 rw[show sgM.len=3 from rfl,e] at hx;exact absurd hx (by decide)
theorem Bh {ws:D} {p:Nat} {pa:Int} (h:noX ws p fc):kQ ws sgA 4 (rp p pa)=0:=by
 unfold kQ;rw[if_neg];rintro ⟨_,hx⟩;have e:ixR ws sgA (rp p pa) 2 = -1:=by
  simp only[ixR];rw[if_neg (by rw[show (sgA.el 1 0).toS=⟨#[45]⟩ from rfl,h _ (by simp [dV,fc])];decide),if_neg (by rw[show (sgA.el 0 0).toS=⟨#[43]⟩ from rfl,h _ (by simp [dV,fc])];decide)]
 rw[show sgA.len=2 from rfl,e] at hx;exact absurd hx (by decide)
theorem Bi {ws:D} {p:Nat} {pa:Int} {k:Int} (h:TkA ws p (biW k)) (hk:k=6 ∨ k=7 ∨ k=8):kQ ws sgM 6 (rp p pa)=k:=by
 unfold kQ
 rcases hk with rfl |rfl |rfl
 ·have e:ixR ws sgM (rp p pa) 3=0:=by
   simp only[ixR];rw[if_neg (by rw[bK h];decide),if_neg (by rw[bK h];decide),if_pos (by rw[bK h];decide)];rfl
  rw[show sgM.len=3 from rfl,e];rfl
 ·have e:ixR ws sgM (rp p pa) 3=1:=by
   simp only[ixR];rw[if_neg (by rw[bK h];decide),if_pos (by rw[bK h];decide)];rfl
  rw[show sgM.len=3 from rfl,e];rfl
 ·have e:ixR ws sgM (rp p pa) 3=2:=by
   simp only[ixR];rw[if_pos (by rw[bK h];decide)];rfl
  rw[show sgM.len=3 from rfl,e];rfl
theorem Bj {ws:D} {p:Nat} {pa:Int} {k:Int} (h:TkA ws p (biW k)) (hk:k=4 ∨ k=5):kQ ws sgA 4 (rp p pa)=k:=by
 unfold kQ
 rcases hk with rfl |rfl
 ·have e:ixR ws sgA (rp p pa) 2=0:=by
   simp only[ixR];rw[if_neg (by rw[bK h];decide),if_pos (by rw[bK h];decide)];rfl
  rw[show sgA.len=2 from rfl,e];rfl
 ·have e:ixR ws sgA (rp p pa) 2=1:=by
   simp only[ixR];rw[if_pos (by rw[bK h];decide)];rfl
  rw[show sgA.len=2 from rfl,e];rfl
theorem Bk {ws:D} {p:Nat} {k:Int} (h:TkA ws p (biW k)) (hk:k=4 ∨ k=5):noX ws p dV:=jJ h (by rcases hk with rfl |rfl<;>decide)
structure ExRd (ws:D) (en:Int) (k n:Int) (s:ByteArray) (d:D):Prop where
 fac:∀ (m:Nat) (dp:Int) (p:Nat) (pa:Int),biB k=false->xN k d dp=true->25<=(m:Int)+dp->p<=ws.len->At ws p (xW k n s d)->wfR m en ws dp (rp p pa)=(xC k n s d,rp (p+(xW k n s d).length) pa)
 pro:∀ (m:Nat) (dp:Int) (p:Nat) (pa:Int),suB k=false->xN k d dp=true->25<=(m:Int)+dp->p<=ws.len->At ws p (xW k n s d)->cQA (wfR m en ws dp) (kQ ws sgM 6) ws (rp p pa)=cQL (wfR m en ws dp) (kQ ws sgM 6) (left ws (rp (p+(xW k n s d).length) pa)) (xC k n s d) (rp (p+(xW k n s d).length) pa)
 sum:∀ (m:Nat) (dp:Int) (p:Nat) (pa:Int),xN k d dp=true->25<=(m:Int)+dp->p<=ws.len->At ws p (xW k n s d)->noX ws (p+(xW k n s d).length) dV->cQA (wpr (wfR m) en ws dp) (kQ ws sgA 4) ws (rp p pa)=cQL (wpr (wfR m) en ws dp) (kQ ws sgA 4) (left ws (rp (p+(xW k n s d).length) pa)) (xC k n s d) (rp (p+(xW k n s d).length) pa)
theorem iG {k:Int} {d:D} {dp:Int} (h:xN k d dp=true):dp<=24:=by
 unfold xN xNb at h
 by_cases hd:dp>24
 ·rw[if_pos hd] at h;cases h
 ·omega
theorem ExRd.all {ws:D} {en k n:Int} {s:ByteArray} {d:D} (H:ExRd ws en k n s d) {m:Nat} {dp:Int} {p:Nat} {pa:Int} (hN:xN k d dp=true) (hm:25<=(m:Int)+dp) (hp:p<=ws.len) (hA:At ws p (xW k n s d)) (hq:noX ws (p+(xW k n s d).length) dV) (ha:noX ws (p+(xW k n s d).length) fc) :
 wsm (wfR m) en ws dp (rp p pa)=(xC k n s d,rp (p+(xW k n s d).length) pa):=by
 have:=H.sum m dp p pa hN hm hp hA hq;rw[dk (Bh ha)] at this;exact this
theorem ExRd.opd {ws:D} {en k n:Int} {s:ByteArray} {d:D} (H:ExRd ws en k n s d) {b:Bool} (hb:b=false->biB k=false) {m:Nat} {dp:Int} {p:Nat} {pa:Int} (hN:xN k d (dp+inB b)=true) (hm:25<=(m:Int)+dp) (hp:p<=ws.len) (hA:At ws p (par b (xW k n s d))) :
 wfR m en ws dp (rp p pa)=(xC k n s d,rp (p+(par b (xW k n s d)).length) pa):=by
 cases b with
 |false=>exact H.fac m dp p pa (hb rfl) (by simpa [inB] using hN) hm hp hA
 |true=>
  have hN:xN k d (dp+1)=true:=hN;have hA:At ws p (⟨#[40]⟩::(xW k n s d++[⟨#[41]⟩])):=hA;obtain ⟨a1,a2⟩:=hA.cons;obtain ⟨a3,a4⟩:=a2.app;obtain ⟨a5,_⟩:=a4.cons;have hd:=iG hN;have hl:(par true (xW k n s d)).length=1+(xW k n s d).length+1:=by show (_::(_++[_])).length=_;simp;omega
  cases m with
  |zero=>exfalso;simp at hm;omega
  |succ m=>
   have hs:wsm (wfR m) en ws (dp+1) (rp (p+1) pa)=(xC k n s d,rp (p+1+(xW k n s d).length) pa):=
    H.all hN (by omega) a1.lt a3 (jJ a5 (by simp [dV])) (jJ a5 (by simp [fc]))
   show rfB (wfR m) en ws dp (rp p pa)=_;unfold rfB;rw[if_pos (.inr (by rw[bK a1];decide)),if_neg (by omega),if_neg (by rw[bK a1];decide),em,hs,hl];show (_,muR ws en clB (rp _ pa))=_;rw[jI (w:=clB) a5 (by decide)];simp only[Nat.add_assoc]
theorem lq (n:Int) (s:ByteArray) {d:D} (h:0<d.len):xW 3 n s d=⟨#[45]⟩::par (biB (d.el 0 0).toI) (xW (d.el 0 0).toI (d.el 0 1).toI (d.el 0 2).toS (d.el 0 3)):=by
 rw[<- tz h];rfl
theorem iH {k:Int} (n:Int) (s:ByteArray) {d:D} (hb:biB k=true) (h:1<d.len):xW k n s d=par (brB k 0 (d.el 0 0).toI) (xW (d.el 0 0).toI (d.el 0 1).toI (d.el 0 2).toS (d.el 0 3))++(biW k::par (brB k 1 (d.el 1 0).toI) (xW (d.el 1 0).toI (d.el 1 1).toI (d.el 1 2).toS (d.el 1 3))):=by
 have hk:=ei hb;rw[<- tz (show 0<d.len by omega),<- tz h];unfold xW xWb;rw[if_neg (by omega),if_neg (by omega),if_neg (by omega),if_pos hb]
theorem tJ (n:Int) (s:ByteArray) {d:D} (h:0<d.len):xC 3 n s d=⟨3,0,ByteArray.empty,.l [(xC (d.el 0 0).toI (d.el 0 1).toI (d.el 0 2).toS (d.el 0 3)).row]⟩:=by
 rw[<- tI h];rfl
theorem qd {k:Int} (n:Int) (s:ByteArray) {d:D} (hb:biB k=true) (h:1<d.len):xC k n s d=X2 k (xC (d.el 0 0).toI (d.el 0 1).toI (d.el 0 2).toS (d.el 0 3)) (xC (d.el 1 0).toI (d.el 1 1).toI (d.el 1 2).toS (d.el 1 3)):=by
 have hk:=ei hb;rw[<- tI (show 0<d.len by omega),<- tI h];unfold xC xCb;rw[if_neg (by omega),if_neg (by omega),if_neg (by omega)]
theorem JA {d:D} (h:0<d.len) {dp:Int} (hN:xN 3 d dp=true):xN (d.el 0 0).toI (d.el 0 3) (dp+1+inB (biB (d.el 0 0).toI))=true:=by
 have hd:=iG hN;rw[<- lj h];unfold xN xNb at hN;rw[if_neg (by omega),if_pos rfl] at hN;exact hN
theorem Bl {k:Int} {d:D} (hb:biB k=true) (h:1<d.len) {dp:Int} (hN:xN k d dp=true):xN (d.el 0 0).toI (d.el 0 3) (dp+inB (brB k 0 (d.el 0 0).toI))=true/\xN (d.el 1 0).toI (d.el 1 3) (dp+inB (brB k 1 (d.el 1 0).toI))=true:=by
 have hk:=ei hb;have hd:=iG hN;rw[<- lj (show 0<d.len by omega),<- lj h];unfold xN xNb at hN;rw[if_neg (by omega),if_neg (by omega),if_pos hb] at hN;simp only[Bool.and_eq_true] at hN;exact hN
theorem nv {ws:D} {en k n:Int} {s:ByteArray} {d:D} {m:Nat} {dp:Int} {p q:Nat} {pa:Int} (h:wfR m en ws dp (rp p pa)=(xC k n s d,rp q pa)) :
 cQA (wfR m en ws dp) (kQ ws sgM 6) ws (rp p pa)=cQL (wfR m en ws dp) (kQ ws sgM 6) (left ws (rp q pa)) (xC k n s d) (rp q pa):=by
 unfold cQA;rw[h]
theorem qe {ws:D} {en k n:Int} {s:ByteArray} {d:D} {m:Nat} {dp:Int} {p q:Nat} {pa:Int} (h:cQA (wfR m en ws dp) (kQ ws sgM 6) ws (rp p pa)=cQL (wfR m en ws dp) (kQ ws sgM 6) (left ws (rp q pa)) (xC k n s d) (rp q pa)) (hq:noX ws q dV) :
 wpr (wfR m) en ws dp (rp p pa)=(xC k n s d,rp q pa)/\cQA (wpr (wfR m) en ws dp) (kQ ws sgA 4) ws (rp p pa)=cQL (wpr (wfR m) en ws dp) (kQ ws sgA 4) (left ws (rp q pa)) (xC k n s d) (rp q pa):=by
 rw[dk (Bg hq)] at h;have h:wpr (wfR m) en ws dp (rp p pa)=(xC k n s d,rp q pa):=h;exact ⟨h,by unfold cQA;rw[h]⟩
theorem ExRd.of_fac {ws:D} {en k n:Int} {s:ByteArray} {d:D} (hb:biB k=false) (H:∀ (m:Nat) (dp:Int) (p:Nat) (pa:Int),xN k d dp=true->25<=(m:Int)+dp->p<=ws.len->At ws p (xW k n s d)->wfR m en ws dp (rp p pa)=(xC k n s d,rp (p+(xW k n s d).length) pa)):ExRd ws en k n s d:=
 ⟨fun m dp p pa _ hN hm hp hA=>H m dp p pa hN hm hp hA,fun m dp p pa _ hN hm hp hA=>nv (H m dp p pa hN hm hp hA),fun m dp p pa hN hm hp hA hq=>(qe (nv (H m dp p pa hN hm hp hA)) hq).2⟩
theorem tK {ws:D} (hw:ws.len<=1000000) (en:Int) {k n:Int} {s:ByteArray} {d:D} (h:aX k n s d=true):ExRd ws en k n s d:=by
 refine ns (P:=ExRd ws en) ?_ ?_ ?_ ?_ h
 ·intro n s d hn;refine .of_fac (by decide) fun m dp p pa hN hm hp hA=>?_
  obtain ⟨a,_⟩:=At.cons (show At ws p [itW n] from hA);obtain ⟨k1,k2⟩:=Jy hn;have hd:=iG hN
  cases m with
  |zero=>exfalso;simp at hm;omega
  |succ m=>
   show rfB (wfR m) en ws dp (rp p pa)=_;unfold rfB;rw[if_neg (by rw[bK a,bK a,k1];simp),if_pos (by rw[jH a,k1];rfl),Jv a k1,k2,nr a k1];rfl
 ·intro n s d hn;refine .of_fac (by decide) fun m dp p pa hN hm hp hA=>?_
  obtain ⟨a,_⟩:=At.cons (show At ws p [s] from hA);have k1:=Jw hn;have hd:=iG hN
  cases m with
  |zero=>exfalso;simp at hm;omega
  |succ m=>
   show rfB (wfR m) en ws dp (rp p pa)=_;unfold rfB;rw[if_neg (by rw[bK a,bK a,k1];simp),if_neg (by rw[jH a,k1];decide),tF a k1,nr a k1];rfl
 ·intro n s d hl1 ih;have hl:0<d.len:=by omega
  refine .of_fac (by decide) fun m dp p pa hN hm hp hA=>?_
  have hd:=iG hN;have hK:=JA hl hN;rw[lq n s hl] at hA ⊢;rw[tJ n s hl];obtain ⟨a1,a2⟩:=hA.cons
  cases m with
  |zero=>exfalso;simp at hm;omega
  |succ m=>
   have hd2:¬ 24<=dp:=by
    have:=iG hK;have:0<=inB (biB (d.el 0 0).toI):=by unfold inB;split<;>decide
    omega
   have hs:=ih.opd (b:=biB (d.el 0 0).toI) (fun hx=>hx) (m:=m) (dp:=dp+1) (p:=p+1) (pa:=pa) hK (by omega) a1.lt a2;show rfB (wfR m) en ws dp (rp p pa)=_;unfold rfB;rw[if_pos (.inl (by rw[bK a1];decide)),if_neg hd2,if_pos (by rw[bK a1];decide),em,hs];simp only[List.length_cons,Nat.add_assoc,Nat.add_comm 1]
 ·intro k n s d hb hl2 ih0 ih1;have hl:1<d.len:=by omega
  have hk:=ei hb
  by_cases hsu:suB k=true
  ·have hk:k=4 ∨ k=5:=by unfold suB at hsu;simpa using hsu
   have b0:brB k 0 (d.el 0 0).toI=false:=by unfold brB;rw[if_neg (by omega),if_pos hk];rfl
   have b1:brB k 1 (d.el 1 0).toI=suB (d.el 1 0).toI:=by unfold brB;rw[if_neg (by omega),if_pos hk];simp
   refine ⟨fun _ _ _ _ hx=>(by rw[hb] at hx;cases hx),fun _ _ _ _ hx=>(by rw[hsu] at hx;cases hx),fun m dp p pa hN hm hp hA hq=>?_⟩;obtain ⟨n0,n1⟩:=Bl hb hl hN;rw[iH n s hb hl] at hA hq ⊢;rw[qd n s hb hl];rw[b0] at n0 hA hq ⊢;rw[b1] at n1 hA hq ⊢;rw[show ∀ l,par false l=l from fun _=>rfl] at hA hq ⊢;simp only[inB,Bool.false_eq_true,if_false,Int.add_zero] at n0;obtain ⟨a1,a2⟩:=hA.app;obtain ⟨a3,a4⟩:=a2.cons;have hp1:=a3.lt;have h0:=ih0.sum m dp p pa n0 hm hp a1 (Bk a3 hk);generalize hL0:(xW (d.el 0 0).toI (d.el 0 1).toI (d.el 0 2).toS (d.el 0 3)).length=L0 at *;rw[List.length_append,List.length_cons,hL0] at hq ⊢;have el:p+(L0+((par (suB (d.el 1 0).toI) (xW (d.el 1 0).toI (d.el 1 1).toI (d.el 1 2).toS (d.el 1 3))).length+1))=p+L0+1+(par (suB (d.el 1 0).toI) (xW (d.el 1 0).toI (d.el 1 1).toI (d.el 1 2).toS (d.el 1 3))).length:=by omega
   rw[el] at hq ⊢;have hr:wpr (wfR m) en ws dp (rp (p+L0+1) pa)=(xC (d.el 1 0).toI (d.el 1 1).toI (d.el 1 2).toS (d.el 1 3),rp (p+L0+1+(par (suB (d.el 1 0).toI) (xW (d.el 1 0).toI (d.el 1 1).toI (d.el 1 2).toS (d.el 1 3))).length) pa):=by
    cases hs1:suB (d.el 1 0).toI with
    |true=>
     rw[hs1] at n1 a4 hq;exact (qe (nv (ih1.opd (b:=true) (fun hx=>by cases hx) n1 hm hp1 a4)) hq).1
    |false=>
     rw[hs1] at n1 a4 hq;exact (qe (ih1.pro m dp (p+L0+1) pa hs1 (by simpa [inB] using n1) hm hp1 a4) hq).1
   have hK:=Bj (pa:=pa) a3 hk;have st:=jE (P:=wpr (wfR m) en ws dp) (K:=kQ ws sgA 4) (pL (gi m) en ws dp) fF (r:=rp (p+L0) pa) (xC (d.el 0 0).toI (d.el 0 1).toI (d.el 0 2).toS (d.el 0 3)) (iF (by omega) hw) (by rw[hK];omega);rw[h0,<- st,em,hr,hK]
  ·have hsu:suB k=false:=by simpa using hsu
   have hk:k=6 ∨ k=7 ∨ k=8:=by
    unfold suB at hsu;simp only[Bool.or_eq_false_iff,beq_eq_false_iff_ne] at hsu;omega
   have b0:brB k 0 (d.el 0 0).toI=suB (d.el 0 0).toI:=by unfold brB;rw[if_neg (by omega),if_neg (by omega),if_pos hk];simp
   have b1:brB k 1 (d.el 1 0).toI=(suB (d.el 1 0).toI ||biB (d.el 1 0).toI):=by unfold brB;rw[if_neg (by omega),if_neg (by omega),if_pos hk];simp
   have H:∀ (m:Nat) (dp:Int) (p:Nat) (pa:Int),xN k d dp=true->25<=(m:Int)+dp->p<=ws.len->At ws p (xW k n s d)->cQA (wfR m en ws dp) (kQ ws sgM 6) ws (rp p pa)=cQL (wfR m en ws dp) (kQ ws sgM 6) (left ws (rp (p+(xW k n s d).length) pa)) (xC k n s d) (rp (p+(xW k n s d).length) pa):=by
    intro m dp p pa hN hm hp hA;obtain ⟨n0,n1⟩:=Bl hb hl hN;rw[iH n s hb hl] at hA ⊢;rw[qd n s hb hl];rw[b0] at n0 hA ⊢;rw[b1] at n1 hA ⊢;obtain ⟨a1,a2⟩:=hA.app;obtain ⟨a3,a4⟩:=a2.cons;have hp1:=a3.lt;have h0:cQA (wfR m en ws dp) (kQ ws sgM 6) ws (rp p pa)=cQL (wfR m en ws dp) (kQ ws sgM 6) (left ws (rp (p+(par (suB (d.el 0 0).toI) (xW (d.el 0 0).toI (d.el 0 1).toI (d.el 0 2).toS (d.el 0 3))).length) pa)) (xC (d.el 0 0).toI (d.el 0 1).toI (d.el 0 2).toS (d.el 0 3)) (rp (p+(par (suB (d.el 0 0).toI) (xW (d.el 0 0).toI (d.el 0 1).toI (d.el 0 2).toS (d.el 0 3))).length) pa):=by
     cases hs0:suB (d.el 0 0).toI with
     |true=>
      rw[hs0] at n0 a1;exact nv (ih0.opd (b:=true) (fun hx=>by cases hx) n0 hm hp a1)
     |false=>
      rw[hs0] at n0 a1;exact ih0.pro m dp p pa hs0 (by simpa [inB] using n0) hm hp a1
    generalize hL0:(par (suB (d.el 0 0).toI) (xW (d.el 0 0).toI (d.el 0 1).toI (d.el 0 2).toS (d.el 0 3))).length=L0 at *;rw[List.length_append,List.length_cons,hL0];have el:p+(L0+((par (suB (d.el 1 0).toI ||biB (d.el 1 0).toI) (xW (d.el 1 0).toI (d.el 1 1).toI (d.el 1 2).toS (d.el 1 3))).length+1))=p+L0+1+(par (suB (d.el 1 0).toI ||biB (d.el 1 0).toI) (xW (d.el 1 0).toI (d.el 1 1).toI (d.el 1 2).toS (d.el 1 3))).length:=by omega
    rw[el];have hr:=ih1.opd (b:=suB (d.el 1 0).toI ||biB (d.el 1 0).toI) (fun hx=>(Bool.or_eq_false_iff.1 hx).2) (pa:=pa) n1 hm hp1 a4;have hK:=Bi (pa:=pa) a3 hk;have st:=jE (P:=wfR m en ws dp) (K:=kQ ws sgM 6) (gi m en ws dp) fF (r:=rp (p+L0) pa) (xC (d.el 0 0).toI (d.el 0 1).toI (d.el 0 2).toS (d.el 0 3)) (iF (by omega) hw) (by rw[hK];omega);rw[h0,<- st,em,hr,hK]
   exact ⟨fun _ _ _ _ hx=>(by rw[hb] at hx;cases hx),fun m dp p pa _=>H m dp p pa,fun m dp p pa hN hm hp hA hq=>(qe (H m dp p pa hN hm hp hA) hq).2⟩
def cC (op lk ln:Int) (ls:ByteArray) (ld:D) (rk rn:Int) (rs:ByteArray) (rd:D):Cd:=⟨op,xC lk ln ls ld,xC rk rn rs rd⟩
theorem Bm {ws:D} {p:Nat} (h:TkA ws p seB):noX ws p dV/\noX ws p fc:=⟨jJ h (by decide),jJ h (by decide)⟩
def cD (g:Nat->List D) (n:Nat):List (List D):=(List.range n).map g
theorem At.nth {ws:D} {p:Nat} {f:Nat->List ByteArray} {n:Nat} (h:At ws p (ae n f)) {i:Nat} (hi:i<n):At ws (p+(ae i f).length) (f i):=by
 induction n with
 |zero=>omega
 |succ n ih=>
  rw[ej] at h;obtain ⟨a,b⟩:=h.app
  by_cases e:i=n
  ·rw[e];exact b
  ·exact ih a (by omega)
theorem gj (f:Nat->List ByteArray) {i n:Nat} (h:i<=n):(ae i f).length<=(ae n f).length:=by
 induction n with
 |zero=>rw[show i=0 by omega];exact Nat.le_refl _
 |succ n ih=>
  by_cases e:i=n+1
  ·rw[e];exact Nat.le_refl _
  ·have:=ih (by omega);rw[ej,List.length_append];omega
theorem At.next {ws:D} {p:Nat} {f:Nat->List ByteArray} {n:Nat} (h:At ws p (ae n f)) {Q:ByteArray->Prop} (hf:∀ i,i<n->∃ w l,f i=w::l/\Q w) {e:ByteArray} (he:TkA ws (p+(ae n f).length) e) (hq:Q e) {i:Nat} (hi:i<=n):∃ w,TkA ws (p+(ae i f).length) w/\Q w:=by
 by_cases e:i=n
 ·rw[e];exact ⟨_,he,hq⟩
 ·obtain ⟨w,l,e1,e2⟩:=hf i (by omega);have:=h.nth (show i<n by omega);rw[e1] at this;exact ⟨w,this.cons.1,e2⟩
def tL (k:Int) (nm tg:ByteArray) (e:Xp) (c:Cd) (b el ar:D):St:=
 if k=1 then ⟨1,nm,ByteArray.empty,e,C00,.l [],.l [],.l []⟩ else if k=2 then ⟨2,ByteArray.empty,ByteArray.empty,X00,c,b,el,.l []⟩ else if k=3 then ⟨3,ByteArray.empty,ByteArray.empty,X00,c,b,.l [],.l []⟩ else if k=4 then ⟨4,nm,tg,e,C00,.l [],.l [],.l []⟩ else if k=5 then ⟨5,nm,ByteArray.empty,X00,C00,.l [],.l [],ar⟩ else if k=6 then ⟨6,ByteArray.empty,ByteArray.empty,X00,c,.l [],.l [],.l []⟩ else ⟨7,nm,ByteArray.empty,X00,C00,.l [],.l [],.l []⟩
def bC (d:D):D:=.l ((List.finRange d.len).map fun (i:Fin d.len)=>(tL (d.el i 0).toI (d.el i 1).toS (d.el i 2).toS (xC (d.el i 3).toI (d.el i 4).toI (d.el i 5).toS (d.el i 6)) (cC (d.el i 7).toI (d.el i 8).toI (d.el i 9).toI (d.el i 10).toS (d.el i 11) (d.el i 12).toI (d.el i 13).toI (d.el i 14).toS (d.el i 15)) (bC (d.el i 16)) (bC (d.el i 17))
    (.l ((List.finRange (d.el i 18).len).map fun (j:Fin (d.el i 18).len)=>Am.row ⟨((d.el i 18).el j 0).toS,((d.el i 18).el j 1).toS,bC ((d.el i 18).el j 2)⟩))).row)
 termination_by SizeOf.sizeOf d
 decreasing_by
  ·exact ap i.isLt
  ·exact ap i.isLt
  ·exact Nat.lt_trans (ap j.isLt) (ap i.isLt)
def arC (am:D) (j:Nat):List D:=Am.row ⟨(am.el j 0).toS,(am.el j 1).toS,bC (am.el j 2)⟩
def stC (k:Int) (nm tg:ByteArray) (ek en:Int) (es:ByteArray) (ed:D) (op lk ln:Int) (ls:ByteArray) (ld:D) (rk rn:Int) (rs:ByteArray) (rd bd eb am:D):St:=
 tL k nm tg (xC ek en es ed) (cC op lk ln ls ld rk rn rs rd) (bC bd) (bC eb) (.l (cD (arC am) am.len))
def ny (d:D) (i:Nat):List D:=(stC (d.el i 0).toI (d.el i 1).toS (d.el i 2).toS (d.el i 3).toI (d.el i 4).toI (d.el i 5).toS (d.el i 6) (d.el i 7).toI (d.el i 8).toI (d.el i 9).toI (d.el i 10).toS (d.el i 11) (d.el i 12).toI (d.el i 13).toI (d.el i 14).toS (d.el i 15) (d.el i 16) (d.el i 17) (d.el i 18)).row
theorem Bn {n:Nat} (g:Nat->List D):((List.finRange n).map fun i=>g i.1)=cD g n:=by
 unfold cD
 apply List.ext_getElem
 ·simp
 ·intro i h1 h2
  simp
theorem Bo (d:D):bC d = .l (cD (ny d) d.len):=by
 rw[bC,<- Bn]
 congr 2
 funext i
 unfold ny stC;rw[<- Bn];rfl
def sHd (w:ByteArray):Prop:=kOf w=1 ∨ w=kwF ∨ w=kwW ∨ w=kwS ∨ w=kwR ∨ w=kwA ∨ w=kwI
theorem JB {ws:D} {p:Nat} {w:ByteArray} (h:TkA ws p w) (hq:sHd w) (pa:Int):wtG ws (rp p pa)=true:=by
 unfold wtG;simp only[bK h,jH h]
 rcases hq with hq |rfl |rfl |rfl |rfl |rfl |rfl
 ·rw[hq];simp
 all_goals decide
theorem JC {ws:D} {p:Nat} (h:TkA ws p cbB) (pa:Int):wtG ws (rp p pa)=false:=by
 unfold wtG;simp only[bK h,jH h]
 decide
theorem Bp {k:Int} {nm tg:ByteArray} {e c b el a:Bool} {al:Int} (h:bz k nm tg e c b el al a=true):k=1 ∨ k=2 ∨ k=3 ∨ k=4 ∨ k=5 ∨ k=6 ∨ k=7:=by
 unfold bz at h
 by_cases h1:k=1;· exact .inl h1
 by_cases h2:k=2;· exact .inr (.inl h2)
 by_cases h3:k=3;· exact .inr (.inr (.inl h3))
 by_cases h4:k=4;· exact .inr (.inr (.inr (.inl h4)))
 by_cases h5:k=5;· exact .inr (.inr (.inr (.inr (.inl h5))))
 by_cases h6:k=6;· exact .inr (.inr (.inr (.inr (.inr (.inl h6)))))
 by_cases h7:k=7;· exact .inr (.inr (.inr (.inr (.inr (.inr h7)))))
 rw[if_neg h1,if_neg h2,if_neg h3,if_neg h4,if_neg h5,if_neg h6,if_neg h7] at h
 cases h
def nmC (d:D) (i:Nat):List D:=[.s (d.el i 0).toS]
def nsC (d:D):D:=.l (cD (nmC d) d.len)
def JD (nm:ByteArray) (k n:Int) (f t:ByteArray) (tg:D):Ch:=⟨nm,k,n,f,t,nsC tg⟩
theorem iI {ws:D} {p:Nat} {pa:Int} {w:ByteArray} (h:TkA ws p w) (t:ByteArray):wkG t ws (rp p pa)=(w.data.toList==t.data.toList&&decide (kOf w>=3)):=bK h t
def mvC (mv:D) (i:Nat):List D:=[.i (mv.el i 0).toI,.s (mv.el i 1).toS,.i (mv.el i 2).toI]
def JE (nm:ByteArray) (mv:D):Ru:=⟨nm,.l (cD (mvC mv) mv.len)⟩
def JF (nm:ByteArray) (vs bd:D):Po:=⟨nm,nsC vs,bC bd⟩
def JG (d:D) (i:Nat):List D:=(JD (d.el i 0).toS (d.el i 1).toI (d.el i 2).toI (d.el i 3).toS (d.el i 4).toS (d.el i 5)).row
def JH (d:D) (i:Nat):List D:=(JE (d.el i 0).toS (d.el i 1)).row
def JI (d:D) (i:Nat):List D:=(JF (d.el i 0).toS (d.el i 1) (d.el i 2)).row
def Bq (d:D):D:=.l (cD (JG d) d.len)
def Br (d:D):D:=.l (cD (JH d) d.len)
def tM (d:D):D:=.l (cD (JI d) d.len)
def Bd (r t:List UInt8):Prop:=t=[] ∨ (if aU (r.headD 0)=true then aU (t.headD 0)=false else t.headD 0≠61)
theorem tN {b:UInt8} (h:aU b=false):ay b=false/\bG b=false:=by
 unfold aU at h;simp only[Bool.or_eq_false_iff] at h;exact ⟨h.2,h.1⟩
theorem JJ {r t:List UInt8} {n:Nat} (hn:n<=r.length) (ht:t=[] ∨ aU (t.headD 0)=false):bG ((r++t).getD n 0)=bG (r.getD n 0):=by
 rw[List.getD_eq_getElem?_getD,List.getD_eq_getElem?_getD]
 rcases Nat.lt_or_ge n r.length with hlt |hge
 ·rw[List.getElem?_append_left hlt]
 ·rw[List.getElem?_append_right hge,List.getElem?_eq_none hge,show n-r.length=0 from by omega]
  rcases ht with rfl |h
  ·rfl
  ·match t,h with
   | [],_=>rfl
   |b::t,h=>
    show bG b=bG 0;rw[show bG b=false from (tN h).2];decide
theorem JK {r t:List UInt8} (h0:0<r.length) (h:Bd r t):bb (r++t)=bb r:=by
 unfold bb;rw[mb h0]
 by_cases ha:aU (r.headD 0)=true
 ·have ht:t=[] ∨ aU (t.headD 0)=false:=by
   rcases h with h |h
   ·exact .inl h
   ·rw[if_pos ha] at h;exact .inr h
  have hA:=wO aU t ht r;have hD:=wO ay t (by rcases ht with h |h;exact .inl h;exact .inr (tN h).1) r
  by_cases hl:bG (r.headD 0)=true
  ·rw[if_pos hl,if_pos hl];unfold cQ;rw[hA,List.take_append_of_le_length (fj _ _)]
  ·rw[if_neg hl,if_neg hl];have hd:ay (r.headD 0)=true:=by
    unfold aU at ha;simp only[Bool.or_eq_true] at ha;exact ha.resolve_left hl
   rw[if_pos hd,if_pos hd];unfold cq;rw[hD,mb h0,JJ (fj _ _) ht,List.take_append_of_le_length (fj _ _)]
 ·have hf:aU (r.headD 0)=false:=by simpa using ha
  obtain ⟨hd,hl⟩:=tN hf;rw[hd,hl];simp only[Bool.false_eq_true,if_false];unfold dY cP;have he:hZ (r++t)=hZ r:=by
   match r,h0 with
   |a::b::r,_=>rfl
   | [a],_=>
     rcases h with rfl |h
     ·rfl
     ·rw[if_neg ha] at h
      match t,h with
      | [],_=>rfl
      |b::t,h=>
       show (b==61)=false;exact beq_false_of_ne h
  rw[mb h0,he]
structure wOk (w:ByteArray):Prop where
 pos:0<w.data.toList.length
 gap:cy (w.data.toList.headD 0)=false
 wrd:bb w.data.toList = .ok (kOf w,w.data.toList.length,nOf w)
 len:w.data.toList.length<=30
def jn:List (ByteArray × List UInt8)->List UInt8
 | []=>[]
 |x::l=>x.1.data.toList++(x.2++jn l)
def fit:List (ByteArray × List UInt8)->Prop
 | []=>True
 |x::l=>wOk x.1/\(∀ b∈x.2,cy b=true)/\Bd x.1.data.toList (x.2++jn l)/\fit l
theorem Bs:∀ (g r:List UInt8) (p:Nat) (acc:List Tok),(∀ b∈g,cy b=true)->eJ (g++r) p acc=eJ r (p+g.length) acc
 | [],r,p,acc,_=>rfl
 |b::g,r,p,acc,h=>by
  rw[List.cons_append,Gk (by simp) (show cy ((b::(g++r)).headD 0)=true from h b (List.mem_cons_self ..)),List.drop_one,List.tail_cons,Bs g r (p+1) acc (fun c hc=>h c (List.mem_cons_of_mem _ hc)),List.length_cons]
  congr 1;omega
structure Tks (ts:List Tok) (l:List ByteArray):Prop where
 tx:ts.map Tok.text=l
 kd:∀ t∈ts,t.kind=kOf t.text/\t.num=nOf t.text
theorem Bt:∀ (l:List (ByteArray × List UInt8)) (p:Nat) (acc:List Tok),fit l->∃ ts,eJ (jn l) p acc = .ok (acc++ts)/\Tks ts (l.map Prod.fst)
 | [],p,acc,_=>⟨[],by rw[List.append_nil];rfl,rfl,fun _ h=>by cases h⟩
 |x::l,p,acc,h=>by
  obtain ⟨h1,h2,h3,h4⟩:=h;have e:bb (x.1.data.toList++(x.2++jn l)) = .ok (kOf x.1,x.1.data.toList.length,nOf x.1):=by rw[JK h1.pos h3];exact h1.wrd
  obtain ⟨ts,t1,t2⟩:=Bt l (p+x.1.data.toList.length+x.2.length) (acc++[⟨kOf x.1,x.1,nOf x.1,p⟩]) h4;refine ⟨⟨kOf x.1,x.1,nOf x.1,p⟩::ts,?_,?_,fun t ht=>?_⟩
  ·show eJ (x.1.data.toList++(x.2++jn l)) p acc=_;rw[Gl (by rw[List.length_append];have:=h1.pos;omega) (by rw[mb h1.pos];exact h1.gap) e,List.drop_left',List.take_left',Bs _ _ _ _ h2]
   ·rw[show (ofL x.1.data.toList)=x.1 from rfl,t1,List.append_assoc];rfl
   ·rfl
   ·rfl
  ·rw[List.map_cons,List.map_cons,t2.tx]
  ·rcases List.mem_cons.1 ht with rfl |ht
   ·exact ⟨rfl,rfl⟩
   ·exact t2.kd t ht
theorem JL {s:ByteArray} {l:List (ByteArray × List UInt8)} (hs:s.data.toList=jn l) (hf:fit l) (hl:l.length<=2000):∃ ts,ai s=(ts,0,0)/\Tks ts (l.map Prod.fst):=by
 obtain ⟨ts,t1,t2⟩:=Bt l 0 [] hf;rw[List.nil_append] at t1;refine ⟨ts,?_,t2⟩;have hn:ts.length=l.length:=by
  have:=congrArg List.length t2.tx
  simpa using this
 rw[Gp,hs];unfold Go.Proofs.YtbhbjhejkamlnaaGreat.lexF;rw[t1];show (if 2000<ts.length then _ else _)=_;rw[if_neg (by omega)]
theorem Tks.at {ts:List Tok} {l:List ByteArray} (h:Tks ts l):At (bh ts) 0 l/\(bh ts).len=l.length:=by
 have hn:ts.length=l.length:=by
  have:=congrArg List.length h.tx
  simpa using this
 refine ⟨fun j hj=>?_,by rw[cV,hn]⟩;have hj2:j<ts.length:=by omega
 have ht:ts[j]? = some ts[j]:=List.getElem?_eq_getElem hj2;have hx:(ts[j]).text=l[j]:=by
  have:=h.tx;subst this
  simp
 obtain ⟨k1,k2⟩:=h.kd ts[j] (List.getElem_mem hj2);rw[Nat.zero_add];refine ⟨by rw[cV];exact hj2,?_,?_,?_⟩
 ·rw[jC ht];exact hx
 ·rw[jC ht,<- hx];exact k1
 ·rw[jC ht,<- hx];exact k2
def alW (l:List ByteArray):Prop:=∀ w∈l,wOk w
theorem alW.nil:alW []:=fun _ h=>by cases h
theorem alW.cons {a:ByteArray} {l:List ByteArray} (h:wOk a) (hl:alW l):alW (a::l):=fun w hw=>by
 rcases List.mem_cons.1 hw with rfl |hw
 ·exact h
 ·exact hl w hw
theorem alW.app {l m:List ByteArray} (h:alW l) (hm:alW m):alW (l++m):=fun w hw=>by
 rcases List.mem_append.1 hw with hw |hw
 ·exact h w hw
 ·exact hm w hw
theorem alW.cat {n:Nat} {f:Nat->List ByteArray} (h:∀ i,i<n->alW (f i)):alW (ae n f):=by
 induction n with
 |zero=>exact .nil
 |succ n ih=>
  rw[ej];exact .app (ih fun i hi=>h i (by omega)) (h n (by omega))
theorem JM {r:List UInt8} {k m:Int} {n:Nat} (h:bb r = .ok (k,n,m)) (_h0:0<r.length):cy (r.headD 0)=false:=by
 cases hg:cy (r.headD 0) with
 |false=>rfl
 |true=>
  exfalso;unfold bb at h
  rcases wN hg with e |e<;>rw[e] at h
  ·rw[if_neg (by decide),if_neg (by decide)] at h;unfold dY cP at h;rw[e,show de ((32:UInt8).toNat:Int) (hZ r)=0 from rfl] at h
   cases h
  ·rw[if_neg (by decide),if_neg (by decide)] at h;unfold dY cP at h;rw[e,show de ((10:UInt8).toNat:Int) (hZ r)=0 from rfl] at h
   cases h
theorem Bu {s:ByteArray} (h:nmB s=true):∃ m,bb s.data.toList = .ok (1,s.data.toList.length,m)/\0<s.data.toList.length:=by
 unfold nmB at h;simp only[Bool.and_eq_true,beq_iff_eq] at h;obtain ⟨_,⟨⟨h1,h2⟩,h3⟩,h4⟩:=h;have h2:((ai s).1.length:Int)=1:=by rw[cV] at h2;exact h2
 obtain ⟨t,ht⟩:∃ t,(ai s).1=[t]:=List.length_eq_one_iff.1 (by omega);rw[ht] at h3 h4;have h3:t.kind=1:=h3;have h4:t.text.toList=s.toList:=h4;have h4:t.text=s:=by
  rw[ByteArray.toList_eq,ByteArray.toList_eq] at h4;exact ByteArray.ext (Array.toList_inj.1 h4)
 cases hg:bI s s.size 0 [] with
 |error x=>
  obtain ⟨p,e⟩:=x;rw[gK hg rfl] at ht
  cases ht
 |ok acc=>
  by_cases hl:2000<acc.length
  ·rw[mT hg rfl hl] at ht
   cases ht
  ·rw[mU hg rfl (by omega)] at ht;have ht:acc=[t]:=ht;have h0:0<s.size:=by
    rcases Nat.eq_zero_or_pos s.size with hz |hz
    ·rw[hz] at hg;have:acc=[]:=by cases hg;rfl
     rw[this] at ht;cases ht
    ·exact hz
   obtain ⟨q,q1,q2⟩:=tG s s.size 0 [] acc (Nat.zero_le _) (fun _ h=>by cases h) hg t (by rw[ht];exact List.mem_singleton.2 rfl);rw[h4] at q1;have q0:q=0:=by omega
   rw[q0,List.drop_zero,h3,h4] at q2;exact ⟨t.num,q2,h0⟩
theorem tO {w:ByteArray} {k m:Int} (h:bb w.data.toList = .ok (k,w.data.toList.length,m)) (h0:0<w.data.toList.length) (hl:w.data.toList.length<=30):wOk w:=by
 obtain ⟨e1,e2⟩:=tE h;exact ⟨h0,JM h h0,(by rw[e1,e2];exact h),hl⟩
theorem dB {s:ByteArray} (h:nmB s=true):wOk s:=by
 obtain ⟨m,h1,h2⟩:=Bu h;refine tO h1 h2 ?_
 unfold nmB at h;simp only[Bool.and_eq_true,Bool.not_eq_true',decide_eq_false_iff_not] at h;have:=h.1;have e:s.data.toList.length=s.size:=rfl;omega
theorem qf {n:Int} (h:nuB n=true):wOk (itW n):=by
 have hx:=tH h;refine tO hx.1 hx.2 ?_
 unfold nuB at h;simp only[Bool.and_eq_true,decide_eq_true_eq] at h;have:(itW n).size<=21:=Lib.itoa_length_le n (by omega) (by omega);have e:(itW n).data.toList.length=(itW n).size:=rfl;omega
theorem li {w:ByteArray} {k m:Int} (h:bb w.data.toList = .ok (k,w.data.toList.length,m)) (h0:0<w.data.toList.length) (hl:w.data.toList.length<=30:=by decide):wOk w:=tO h h0 hl
theorem JN:wOk ⟨#[45]⟩:=li (k:=3) (m:=0) rfl (by decide)
theorem lr:wOk ⟨#[40]⟩:=li (k:=3) (m:=0) rfl (by decide)
theorem lu:wOk ⟨#[41]⟩:=li (k:=3) (m:=0) rfl (by decide)
theorem lw:wOk ⟨#[123]⟩:=li (k:=3) (m:=0) rfl (by decide)
theorem lx:wOk ⟨#[125]⟩:=li (k:=3) (m:=0) rfl (by decide)
theorem iJ:wOk ⟨#[59]⟩:=li (k:=3) (m:=0) rfl (by decide)
theorem Bv:wOk ⟨#[61]⟩:=li (k:=3) (m:=0) rfl (by decide)
theorem JO:wOk ⟨#[46]⟩:=li (k:=3) (m:=0) rfl (by decide)
theorem JP:wOk ⟨#[44]⟩:=li (k:=3) (m:=0) rfl (by decide)
theorem JQ (k:Int):wOk (biW k):=by
 unfold biW;split
 ·exact li (k:=3) (m:=0) rfl (by decide)
 ·split
  ·exact li (k:=3) (m:=0) rfl (by decide)
  ·split
   ·exact li (k:=3) (m:=0) rfl (by decide)
   ·split
    ·exact li (k:=3) (m:=0) rfl (by decide)
    ·exact li (k:=3) (m:=0) rfl (by decide)
theorem JR (k:Int):wOk (cmW k):=by
 unfold cmW;split
 ·exact li (k:=3) (m:=0) rfl (by decide)
 ·split
  ·exact li (k:=3) (m:=0) rfl (by decide)
  ·split
   ·exact li (k:=3) (m:=0) rfl (by decide)
   ·split
    ·exact li (k:=3) (m:=0) rfl (by decide)
    ·split
     ·exact li (k:=3) (m:=0) rfl (by decide)
     ·exact li (k:=3) (m:=0) rfl (by decide)
theorem JS (k:Int):wOk (chW k):=by
 unfold chW;split
 ·exact li (k:=4) (m:=0) rfl (by decide)
 ·split
  ·exact li (k:=4) (m:=0) rfl (by decide)
  ·exact li (k:=4) (m:=0) rfl (by decide)
theorem JT:wOk ⟨#[105,102]⟩:=li (k:=4) (m:=0) rfl (by decide)
theorem JU:wOk ⟨#[101,108,115,101]⟩:=li (k:=4) (m:=0) rfl (by decide)
theorem JV:wOk ⟨#[119,104,105,108,101]⟩:=li (k:=4) (m:=0) rfl (by decide)
theorem JW:wOk ⟨#[115,101,110,100]⟩:=li (k:=4) (m:=0) rfl (by decide)
theorem JX:wOk ⟨#[114,101,99,118]⟩:=li (k:=4) (m:=0) rfl (by decide)
theorem JY:wOk ⟨#[97,115,115,101,114,116]⟩:=li (k:=4) (m:=0) rfl (by decide)
theorem JZ:wOk ⟨#[105,110,112,117,116]⟩:=li (k:=4) (m:=0) rfl (by decide)
theorem J0:wOk ⟨#[99,104,97,110]⟩:=li (k:=4) (m:=0) rfl (by decide)
theorem J1:wOk ⟨#[102,114,111,109]⟩:=li (k:=4) (m:=0) rfl (by decide)
theorem J2:wOk ⟨#[116,111]⟩:=li (k:=4) (m:=0) rfl (by decide)
theorem J3:wOk ⟨#[114,117,108,101]⟩:=li (k:=4) (m:=0) rfl (by decide)
theorem J4:wOk ⟨#[118,97,114]⟩:=li (k:=4) (m:=0) rfl (by decide)
theorem Bw:wOk ⟨#[112,114,111,99]⟩:=li (k:=4) (m:=0) rfl (by decide)
theorem tP {b:Bool} {l:List ByteArray} (h:alW l):alW (par b l):=by
 cases b with
 |false=>exact h
 |true=>exact .cons lr (.app h (.cons lu .nil))
theorem nA {k n:Int} {s:ByteArray} {d:D} (h:aX k n s d=true):alW (xW k n s d):=by
 refine ns (P:=fun k n s d=>alW (xW k n s d)) ?_ ?_ ?_ ?_ h
 ·intro n s d hn;exact .cons (qf hn) .nil
 ·intro n s d hn;exact .cons (dB hn) .nil
 ·intro n s d hl ih;rw[lq n s (by omega)];exact .cons JN (tP ih)
 ·intro k n s d hb hl ih0 ih1;rw[iH n s hb (by omega)];exact .app (tP ih0) (.cons (JQ k) (tP ih1))
theorem tQ {op lk ln:Int} {ls:ByteArray} {ld:D} {rk rn:Int} {rs:ByteArray} {rd:D} (h:aC op lk ln ls ld rk rn rs rd=true):alW (cW op lk ln ls ld rk rn rs rd):=by
 have:=Bc h;exact .cons lr (.app (nA this.1) (.cons (JR op) (.app (nA this.2) (.cons lu .nil))))
theorem qg {l:List ByteArray} (h:alW l):alW (blW l):=.cons lw (.app h (.cons lx .nil))
theorem J5 {k:Int} {nm tg:ByteArray} {ek en:Int} {es:ByteArray} {ed:D} {op lk ln:Int} {ls:ByteArray} {ld:D} {rk rn:Int} {rs:ByteArray} {rd bd eb am:D}
 (Hb:bA bd=true->alW (bW bd)) (He:bA eb=true->alW (bW eb)) (Ha:∀ j,j<am.len->bA (am.el j 2)=true->alW (bW (am.el j 2))) (hA:stA k nm tg ek en es ed op lk ln ls ld rk rn rs rd bd eb am=true):alW (stW k nm tg ek en es ed op lk ln ls ld rk rn rs rd bd eb am):=by
 have hA:bz k nm tg (aX ek en es ed) (aC op lk ln ls ld rk rn rs rd) (bA bd) (bA eb) am.len (lh am)=true:=hA
 rcases Bp hA with rfl |rfl |rfl |rfl |rfl |rfl |rfl
 ·have hA:(nmB nm&&aX ek en es ed)=true:=hA;simp only[Bool.and_eq_true] at hA;exact .cons (dB hA.1) (.cons Bv (.app (nA hA.2) (.cons iJ .nil)))
 ·have hA:(aC op lk ln ls ld rk rn rs rd&&bA bd&&bA eb)=true:=hA;simp only[Bool.and_eq_true] at hA;refine .cons JT (.app (tQ hA.1.1) (.app (qg (Hb hA.1.2)) ?_));split
  ·exact .cons JU (qg (He hA.2))
  ·exact .nil
 ·have hA:(aC op lk ln ls ld rk rn rs rd&&bA bd)=true:=hA;simp only[Bool.and_eq_true] at hA;exact .cons JV (.app (tQ hA.1) (qg (Hb hA.2)))
 ·have hA:(nmB nm&&nmB tg&&aX ek en es ed)=true:=hA;simp only[Bool.and_eq_true] at hA;exact .cons JW (.cons (dB hA.1.1) (.cons JO (.cons (dB hA.1.2) (.cons lr (.app (nA hA.2) (.cons lu (.cons iJ .nil)))))))
 ·have hA:(nmB nm&&decide ((am.len:Int)>0)&&lh am)=true:=hA;simp only[Bool.and_eq_true] at hA;have hq:=bP.1 hA.2;refine .cons JX (.cons (dB hA.1.1) (.cons lw (.app (.cat fun j hj=>?_) (.cons lx .nil))));have h1:=hq j hj;unfold arE at h1;simp only[Bool.and_eq_true] at h1;exact .cons (dB h1.1.1) (.cons lr (.cons (dB h1.1.2) (.cons lu (qg (Ha j hj h1.2)))))
 ·have hA:aC op lk ln ls ld rk rn rs rd=true:=hA;exact .cons JY (.app (tQ hA) (.cons iJ .nil))
 ·have hA:nmB nm=true:=hA;exact .cons JZ (.cons (dB hA) (.cons iJ .nil))
theorem J6:∀ (z:Nat) (d:D),SizeOf.sizeOf d<=z->bA d=true->alW (bW d):=by
 intro z
 induction z with
 |zero=>intro d hz;cases d<;>simp at hz
 |succ z ih=>
  intro d hz hA;rw[qa] at hA;have hA:=bP.1 hA;rw[qb];refine .cat fun i hi=>?_
  have kid:∀ j,bA (d.el i j)=true->alW (bW (d.el i j)):=fun j h=>by
   have:=ap (j:=j) hi;exact ih _ (by omega) h
  have kid2:∀ j,j<(d.el i 18).len->bA ((d.el i 18).el j 2)=true->alW (bW ((d.el i 18).el j 2)):=fun j hj h=>by
   have h1:=ap (j:=18) hi;have h2:=ap (j:=2) hj;exact ih _ (by omega) h
  exact J5 (kid 16) (kid 17) kid2 (hA i hi)
theorem J7 {ch ru pr:D} (hA:syB ch ru pr=true):alW (syW ch ru pr):=by
 unfold syB at hA;simp only[Bool.and_eq_true] at hA;have h1:=bP.1 hA.1;have h2:=bP.1 hA.2.1;have h3:=bP.1 hA.2.2;refine .app (.cat fun i hi=>?_) (.app (.cat fun i hi=>?_) (.cat fun i hi=>?_))
 ·have hx:=h1 i hi;unfold chE chB at hx;simp only[Bool.and_eq_true,decide_eq_true_eq] at hx;obtain ⟨⟨⟨⟨⟨⟨⟨x1,x2⟩,x3⟩,x4⟩,x5⟩,x6⟩,x7⟩,x8⟩:=hx;have x8:=bP.1 x8;refine .app (.cons J0 (.cons (dB x1) (.cons (JS _) (.cons (qf x4) (.cons J1 (.cons (dB x5) (.cons J2 (.cons (dB x6) (.cons lw .nil))))))))) (.app (.cat fun j hj=>?_) (.cons lx (.cons iJ .nil)));unfold tgW;split
  ·exact .cons JP (.cons (dB (x8 j hj)) .nil)
  ·exact .cons (dB (x8 j hj)) .nil
 ·have hx:=h2 i hi;unfold ruE ruB at hx;simp only[Bool.and_eq_true] at hx;have hm:=bP.1 hx.1;refine .app (.cons J3 (.cons (dB hx.2) (.cons lw .nil))) (.app (.cat fun j hj=>?_) (.cons lx .nil));have hy:=hm j hj;unfold mvE at hy;simp only[Bool.and_eq_true] at hy;exact .cons (qf hy.1.1) (.cons (dB hy.1.2) (.cons (qf hy.2) (.cons iJ .nil)))
 ·have hx:=h3 i hi;unfold prE at hx;simp only[Bool.and_eq_true] at hx;have hv:=bP.1 hx.1.2;exact .app (.cons Bw (.cons (dB hx.1.1) (.cons lw .nil))) (.app (.cat fun j hj=>.cons J4 (.cons (dB (hv j hj)) (.cons iJ .nil))) (.app (J6 _ _ (Nat.le_refl _) hx.2) (.cons lx .nil)))
end Go.Proofs.YtbhbjhejkamlnaaGreat.Sx.Z
