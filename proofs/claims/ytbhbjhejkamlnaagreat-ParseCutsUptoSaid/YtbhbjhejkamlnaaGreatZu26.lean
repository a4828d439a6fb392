import Derived.Lib.ItoaLen
import Derived.Test.YtbhbjhejkamlnaaGreatZu25
import Derived.Test.YtbhbjhejkamlnaaGreatZu1
import Derived.Test.YtbhbjhejkamlnaaGreatRows
import Derived.Test.YtbhbjhejkamlnaaGreatZu14
set_option linter.unusedVariables false
set_option linter.unusedSimpArgs false
namespace Go.Proofs.YtbhbjhejkamlnaaGreat.Sx.Z
open Go.RowKit
theorem lel_lt {d:D} {i j:Nat} (h:i<d.len):SizeOf.sizeOf (d.el i j)<SizeOf.sizeOf d:=by
 cases d with
 |l rows=>
  have h':i<rows.length:=h;have e:(D.l rows).el i j=(rows[i]).getD j (.i 0):=by
   show (rows.getD i []).getD j (.i 0)=_;rw [List.getD_eq_getElem?_getD (l:=rows),List.getElem?_eq_getElem h',Option.getD_some]
  rw [e,List.getD_eq_getElem?_getD];have h1:=List.sizeOf_lt_of_mem (List.getElem_mem h')
  cases hj:(rows[i])[j]? with
  |none=>
   rw [Option.getD_none];have:SizeOf.sizeOf (D.i 0)=1+SizeOf.sizeOf (0:Int):=rfl;have e2:SizeOf.sizeOf (0:Int)=1:=rfl;have:SizeOf.sizeOf (D.l rows)=1+SizeOf.sizeOf rows:=by simp
   have h2:1<=SizeOf.sizeOf (rows[i]):=by cases rows[i]<;>simp<;>omega
   omega
  |some x=>
   rw [Option.getD_some];have h2:=List.sizeOf_lt_of_mem (List.mem_of_getElem? hj);have:SizeOf.sizeOf (D.l rows)=1+SizeOf.sizeOf rows:=by simp
   omega
 |i n=>exact absurd h (Nat.not_lt_zero i)
 |b n=>exact absurd h (Nat.not_lt_zero i)
 |s n=>exact absurd h (Nat.not_lt_zero i)
def nmB (s:ByteArray):Bool:=!decide ((s.size:Int)>12)&&((lexR s).2.2==0&&((tokD (lexR s).1).len:Int)==1&&((tokD (lexR s).1).el 0 0).toI==1&&(((tokD (lexR s).1).el 0 1).toS.toList==s.toList))
def nuB (n:Int):Bool:=decide (n>=0)&&decide (n<=2147483647)
def biB (k:Int):Bool:=decide (k>=4)&&decide (k<=8)
def aXb (k n:Int) (s:ByteArray) (len:Int) (f:Nat->Bool):Bool:=
 if k=1 then nuB n else if k=2 then nmB s else if k=3 then len==1&&f 0 else if biB k=true then len==2&&f 0&&f 1 else false
def aE (d:D) (i:Nat):Bool:=if _h:i<d.len then aXb (d.el i 0).toI (d.el i 1).toI (d.el i 2).toS (d.el i 3).len (fun j=>aE (d.el i 3) j) else false
 termination_by SizeOf.sizeOf d
 decreasing_by exact lel_lt (by assumption)
def aX (k n:Int) (s:ByteArray) (d:D):Bool:=aXb k n s d.len (aE d)
theorem bi_in {k:Int} (h:biB k=true):4<=k/\k<=8:=by unfold biB at h;simp at h;omega
theorem aX_bin {k n:Int} {s:ByteArray} {d:D} (h:biB k=true):aX k n s d=((d.len:Int)==2&&aE d 0&&aE d 1):=by
 have hb:=bi_in h;unfold aX aXb;rw [if_neg (by omega),if_neg (by omega),if_neg (by omega),if_pos h]
theorem aX_no {k n:Int} {s:ByteArray} {d:D} (h1:k≠1) (h2:k≠2) (h3:k≠3) (h:biB k=false):aX k n s d=false:=by
 unfold aX aXb;rw [if_neg h1,if_neg h2,if_neg h3,if_neg (by rw [h];decide)]
theorem aE_eq {d:D} {i:Nat} (h:i<d.len):aE d i=aX (d.el i 0).toI (d.el i 1).toI (d.el i 2).toS (d.el i 3):=by
 rw [aE,dif_pos h];rfl
def allB (n:Nat) (f:Nat->Bool):Bool:=(List.range n).all f
theorem allB_iff {n:Nat} {f:Nat->Bool}:allB n f=true ↔ ∀ i,i<n->f i=true:=by
 unfold allB;rw [List.all_eq_true];exact ⟨fun h i hi=>h i (List.mem_range.2 hi),fun h i hi=>h i (List.mem_range.1 hi)⟩
theorem allB_yes {n:Nat} {f:Nat->Bool} (h:∀ i,i<n->f i=true):allB n f=true:=allB_iff.2 h
theorem allB_no {n i:Nat} {f:Nat->Bool} (hi:i<n) (h:f i=false):allB n f=false:=by
 cases hc:allB n f with
 |false=>rfl
 |true=>rw [allB_iff.1 hc i hi] at h;cases h
theorem allF_eq {n:Nat} (f:Nat->Bool):((List.finRange n).all fun i=>f i.1)=allB n f:=by
 have h1:((List.finRange n).all fun i=>f i.1)=true↔allB n f=true:=by
  rw [allB_iff,List.all_eq_true];exact ⟨fun h i hi=>h ⟨i,hi⟩ (List.mem_finRange _),fun h i _=>h i.1 i.2⟩
 cases hc:allB n f with
 |true=>exact h1.2 hc
 |false=>
  cases hd:((List.finRange n).all fun i=>f i.1) with
  |false=>rfl
  |true=>rw [h1.1 hd] at hc;cases hc
def aC (op lk ln:Int) (ls:ByteArray) (ld:D) (rk rn:Int) (rs:ByteArray) (rd:D):Bool:=decide (op>=1)&&decide (op<=6)&&aX lk ln ls ld&&aX rk rn rs rd
def aStF (k:Int) (nm tg:ByteArray) (e c b el:Bool) (al:Int) (a:Bool):Bool:=
 if k=1 then nmB nm&&e else if k=2 then c&&b&&el else if k=3 then c&&b else if k=4 then nmB nm&&nmB tg&&e else if k=5 then nmB nm&&decide (al>0)&&a else if k=6 then c else if k=7 then nmB nm else false
def bA (d:D):Bool:=(List.finRange d.len).all fun (i:Fin d.len)=>aStF (d.el i 0).toI (d.el i 1).toS (d.el i 2).toS (aX (d.el i 3).toI (d.el i 4).toI (d.el i 5).toS (d.el i 6)) (aC (d.el i 7).toI (d.el i 8).toI (d.el i 9).toI (d.el i 10).toS (d.el i 11) (d.el i 12).toI (d.el i 13).toI (d.el i 14).toS (d.el i 15)) (bA (d.el i 16)) (bA (d.el i 17)) (d.el i 18).len
    ((List.finRange (d.el i 18).len).all fun (j:Fin (d.el i 18).len)=>nmB ((d.el i 18).el j 0).toS&&nmB ((d.el i 18).el j 1).toS&&bA ((d.el i 18).el j 2))
 termination_by SizeOf.sizeOf d
 decreasing_by
  ·exact lel_lt i.isLt
  ·exact lel_lt i.isLt
  ·exact Nat.lt_trans (lel_lt j.isLt) (lel_lt i.isLt)
def arE (am:D) (j:Nat):Bool:=nmB (am.el j 0).toS&&nmB (am.el j 1).toS&&bA (am.el j 2)
def amsA (am:D):Bool:=allB am.len (arE am)
def stA (k:Int) (nm tg:ByteArray) (ek en:Int) (es:ByteArray) (ed:D) (op lk ln:Int) (ls:ByteArray) (ld:D) (rk rn:Int) (rs:ByteArray) (rd bd eb am:D):Bool:=
 aStF k nm tg (aX ek en es ed) (aC op lk ln ls ld rk rn rs rd) (bA bd) (bA eb) am.len (amsA am)
def stE (d:D) (i:Nat):Bool:=stA (d.el i 0).toI (d.el i 1).toS (d.el i 2).toS (d.el i 3).toI (d.el i 4).toI (d.el i 5).toS (d.el i 6) (d.el i 7).toI (d.el i 8).toI (d.el i 9).toI (d.el i 10).toS (d.el i 11) (d.el i 12).toI (d.el i 13).toI (d.el i 14).toS (d.el i 15) (d.el i 16) (d.el i 17) (d.el i 18)
theorem bA_eq (d:D):bA d=allB d.len (stE d):=by
 rw [bA,<- allF_eq]
 congr 1
 funext i
 unfold stE stA amsA;rw [<- allF_eq];rfl
def nsE (d:D) (i:Nat):Bool:=nmB (d.el i 0).toS
def nsA (d:D):Bool:=allB d.len (nsE d)
def chB (nm:ByteArray) (k sz:Int) (f t:ByteArray) (tg:D):Bool:=nmB nm&&decide (k>=0)&&decide (k<=2)&&nuB sz&&nmB f&&nmB t&&decide ((tg.len:Int)>0)&&nsA tg
def mvE (d:D) (i:Nat):Bool:=nuB (d.el i 0).toI&&nmB (d.el i 1).toS&&nuB (d.el i 2).toI
def ruB (nm:ByteArray) (mv:D):Bool:=allB mv.len (mvE mv)&&nmB nm
def chE (d:D) (i:Nat):Bool:=chB (d.el i 0).toS (d.el i 1).toI (d.el i 2).toI (d.el i 3).toS (d.el i 4).toS (d.el i 5)
def ruE (d:D) (i:Nat):Bool:=ruB (d.el i 0).toS (d.el i 1)
def prE (d:D) (i:Nat):Bool:=nmB (d.el i 0).toS&&nsA (d.el i 1)&&bA (d.el i 2)
def syB (ch ru pr:D):Bool:=allB ch.len (chE ch)&&(allB ru.len (ruE ru)&&allB pr.len (prE pr))
def suB (k:Int):Bool:=k==4 ||k==5
def brB (k i q:Int):Bool:=if k=3 then biB q else if k=4 ∨ k=5 then i==1&&suB q else if k=6 ∨ k=7 ∨ k=8 then suB q ||(i==1&&biB q) else false
def inB (b:Bool):Int:=if b=true then 1 else 0
def xNb (k dp:Int) (q:Nat->Int) (f:Nat->Int->Bool):Bool:=
 if dp>24 then false else if k=3 then f 0 (dp+1+inB (brB 3 0 (q 0))) else if biB k=true then f 0 (dp+inB (brB k 0 (q 0)))&&f 1 (dp+inB (brB k 1 (q 1))) else true
def kN (d:D) (i:Nat) (dp:Int):Bool:=if _h:i<d.len then xNb (d.el i 0).toI dp (fun j=>((d.el i 3).el j 0).toI) (fun j q=>kN (d.el i 3) j q) else true
 termination_by SizeOf.sizeOf d
 decreasing_by exact lel_lt (by assumption)
def xN (k:Int) (d:D) (dp:Int):Bool:=xNb k dp (fun j=>(d.el j 0).toI) (kN d)
theorem aX_kids {k n:Int} {s:ByteArray} {d:D} (h:aX k n s d=true):(k=3->d.len=1/\aE d 0=true)/\(biB k=true->d.len=2/\aE d 0=true/\aE d 1=true):=by
 constructor
 ·rintro rfl;have e:aX 3 n s d=((d.len:Int)==1&&aE d 0):=rfl;rw [e] at h;simp only [Bool.and_eq_true,beq_iff_eq] at h;exact ⟨by omega,h.2⟩
 ·intro hb;rw [aX_bin hb] at h;simp only [Bool.and_eq_true,beq_iff_eq] at h;exact ⟨by omega,h.1.2,h.2⟩
theorem aC_two {op lk ln rk rn:Int} {ls rs:ByteArray} {ld rd:D} (h:aC op lk ln ls ld rk rn rs rd=true):aX lk ln ls ld=true/\aX rk rn rs rd=true:=by
 unfold aC at h;simp only [Bool.and_eq_true] at h;exact ⟨h.1.2,h.2⟩
def itW (n:Int):ByteArray:=⟨(Lib.itoa n).toArray⟩
def chW (k:Int):ByteArray:=if k=0 then ⟨#[98,108,111,99,107]⟩ else if k=1 then ⟨#[100,114,111,112]⟩ else ⟨#[108,111,115,115,121]⟩
def biW (k:Int):ByteArray:=if k=4 then ⟨#[43]⟩ else if k=5 then ⟨#[45]⟩ else if k=6 then ⟨#[42]⟩ else if k=7 then ⟨#[47]⟩ else ⟨#[37]⟩
def cmW (k:Int):ByteArray:=if k=1 then ⟨#[61,61]⟩ else if k=2 then ⟨#[33,61]⟩ else if k=3 then ⟨#[60]⟩ else if k=4 then ⟨#[60,61]⟩ else if k=5 then ⟨#[62]⟩ else ⟨#[62,61]⟩
def par (b:Bool) (l:List ByteArray):List ByteArray:=if b=true then ⟨#[40]⟩::(l++[⟨#[41]⟩]) else l
def xWb (k n:Int) (s:ByteArray) (q:Nat->Int) (f:Nat->List ByteArray):List ByteArray:=
 if k=1 then [itW n] else if k=2 then [s] else if k=3 then ⟨#[45]⟩::par (brB 3 0 (q 0)) (f 0) else if biB k=true then par (brB k 0 (q 0)) (f 0)++(biW k::par (brB k 1 (q 1)) (f 1)) else []
def kW (d:D) (i:Nat):List ByteArray:=if h:i<d.len then xWb (d.el i 0).toI (d.el i 1).toI (d.el i 2).toS (fun j=>((d.el i 3).el j 0).toI) (fun j=>kW (d.el i 3) j) else []
 termination_by SizeOf.sizeOf d
 decreasing_by exact lel_lt h
def xW (k n:Int) (s:ByteArray) (d:D):List ByteArray:=xWb k n s (fun j=>(d.el j 0).toI) (kW d)
theorem kW_eq {d:D} {i:Nat} (h:i<d.len):kW d i=xW (d.el i 0).toI (d.el i 1).toI (d.el i 2).toS (d.el i 3):=by
 rw [kW,dif_pos h];rfl
def cW (op lk ln:Int) (ls:ByteArray) (ld:D) (rk rn:Int) (rs:ByteArray) (rd:D):List ByteArray:=⟨#[40]⟩::(xW lk ln ls ld++(cmW op::(xW rk rn rs rd++[⟨#[41]⟩])))
def blW (l:List ByteArray):List ByteArray:=⟨#[123]⟩::(l++[⟨#[125]⟩])
def catTo (n:Nat) (f:Nat->List ByteArray):List ByteArray:=((List.range n).map f).flatten
theorem catTo_succ (n:Nat) (f:Nat->List ByteArray):catTo (n+1) f=catTo n f++f n:=by
 unfold catTo;rw [List.range_succ,List.map_append,List.flatten_append]
 simp
theorem catF_eq {n:Nat} (f:Nat->List ByteArray):((List.finRange n).map fun i=>f i.1).flatten=catTo n f:=by
 unfold catTo
 congr 1
 apply List.ext_getElem
 ·simp
 ·intro i h1 h2
  simp
def stWF (k:Int) (nm tg:ByteArray) (e c b el:List ByteArray) (hel:Bool) (a:List ByteArray):List ByteArray:=
 if k=1 then nm::⟨#[61]⟩::(e++[⟨#[59]⟩]) else if k=2 then ⟨#[105,102]⟩::(c++(b++(if hel=true then ⟨#[101,108,115,101]⟩::el else []))) else if k=3 then ⟨#[119,104,105,108,101]⟩::(c++b) else if k=4 then ⟨#[115,101,110,100]⟩::nm::⟨#[46]⟩::tg::⟨#[40]⟩::(e++[⟨#[41]⟩,⟨#[59]⟩]) else if k=5 then ⟨#[114,101,99,118]⟩::nm::⟨#[123]⟩::(a++[⟨#[125]⟩]) else if k=6 then ⟨#[97,115,115,101,114,116]⟩::(c++[⟨#[59]⟩]) else if k=7 then [⟨#[105,110,112,117,116]⟩,nm,⟨#[59]⟩] else []
def arWF (tg v:ByteArray) (b:List ByteArray):List ByteArray:=tg::⟨#[40]⟩::v::⟨#[41]⟩::blW b
def bW (d:D):List ByteArray:=((List.finRange d.len).map fun (i:Fin d.len)=>stWF (d.el i 0).toI (d.el i 1).toS (d.el i 2).toS (xW (d.el i 3).toI (d.el i 4).toI (d.el i 5).toS (d.el i 6)) (cW (d.el i 7).toI (d.el i 8).toI (d.el i 9).toI (d.el i 10).toS (d.el i 11) (d.el i 12).toI (d.el i 13).toI (d.el i 14).toS (d.el i 15)) (blW (bW (d.el i 16))) (blW (bW (d.el i 17))) (decide (((d.el i 17).len:Int)>0))
    ((List.finRange (d.el i 18).len).map fun (j:Fin (d.el i 18).len)=>arWF ((d.el i 18).el j 0).toS ((d.el i 18).el j 1).toS (bW ((d.el i 18).el j 2))).flatten).flatten
 termination_by SizeOf.sizeOf d
 decreasing_by
  ·exact lel_lt i.isLt
  ·exact lel_lt i.isLt
  ·exact Nat.lt_trans (lel_lt j.isLt) (lel_lt i.isLt)
def arW (am:D) (j:Nat):List ByteArray:=arWF (am.el j 0).toS (am.el j 1).toS (bW (am.el j 2))
def stW (k:Int) (nm tg:ByteArray) (ek en:Int) (es:ByteArray) (ed:D) (op lk ln:Int) (ls:ByteArray) (ld:D) (rk rn:Int) (rs:ByteArray) (rd bd eb am:D):List ByteArray:=
 stWF k nm tg (xW ek en es ed) (cW op lk ln ls ld rk rn rs rd) (blW (bW bd)) (blW (bW eb)) (decide ((eb.len:Int)>0)) (catTo am.len (arW am))
def stWE (d:D) (i:Nat):List ByteArray:=stW (d.el i 0).toI (d.el i 1).toS (d.el i 2).toS (d.el i 3).toI (d.el i 4).toI (d.el i 5).toS (d.el i 6) (d.el i 7).toI (d.el i 8).toI (d.el i 9).toI (d.el i 10).toS (d.el i 11) (d.el i 12).toI (d.el i 13).toI (d.el i 14).toS (d.el i 15) (d.el i 16) (d.el i 17) (d.el i 18)
theorem bW_eq (d:D):bW d=catTo d.len (stWE d):=by
 rw [bW,<- catF_eq]
 congr 2
 funext i
 unfold stWE stW;rw [<- catF_eq];rfl
def tgW (tg:D) (i:Nat):List ByteArray:=if i>0 then [⟨#[44]⟩,(tg.el i 0).toS] else [(tg.el i 0).toS]
def chWd (nm:ByteArray) (k n:Int) (f t:ByteArray) (tg:D):List ByteArray:=[⟨#[99,104,97,110]⟩,nm,chW k,itW n,⟨#[102,114,111,109]⟩,f,⟨#[116,111]⟩,t,⟨#[123]⟩]++(catTo tg.len (tgW tg)++[⟨#[125]⟩,⟨#[59]⟩])
def mvW (mv:D) (i:Nat):List ByteArray:=[itW (mv.el i 0).toI,(mv.el i 1).toS,itW (mv.el i 2).toI,⟨#[59]⟩]
def ruWd (nm:ByteArray) (mv:D):List ByteArray:=[⟨#[114,117,108,101]⟩,nm,⟨#[123]⟩]++(catTo mv.len (mvW mv)++[⟨#[125]⟩])
def vaW (vs:D) (i:Nat):List ByteArray:=[⟨#[118,97,114]⟩,(vs.el i 0).toS,⟨#[59]⟩]
def prWd (nm:ByteArray) (vs bd:D):List ByteArray:=[⟨#[112,114,111,99]⟩,nm,⟨#[123]⟩]++(catTo vs.len (vaW vs)++(bW bd++[⟨#[125]⟩]))
def chWE (d:D) (i:Nat):List ByteArray:=chWd (d.el i 0).toS (d.el i 1).toI (d.el i 2).toI (d.el i 3).toS (d.el i 4).toS (d.el i 5)
def ruWE (d:D) (i:Nat):List ByteArray:=ruWd (d.el i 0).toS (d.el i 1)
def prWE (d:D) (i:Nat):List ByteArray:=prWd (d.el i 0).toS (d.el i 1) (d.el i 2)
def syW (ch ru pr:D):List ByteArray:=catTo ch.len (chWE ch)++(catTo ru.len (ruWE ru)++catTo pr.len (prWE pr))
end Go.Proofs.YtbhbjhejkamlnaaGreat.Sx.Z
namespace Go.Proofs.YtbhbjhejkamlnaaGreat.Sx.Z
open Go.RowKit
def kOf (w:ByteArray):Int:=match wordE w.data.toList with | .ok (k,_,_)=>k | .error _=>0
def nOf (w:ByteArray):Int:=match wordE w.data.toList with | .ok (_,_,m)=>m | .error _=>0
theorem kOf_eq {w:ByteArray} {k:Int} {n:Nat} {m:Int} (h:wordE w.data.toList = .ok (k,n,m)):kOf w=k/\nOf w=m:=by
 unfold kOf nOf;rw [h];exact ⟨rfl,rfl⟩
structure TkA (ws:D) (i:Nat) (w:ByteArray):Prop where
 lt:i<ws.len
 tx:(ws.el i 1).toS=w
 kd:(ws.el i 0).toI=kOf w
 nu:(ws.el i 2).toI=nOf w
def At (ws:D) (p:Nat) (l:List ByteArray):Prop:=∀ j (h:j<l.length),TkA ws (p+j) l[j]
theorem At.nil {ws:D} {p:Nat}:At ws p []:=fun _ h=>absurd h (Nat.not_lt_zero _)
theorem At.cons {ws:D} {p:Nat} {a:ByteArray} {l:List ByteArray} (h:At ws p (a::l)):TkA ws p a/\At ws (p+1) l:=by
 refine ⟨h 0 (Nat.zero_lt_succ _),fun j hj=>?_⟩
 have:=h (j+1) (Nat.succ_lt_succ hj);rw [show p+1+j=p+(j+1) by omega]
 exact this
theorem At.app {ws:D} {p:Nat} {l m:List ByteArray} (h:At ws p (l++m)):At ws p l/\At ws (p+l.length) m:=by
 refine ⟨fun j hj=>?_,fun j hj=>?_⟩
 ·have:=h j (by rw [List.length_append];omega)
  rw [List.getElem_append_left hj] at this;exact this
 ·have:=h (l.length+j) (by rw [List.length_append];omega)
  rw [List.getElem_append_right (by omega)] at this
  simp only [Nat.add_sub_cancel_left] at this;rw [Nat.add_assoc];exact this
theorem At.le {ws:D} {p:Nat} {l:List ByteArray} (h:At ws p l) (hp:p<=ws.len):p+l.length<=ws.len:=by
 rcases Nat.eq_zero_or_pos l.length with h0 |h0
 ·omega
 ·have:=(h (l.length-1) (by omega)).lt
  omega
def rp (p:Nat) (pa:Int):Rd:=⟨(p:Int),pa,0⟩
theorem tok_nx (s:ByteArray) (f p:Nat) (acc l:List Tok) (hp:p<=s.size) (ha:∀ t∈acc,∃ q,q+t.text.size<=s.size/\wordE (s.data.toList.drop q) = .ok (t.kind,t.text.size,t.num)) (h:lexGo s f p acc = .ok l) :
 ∀ t∈l,∃ q,q+t.text.size<=s.size/\wordE (s.data.toList.drop q) = .ok (t.kind,t.text.size,t.num):=by
 induction f generalizing p acc with
 |zero=>cases h;exact ha
 |succ f ih=>
  unfold lexGo at h
  by_cases hlt:p<s.size
  ·rw [if_pos hlt] at h
   by_cases hg:gapU (s.data.toList.getD p 0)=true
   ·rw [if_pos hg] at h;exact ih (p+1) acc (by omega) ha h
   ·rw [if_neg hg] at h
    cases hw:wordE (s.data.toList.drop p) with
    |error e=>rw [hw] at h;cases h
    |ok x=>
     obtain ⟨k,n,m⟩:=x;rw [hw] at h;have hlen:(s.data.toList.drop p).length=s.size-p:=by rw [List.length_drop];rfl
     obtain ⟨w1,w2,_⟩:=wordE_ok (by omega) hw
     have hsz:(s.extract p (p+n)).size=n:=by rw [ByteArray.size_extract];omega
     refine ih (p+n) _ (by omega) (fun t ht=>?_) h
     rcases List.mem_append.1 ht with ht |ht
     ·exact ha t ht
     ·rw [List.mem_singleton.1 ht];exact ⟨p,by show p+(s.extract p (p+n)).size<=_;omega,by show _=Except.ok (k,(s.extract p (p+n)).size,m);rw [hsz];exact hw⟩
  ·rw [if_neg hlt] at h
   cases h;exact ha
theorem dec_rec' (u:Nat):Lib.decDigits u=if u<10 then [UInt8.ofNat (48+u)] else Lib.decDigits (u/10)++[UInt8.ofNat (48+u%10)]:=by
 rw [Lib.decDigits]
 split<;>rfl
theorem dig_nat {u:Nat} (h:u<10):(UInt8.ofNat (48+u)).toNat=48+u:=by
 rw [UInt8.toNat_ofNat'];omega
theorem dig_is {u:Nat} (h:u<10):digU (UInt8.ofNat (48+u))=true:=by
 unfold digU digB;rw [dig_nat h];simp only [Bool.and_eq_true,decide_eq_true_eq];omega
theorem dec_all (u:Nat):(∀ b∈Lib.decDigits u,digU b=true)/\val (Lib.decDigits u)=u/\Lib.decDigits u≠[]/\(10<=u->(Lib.decDigits u).headD 0≠48)/\(u<10->(Lib.decDigits u).length=1)/\(0<u->(Lib.decDigits u).headD 0≠48):=by
 induction u using Nat.strongRecOn with
 |ind u ih=>
  by_cases h:u<10
  ·rw [dec_rec',if_pos h];refine ⟨fun b hb=>?_,?_,by simp,fun hu=>by omega,fun _=>rfl,fun hu=>?_⟩
   ·rw [List.mem_singleton.1 hb];exact dig_is h
   ·show 10*0+((UInt8.ofNat (48+u)).toNat-48)=u;rw [dig_nat h];omega
   ·intro e;have e:UInt8.ofNat (48+u)=48:=e;have:=congrArg UInt8.toNat e;rw [dig_nat h] at this;have:(48+u)=48:=this;omega
  ·obtain ⟨a1,a2,a3,a4,a5,a6⟩:=ih (u/10) (by omega)
   rw [dec_rec',if_neg h];have hh:(Lib.decDigits (u/10)++[UInt8.ofNat (48+u%10)]).headD 0=(Lib.decDigits (u/10)).headD 0:=by
    cases hd:Lib.decDigits (u/10) with
    |nil=>exact absurd hd a3
    |cons a t=>rfl
   have h6:(Lib.decDigits (u/10)++[UInt8.ofNat (48+u%10)]).headD 0≠48:=by rw [hh];exact a6 (by omega)
   refine ⟨fun b hb=>?_,?_,by simp,fun _=>h6,fun hu=>absurd hu h,fun _=>h6⟩
   ·rcases List.mem_append.1 hb with hb |hb
    ·exact a1 b hb
    ·rw [List.mem_singleton.1 hb];exact dig_is (by omega)
   ·rw [val_snoc,a2,dig_nat (by omega)];omega
theorem nu_full {n:Int} (h:nuB n=true):wordE (itW n).data.toList = .ok (2,(itW n).data.toList.length,n)/\0<(itW n).data.toList.length:=by
 unfold nuB at h;simp only [Bool.and_eq_true,decide_eq_true_eq] at h;have e:(itW n).data.toList=Lib.decDigits n.toNat:=by
  unfold itW Lib.itoa;rw [if_neg (by omega)]
 obtain ⟨a1,a2,a3,a4,a5,a6⟩:=dec_all n.toNat;generalize hL:Lib.decDigits n.toNat=L at *;have hlen:lenOf digU L=L.length:=by
  exact takeWhile_len digU L L.length (Nat.le_refl _) (fun i hi=>a1 _ (by rw [List.getD_eq_getElem?_getD,List.getElem?_eq_getElem hi];exact List.getElem_mem hi)) (fun hx=>absurd hx (Nat.lt_irrefl _))
 have hh:digU (L.headD 0)=true:=by
  cases L with
  |nil=>exact absurd rfl a3
  |cons a t=>exact a1 a (List.mem_cons_self ..)
 have hnl:letU (L.headD 0)=false:=by
  unfold digU digB at hh;unfold letU letB;simp only [Bool.and_eq_true,decide_eq_true_eq] at hh;rw [decide_eq_false (by omega)];rfl
 have hw:wordE L = .ok (2,L.length,n):=by
  unfold wordE;rw [if_neg (by rw [hnl];decide),if_pos hh]
  unfold numE;rw [hlen,List.take_length,a2,if_neg,show ((n.toNat:Nat):Int)=n by omega]
  rintro (hx |⟨hx,hy⟩ |hx)
  ·omega
  ·by_cases hu:n.toNat<10
   ·have:=a5 hu;omega
   ·exact a4 (by omega) hy
  ·rw [List.getD_eq_getElem?_getD,List.getElem?_eq_none (Nat.le_refl _),Option.getD_none] at hx;exact absurd hx (by decide)
 rw [e];exact ⟨hw,List.length_pos_iff.2 a3⟩
end Go.Proofs.YtbhbjhejkamlnaaGreat.Sx.Z
namespace Go.Proofs.YtbhbjhejkamlnaaGreat.Sx.Z
open Go.RowKit
def xCb (k n:Int) (s:ByteArray) (f:Nat->Xp):Xp:=
 if k=1 then ⟨1,n,ByteArray.empty,.l []⟩ else if k=2 then ⟨2,0,s,.l []⟩ else if k=3 then ⟨3,0,ByteArray.empty,.l [(f 0).row]⟩ else X2 k (f 0) (f 1)
def kC (d:D) (i:Nat):Xp:=if _h:i<d.len then xCb (d.el i 0).toI (d.el i 1).toI (d.el i 2).toS (fun j=>kC (d.el i 3) j) else X00
 termination_by SizeOf.sizeOf d
 decreasing_by exact lel_lt (by assumption)
def xC (k n:Int) (s:ByteArray) (d:D):Xp:=xCb k n s (kC d)
theorem kid_ind {P:Int->Int->ByteArray->D->Prop} (h1:∀ n s d,nuB n=true->P 1 n s d) (h2:∀ n s d,nmB s=true->P 2 n s d)
 (h3:∀ n s d,d.len=1->P (d.el 0 0).toI (d.el 0 1).toI (d.el 0 2).toS (d.el 0 3)->P 3 n s d)
 (h4:∀ k n s d,biB k=true->d.len=2->P (d.el 0 0).toI (d.el 0 1).toI (d.el 0 2).toS (d.el 0 3)->P (d.el 1 0).toI (d.el 1 1).toI (d.el 1 2).toS (d.el 1 3)->P k n s d) :
 ∀ (z:Nat) (k n:Int) (s:ByteArray) (d:D),SizeOf.sizeOf d<=z->aX k n s d=true->P k n s d:=by
 intro z
 induction z with
 |zero=>intro k n s d hz;cases d<;>simp at hz
 |succ z ih=>
  intro k n s d hz h;have kid:∀ i,i<d.len->aE d i=true->P (d.el i 0).toI (d.el i 1).toI (d.el i 2).toS (d.el i 3):=fun i hi ha=>by
   rw [aE_eq hi] at ha;have:=lel_lt (j:=3) hi;exact ih _ _ _ _ (by omega) ha
  by_cases e1:k=1
  ·subst e1;exact h1 n s d h
  ·by_cases e2:k=2
   ·subst e2;exact h2 n s d h
   ·obtain ⟨b1,b2⟩:=aX_kids h
    by_cases e3:k=3
    ·subst e3;obtain ⟨c1,c2⟩:=b1 rfl;exact h3 n s d c1 (kid 0 (by omega) c2)
    ·cases hb:biB k with
     |false=>rw [aX_no e1 e2 e3 hb] at h;cases h
     |true=>
      obtain ⟨c1,c2,c3⟩:=b2 hb;exact h4 k n s d hb c1 (kid 0 (by omega) c2) (kid 1 (by omega) c3)
theorem ex_ind {P:Int->Int->ByteArray->D->Prop} (h1:∀ n s d,nuB n=true->P 1 n s d) (h2:∀ n s d,nmB s=true->P 2 n s d)
 (h3:∀ n s d,d.len=1->P (d.el 0 0).toI (d.el 0 1).toI (d.el 0 2).toS (d.el 0 3)->P 3 n s d)
 (h4:∀ k n s d,biB k=true->d.len=2->P (d.el 0 0).toI (d.el 0 1).toI (d.el 0 2).toS (d.el 0 3)->P (d.el 1 0).toI (d.el 1 1).toI (d.el 1 2).toS (d.el 1 3)->P k n s d)
 {k n:Int} {s:ByteArray} {d:D} (h:aX k n s d=true):P k n s d:=kid_ind h1 h2 h3 h4 _ k n s d (Nat.le_refl _) h
def noX (ws:D) (p:Nat) (l:List ByteArray):Prop:=∀ t∈l,∀ pa,isB ws t (rp p pa)=false
def muls:List ByteArray:=[⟨#[42]⟩,⟨#[47]⟩,⟨#[37]⟩]
def adds:List ByteArray:=[⟨#[43]⟩,⟨#[45]⟩]
theorem kA_no {ws:D} {p:Nat} {pa:Int} (h:noX ws p adds):kQ ws sgA 4 (rp p pa)=0:=by
 unfold kQ;rw [if_neg];rintro ⟨_,hx⟩;have e:ixR ws sgA (rp p pa) 2 = -1:=by
  simp only [ixR];rw [if_neg (by rw [show (sgA.el 1 0).toS=⟨#[45]⟩ from rfl,h _ (by simp [muls,adds])];decide),if_neg (by rw [show (sgA.el 0 0).toS=⟨#[43]⟩ from rfl,h _ (by simp [muls,adds])];decide)]
 rw [show sgA.len=2 from rfl,e] at hx
 exact absurd hx (by decide)
end Go.Proofs.YtbhbjhejkamlnaaGreat.Sx.Z
namespace Go.Proofs.YtbhbjhejkamlnaaGreat.Sx.Z
open Go.RowKit
structure ExRd (ws:D) (en:Int) (k n:Int) (s:ByteArray) (d:D):Prop where
 fac:∀ (m:Nat) (dp:Int) (p:Nat) (pa:Int),biB k=false->xN k d dp=true->25<=(m:Int)+dp->p<=ws.len->At ws p (xW k n s d)->wfR m en ws dp (rp p pa)=(xC k n s d,rp (p+(xW k n s d).length) pa)
 pro:∀ (m:Nat) (dp:Int) (p:Nat) (pa:Int),suB k=false->xN k d dp=true->25<=(m:Int)+dp->p<=ws.len->At ws p (xW k n s d)->cQA (wfR m en ws dp) (kQ ws sgM 6) ws (rp p pa)=cQL (wfR m en ws dp) (kQ ws sgM 6) (left ws (rp (p+(xW k n s d).length) pa)) (xC k n s d) (rp (p+(xW k n s d).length) pa)
 sum:∀ (m:Nat) (dp:Int) (p:Nat) (pa:Int),xN k d dp=true->25<=(m:Int)+dp->p<=ws.len->At ws p (xW k n s d)->noX ws (p+(xW k n s d).length) muls->cQA (wpr (wfR m) en ws dp) (kQ ws sgA 4) ws (rp p pa)=cQL (wpr (wfR m) en ws dp) (kQ ws sgA 4) (left ws (rp (p+(xW k n s d).length) pa)) (xC k n s d) (rp (p+(xW k n s d).length) pa)
theorem ExRd.all {ws:D} {en k n:Int} {s:ByteArray} {d:D} (H:ExRd ws en k n s d) {m:Nat} {dp:Int} {p:Nat} {pa:Int} (hN:xN k d dp=true) (hm:25<=(m:Int)+dp) (hp:p<=ws.len) (hA:At ws p (xW k n s d)) (hq:noX ws (p+(xW k n s d).length) muls) (ha:noX ws (p+(xW k n s d).length) adds) :
 wsm (wfR m) en ws dp (rp p pa)=(xC k n s d,rp (p+(xW k n s d).length) pa):=by
 have:=H.sum m dp p pa hN hm hp hA hq;rw [cQL_end (kA_no ha)] at this;exact this
theorem xW_3 (n:Int) (s:ByteArray) {d:D} (h:0<d.len):xW 3 n s d=⟨#[45]⟩::par (biB (d.el 0 0).toI) (xW (d.el 0 0).toI (d.el 0 1).toI (d.el 0 2).toS (d.el 0 3)):=by
 rw [<- kW_eq h];rfl
theorem xW_4 {k:Int} (n:Int) (s:ByteArray) {d:D} (hb:biB k=true) (h:1<d.len):xW k n s d=par (brB k 0 (d.el 0 0).toI) (xW (d.el 0 0).toI (d.el 0 1).toI (d.el 0 2).toS (d.el 0 3))++(biW k::par (brB k 1 (d.el 1 0).toI) (xW (d.el 1 0).toI (d.el 1 1).toI (d.el 1 2).toS (d.el 1 3))):=by
 have hk:=bi_in hb;rw [<- kW_eq (show 0<d.len by omega),<- kW_eq h]
 unfold xW xWb;rw [if_neg (by omega),if_neg (by omega),if_neg (by omega),if_pos hb]
end Go.Proofs.YtbhbjhejkamlnaaGreat.Sx.Z
namespace Go.Proofs.YtbhbjhejkamlnaaGreat.Sx.Z
open Go.RowKit
theorem At.nth {ws:D} {p:Nat} {f:Nat->List ByteArray} {n:Nat} (h:At ws p (catTo n f)) {i:Nat} (hi:i<n):At ws (p+(catTo i f).length) (f i):=by
 induction n with
 |zero=>omega
 |succ n ih=>
  rw [catTo_succ] at h;obtain ⟨a,b⟩:=h.app
  by_cases e:i=n
  ·rw [e];exact b
  ·exact ih a (by omega)
theorem cat_mono (f:Nat->List ByteArray) {i n:Nat} (h:i<=n):(catTo i f).length<=(catTo n f).length:=by
 induction n with
 |zero=>rw [show i=0 by omega];exact Nat.le_refl _
 |succ n ih=>
  by_cases e:i=n+1
  ·rw [e];exact Nat.le_refl _
  ·have:=ih (by omega)
   rw [catTo_succ,List.length_append];omega
theorem At.next {ws:D} {p:Nat} {f:Nat->List ByteArray} {n:Nat} (h:At ws p (catTo n f)) {Q:ByteArray->Prop} (hf:∀ i,i<n->∃ w l,f i=w::l/\Q w) {e:ByteArray} (he:TkA ws (p+(catTo n f).length) e) (hq:Q e) {i:Nat} (hi:i<=n):∃ w,TkA ws (p+(catTo i f).length) w/\Q w:=by
 by_cases e:i=n
 ·rw [e];exact ⟨_,he,hq⟩
 ·obtain ⟨w,l,e1,e2⟩:=hf i (by omega)
  have:=h.nth (show i<n by omega)
  rw [e1] at this;exact ⟨w,this.cons.1,e2⟩
end Go.Proofs.YtbhbjhejkamlnaaGreat.Sx.Z
namespace Go.Proofs.YtbhbjhejkamlnaaGreat.Sx.Z
open Go.RowKit
theorem stA_k {k:Int} {nm tg:ByteArray} {e c b el a:Bool} {al:Int} (h:aStF k nm tg e c b el al a=true):k=1 ∨ k=2 ∨ k=3 ∨ k=4 ∨ k=5 ∨ k=6 ∨ k=7:=by
 unfold aStF at h
 by_cases h1:k=1;· exact .inl h1
 by_cases h2:k=2;· exact .inr (.inl h2)
 by_cases h3:k=3;· exact .inr (.inr (.inl h3))
 by_cases h4:k=4;· exact .inr (.inr (.inr (.inl h4)))
 by_cases h5:k=5;· exact .inr (.inr (.inr (.inr (.inl h5))))
 by_cases h6:k=6;· exact .inr (.inr (.inr (.inr (.inr (.inl h6)))))
 by_cases h7:k=7;· exact .inr (.inr (.inr (.inr (.inr (.inr h7)))))
 rw [if_neg h1,if_neg h2,if_neg h3,if_neg h4,if_neg h5,if_neg h6,if_neg h7] at h
 cases h
end Go.Proofs.YtbhbjhejkamlnaaGreat.Sx.Z
namespace Go.Proofs.YtbhbjhejkamlnaaGreat.Sx.Z
open Go.RowKit
structure wOk (w:ByteArray):Prop where
 pos:0<w.data.toList.length
 gap:gapU (w.data.toList.headD 0)=false
 wrd:wordE w.data.toList = .ok (kOf w,w.data.toList.length,nOf w)
 len:w.data.toList.length<=30
structure Tks (ts:List Tok) (l:List ByteArray):Prop where
 tx:ts.map Tok.text=l
 kd:∀ t∈ts,t.kind=kOf t.text/\t.num=nOf t.text
theorem Tks.at {ts:List Tok} {l:List ByteArray} (h:Tks ts l):At (tokD ts) 0 l/\(tokD ts).len=l.length:=by
 have hn:ts.length=l.length:=by
  have:=congrArg List.length h.tx
  simpa using this
 refine ⟨fun j hj=>?_,by rw [tokD_len,hn]⟩
 have hj2:j<ts.length:=by omega
 have ht:ts[j]? = some ts[j]:=List.getElem?_eq_getElem hj2;have hx:(ts[j]).text=l[j]:=by
  have:=h.tx;subst this
  simp
 obtain ⟨k1,k2⟩:=h.kd ts[j] (List.getElem_mem hj2);rw [Nat.zero_add];refine ⟨by rw [tokD_len];exact hj2,?_,?_,?_⟩
 ·rw [tokD_el ht];exact hx
 ·rw [tokD_el ht,<- hx];exact k1
 ·rw [tokD_el ht,<- hx];exact k2
end Go.Proofs.YtbhbjhejkamlnaaGreat.Sx.Z
namespace Go.Proofs.YtbhbjhejkamlnaaGreat.Sx.Z
open Go.RowKit
def alW (l:List ByteArray):Prop:=∀ w∈l,wOk w
theorem alW.nil:alW []:=fun _ h=>by cases h
theorem alW.cons {a:ByteArray} {l:List ByteArray} (h:wOk a) (hl:alW l):alW (a::l):=fun w hw=>by
 rcases List.mem_cons.1 hw with rfl |hw
 ·exact h
 ·exact hl w hw
theorem alW.app {l m:List ByteArray} (h:alW l) (hm:alW m):alW (l++m):=fun w hw=>by
 rcases List.mem_append.1 hw with hw |hw
 ·exact h w hw
 ·exact hm w hw
theorem alW.cat {n:Nat} {f:Nat->List ByteArray} (h:∀ i,i<n->alW (f i)):alW (catTo n f):=by
 induction n with
 |zero=>exact .nil
 |succ n ih=>
  rw [catTo_succ];exact .app (ih fun i hi=>h i (by omega)) (h n (by omega))
theorem word_gap {r:List UInt8} {k m:Int} {n:Nat} (h:wordE r = .ok (k,n,m)) (_h0:0<r.length):gapU (r.headD 0)=false:=by
 cases hg:gapU (r.headD 0) with
 |false=>rfl
 |true=>
  exfalso;unfold wordE at h
  rcases gap_cases hg with e |e<;>rw [e] at h
  ·rw [if_neg (by decide),if_neg (by decide)] at h
   unfold sgnE sgnLen at h;rw [e,show sgnB ((32:UInt8).toNat:Int) (eqNext r)=0 from rfl] at h
   cases h
  ·rw [if_neg (by decide),if_neg (by decide)] at h
   unfold sgnE sgnLen at h;rw [e,show sgnB ((10:UInt8).toNat:Int) (eqNext r)=0 from rfl] at h
   cases h
theorem nm_full {s:ByteArray} (h:nmB s=true):∃ m,wordE s.data.toList = .ok (1,s.data.toList.length,m)/\0<s.data.toList.length:=by
 unfold nmB at h;simp only [Bool.and_eq_true,beq_iff_eq] at h;obtain ⟨_,⟨⟨h1,h2⟩,h3⟩,h4⟩:=h;have h2:((lexR s).1.length:Int)=1:=by rw [tokD_len] at h2;exact h2
 obtain ⟨t,ht⟩:∃ t,(lexR s).1=[t]:=List.length_eq_one_iff.1 (by omega)
 rw [ht] at h3 h4;have h3:t.kind=1:=h3;have h4:t.text.toList=s.toList:=h4;have h4:t.text=s:=by
  rw [ByteArray.toList_eq,ByteArray.toList_eq] at h4;exact ByteArray.ext (Array.toList_inj.1 h4)
 cases hg:lexGo s s.size 0 [] with
 |error x=>
  obtain ⟨p,e⟩:=x;rw [lexR_err hg rfl] at ht
  cases ht
 |ok acc=>
  by_cases hl:2000<acc.length
  ·rw [lexR_long hg rfl hl] at ht
   cases ht
  ·rw [lexR_ok hg rfl (by omega)] at ht
   have ht:acc=[t]:=ht;have h0:0<s.size:=by
    rcases Nat.eq_zero_or_pos s.size with hz |hz
    ·rw [hz] at hg;have:acc=[]:=by cases hg;rfl
     rw [this] at ht;cases ht
    ·exact hz
   obtain ⟨q,q1,q2⟩:=tok_nx s s.size 0 [] acc (Nat.zero_le _) (fun _ h=>by cases h) hg t (by rw [ht];exact List.mem_singleton.2 rfl)
   rw [h4] at q1;have q0:q=0:=by omega
   rw [q0,List.drop_zero,h3,h4] at q2;exact ⟨t.num,q2,h0⟩
theorem wOk_of {w:ByteArray} {k m:Int} (h:wordE w.data.toList = .ok (k,w.data.toList.length,m)) (h0:0<w.data.toList.length) (hl:w.data.toList.length<=30):wOk w:=by
 obtain ⟨e1,e2⟩:=kOf_eq h;exact ⟨h0,word_gap h h0,(by rw [e1,e2];exact h),hl⟩
theorem nm_ok {s:ByteArray} (h:nmB s=true):wOk s:=by
 obtain ⟨m,h1,h2⟩:=nm_full h;refine wOk_of h1 h2 ?_
 unfold nmB at h;simp only [Bool.and_eq_true,Bool.not_eq_true',decide_eq_false_iff_not] at h;have:=h.1;have e:s.data.toList.length=s.size:=rfl;omega
theorem nu_ok {n:Int} (h:nuB n=true):wOk (itW n):=by
 have hx:=nu_full h;refine wOk_of hx.1 hx.2 ?_
 unfold nuB at h;simp only [Bool.and_eq_true,decide_eq_true_eq] at h;have:(itW n).size<=21:=Lib.itoa_length_le n (by omega) (by omega)
 have e:(itW n).data.toList.length=(itW n).size:=rfl;omega
theorem li {w:ByteArray} {k m:Int} (h:wordE w.data.toList = .ok (k,w.data.toList.length,m)) (h0:0<w.data.toList.length) (hl:w.data.toList.length<=30:=by decide):wOk w:=wOk_of h h0 hl
theorem li_mi:wOk ⟨#[45]⟩:=li (k:=3) (m:=0) rfl (by decide)
theorem li_op:wOk ⟨#[40]⟩:=li (k:=3) (m:=0) rfl (by decide)
theorem li_cl:wOk ⟨#[41]⟩:=li (k:=3) (m:=0) rfl (by decide)
theorem li_ob:wOk ⟨#[123]⟩:=li (k:=3) (m:=0) rfl (by decide)
theorem li_cb:wOk ⟨#[125]⟩:=li (k:=3) (m:=0) rfl (by decide)
theorem li_se:wOk ⟨#[59]⟩:=li (k:=3) (m:=0) rfl (by decide)
theorem li_eq:wOk ⟨#[61]⟩:=li (k:=3) (m:=0) rfl (by decide)
theorem li_do:wOk ⟨#[46]⟩:=li (k:=3) (m:=0) rfl (by decide)
theorem li_co:wOk ⟨#[44]⟩:=li (k:=3) (m:=0) rfl (by decide)
theorem li_bi (k:Int):wOk (biW k):=by
 unfold biW;split
 ·exact li (k:=3) (m:=0) rfl (by decide)
 ·split
  ·exact li (k:=3) (m:=0) rfl (by decide)
  ·split
   ·exact li (k:=3) (m:=0) rfl (by decide)
   ·split
    ·exact li (k:=3) (m:=0) rfl (by decide)
    ·exact li (k:=3) (m:=0) rfl (by decide)
theorem li_cm (k:Int):wOk (cmW k):=by
 unfold cmW;split
 ·exact li (k:=3) (m:=0) rfl (by decide)
 ·split
  ·exact li (k:=3) (m:=0) rfl (by decide)
  ·split
   ·exact li (k:=3) (m:=0) rfl (by decide)
   ·split
    ·exact li (k:=3) (m:=0) rfl (by decide)
    ·split
     ·exact li (k:=3) (m:=0) rfl (by decide)
     ·exact li (k:=3) (m:=0) rfl (by decide)
theorem li_ch (k:Int):wOk (chW k):=by
 unfold chW;split
 ·exact li (k:=4) (m:=0) rfl (by decide)
 ·split
  ·exact li (k:=4) (m:=0) rfl (by decide)
  ·exact li (k:=4) (m:=0) rfl (by decide)
theorem kw_if:wOk ⟨#[105,102]⟩:=li (k:=4) (m:=0) rfl (by decide)
theorem kw_else:wOk ⟨#[101,108,115,101]⟩:=li (k:=4) (m:=0) rfl (by decide)
theorem kw_while:wOk ⟨#[119,104,105,108,101]⟩:=li (k:=4) (m:=0) rfl (by decide)
theorem kw_send:wOk ⟨#[115,101,110,100]⟩:=li (k:=4) (m:=0) rfl (by decide)
theorem kw_recv:wOk ⟨#[114,101,99,118]⟩:=li (k:=4) (m:=0) rfl (by decide)
theorem kw_assert:wOk ⟨#[97,115,115,101,114,116]⟩:=li (k:=4) (m:=0) rfl (by decide)
theorem kw_input:wOk ⟨#[105,110,112,117,116]⟩:=li (k:=4) (m:=0) rfl (by decide)
theorem kw_chan:wOk ⟨#[99,104,97,110]⟩:=li (k:=4) (m:=0) rfl (by decide)
theorem kw_from:wOk ⟨#[102,114,111,109]⟩:=li (k:=4) (m:=0) rfl (by decide)
theorem kw_to:wOk ⟨#[116,111]⟩:=li (k:=4) (m:=0) rfl (by decide)
theorem kw_rule:wOk ⟨#[114,117,108,101]⟩:=li (k:=4) (m:=0) rfl (by decide)
theorem kw_var:wOk ⟨#[118,97,114]⟩:=li (k:=4) (m:=0) rfl (by decide)
theorem kw_proc:wOk ⟨#[112,114,111,99]⟩:=li (k:=4) (m:=0) rfl (by decide)
theorem par_al {b:Bool} {l:List ByteArray} (h:alW l):alW (par b l):=by
 cases b with
 |false=>exact h
 |true=>exact .cons li_op (.app h (.cons li_cl .nil))
theorem xW_al {k n:Int} {s:ByteArray} {d:D} (h:aX k n s d=true):alW (xW k n s d):=by
 refine ex_ind (P:=fun k n s d=>alW (xW k n s d)) ?_ ?_ ?_ ?_ h
 ·intro n s d hn;exact .cons (nu_ok hn) .nil
 ·intro n s d hn;exact .cons (nm_ok hn) .nil
 ·intro n s d hl ih;rw [xW_3 n s (by omega)]
  exact .cons li_mi (par_al ih)
 ·intro k n s d hb hl ih0 ih1;rw [xW_4 n s hb (by omega)]
  exact .app (par_al ih0) (.cons (li_bi k) (par_al ih1))
theorem cW_al {op lk ln:Int} {ls:ByteArray} {ld:D} {rk rn:Int} {rs:ByteArray} {rd:D} (h:aC op lk ln ls ld rk rn rs rd=true):alW (cW op lk ln ls ld rk rn rs rd):=by
 have:=aC_two h;exact .cons li_op (.app (xW_al this.1) (.cons (li_cm op) (.app (xW_al this.2) (.cons li_cl .nil))))
theorem blW_al {l:List ByteArray} (h:alW l):alW (blW l):=.cons li_ob (.app h (.cons li_cb .nil))
theorem st_al {k:Int} {nm tg:ByteArray} {ek en:Int} {es:ByteArray} {ed:D} {op lk ln:Int} {ls:ByteArray} {ld:D} {rk rn:Int} {rs:ByteArray} {rd bd eb am:D}
 (Hb:bA bd=true->alW (bW bd)) (He:bA eb=true->alW (bW eb)) (Ha:∀ j,j<am.len->bA (am.el j 2)=true->alW (bW (am.el j 2))) (hA:stA k nm tg ek en es ed op lk ln ls ld rk rn rs rd bd eb am=true):alW (stW k nm tg ek en es ed op lk ln ls ld rk rn rs rd bd eb am):=by
 have hA:aStF k nm tg (aX ek en es ed) (aC op lk ln ls ld rk rn rs rd) (bA bd) (bA eb) am.len (amsA am)=true:=hA
 rcases stA_k hA with rfl |rfl |rfl |rfl |rfl |rfl |rfl
 ·have hA:(nmB nm&&aX ek en es ed)=true:=hA;simp only [Bool.and_eq_true] at hA;exact .cons (nm_ok hA.1) (.cons li_eq (.app (xW_al hA.2) (.cons li_se .nil)))
 ·have hA:(aC op lk ln ls ld rk rn rs rd&&bA bd&&bA eb)=true:=hA;simp only [Bool.and_eq_true] at hA;refine .cons kw_if (.app (cW_al hA.1.1) (.app (blW_al (Hb hA.1.2)) ?_));split
  ·exact .cons kw_else (blW_al (He hA.2))
  ·exact .nil
 ·have hA:(aC op lk ln ls ld rk rn rs rd&&bA bd)=true:=hA;simp only [Bool.and_eq_true] at hA;exact .cons kw_while (.app (cW_al hA.1) (blW_al (Hb hA.2)))
 ·have hA:(nmB nm&&nmB tg&&aX ek en es ed)=true:=hA;simp only [Bool.and_eq_true] at hA;exact .cons kw_send (.cons (nm_ok hA.1.1) (.cons li_do (.cons (nm_ok hA.1.2) (.cons li_op (.app (xW_al hA.2) (.cons li_cl (.cons li_se .nil)))))))
 ·have hA:(nmB nm&&decide ((am.len:Int)>0)&&amsA am)=true:=hA;simp only [Bool.and_eq_true] at hA;have hq:=allB_iff.1 hA.2;refine .cons kw_recv (.cons (nm_ok hA.1.1) (.cons li_ob (.app (.cat fun j hj=>?_) (.cons li_cb .nil))))
  have h1:=hq j hj;unfold arE at h1;simp only [Bool.and_eq_true] at h1;exact .cons (nm_ok h1.1.1) (.cons li_op (.cons (nm_ok h1.1.2) (.cons li_cl (blW_al (Ha j hj h1.2)))))
 ·have hA:aC op lk ln ls ld rk rn rs rd=true:=hA;exact .cons kw_assert (.app (cW_al hA) (.cons li_se .nil))
 ·have hA:nmB nm=true:=hA;exact .cons kw_input (.cons (nm_ok hA) (.cons li_se .nil))
theorem bW_al:∀ (z:Nat) (d:D),SizeOf.sizeOf d<=z->bA d=true->alW (bW d):=by
 intro z
 induction z with
 |zero=>intro d hz;cases d<;>simp at hz
 |succ z ih=>
  intro d hz hA;rw [bA_eq] at hA;have hA:=allB_iff.1 hA;rw [bW_eq];refine .cat fun i hi=>?_
  have kid:∀ j,bA (d.el i j)=true->alW (bW (d.el i j)):=fun j h=>by
   have:=lel_lt (j:=j) hi;exact ih _ (by omega) h
  have kid2:∀ j,j<(d.el i 18).len->bA ((d.el i 18).el j 2)=true->alW (bW ((d.el i 18).el j 2)):=fun j hj h=>by
   have h1:=lel_lt (j:=18) hi;have h2:=lel_lt (j:=2) hj;exact ih _ (by omega) h
  exact st_al (kid 16) (kid 17) kid2 (hA i hi)
theorem syW_al {ch ru pr:D} (hA:syB ch ru pr=true):alW (syW ch ru pr):=by
 unfold syB at hA;simp only [Bool.and_eq_true] at hA;have h1:=allB_iff.1 hA.1;have h2:=allB_iff.1 hA.2.1;have h3:=allB_iff.1 hA.2.2;refine .app (.cat fun i hi=>?_) (.app (.cat fun i hi=>?_) (.cat fun i hi=>?_))
 ·have hx:=h1 i hi;unfold chE chB at hx;simp only [Bool.and_eq_true,decide_eq_true_eq] at hx;obtain ⟨⟨⟨⟨⟨⟨⟨x1,x2⟩,x3⟩,x4⟩,x5⟩,x6⟩,x7⟩,x8⟩:=hx;have x8:=allB_iff.1 x8;refine .app (.cons kw_chan (.cons (nm_ok x1) (.cons (li_ch _) (.cons (nu_ok x4) (.cons kw_from (.cons (nm_ok x5) (.cons kw_to (.cons (nm_ok x6) (.cons li_ob .nil))))))))) (.app (.cat fun j hj=>?_) (.cons li_cb (.cons li_se .nil)))
  unfold tgW;split
  ·exact .cons li_co (.cons (nm_ok (x8 j hj)) .nil)
  ·exact .cons (nm_ok (x8 j hj)) .nil
 ·have hx:=h2 i hi;unfold ruE ruB at hx;simp only [Bool.and_eq_true] at hx;have hm:=allB_iff.1 hx.1;refine .app (.cons kw_rule (.cons (nm_ok hx.2) (.cons li_ob .nil))) (.app (.cat fun j hj=>?_) (.cons li_cb .nil))
  have hy:=hm j hj;unfold mvE at hy;simp only [Bool.and_eq_true] at hy;exact .cons (nu_ok hy.1.1) (.cons (nm_ok hy.1.2) (.cons (nu_ok hy.2) (.cons li_se .nil)))
 ·have hx:=h3 i hi;unfold prE at hx;simp only [Bool.and_eq_true] at hx;have hv:=allB_iff.1 hx.1.2;exact .app (.cons kw_proc (.cons (nm_ok hx.1.1) (.cons li_ob .nil))) (.app (.cat fun j hj=>.cons kw_var (.cons (nm_ok (hv j hj)) (.cons li_se .nil))) (.app (bW_al _ _ (Nat.le_refl _) hx.2) (.cons li_cb .nil)))
end Go.Proofs.YtbhbjhejkamlnaaGreat.Sx.Z
namespace Go.Proofs.YtbhbjhejkamlnaaGreat.Sx
open Go.RowKit Go.WideShapes
mutual
def wD:D->Nat
 | .l rows=>1+wRs rows
 | .s t=>1+t.size
 | .i _=>1
 | .b _=>1
def wRs:List (List D)->Nat
 | []=>0
 |r::l=>1+wR r+wRs l
def wR:List D->Nat
 | []=>0
 |x::r=>wD x+wR r
end
def sumN:Nat->(Nat->Nat)->Nat
 | 0,_=>0
 |n+1,f=>sumN n f+f n
theorem sumN_add (m:Nat) (f:Nat->Nat):∀ n,sumN (m+n) f=sumN m f+sumN n (fun j=>f (m+j))
 | 0=>rfl
 |n+1=>by
  show sumN (m+n) f+f (m+n)=_;rw [sumN_add m f n];show _=sumN m f+(sumN n _+f (m+n));omega
theorem sumN_le {f g:Nat->Nat}:∀ n,(∀ i,i<n->f i<=g i)->sumN n f<=sumN n g
 | 0,_=>Nat.le_refl _
 |n+1,h=>Nat.add_le_add (sumN_le n fun i hi=>h i (by omega)) (h n (by omega))
theorem sumN_eq {f g:Nat->Nat}:∀ n,(∀ i,i<n->f i=g i)->sumN n f=sumN n g
 | 0,_=>rfl
 |n+1,h=>by
  show sumN n f+f n=sumN n g+g n;rw [sumN_eq n fun i hi=>h i (by omega),h n (by omega)]
theorem sumN_mul (c:Nat) (f:Nat->Nat):∀ n,sumN n (fun i=>c*f i)=c*sumN n f
 | 0=>rfl
 |n+1=>by
  show sumN n (fun i=>c*f i)+c*f n=c*(sumN n f+f n)
  rw [sumN_mul c f n,Nat.mul_add]
theorem sumN_head (f:Nat->Nat) (n:Nat):sumN (n+1) f=f 0+sumN n (fun i=>f (i+1)):=by
 rw [Nat.add_comm n 1,sumN_add 1 f n];show 0+f 0+_=_;rw [Nat.zero_add]
 congr 1
 exact sumN_eq n fun i _=>by rw [Nat.add_comm]
theorem sumN_grid (L:Nat) (f:Nat->Nat->Nat):∀ m,sumN (m*L) (fun j=>f (j/L) (j%L))=sumN m (fun i=>sumN L (f i))
 | 0=>by rw [Nat.zero_mul];rfl
 |m+1=>by
  rw [Nat.add_mul,Nat.one_mul,sumN_add,sumN_grid L f m];show _=sumN m _+sumN L (f m)
  congr 1
  refine sumN_eq L fun j hj=>?_
  have hL:0<L:=by omega
  rw [Nat.mul_comm m L,Nat.mul_add_div hL,Nat.mul_add_mod,Nat.div_eq_of_lt hj,Nat.mod_eq_of_lt hj,Nat.add_zero]
theorem wR_app:∀ l m:List D,wR (l++m)=wR l+wR m
 | [],m=>by rw [List.nil_append];simp [wR]
 |x::l,m=>by
  show wD x+wR (l++m)=wD x+wR l+wR m;rw [wR_app l m];omega
theorem wRs_app:∀ l m:List (List D),wRs (l++m)=wRs l+wRs m
 | [],m=>by rw [List.nil_append];simp [wRs]
 |x::l,m=>by
  show 1+wR x+wRs (l++m)=1+wR x+wRs l+wRs m;rw [wRs_app l m];omega
theorem wR_map (g:Nat->D):∀ n,wR ((List.range n).map g)=sumN n (fun j=>wD (g j))
 | 0=>rfl
 |n+1=>by
  rw [List.range_succ,List.map_append,wR_app,wR_map g n];show _+(wD (g n)+0)=_;rfl
theorem wRs_map (g:Nat->List D):∀ n,wRs ((List.range n).map g)=sumN n (fun i=>1+wR (g i))
 | 0=>rfl
 |n+1=>by
  rw [List.range_succ,List.map_append,wRs_app,wRs_map g n];show _+(1+wR (g n)+0)=_;rfl
theorem wRs_mem:∀ {l:List (List D)} {r:List D},r∈l->1+wR r<=wRs l
 | [],r,h=>by cases h
 |x::l,r,h=>by
  show _<=1+wR x+wRs l
  rcases List.mem_cons.1 h with rfl |h
  ·omega
  ·have:=wRs_mem h;omega
theorem wR_mem:∀ {l:List D} {x:D},x∈l->wD x<=wR l
 | [],x,h=>by cases h
 |y::l,x,h=>by
  show _<=wD y+wR l
  rcases List.mem_cons.1 h with rfl |h
  ·omega
  ·have:=wR_mem h;omega
theorem wRs_len:∀ l:List (List D),l.length<=wRs l
 | []=>Nat.le_refl _
 |x::l=>by
  have:=wRs_len l;show l.length+1<=1+wR x+wRs l;omega
theorem wD_len (d:D):d.len<wD d:=by
 cases d with
 |l rows=>
  have:=wRs_len rows;show rows.length<1+wRs rows;omega
 |i n=>exact Nat.zero_lt_one
 |b n=>exact Nat.zero_lt_one
 |s n=>show 0<1+n.size;omega
theorem wD_el {d:D} {i:Nat} (j:Nat) (h:i<d.len):wD (d.el i j)<wD d:=by
 cases d with
 |l rows=>
  have h':i<rows.length:=h;have e:(D.l rows).el i j=(rows[i]).getD j (.i 0):=by
   show (rows.getD i []).getD j (.i 0)=_;rw [List.getD_eq_getElem?_getD (l:=rows),List.getElem?_eq_getElem h',Option.getD_some]
  rw [e,List.getD_eq_getElem?_getD];have h1:=wRs_mem (List.getElem_mem h');show _<1+wRs rows
  cases hj:(rows[i])[j]? with
  |none=>
   show 1<_;omega
  |some x=>
   have:=wR_mem (List.mem_of_getElem? hj);rw [Option.getD_some];omega
 |i n=>exact absurd h (Nat.not_lt_zero i)
 |b n=>exact absurd h (Nat.not_lt_zero i)
 |s n=>exact absurd h (Nat.not_lt_zero i)
theorem wD_str (d:D):d.toS.size<wD d:=by
 cases d with
 |s t=>show t.size<1+t.size;omega
 |l rows=>show 0<1+wRs rows;omega
 |i n=>exact Nat.zero_lt_one
 |b n=>exact Nat.zero_lt_one
def CellsU (fz:Fz) (ks:List K) (cs:List Value) (b:Nat):Prop:=cs.length=ks.length/\∃ g:Nat->D,(∀ (j:Nat) k,ks[j]? = some k->∃ u,cs[j]? = some u/\TRel fz k (g j) u/\DOk k (g j))/\sumN ks.length (fun j=>wD (g j))+1<=2*b
theorem cellsU_one {fz:Fz} {k:K} {v:Value} {d:D} {b:Nat} (h:TRel fz k d v) (hd:DOk k d) (hb:wD d+1<=2*b):CellsU fz [k] [v] b:=⟨rfl,fun _=>d,fun j k' hk=>by
 cases j with
 |zero=>simp only [List.getElem?_cons_zero,Option.some.injEq] at hk;subst hk;exact ⟨v,rfl,h,hd⟩
 |succ j=>simp at hk,by show 0+wD d+1<=_;omega⟩
section
variable {P:Program} {tt:TT} {H:Type} {enc:TypeId × Value->H} {w:World} {base:Nat} {spare:Nat->Bool} {held:Bool}
def bl (l:List (DataW H)) (i:Nat):Nat:=match l[i]? with |some d=>Rows.uptoBulk d |none=>0
theorem bl_all:∀ l:List (DataW H),Rows.uptoBulkAll l=sumN l.length (bl l)
 | []=>by simp [Rows.uptoBulkAll];rfl
 |d::l=>by
  rw [List.length_cons,sumN_head,Rows.uptoBulkAll,bl_all l];rfl
theorem bl_get {l:List (DataW H × List MemPlace)} {i:Nat} (h:i<l.length):bl (l.map (·.1)) i=Rows.uptoBulk (l[i]).1:=by
 unfold bl;rw [List.getElem?_map,List.getElem?_eq_getElem h];rfl
theorem kF_inU {n:Nat} {f:Nat} (ih:∀ (t:TypeId) (ks:List K) (cs:List Value) x,kT tt f t=some ks->DataW.trod enc P w base spare held n t cs=some x->CellsU (cellsAt w) ks cs (Rows.uptoBulk x.1)) {cs:List Value} :
 ∀ (fs:List (TypeId × Nat)) (q:Nat) (ks:List K) (bs:Nat->Nat),kF (kT tt f) fs q=some ks->(∀ (i:Nat) p,fs[i]? = some p->∃ x,DataW.trod enc P w base spare held n p.1 ((cs.drop p.2).take (P.cellsOf p.1))=some x/\Rows.uptoBulk x.1<=bs i) ->
   ∃ g:Nat->D,(∀ (j:Nat) k,ks[j]? = some k->∃ u,cs[q+j]? = some u/\TRel (cellsAt w) k (g j) u/\DOk k (g j))/\sumN ks.length (fun j=>wD (g j))<=2*sumN fs.length bs
 | [],q,ks,bs,h,_=>by
   simp only [kF,Option.some.injEq] at h;subst h;exact ⟨fun _=>.i 0,fun j k hk=>by simp at hk,Nat.zero_le _⟩
 |(T,o)::r,q,ks,bs,h,hf=>by
  simp only [kF] at h
  split at h
  ·rename_i ho;obtain rfl:=Nat.eq_of_beq_eq_true ho
   split at h
   ·rename_i a ha
    split at h
    ·rename_i b hb;obtain rfl:=by simpa using h
     obtain ⟨x,hx,hw⟩:=hf 0 (T,o) rfl;obtain ⟨h1,g1,h2,h3⟩:=ih T a _ x ha hx;obtain ⟨g2,h4,h5⟩:=kF_inU ih r (o+a.length) b (fun i=>bs (i+1)) hb (fun i p hp=>hf (i+1) p (by simpa using hp))
     refine ⟨fun j=>if j<a.length then g1 j else g2 (j-a.length),fun j k hk=>?_,?_⟩
     ·by_cases hj:j<a.length
      ·rw [List.getElem?_append_left hj] at hk;obtain ⟨u,hu,hr,hd⟩:=h2 j k hk;simp only [if_pos hj];refine ⟨u,?_,hr,hd⟩;have hlt:=lt_of_get hu;rw [List.length_take] at hlt;rw [List.getElem?_take_of_lt (by omega),List.getElem?_drop] at hu
       exact hu
      ·rw [List.getElem?_append_right (by omega)] at hk
       obtain ⟨u,hu,hr,hd⟩:=h4 (j-a.length) k hk;simp only [if_neg hj];exact ⟨u,by rw [<- hu];congr 1;omega,hr,hd⟩
     ·rw [List.length_append,sumN_add,List.length_cons,sumN_head,Nat.mul_add];refine Nat.add_le_add ?_ ?_
      ·rw [sumN_eq (g:=fun j=>wD (g1 j)) a.length fun i hi=>by dsimp only;rw [if_pos hi]]
       omega
      ·rw [sumN_eq (g:=fun j=>wD (g2 j)) b.length fun i hi=>by dsimp only;rw [if_neg (by omega),Nat.add_sub_cancel_left]]
       exact h5
    ·cases h
   ·cases h
  ·cases h
theorem in_cellsU (htt:TTOK P tt) (hka:kAll tt=true):∀ (n f:Nat) (t:TypeId) (ks:List K) (cs:List Value) x,kT tt f t=some ks->DataW.trod enc P w base spare held n t cs=some x->CellsU (cellsAt w) ks cs (Rows.uptoBulk x.1)
 | 0,f,t,ks,cs,x,_,h=>by simp [DataW.trod] at h
 |n+1,0,t,ks,cs,x,hk,h=>by simp [kT] at hk
 |n+1,f+1,t,ks,cs,x,hk,h=>by
  unfold kT at hk
  split at hk
  ·rename_i hu;obtain ⟨d,hd,hq⟩:=tt_u htt hu;obtain rfl:d = .bool:=by cases d<;>simp [uOf] at hq<;>rfl
   obtain ⟨b,rfl,rfl⟩:=DataW.trod_bool hd h;obtain rfl:=by simpa using hk
   exact cellsU_one (.bool (.b b)) (.bool _) (Nat.le_refl 2)
  ·rename_i k hu;obtain ⟨d,hd,hq⟩:=tt_u htt hu;obtain rfl:d = .int k:=by cases d<;>simp [uOf] at hq<;>rw [hq]
   obtain ⟨b,rfl,rfl,hw⟩:=DataW.trod_int hd h;obtain rfl:=by simpa using hk
   exact cellsU_one (.int k (.i b)) (.int _ _ hw) (Nat.le_refl 2)
  ·rename_i hu;obtain ⟨d,hd,hq⟩:=tt_u htt hu;obtain rfl:d = .string:=by cases d<;>simp [uOf] at hq<;>rfl
   obtain ⟨b,rfl,rfl,hw⟩:=DataW.trod_string hd h;obtain rfl:=by simpa using hk
   refine cellsU_one (.str (.s b)) (.str _ hw) ?_
   rw [Rows.uptoBulk];have e:b.data.toList.length=b.size:=by rw [Array.length_toList];rfl
   show 1+b.size+1<=2*(b.data.toList.length+1);omega
  ·rename_i e hu;obtain ⟨d,hd,hq⟩:=tt_u htt hu;obtain rfl:d = .slice e:=by cases d<;>simp [uOf] at hq<;>rw [hq]
   split at hk
   ·rename_i kse hkse;obtain rfl:=by simpa using hk
    obtain ⟨hek,hpos,q,z,hq1,hq2,_⟩:=tt_ks htt hkse;have hce:P.cellsOf e=(eks e).length:=by simp [Program.cellsOf,hq1,hq2,hek]
    rcases DataW.trod_slice hd h with ⟨rfl,rfl⟩ |⟨a,len,cap,elems,rest,m,hm,rfl,rfl,_,hlc,hcm,hel,hget,_⟩
    ·exact cellsU_one (.nil e (.l []) rfl) (.slice _ _ (Nat.zero_le _) (fun i j k hi=>absurd hi (Nat.not_lt_zero i))) (by rw [Rows.uptoBulk];show 1+0+1<=2*1;omega)
    ·obtain rfl:n=m:=by omega
     rw [Rows.uptoBulk,bl_all,List.length_map,hel]
     by_cases h0:len=0
     ·subst h0;exact cellsU_one (.empty e (.l []) a cap rfl) (.slice _ _ (Nat.zero_le _) (fun i j k hi=>absurd hi (Nat.not_lt_zero i))) (by show 1+0+1<=2*(_+1);omega)
     ·have each0:∀ i:Nat,∃ g:Nat->D,i<len->(∀ (j:Nat) k,(eks e)[j]? = some k->∃ u,w.cell? (a.add (i*(eks e).length+j))=some u/\TRel (cellsAt w) k (g j) u/\DOk k (g j))/\sumN (eks e).length (fun j=>wD (g j))+1<=2*bl (elems.map (·.1)) i:=fun i=>by
       by_cases hi:i<len
       ·have h1:=hget i hi;rw [List.getElem?_eq_getElem (by omega)] at h1
        obtain ⟨cs',g1,g2⟩:=Option.bind_eq_some_iff.1 h1;obtain ⟨g3,g,g4,g5⟩:=in_cellsU htt hka n 9 e kse cs' _ (kAll_ks hka hkse) g2;refine ⟨g,fun _=>⟨fun j k hj=>?_,?_⟩⟩
        ·obtain ⟨u,hu,hr⟩:=g4 j k (by rw [<- hek];exact hj)
         obtain ⟨_,_,hc⟩:=World.cells?_some g1;have:=hc j (by rw [hce];exact lt_of_get hj)
         rw [hu,hce,addr_add2] at this;exact ⟨u,this,hr⟩
        ·rw [bl_get (by omega),hek]
         exact g5
       ·exact ⟨fun _=>.i 0,fun hi'=>absurd hi' hi⟩
      obtain ⟨G,hG⟩:=Classical.skolem.1 each0;have hsp:a.spot=none:=by
       obtain ⟨k0,hk0⟩:∃ k0,(eks e)[0]? = some k0:=⟨_,List.getElem?_eq_getElem (by rw [hek];exact hpos)⟩
       obtain ⟨u,hu,_⟩:=(hG 0 (by omega)).1 0 k0 hk0
       have:=(cellsAt_cell hu).1
       simpa [Addr.add] using this
      obtain ⟨ab,ao,as1⟩:=a;obtain rfl:as1=none:=hsp;have each:∀ p:Nat × Nat,∃ u:Value,p.1<len->∀ k,(eks e)[p.2]? = some k->w.cell? ((⟨ab,ao,none⟩:Addr).add (p.1*(eks e).length+p.2))=some u/\TRel (cellsAt w) k (G p.1 p.2) u/\DOk k (G p.1 p.2):=fun p=>by
       by_cases hp:p.1<len
       ·cases hk:(eks e)[p.2]? with
        |none=>exact ⟨undef,fun _ k hk'=>by cases hk'⟩
        |some k=>
         obtain ⟨u,hh⟩:=(hG p.1 hp).1 p.2 k hk;exact ⟨u,fun _ k' hk'=>by cases hk';exact hh⟩
       ·exact ⟨undef,fun hp'=>absurd hp' hp⟩
      obtain ⟨F,hF⟩:=Classical.skolem.1 each;have hwd:wD (D.l ((List.range len).map fun i=>(List.range (eks e).length).map fun j=>G i j))=1+sumN len (fun i=>1+sumN (eks e).length (fun j=>wD (G i j))):=by
       show 1+wRs _=_;rw [wRs_map]
       congr 1
       exact sumN_eq len fun i _=>by rw [wR_map]
      have hdl:(D.l ((List.range len).map fun i=>(List.range (eks e).length).map fun j=>G i j)).len=len:=by
       show ((List.range len).map _).length=len
       simp
      have hde:∀ i j,i<len->j<(eks e).length->(D.l ((List.range len).map fun i=>(List.range (eks e).length).map fun j=>G i j)).el i j=G i j:=fun i j hi hj=>by
       show (((List.range len).map fun i=>(List.range (eks e).length).map fun j=>G i j).getD i []).getD j (.i 0)=_
       rw [List.getD_eq_getElem?_getD,List.getD_eq_getElem?_getD,List.getElem?_map,List.getElem?_range hi];simp only [Option.map_some,Option.getD_some];rw [List.getElem?_map,List.getElem?_range hj];rfl
      generalize hdd:D.l ((List.range len).map fun i=>(List.range (eks e).length).map fun j=>G i j)=dd at hdl hde hwd
      refine cellsU_one (d:=dd) ?_ (.slice _ _ (by omega) fun i j k hi hk=>?_) ?_
      ·rw [<- hdl];refine .slice e dd ab ao cap (fun i j=>F (i,j)) (by omega) (fun i j hi hj=>?_) (fun i j k hi hk=>?_)
       ·obtain ⟨g1,_⟩:=hF (i,j) (by rw [<- hdl];exact hi) _ (List.getElem?_eq_getElem hj)
        have:=(cellsAt_cell g1).2;rw [Sx.addr_add] at this;rw [Nat.add_assoc];exact this
       ·rw [hde i j (by rw [<- hdl];exact hi) (lt_of_get hk)]
        exact (hF (i,j) (by rw [<- hdl];exact hi) k hk).2.1
      ·rw [hde i j (by rw [<- hdl];exact hi) (lt_of_get hk)]
       exact (hF (i,j) (by rw [<- hdl];exact hi) k hk).2.2
      ·rw [hwd];have:=sumN_le (f:=fun i=>1+sumN (eks e).length (fun j=>wD (G i j))) (g:=fun i=>2*bl (elems.map (·.1)) i) len fun i hi=>by
        have:=(hG i hi).2;omega
       rw [sumN_mul] at this;omega
   ·cases hk
  ·rename_i m e hu;obtain ⟨d,hd,hq⟩:=tt_u htt hu;obtain rfl:d = .array m e:=by cases d<;>simp [uOf] at hq<;>rw [hq.1,hq.2]
   split at hk
   ·rename_i kse hkse
    split at hk
    ·rename_i kse' hse;obtain ⟨_,hsze⟩:=szOK_some hse;obtain ⟨rfl,hsz⟩:=szOK_some hk;obtain ⟨xs,m',hm,rfl,hl,hxl,hel⟩:=DataW.trod_array hd h;obtain rfl:n=m':=by omega
     have hl':cs.length=(List.replicate m kse).flatten.length:=by rw [hl,szT_cells htt hsz]
     have hce:P.cellsOf e=kse.length:=szT_cells htt hsze;have hfl:(List.replicate m kse).flatten.length=m*kse.length:=by simp
     have each0:∀ i:Nat,∃ g:Nat->D,i<m->(∀ (j:Nat) k,kse[j]? = some k->∃ u,((cs.drop (i*P.cellsOf e)).take (P.cellsOf e))[j]? = some u/\TRel (cellsAt w) k (g j) u/\DOk k (g j))/\sumN kse.length (fun j=>wD (g j))+1<=2*bl (xs.map (·.1)) i:=fun i=>by
      by_cases hi:i<m
      ·have h1:=hel i hi;rw [List.getElem?_eq_getElem (by rw [hxl];exact hi)] at h1
       obtain ⟨g3,g,g4,g5⟩:=in_cellsU htt hka n f e kse _ _ hkse h1;exact ⟨g,fun _=>⟨g4,by rw [bl_get (by rw [hxl];exact hi)];exact g5⟩⟩
      ·exact ⟨fun _=>.i 0,fun hi'=>absurd hi' hi⟩
     obtain ⟨G,hG⟩:=Classical.skolem.1 each0;refine ⟨hl',fun j=>G (j/kse.length) (j%kse.length),fun j k hj=>?_,?_⟩
     ·rw [flat_get] at hj
      split at hj
      ·rename_i hjl;have hpos:0<kse.length:=by
        rcases Nat.eq_zero_or_pos kse.length with h0 |h0
        ·rw [h0] at hjl;simp at hjl
        ·exact h0
       have hi:j/kse.length<m:=by rw [Nat.div_lt_iff_lt_mul hpos];exact hjl
       obtain ⟨u,hu',hr,hd'⟩:=(hG (j/kse.length) hi).1 _ k hj;refine ⟨u,?_,hr,hd'⟩;rw [hce,List.getElem?_take_of_lt (Nat.mod_lt _ hpos),List.getElem?_drop,Nat.div_add_mod'] at hu';exact hu'
      ·cases hj
     ·rw [hfl,sumN_grid kse.length (fun i j=>wD (G i j)),Rows.uptoBulk,bl_all,List.length_map,hxl]
      have:=sumN_le (f:=fun i=>sumN kse.length (fun j=>wD (G i j))) (g:=fun i=>2*bl (xs.map (·.1)) i) m fun i hi=>by
       have:=(hG i hi).2;omega
      rw [sumN_mul] at this;omega
    ·cases hk
   ·cases hk
  ·rename_i fs hu;obtain ⟨d,hd,hq⟩:=tt_u htt hu
   split at hk
   ·rename_i kse hkse;obtain ⟨rfl,hsz⟩:=szOK_some hk;obtain ⟨fa,rfl⟩:∃ fa,d = .struct fa:=by cases d<;>simp [uOf] at hq<;>exact ⟨_,rfl⟩
    obtain ⟨xs,m',hm,rfl,hl,hxl,hel⟩:=DataW.trod_struct hd h;obtain rfl:n=m':=by omega
    simp only [uOf,UD.struct.injEq] at hq;have hfs:fs.length=xs.length:=by rw [<- hq,List.length_map,hxl];simp
    obtain ⟨g,g1,g2⟩:=kF_inU (cs:=cs) (fun t ks cs x=>in_cellsU htt hka n f t ks cs x) fs 0 _ (bl (xs.map (·.1))) hkse (fun i p hp=>by
     rw [<- hq,List.getElem?_map] at hp;obtain ⟨fl,hfl,rfl⟩:=Option.map_eq_some_iff.1 hp;have hi:i<xs.length:=by rw [<- hfs,<- hq,List.length_map];exact lt_of_get hfl
     have h1:=hel i fl (by rw [<- Array.getElem?_toList];exact hfl)
     rw [List.getElem?_eq_getElem hi] at h1;exact ⟨_,h1,by rw [bl_get hi];exact Nat.le_refl _⟩)
    refine ⟨by rw [hl,szT_cells htt hsz],g,fun j k hj=>?_,?_⟩
    ·have:=g1 j k hj;rw [Nat.zero_add] at this;exact this
    ·rw [Rows.uptoBulk,bl_all,List.length_map,<- hfs];omega
   ·cases hk
  ·cases hk
theorem val_inU (htt:TTOK P tt) (hka:kAll tt=true) {T:TypeId} {v:Value} {dw:DataW H} {ps:List MemPlace} (h:DataW.Trod enc P w base spare held T v dw ps) {w1:World} {r:Reach} {b0:Nat} (hok:Value.okWide P w1 r b0 T v) :
 ∃ d:D,DatIn tt T d/\wD d<=2*Rows.uptoBulk dw+1/\∀ sv,inV tt T d=some sv->UR (Map.at0 (cellsAt w)) sv v:=by
 cases hk:kT tt 9 T with
 |none=>exact ⟨.i 0,(fun ks h=>by rw [hk] at h;cases h),Nat.le_add_left _ _,fun sv hs=>by unfold inV at hs;rw [hk] at hs;cases hs⟩
 |some ks=>
 obtain ⟨fuel,hf⟩:=h;obtain ⟨h1,F,h2,h3⟩:=in_cellsU htt hka fuel 9 T ks _ _ hk hf;have hde:∀ j,j<ks.length->(D.l [(List.range ks.length).map F]).el 0 j=F j:=fun j hj=>by
  show ((List.range ks.length).map F).getD j (.i 0)=F j;rw [List.getD_eq_getElem?_getD,List.getElem?_map,List.getElem?_range hj];rfl
 have hE:∀ (j:Nat) k,ks[j]? = some k->∃ u,v.cells.toList[j]? = some u/\TRel (Map.at0 (cellsAt w)).fz k ((D.l [(List.range ks.length).map F]).el 0 j) u:=fun j k hj=>by
  obtain ⟨u,g1,g2,_⟩:=h2 j k hj;rw [hde j (lt_of_get hj)];exact ⟨u,g1,g2⟩
 refine ⟨.l [(List.range ks.length).map F],?_,?_,fun sv hs=>?_⟩
 ·intro ks' hks' j k hj;rw [hk] at hks';obtain rfl:=Option.some.inj hks';obtain ⟨u,_,_,g3⟩:=h2 j k hj;rw [hde j (lt_of_get hj)];exact g3
 ·have h3:_<=2*Rows.uptoBulk dw:=h3;show 1+(1+wR ((List.range ks.length).map F)+0)<=_;rw [wR_map];omega
 ·unfold inV at hs;rw [hk] at hs
  split at hs
  ·rename_i k hks hsh;obtain rfl:=by simpa using hks
   obtain ⟨dd,hd,hda⟩:=shapeOf_none (tt_shape htt hsh);have hc:=not_agg hd hda hok
   split at hs
   ·rename_i c hcc;obtain rfl:=by simpa using hs
    obtain ⟨u,g1,g2⟩:=hE 0 k rfl;rw [hc] at g1;obtain rfl:v=u:=by simpa using g1
    exact cellSC_spec hcc g2
   ·cases hs
  ·rename_i ks' L hks hsh;obtain rfl:=by simpa using hks
   obtain ⟨dd,i,hd,hda,_,_⟩:=shapeOf_some (tt_shape htt hsh);obtain ⟨cs,rfl⟩:=is_agg hd hda hok
   split at hs
   ·rename_i hsz
    split at hs
    ·rename_i s hss;obtain rfl:=by simpa using hs
     obtain ⟨e1,e2⟩:=elSegs_val hE L 0 s hss;refine ⟨cs,rfl,?_,fun i x u hx hu=>?_⟩
     ·rw [e1,Nat.eq_of_beq_eq_true hsz,<- h1];rfl
     ·obtain ⟨u',g1,g2⟩:=e2 i x hx;rw [Nat.zero_add] at g1;have:u=u':=by
       have h3:cs.toList[i]? = some u':=g1;rw [hu] at h3;exact Option.some.inj h3
      rw [this];exact g2
    ·cases hs
   ·cases hs
  ·cases hs
theorem args_inU (htt:TTOK P tt) (hka:kAll tt=true):∀ (Ts:List TypeId) (vs:List Value) (ds:List (DataW H)) (ps:List MemPlace),DataW.TrodAll enc P w base spare held Ts vs ds ps->∀ {w1:World} {r:Reach} {b0:Nat},(∀ (j:Nat) t v,Ts[j]? = some t->vs[j]? = some v->Value.okWide P w1 r b0 t v) ->
 ∃ Ds:List D,DsOk tt Ts Ds/\(∀ d∈Ds,wD d<=2*Rows.uptoBulkAll ds+1)/\∀ svs,inVs tt Ts Ds=some svs->ArgsRel (Map.at0 (cellsAt w)) svs vs
 | [],vs,ds,ps,h,_,_,_,_=>by
   obtain ⟨rfl,_⟩:=Go.ChangeShapes.trodAll_nil h;exact ⟨[],trivial,fun _ h=>(by cases h),fun svs hs=>by simp only [inVs,Option.some.injEq] at hs;subst hs;trivial⟩
 |T::Ts,vs,ds,ps,h,_,_,_,hok=>by
  obtain ⟨v,vs',d,ds',p,q,rfl,rfl,_,h1,h2⟩:=Go.ChangeShapes.trodAll_cons h;obtain ⟨d0,a1,a3,a2⟩:=val_inU htt hka h1 (hok 0 T v rfl rfl);obtain ⟨D0,b1,b3,b2⟩:=args_inU htt hka Ts vs' ds' q h2 (fun j t v ht hv=>hok (j+1) t v (by simpa using ht) (by simpa using hv))
  refine ⟨d0::D0,⟨a1,b1⟩,fun x hx=>?_,fun svs hs=>?_⟩
  ·rw [Rows.uptoBulkAll]
   rcases List.mem_cons.1 hx with rfl |hx
   ·omega
   ·have:=b3 x hx;omega
  simp only [inVs] at hs
  split at hs
  ·rename_i x r hx hr;obtain rfl:=by simpa using hs
   exact ⟨a2 _ hx,b2 _ hr⟩
  ·cases hs
theorem law_inU (htt:TTOK P tt) (hka:kAll tt=true) {f:FuncId} {c:Con} (hc:ConOK P f c) {params:Array TypeId} {args:Array Value} {ds:List (DataW H)} {ps:List MemPlace} (h:DataW.TrodAll enc P w base spare held params.toList args.toList ds ps) (hb:Rows.uptoBulkAll ds<=1048576)
 {w1:World} {r:Reach} {b0:Nat} (hok:∀ (j:Nat) t v,params[j]? = some t->args[j]? = some v->Value.okWide P w1 r b0 t v) (hl:∀ Ds,DsOk tt params.toList Ds->(∀ d∈Ds,wD d<=2097153)->lawOb tt c params.toList Ds) (ht:TabF (cellsAt w)) :
 Calls P f args w fun e w'=>e = .returned (.bool true)/\Below w.heap.size w w':=by
 obtain ⟨Ds,h1,h0,h2⟩:=args_inU htt hka _ _ _ _ h (fun j t v ht hv=>hok j t v (by simpa using ht) (by simpa using hv))
 have h3:=hl Ds h1 (fun d hd=>Nat.le_trans (h0 d hd) (by omega))
 unfold lawOb at h3
 split at h3
 ·rename_i svs hs
  split at h3
  ·rename_i e he
   split at h3
   ·rename_i b hv hst;have:=hc.calls [] 0 svs e he h3.2 _ w _ args.toList (wh_nil w ht) (fun _ _ _=>rfl) (h2 svs hs)
    rw [Array.toArray_toList] at this;refine this.mono ?_
    rintro en w' ⟨ρ',v,rfl,g1,g2⟩;refine ⟨?_,g2.below.1,g2.below.2,g2.below.3,g2.below.size,fun k hk=>g2.keep k hk fun _ _ h=>by rw [hst] at h;simp [look] at h⟩
    rw [hv] at g1;have:v = .bool b.v:=g1;rw [this,h3.1]
   ·exact h3.elim
  ·exact h3.elim
 ·exact h3.elim
end
end Go.Proofs.YtbhbjhejkamlnaaGreat.Sx
