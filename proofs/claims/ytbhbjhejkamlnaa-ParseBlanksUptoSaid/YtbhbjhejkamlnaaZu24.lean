import Derived.Lib.ItoaLen
import Derived.Test.YtbhbjhejkamlnaaZu23
set_option linter.unusedVariables false
set_option linter.unusedSimpArgs false
namespace Go.Proofs.Ytbhbjhejkamlnaa.Sx.Z
open Go.RowKit
theorem lel_lt {d:D} {i j:Nat} (h:i<d.len):SizeOf.sizeOf (d.el i j)<SizeOf.sizeOf d:=by
 cases d with
 |l rows=>
  have h':i<rows.length:=h
  have e:(D.l rows).el i j=(rows[i]).getD j (.i 0):=by
   show (rows.getD i []).getD j (.i 0)=_
   rw [List.getD_eq_getElem?_getD (l:=rows),List.getElem?_eq_getElem h',Option.getD_some]
  rw [e,List.getD_eq_getElem?_getD]
  have h1:=List.sizeOf_lt_of_mem (List.getElem_mem h')
  cases hj:(rows[i])[j]? with
  |none=>
   rw [Option.getD_none]
   have:SizeOf.sizeOf (D.i 0)=1+SizeOf.sizeOf (0:Int):=rfl
   have e2:SizeOf.sizeOf (0:Int)=1:=rfl
   have:SizeOf.sizeOf (D.l rows)=1+SizeOf.sizeOf rows:=by simp
   have h2:1<=SizeOf.sizeOf (rows[i]):=by cases rows[i]<;>simp<;>omega
   omega
  |some x=>
   rw [Option.getD_some]
   have h2:=List.sizeOf_lt_of_mem (List.mem_of_getElem? hj)
   have:SizeOf.sizeOf (D.l rows)=1+SizeOf.sizeOf rows:=by simp
   omega
 |i n=>exact absurd h (Nat.not_lt_zero i)
 |b n=>exact absurd h (Nat.not_lt_zero i)
 |s n=>exact absurd h (Nat.not_lt_zero i)
def nmB (s:ByteArray):Bool:=!decide ((s.size:Int)>12)&&((lexR s).2.2==0&&((tokD (lexR s).1).len:Int)==1&&((tokD (lexR s).1).el 0 0).toI==1&&(((tokD (lexR s).1).el 0 1).toS.toList==s.toList))
def nuB (n:Int):Bool:=decide (n>=0)&&decide (n<=2147483647)
def biB (k:Int):Bool:=decide (k>=4)&&decide (k<=8)
def aXb (k n:Int) (s:ByteArray) (len:Int) (f:Nat->Bool):Bool:=
 if k=1 then nuB n else if k=2 then nmB s else if k=3 then len==1&&f 0 else if biB k=true then len==2&&f 0&&f 1 else false
def aE (d:D) (i:Nat):Bool:=if _h:i<d.len then aXb (d.el i 0).toI (d.el i 1).toI (d.el i 2).toS (d.el i 3).len (fun j=>aE (d.el i 3) j) else false
 termination_by SizeOf.sizeOf d
 decreasing_by exact lel_lt (by assumption)
def aX (k n:Int) (s:ByteArray) (d:D):Bool:=aXb k n s d.len (aE d)
theorem bi_in {k:Int} (h:biB k=true):4<=k/\k<=8:=by unfold biB at h;simp at h;omega
theorem aX_bin {k n:Int} {s:ByteArray} {d:D} (h:biB k=true):aX k n s d=((d.len:Int)==2&&aE d 0&&aE d 1):=by
 have hb:=bi_in h
 unfold aX aXb
 rw [if_neg (by omega),if_neg (by omega),if_neg (by omega),if_pos h]
theorem aX_no {k n:Int} {s:ByteArray} {d:D} (h1:k≠1) (h2:k≠2) (h3:k≠3) (h:biB k=false):aX k n s d=false:=by
 unfold aX aXb
 rw [if_neg h1,if_neg h2,if_neg h3,if_neg (by rw [h];decide)]
theorem aE_eq {d:D} {i:Nat} (h:i<d.len):aE d i=aX (d.el i 0).toI (d.el i 1).toI (d.el i 2).toS (d.el i 3):=by
 rw [aE,dif_pos h];rfl
def allB (n:Nat) (f:Nat->Bool):Bool:=(List.range n).all f
theorem allB_iff {n:Nat} {f:Nat->Bool}:allB n f=true ↔ ∀ i,i<n->f i=true:=by
 unfold allB
 rw [List.all_eq_true]
 exact ⟨fun h i hi=>h i (List.mem_range.2 hi),fun h i hi=>h i (List.mem_range.1 hi)⟩
theorem allB_yes {n:Nat} {f:Nat->Bool} (h:∀ i,i<n->f i=true):allB n f=true:=allB_iff.2 h
theorem allB_no {n i:Nat} {f:Nat->Bool} (hi:i<n) (h:f i=false):allB n f=false:=by
 cases hc:allB n f with
 |false=>rfl
 |true=>rw [allB_iff.1 hc i hi] at h;cases h
theorem allF_eq {n:Nat} (f:Nat->Bool):((List.finRange n).all fun i=>f i.1)=allB n f:=by
 have h1:((List.finRange n).all fun i=>f i.1)=true↔allB n f=true:=by
  rw [allB_iff,List.all_eq_true]
  exact ⟨fun h i hi=>h ⟨i,hi⟩ (List.mem_finRange _),fun h i _=>h i.1 i.2⟩
 cases hc:allB n f with
 |true=>exact h1.2 hc
 |false=>
  cases hd:((List.finRange n).all fun i=>f i.1) with
  |false=>rfl
  |true=>rw [h1.1 hd] at hc;cases hc
def aC (op lk ln:Int) (ls:ByteArray) (ld:D) (rk rn:Int) (rs:ByteArray) (rd:D):Bool:=decide (op>=1)&&decide (op<=6)&&aX lk ln ls ld&&aX rk rn rs rd
def aStF (k:Int) (nm tg:ByteArray) (e c b el:Bool) (al:Int) (a:Bool):Bool:=
 if k=1 then nmB nm&&e else if k=2 then c&&b&&el else if k=3 then c&&b else if k=4 then nmB nm&&nmB tg&&e else if k=5 then nmB nm&&decide (al>0)&&a else if k=6 then c else if k=7 then nmB nm else false
def bA (d:D):Bool:=(List.finRange d.len).all fun (i:Fin d.len)=>aStF (d.el i 0).toI (d.el i 1).toS (d.el i 2).toS (aX (d.el i 3).toI (d.el i 4).toI (d.el i 5).toS (d.el i 6)) (aC (d.el i 7).toI (d.el i 8).toI (d.el i 9).toI (d.el i 10).toS (d.el i 11) (d.el i 12).toI (d.el i 13).toI (d.el i 14).toS (d.el i 15)) (bA (d.el i 16)) (bA (d.el i 17)) (d.el i 18).len
    ((List.finRange (d.el i 18).len).all fun (j:Fin (d.el i 18).len)=>nmB ((d.el i 18).el j 0).toS&&nmB ((d.el i 18).el j 1).toS&&bA ((d.el i 18).el j 2))
 termination_by SizeOf.sizeOf d
 decreasing_by
  ·exact lel_lt i.isLt
  ·exact lel_lt i.isLt
  ·exact Nat.lt_trans (lel_lt j.isLt) (lel_lt i.isLt)
def arE (am:D) (j:Nat):Bool:=nmB (am.el j 0).toS&&nmB (am.el j 1).toS&&bA (am.el j 2)
def amsA (am:D):Bool:=allB am.len (arE am)
def stA (k:Int) (nm tg:ByteArray) (ek en:Int) (es:ByteArray) (ed:D) (op lk ln:Int) (ls:ByteArray) (ld:D) (rk rn:Int) (rs:ByteArray) (rd bd eb am:D):Bool:=
 aStF k nm tg (aX ek en es ed) (aC op lk ln ls ld rk rn rs rd) (bA bd) (bA eb) am.len (amsA am)
def stE (d:D) (i:Nat):Bool:=stA (d.el i 0).toI (d.el i 1).toS (d.el i 2).toS (d.el i 3).toI (d.el i 4).toI (d.el i 5).toS (d.el i 6) (d.el i 7).toI (d.el i 8).toI (d.el i 9).toI (d.el i 10).toS (d.el i 11) (d.el i 12).toI (d.el i 13).toI (d.el i 14).toS (d.el i 15) (d.el i 16) (d.el i 17) (d.el i 18)
theorem bA_eq (d:D):bA d=allB d.len (stE d):=by
 rw [bA,<- allF_eq]
 congr 1
 funext i
 unfold stE stA amsA
 rw [<- allF_eq]
 rfl
def nsE (d:D) (i:Nat):Bool:=nmB (d.el i 0).toS
def nsA (d:D):Bool:=allB d.len (nsE d)
def chB (nm:ByteArray) (k sz:Int) (f t:ByteArray) (tg:D):Bool:=nmB nm&&decide (k>=0)&&decide (k<=2)&&nuB sz&&nmB f&&nmB t&&decide ((tg.len:Int)>0)&&nsA tg
def mvE (d:D) (i:Nat):Bool:=nuB (d.el i 0).toI&&nmB (d.el i 1).toS&&nuB (d.el i 2).toI
def ruB (nm:ByteArray) (mv:D):Bool:=allB mv.len (mvE mv)&&nmB nm
def chE (d:D) (i:Nat):Bool:=chB (d.el i 0).toS (d.el i 1).toI (d.el i 2).toI (d.el i 3).toS (d.el i 4).toS (d.el i 5)
def ruE (d:D) (i:Nat):Bool:=ruB (d.el i 0).toS (d.el i 1)
def prE (d:D) (i:Nat):Bool:=nmB (d.el i 0).toS&&nsA (d.el i 1)&&bA (d.el i 2)
def syB (ch ru pr:D):Bool:=allB ch.len (chE ch)&&(allB ru.len (ruE ru)&&allB pr.len (prE pr))
def suB (k:Int):Bool:=k==4 ||k==5
def brB (k i q:Int):Bool:=if k=3 then biB q else if k=4 ∨ k=5 then i==1&&suB q else if k=6 ∨ k=7 ∨ k=8 then suB q ||(i==1&&biB q) else false
def inB (b:Bool):Int:=if b=true then 1 else 0
def xNb (k dp:Int) (q:Nat->Int) (f:Nat->Int->Bool):Bool:=
 if dp>24 then false else if k=3 then f 0 (dp+1+inB (brB 3 0 (q 0))) else if biB k=true then f 0 (dp+inB (brB k 0 (q 0)))&&f 1 (dp+inB (brB k 1 (q 1))) else true
def kN (d:D) (i:Nat) (dp:Int):Bool:=if _h:i<d.len then xNb (d.el i 0).toI dp (fun j=>((d.el i 3).el j 0).toI) (fun j q=>kN (d.el i 3) j q) else true
 termination_by SizeOf.sizeOf d
 decreasing_by exact lel_lt (by assumption)
def xN (k:Int) (d:D) (dp:Int):Bool:=xNb k dp (fun j=>(d.el j 0).toI) (kN d)
theorem kN_eq {d:D} {i:Nat} (h:i<d.len) (dp:Int):kN d i dp=xN (d.el i 0).toI (d.el i 3) dp:=by
 rw [kN,dif_pos h];rfl
theorem aX_kids {k n:Int} {s:ByteArray} {d:D} (h:aX k n s d=true):(k=3->d.len=1/\aE d 0=true)/\(biB k=true->d.len=2/\aE d 0=true/\aE d 1=true):=by
 constructor
 ·rintro rfl
  have e:aX 3 n s d=((d.len:Int)==1&&aE d 0):=rfl
  rw [e] at h
  simp only [Bool.and_eq_true,beq_iff_eq] at h
  exact ⟨by omega,h.2⟩
 ·intro hb
  rw [aX_bin hb] at h
  simp only [Bool.and_eq_true,beq_iff_eq] at h
  exact ⟨by omega,h.1.2,h.2⟩
def cN (lk:Int) (ld:D) (rk:Int) (rd:D):Bool:=xN lk ld 0&&xN rk rd 0
def stNF (k:Int) (e c b el a:Bool):Bool:=if k=1 ∨ k=4 then e else if k=6 then c else if k=2 then c&&b&&el else if k=3 then c&&b else if k=5 then a else true
def bN (d:D) (b:Int):Bool:=(List.finRange d.len).all fun (i:Fin d.len)=>stNF (d.el i 0).toI (xN (d.el i 3).toI (d.el i 6) 0) (cN (d.el i 8).toI (d.el i 11) (d.el i 12).toI (d.el i 15)) (!decide (b>=24)&&bN (d.el i 16) (b+1)) (bN (d.el i 17) (b+1))
    ((List.finRange (d.el i 18).len).all fun (j:Fin (d.el i 18).len)=>!decide (b>=24)&&bN ((d.el i 18).el j 2) (b+1))
 termination_by SizeOf.sizeOf d
 decreasing_by
  ·exact lel_lt i.isLt
  ·exact lel_lt i.isLt
  ·exact Nat.lt_trans (lel_lt j.isLt) (lel_lt i.isLt)
def blN (d:D) (b:Int):Bool:=!decide (b>=24)&&bN d (b+1)
def amNE (am:D) (b:Int) (j:Nat):Bool:=blN (am.el j 2) b
def amN (am:D) (b:Int):Bool:=allB am.len (amNE am b)
def stN (k:Int) (_nm _tg:ByteArray) (ek _en:Int) (_es:ByteArray) (ed:D) (_op lk _ln:Int) (_ls:ByteArray) (ld:D) (rk _rn:Int) (_rs:ByteArray) (rd bd eb am:D) (b:Int):Bool:=
 stNF k (xN ek ed 0) (cN lk ld rk rd) (blN bd b) (bN eb (b+1)) (amN am b)
def stNE (d:D) (b:Int) (i:Nat):Bool:=stN (d.el i 0).toI (d.el i 1).toS (d.el i 2).toS (d.el i 3).toI (d.el i 4).toI (d.el i 5).toS (d.el i 6) (d.el i 7).toI (d.el i 8).toI (d.el i 9).toI (d.el i 10).toS (d.el i 11) (d.el i 12).toI (d.el i 13).toI (d.el i 14).toS (d.el i 15) (d.el i 16) (d.el i 17) (d.el i 18) b
theorem bN_eq (d:D) (b:Int):bN d b=allB d.len (stNE d b):=by
 rw [bN,<- allF_eq]
 congr 1
 funext i
 unfold stNE stN amN
 rw [<- allF_eq]
 rfl
theorem aC_two {op lk ln rk rn:Int} {ls rs:ByteArray} {ld rd:D} (h:aC op lk ln ls ld rk rn rs rd=true):aX lk ln ls ld=true/\aX rk rn rs rd=true:=by
 unfold aC at h
 simp only [Bool.and_eq_true] at h
 exact ⟨h.1.2,h.2⟩
def prNE (d:D) (i:Nat):Bool:=bN (d.el i 2) 0
def syN (pr:D):Bool:=allB pr.len (prNE pr)
def itW (n:Int):ByteArray:=⟨(Lib.itoa n).toArray⟩
def chW (k:Int):ByteArray:=if k=0 then ⟨#[98,108,111,99,107]⟩ else if k=1 then ⟨#[100,114,111,112]⟩ else ⟨#[108,111,115,115,121]⟩
def biW (k:Int):ByteArray:=if k=4 then ⟨#[43]⟩ else if k=5 then ⟨#[45]⟩ else if k=6 then ⟨#[42]⟩ else if k=7 then ⟨#[47]⟩ else ⟨#[37]⟩
def cmW (k:Int):ByteArray:=if k=1 then ⟨#[61,61]⟩ else if k=2 then ⟨#[33,61]⟩ else if k=3 then ⟨#[60]⟩ else if k=4 then ⟨#[60,61]⟩ else if k=5 then ⟨#[62]⟩ else ⟨#[62,61]⟩
def par (b:Bool) (l:List ByteArray):List ByteArray:=if b=true then ⟨#[40]⟩::(l++[⟨#[41]⟩]) else l
def xWb (k n:Int) (s:ByteArray) (q:Nat->Int) (f:Nat->List ByteArray):List ByteArray:=
 if k=1 then [itW n] else if k=2 then [s] else if k=3 then ⟨#[45]⟩::par (brB 3 0 (q 0)) (f 0) else if biB k=true then par (brB k 0 (q 0)) (f 0)++(biW k::par (brB k 1 (q 1)) (f 1)) else []
def kW (d:D) (i:Nat):List ByteArray:=if h:i<d.len then xWb (d.el i 0).toI (d.el i 1).toI (d.el i 2).toS (fun j=>((d.el i 3).el j 0).toI) (fun j=>kW (d.el i 3) j) else []
 termination_by SizeOf.sizeOf d
 decreasing_by exact lel_lt h
def xW (k n:Int) (s:ByteArray) (d:D):List ByteArray:=xWb k n s (fun j=>(d.el j 0).toI) (kW d)
theorem kW_eq {d:D} {i:Nat} (h:i<d.len):kW d i=xW (d.el i 0).toI (d.el i 1).toI (d.el i 2).toS (d.el i 3):=by
 rw [kW,dif_pos h];rfl
def cW (op lk ln:Int) (ls:ByteArray) (ld:D) (rk rn:Int) (rs:ByteArray) (rd:D):List ByteArray:=⟨#[40]⟩::(xW lk ln ls ld++(cmW op::(xW rk rn rs rd++[⟨#[41]⟩])))
def blW (l:List ByteArray):List ByteArray:=⟨#[123]⟩::(l++[⟨#[125]⟩])
def catTo (n:Nat) (f:Nat->List ByteArray):List ByteArray:=((List.range n).map f).flatten
theorem catTo_succ (n:Nat) (f:Nat->List ByteArray):catTo (n+1) f=catTo n f++f n:=by
 unfold catTo
 rw [List.range_succ,List.map_append,List.flatten_append]
 simp
theorem catF_eq {n:Nat} (f:Nat->List ByteArray):((List.finRange n).map fun i=>f i.1).flatten=catTo n f:=by
 unfold catTo
 congr 1
 apply List.ext_getElem
 ·simp
 ·intro i h1 h2
  simp
def stWF (k:Int) (nm tg:ByteArray) (e c b el:List ByteArray) (hel:Bool) (a:List ByteArray):List ByteArray:=
 if k=1 then nm::⟨#[61]⟩::(e++[⟨#[59]⟩]) else if k=2 then ⟨#[105,102]⟩::(c++(b++(if hel=true then ⟨#[101,108,115,101]⟩::el else []))) else if k=3 then ⟨#[119,104,105,108,101]⟩::(c++b) else if k=4 then ⟨#[115,101,110,100]⟩::nm::⟨#[46]⟩::tg::⟨#[40]⟩::(e++[⟨#[41]⟩,⟨#[59]⟩]) else if k=5 then ⟨#[114,101,99,118]⟩::nm::⟨#[123]⟩::(a++[⟨#[125]⟩]) else if k=6 then ⟨#[97,115,115,101,114,116]⟩::(c++[⟨#[59]⟩]) else if k=7 then [⟨#[105,110,112,117,116]⟩,nm,⟨#[59]⟩] else []
def arWF (tg v:ByteArray) (b:List ByteArray):List ByteArray:=tg::⟨#[40]⟩::v::⟨#[41]⟩::blW b
def bW (d:D):List ByteArray:=((List.finRange d.len).map fun (i:Fin d.len)=>stWF (d.el i 0).toI (d.el i 1).toS (d.el i 2).toS (xW (d.el i 3).toI (d.el i 4).toI (d.el i 5).toS (d.el i 6)) (cW (d.el i 7).toI (d.el i 8).toI (d.el i 9).toI (d.el i 10).toS (d.el i 11) (d.el i 12).toI (d.el i 13).toI (d.el i 14).toS (d.el i 15)) (blW (bW (d.el i 16))) (blW (bW (d.el i 17))) (decide (((d.el i 17).len:Int)>0))
    ((List.finRange (d.el i 18).len).map fun (j:Fin (d.el i 18).len)=>arWF ((d.el i 18).el j 0).toS ((d.el i 18).el j 1).toS (bW ((d.el i 18).el j 2))).flatten).flatten
 termination_by SizeOf.sizeOf d
 decreasing_by
  ·exact lel_lt i.isLt
  ·exact lel_lt i.isLt
  ·exact Nat.lt_trans (lel_lt j.isLt) (lel_lt i.isLt)
def arW (am:D) (j:Nat):List ByteArray:=arWF (am.el j 0).toS (am.el j 1).toS (bW (am.el j 2))
def stW (k:Int) (nm tg:ByteArray) (ek en:Int) (es:ByteArray) (ed:D) (op lk ln:Int) (ls:ByteArray) (ld:D) (rk rn:Int) (rs:ByteArray) (rd bd eb am:D):List ByteArray:=
 stWF k nm tg (xW ek en es ed) (cW op lk ln ls ld rk rn rs rd) (blW (bW bd)) (blW (bW eb)) (decide ((eb.len:Int)>0)) (catTo am.len (arW am))
def stWE (d:D) (i:Nat):List ByteArray:=stW (d.el i 0).toI (d.el i 1).toS (d.el i 2).toS (d.el i 3).toI (d.el i 4).toI (d.el i 5).toS (d.el i 6) (d.el i 7).toI (d.el i 8).toI (d.el i 9).toI (d.el i 10).toS (d.el i 11) (d.el i 12).toI (d.el i 13).toI (d.el i 14).toS (d.el i 15) (d.el i 16) (d.el i 17) (d.el i 18)
theorem bW_eq (d:D):bW d=catTo d.len (stWE d):=by
 rw [bW,<- catF_eq]
 congr 2
 funext i
 unfold stWE stW
 rw [<- catF_eq]
 rfl
def tgW (tg:D) (i:Nat):List ByteArray:=if i>0 then [⟨#[44]⟩,(tg.el i 0).toS] else [(tg.el i 0).toS]
def chWd (nm:ByteArray) (k n:Int) (f t:ByteArray) (tg:D):List ByteArray:=[⟨#[99,104,97,110]⟩,nm,chW k,itW n,⟨#[102,114,111,109]⟩,f,⟨#[116,111]⟩,t,⟨#[123]⟩]++(catTo tg.len (tgW tg)++[⟨#[125]⟩,⟨#[59]⟩])
def mvW (mv:D) (i:Nat):List ByteArray:=[itW (mv.el i 0).toI,(mv.el i 1).toS,itW (mv.el i 2).toI,⟨#[59]⟩]
def ruWd (nm:ByteArray) (mv:D):List ByteArray:=[⟨#[114,117,108,101]⟩,nm,⟨#[123]⟩]++(catTo mv.len (mvW mv)++[⟨#[125]⟩])
def vaW (vs:D) (i:Nat):List ByteArray:=[⟨#[118,97,114]⟩,(vs.el i 0).toS,⟨#[59]⟩]
def prWd (nm:ByteArray) (vs bd:D):List ByteArray:=[⟨#[112,114,111,99]⟩,nm,⟨#[123]⟩]++(catTo vs.len (vaW vs)++(bW bd++[⟨#[125]⟩]))
def chWE (d:D) (i:Nat):List ByteArray:=chWd (d.el i 0).toS (d.el i 1).toI (d.el i 2).toI (d.el i 3).toS (d.el i 4).toS (d.el i 5)
def ruWE (d:D) (i:Nat):List ByteArray:=ruWd (d.el i 0).toS (d.el i 1)
def prWE (d:D) (i:Nat):List ByteArray:=prWd (d.el i 0).toS (d.el i 1) (d.el i 2)
def syW (ch ru pr:D):List ByteArray:=catTo ch.len (chWE ch)++(catTo ru.len (ruWE ru)++catTo pr.len (prWE pr))
end Go.Proofs.Ytbhbjhejkamlnaa.Sx.Z
namespace Go.Proofs.Ytbhbjhejkamlnaa.Sx.Z
open Go.RowKit
def kOf (w:ByteArray):Int:=match wordE w.data.toList with | .ok (k,_,_)=>k | .error _=>0
def nOf (w:ByteArray):Int:=match wordE w.data.toList with | .ok (_,_,m)=>m | .error _=>0
theorem kOf_eq {w:ByteArray} {k:Int} {n:Nat} {m:Int} (h:wordE w.data.toList = .ok (k,n,m)):kOf w=k/\nOf w=m:=by
 unfold kOf nOf;rw [h];exact ⟨rfl,rfl⟩
structure TkA (ws:D) (i:Nat) (w:ByteArray):Prop where
 lt:i<ws.len
 tx:(ws.el i 1).toS=w
 kd:(ws.el i 0).toI=kOf w
 nu:(ws.el i 2).toI=nOf w
def At (ws:D) (p:Nat) (l:List ByteArray):Prop:=∀ j (h:j<l.length),TkA ws (p+j) l[j]
theorem At.nil {ws:D} {p:Nat}:At ws p []:=fun _ h=>absurd h (Nat.not_lt_zero _)
theorem At.cons {ws:D} {p:Nat} {a:ByteArray} {l:List ByteArray} (h:At ws p (a::l)):TkA ws p a/\At ws (p+1) l:=by
 refine ⟨h 0 (Nat.zero_lt_succ _),fun j hj=>?_⟩
 have:=h (j+1) (Nat.succ_lt_succ hj)
 rw [show p+1+j=p+(j+1) by omega]
 exact this
theorem At.app {ws:D} {p:Nat} {l m:List ByteArray} (h:At ws p (l++m)):At ws p l/\At ws (p+l.length) m:=by
 refine ⟨fun j hj=>?_,fun j hj=>?_⟩
 ·have:=h j (by rw [List.length_append];omega)
  rw [List.getElem_append_left hj] at this
  exact this
 ·have:=h (l.length+j) (by rw [List.length_append];omega)
  rw [List.getElem_append_right (by omega)] at this
  simp only [Nat.add_sub_cancel_left] at this
  rw [Nat.add_assoc]
  exact this
theorem At.le {ws:D} {p:Nat} {l:List ByteArray} (h:At ws p l) (hp:p<=ws.len):p+l.length<=ws.len:=by
 rcases Nat.eq_zero_or_pos l.length with h0 |h0
 ·omega
 ·have:=(h (l.length-1) (by omega)).lt
  omega
def rp (p:Nat) (pa:Int):Rd:=⟨(p:Int),pa,0⟩
theorem gx_rp (p:Nat) (pa:Int):gx (rp p pa)=rp (p+1) pa:=rfl
theorem rp_ok {ws:D} {p:Nat} {pa:Int} (h:p<=ws.len) (hw:ws.len<=1000000):rdOK ws (rp p pa).nx:=⟨Int.natCast_nonneg p,(show (p:Int)<=(ws.len:Int) by omega),hw⟩
theorem isB_tk {ws:D} {p:Nat} {pa:Int} {w:ByteArray} (h:TkA ws p w) (t:ByteArray):isB ws t (rp p pa)=(w.data.toList==t.data.toList&&decide (kOf w>=3)):=by
 have hl:(rp p pa).nx<(ws.len:Int):=by show (p:Int)<_;have:=h.lt;omega
 obtain ⟨e1,e2⟩:=pk_in hl
 have e3:(rp p pa).nx.toNat=p:=Int.toNat_natCast p
 rw [e3] at e1 e2
 unfold isB
 rw [e1,e2,h.tx,h.kd,decide_eq_true hl,ByteArray.toList_eq,ByteArray.toList_eq]
 rfl
theorem kiB_tk {ws:D} {p:Nat} {pa:Int} {w:ByteArray} (h:TkA ws p w) (k:Int):kiB ws k (rp p pa)=(kOf w==k):=by
 have hl:(rp p pa).nx<(ws.len:Int):=by show (p:Int)<_;have:=h.lt;omega
 have e2:=(pk_in hl).2
 have e3:(rp p pa).nx.toNat=p:=Int.toNat_natCast p
 rw [e3] at e2
 unfold kiB
 rw [e2,h.kd,decide_eq_true hl]
 rfl
theorem isB_end {ws:D} {p:Nat} {pa:Int} (h:ws.len<=p) (t:ByteArray):isB ws t (rp p pa)=false:=by
 have hl:¬ (rp p pa).nx<(ws.len:Int):=by show ¬ (p:Int)<_;omega
 unfold isB
 rw [decide_eq_false hl];simp
theorem mu_tk {ws:D} {en:Int} {p:Nat} {pa:Int} {w:ByteArray} (h:TkA ws p w) (hk:kOf w>=3):muR ws en w (rp p pa)=rp (p+1) pa:=by
 unfold muR
 rw [if_pos (by rw [isB_tk h,decide_eq_true hk];simp)]
 exact gx_rp p pa
theorem wn_tk {ws:D} {en k:Int} {p:Nat} {pa:Int} {w:ByteArray} (h:TkA ws p w) (hk:kOf w=k):wnR ws en k (rp p pa)=rp (p+1) pa:=by
 unfold wnR
 rw [if_pos (by rw [kiB_tk h,hk];simp)]
 exact gx_rp p pa
theorem wnS_tk {ws:D} {p:Nat} {pa:Int} {w:ByteArray} (h:TkA ws p w) (hk:kOf w=1):wnS ws (rp p pa)=w:=by
 have hl:(rp p pa).nx<(ws.len:Int):=by show (p:Int)<_;have:=h.lt;omega
 have e1:=(pk_in hl).1
 have e3:(rp p pa).nx.toNat=p:=Int.toNat_natCast p
 unfold wnS
 rw [if_pos (by rw [kiB_tk h,hk];simp),e1,e3,h.tx]
theorem wnN_tk {ws:D} {p:Nat} {pa:Int} {w:ByteArray} (h:TkA ws p w) (hk:kOf w=2):wnN ws (rp p pa)=nOf w:=by
 have hl:(rp p pa).nx<(ws.len:Int):=by show (p:Int)<_;have:=h.lt;omega
 have e3:(rp p pa).nx.toNat=p:=Int.toNat_natCast p
 unfold wnN
 rw [if_pos (by rw [kiB_tk h,hk];simp)]
 unfold pkN
 rw [if_pos hl,e3,h.nu]
theorem tok_nx (s:ByteArray) (f p:Nat) (acc l:List Tok) (hp:p<=s.size) (ha:∀ t∈acc,∃ q,q+t.text.size<=s.size/\wordE (s.data.toList.drop q) = .ok (t.kind,t.text.size,t.num)) (h:lexGo s f p acc = .ok l) :
 ∀ t∈l,∃ q,q+t.text.size<=s.size/\wordE (s.data.toList.drop q) = .ok (t.kind,t.text.size,t.num):=by
 induction f generalizing p acc with
 |zero=>cases h;exact ha
 |succ f ih=>
  unfold lexGo at h
  by_cases hlt:p<s.size
  ·rw [if_pos hlt] at h
   by_cases hg:gapU (s.data.toList.getD p 0)=true
   ·rw [if_pos hg] at h
    exact ih (p+1) acc (by omega) ha h
   ·rw [if_neg hg] at h
    cases hw:wordE (s.data.toList.drop p) with
    |error e=>rw [hw] at h;cases h
    |ok x=>
     obtain ⟨k,n,m⟩:=x
     rw [hw] at h
     have hlen:(s.data.toList.drop p).length=s.size-p:=by rw [List.length_drop];rfl
     obtain ⟨w1,w2,_⟩:=wordE_ok (by omega) hw
     have hsz:(s.extract p (p+n)).size=n:=by rw [ByteArray.size_extract];omega
     refine ih (p+n) _ (by omega) (fun t ht=>?_) h
     rcases List.mem_append.1 ht with ht |ht
     ·exact ha t ht
     ·rw [List.mem_singleton.1 ht]
      exact ⟨p,by show p+(s.extract p (p+n)).size<=_;omega,by show _=Except.ok (k,(s.extract p (p+n)).size,m);rw [hsz];exact hw⟩
  ·rw [if_neg hlt] at h
   cases h;exact ha
theorem nm_word {s:ByteArray} (h:nmB s=true):kOf s=1:=by
 unfold nmB at h
 simp only [Bool.and_eq_true,beq_iff_eq] at h
 obtain ⟨_,⟨⟨h1,h2⟩,h3⟩,h4⟩:=h
 have h2:((lexR s).1.length:Int)=1:=by rw [tokD_len] at h2;exact h2
 obtain ⟨t,ht⟩:∃ t,(lexR s).1=[t]:=List.length_eq_one_iff.1 (by omega)
 rw [ht] at h3 h4
 have h3:t.kind=1:=h3
 have h4:t.text.toList=s.toList:=h4
 have h4:t.text=s:=by
  rw [ByteArray.toList_eq,ByteArray.toList_eq] at h4
  exact ByteArray.ext (Array.toList_inj.1 h4)
 cases hg:lexGo s s.size 0 [] with
 |error x=>
  obtain ⟨p,e⟩:=x
  rw [lexR_err hg rfl] at ht
  cases ht
 |ok acc=>
  by_cases hl:2000<acc.length
  ·rw [lexR_long hg rfl hl] at ht
   cases ht
  ·rw [lexR_ok hg rfl (by omega)] at ht
   have ht:acc=[t]:=ht
   obtain ⟨q,q1,q2⟩:=tok_nx s s.size 0 [] acc (Nat.zero_le _) (fun _ h=>by cases h) hg t (by rw [ht];exact List.mem_singleton.2 rfl)
   rw [h4] at q1
   have q0:q=0:=by omega
   rw [q0,List.drop_zero] at q2
   rw [(kOf_eq q2).1,h3]
theorem dec_rec' (u:Nat):Lib.decDigits u=if u<10 then [UInt8.ofNat (48+u)] else Lib.decDigits (u/10)++[UInt8.ofNat (48+u%10)]:=by
 rw [Lib.decDigits]
 split<;>rfl
theorem dig_nat {u:Nat} (h:u<10):(UInt8.ofNat (48+u)).toNat=48+u:=by
 rw [UInt8.toNat_ofNat'];omega
theorem dig_is {u:Nat} (h:u<10):digU (UInt8.ofNat (48+u))=true:=by
 unfold digU digB
 rw [dig_nat h]
 simp only [Bool.and_eq_true,decide_eq_true_eq]
 omega
theorem dec_all (u:Nat):(∀ b∈Lib.decDigits u,digU b=true)/\val (Lib.decDigits u)=u/\Lib.decDigits u≠[]/\(10<=u->(Lib.decDigits u).headD 0≠48)/\(u<10->(Lib.decDigits u).length=1)/\(0<u->(Lib.decDigits u).headD 0≠48):=by
 induction u using Nat.strongRecOn with
 |ind u ih=>
  by_cases h:u<10
  ·rw [dec_rec',if_pos h]
   refine ⟨fun b hb=>?_,?_,by simp,fun hu=>by omega,fun _=>rfl,fun hu=>?_⟩
   ·rw [List.mem_singleton.1 hb];exact dig_is h
   ·show 10*0+((UInt8.ofNat (48+u)).toNat-48)=u
    rw [dig_nat h];omega
   ·intro e
    have e:UInt8.ofNat (48+u)=48:=e
    have:=congrArg UInt8.toNat e
    rw [dig_nat h] at this
    have:(48+u)=48:=this
    omega
  ·obtain ⟨a1,a2,a3,a4,a5,a6⟩:=ih (u/10) (by omega)
   rw [dec_rec',if_neg h]
   have hh:(Lib.decDigits (u/10)++[UInt8.ofNat (48+u%10)]).headD 0=(Lib.decDigits (u/10)).headD 0:=by
    cases hd:Lib.decDigits (u/10) with
    |nil=>exact absurd hd a3
    |cons a t=>rfl
   have h6:(Lib.decDigits (u/10)++[UInt8.ofNat (48+u%10)]).headD 0≠48:=by rw [hh];exact a6 (by omega)
   refine ⟨fun b hb=>?_,?_,by simp,fun _=>h6,fun hu=>absurd hu h,fun _=>h6⟩
   ·rcases List.mem_append.1 hb with hb |hb
    ·exact a1 b hb
    ·rw [List.mem_singleton.1 hb];exact dig_is (by omega)
   ·rw [val_snoc,a2,dig_nat (by omega)];omega
theorem nu_full {n:Int} (h:nuB n=true):wordE (itW n).data.toList = .ok (2,(itW n).data.toList.length,n)/\0<(itW n).data.toList.length:=by
 unfold nuB at h
 simp only [Bool.and_eq_true,decide_eq_true_eq] at h
 have e:(itW n).data.toList=Lib.decDigits n.toNat:=by
  unfold itW Lib.itoa
  rw [if_neg (by omega)]
 obtain ⟨a1,a2,a3,a4,a5,a6⟩:=dec_all n.toNat
 generalize hL:Lib.decDigits n.toNat=L at *
 have hlen:lenOf digU L=L.length:=by
  exact takeWhile_len digU L L.length (Nat.le_refl _) (fun i hi=>a1 _ (by rw [List.getD_eq_getElem?_getD,List.getElem?_eq_getElem hi];exact List.getElem_mem hi)) (fun hx=>absurd hx (Nat.lt_irrefl _))
 have hh:digU (L.headD 0)=true:=by
  cases L with
  |nil=>exact absurd rfl a3
  |cons a t=>exact a1 a (List.mem_cons_self ..)
 have hnl:letU (L.headD 0)=false:=by
  unfold digU digB at hh
  unfold letU letB
  simp only [Bool.and_eq_true,decide_eq_true_eq] at hh
  rw [decide_eq_false (by omega)];rfl
 have hw:wordE L = .ok (2,L.length,n):=by
  unfold wordE
  rw [if_neg (by rw [hnl];decide),if_pos hh]
  unfold numE
  rw [hlen,List.take_length,a2,if_neg,show ((n.toNat:Nat):Int)=n by omega]
  rintro (hx |⟨hx,hy⟩ |hx)
  ·omega
  ·by_cases hu:n.toNat<10
   ·have:=a5 hu;omega
   ·exact a4 (by omega) hy
  ·rw [List.getD_eq_getElem?_getD,List.getElem?_eq_none (Nat.le_refl _),Option.getD_none] at hx
   exact absurd hx (by decide)
 rw [e]
 exact ⟨hw,List.length_pos_iff.2 a3⟩
theorem nu_word {n:Int} (h:nuB n=true):kOf (itW n)=2/\nOf (itW n)=n:=kOf_eq (nu_full h).1
end Go.Proofs.Ytbhbjhejkamlnaa.Sx.Z
namespace Go.Proofs.Ytbhbjhejkamlnaa.Sx.Z
open Go.RowKit
def xCb (k n:Int) (s:ByteArray) (f:Nat->Xp):Xp:=
 if k=1 then ⟨1,n,ByteArray.empty,.l []⟩ else if k=2 then ⟨2,0,s,.l []⟩ else if k=3 then ⟨3,0,ByteArray.empty,.l [(f 0).row]⟩ else X2 k (f 0) (f 1)
def kC (d:D) (i:Nat):Xp:=if _h:i<d.len then xCb (d.el i 0).toI (d.el i 1).toI (d.el i 2).toS (fun j=>kC (d.el i 3) j) else X00
 termination_by SizeOf.sizeOf d
 decreasing_by exact lel_lt (by assumption)
def xC (k n:Int) (s:ByteArray) (d:D):Xp:=xCb k n s (kC d)
theorem kC_eq {d:D} {i:Nat} (h:i<d.len):kC d i=xC (d.el i 0).toI (d.el i 1).toI (d.el i 2).toS (d.el i 3):=by
 rw [kC,dif_pos h];rfl
theorem kid_ind {P:Int->Int->ByteArray->D->Prop} (h1:∀ n s d,nuB n=true->P 1 n s d) (h2:∀ n s d,nmB s=true->P 2 n s d)
 (h3:∀ n s d,d.len=1->P (d.el 0 0).toI (d.el 0 1).toI (d.el 0 2).toS (d.el 0 3)->P 3 n s d)
 (h4:∀ k n s d,biB k=true->d.len=2->P (d.el 0 0).toI (d.el 0 1).toI (d.el 0 2).toS (d.el 0 3)->P (d.el 1 0).toI (d.el 1 1).toI (d.el 1 2).toS (d.el 1 3)->P k n s d) :
 ∀ (z:Nat) (k n:Int) (s:ByteArray) (d:D),SizeOf.sizeOf d<=z->aX k n s d=true->P k n s d:=by
 intro z
 induction z with
 |zero=>intro k n s d hz;cases d<;>simp at hz
 |succ z ih=>
  intro k n s d hz h
  have kid:∀ i,i<d.len->aE d i=true->P (d.el i 0).toI (d.el i 1).toI (d.el i 2).toS (d.el i 3):=fun i hi ha=>by
   rw [aE_eq hi] at ha
   have:=lel_lt (j:=3) hi
   exact ih _ _ _ _ (by omega) ha
  by_cases e1:k=1
  ·subst e1;exact h1 n s d h
  ·by_cases e2:k=2
   ·subst e2;exact h2 n s d h
   ·obtain ⟨b1,b2⟩:=aX_kids h
    by_cases e3:k=3
    ·subst e3
     obtain ⟨c1,c2⟩:=b1 rfl
     exact h3 n s d c1 (kid 0 (by omega) c2)
    ·cases hb:biB k with
     |false=>rw [aX_no e1 e2 e3 hb] at h;cases h
     |true=>
      obtain ⟨c1,c2,c3⟩:=b2 hb
      exact h4 k n s d hb c1 (kid 0 (by omega) c2) (kid 1 (by omega) c3)
theorem ex_ind {P:Int->Int->ByteArray->D->Prop} (h1:∀ n s d,nuB n=true->P 1 n s d) (h2:∀ n s d,nmB s=true->P 2 n s d)
 (h3:∀ n s d,d.len=1->P (d.el 0 0).toI (d.el 0 1).toI (d.el 0 2).toS (d.el 0 3)->P 3 n s d)
 (h4:∀ k n s d,biB k=true->d.len=2->P (d.el 0 0).toI (d.el 0 1).toI (d.el 0 2).toS (d.el 0 3)->P (d.el 1 0).toI (d.el 1 1).toI (d.el 1 2).toS (d.el 1 3)->P k n s d)
 {k n:Int} {s:ByteArray} {d:D} (h:aX k n s d=true):P k n s d:=kid_ind h1 h2 h3 h4 _ k n s d (Nat.le_refl _) h
def noX (ws:D) (p:Nat) (l:List ByteArray):Prop:=∀ t∈l,∀ pa,isB ws t (rp p pa)=false
def muls:List ByteArray:=[⟨#[42]⟩,⟨#[47]⟩,⟨#[37]⟩]
def adds:List ByteArray:=[⟨#[43]⟩,⟨#[45]⟩]
theorem noX_tk {ws:D} {p:Nat} {w:ByteArray} (h:TkA ws p w) {l:List ByteArray} (hl:∀ t∈l,(w.data.toList==t.data.toList&&decide (kOf w>=3))=false):noX ws p l:=fun t ht pa=>by rw [isB_tk h];exact hl t ht
theorem kM_no {ws:D} {p:Nat} {pa:Int} (h:noX ws p muls):kQ ws sgM 6 (rp p pa)=0:=by
 unfold kQ
 rw [if_neg]
 rintro ⟨_,hx⟩
 have e:ixR ws sgM (rp p pa) 3 = -1:=by
  simp only [ixR]
  rw [if_neg (by rw [show (sgM.el 2 0).toS=⟨#[37]⟩ from rfl,h _ (by simp [muls,adds])];decide),if_neg (by rw [show (sgM.el 1 0).toS=⟨#[47]⟩ from rfl,h _ (by simp [muls,adds])];decide),if_neg (by rw [show (sgM.el 0 0).toS=⟨#[42]⟩ from rfl,h _ (by simp [muls,adds])];decide)]
 rw [show sgM.len=3 from rfl,e] at hx
 exact absurd hx (by decide)
theorem kA_no {ws:D} {p:Nat} {pa:Int} (h:noX ws p adds):kQ ws sgA 4 (rp p pa)=0:=by
 unfold kQ
 rw [if_neg]
 rintro ⟨_,hx⟩
 have e:ixR ws sgA (rp p pa) 2 = -1:=by
  simp only [ixR]
  rw [if_neg (by rw [show (sgA.el 1 0).toS=⟨#[45]⟩ from rfl,h _ (by simp [muls,adds])];decide),if_neg (by rw [show (sgA.el 0 0).toS=⟨#[43]⟩ from rfl,h _ (by simp [muls,adds])];decide)]
 rw [show sgA.len=2 from rfl,e] at hx
 exact absurd hx (by decide)
theorem kM_yes {ws:D} {p:Nat} {pa:Int} {k:Int} (h:TkA ws p (biW k)) (hk:k=6 ∨ k=7 ∨ k=8):kQ ws sgM 6 (rp p pa)=k:=by
 unfold kQ
 rcases hk with rfl |rfl |rfl
 ·have e:ixR ws sgM (rp p pa) 3=0:=by
   simp only [ixR]
   rw [if_neg (by rw [isB_tk h];decide),if_neg (by rw [isB_tk h];decide),if_pos (by rw [isB_tk h];decide)];rfl
  rw [show sgM.len=3 from rfl,e];rfl
 ·have e:ixR ws sgM (rp p pa) 3=1:=by
   simp only [ixR]
   rw [if_neg (by rw [isB_tk h];decide),if_pos (by rw [isB_tk h];decide)];rfl
  rw [show sgM.len=3 from rfl,e];rfl
 ·have e:ixR ws sgM (rp p pa) 3=2:=by
   simp only [ixR]
   rw [if_pos (by rw [isB_tk h];decide)];rfl
  rw [show sgM.len=3 from rfl,e];rfl
theorem kA_yes {ws:D} {p:Nat} {pa:Int} {k:Int} (h:TkA ws p (biW k)) (hk:k=4 ∨ k=5):kQ ws sgA 4 (rp p pa)=k:=by
 unfold kQ
 rcases hk with rfl |rfl
 ·have e:ixR ws sgA (rp p pa) 2=0:=by
   simp only [ixR]
   rw [if_neg (by rw [isB_tk h];decide),if_pos (by rw [isB_tk h];decide)];rfl
  rw [show sgA.len=2 from rfl,e];rfl
 ·have e:ixR ws sgA (rp p pa) 2=1:=by
   simp only [ixR]
   rw [if_pos (by rw [isB_tk h];decide)];rfl
  rw [show sgA.len=2 from rfl,e];rfl
theorem bi_nomul {ws:D} {p:Nat} {k:Int} (h:TkA ws p (biW k)) (hk:k=4 ∨ k=5):noX ws p muls:=noX_tk h (by rcases hk with rfl |rfl<;>decide)
end Go.Proofs.Ytbhbjhejkamlnaa.Sx.Z
namespace Go.Proofs.Ytbhbjhejkamlnaa.Sx.Z
open Go.RowKit
structure ExRd (ws:D) (en:Int) (k n:Int) (s:ByteArray) (d:D):Prop where
 fac:∀ (m:Nat) (dp:Int) (p:Nat) (pa:Int),biB k=false->xN k d dp=true->25<=(m:Int)+dp->p<=ws.len->At ws p (xW k n s d)->wfR m en ws dp (rp p pa)=(xC k n s d,rp (p+(xW k n s d).length) pa)
 pro:∀ (m:Nat) (dp:Int) (p:Nat) (pa:Int),suB k=false->xN k d dp=true->25<=(m:Int)+dp->p<=ws.len->At ws p (xW k n s d)->cQA (wfR m en ws dp) (kQ ws sgM 6) ws (rp p pa)=cQL (wfR m en ws dp) (kQ ws sgM 6) (left ws (rp (p+(xW k n s d).length) pa)) (xC k n s d) (rp (p+(xW k n s d).length) pa)
 sum:∀ (m:Nat) (dp:Int) (p:Nat) (pa:Int),xN k d dp=true->25<=(m:Int)+dp->p<=ws.len->At ws p (xW k n s d)->noX ws (p+(xW k n s d).length) muls->cQA (wpr (wfR m) en ws dp) (kQ ws sgA 4) ws (rp p pa)=cQL (wpr (wfR m) en ws dp) (kQ ws sgA 4) (left ws (rp (p+(xW k n s d).length) pa)) (xC k n s d) (rp (p+(xW k n s d).length) pa)
theorem xN_le {k:Int} {d:D} {dp:Int} (h:xN k d dp=true):dp<=24:=by
 unfold xN xNb at h
 by_cases hd:dp>24
 ·rw [if_pos hd] at h;cases h
 ·omega
theorem ExRd.all {ws:D} {en k n:Int} {s:ByteArray} {d:D} (H:ExRd ws en k n s d) {m:Nat} {dp:Int} {p:Nat} {pa:Int} (hN:xN k d dp=true) (hm:25<=(m:Int)+dp) (hp:p<=ws.len) (hA:At ws p (xW k n s d)) (hq:noX ws (p+(xW k n s d).length) muls) (ha:noX ws (p+(xW k n s d).length) adds) :
 wsm (wfR m) en ws dp (rp p pa)=(xC k n s d,rp (p+(xW k n s d).length) pa):=by
 have:=H.sum m dp p pa hN hm hp hA hq
 rw [cQL_end (kA_no ha)] at this
 exact this
theorem ExRd.opd {ws:D} {en k n:Int} {s:ByteArray} {d:D} (H:ExRd ws en k n s d) {b:Bool} (hb:b=false->biB k=false) {m:Nat} {dp:Int} {p:Nat} {pa:Int} (hN:xN k d (dp+inB b)=true) (hm:25<=(m:Int)+dp) (hp:p<=ws.len) (hA:At ws p (par b (xW k n s d))) :
 wfR m en ws dp (rp p pa)=(xC k n s d,rp (p+(par b (xW k n s d)).length) pa):=by
 cases b with
 |false=>exact H.fac m dp p pa (hb rfl) (by simpa [inB] using hN) hm hp hA
 |true=>
  have hN:xN k d (dp+1)=true:=hN
  have hA:At ws p (⟨#[40]⟩::(xW k n s d++[⟨#[41]⟩])):=hA
  obtain ⟨a1,a2⟩:=hA.cons
  obtain ⟨a3,a4⟩:=a2.app
  obtain ⟨a5,_⟩:=a4.cons
  have hd:=xN_le hN
  have hl:(par true (xW k n s d)).length=1+(xW k n s d).length+1:=by show (_::(_++[_])).length=_;simp;omega
  cases m with
  |zero=>exfalso;simp at hm;omega
  |succ m=>
   have hs:wsm (wfR m) en ws (dp+1) (rp (p+1) pa)=(xC k n s d,rp (p+1+(xW k n s d).length) pa):=
    H.all hN (by omega) a1.lt a3 (noX_tk a5 (by simp [muls])) (noX_tk a5 (by simp [adds]))
   show rfB (wfR m) en ws dp (rp p pa)=_
   unfold rfB
   rw [if_pos (.inr (by rw [isB_tk a1];decide)),if_neg (by omega),if_neg (by rw [isB_tk a1];decide),gx_rp,hs,hl]
   show (_,muR ws en clB (rp _ pa))=_
   rw [mu_tk (w:=clB) a5 (by decide)]
   simp only [Nat.add_assoc]
theorem xW_3 (n:Int) (s:ByteArray) {d:D} (h:0<d.len):xW 3 n s d=⟨#[45]⟩::par (biB (d.el 0 0).toI) (xW (d.el 0 0).toI (d.el 0 1).toI (d.el 0 2).toS (d.el 0 3)):=by
 rw [<- kW_eq h];rfl
theorem xW_4 {k:Int} (n:Int) (s:ByteArray) {d:D} (hb:biB k=true) (h:1<d.len):xW k n s d=par (brB k 0 (d.el 0 0).toI) (xW (d.el 0 0).toI (d.el 0 1).toI (d.el 0 2).toS (d.el 0 3))++(biW k::par (brB k 1 (d.el 1 0).toI) (xW (d.el 1 0).toI (d.el 1 1).toI (d.el 1 2).toS (d.el 1 3))):=by
 have hk:=bi_in hb
 rw [<- kW_eq (show 0<d.len by omega),<- kW_eq h]
 unfold xW xWb
 rw [if_neg (by omega),if_neg (by omega),if_neg (by omega),if_pos hb]
theorem xC_3 (n:Int) (s:ByteArray) {d:D} (h:0<d.len):xC 3 n s d=⟨3,0,ByteArray.empty,.l [(xC (d.el 0 0).toI (d.el 0 1).toI (d.el 0 2).toS (d.el 0 3)).row]⟩:=by
 rw [<- kC_eq h];rfl
theorem xC_4 {k:Int} (n:Int) (s:ByteArray) {d:D} (hb:biB k=true) (h:1<d.len):xC k n s d=X2 k (xC (d.el 0 0).toI (d.el 0 1).toI (d.el 0 2).toS (d.el 0 3)) (xC (d.el 1 0).toI (d.el 1 1).toI (d.el 1 2).toS (d.el 1 3)):=by
 have hk:=bi_in hb
 rw [<- kC_eq (show 0<d.len by omega),<- kC_eq h]
 unfold xC xCb
 rw [if_neg (by omega),if_neg (by omega),if_neg (by omega)]
theorem xN_3 {d:D} (h:0<d.len) {dp:Int} (hN:xN 3 d dp=true):xN (d.el 0 0).toI (d.el 0 3) (dp+1+inB (biB (d.el 0 0).toI))=true:=by
 have hd:=xN_le hN
 rw [<- kN_eq h]
 unfold xN xNb at hN
 rw [if_neg (by omega),if_pos rfl] at hN
 exact hN
theorem xN_4 {k:Int} {d:D} (hb:biB k=true) (h:1<d.len) {dp:Int} (hN:xN k d dp=true):xN (d.el 0 0).toI (d.el 0 3) (dp+inB (brB k 0 (d.el 0 0).toI))=true/\xN (d.el 1 0).toI (d.el 1 3) (dp+inB (brB k 1 (d.el 1 0).toI))=true:=by
 have hk:=bi_in hb
 have hd:=xN_le hN
 rw [<- kN_eq (show 0<d.len by omega),<- kN_eq h]
 unfold xN xNb at hN
 rw [if_neg (by omega),if_neg (by omega),if_pos hb] at hN
 simp only [Bool.and_eq_true] at hN
 exact hN
theorem pro_fac {ws:D} {en k n:Int} {s:ByteArray} {d:D} {m:Nat} {dp:Int} {p q:Nat} {pa:Int} (h:wfR m en ws dp (rp p pa)=(xC k n s d,rp q pa)) :
 cQA (wfR m en ws dp) (kQ ws sgM 6) ws (rp p pa)=cQL (wfR m en ws dp) (kQ ws sgM 6) (left ws (rp q pa)) (xC k n s d) (rp q pa):=by
 unfold cQA;rw [h]
theorem sum_pro {ws:D} {en k n:Int} {s:ByteArray} {d:D} {m:Nat} {dp:Int} {p q:Nat} {pa:Int} (h:cQA (wfR m en ws dp) (kQ ws sgM 6) ws (rp p pa)=cQL (wfR m en ws dp) (kQ ws sgM 6) (left ws (rp q pa)) (xC k n s d) (rp q pa)) (hq:noX ws q muls) :
 wpr (wfR m) en ws dp (rp p pa)=(xC k n s d,rp q pa)/\cQA (wpr (wfR m) en ws dp) (kQ ws sgA 4) ws (rp p pa)=cQL (wpr (wfR m) en ws dp) (kQ ws sgA 4) (left ws (rp q pa)) (xC k n s d) (rp q pa):=by
 rw [cQL_end (kM_no hq)] at h
 have h:wpr (wfR m) en ws dp (rp p pa)=(xC k n s d,rp q pa):=h
 exact ⟨h,by unfold cQA;rw [h]⟩
theorem ExRd.of_fac {ws:D} {en k n:Int} {s:ByteArray} {d:D} (hb:biB k=false) (H:∀ (m:Nat) (dp:Int) (p:Nat) (pa:Int),xN k d dp=true->25<=(m:Int)+dp->p<=ws.len->At ws p (xW k n s d)->wfR m en ws dp (rp p pa)=(xC k n s d,rp (p+(xW k n s d).length) pa)):ExRd ws en k n s d:=
 ⟨fun m dp p pa _ hN hm hp hA=>H m dp p pa hN hm hp hA,fun m dp p pa _ hN hm hp hA=>pro_fac (H m dp p pa hN hm hp hA),fun m dp p pa hN hm hp hA hq=>(sum_pro (pro_fac (H m dp p pa hN hm hp hA)) hq).2⟩
theorem ex_rd {ws:D} (hw:ws.len<=1000000) (en:Int) {k n:Int} {s:ByteArray} {d:D} (h:aX k n s d=true):ExRd ws en k n s d:=by
 refine ex_ind (P:=ExRd ws en) ?_ ?_ ?_ ?_ h
 ·intro n s d hn
  refine .of_fac (by decide) fun m dp p pa hN hm hp hA=>?_
  obtain ⟨a,_⟩:=At.cons (show At ws p [itW n] from hA)
  obtain ⟨k1,k2⟩:=nu_word hn
  have hd:=xN_le hN
  cases m with
  |zero=>exfalso;simp at hm;omega
  |succ m=>
   show rfB (wfR m) en ws dp (rp p pa)=_
   unfold rfB
   rw [if_neg (by rw [isB_tk a,isB_tk a,k1];simp),if_pos (by rw [kiB_tk a,k1];rfl),wnN_tk a k1,k2,wn_tk a k1]
   rfl
 ·intro n s d hn
  refine .of_fac (by decide) fun m dp p pa hN hm hp hA=>?_
  obtain ⟨a,_⟩:=At.cons (show At ws p [s] from hA)
  have k1:=nm_word hn
  have hd:=xN_le hN
  cases m with
  |zero=>exfalso;simp at hm;omega
  |succ m=>
   show rfB (wfR m) en ws dp (rp p pa)=_
   unfold rfB
   rw [if_neg (by rw [isB_tk a,isB_tk a,k1];simp),if_neg (by rw [kiB_tk a,k1];decide),wnS_tk a k1,wn_tk a k1]
   rfl
 ·intro n s d hl1 ih
  have hl:0<d.len:=by omega
  refine .of_fac (by decide) fun m dp p pa hN hm hp hA=>?_
  have hd:=xN_le hN
  have hK:=xN_3 hl hN
  rw [xW_3 n s hl] at hA ⊢
  rw [xC_3 n s hl]
  obtain ⟨a1,a2⟩:=hA.cons
  cases m with
  |zero=>exfalso;simp at hm;omega
  |succ m=>
   have hd2:¬ 24<=dp:=by
    have:=xN_le hK
    have:0<=inB (biB (d.el 0 0).toI):=by unfold inB;split<;>decide
    omega
   have hs:=ih.opd (b:=biB (d.el 0 0).toI) (fun hx=>hx) (m:=m) (dp:=dp+1) (p:=p+1) (pa:=pa) hK (by omega) a1.lt a2
   show rfB (wfR m) en ws dp (rp p pa)=_
   unfold rfB
   rw [if_pos (.inl (by rw [isB_tk a1];decide)),if_neg hd2,if_pos (by rw [isB_tk a1];decide),gx_rp,hs]
   simp only [List.length_cons,Nat.add_assoc,Nat.add_comm 1]
 ·intro k n s d hb hl2 ih0 ih1
  have hl:1<d.len:=by omega
  have hk:=bi_in hb
  by_cases hsu:suB k=true
  ·have hk:k=4 ∨ k=5:=by unfold suB at hsu;simpa using hsu
   have b0:brB k 0 (d.el 0 0).toI=false:=by unfold brB;rw [if_neg (by omega),if_pos hk];rfl
   have b1:brB k 1 (d.el 1 0).toI=suB (d.el 1 0).toI:=by unfold brB;rw [if_neg (by omega),if_pos hk];simp
   refine ⟨fun _ _ _ _ hx=>(by rw [hb] at hx;cases hx),fun _ _ _ _ hx=>(by rw [hsu] at hx;cases hx),fun m dp p pa hN hm hp hA hq=>?_⟩
   obtain ⟨n0,n1⟩:=xN_4 hb hl hN
   rw [xW_4 n s hb hl] at hA hq ⊢
   rw [xC_4 n s hb hl]
   rw [b0] at n0 hA hq ⊢
   rw [b1] at n1 hA hq ⊢
   rw [show ∀ l,par false l=l from fun _=>rfl] at hA hq ⊢
   simp only [inB,Bool.false_eq_true,if_false,Int.add_zero] at n0
   obtain ⟨a1,a2⟩:=hA.app
   obtain ⟨a3,a4⟩:=a2.cons
   have hp1:=a3.lt
   have h0:=ih0.sum m dp p pa n0 hm hp a1 (bi_nomul a3 hk)
   generalize hL0:(xW (d.el 0 0).toI (d.el 0 1).toI (d.el 0 2).toS (d.el 0 3)).length=L0 at *
   rw [List.length_append,List.length_cons,hL0] at hq ⊢
   have el:p+(L0+((par (suB (d.el 1 0).toI) (xW (d.el 1 0).toI (d.el 1 1).toI (d.el 1 2).toS (d.el 1 3))).length+1))=p+L0+1+(par (suB (d.el 1 0).toI) (xW (d.el 1 0).toI (d.el 1 1).toI (d.el 1 2).toS (d.el 1 3))).length:=by omega
   rw [el] at hq ⊢
   have hr:wpr (wfR m) en ws dp (rp (p+L0+1) pa)=(xC (d.el 1 0).toI (d.el 1 1).toI (d.el 1 2).toS (d.el 1 3),rp (p+L0+1+(par (suB (d.el 1 0).toI) (xW (d.el 1 0).toI (d.el 1 1).toI (d.el 1 2).toS (d.el 1 3))).length) pa):=by
    cases hs1:suB (d.el 1 0).toI with
    |true=>
     rw [hs1] at n1 a4 hq
     exact (sum_pro (pro_fac (ih1.opd (b:=true) (fun hx=>by cases hx) n1 hm hp1 a4)) hq).1
    |false=>
     rw [hs1] at n1 a4 hq
     exact (sum_pro (ih1.pro m dp (p+L0+1) pa hs1 (by simpa [inB] using n1) hm hp1 a4) hq).1
   have hK:=kA_yes (pa:=pa) a3 hk
   have st:=cQL_step (P:=wpr (wfR m) en ws dp) (K:=kQ ws sgA 4) (wpr_up (wfR_up m) en ws dp) kQ_ok (r:=rp (p+L0) pa) (xC (d.el 0 0).toI (d.el 0 1).toI (d.el 0 2).toS (d.el 0 3)) (rp_ok (by omega) hw) (by rw [hK];omega)
   rw [h0,<- st,gx_rp,hr,hK]
  ·have hsu:suB k=false:=by simpa using hsu
   have hk:k=6 ∨ k=7 ∨ k=8:=by
    unfold suB at hsu
    simp only [Bool.or_eq_false_iff,beq_eq_false_iff_ne] at hsu
    omega
   have b0:brB k 0 (d.el 0 0).toI=suB (d.el 0 0).toI:=by unfold brB;rw [if_neg (by omega),if_neg (by omega),if_pos hk];simp
   have b1:brB k 1 (d.el 1 0).toI=(suB (d.el 1 0).toI ||biB (d.el 1 0).toI):=by unfold brB;rw [if_neg (by omega),if_neg (by omega),if_pos hk];simp
   have H:∀ (m:Nat) (dp:Int) (p:Nat) (pa:Int),xN k d dp=true->25<=(m:Int)+dp->p<=ws.len->At ws p (xW k n s d)->cQA (wfR m en ws dp) (kQ ws sgM 6) ws (rp p pa)=cQL (wfR m en ws dp) (kQ ws sgM 6) (left ws (rp (p+(xW k n s d).length) pa)) (xC k n s d) (rp (p+(xW k n s d).length) pa):=by
    intro m dp p pa hN hm hp hA
    obtain ⟨n0,n1⟩:=xN_4 hb hl hN
    rw [xW_4 n s hb hl] at hA ⊢
    rw [xC_4 n s hb hl]
    rw [b0] at n0 hA ⊢
    rw [b1] at n1 hA ⊢
    obtain ⟨a1,a2⟩:=hA.app
    obtain ⟨a3,a4⟩:=a2.cons
    have hp1:=a3.lt
    have h0:cQA (wfR m en ws dp) (kQ ws sgM 6) ws (rp p pa)=cQL (wfR m en ws dp) (kQ ws sgM 6) (left ws (rp (p+(par (suB (d.el 0 0).toI) (xW (d.el 0 0).toI (d.el 0 1).toI (d.el 0 2).toS (d.el 0 3))).length) pa)) (xC (d.el 0 0).toI (d.el 0 1).toI (d.el 0 2).toS (d.el 0 3)) (rp (p+(par (suB (d.el 0 0).toI) (xW (d.el 0 0).toI (d.el 0 1).toI (d.el 0 2).toS (d.el 0 3))).length) pa):=by
     cases hs0:suB (d.el 0 0).toI with
     |true=>
      rw [hs0] at n0 a1
      exact pro_fac (ih0.opd (b:=true) (fun hx=>by cases hx) n0 hm hp a1)
     |false=>
      rw [hs0] at n0 a1
      exact ih0.pro m dp p pa hs0 (by simpa [inB] using n0) hm hp a1
    generalize hL0:(par (suB (d.el 0 0).toI) (xW (d.el 0 0).toI (d.el 0 1).toI (d.el 0 2).toS (d.el 0 3))).length=L0 at *
    rw [List.length_append,List.length_cons,hL0]
    have el:p+(L0+((par (suB (d.el 1 0).toI ||biB (d.el 1 0).toI) (xW (d.el 1 0).toI (d.el 1 1).toI (d.el 1 2).toS (d.el 1 3))).length+1))=p+L0+1+(par (suB (d.el 1 0).toI ||biB (d.el 1 0).toI) (xW (d.el 1 0).toI (d.el 1 1).toI (d.el 1 2).toS (d.el 1 3))).length:=by omega
    rw [el]
    have hr:=ih1.opd (b:=suB (d.el 1 0).toI ||biB (d.el 1 0).toI) (fun hx=>(Bool.or_eq_false_iff.1 hx).2) (pa:=pa) n1 hm hp1 a4
    have hK:=kM_yes (pa:=pa) a3 hk
    have st:=cQL_step (P:=wfR m en ws dp) (K:=kQ ws sgM 6) (wfR_up m en ws dp) kQ_ok (r:=rp (p+L0) pa) (xC (d.el 0 0).toI (d.el 0 1).toI (d.el 0 2).toS (d.el 0 3)) (rp_ok (by omega) hw) (by rw [hK];omega)
    rw [h0,<- st,gx_rp,hr,hK]
   exact ⟨fun _ _ _ _ hx=>(by rw [hb] at hx;cases hx),fun m dp p pa _=>H m dp p pa,fun m dp p pa hN hm hp hA hq=>(sum_pro (H m dp p pa hN hm hp hA) hq).2⟩
theorem ws_rd {ws:D} (hw:ws.len<=1000000) (en:Int) {k n:Int} {s:ByteArray} {d:D} (h:aX k n s d=true) (hN:xN k d 0=true) {p:Nat} {pa:Int} (hp:p<=ws.len) (hA:At ws p (xW k n s d)) (hq:noX ws (p+(xW k n s d).length) muls) (ha:noX ws (p+(xW k n s d).length) adds) :
 wsX en ws 0 (rp p pa)=(xC k n s d,rp (p+(xW k n s d).length) pa):=by
 unfold wsX
 exact (ex_rd hw en h).all hN (by omega) hp hA hq ha
end Go.Proofs.Ytbhbjhejkamlnaa.Sx.Z
namespace Go.Proofs.Ytbhbjhejkamlnaa.Sx.Z
open Go.RowKit
def cC (op lk ln:Int) (ls:ByteArray) (ld:D) (rk rn:Int) (rs:ByteArray) (rd:D):Cd:=⟨op,xC lk ln ls ld,xC rk rn rs rd⟩
theorem kC_cm {ws:D} {p:Nat} {pa:Int} {op:Int} (h:TkA ws p (cmW op)) (h1:1<=op) (h6:op<=6):ixR ws sgC (rp p pa) 6+1=op:=by
 have ho:op=1 ∨ op=2 ∨ op=3 ∨ op=4 ∨ op=5 ∨ op=6:=by omega
 rcases ho with rfl |rfl |rfl |rfl |rfl |rfl
 ·have e:ixR ws sgC (rp p pa) 6=0:=by
   simp only [ixR]
   rw [if_neg (by rw [isB_tk h];decide),if_neg (by rw [isB_tk h];decide),if_neg (by rw [isB_tk h];decide),if_neg (by rw [isB_tk h];decide),if_neg (by rw [isB_tk h];decide),if_pos (by rw [isB_tk h];decide)];rfl
  rw [e];rfl
 ·have e:ixR ws sgC (rp p pa) 6=1:=by
   simp only [ixR]
   rw [if_neg (by rw [isB_tk h];decide),if_neg (by rw [isB_tk h];decide),if_neg (by rw [isB_tk h];decide),if_neg (by rw [isB_tk h];decide),if_pos (by rw [isB_tk h];decide)];rfl
  rw [e];rfl
 ·have e:ixR ws sgC (rp p pa) 6=2:=by
   simp only [ixR]
   rw [if_neg (by rw [isB_tk h];decide),if_neg (by rw [isB_tk h];decide),if_neg (by rw [isB_tk h];decide),if_pos (by rw [isB_tk h];decide)];rfl
  rw [e];rfl
 ·have e:ixR ws sgC (rp p pa) 6=3:=by
   simp only [ixR]
   rw [if_neg (by rw [isB_tk h];decide),if_neg (by rw [isB_tk h];decide),if_pos (by rw [isB_tk h];decide)];rfl
  rw [e];rfl
 ·have e:ixR ws sgC (rp p pa) 6=4:=by
   simp only [ixR]
   rw [if_neg (by rw [isB_tk h];decide),if_pos (by rw [isB_tk h];decide)];rfl
  rw [e];rfl
 ·have e:ixR ws sgC (rp p pa) 6=5:=by
   simp only [ixR]
   rw [if_pos (by rw [isB_tk h];decide)];rfl
  rw [e];rfl
theorem cm_no {ws:D} {p:Nat} {op:Int} (h:TkA ws p (cmW op)) (h1:1<=op) (h6:op<=6):noX ws p muls/\noX ws p adds:=by
 have ho:op=1 ∨ op=2 ∨ op=3 ∨ op=4 ∨ op=5 ∨ op=6:=by omega
 rcases ho with rfl |rfl |rfl |rfl |rfl |rfl<;>exact ⟨noX_tk h (by decide),noX_tk h (by decide)⟩
theorem cl_no {ws:D} {p:Nat} (h:TkA ws p clB):noX ws p muls/\noX ws p adds:=⟨noX_tk h (by decide),noX_tk h (by decide)⟩
theorem se_no {ws:D} {p:Nat} (h:TkA ws p seB):noX ws p muls/\noX ws p adds:=⟨noX_tk h (by decide),noX_tk h (by decide)⟩
theorem cd_rd {ws:D} (hw:ws.len<=1000000) (en:Int) {op lk ln:Int} {ls:ByteArray} {ld:D} {rk rn:Int} {rs:ByteArray} {rd:D} (h:aC op lk ln ls ld rk rn rs rd=true) (hN:cN lk ld rk rd=true) {p:Nat} {pa:Int} (hA:At ws p (cW op lk ln ls ld rk rn rs rd)) :
 wcC ws en (rp p pa)=cC op lk ln ls ld rk rn rs rd/\wcR ws en (rp p pa)=rp (p+(cW op lk ln ls ld rk rn rs rd).length) pa:=by
 unfold aC at h
 simp only [Bool.and_eq_true,decide_eq_true_eq] at h
 obtain ⟨⟨⟨h1,h6⟩,hl⟩,hr⟩:=h
 unfold cN at hN
 simp only [Bool.and_eq_true] at hN
 obtain ⟨a1,a2⟩:=At.cons hA
 obtain ⟨a3,a4⟩:=a2.app
 obtain ⟨a5,a6⟩:=a4.cons
 obtain ⟨a7,a8⟩:=a6.app
 obtain ⟨a9,_⟩:=a8.cons
 have c:=cm_no a5 h1 h6
 have c2:=cl_no a9
 have eA:wcA ws en (rp p pa)=(xC lk ln ls ld,rp (p+1+(xW lk ln ls ld).length) pa):=by
  unfold wcA
  rw [show muR ws en opB (rp p pa)=rp (p+1) pa from mu_tk a1 (by decide)]
  exact ws_rd hw en hl hN.1 a1.lt a3 c.1 c.2
 have eO:wcO ws en (rp p pa)=op:=by
  unfold wcO;rw [eA]
  exact kC_cm a5 h1 h6
 have eB:wcB ws en (rp p pa)=(xC rk rn rs rd,rp (p+1+(xW lk ln ls ld).length+1+(xW rk rn rs rd).length) pa):=by
  unfold wcB;rw [eA]
  show wsX en ws 0 (gx (rp _ pa))=_
  rw [gx_rp]
  exact ws_rd hw en hr hN.2 a5.lt a7 c2.1 c2.2
 constructor
 ·unfold wcC
  rw [eO,if_neg (by omega),eA,eB];rfl
 ·unfold wcR
  rw [eO,if_neg (by omega),eB]
  show muR ws en clB (rp _ pa)=_
  rw [show muR ws en clB (rp (p+1+(xW lk ln ls ld).length+1+(xW rk rn rs rd).length) pa)=rp (p+1+(xW lk ln ls ld).length+1+(xW rk rn rs rd).length+1) pa from mu_tk a9 (by decide)]
  congr 1
  show _=p+(_::(_++(_::(_++[_])))).length
  simp only [List.length_cons,List.length_append,List.length_nil]
  omega
def rowsTo (g:Nat->List D) (n:Nat):List (List D):=(List.range n).map g
theorem rowsTo_succ (g:Nat->List D) (n:Nat):rowsTo g (n+1)=rowsTo g n++[g n]:=by
 unfold rowsTo
 rw [List.range_succ,List.map_append];rfl
theorem seq_all {ws:D} {go:Rd->Bool} {F:Rd->List D × Rd} (hF:SqOK ws go F) (hw:ws.len<=1000000) {f:Nat->List ByteArray} {g:Nat->List D} {n p:Nat} {pa:Int} {b:List (List D)} (hp:∀ i,i<n->p+(catTo i f).length<=ws.len) (hg:∀ i,i<n->go (rp (p+(catTo i f).length) pa)=true) (hs:∀ i,i<n->F (rp (p+(catTo i f).length) pa)=(g i,rp (p+(catTo i f).length+(f i).length) pa)) (he:go (rp (p+(catTo n f).length) pa)=false) :
 seqA go F ws (.l b) (rp p pa)=(.l (b++rowsTo g n),rp (p+(catTo n f).length) pa):=by
 have key:∀ i,i<=n->seqA go F ws (.l (b++rowsTo g i)) (rp (p+(catTo i f).length) pa)=seqA go F ws (.l b) (rp p pa):=by
  intro i
  induction i with
  |zero=>intro _;simp [rowsTo,catTo]
  |succ i ih=>
   intro hi
   rw [<- ih (by omega),<- seq_step hF (rp_ok (hp i (by omega)) hw) (hg i (by omega)),hs i (by omega),rowsTo_succ,catTo_succ,List.length_append,<- Nat.add_assoc,<- List.append_assoc]
   rfl
 rw [<- key n (Nat.le_refl _),seq_end he]
theorem sqE_all {ws:D} {go:Rd->Bool} {F:Rd->List D × Rd} (hF:SeOK ws go F) (hw:ws.len<=1000000) {f:Nat->List ByteArray} {g:Nat->List D} {n p:Nat} {pa:Int} {b:List (List D)} (hp:∀ i,i<n->p+(catTo i f).length<=ws.len) (hg:∀ i,i<n->go (rp (p+(catTo i f).length) pa)=true) (hs:∀ i,i<n->F (rp (p+(catTo i f).length) pa)=(g i,rp (p+(catTo i f).length+(f i).length) pa)) (he:go (rp (p+(catTo n f).length) pa)=false) :
 seqE go F ws (.l b) (rp p pa)=(.l (b++rowsTo g n),rp (p+(catTo n f).length) pa):=by
 have key:∀ i,i<=n->seqE go F ws (.l (b++rowsTo g i)) (rp (p+(catTo i f).length) pa)=seqE go F ws (.l b) (rp p pa):=by
  intro i
  induction i with
  |zero=>intro _;simp [rowsTo,catTo]
  |succ i ih=>
   intro hi
   rw [<- ih (by omega),<- se_step hF (rp_ok (hp i (by omega)) hw) (hg i (by omega)),hs i (by omega),rowsTo_succ,catTo_succ,List.length_append,<- Nat.add_assoc,<- List.append_assoc]
   rfl
 rw [<- key n (Nat.le_refl _),se_end he]
theorem At.nth {ws:D} {p:Nat} {f:Nat->List ByteArray} {n:Nat} (h:At ws p (catTo n f)) {i:Nat} (hi:i<n):At ws (p+(catTo i f).length) (f i):=by
 induction n with
 |zero=>omega
 |succ n ih=>
  rw [catTo_succ] at h
  obtain ⟨a,b⟩:=h.app
  by_cases e:i=n
  ·rw [e];exact b
  ·exact ih a (by omega)
theorem cat_mono (f:Nat->List ByteArray) {i n:Nat} (h:i<=n):(catTo i f).length<=(catTo n f).length:=by
 induction n with
 |zero=>rw [show i=0 by omega];exact Nat.le_refl _
 |succ n ih=>
  by_cases e:i=n+1
  ·rw [e];exact Nat.le_refl _
  ·have:=ih (by omega)
   rw [catTo_succ,List.length_append];omega
theorem At.next {ws:D} {p:Nat} {f:Nat->List ByteArray} {n:Nat} (h:At ws p (catTo n f)) {Q:ByteArray->Prop} (hf:∀ i,i<n->∃ w l,f i=w::l/\Q w) {e:ByteArray} (he:TkA ws (p+(catTo n f).length) e) (hq:Q e) {i:Nat} (hi:i<=n):∃ w,TkA ws (p+(catTo i f).length) w/\Q w:=by
 by_cases e:i=n
 ·rw [e];exact ⟨_,he,hq⟩
 ·obtain ⟨w,l,e1,e2⟩:=hf i (by omega)
  have:=h.nth (show i<n by omega)
  rw [e1] at this
  exact ⟨w,this.cons.1,e2⟩
end Go.Proofs.Ytbhbjhejkamlnaa.Sx.Z
namespace Go.Proofs.Ytbhbjhejkamlnaa.Sx.Z
open Go.RowKit
def stCF (k:Int) (nm tg:ByteArray) (e:Xp) (c:Cd) (b el ar:D):St:=
 if k=1 then ⟨1,nm,ByteArray.empty,e,C00,.l [],.l [],.l []⟩ else if k=2 then ⟨2,ByteArray.empty,ByteArray.empty,X00,c,b,el,.l []⟩ else if k=3 then ⟨3,ByteArray.empty,ByteArray.empty,X00,c,b,.l [],.l []⟩ else if k=4 then ⟨4,nm,tg,e,C00,.l [],.l [],.l []⟩ else if k=5 then ⟨5,nm,ByteArray.empty,X00,C00,.l [],.l [],ar⟩ else if k=6 then ⟨6,ByteArray.empty,ByteArray.empty,X00,c,.l [],.l [],.l []⟩ else ⟨7,nm,ByteArray.empty,X00,C00,.l [],.l [],.l []⟩
def bC (d:D):D:=.l ((List.finRange d.len).map fun (i:Fin d.len)=>(stCF (d.el i 0).toI (d.el i 1).toS (d.el i 2).toS (xC (d.el i 3).toI (d.el i 4).toI (d.el i 5).toS (d.el i 6)) (cC (d.el i 7).toI (d.el i 8).toI (d.el i 9).toI (d.el i 10).toS (d.el i 11) (d.el i 12).toI (d.el i 13).toI (d.el i 14).toS (d.el i 15)) (bC (d.el i 16)) (bC (d.el i 17))
    (.l ((List.finRange (d.el i 18).len).map fun (j:Fin (d.el i 18).len)=>Am.row ⟨((d.el i 18).el j 0).toS,((d.el i 18).el j 1).toS,bC ((d.el i 18).el j 2)⟩))).row)
 termination_by SizeOf.sizeOf d
 decreasing_by
  ·exact lel_lt i.isLt
  ·exact lel_lt i.isLt
  ·exact Nat.lt_trans (lel_lt j.isLt) (lel_lt i.isLt)
def arC (am:D) (j:Nat):List D:=Am.row ⟨(am.el j 0).toS,(am.el j 1).toS,bC (am.el j 2)⟩
def stC (k:Int) (nm tg:ByteArray) (ek en:Int) (es:ByteArray) (ed:D) (op lk ln:Int) (ls:ByteArray) (ld:D) (rk rn:Int) (rs:ByteArray) (rd bd eb am:D):St:=
 stCF k nm tg (xC ek en es ed) (cC op lk ln ls ld rk rn rs rd) (bC bd) (bC eb) (.l (rowsTo (arC am) am.len))
def stCE (d:D) (i:Nat):List D:=(stC (d.el i 0).toI (d.el i 1).toS (d.el i 2).toS (d.el i 3).toI (d.el i 4).toI (d.el i 5).toS (d.el i 6) (d.el i 7).toI (d.el i 8).toI (d.el i 9).toI (d.el i 10).toS (d.el i 11) (d.el i 12).toI (d.el i 13).toI (d.el i 14).toS (d.el i 15) (d.el i 16) (d.el i 17) (d.el i 18)).row
theorem rowsF_eq {n:Nat} (g:Nat->List D):((List.finRange n).map fun i=>g i.1)=rowsTo g n:=by
 unfold rowsTo
 apply List.ext_getElem
 ·simp
 ·intro i h1 h2
  simp
theorem bC_eq (d:D):bC d = .l (rowsTo (stCE d) d.len):=by
 rw [bC,<- rowsF_eq]
 congr 2
 funext i
 unfold stCE stC
 rw [<- rowsF_eq]
 rfl
theorem bC_nil {d:D} (h:d.len=0):bC d = .l []:=by
 rw [bC_eq,h];rfl
def sHd (w:ByteArray):Prop:=kOf w=1 ∨ w=kwF ∨ w=kwW ∨ w=kwS ∨ w=kwR ∨ w=kwA ∨ w=kwI
def sQd (w:ByteArray):Prop:=sHd w ∨ w=cbB
theorem stQ_no {ws:D} {p:Nat} {w:ByteArray} (h:TkA ws p w) (hq:sQd w) (pa:Int):isB ws kwL (rp p pa)=false:=by
 rw [isB_tk h]
 rcases hq with (hq |rfl |rfl |rfl |rfl |rfl |rfl) |rfl
 ·rw [hq];simp
 all_goals decide
theorem stH_go {ws:D} {p:Nat} {w:ByteArray} (h:TkA ws p w) (hq:sHd w) (pa:Int):wtG ws (rp p pa)=true:=by
 unfold wtG
 simp only [isB_tk h,kiB_tk h]
 rcases hq with hq |rfl |rfl |rfl |rfl |rfl |rfl
 ·rw [hq];simp
 all_goals decide
theorem cb_go {ws:D} {p:Nat} (h:TkA ws p cbB) (pa:Int):wtG ws (rp p pa)=false:=by
 unfold wtG
 simp only [isB_tk h,kiB_tk h]
 decide
theorem stA_k {k:Int} {nm tg:ByteArray} {e c b el a:Bool} {al:Int} (h:aStF k nm tg e c b el al a=true):k=1 ∨ k=2 ∨ k=3 ∨ k=4 ∨ k=5 ∨ k=6 ∨ k=7:=by
 unfold aStF at h
 by_cases h1:k=1;· exact .inl h1
 by_cases h2:k=2;· exact .inr (.inl h2)
 by_cases h3:k=3;· exact .inr (.inr (.inl h3))
 by_cases h4:k=4;· exact .inr (.inr (.inr (.inl h4)))
 by_cases h5:k=5;· exact .inr (.inr (.inr (.inr (.inl h5))))
 by_cases h6:k=6;· exact .inr (.inr (.inr (.inr (.inr (.inl h6)))))
 by_cases h7:k=7;· exact .inr (.inr (.inr (.inr (.inr (.inr h7)))))
 rw [if_neg h1,if_neg h2,if_neg h3,if_neg h4,if_neg h5,if_neg h6,if_neg h7] at h
 cases h
theorem stW_head {k:Int} {nm tg:ByteArray} {e c b el a:List ByteArray} {hel E C B L A:Bool} {al:Int} (h:aStF k nm tg E C B L al A=true):∃ w l,stWF k nm tg e c b el hel a=w::l/\sHd w:=by
 rcases stA_k h with rfl |rfl |rfl |rfl |rfl |rfl |rfl
 ·have h:(nmB nm&&E)=true:=h
  simp only [Bool.and_eq_true] at h
  exact ⟨_,_,rfl,.inl (nm_word h.1)⟩
 ·exact ⟨_,_,rfl,.inr (.inl rfl)⟩
 ·exact ⟨_,_,rfl,.inr (.inr (.inl rfl))⟩
 ·exact ⟨_,_,rfl,.inr (.inr (.inr (.inl rfl)))⟩
 ·exact ⟨_,_,rfl,.inr (.inr (.inr (.inr (.inl rfl))))⟩
 ·exact ⟨_,_,rfl,.inr (.inr (.inr (.inr (.inr (.inl rfl)))))⟩
 ·exact ⟨_,_,rfl,.inr (.inr (.inr (.inr (.inr (.inr rfl)))))⟩
def BdRd (ws:D) (en:Int) (d:D):Prop:=∀ (m:Nat) (dp:Int) (p:Nat) (pa:Int),bA d=true->bN d dp=true->dp<=24->25<=(m:Int)+dp->p<=ws.len->At ws p (bW d)->TkA ws (p+(bW d).length) cbB->wtR m en ws dp (rp p pa)=(bC d,rp (p+(bW d).length) pa)
theorem bl_rd {ws:D} {en:Int} {d:D} (H:BdRd ws en d) (hA:bA d=true) {m:Nat} {dp:Int} (hN:bN d (dp+1)=true) (hd:dp<24) (hm:25<=(m:Int)+(dp+1)) {p:Nat} {pa:Int} (hT:At ws p (blW (bW d))) :
 wblF (wtR m) en ws dp (rp p pa)=(bC d,rp (p+(blW (bW d)).length) pa):=by
 obtain ⟨a1,a2⟩:=At.cons hT
 obtain ⟨a3,a4⟩:=a2.app
 obtain ⟨a5,_⟩:=a4.cons
 have e1:muR ws en obB (rp p pa)=rp (p+1) pa:=mu_tk a1 (by decide)
 have e2:=H m (dp+1) (p+1) pa hA hN (by omega) hm a1.lt a3 a5
 unfold wblF
 rw [if_neg (by rintro ⟨_,hx⟩;omega),e1,e2]
 show (_,muR ws en cbB (rp _ pa))=_
 rw [show muR ws en cbB (rp (p+1+(bW d).length) pa)=rp (p+1+(bW d).length+1) pa from mu_tk a5 (by decide)]
 rw [show (blW (bW d)).length=(bW d).length+2 by show (_::(_++[_])).length=_;simp,show p+1+(bW d).length+1=p+((bW d).length+2) by omega]
end Go.Proofs.Ytbhbjhejkamlnaa.Sx.Z
namespace Go.Proofs.Ytbhbjhejkamlnaa.Sx.Z
open Go.RowKit
theorem arWF_len (tg v:ByteArray) (b:List ByteArray):(arWF tg v b).length=4+(blW b).length:=by
 show (_::_::_::_::blW b).length=_
 simp only [List.length_cons];omega
theorem am_rd {ws:D} {en:Int} {am:D} {j:Nat} (H:BdRd ws en (am.el j 2)) (hA:arE am j=true) {m:Nat} {dp:Int} (hN:bN (am.el j 2) (dp+1)=true) (hd:dp<24) (hm:25<=(m:Int)+(dp+1)) {p:Nat} {pa:Int} (hT:At ws p (arW am j)) :
 wmF (wtR m) en ws dp (rp p pa)=(arC am j,rp (p+(arW am j).length) pa):=by
 unfold arE at hA
 simp only [Bool.and_eq_true] at hA
 obtain ⟨⟨h1,h2⟩,h3⟩:=hA
 obtain ⟨a1,a2⟩:=At.cons (show At ws p ((am.el j 0).toS::⟨#[40]⟩::(am.el j 1).toS::⟨#[41]⟩::blW (bW (am.el j 2))) from hT)
 obtain ⟨a3,a4⟩:=a2.cons
 obtain ⟨a5,a6⟩:=a4.cons
 obtain ⟨a7,a8⟩:=a6.cons
 have k1:=nm_word h1
 have k2:=nm_word h2
 have e1:wnR ws en 1 (rp p pa)=rp (p+1) pa:=wn_tk a1 k1
 have e2:muR ws en opB (rp (p+1) pa)=rp (p+1+1) pa:=mu_tk a3 (by decide)
 have e3:wnR ws en 1 (rp (p+1+1) pa)=rp (p+1+1+1) pa:=wn_tk a5 k2
 have e4:muR ws en clB (rp (p+1+1+1) pa)=rp (p+1+1+1+1) pa:=mu_tk a7 (by decide)
 have e5:wmX en ws (rp p pa)=rp (p+1+1) pa:=by unfold wmX;rw [e1,e2]
 have e6:wmA (wtR m) en ws dp (rp p pa)=(bC (am.el j 2),rp (p+1+1+1+1+(blW (bW (am.el j 2))).length) pa):=by
  unfold wmA;rw [e5,e3,e4]
  exact bl_rd H h3 hN hd hm a8
 have el:(arW am j).length=4+(blW (bW (am.el j 2))).length:=arWF_len _ _ _
 rw [el]
 unfold wmF wmS
 rw [e6,e5,wnS_tk a1 k1,wnS_tk a5 k2,show p+1+1+1+1+(blW (bW (am.el j 2))).length=p+(4+(blW (bW (am.el j 2))).length) by omega]
 rfl
theorem ams_rd {ws:D} (hw:ws.len<=1000000) {en:Int} {am:D} (h0:0<am.len) (H:∀ j,j<am.len->BdRd ws en (am.el j 2)) (hA:amsA am=true) {m:Nat} {dp:Int} (hN:∀ j,j<am.len->bN (am.el j 2) (dp+1)=true) (hd:dp<24) (hm:25<=(m:Int)+(dp+1)) {p:Nat} {pa:Int} (hp:p<=ws.len) (hT:At ws p (catTo am.len (arW am))) (hc:TkA ws (p+(catTo am.len (arW am)).length) cbB) :
 wmL (wtR m) en ws dp (.l []) (rp p pa)=(.l (rowsTo (arC am) am.len),rp (p+(catTo am.len (arW am)).length) pa):=by
 have hA:=allB_iff.1 hA
 have one:∀ j,j<am.len->wmF (wtR m) en ws dp (rp (p+(catTo j (arW am)).length) pa)=(arC am j,rp (p+(catTo j (arW am)).length+(arW am j).length) pa):=fun j hj=>am_rd (H j hj) (hA j hj) (hN j hj) hd hm (hT.nth hj)
 have nm:∀ j,j<am.len->isB ws cbB (rp (p+(catTo j (arW am)).length) pa)=false:=fun j hj=>by
  have h1:=hA j hj
  unfold arE at h1
  simp only [Bool.and_eq_true] at h1
  have:=(At.cons (show At ws (p+(catTo j (arW am)).length) ((am.el j 0).toS::⟨#[40]⟩::(am.el j 1).toS::⟨#[41]⟩::blW (bW (am.el j 2))) from hT.nth hj)).1
  rw [isB_tk this,nm_word h1.1.1];simp
 have key:∀ i,i<=am.len->wmL (wtR m) en ws dp (.l (rowsTo (arC am) i)) (rp (p+(catTo i (arW am)).length) pa)=wmL (wtR m) en ws dp (.l []) (rp p pa):=by
  intro i
  induction i with
  |zero=>intro _;rfl
  |succ i ih=>
   intro hi
   have hT2:=(hT.nth (show i<am.len by omega))
   have hlt:p+(catTo i (arW am)).length<=ws.len:=by
    have:=(At.cons (show At ws (p+(catTo i (arW am)).length) ((am.el i 0).toS::_) from hT2)).1.lt
    omega
   rw [<- ih (by omega),<- wmL_step (d:=.l (rowsTo (arC am) i)) (wtR_up m en ws) (wtR_er m) (rp_ok hlt hw) rfl (.inr (nm i (by omega))),one i (by omega),rowsTo_succ,catTo_succ,List.length_append,<- Nat.add_assoc]
   rfl
 rw [<- key am.len (Nat.le_refl _),wmL_end (.inr ⟨?_,?_⟩)]
 ·show (rowsTo (arC am) am.len).length≠0
  unfold rowsTo
  rw [List.length_map,List.length_range];omega
 ·rw [isB_tk hc];decide
theorem st_rd {ws:D} (hw:ws.len<=1000000) {en:Int} {k:Int} {nm tg:ByteArray} {ek en':Int} {es:ByteArray} {ed:D} {op lk ln:Int} {ls:ByteArray} {ld:D} {rk rn:Int} {rs:ByteArray} {rd bd eb am:D}
 (Hb:BdRd ws en bd) (He:BdRd ws en eb) (Ha:∀ j,j<am.len->BdRd ws en (am.el j 2)) (hA:stA k nm tg ek en' es ed op lk ln ls ld rk rn rs rd bd eb am=true) {dp:Int} (hN:stN k nm tg ek en' es ed op lk ln ls ld rk rn rs rd bd eb am dp=true) {m:Nat} (hm:25<=(m:Int)+(dp+1)) {p:Nat} {pa:Int} (hT:At ws p (stW k nm tg ek en' es ed op lk ln ls ld rk rn rs rd bd eb am)) {q:ByteArray} (hq:TkA ws (p+(stW k nm tg ek en' es ed op lk ln ls ld rk rn rs rd bd eb am).length) q) (hQ:sQd q) :
 wtF (wtR m) en ws dp (rp p pa)=(stC k nm tg ek en' es ed op lk ln ls ld rk rn rs rd bd eb am,rp (p+(stW k nm tg ek en' es ed op lk ln ls ld rk rn rs rd bd eb am).length) pa):=by
 have hA:aStF k nm tg (aX ek en' es ed) (aC op lk ln ls ld rk rn rs rd) (bA bd) (bA eb) am.len (amsA am)=true:=hA
 have hN:stNF k (xN ek ed 0) (cN lk ld rk rd) (blN bd dp) (bN eb (dp+1)) (amN am dp)=true:=hN
 rcases stA_k hA with rfl |rfl |rfl |rfl |rfl |rfl |rfl
 ·
  have hA:(nmB nm&&aX ek en' es ed)=true:=hA
  simp only [Bool.and_eq_true] at hA
  have hN:xN ek ed 0=true:=hN
  have k1:=nm_word hA.1
  obtain ⟨a1,a2⟩:=At.cons (show At ws p (nm::⟨#[61]⟩::(xW ek en' es ed++[⟨#[59]⟩])) from hT)
  obtain ⟨a3,a4⟩:=a2.cons
  obtain ⟨a5,a6⟩:=a4.app
  obtain ⟨a7,_⟩:=a6.cons
  have e1:wnR ws en 1 (rp p pa)=rp (p+1) pa:=wn_tk a1 k1
  have e2:muR ws en eqB (rp (p+1) pa)=rp (p+1+1) pa:=mu_tk a3 (by decide)
  have e3:wgE ws en (rp p pa)=(xC ek en' es ed,rp (p+1+1+(xW ek en' es ed).length) pa):=by
   unfold wgE;rw [e1,e2]
   exact ws_rd hw en hA.2 hN a3.lt a5 (se_no a7).1 (se_no a7).2
  have e4:wgR ws en (rp p pa)=rp (p+1+1+(xW ek en' es ed).length+1) pa:=by
   unfold wgR;rw [e3];exact mu_tk a7 (by decide)
  have el:(stW 1 nm tg ek en' es ed op lk ln ls ld rk rn rs rd bd eb am).length=(xW ek en' es ed).length+3:=by
   show (_::_::(_++[_])).length=_;simp
  rw [el,show p+((xW ek en' es ed).length+3)=p+1+1+(xW ek en' es ed).length+1 by omega,<- e4]
  unfold wtF
  simp only [isB_tk a1,k1]
  simp only [show decide ((1:Int)>=3)=false from rfl,Bool.and_false,Bool.false_eq_true,if_false]
  unfold wgS
  rw [wnS_tk a1 k1,e3];rfl
 ·
  have hA:(aC op lk ln ls ld rk rn rs rd&&bA bd&&bA eb)=true:=hA
  simp only [Bool.and_eq_true] at hA
  have hN:(cN lk ld rk rd&&blN bd dp&&bN eb (dp+1))=true:=hN
  unfold blN at hN
  simp only [Bool.and_eq_true,Bool.not_eq_true',decide_eq_false_iff_not] at hN
  obtain ⟨⟨n1,n2,n3⟩,n4⟩:=hN
  obtain ⟨a1,a2⟩:=At.cons (show At ws p (kwF::(cW op lk ln ls ld rk rn rs rd++(blW (bW bd)++(if decide ((eb.len:Int)>0)=true then kwL::blW (bW eb) else [])))) from hT)
  obtain ⟨a3,a4⟩:=a2.app
  obtain ⟨a5,a6⟩:=a4.app
  obtain ⟨c1,c2⟩:=cd_rd (pa:=pa) hw en hA.1.1 n1 a3
  have e1:wiA (wtR m) en ws dp (rp p pa)=(bC bd,rp (p+1+(cW op lk ln ls ld rk rn rs rd).length+(blW (bW bd)).length) pa):=by
   unfold wiA;rw [gx_rp,c2]
   exact bl_rd Hb hA.1.2 n3 (by omega) hm a5
  have el:(stW 2 nm tg ek en' es ed op lk ln ls ld rk rn rs rd bd eb am).length=1+(cW op lk ln ls ld rk rn rs rd).length+(blW (bW bd)).length+(if decide ((eb.len:Int)>0)=true then kwL::blW (bW eb) else []).length:=by
   show (_::(_++(_++_))).length=_
   rw [List.length_cons,List.length_append,List.length_append]
   show _=1+(cW op lk ln ls ld rk rn rs rd).length+(blW (bW bd)).length+List.length (if decide ((eb.len:Int)>0)=true then kwL::blW (bW eb) else [])
   have:(if decide ((eb.len:Int)>0)=true then kwL::blW (bW eb) else []).length=(if decide ((eb.len:Int)>0)=true then (⟨#[101,108,115,101]⟩:ByteArray)::blW (bW eb) else []).length:=rfl
   omega
  have e2:wiB (wtR m) en ws dp (rp p pa)=(bC eb,rp (p+(stW 2 nm tg ek en' es ed op lk ln ls ld rk rn rs rd bd eb am).length) pa):=by
   unfold wiB
   rw [e1]
   by_cases hz:eb.len=0
   ·have hf:decide ((eb.len:Int)>0)=false:=decide_eq_false (by omega)
    rw [hf,show (if false=true then kwL::blW (bW eb) else [])=[] from rfl,List.length_nil] at el
    have hx:p+1+(cW op lk ln ls ld rk rn rs rd).length+(blW (bW bd)).length=p+(stW 2 nm tg ek en' es ed op lk ln ls ld rk rn rs rd bd eb am).length:=by omega
    rw [hx,if_neg (by rw [show (bC bd,rp (p+(stW 2 nm tg ek en' es ed op lk ln ls ld rk rn rs rd bd eb am).length) pa).2=rp (p+(stW 2 nm tg ek en' es ed op lk ln ls ld rk rn rs rd bd eb am).length) pa from rfl,stQ_no hq hQ];decide),bC_nil hz]
   ·have hf:decide ((eb.len:Int)>0)=true:=decide_eq_true (by omega)
    rw [hf,if_pos rfl] at a6
    rw [hf,if_pos rfl,List.length_cons] at el
    obtain ⟨a7,a8⟩:=At.cons a6
    rw [if_pos (by show isB ws kwL (rp _ pa)=true;rw [isB_tk a7];decide)]
    show wblF (wtR m) en ws dp (gx (rp _ pa))=_
    rw [gx_rp,bl_rd He hA.2 n4 (by omega) hm a8,show p+1+(cW op lk ln ls ld rk rn rs rd).length+(blW (bW bd)).length+1+(blW (bW eb)).length=p+(stW 2 nm tg ek en' es ed op lk ln ls ld rk rn rs rd bd eb am).length by omega]
  unfold wtF
  rw [if_pos (by rw [isB_tk a1];decide),e2]
  unfold wiS
  rw [e2,e1,gx_rp,c1];rfl
 ·
  have hA:(aC op lk ln ls ld rk rn rs rd&&bA bd)=true:=hA
  simp only [Bool.and_eq_true] at hA
  have hN:(cN lk ld rk rd&&blN bd dp)=true:=hN
  unfold blN at hN
  simp only [Bool.and_eq_true,Bool.not_eq_true',decide_eq_false_iff_not] at hN
  obtain ⟨n1,n2,n3⟩:=hN
  obtain ⟨a1,a2⟩:=At.cons (show At ws p (kwW::(cW op lk ln ls ld rk rn rs rd++blW (bW bd))) from hT)
  obtain ⟨a3,a4⟩:=a2.app
  obtain ⟨c1,c2⟩:=cd_rd (pa:=pa) hw en hA.1 n1 a3
  have e1:whA (wtR m) en ws dp (rp p pa)=(bC bd,rp (p+1+(cW op lk ln ls ld rk rn rs rd).length+(blW (bW bd)).length) pa):=by
   unfold whA;rw [gx_rp,c2]
   exact bl_rd Hb hA.2 n3 (by omega) hm a4
  have el:(stW 3 nm tg ek en' es ed op lk ln ls ld rk rn rs rd bd eb am).length=(cW op lk ln ls ld rk rn rs rd).length+(blW (bW bd)).length+1:=by
   show (_::(_++_)).length=_
   rw [List.length_cons,List.length_append]
  unfold wtF
  rw [if_neg (by rw [isB_tk a1];decide),if_pos (by rw [isB_tk a1];decide),e1,el,show p+1+(cW op lk ln ls ld rk rn rs rd).length+(blW (bW bd)).length=p+((cW op lk ln ls ld rk rn rs rd).length+(blW (bW bd)).length+1) by omega]
  unfold whS
  rw [e1,gx_rp,c1];rfl
 ·
  have hA:(nmB nm&&nmB tg&&aX ek en' es ed)=true:=hA
  simp only [Bool.and_eq_true] at hA
  have hN:xN ek ed 0=true:=hN
  have k1:=nm_word hA.1.1
  have k2:=nm_word hA.1.2
  obtain ⟨a0,b0⟩:=At.cons (show At ws p (kwS::nm::⟨#[46]⟩::tg::⟨#[40]⟩::(xW ek en' es ed++[⟨#[41]⟩,⟨#[59]⟩])) from hT)
  obtain ⟨a1,b1⟩:=b0.cons
  obtain ⟨a2,b2⟩:=b1.cons
  obtain ⟨a3,b3⟩:=b2.cons
  obtain ⟨a4,b4⟩:=b3.cons
  obtain ⟨a5,b5⟩:=b4.app
  obtain ⟨a6,b6⟩:=b5.cons
  obtain ⟨a7,_⟩:=b6.cons
  have e0:wnR ws en 1 (rp (p+1) pa)=rp (p+1+1) pa:=wn_tk a1 k1
  have e1:wd1 ws en (rp p pa)=rp (p+1+1+1) pa:=by
   unfold wd1;rw [gx_rp,e0];exact mu_tk a2 (by decide)
  have e2:wnR ws en 1 (rp (p+1+1+1) pa)=rp (p+1+1+1+1) pa:=wn_tk a3 k2
  have e3:muR ws en opB (rp (p+1+1+1+1) pa)=rp (p+1+1+1+1+1) pa:=mu_tk a4 (by decide)
  have e4:wdE0 ws en (rp p pa)=(xC ek en' es ed,rp (p+1+1+1+1+1+(xW ek en' es ed).length) pa):=by
   unfold wdE0;rw [e1,e2,e3]
   exact ws_rd hw en hA.2 hN a4.lt a5 (cl_no a6).1 (cl_no a6).2
  have e5:muR ws en clB (rp (p+1+1+1+1+1+(xW ek en' es ed).length) pa)=rp (p+1+1+1+1+1+(xW ek en' es ed).length+1) pa:=mu_tk a6 (by decide)
  have e6:wdR ws en (rp p pa)=rp (p+1+1+1+1+1+(xW ek en' es ed).length+1+1) pa:=by
   unfold wdR;rw [e4]
   show muR ws en seB (muR ws en clB (rp _ pa))=_
   rw [e5];exact mu_tk a7 (by decide)
  have el:(stW 4 nm tg ek en' es ed op lk ln ls ld rk rn rs rd bd eb am).length=(xW ek en' es ed).length+7:=by
   show (_::_::_::_::_::(_++[_,_])).length=_;simp
  unfold wtF
  rw [if_neg (by rw [isB_tk a0];decide),if_neg (by rw [isB_tk a0];decide),if_pos (by rw [isB_tk a0];decide),e6,el,show p+((xW ek en' es ed).length+7)=p+1+1+1+1+1+(xW ek en' es ed).length+1+1 by omega]
  unfold wdS
  rw [e4,e1,gx_rp,wnS_tk a1 k1,wnS_tk a3 k2];rfl
 ·
  have hA:(nmB nm&&decide ((am.len:Int)>0)&&amsA am)=true:=hA
  simp only [Bool.and_eq_true,decide_eq_true_eq] at hA
  have hN:amN am dp=true:=hN
  have hN:=allB_iff.1 hN
  have k1:=nm_word hA.1.1
  have h0:0<am.len:=by omega
  have hn:∀ j,j<am.len->dp<24/\bN (am.el j 2) (dp+1)=true:=fun j hj=>by
   have:=hN j hj
   unfold amNE blN at this
   simp only [Bool.and_eq_true,Bool.not_eq_true',decide_eq_false_iff_not] at this
   exact ⟨by omega,this.2⟩
  obtain ⟨a0,b0⟩:=At.cons (show At ws p (kwR::nm::⟨#[123]⟩::(catTo am.len (arW am)++[⟨#[125]⟩])) from hT)
  obtain ⟨a1,b1⟩:=b0.cons
  obtain ⟨a2,b2⟩:=b1.cons
  obtain ⟨a3,b3⟩:=b2.app
  obtain ⟨a4,_⟩:=b3.cons
  have e0:wnR ws en 1 (rp (p+1) pa)=rp (p+1+1) pa:=wn_tk a1 k1
  have e1:wv1 ws en (rp p pa)=rp (p+1+1+1) pa:=by
   unfold wv1;rw [gx_rp,e0];exact mu_tk a2 (by decide)
  have e2:wvA (wtR m) en ws dp (rp p pa)=(.l (rowsTo (arC am) am.len),rp (p+1+1+1+(catTo am.len (arW am)).length) pa):=by
   unfold wvA;rw [e1]
   exact ams_rd hw h0 Ha hA.2 (fun j hj=>(hn j hj).2) (hn 0 h0).1 hm a2.lt a3 a4
  have e3:wvR (wtR m) en ws dp (rp p pa)=rp (p+1+1+1+(catTo am.len (arW am)).length+1) pa:=by
   unfold wvR;rw [e2];exact mu_tk a4 (by decide)
  have el:(stW 5 nm tg ek en' es ed op lk ln ls ld rk rn rs rd bd eb am).length=(catTo am.len (arW am)).length+4:=by
   show (_::_::_::(_++[_])).length=_;simp
  unfold wtF
  rw [if_neg (by rw [isB_tk a0];decide),if_neg (by rw [isB_tk a0];decide),if_neg (by rw [isB_tk a0];decide),if_pos (by rw [isB_tk a0];decide),e3,el,show p+((catTo am.len (arW am)).length+4)=p+1+1+1+(catTo am.len (arW am)).length+1 by omega]
  unfold wvS
  rw [e2,gx_rp,wnS_tk a1 k1];rfl
 ·
  have hA:aC op lk ln ls ld rk rn rs rd=true:=hA
  have hN:cN lk ld rk rd=true:=hN
  obtain ⟨a1,a2⟩:=At.cons (show At ws p (kwA::(cW op lk ln ls ld rk rn rs rd++[⟨#[59]⟩])) from hT)
  obtain ⟨a3,a4⟩:=a2.app
  obtain ⟨a5,_⟩:=a4.cons
  obtain ⟨c1,c2⟩:=cd_rd (pa:=pa) hw en hA hN a3
  have e1:waR ws en (rp p pa)=rp (p+1+(cW op lk ln ls ld rk rn rs rd).length+1) pa:=by
   unfold waR;rw [gx_rp,c2];exact mu_tk a5 (by decide)
  have el:(stW 6 nm tg ek en' es ed op lk ln ls ld rk rn rs rd bd eb am).length=(cW op lk ln ls ld rk rn rs rd).length+2:=by
   show (_::(_++[_])).length=_;simp
  unfold wtF
  rw [if_neg (by rw [isB_tk a1];decide),if_neg (by rw [isB_tk a1];decide),if_neg (by rw [isB_tk a1];decide),if_neg (by rw [isB_tk a1];decide),if_pos (by rw [isB_tk a1];decide),e1,el,show p+((cW op lk ln ls ld rk rn rs rd).length+2)=p+1+(cW op lk ln ls ld rk rn rs rd).length+1 by omega]
  unfold waS
  rw [gx_rp,c1];rfl
 ·
  have hA:nmB nm=true:=hA
  have k1:=nm_word hA
  obtain ⟨a0,b0⟩:=At.cons (show At ws p [kwI,nm,⟨#[59]⟩] from hT)
  obtain ⟨a1,b1⟩:=b0.cons
  obtain ⟨a2,_⟩:=b1.cons
  have e0:wnR ws en 1 (rp (p+1) pa)=rp (p+1+1) pa:=wn_tk a1 k1
  have e1:wnZ ws en (rp p pa)=rp (p+1+1+1) pa:=by
   unfold wnZ;rw [gx_rp,e0];exact mu_tk a2 (by decide)
  unfold wtF
  rw [if_neg (by rw [isB_tk a0];decide),if_neg (by rw [isB_tk a0];decide),if_neg (by rw [isB_tk a0];decide),if_neg (by rw [isB_tk a0];decide),if_neg (by rw [isB_tk a0];decide),if_pos (by rw [isB_tk a0];decide),e1]
  unfold wnI
  rw [gx_rp,wnS_tk a1 k1];rfl
end Go.Proofs.Ytbhbjhejkamlnaa.Sx.Z
