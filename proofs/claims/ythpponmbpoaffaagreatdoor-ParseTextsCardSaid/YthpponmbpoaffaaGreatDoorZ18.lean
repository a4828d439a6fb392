import Derived.Test.YthpponmbpoaffaaGreatDoorZ17
namespace Go.Proofs.YthpponmbpoaffaaGreatDoor.Sx.Z
open Go.RowKit
def lI:AP:=.sc (.int .i64)
def lX:AP:=.agg [.c (.int .i64),.c (.int .i64),.c .str,.c (.rows 76)]
def lCo:AP:=.agg [.c (.int .i64),.c (.int .i64),.c (.int .i64),.c .str,.c (.rows 76),.c (.int .i64),.c (.int .i64),.c .str,.c (.rows 76)]
def lSt:AP:=.agg [.c (.int .i64),.c .str,.c .str,.c (.int .i64),.c (.int .i64),.c .str,.c (.rows 76),.c (.int .i64),.c (.int .i64),.c (.int .i64),.c .str,.c (.rows 76),.c (.int .i64),.c (.int .i64),.c .str,.c (.rows 76),.c (.rows 81),.c (.rows 81),.c (.rows 111)]
theorem lel_lt {d:D} {i j:Nat} (h:i<d.len):SizeOf.sizeOf (d.el i j)<SizeOf.sizeOf d:=by
 cases d with
 |l rows=>
  have h':i<rows.length:=h
  have e:(D.l rows).el i j=(rows[i]).getD j (.i 0):=by
   show (rows.getD i []).getD j (.i 0)=_
   rw [List.getD_eq_getElem?_getD (l:=rows),List.getElem?_eq_getElem h',Option.getD_some]
  rw [e,List.getD_eq_getElem?_getD]
  have h1:=List.sizeOf_lt_of_mem (List.getElem_mem h')
  cases hj:(rows[i])[j]? with
  |none=>
   rw [Option.getD_none]
   have:SizeOf.sizeOf (D.i 0)=1+SizeOf.sizeOf (0:Int):=rfl
   have e2:SizeOf.sizeOf (0:Int)=1:=rfl
   have:SizeOf.sizeOf (D.l rows)=1+SizeOf.sizeOf rows:=by simp
   have h2:1<=SizeOf.sizeOf (rows[i]):=by cases rows[i]<;>simp<;>omega
   omega
  |some x=>
   rw [Option.getD_some]
   have h2:=List.sizeOf_lt_of_mem (List.mem_of_getElem? hj)
   have:SizeOf.sizeOf (D.l rows)=1+SizeOf.sizeOf rows:=by simp
   omega
 |i n=>exact absurd h (Nat.not_lt_zero i)
 |b n=>exact absurd h (Nat.not_lt_zero i)
 |s n=>exact absurd h (Nat.not_lt_zero i)
def nmB (s:ByteArray):Bool:=!decide ((s.size:Int)>12)&&((lexR s).2.2==0&&((tokD (lexR s).1).len:Int)==1&&((tokD (lexR s).1).el 0 0).toI==1&&(((tokD (lexR s).1).el 0 1).toS.toList==s.toList))
def nuB (n:Int):Bool:=decide (n>=0)&&decide (n<=2147483647)
def biB (k:Int):Bool:=decide (k>=4)&&decide (k<=8)
def aXb (k n:Int) (s:ByteArray) (len:Int) (f:Nat->Bool):Bool:=
 if k=1 then nuB n else if k=2 then nmB s else if k=3 then len==1&&f 0 else if biB k=true then len==2&&f 0&&f 1 else false
def aE (d:D) (i:Nat):Bool:=if _h:i<d.len then aXb (d.el i 0).toI (d.el i 1).toI (d.el i 2).toS (d.el i 3).len (fun j=>aE (d.el i 3) j) else false
 termination_by SizeOf.sizeOf d
 decreasing_by exact lel_lt (by assumption)
def aX (k n:Int) (s:ByteArray) (d:D):Bool:=aXb k n s d.len (aE d)
theorem bi_in {k:Int} (h:biB k=true):4<=k/\k<=8:=by unfold biB at h;simp at h;omega
theorem aX_bin {k n:Int} {s:ByteArray} {d:D} (h:biB k=true):aX k n s d=((d.len:Int)==2&&aE d 0&&aE d 1):=by
 have hb:=bi_in h
 unfold aX aXb
 rw [if_neg (by omega),if_neg (by omega),if_neg (by omega),if_pos h]
theorem aX_no {k n:Int} {s:ByteArray} {d:D} (h1:k≠1) (h2:k≠2) (h3:k≠3) (h:biB k=false):aX k n s d=false:=by
 unfold aX aXb
 rw [if_neg h1,if_neg h2,if_neg h3,if_neg (by rw [h];decide)]
theorem aE_eq {d:D} {i:Nat} (h:i<d.len):aE d i=aX (d.el i 0).toI (d.el i 1).toI (d.el i 2).toS (d.el i 3):=by
 rw [aE,dif_pos h];rfl
noncomputable def nmrS:FSpec:=fun ds _=>match ds with
 | [.s s]=>some {val:=.one (.sc (.bool (.sym (nmB s)))),vc:=[]}
 |_=>none
noncomputable def nmrC:Con:=con [.sc .str] nmrS
theorem nmr_ok:ConOK Tryz.prog 43 nmrC:=by
 refine fn_ob tt_ok mixed Tryz.func43 rfl (fun _ _=>by kernel_rfl) (A:=fun ds=>⟨fun _=>Cons.of [(15,lexC)],fun _=>none,fun _=>none⟩) (fun _ _=>(cons_cons lex_ok cons_nil)) (by kernel_rfl) ?_
 intro ds fr
 unfold nmrS
 split
 ·rename_i s
  refine kmp (q:=(decide ((↑s.size:Int)>(12:Int))=true->false=nmB s)/\(decide ((↑s.size:Int)>(12:Int))=false->s.size<=(140737488351232:Nat)/\(((lexR s).snd.snd==(0:Int)&&(↑(tokD (lexR s).fst).len:Int)==(1:Int))=true/\True->(0:Nat)<(tokD (lexR s).fst).len)/\(((lexR s).snd.snd==(0:Int)&&(↑(tokD (lexR s).fst).len:Int)==(1:Int)&&((tokD (lexR s).fst).el ((0:Nat)) ((0:Nat)+(0:Nat))).toI==(1:Int))=true/\True->(0:Nat)<(tokD (lexR s).fst).len)/\((lexR s).snd.snd==(0:Int)&&(↑(tokD (lexR s).fst).len:Int)==(1:Int)&&((tokD (lexR s).fst).el ((0:Nat)) ((0:Nat)+(0:Nat))).toI==(1:Int)&&((tokD (lexR s).fst).el ((0:Nat)) 1).toS.toList==s.toList)=nmB s)) (by kernel_rfl) ?_
  refine ⟨fun h=>?_,fun h=>⟨?_,fun q=>?_,fun q=>?_,?_⟩⟩
  ·unfold nmB;rw [h];rfl
  ·have:=of_decide_eq_false h
   omega
  ·have q:=q.1
   simp only [Bool.and_eq_true,beq_iff_eq] at q
   omega
  ·have q:=q.1
   simp only [Bool.and_eq_true,beq_iff_eq] at q
   omega
  ·unfold nmB;rw [h];rfl
 ·trivial
noncomputable def nurS:FSpec:=fun ds _=>match ds with
 | [.i n]=>some {val:=.one (.sc (.bool (.sym (nuB n)))),vc:=[]}
 |_=>none
noncomputable def nurC:Con:=con [lI] nurS
theorem nur_ok:ConOK Tryz.prog 66 nurC:=by
 refine fn_ob tt_ok mixed Tryz.func66 rfl (fun _ _=>by kernel_rfl) (A:=fun ds=>⟨fun _=>Cons.of [],fun _=>none,fun _=>none⟩) (fun _ _=>cons_nil) (by kernel_rfl) ?_
 intro ds fr
 unfold nurS
 split
 ·rename_i n
  refine kmp (q:=(decide (n>=(0:Int))&&decide (n<=(2147483647:Int)))=nuB n) (by kernel_rfl) ?_
  rfl
 ·trivial
noncomputable def isbinS:FSpec:=fun ds _=>match ds with
 | [.i k]=>some {val:=.one (.sc (.bool (.sym (biB k)))),vc:=[]}
 |_=>none
noncomputable def isbinC:Con:=con [lI] isbinS
theorem isbin_ok:ConOK Tryz.prog 97 isbinC:=by
 refine fn_ob tt_ok mixed Tryz.func97 rfl (fun _ _=>by kernel_rfl) (A:=fun ds=>⟨fun _=>Cons.of [],fun _=>none,fun _=>none⟩) (fun _ _=>cons_nil) (by kernel_rfl) ?_
 intro ds fr
 unfold isbinS
 split
 ·rename_i k
  refine kmp (q:=(decide (k>=(4:Int))&&decide (k<=(8:Int)))=biB k) (by kernel_rfl) ?_
  rfl
 ·trivial
noncomputable def axrS:FSpec:=fun ds _=>match ds with
 | [.i k,.i n,.s s,.d d]=>some {val:=.one (.sc (.bool (.sym (aX k n s d)))),vc:=[]}
 |_=>none
noncomputable def axrC:Con:=con [lX] axrS
noncomputable def axrM:List Dat->Nat:=fun ds=>match ds with
 | [.i _k,.i _n,.s _s,.d d]=>SizeOf.sizeOf d
 |_=>0
noncomputable def axrSu (m:Nat):FSpec:=fun ds _=>match ds with
 | [.i k,.i n,.s s,.d d]=>some {val:=.one (.sc (.bool (.sym (aX k n s d)))),vc:=[SizeOf.sizeOf d<m]}
 |_=>none
theorem axr_under (m:Nat):axrS.under axrM m=axrSu m:=by
 funext ds fr
 unfold FSpec.under axrS axrM axrSu
 split
 ·rename_i e h
  split at h
  ·obtain rfl:=Option.some.inj h;rfl
  ·cases h
 ·rename_i h
  split at h
  ·cases h
  ·rfl
theorem axr_step (m:Nat) (ih:ConOK Tryz.prog 85 (con [lX] (axrSu m))):ConOK Tryz.prog 85 (con [lX] (axrSu (m+1))):=by
 refine fn_ob tt_ok mixed Tryz.func85 rfl (fun _ _=>by kernel_rfl) (A:=fun ds=>⟨fun _=>Cons.of [(66,nurC),(43,nmrC),(97,isbinC),(85,con [lX] (axrSu m))],fun _=>none,fun _=>none⟩) (fun _ _=>(cons_cons nur_ok (cons_cons nmr_ok (cons_cons isbin_ok (cons_cons ih cons_nil))))) (by kernel_rfl) ?_
 intro ds fr
 unfold axrSu
 split
 ·rename_i k n s d
  refine kmp (q:=SizeOf.sizeOf d<m+(1:Nat)->((k==(1:Int))=true->nuB n=aX k n s d)/\((k==(1:Int))=false->((k==(2:Int))=true->nmB s=aX k n s d)/\((k==(2:Int))=false->((k==(3:Int))=true->(((↑d.len:Int)==(1:Int))=true/\True->(0:Nat)<d.len)/\(((↑d.len:Int)==(1:Int))=true/\True->SizeOf.sizeOf (d.el ((0:Nat)) 3)<m)/\((↑d.len:Int)==(1:Int)&&aX (d.el ((0:Nat)) (0:Nat)).toI (d.el ((0:Nat)) 1).toI (d.el ((0:Nat)) 2).toS (d.el ((0:Nat)) 3))=aX k n s d)/\((k==(3:Int))=false->(biB k=true->(((↑d.len:Int)==(2:Int))=true/\True->(0:Nat)<d.len)/\(((↑d.len:Int)==(2:Int))=true/\True->SizeOf.sizeOf (d.el ((0:Nat)) 3)<m)/\(((↑d.len:Int)==(2:Int)&&aX (d.el ((0:Nat)) (0:Nat)).toI (d.el ((0:Nat)) 1).toI (d.el ((0:Nat)) 2).toS (d.el ((0:Nat)) 3))=true/\True->(1:Nat)<d.len)/\(((↑d.len:Int)==(2:Int)&&aX (d.el ((0:Nat)) (0:Nat)).toI (d.el ((0:Nat)) 1).toI (d.el ((0:Nat)) 2).toS (d.el ((0:Nat)) 3))=true/\True->SizeOf.sizeOf (d.el ((1:Nat)) 3)<m)/\((↑d.len:Int)==(2:Int)&&aX (d.el ((0:Nat)) (0:Nat)).toI (d.el ((0:Nat)) 1).toI (d.el ((0:Nat)) 2).toS (d.el ((0:Nat)) 3)&&aX (d.el ((1:Nat)) (0:Nat)).toI (d.el ((1:Nat)) 1).toI (d.el ((1:Nat)) 2).toS (d.el ((1:Nat)) 3))=aX k n s d)/\(biB k=false->false=aX k n s d))))) (by kernel_rfl) ?_
  intro hm
  (try simp only [Nat.reduceAdd,Nat.zero_add])
  refine ⟨fun h=>?_,fun h1=>⟨fun h=>?_,fun h2=>⟨fun h=>?_,fun h3=>⟨fun h=>?_,fun h=>?_⟩⟩⟩⟩
  ·obtain rfl:=eq_of_beq h;rfl
  ·obtain rfl:=eq_of_beq h;rfl
  ·obtain rfl:=eq_of_beq h
   have e:aX 3 n s d=((d.len:Int)==1&&aE d 0):=rfl
   rw [e]
   by_cases hl:d.len=1
   ·have z:=lel_lt (d:=d) (i:=0) (j:=3) (by omega)
    rw [aE_eq (by omega:0<d.len)]
    exact ⟨fun _=>by omega,fun _=>by omega,rfl⟩
   ·have q:((d.len:Int)==1)=false:=by simpa using (by omega:¬ (d.len:Int)=1)
    rw [q]
    exact ⟨fun h=>(by cases h.1),fun h=>(by cases h.1),rfl⟩
  ·rw [aX_bin h]
   by_cases hl:d.len=2
   ·have z:=lel_lt (d:=d) (i:=0) (j:=3) (by omega)
    have z1:=lel_lt (d:=d) (i:=1) (j:=3) (by omega)
    rw [aE_eq (by omega:0<d.len),aE_eq (by omega:1<d.len)]
    exact ⟨fun _=>by omega,fun _=>by omega,fun _=>by omega,fun _=>by omega,rfl⟩
   ·have q:((d.len:Int)==2)=false:=by simpa using (by omega:¬ (d.len:Int)=2)
    rw [q]
    exact ⟨fun h=>(by cases h.1),fun h=>(by cases h.1),fun h=>(by cases h.1),fun h=>(by cases h.1),rfl⟩
  ·exact (aX_no (ne_of_beq_false h1) (ne_of_beq_false h2) (ne_of_beq_false h3) h).symm
 ·trivial
theorem axr_ok:ConOK Tryz.prog 85 axrC:=
 con_rec axrM (fun _ _=>by kernel_rfl) fun m ih=>by
  rw [axr_under] at ih ⊢
  exact axr_step m ih
end Go.Proofs.YthpponmbpoaffaaGreatDoor.Sx.Z
namespace Go.Proofs.YthpponmbpoaffaaGreatDoor.Sx.Z
open Go.RowKit
def lBo:AP:=.sc (.rows 81)
def lAm:AP:=.sc (.rows 111)
def allB (n:Nat) (f:Nat->Bool):Bool:=(List.range n).all f
theorem allB_iff {n:Nat} {f:Nat->Bool}:allB n f=true ↔ ∀ i,i<n->f i=true:=by
 unfold allB
 rw [List.all_eq_true]
 exact ⟨fun h i hi=>h i (List.mem_range.2 hi),fun h i hi=>h i (List.mem_range.1 hi)⟩
theorem allB_yes {n:Nat} {f:Nat->Bool} (h:∀ i,i<n->f i=true):allB n f=true:=allB_iff.2 h
theorem allB_no {n i:Nat} {f:Nat->Bool} (hi:i<n) (h:f i=false):allB n f=false:=by
 cases hc:allB n f with
 |false=>rfl
 |true=>rw [allB_iff.1 hc i hi] at h;cases h
theorem allF_eq {n:Nat} (f:Nat->Bool):((List.finRange n).all fun i=>f i.1)=allB n f:=by
 have h1:((List.finRange n).all fun i=>f i.1)=true↔allB n f=true:=by
  rw [allB_iff,List.all_eq_true]
  exact ⟨fun h i hi=>h ⟨i,hi⟩ (List.mem_finRange _),fun h i _=>h i.1 i.2⟩
 cases hc:allB n f with
 |true=>exact h1.2 hc
 |false=>
  cases hd:((List.finRange n).all fun i=>f i.1) with
  |false=>rfl
  |true=>rw [h1.1 hd] at hc;cases hc
def aC (op lk ln:Int) (ls:ByteArray) (ld:D) (rk rn:Int) (rs:ByteArray) (rd:D):Bool:=decide (op>=1)&&decide (op<=6)&&aX lk ln ls ld&&aX rk rn rs rd
def aStF (k:Int) (nm tg:ByteArray) (e c b el:Bool) (al:Int) (a:Bool):Bool:=
 if k=1 then nmB nm&&e else if k=2 then c&&b&&el else if k=3 then c&&b else if k=4 then nmB nm&&nmB tg&&e else if k=5 then nmB nm&&decide (al>0)&&a else if k=6 then c else if k=7 then nmB nm else false
def bA (d:D):Bool:=(List.finRange d.len).all fun (i:Fin d.len)=>aStF (d.el i 0).toI (d.el i 1).toS (d.el i 2).toS (aX (d.el i 3).toI (d.el i 4).toI (d.el i 5).toS (d.el i 6)) (aC (d.el i 7).toI (d.el i 8).toI (d.el i 9).toI (d.el i 10).toS (d.el i 11) (d.el i 12).toI (d.el i 13).toI (d.el i 14).toS (d.el i 15)) (bA (d.el i 16)) (bA (d.el i 17)) (d.el i 18).len
    ((List.finRange (d.el i 18).len).all fun (j:Fin (d.el i 18).len)=>nmB ((d.el i 18).el j 0).toS&&nmB ((d.el i 18).el j 1).toS&&bA ((d.el i 18).el j 2))
 termination_by SizeOf.sizeOf d
 decreasing_by
  ·exact lel_lt i.isLt
  ·exact lel_lt i.isLt
  ·exact Nat.lt_trans (lel_lt j.isLt) (lel_lt i.isLt)
def arE (am:D) (j:Nat):Bool:=nmB (am.el j 0).toS&&nmB (am.el j 1).toS&&bA (am.el j 2)
def amsA (am:D):Bool:=allB am.len (arE am)
def stA (k:Int) (nm tg:ByteArray) (ek en:Int) (es:ByteArray) (ed:D) (op lk ln:Int) (ls:ByteArray) (ld:D) (rk rn:Int) (rs:ByteArray) (rd bd eb am:D):Bool:=
 aStF k nm tg (aX ek en es ed) (aC op lk ln ls ld rk rn rs rd) (bA bd) (bA eb) am.len (amsA am)
def stE (d:D) (i:Nat):Bool:=stA (d.el i 0).toI (d.el i 1).toS (d.el i 2).toS (d.el i 3).toI (d.el i 4).toI (d.el i 5).toS (d.el i 6) (d.el i 7).toI (d.el i 8).toI (d.el i 9).toI (d.el i 10).toS (d.el i 11) (d.el i 12).toI (d.el i 13).toI (d.el i 14).toS (d.el i 15) (d.el i 16) (d.el i 17) (d.el i 18)
theorem bA_eq (d:D):bA d=allB d.len (stE d):=by
 rw [bA,<- allF_eq]
 congr 1
 funext i
 unfold stE stA amsA
 rw [<- allF_eq]
 rfl
def sOK (d:D):Prop:=d.len<=10000000000000/\∀ i:Fin d.len,sOK (d.el i 16)/\sOK (d.el i 17)/\(d.el i 18).len<=10000000000000/\∀ j:Fin (d.el i 18).len,sOK ((d.el i 18).el j 2)
 termination_by SizeOf.sizeOf d
 decreasing_by
  ·exact lel_lt i.isLt
  ·exact lel_lt i.isLt
  ·exact Nat.lt_trans (lel_lt j.isLt) (lel_lt i.isLt)
def amOK (am:D):Prop:=am.len<=10000000000000/\∀ j,j<am.len->sOK (am.el j 2)
theorem sOK_iff (d:D):sOK d↔d.len<=10000000000000/\∀ i,i<d.len->sOK (d.el i 16)/\sOK (d.el i 17)/\amOK (d.el i 18):=by
 rw [sOK]
 constructor
 ·rintro ⟨h,k⟩
  refine ⟨h,fun i hi=>?_⟩
  obtain ⟨a,b,c,e⟩:=k ⟨i,hi⟩
  exact ⟨a,b,c,fun j hj=>e ⟨j,hj⟩⟩
 ·rintro ⟨h,k⟩
  refine ⟨h,fun i=>?_⟩
  obtain ⟨a,b,c,e⟩:=k i.1 i.2
  exact ⟨a,b,c,fun j=>e j.1 j.2⟩
noncomputable def acrS:FSpec:=fun ds _=>match ds with
 | [.i op,.i lk,.i ln,.s ls,.d ld,.i rk,.i rn,.s rs,.d rd]=>some {val:=.one (.sc (.bool (.sym (aC op lk ln ls ld rk rn rs rd)))),vc:=[]}
 |_=>none
noncomputable def acrC:Con:=con [lCo] acrS
theorem acr_ok:ConOK Tryz.prog 86 acrC:=by
 refine fn_ob tt_ok mixed Tryz.func86 rfl (fun _ _=>by kernel_rfl) (A:=fun ds=>⟨fun _=>Cons.of [(85,axrC)],fun _=>none,fun _=>none⟩) (fun _ _=>(cons_cons axr_ok cons_nil)) (by kernel_rfl) ?_
 intro ds fr
 unfold acrS
 split
 ·rename_i op lk ln ls ld rk rn rs rd
  refine kmp (q:=(decide (op>=(1:Int))&&decide (op<=(6:Int))&&aX lk ln ls ld&&aX rk rn rs rd)=aC op lk ln ls ld rk rn rs rd) (by kernel_rfl) ?_
  exact rfl
 ·trivial
noncomputable def bdrS:FSpec:=fun ds _=>match ds with
 | [.d d]=>some {val:=.one (.sc (.bool (.sym (bA d)))),vc:=[sOK d]}
 |_=>none
noncomputable def bdrC:Con:=con [lBo] bdrS
noncomputable def bdrM:List Dat->Nat:=fun ds=>match ds with
 | [.d d]=>SizeOf.sizeOf d
 |_=>0
noncomputable def bdrSu (m:Nat):FSpec:=fun ds _=>match ds with
 | [.d d]=>some {val:=.one (.sc (.bool (.sym (bA d)))),vc:=[SizeOf.sizeOf d<m,sOK d]}
 |_=>none
theorem bdr_under (m:Nat):bdrS.under bdrM m=bdrSu m:=by
 funext ds fr
 unfold FSpec.under bdrS bdrM bdrSu
 split
 ·rename_i e h
  split at h
  ·obtain rfl:=Option.some.inj h;rfl
  ·cases h
 ·rename_i h
  split at h
  ·cases h
  ·rfl
noncomputable def amrS (m:Nat):FSpec:=fun ds _=>match ds with
 | [.d d]=>some {val:=.one (.sc (.bool (.sym (amsA d)))),vc:=[SizeOf.sizeOf d<m,amOK d]}
 |_=>none
noncomputable def amrC (m:Nat):Con:=con [lAm] (amrS m)
theorem amr_ok {m:Nat} (ih:ConOK Tryz.prog 45 (con [lBo] (bdrSu m))):ConOK Tryz.prog 87 (amrC m):=by
 refine fn_ob tt_ok mixed Tryz.func87 rfl (fun _ _=>by kernel_rfl) (A:=fun ds=>⟨fun _=>Cons.of [(43,nmrC),(45,con [lBo] (bdrSu m))],fun k=>match k,ds with | 2,[.d d]=>some {ι:=Nat,pre:=fun _ i=>i<=d.len/\∀ j,j<i->arE d j=true,μ:=fun i=>d.len-i,st:=fun s i=>famR s [(7,.one (.sc (.int .i64 (.sym ((i:Int))))))] [5,6] [] []} |_,_=>none,fun _=>none⟩) (fun _ _=>(cons_cons nmr_ok (cons_cons ih cons_nil))) (by kernel_rfl) ?_
 intro ds fr
 unfold amrS
 split
 ·rename_i d
  refine kmp (q:=SizeOf.sizeOf d<m->amOK d->(∃ (i:Nat),(i<=d.len/\∀ (j:Nat),j<i->arE d j=true)/\(0:Int)=(↑i:Int)/\d.rows=d.rows/\(↑d.len:Int)=(↑d.len:Int))/\∀ (i:Nat),(i<=d.len/\∀ (j:Nat),j<i->arE d j=true)->(decide ((↑i:Int)<(↑d.len:Int))=true->((0:Int)<=(↑i:Int)/\(↑i:Int)<(↑d.len:Int))/\((!nmB (d.el (↑i:Int).toNat (0:Nat)).toS || !nmB (d.el (↑i:Int).toNat 1).toS)=false/\True->SizeOf.sizeOf (d.el (↑i:Int).toNat 2)<m)/\((!nmB (d.el (↑i:Int).toNat (0:Nat)).toS || !nmB (d.el (↑i:Int).toNat 1).toS)=false/\True->sOK (d.el (↑i:Int).toNat 2))/\((!nmB (d.el (↑i:Int).toNat (0:Nat)).toS || !nmB (d.el (↑i:Int).toNat 1).toS || !bA (d.el (↑i:Int).toNat 2))=true->false=amsA d)/\((!nmB (d.el (↑i:Int).toNat (0:Nat)).toS || !nmB (d.el (↑i:Int).toNat 1).toS || !bA (d.el (↑i:Int).toNat 2))=false->∃ (j:Nat),(j<=d.len/\∀ (j_1:Nat),j_1<j->arE d j_1=true)/\d.len-j<d.len-i/\IntKind.i64.wrap ((↑i:Int)+(1:Int))=(↑j:Int)/\d.rows=d.rows/\(↑d.len:Int)=(↑d.len:Int)))/\(decide ((↑i:Int)<(↑d.len:Int))=false->true=amsA d)) (by kernel_rfl) ?_
  intro hm hs
  have e0:∀ (i:Nat),((i:Int)).toNat=i:=fun i=>Int.toNat_natCast i
  simp only [Nat.zero_add,Nat.reduceAdd,e0]
  have hb:=hs.1
  unfold amsA
  refine ⟨⟨0,⟨Nat.zero_le _,fun j hj=>absurd hj (Nat.not_lt_zero j)⟩,rfl,trivial,trivial⟩,fun i hp=>⟨fun hl=>?_,fun hl=>?_⟩⟩
  ·have hl:=of_decide_eq_true hl
   have hi:i<d.len:=by omega
   have hw:IntKind.i64.wrap ((i:Int)+1)=((i+1:Nat):Int):=by rw [IntWalk.i64_in _ (by omega)];omega
   have z1:=lel_lt (j:=2) hi
   have s1:=hs.2 i hi
   have er:arE d i = !(!nmB (d.el i 0).toS || !nmB (d.el i 1).toS || !bA (d.el i 2)):=by unfold arE;simp
   refine ⟨⟨by omega,by omega⟩,fun _=>by omega,fun _=>s1,fun hq=>?_,fun hq=>?_⟩
   ·have hq:arE d i=false:=by rw [er,hq];rfl
    exact (allB_no hi hq).symm
   ·have hq:arE d i=true:=by rw [er,hq];rfl
    refine ⟨i+1,⟨by omega,fun j hj=>?_⟩,by omega,hw,trivial,trivial⟩
    rcases Nat.lt_or_ge j i with h |h
    ·exact hp.2 j h
    ·obtain rfl:j=i:=by omega
     exact hq
  ·have hl:=of_decide_eq_false hl
   exact (allB_yes fun j hj=>hp.2 j (by omega)).symm
 ·trivial
noncomputable def strS (m:Nat):FSpec:=fun ds _=>match ds with
 | [.i k,.s nm,.s tg,.i ek,.i en,.s es,.d ed,.i op,.i lk,.i ln,.s ls,.d ld,.i rk,.i rn,.s rs,.d rd,.d bd,.d eb,.d am]=>some {val:=.one (.sc (.bool (.sym (stA k nm tg ek en es ed op lk ln ls ld rk rn rs rd bd eb am)))),vc:=[SizeOf.sizeOf bd<m,SizeOf.sizeOf eb<m,SizeOf.sizeOf am<m,sOK bd,sOK eb,amOK am]}
 |_=>none
noncomputable def strC (m:Nat):Con:=con [lSt] (strS m)
theorem str_ok {m:Nat} (ih:ConOK Tryz.prog 45 (con [lBo] (bdrSu m))):ConOK Tryz.prog 67 (strC m):=by
 refine fn_ob tt_ok mixed Tryz.func67 rfl (fun _ _=>by kernel_rfl) (A:=fun ds=>⟨fun _=>Cons.of [(43,nmrC),(85,axrC),(86,acrC),(87,(amrC m)),(45,con [lBo] (bdrSu m))],fun _=>none,fun _=>none⟩) (fun _ _=>(cons_cons nmr_ok (cons_cons axr_ok (cons_cons acr_ok (cons_cons (amr_ok ih) (cons_cons ih cons_nil)))))) (by kernel_rfl) ?_
 intro ds fr
 unfold strS
 split
 ·rename_i k nm tg ek en es ed op lk ln ls ld rk rn rs rd bd eb am
  refine kmp (q:=SizeOf.sizeOf bd<m->SizeOf.sizeOf eb<m->SizeOf.sizeOf am<m->sOK bd->sOK eb->amOK am->((k==(1:Int))=true->(nmB nm&&aX ek en es ed)=stA k nm tg ek en es ed op lk ln ls ld rk rn rs rd bd eb am)/\((k==(1:Int))=false->((k==(2:Int))=true->(aC op lk ln ls ld rk rn rs rd=true/\True->SizeOf.sizeOf bd<m)/\(aC op lk ln ls ld rk rn rs rd=true/\True->sOK bd)/\((aC op lk ln ls ld rk rn rs rd&&bA bd)=true/\True->SizeOf.sizeOf eb<m)/\((aC op lk ln ls ld rk rn rs rd&&bA bd)=true/\True->sOK eb)/\(aC op lk ln ls ld rk rn rs rd&&bA bd&&bA eb)=stA k nm tg ek en es ed op lk ln ls ld rk rn rs rd bd eb am)/\((k==(2:Int))=false->((k==(3:Int))=true->(aC op lk ln ls ld rk rn rs rd=true/\True->SizeOf.sizeOf bd<m)/\(aC op lk ln ls ld rk rn rs rd=true/\True->sOK bd)/\(aC op lk ln ls ld rk rn rs rd&&bA bd)=stA k nm tg ek en es ed op lk ln ls ld rk rn rs rd bd eb am)/\((k==(3:Int))=false->((k==(4:Int))=true->(nmB nm&&nmB tg&&aX ek en es ed)=stA k nm tg ek en es ed op lk ln ls ld rk rn rs rd bd eb am)/\((k==(4:Int))=false->((k==(5:Int))=true->((nmB nm&&decide ((↑am.len:Int)>(0:Int)))=true/\True->SizeOf.sizeOf am<m)/\((nmB nm&&decide ((↑am.len:Int)>(0:Int)))=true/\True->amOK am)/\(nmB nm&&decide ((↑am.len:Int)>(0:Int))&&amsA am)=stA k nm tg ek en es ed op lk ln ls ld rk rn rs rd bd eb am)/\((k==(5:Int))=false->((k==(6:Int))=true->aC op lk ln ls ld rk rn rs rd=stA k nm tg ek en es ed op lk ln ls ld rk rn rs rd bd eb am)/\((k==(6:Int))=false->((k==(7:Int))=true->nmB nm=stA k nm tg ek en es ed op lk ln ls ld rk rn rs rd bd eb am)/\((k==(7:Int))=false->false=stA k nm tg ek en es ed op lk ln ls ld rk rn rs rd bd eb am)))))))) (by kernel_rfl) ?_
  intro h1 h2 h3 h4 h5 h6
  refine ⟨fun h=>?_,fun n1=>⟨fun h=>⟨fun _=>h1,fun _=>h4,fun _=>h2,fun _=>h5,?_⟩,fun n2=>⟨fun h=>⟨fun _=>h1,fun _=>h4,?_⟩,fun n3=>⟨fun h=>?_,fun n4=>⟨fun h=>⟨fun _=>h3,fun _=>h6,?_⟩,fun n5=>⟨fun h=>?_,fun n6=>⟨fun h=>?_,fun n7=>?_⟩⟩⟩⟩⟩⟩⟩
  iterate 7 (obtain rfl:=eq_of_beq h;rfl)
  unfold stA aStF
  rw [if_neg (ne_of_beq_false n1),if_neg (ne_of_beq_false n2),if_neg (ne_of_beq_false n3),if_neg (ne_of_beq_false n4),if_neg (ne_of_beq_false n5),if_neg (ne_of_beq_false n6),if_neg (ne_of_beq_false n7)]
 ·trivial
theorem bdr_step (m:Nat) (ih:ConOK Tryz.prog 45 (con [lBo] (bdrSu m))):ConOK Tryz.prog 45 (con [lBo] (bdrSu (m+1))):=by
 refine fn_ob tt_ok mixed Tryz.func45 rfl (fun _ _=>by kernel_rfl) (A:=fun ds=>⟨fun _=>Cons.of [(67,(strC m))],fun k=>match k,ds with | 2,[.d d]=>some {ι:=Nat,pre:=fun _ i=>i<=d.len/\∀ j,j<i->stE d j=true,μ:=fun i=>d.len-i,st:=fun s i=>famR s [(7,.one (.sc (.int .i64 (.sym ((i:Int))))))] [5,6] [] []} |_,_=>none,fun _=>none⟩) (fun _ _=>(cons_cons (str_ok ih) cons_nil)) (by kernel_rfl) ?_
 intro ds fr
 unfold bdrSu
 split
 ·rename_i d
  refine kmp (q:=SizeOf.sizeOf d<m+(1:Nat)->sOK d->(∃ (i:Nat),(i<=d.len/\∀ (j:Nat),j<i->stE d j=true)/\(0:Int)=(↑i:Int)/\d.rows=d.rows/\(↑d.len:Int)=(↑d.len:Int))/\∀ (i:Nat),(i<=d.len/\∀ (j:Nat),j<i->stE d j=true)->(decide ((↑i:Int)<(↑d.len:Int))=true->((0:Int)<=(↑i:Int)/\(↑i:Int)<(↑d.len:Int))/\SizeOf.sizeOf (d.el (↑i:Int).toNat 16)<m/\SizeOf.sizeOf (d.el (↑i:Int).toNat 17)<m/\SizeOf.sizeOf (d.el (↑i:Int).toNat 18)<m/\sOK (d.el (↑i:Int).toNat 16)/\sOK (d.el (↑i:Int).toNat 17)/\amOK (d.el (↑i:Int).toNat 18)/\((!stA (d.el (↑i:Int).toNat (0:Nat)).toI (d.el (↑i:Int).toNat 1).toS (d.el (↑i:Int).toNat 2).toS (d.el (↑i:Int).toNat 3).toI (d.el (↑i:Int).toNat 4).toI (d.el (↑i:Int).toNat 5).toS (d.el (↑i:Int).toNat 6) (d.el (↑i:Int).toNat 7).toI (d.el (↑i:Int).toNat 8).toI (d.el (↑i:Int).toNat 9).toI (d.el (↑i:Int).toNat 10).toS (d.el (↑i:Int).toNat 11) (d.el (↑i:Int).toNat 12).toI (d.el (↑i:Int).toNat 13).toI (d.el (↑i:Int).toNat 14).toS (d.el (↑i:Int).toNat 15) (d.el (↑i:Int).toNat 16) (d.el (↑i:Int).toNat 17) (d.el (↑i:Int).toNat 18))=true->false=bA d)/\((!stA (d.el (↑i:Int).toNat (0:Nat)).toI (d.el (↑i:Int).toNat 1).toS (d.el (↑i:Int).toNat 2).toS (d.el (↑i:Int).toNat 3).toI (d.el (↑i:Int).toNat 4).toI (d.el (↑i:Int).toNat 5).toS (d.el (↑i:Int).toNat 6) (d.el (↑i:Int).toNat 7).toI (d.el (↑i:Int).toNat 8).toI (d.el (↑i:Int).toNat 9).toI (d.el (↑i:Int).toNat 10).toS (d.el (↑i:Int).toNat 11) (d.el (↑i:Int).toNat 12).toI (d.el (↑i:Int).toNat 13).toI (d.el (↑i:Int).toNat 14).toS (d.el (↑i:Int).toNat 15) (d.el (↑i:Int).toNat 16) (d.el (↑i:Int).toNat 17) (d.el (↑i:Int).toNat 18))=false->∃ (j:Nat),(j<=d.len/\∀ (j_1:Nat),j_1<j->stE d j_1=true)/\d.len-j<d.len-i/\IntKind.i64.wrap ((↑i:Int)+(1:Int))=(↑j:Int)/\d.rows=d.rows/\(↑d.len:Int)=(↑d.len:Int)))/\(decide ((↑i:Int)<(↑d.len:Int))=false->true=bA d)) (by kernel_rfl) ?_
  intro hm hs
  have e0:∀ (i:Nat),((i:Int)).toNat=i:=fun i=>Int.toNat_natCast i
  simp only [Nat.zero_add,Nat.reduceAdd,e0]
  have hb:=((sOK_iff d).1 hs).1
  rw [bA_eq]
  refine ⟨⟨0,⟨Nat.zero_le _,fun j hj=>absurd hj (Nat.not_lt_zero j)⟩,rfl,trivial,trivial⟩,fun i hp=>⟨fun hl=>?_,fun hl=>?_⟩⟩
  ·have hl:=of_decide_eq_true hl
   have hi:i<d.len:=by omega
   have hw:IntKind.i64.wrap ((i:Int)+1)=((i+1:Nat):Int):=by rw [IntWalk.i64_in _ (by omega)];omega
   have z1:=lel_lt (j:=16) hi
   have z2:=lel_lt (j:=17) hi
   have z3:=lel_lt (j:=18) hi
   obtain ⟨s1,s2,s3⟩:=((sOK_iff d).1 hs).2 i hi
   refine ⟨⟨by omega,by omega⟩,by omega,by omega,by omega,s1,s2,s3,fun hq=>?_,fun hq=>?_⟩
   ·have hq:stE d i=false:=by rw [Bool.not_eq_true'] at hq;exact hq
    exact (allB_no hi hq).symm
   ·have hq:stE d i=true:=by rw [Bool.not_eq_false'] at hq;exact hq
    refine ⟨i+1,⟨by omega,fun j hj=>?_⟩,by omega,hw,trivial,trivial⟩
    rcases Nat.lt_or_ge j i with h |h
    ·exact hp.2 j h
    ·obtain rfl:j=i:=by omega
     exact hq
  ·have hl:=of_decide_eq_false hl
   exact (allB_yes fun j hj=>hp.2 j (by omega)).symm
 ·trivial
theorem bdr_ok:ConOK Tryz.prog 45 bdrC:=
 con_rec bdrM (fun _ _=>by kernel_rfl) fun m ih=>by
  rw [bdr_under] at ih ⊢
  exact bdr_step m ih
end Go.Proofs.YthpponmbpoaffaaGreatDoor.Sx.Z
namespace Go.Proofs.YthpponmbpoaffaaGreatDoor.Sx.Z
open Go.RowKit
def lNs:AP:=.sc (.rows 9)
def lCh:AP:=.agg [.c .str,.c (.int .i64),.c (.int .i64),.c .str,.c .str,.c (.rows 9)]
def lRu:AP:=.agg [.c .str,.c (.rows 56)]
def lSy:AP:=.agg [.c (.rows 47),.c (.rows 53),.c (.rows 63)]
def nsE (d:D) (i:Nat):Bool:=nmB (d.el i 0).toS
def nsA (d:D):Bool:=allB d.len (nsE d)
def chB (nm:ByteArray) (k sz:Int) (f t:ByteArray) (tg:D):Bool:=nmB nm&&decide (k>=0)&&decide (k<=2)&&nuB sz&&nmB f&&nmB t&&decide ((tg.len:Int)>0)&&nsA tg
def mvE (d:D) (i:Nat):Bool:=nuB (d.el i 0).toI&&nmB (d.el i 1).toS&&nuB (d.el i 2).toI
def ruB (nm:ByteArray) (mv:D):Bool:=allB mv.len (mvE mv)&&nmB nm
def chE (d:D) (i:Nat):Bool:=chB (d.el i 0).toS (d.el i 1).toI (d.el i 2).toI (d.el i 3).toS (d.el i 4).toS (d.el i 5)
def ruE (d:D) (i:Nat):Bool:=ruB (d.el i 0).toS (d.el i 1)
def prE (d:D) (i:Nat):Bool:=nmB (d.el i 0).toS&&nsA (d.el i 1)&&bA (d.el i 2)
def syB (ch ru pr:D):Bool:=allB ch.len (chE ch)&&(allB ru.len (ruE ru)&&allB pr.len (prE pr))
structure SyOK (ch ru pr:D):Prop where
 c:ch.len<=10000000000000
 ct:∀ i,i<ch.len->(ch.el i 5).len<=10000000000000
 r:ru.len<=10000000000000
 rm:∀ i,i<ru.len->(ru.el i 1).len<=10000000000000
 p:pr.len<=10000000000000
 pv:∀ i,i<pr.len->(pr.el i 1).len<=10000000000000
 pb:∀ i,i<pr.len->sOK (pr.el i 2)
noncomputable def nsrS:FSpec:=fun ds _=>match ds with
 | [.d d]=>some {val:=.one (.sc (.bool (.sym (nsA d)))),vc:=[d.len<=10000000000000]}
 |_=>none
noncomputable def nsrC:Con:=con [lNs] nsrS
theorem nsr_ok:ConOK Tryz.prog 44 nsrC:=by
 refine fn_ob tt_ok mixed Tryz.func44 rfl (fun _ _=>by kernel_rfl) (A:=fun ds=>⟨fun _=>Cons.of [(43,nmrC)],fun k=>match k,ds with | 2,[.d d]=>some {ι:=Nat,pre:=fun _ i=>i<=d.len/\∀ j,j<i->nsE d j=true,μ:=fun i=>d.len-i,st:=fun s i=>famR s [(7,.one (.sc (.int .i64 (.sym ((i:Int))))))] [5,6] [] []} |_,_=>none,fun _=>none⟩) (fun _ _=>(cons_cons nmr_ok cons_nil)) (by kernel_rfl) ?_
 intro ds fr
 unfold nsrS
 split
 ·rename_i d
  refine kmp (q:=d.len<=(10000000000000:Nat)->(∃ (i:Nat),(i<=d.len/\∀ (j:Nat),j<i->nsE d j=true)/\(0:Int)=(↑i:Int)/\d.rows=d.rows/\(↑d.len:Int)=(↑d.len:Int))/\∀ (i:Nat),(i<=d.len/\∀ (j:Nat),j<i->nsE d j=true)->(decide ((↑i:Int)<(↑d.len:Int))=true->((0:Int)<=(↑i:Int)/\(↑i:Int)<(↑d.len:Int))/\((!nmB (d.el (↑i:Int).toNat (0:Nat)).toS)=true->false=nsA d)/\((!nmB (d.el (↑i:Int).toNat (0:Nat)).toS)=false->∃ (j:Nat),(j<=d.len/\∀ (j_1:Nat),j_1<j->nsE d j_1=true)/\d.len-j<d.len-i/\IntKind.i64.wrap ((↑i:Int)+(1:Int))=(↑j:Int)/\d.rows=d.rows/\(↑d.len:Int)=(↑d.len:Int)))/\(decide ((↑i:Int)<(↑d.len:Int))=false->true=nsA d)) (by kernel_rfl) ?_
  intro hd
  have e0:∀ (i:Nat),((i:Int)).toNat=i:=fun i=>Int.toNat_natCast i
  simp only [e0]
  unfold nsA
  refine ⟨⟨0,⟨Nat.zero_le _,fun j hj=>absurd hj (Nat.not_lt_zero j)⟩,by (repeat' apply And.intro)<;>first |trivial |rfl |(intro _ _;rfl) |(intro _ _;trivial)⟩,fun i hp=>⟨fun hl=>?_,fun hl=>?_⟩⟩
  ·have hl:=of_decide_eq_true hl
   have hb:=hd
   have hi:i<d.len:=by omega
   have hw:IntKind.i64.wrap ((i:Int)+1)=((i+1:Nat):Int):=by rw [IntWalk.i64_in _ (by omega)];omega
   skip
   refine ⟨⟨by omega,by omega⟩,fun hq=>?_,fun hq=>?_⟩
   ·have hq:nsE d i=false:=by rw [Bool.not_eq_true'] at hq;exact hq
    exact (allB_no hi hq).symm
   ·have hq:nsE d i=true:=by rw [Bool.not_eq_false'] at hq;exact hq
    refine ⟨i+1,⟨by omega,fun j hj=>?_⟩,by omega,hw,by (repeat' apply And.intro)<;>first |trivial |rfl |(intro _ _;rfl) |(intro _ _;trivial)⟩
    rcases Nat.lt_or_ge j i with h |h
    ·exact hp.2 j h
    ·obtain rfl:j=i:=by omega
     exact hq
  ·have hl:=of_decide_eq_false hl
   have hall:allB d.len (nsE d)=true:=allB_yes fun j hj=>hp.2 j (by omega)
   exact hall.symm
 ·trivial
noncomputable def chrS:FSpec:=fun ds _=>match ds with
 | [.s nm,.i k,.i sz,.s f,.s t,.d tg]=>some {val:=.one (.sc (.bool (.sym (chB nm k sz f t tg)))),vc:=[tg.len<=10000000000000]}
 |_=>none
noncomputable def chrC:Con:=con [lCh] chrS
theorem chr_ok:ConOK Tryz.prog 41 chrC:=by
 refine fn_ob tt_ok mixed Tryz.func41 rfl (fun _ _=>by kernel_rfl) (A:=fun ds=>⟨fun _=>Cons.of [(43,nmrC),(66,nurC),(44,nsrC)],fun _=>none,fun _=>none⟩) (fun _ _=>(cons_cons nmr_ok (cons_cons nur_ok (cons_cons nsr_ok cons_nil)))) (by kernel_rfl) ?_
 intro ds fr
 unfold chrS
 split
 ·rename_i nm k sz f t tg
  refine kmp (q:=tg.len<=(10000000000000:Nat)->((nmB nm&&decide (k>=(0:Int))&&decide (k<=(2:Int))&&nuB sz&&nmB f&&nmB t&&decide ((↑tg.len:Int)>(0:Int)))=true/\True->tg.len<=(10000000000000:Nat))/\(nmB nm&&decide (k>=(0:Int))&&decide (k<=(2:Int))&&nuB sz&&nmB f&&nmB t&&decide ((↑tg.len:Int)>(0:Int))&&nsA tg)=chB nm k sz f t tg) (by kernel_rfl) ?_
  intro ht
  exact ⟨fun _=>ht,rfl⟩
 ·trivial
noncomputable def rurS:FSpec:=fun ds _=>match ds with
 | [.s nm,.d d]=>some {val:=.one (.sc (.bool (.sym (ruB nm d)))),vc:=[d.len<=10000000000000]}
 |_=>none
noncomputable def rurC:Con:=con [lRu] rurS
theorem rur_ok:ConOK Tryz.prog 42 rurC:=by
 refine fn_ob tt_ok mixed Tryz.func42 rfl (fun _ _=>by kernel_rfl) (A:=fun ds=>⟨fun _=>Cons.of [(43,nmrC),(66,nurC)],fun k=>match k,ds with | 2,[.s nm,.d d]=>some {ι:=Nat,pre:=fun _ i=>i<=d.len/\∀ j,j<i->mvE d j=true,μ:=fun i=>d.len-i,st:=fun s i=>famR s [(8,.one (.sc (.int .i64 (.sym ((i:Int))))))] [1,6,7] [] [1]} |_,_=>none,fun _=>none⟩) (fun _ _=>(cons_cons nmr_ok (cons_cons nur_ok cons_nil))) (by kernel_rfl) ?_
 intro ds fr
 unfold rurS
 split
 ·rename_i nm d
  refine kmp (q:=d.len<=(10000000000000:Nat)->(∃ (i:Nat),(i<=d.len/\∀ (j:Nat),j<i->mvE d j=true)/\(0:Int)=(↑i:Int)/\d.rows=d.rows/\(↑d.len:Int)=(↑d.len:Int)/\Value.string nm=Value.string nm/\d.rows=d.rows)/\∀ (i:Nat),(i<=d.len/\∀ (j:Nat),j<i->mvE d j=true)->(decide ((↑i:Int)<(↑d.len:Int))=true->((0:Int)<=(↑i:Int)/\(↑i:Int)<(↑d.len:Int))/\((!nuB (d.el (↑i:Int).toNat (0:Nat)).toI || !nmB (d.el (↑i:Int).toNat 1).toS || !nuB (d.el (↑i:Int).toNat 2).toI)=true->false=ruB nm d)/\((!nuB (d.el (↑i:Int).toNat (0:Nat)).toI || !nmB (d.el (↑i:Int).toNat 1).toS || !nuB (d.el (↑i:Int).toNat 2).toI)=false->∃ (j:Nat),(j<=d.len/\∀ (j_1:Nat),j_1<j->mvE d j_1=true)/\d.len-j<d.len-i/\IntKind.i64.wrap ((↑i:Int)+(1:Int))=(↑j:Int)/\d.rows=d.rows/\(↑d.len:Int)=(↑d.len:Int)/\Value.string nm=Value.string nm/\d.rows=d.rows))/\(decide ((↑i:Int)<(↑d.len:Int))=false->nmB nm=ruB nm d)) (by kernel_rfl) ?_
  intro hd
  have e0:∀ (i:Nat),((i:Int)).toNat=i:=fun i=>Int.toNat_natCast i
  simp only [Nat.zero_add,Nat.reduceAdd,e0]
  unfold ruB
  refine ⟨⟨0,⟨Nat.zero_le _,fun j hj=>absurd hj (Nat.not_lt_zero j)⟩,by (repeat' apply And.intro)<;>first |trivial |rfl |(intro _ _;rfl) |(intro _ _;trivial)⟩,fun i hp=>⟨fun hl=>?_,fun hl=>?_⟩⟩
  ·have hl:=of_decide_eq_true hl
   have hb:=hd
   have hi:i<d.len:=by omega
   have hw:IntKind.i64.wrap ((i:Int)+1)=((i+1:Nat):Int):=by rw [IntWalk.i64_in _ (by omega)];omega
   have er:mvE d i = !(!nuB (d.el i 0).toI || !nmB (d.el i 1).toS || !nuB (d.el i 2).toI):=by unfold mvE;simp
   refine ⟨⟨by omega,by omega⟩,fun hq=>?_,fun hq=>?_⟩
   ·have hq:mvE d i=false:=by rw [er,hq];rfl
    rw [allB_no hi hq];rfl
   ·have hq:mvE d i=true:=by rw [er,hq];rfl
    refine ⟨i+1,⟨by omega,fun j hj=>?_⟩,by omega,hw,by (repeat' apply And.intro)<;>first |trivial |rfl |(intro _ _;rfl) |(intro _ _;trivial)⟩
    rcases Nat.lt_or_ge j i with h |h
    ·exact hp.2 j h
    ·obtain rfl:j=i:=by omega
     exact hq
  ·have hl:=of_decide_eq_false hl
   have hall:allB d.len (mvE d)=true:=allB_yes fun j hj=>hp.2 j (by omega)
   rw [hall];rfl
 ·trivial
noncomputable def syrS:FSpec:=fun ds _=>match ds with
 | [.d ch,.d ru,.d pr]=>some {val:=.one (.sc (.bool (.sym (syB ch ru pr)))),vc:=[SyOK ch ru pr]}
 |_=>none
noncomputable def syrC:Con:=con [lSy] syrS
theorem syr_ok:ConOK Tryz.prog 23 syrC:=by
 refine fn_ob tt_ok mixed Tryz.func23 rfl (fun _ _=>by kernel_rfl) (A:=fun ds=>⟨fun _=>Cons.of [(43,nmrC),(44,nsrC),(45,bdrC),(41,chrC),(42,rurC)],fun k=>match k,ds with | 2,[.d ch,.d ru,.d pr]=>some {ι:=Nat,pre:=fun _ i=>i<=ch.len/\∀ j,j<i->chE ch j=true,μ:=fun i=>ch.len-i,st:=fun s i=>famR s [(12,.one (.sc (.int .i64 (.sym ((i:Int))))))] [1,10,11] [] [1]} | 8,[.d ch,.d ru,.d pr]=>some {ι:=Nat,pre:=fun _ i=>i<=ru.len/\∀ j,j<i->ruE ru j=true,μ:=fun i=>ru.len-i,st:=fun s i=>famR s [(23,.one (.sc (.int .i64 (.sym ((i:Int))))))] [1,21,22] [] [1]} | 14,[.d ch,.d ru,.d pr]=>some {ι:=Nat,pre:=fun _ i=>i<=pr.len/\∀ j,j<i->prE pr j=true,μ:=fun i=>pr.len-i,st:=fun s i=>famR s [(34,.one (.sc (.int .i64 (.sym ((i:Int))))))] [1,32,33] [] [1]} |_,_=>none,fun _=>none⟩) (fun _ _=>(cons_cons nmr_ok (cons_cons nsr_ok (cons_cons bdr_ok (cons_cons chr_ok (cons_cons rur_ok cons_nil)))))) (by kernel_rfl) ?_
 intro ds fr
 unfold syrS
 split
 ·rename_i ch ru pr
  refine kmp (q:=SyOK ch ru pr->(∃ (i:Nat),(i<=ch.len/\∀ (j:Nat),j<i->chE ch j=true)/\(0:Int)=(↑i:Int)/\ch.rows=ch.rows/\(↑ch.len:Int)=(↑ch.len:Int)/\ch.rows=ch.rows/\ru.rows=ru.rows/\pr.rows=pr.rows)/\∀ (i:Nat),(i<=ch.len/\∀ (j:Nat),j<i->chE ch j=true)->(decide ((↑i:Int)<(↑ch.len:Int))=true->((0:Int)<=(↑i:Int)/\(↑i:Int)<(↑ch.len:Int))/\(ch.el (↑i:Int).toNat 5).len<=(10000000000000:Nat)/\((!chB (ch.el (↑i:Int).toNat (0:Nat)).toS (ch.el (↑i:Int).toNat 1).toI (ch.el (↑i:Int).toNat 2).toI (ch.el (↑i:Int).toNat 3).toS (ch.el (↑i:Int).toNat 4).toS (ch.el (↑i:Int).toNat 5))=true->false=syB ch ru pr)/\((!chB (ch.el (↑i:Int).toNat (0:Nat)).toS (ch.el (↑i:Int).toNat 1).toI (ch.el (↑i:Int).toNat 2).toI (ch.el (↑i:Int).toNat 3).toS (ch.el (↑i:Int).toNat 4).toS (ch.el (↑i:Int).toNat 5))=false->∃ (j:Nat),(j<=ch.len/\∀ (j_1:Nat),j_1<j->chE ch j_1=true)/\ch.len-j<ch.len-i/\IntKind.i64.wrap ((↑i:Int)+(1:Int))=(↑j:Int)/\ch.rows=ch.rows/\(↑ch.len:Int)=(↑ch.len:Int)/\ch.rows=ch.rows/\ru.rows=ru.rows/\pr.rows=pr.rows))/\(decide ((↑i:Int)<(↑ch.len:Int))=false->(∃ (i:Nat),(i<=ru.len/\∀ (j:Nat),j<i->ruE ru j=true)/\(0:Int)=(↑i:Int)/\ru.rows=ru.rows/\(↑ru.len:Int)=(↑ru.len:Int)/\ch.rows=ch.rows/\ru.rows=ru.rows/\pr.rows=pr.rows)/\∀ (i:Nat),(i<=ru.len/\∀ (j:Nat),j<i->ruE ru j=true)->(decide ((↑i:Int)<(↑ru.len:Int))=true->((0:Int)<=(↑i:Int)/\(↑i:Int)<(↑ru.len:Int))/\(ru.el (↑i:Int).toNat 1).len<=(10000000000000:Nat)/\((!ruB (ru.el (↑i:Int).toNat (0:Nat)).toS (ru.el (↑i:Int).toNat 1))=true->false=syB ch ru pr)/\((!ruB (ru.el (↑i:Int).toNat (0:Nat)).toS (ru.el (↑i:Int).toNat 1))=false->∃ (j:Nat),(j<=ru.len/\∀ (j_1:Nat),j_1<j->ruE ru j_1=true)/\ru.len-j<ru.len-i/\IntKind.i64.wrap ((↑i:Int)+(1:Int))=(↑j:Int)/\ru.rows=ru.rows/\(↑ru.len:Int)=(↑ru.len:Int)/\ch.rows=ch.rows/\ru.rows=ru.rows/\pr.rows=pr.rows))/\(decide ((↑i:Int)<(↑ru.len:Int))=false->(∃ (i:Nat),(i<=pr.len/\∀ (j:Nat),j<i->prE pr j=true)/\(0:Int)=(↑i:Int)/\pr.rows=pr.rows/\(↑pr.len:Int)=(↑pr.len:Int)/\ch.rows=ch.rows/\ru.rows=ru.rows/\pr.rows=pr.rows)/\∀ (i:Nat),(i<=pr.len/\∀ (j:Nat),j<i->prE pr j=true)->(decide ((↑i:Int)<(↑pr.len:Int))=true->((0:Int)<=(↑i:Int)/\(↑i:Int)<(↑pr.len:Int))/\((!nmB (pr.el (↑i:Int).toNat (0:Nat)).toS)=false/\True->(pr.el (↑i:Int).toNat 1).len<=(10000000000000:Nat))/\((!nmB (pr.el (↑i:Int).toNat (0:Nat)).toS || !nsA (pr.el (↑i:Int).toNat 1))=false/\True->sOK (pr.el (↑i:Int).toNat 2))/\((!nmB (pr.el (↑i:Int).toNat (0:Nat)).toS || !nsA (pr.el (↑i:Int).toNat 1) || !bA (pr.el (↑i:Int).toNat 2))=true->false=syB ch ru pr)/\((!nmB (pr.el (↑i:Int).toNat (0:Nat)).toS || !nsA (pr.el (↑i:Int).toNat 1) || !bA (pr.el (↑i:Int).toNat 2))=false->∃ (j:Nat),(j<=pr.len/\∀ (j_1:Nat),j_1<j->prE pr j_1=true)/\pr.len-j<pr.len-i/\IntKind.i64.wrap ((↑i:Int)+(1:Int))=(↑j:Int)/\pr.rows=pr.rows/\(↑pr.len:Int)=(↑pr.len:Int)/\ch.rows=ch.rows/\ru.rows=ru.rows/\pr.rows=pr.rows))/\(decide ((↑i:Int)<(↑pr.len:Int))=false->true=syB ch ru pr)))) (by kernel_rfl) ?_
  intro hs
  have e0:∀ (i:Nat),((i:Int)).toNat=i:=fun i=>Int.toNat_natCast i
  simp only [Nat.zero_add,Nat.reduceAdd,e0]
  unfold syB
  refine ⟨⟨0,⟨Nat.zero_le _,fun j hj=>absurd hj (Nat.not_lt_zero j)⟩,by (repeat' apply And.intro)<;>first |trivial |rfl |(intro _ _;rfl) |(intro _ _;trivial)⟩,fun i hp=>⟨fun hl=>?_,fun hl=>?_⟩⟩
  ·have hl:=of_decide_eq_true hl
   have hb:=hs.c
   have hi:i<ch.len:=by omega
   have hw:IntKind.i64.wrap ((i:Int)+1)=((i+1:Nat):Int):=by rw [IntWalk.i64_in _ (by omega)];omega
   have v1:=hs.ct i hi
   refine ⟨⟨by omega,by omega⟩,v1,fun hq=>?_,fun hq=>?_⟩
   ·have hq:chE ch i=false:=by rw [Bool.not_eq_true'] at hq;exact hq
    rw [allB_no hi hq];rfl
   ·have hq:chE ch i=true:=by rw [Bool.not_eq_false'] at hq;exact hq
    refine ⟨i+1,⟨by omega,fun j hj=>?_⟩,by omega,hw,by (repeat' apply And.intro)<;>first |trivial |rfl |(intro _ _;rfl) |(intro _ _;trivial)⟩
    rcases Nat.lt_or_ge j i with h |h
    ·exact hp.2 j h
    ·obtain rfl:j=i:=by omega
     exact hq
  ·have hl:=of_decide_eq_false hl
   have hall:allB ch.len (chE ch)=true:=allB_yes fun j hj=>hp.2 j (by omega)
   have hc:=hall
   refine ⟨⟨0,⟨Nat.zero_le _,fun j hj=>absurd hj (Nat.not_lt_zero j)⟩,by (repeat' apply And.intro)<;>first |trivial |rfl |(intro _ _;rfl) |(intro _ _;trivial)⟩,fun i hp=>⟨fun hl=>?_,fun hl=>?_⟩⟩
   ·have hl:=of_decide_eq_true hl
    have hb:=hs.r
    have hi:i<ru.len:=by omega
    have hw:IntKind.i64.wrap ((i:Int)+1)=((i+1:Nat):Int):=by rw [IntWalk.i64_in _ (by omega)];omega
    have v1:=hs.rm i hi
    refine ⟨⟨by omega,by omega⟩,v1,fun hq=>?_,fun hq=>?_⟩
    ·have hq:ruE ru i=false:=by rw [Bool.not_eq_true'] at hq;exact hq
     rw [hc,allB_no hi hq];rfl
    ·have hq:ruE ru i=true:=by rw [Bool.not_eq_false'] at hq;exact hq
     refine ⟨i+1,⟨by omega,fun j hj=>?_⟩,by omega,hw,by (repeat' apply And.intro)<;>first |trivial |rfl |(intro _ _;rfl) |(intro _ _;trivial)⟩
     rcases Nat.lt_or_ge j i with h |h
     ·exact hp.2 j h
     ·obtain rfl:j=i:=by omega
      exact hq
   ·have hl:=of_decide_eq_false hl
    have hall:allB ru.len (ruE ru)=true:=allB_yes fun j hj=>hp.2 j (by omega)
    have hr:=hall
    refine ⟨⟨0,⟨Nat.zero_le _,fun j hj=>absurd hj (Nat.not_lt_zero j)⟩,by (repeat' apply And.intro)<;>first |trivial |rfl |(intro _ _;rfl) |(intro _ _;trivial)⟩,fun i hp=>⟨fun hl=>?_,fun hl=>?_⟩⟩
    ·have hl:=of_decide_eq_true hl
     have hb:=hs.p
     have hi:i<pr.len:=by omega
     have hw:IntKind.i64.wrap ((i:Int)+1)=((i+1:Nat):Int):=by rw [IntWalk.i64_in _ (by omega)];omega
     have er:prE pr i = !(!nmB (pr.el i 0).toS || !nsA (pr.el i 1) || !bA (pr.el i 2)):=by unfold prE;simp
     have v1:=hs.pv i hi
     have v2:=hs.pb i hi
     refine ⟨⟨by omega,by omega⟩,fun _=>v1,fun _=>v2,fun hq=>?_,fun hq=>?_⟩
     ·have hq:prE pr i=false:=by rw [er,hq];rfl
      rw [hc,hr,allB_no hi hq];rfl
     ·have hq:prE pr i=true:=by rw [er,hq];rfl
      refine ⟨i+1,⟨by omega,fun j hj=>?_⟩,by omega,hw,by (repeat' apply And.intro)<;>first |trivial |rfl |(intro _ _;rfl) |(intro _ _;trivial)⟩
      rcases Nat.lt_or_ge j i with h |h
      ·exact hp.2 j h
      ·obtain rfl:j=i:=by omega
       exact hq
    ·have hl:=of_decide_eq_false hl
     have hall:allB pr.len (prE pr)=true:=allB_yes fun j hj=>hp.2 j (by omega)
     rw [hall,hc,hr];rfl
 ·trivial
end Go.Proofs.YthpponmbpoaffaaGreatDoor.Sx.Z
namespace Go.Proofs.YthpponmbpoaffaaGreatDoor.Sx.Z
open Go.RowKit
def suB (k:Int):Bool:=k==4 ||k==5
def brB (k i q:Int):Bool:=if k=3 then biB q else if k=4 ∨ k=5 then i==1&&suB q else if k=6 ∨ k=7 ∨ k=8 then suB q ||(i==1&&biB q) else false
def inB (b:Bool):Int:=if b=true then 1 else 0
def xNb (k dp:Int) (q:Nat->Int) (f:Nat->Int->Bool):Bool:=
 if dp>24 then false else if k=3 then f 0 (dp+1+inB (brB 3 0 (q 0))) else if biB k=true then f 0 (dp+inB (brB k 0 (q 0)))&&f 1 (dp+inB (brB k 1 (q 1))) else true
def kN (d:D) (i:Nat) (dp:Int):Bool:=if _h:i<d.len then xNb (d.el i 0).toI dp (fun j=>((d.el i 3).el j 0).toI) (fun j q=>kN (d.el i 3) j q) else true
 termination_by SizeOf.sizeOf d
 decreasing_by exact lel_lt (by assumption)
def xN (k:Int) (d:D) (dp:Int):Bool:=xNb k dp (fun j=>(d.el j 0).toI) (kN d)
theorem kN_eq {d:D} {i:Nat} (h:i<d.len) (dp:Int):kN d i dp=xN (d.el i 0).toI (d.el i 3) dp:=by
 rw [kN,dif_pos h];rfl
theorem aX_kids {k n:Int} {s:ByteArray} {d:D} (h:aX k n s d=true):(k=3->d.len=1/\aE d 0=true)/\(biB k=true->d.len=2/\aE d 0=true/\aE d 1=true):=by
 constructor
 ·rintro rfl
  have e:aX 3 n s d=((d.len:Int)==1&&aE d 0):=rfl
  rw [e] at h
  simp only [Bool.and_eq_true,beq_iff_eq] at h
  exact ⟨by omega,h.2⟩
 ·intro hb
  rw [aX_bin hb] at h
  simp only [Bool.and_eq_true,beq_iff_eq] at h
  exact ⟨by omega,h.1.2,h.2⟩
noncomputable def isumS:FSpec:=fun ds _=>match ds with
 | [.i k]=>some {val:=.one (.sc (.bool (.sym (suB k)))),vc:=[]}
 |_=>none
noncomputable def isumC:Con:=con [lI] isumS
theorem isum_ok:ConOK Tryz.prog 120 isumC:=by
 refine fn_ob tt_ok mixed Tryz.func120 rfl (fun _ _=>by kernel_rfl) (A:=fun ds=>⟨fun _=>Cons.of [],fun _=>none,fun _=>none⟩) (fun _ _=>cons_nil) (by kernel_rfl) ?_
 intro ds fr
 unfold isumS
 split
 ·rename_i k
  refine kmp (q:=(k==(4:Int) ||k==(5:Int))=suB k) (by kernel_rfl) ?_
  unfold suB
  cases hk:(k==4)<;>simp
 ·trivial
noncomputable def brrS:FSpec:=fun ds _=>match ds with
 | [.i k,.i _n,.s _s,.d d,.i i]=>some {val:=.one (.sc (.bool (.sym (brB k i (d.el i.toNat 0).toI)))),vc:=[0<=i/\i<d.len]}
 |_=>none
noncomputable def brrC:Con:=con [lX,lI] brrS
theorem brr_ok:ConOK Tryz.prog 109 brrC:=by
 refine fn_ob tt_ok mixed Tryz.func109 rfl (fun _ _=>by kernel_rfl) (A:=fun ds=>⟨fun _=>Cons.of [(97,isbinC),(120,isumC)],fun _=>none,fun _=>none⟩) (fun _ _=>(cons_cons isbin_ok (cons_cons isum_ok cons_nil))) (by kernel_rfl) ?_
 intro ds fr
 unfold brrS
 split
 ·rename_i k n s d i
  refine kmp (q:=(0:Int)<=i/\i<(↑d.len:Int)->((0:Int)<=i/\i<(↑d.len:Int))/\((k==(3:Int))=true->biB (d.el i.toNat ((0:Nat)+(0:Nat))).toI=brB k i (d.el i.toNat (0:Nat)).toI)/\((k==(3:Int))=false->((k==(4:Int))=true->((k==(4:Int))=true->(i==(1:Int)&&suB (d.el i.toNat ((0:Nat)+(0:Nat))).toI)=brB k i (d.el i.toNat (0:Nat)).toI)/\((k==(4:Int))=false->((k==(6:Int))=true->((k==(6:Int))=true->(suB (d.el i.toNat ((0:Nat)+(0:Nat))).toI ||i==(1:Int)&&biB (d.el i.toNat ((0:Nat)+(0:Nat))).toI)=brB k i (d.el i.toNat (0:Nat)).toI)/\((k==(6:Int))=false->false=brB k i (d.el i.toNat (0:Nat)).toI))/\((k==(6:Int))=false->((k==(7:Int))=true->((k==(7:Int))=true->(suB (d.el i.toNat ((0:Nat)+(0:Nat))).toI ||i==(1:Int)&&biB (d.el i.toNat ((0:Nat)+(0:Nat))).toI)=brB k i (d.el i.toNat (0:Nat)).toI)/\((k==(7:Int))=false->false=brB k i (d.el i.toNat (0:Nat)).toI))/\((k==(7:Int))=false->((k==(8:Int))=true->(suB (d.el i.toNat ((0:Nat)+(0:Nat))).toI ||i==(1:Int)&&biB (d.el i.toNat ((0:Nat)+(0:Nat))).toI)=brB k i (d.el i.toNat (0:Nat)).toI)/\((k==(8:Int))=false->false=brB k i (d.el i.toNat (0:Nat)).toI)))))/\((k==(4:Int))=false->((k==(5:Int))=true->(i==(1:Int)&&suB (d.el i.toNat ((0:Nat)+(0:Nat))).toI)=brB k i (d.el i.toNat (0:Nat)).toI)/\((k==(5:Int))=false->((k==(6:Int))=true->((k==(6:Int))=true->(suB (d.el i.toNat ((0:Nat)+(0:Nat))).toI ||i==(1:Int)&&biB (d.el i.toNat ((0:Nat)+(0:Nat))).toI)=brB k i (d.el i.toNat (0:Nat)).toI)/\((k==(6:Int))=false->false=brB k i (d.el i.toNat (0:Nat)).toI))/\((k==(6:Int))=false->((k==(7:Int))=true->((k==(7:Int))=true->(suB (d.el i.toNat ((0:Nat)+(0:Nat))).toI ||i==(1:Int)&&biB (d.el i.toNat ((0:Nat)+(0:Nat))).toI)=brB k i (d.el i.toNat (0:Nat)).toI)/\((k==(7:Int))=false->false=brB k i (d.el i.toNat (0:Nat)).toI))/\((k==(7:Int))=false->((k==(8:Int))=true->(suB (d.el i.toNat ((0:Nat)+(0:Nat))).toI ||i==(1:Int)&&biB (d.el i.toNat ((0:Nat)+(0:Nat))).toI)=brB k i (d.el i.toNat (0:Nat)).toI)/\((k==(8:Int))=false->false=brB k i (d.el i.toNat (0:Nat)).toI))))))) (by kernel_rfl) ?_
  intro hi
  refine ⟨hi,?_⟩
  by_cases h3:k=3
  ·subst h3;exact ⟨fun _=>rfl,fun h=>(by cases h)⟩
  by_cases h4:k=4
  ·subst h4;exact ⟨fun h=>(by cases h),fun _=>⟨fun _=>⟨fun _=>rfl,fun h=>(by cases h)⟩,fun h=>(by cases h)⟩⟩
  by_cases h5:k=5
  ·subst h5;exact ⟨fun h=>(by cases h),fun _=>⟨fun h=>(by cases h),fun _=>⟨fun _=>rfl,fun h=>(by cases h)⟩⟩⟩
  have n3:(k==(3:Int))=false:=beq_false_of_ne h3
  have n4:(k==(4:Int))=false:=beq_false_of_ne h4
  have n5:(k==(5:Int))=false:=beq_false_of_ne h5
  by_cases h6:k=6
  ·subst h6;exact ⟨fun h=>(by cases h),fun _=>⟨fun h=>(by cases h),fun _=>⟨fun h=>(by cases h),fun _=>⟨fun _=>⟨fun _=>rfl,fun h=>(by cases h)⟩,fun h=>(by cases h)⟩⟩⟩⟩
  by_cases h7:k=7
  ·subst h7;exact ⟨fun h=>(by cases h),fun _=>⟨fun h=>(by cases h),fun _=>⟨fun h=>(by cases h),fun _=>⟨fun h=>(by cases h),fun _=>⟨fun _=>⟨fun _=>rfl,fun h=>(by cases h)⟩,fun h=>(by cases h)⟩⟩⟩⟩⟩
  by_cases h8:k=8
  ·subst h8;exact ⟨fun h=>(by cases h),fun _=>⟨fun h=>(by cases h),fun _=>⟨fun h=>(by cases h),fun _=>⟨fun h=>(by cases h),fun _=>⟨fun h=>(by cases h),fun _=>⟨fun _=>rfl,fun h=>(by cases h)⟩⟩⟩⟩⟩⟩
  have n6:(k==(6:Int))=false:=beq_false_of_ne h6
  have n7:(k==(7:Int))=false:=beq_false_of_ne h7
  have n8:(k==(8:Int))=false:=beq_false_of_ne h8
  have e:brB k i (d.el i.toNat 0).toI=false:=by
   unfold brB
   rw [if_neg h3,if_neg (by omega),if_neg (by omega)]
  rw [n3,n4,n5,n6,n7,n8,e]
  simp
 ·trivial
noncomputable def xdrS:FSpec:=fun ds _=>match ds with
 | [.i k,.i n,.s s,.d d,.i dp]=>some {val:=.one (.sc (.bool (.sym (!xN k d dp)))),vc:=[aX k n s d=true,0<=dp/\dp<=30]}
 |_=>none
noncomputable def xdrC:Con:=con [lX,lI] xdrS
noncomputable def xdrM:List Dat->Nat:=fun ds=>match ds with
 | [.i _k,.i _n,.s _s,.d d,.i _dp]=>SizeOf.sizeOf d
 |_=>0
noncomputable def xdrSu (m:Nat):FSpec:=fun ds _=>match ds with
 | [.i k,.i n,.s s,.d d,.i dp]=>some {val:=.one (.sc (.bool (.sym (!xN k d dp)))),vc:=[SizeOf.sizeOf d<m,aX k n s d=true,0<=dp/\dp<=30]}
 |_=>none
theorem xdr_under (m:Nat):xdrS.under xdrM m=xdrSu m:=by
 funext ds fr
 unfold FSpec.under xdrS xdrM xdrSu
 split
 ·rename_i e h
  split at h
  ·obtain rfl:=Option.some.inj h;rfl
  ·cases h
 ·rename_i h
  split at h
  ·cases h
  ·rfl
noncomputable def kdrS (m:Nat):FSpec:=fun ds _=>match ds with
 | [.i k,.i _n,.s _s,.d d,.i i,.i dp]=>some {val:=.one (.sc (.bool (.sym (!kN d i.toNat (dp+inB (brB k i (d.el i.toNat 0).toI)))))),vc:=[SizeOf.sizeOf d<m+1,0<=i/\i<d.len,aE d i.toNat=true,0<=dp/\dp<=29]}
 |_=>none
noncomputable def kdrC (m:Nat):Con:=con [lX,lI,lI] (kdrS m)
theorem kdr_ok {m:Nat} (ih:ConOK Tryz.prog 88 (con [lX,lI] (xdrSu m))):ConOK Tryz.prog 99 (kdrC m):=by
 refine fn_ob tt_ok mixed Tryz.func99 rfl (fun _ _=>by kernel_rfl) (A:=fun ds=>⟨fun _=>Cons.of [(109,brrC),(88,con [lX,lI] (xdrSu m))],fun _=>none,fun _=>none⟩) (fun _ _=>(cons_cons brr_ok (cons_cons ih cons_nil))) (by kernel_rfl) ?_
 intro ds fr
 unfold kdrS
 split
 ·rename_i k n s d i dp
  refine kmp (q:=SizeOf.sizeOf d<m+(1:Nat)->(0:Int)<=i/\i<(↑d.len:Int)->aE d i.toNat=true->(0:Int)<=dp/\dp<=(29:Int)->((0:Int)<=i/\i<(↑d.len:Int))/\(brB k i (d.el i.toNat (0:Nat)).toI=true->((0:Int)<=i/\i<(↑d.len:Int))/\SizeOf.sizeOf (d.el i.toNat 3)<m/\aX (d.el i.toNat (0:Nat)).toI (d.el i.toNat 1).toI (d.el i.toNat 2).toS (d.el i.toNat 3)=true/\((0:Int)<=IntKind.i64.wrap (dp+(1:Int))/\IntKind.i64.wrap (dp+(1:Int))<=(30:Int))/\(!xN (d.el i.toNat (0:Nat)).toI (d.el i.toNat 3) (IntKind.i64.wrap (dp+(1:Int)))) = !kN d i.toNat (dp+inB (brB k i (d.el i.toNat (0:Nat)).toI)))/\(brB k i (d.el i.toNat (0:Nat)).toI=false->((0:Int)<=i/\i<(↑d.len:Int))/\SizeOf.sizeOf (d.el i.toNat 3)<m/\aX (d.el i.toNat (0:Nat)).toI (d.el i.toNat 1).toI (d.el i.toNat 2).toS (d.el i.toNat 3)=true/\((0:Int)<=dp/\dp<=(30:Int))/\(!xN (d.el i.toNat (0:Nat)).toI (d.el i.toNat 3) dp) = !kN d i.toNat (dp+inB (brB k i (d.el i.toNat (0:Nat)).toI)))) (by kernel_rfl) ?_
  intro hm hi ha hd
  have hl:i.toNat<d.len:=by omega
  have z:=lel_lt (j:=3) hl
  have ha':=ha
  rw [aE_eq hl] at ha'
  refine ⟨hi,fun hb=>⟨hi,by (try simp only [Nat.reduceAdd,Nat.zero_add]);omega,ha',?_,?_⟩,fun hb=>⟨hi,by (try simp only [Nat.reduceAdd,Nat.zero_add]);omega,ha',by omega,?_⟩⟩
  ·rw [IntWalk.i64_in _ (by omega)];omega
  ·rw [IntWalk.i64_in _ (by omega),kN_eq hl,hb];rfl
  ·rw [kN_eq hl,hb]
   show _ = !xN _ _ (dp+0)
   rw [Int.add_zero]
 ·trivial
theorem xdr_step (m:Nat) (ih:ConOK Tryz.prog 88 (con [lX,lI] (xdrSu m))):ConOK Tryz.prog 88 (con [lX,lI] (xdrSu (m+1))):=by
 refine fn_ob tt_ok mixed Tryz.func88 rfl (fun _ _=>by kernel_rfl) (A:=fun ds=>⟨fun _=>Cons.of [(97,isbinC),(99,(kdrC m))],fun _=>none,fun _=>none⟩) (fun _ _=>(cons_cons isbin_ok (cons_cons (kdr_ok ih) cons_nil))) (by kernel_rfl) ?_
 intro ds fr
 unfold xdrSu
 split
 ·rename_i k n s d dp
  refine kmp (q:=SizeOf.sizeOf d<m+(1:Nat)->aX k n s d=true->(0:Int)<=dp/\dp<=(30:Int)->(decide (dp>(24:Int))=true->true = !xN k d dp)/\(decide (dp>(24:Int))=false->((k==(3:Int))=true->SizeOf.sizeOf d<m+(1:Nat)/\((0:Int)<=(0:Int)/\(0:Int)<(↑d.len:Int))/\aE d (Int.toNat (0:Int))=true/\((0:Int)<=IntKind.i64.wrap (dp+(1:Int))/\IntKind.i64.wrap (dp+(1:Int))<=(29:Int))/\(!kN d (Int.toNat (0:Int)) (IntKind.i64.wrap (dp+(1:Int))+inB (brB k (0:Int) (d.el (Int.toNat (0:Int)) (0:Nat)).toI))) = !xN k d dp)/\((k==(3:Int))=false->(biB k=true->SizeOf.sizeOf d<m+(1:Nat)/\((0:Int)<=(0:Int)/\(0:Int)<(↑d.len:Int))/\aE d (Int.toNat (0:Int))=true/\((0:Int)<=dp/\dp<=(29:Int))/\((!kN d (Int.toNat (0:Int)) (dp+inB (brB k (0:Int) (d.el (Int.toNat (0:Int)) (0:Nat)).toI)))=false/\True->SizeOf.sizeOf d<m+(1:Nat))/\((!kN d (Int.toNat (0:Int)) (dp+inB (brB k (0:Int) (d.el (Int.toNat (0:Int)) (0:Nat)).toI)))=false/\True->(0:Int)<=(1:Int)/\(1:Int)<(↑d.len:Int))/\((!kN d (Int.toNat (0:Int)) (dp+inB (brB k (0:Int) (d.el (Int.toNat (0:Int)) (0:Nat)).toI)))=false/\True->aE d (Int.toNat (1:Int))=true)/\((!kN d (Int.toNat (0:Int)) (dp+inB (brB k (0:Int) (d.el (Int.toNat (0:Int)) (0:Nat)).toI)))=false/\True->(0:Int)<=dp/\dp<=(29:Int))/\(!kN d (Int.toNat (0:Int)) (dp+inB (brB k (0:Int) (d.el (Int.toNat (0:Int)) (0:Nat)).toI)) || !kN d (Int.toNat (1:Int)) (dp+inB (brB k (1:Int) (d.el (Int.toNat (1:Int)) (0:Nat)).toI))) = !xN k d dp)/\(biB k=false->false = !xN k d dp)))) (by kernel_rfl) ?_
  intro hm ha hd
  have hk:=aX_kids ha
  refine ⟨fun h=>?_,fun h=>?_⟩
  ·have h:=of_decide_eq_true h
   unfold xN xNb
   rw [if_pos h];rfl
  ·have h:=of_decide_eq_false h
   have hw:IntKind.i64.wrap (dp+1)=dp+1:=IntWalk.i64_in _ (by omega)
   rw [hw]
   refine ⟨fun h3=>?_,fun h3=>⟨fun hb=>?_,fun hb=>?_⟩⟩
   ·obtain rfl:=eq_of_beq h3
    have k1:=hk.1 rfl
    refine ⟨hm,by omega,k1.2,by omega,?_⟩
    unfold xN xNb
    rw [if_neg h,if_pos rfl];rfl
   ·have k2:=hk.2 hb
    refine ⟨hm,by omega,k2.2.1,by omega,fun _=>hm,fun _=>by omega,fun _=>k2.2.2,fun _=>by omega,?_⟩
    unfold xN xNb
    rw [if_neg h,if_neg (ne_of_beq_false h3),if_pos hb,Bool.not_and];rfl
   ·unfold xN xNb
    rw [if_neg h,if_neg (ne_of_beq_false h3),if_neg (by rw [hb];decide)];rfl
 ·trivial
theorem xdr_ok:ConOK Tryz.prog 88 xdrC:=
 con_rec xdrM (fun _ _=>by kernel_rfl) fun m ih=>by
  rw [xdr_under] at ih ⊢
  exact xdr_step m ih
end Go.Proofs.YthpponmbpoaffaaGreatDoor.Sx.Z
