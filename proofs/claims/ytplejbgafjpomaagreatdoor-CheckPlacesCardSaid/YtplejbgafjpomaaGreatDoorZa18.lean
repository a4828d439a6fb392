import Derived.Test.YtplejbgafjpomaaGreatDoorZa17
import Derived.Shelf.Strconv.Itoa0
import Derived.Shelf.Strconv.Itoa1
import Derived.Shelf.LaysM
import Derived.Shelf.Strconv.Itoa2
import Derived.Shelf.Strconv.Itoa3
import Derived.Shelf.Strconv.Clone
import Derived.Shelf.Bits.Mul64
import Derived.Test.YtplejbgafjpomaaGreatDoorProg
import Derived.Lib.ItoaLen
import Derived.Lib.AppendIntMem
set_option linter.unusedVariables false
set_option linter.unusedSimpArgs false
namespace Go.Proofs.YtplejbgafjpomaaGreatDoor.Sx.Z
open Go.RowKit
def lBo:AP:=.sc (.rows 193)
def lAm:AP:=.sc (.rows 195)
def allB (n:Nat) (f:Nat->Bool):Bool:=(List.range n).all f
theorem allB_iff {n:Nat} {f:Nat->Bool}:allB n f=true ↔ ∀ i,i<n->f i=true:=by
 unfold allB;rw [List.all_eq_true];exact ⟨fun h i hi=>h i (List.mem_range.2 hi),fun h i hi=>h i (List.mem_range.1 hi)⟩
theorem allB_yes {n:Nat} {f:Nat->Bool} (h:∀ i,i<n->f i=true):allB n f=true:=allB_iff.2 h
theorem allB_no {n i:Nat} {f:Nat->Bool} (hi:i<n) (h:f i=false):allB n f=false:=by
 cases hc:allB n f with
 |false=>rfl
 |true=>rw [allB_iff.1 hc i hi] at h;cases h
theorem allF_eq {n:Nat} (f:Nat->Bool):((List.finRange n).all fun i=>f i.1)=allB n f:=by
 have h1:((List.finRange n).all fun i=>f i.1)=true↔allB n f=true:=by
  rw [allB_iff,List.all_eq_true];exact ⟨fun h i hi=>h ⟨i,hi⟩ (List.mem_finRange _),fun h i _=>h i.1 i.2⟩
 cases hc:allB n f with
 |true=>exact h1.2 hc
 |false=>
  cases hd:((List.finRange n).all fun i=>f i.1) with
  |false=>rfl
  |true=>rw [h1.1 hd] at hc;cases hc
def aC (op lk ln:Int) (ls:ByteArray) (ld:D) (rk rn:Int) (rs:ByteArray) (rd:D):Bool:=decide (op>=1)&&decide (op<=6)&&aX lk ln ls ld&&aX rk rn rs rd
def aStF (k:Int) (nm tg:ByteArray) (e c b el:Bool) (al:Int) (a:Bool):Bool:=
 if k=1 then nmB nm&&e else if k=2 then c&&b&&el else if k=3 then c&&b else if k=4 then nmB nm&&nmB tg&&e else if k=5 then nmB nm&&decide (al>0)&&a else if k=6 then c else if k=7 then nmB nm else false
def bA (d:D):Bool:=(List.finRange d.len).all fun (i:Fin d.len)=>aStF (d.el i 0).toI (d.el i 1).toS (d.el i 2).toS (aX (d.el i 3).toI (d.el i 4).toI (d.el i 5).toS (d.el i 6)) (aC (d.el i 7).toI (d.el i 8).toI (d.el i 9).toI (d.el i 10).toS (d.el i 11) (d.el i 12).toI (d.el i 13).toI (d.el i 14).toS (d.el i 15)) (bA (d.el i 16)) (bA (d.el i 17)) (d.el i 18).len
    ((List.finRange (d.el i 18).len).all fun (j:Fin (d.el i 18).len)=>nmB ((d.el i 18).el j 0).toS&&nmB ((d.el i 18).el j 1).toS&&bA ((d.el i 18).el j 2))
 termination_by SizeOf.sizeOf d
 decreasing_by
  ·exact lel_lt i.isLt
  ·exact lel_lt i.isLt
  ·exact Nat.lt_trans (lel_lt j.isLt) (lel_lt i.isLt)
def arE (am:D) (j:Nat):Bool:=nmB (am.el j 0).toS&&nmB (am.el j 1).toS&&bA (am.el j 2)
def amsA (am:D):Bool:=allB am.len (arE am)
def stA (k:Int) (nm tg:ByteArray) (ek en:Int) (es:ByteArray) (ed:D) (op lk ln:Int) (ls:ByteArray) (ld:D) (rk rn:Int) (rs:ByteArray) (rd bd eb am:D):Bool:=
 aStF k nm tg (aX ek en es ed) (aC op lk ln ls ld rk rn rs rd) (bA bd) (bA eb) am.len (amsA am)
def stE (d:D) (i:Nat):Bool:=stA (d.el i 0).toI (d.el i 1).toS (d.el i 2).toS (d.el i 3).toI (d.el i 4).toI (d.el i 5).toS (d.el i 6) (d.el i 7).toI (d.el i 8).toI (d.el i 9).toI (d.el i 10).toS (d.el i 11) (d.el i 12).toI (d.el i 13).toI (d.el i 14).toS (d.el i 15) (d.el i 16) (d.el i 17) (d.el i 18)
theorem bA_eq (d:D):bA d=allB d.len (stE d):=by
 rw [bA,<- allF_eq]
 congr 1
 funext i
 unfold stE stA amsA;rw [<- allF_eq];rfl
def sOK (d:D):Prop:=d.len<=10000000000000/\∀ i:Fin d.len,sOK (d.el i 16)/\sOK (d.el i 17)/\(d.el i 18).len<=10000000000000/\∀ j:Fin (d.el i 18).len,sOK ((d.el i 18).el j 2)
 termination_by SizeOf.sizeOf d
 decreasing_by
  ·exact lel_lt i.isLt
  ·exact lel_lt i.isLt
  ·exact Nat.lt_trans (lel_lt j.isLt) (lel_lt i.isLt)
def amOK (am:D):Prop:=am.len<=10000000000000/\∀ j,j<am.len->sOK (am.el j 2)
theorem sOK_iff (d:D):sOK d↔d.len<=10000000000000/\∀ i,i<d.len->sOK (d.el i 16)/\sOK (d.el i 17)/\amOK (d.el i 18):=by
 rw [sOK];constructor
 ·rintro ⟨h,k⟩;refine ⟨h,fun i hi=>?_⟩;obtain ⟨a,b,c,e⟩:=k ⟨i,hi⟩;exact ⟨a,b,c,fun j hj=>e ⟨j,hj⟩⟩
 ·rintro ⟨h,k⟩;refine ⟨h,fun i=>?_⟩;obtain ⟨a,b,c,e⟩:=k i.1 i.2;exact ⟨a,b,c,fun j=>e j.1 j.2⟩
noncomputable def acrS:FSpec:=fun ds _=>match ds with
 | [.i op,.i lk,.i ln,.s ls,.d ld,.i rk,.i rn,.s rs,.d rd]=>some {val:=.one (.sc (.bool (.sym (aC op lk ln ls ld rk rn rs rd)))),vc:=[]}
 |_=>none
noncomputable def acrC:Con:=con [lCo] acrS
theorem acr_ok:ConOK Tryz.prog 159 acrC:=by
 refine fn_ob tt_ok mixed Tryz.func159 rfl (fun _ _=>by kernel_rfl) (A:=fun ds=>⟨fun _=>Cons.of [(158,axrC)],fun _=>none,fun _=>none⟩) (fun _ _=>(cons_cons axr_ok cons_nil)) (by kernel_rfl) ?_
 intro ds fr;unfold acrS;split
 ·rename_i op lk ln ls ld rk rn rs rd;refine kmp (q:=(decide (op>=(1:Int))&&decide (op<=(6:Int))&&aX lk ln ls ld&&aX rk rn rs rd)=aC op lk ln ls ld rk rn rs rd) (by kernel_rfl) ?_
  exact rfl
 ·trivial
noncomputable def bdrS:FSpec:=fun ds _=>match ds with
 | [.d d]=>some {val:=.one (.sc (.bool (.sym (bA d)))),vc:=[sOK d]}
 |_=>none
noncomputable def bdrC:Con:=con [lBo] bdrS
noncomputable def bdrM:List Dat->Nat:=fun ds=>match ds with
 | [.d d]=>SizeOf.sizeOf d
 |_=>0
noncomputable def bdrSu (m:Nat):FSpec:=fun ds _=>match ds with
 | [.d d]=>some {val:=.one (.sc (.bool (.sym (bA d)))),vc:=[SizeOf.sizeOf d<m,sOK d]}
 |_=>none
theorem bdr_under (m:Nat):bdrS.under bdrM m=bdrSu m:=by
 funext ds fr
 unfold FSpec.under bdrS bdrM bdrSu;split
 ·rename_i e h
  split at h
  ·obtain rfl:=Option.some.inj h;rfl
  ·cases h
 ·rename_i h
  split at h
  ·cases h
  ·rfl
noncomputable def amrS (m:Nat):FSpec:=fun ds _=>match ds with
 | [.d d]=>some {val:=.one (.sc (.bool (.sym (amsA d)))),vc:=[SizeOf.sizeOf d<m,amOK d]}
 |_=>none
noncomputable def amrC (m:Nat):Con:=con [lAm] (amrS m)
theorem amr_ok {m:Nat} (ih:ConOK Tryz.prog 95 (con [lBo] (bdrSu m))):ConOK Tryz.prog 160 (amrC m):=by
 refine fn_ob tt_ok mixed Tryz.func160 rfl (fun _ _=>by kernel_rfl) (A:=fun ds=>⟨fun _=>Cons.of [(93,nmrC),(95,con [lBo] (bdrSu m))],fun k=>match k,ds with | 2,[.d d]=>some {ι:=Nat,pre:=fun _ i=>i<=d.len/\∀ j,j<i->arE d j=true,μ:=fun i=>d.len-i,st:=fun s i=>famR s [(7,.one (.sc (.int .i64 (.sym ((i:Int))))))] [5,6] [] []} |_,_=>none,fun _=>none⟩) (fun _ _=>(cons_cons nmr_ok (cons_cons ih cons_nil))) (by kernel_rfl) ?_
 intro ds fr;unfold amrS;split
 ·rename_i d;refine kmp (q:=SizeOf.sizeOf d<m->amOK d->(∃ (i:Nat),(i<=d.len/\∀ (j:Nat),j<i->arE d j=true)/\(0:Int)=(i:Int)/\d.rows=d.rows/\(d.len:Int)=(d.len:Int))/\∀ (i:Nat),(i<=d.len/\∀ (j:Nat),j<i->arE d j=true)->(decide ((i:Int)<(d.len:Int))=true->((0:Int)<=(i:Int)/\(i:Int)<(d.len:Int))/\((!nmB (d.el (i:Int).toNat 0).toS || !nmB (d.el (i:Int).toNat 1).toS)=false/\True->SizeOf.sizeOf (d.el (i:Int).toNat 2)<m)/\((!nmB (d.el (i:Int).toNat 0).toS || !nmB (d.el (i:Int).toNat 1).toS)=false/\True->sOK (d.el (i:Int).toNat 2))/\((!nmB (d.el (i:Int).toNat 0).toS || !nmB (d.el (i:Int).toNat 1).toS || !bA (d.el (i:Int).toNat 2))=true->false=amsA d)/\((!nmB (d.el (i:Int).toNat 0).toS || !nmB (d.el (i:Int).toNat 1).toS || !bA (d.el (i:Int).toNat 2))=false->∃ (j:Nat),(j<=d.len/\∀ (j_1:Nat),j_1<j->arE d j_1=true)/\d.len-j<d.len-i/\IntKind.i64.wrap ((i:Int)+(1:Int))=(j:Int)/\d.rows=d.rows/\(d.len:Int)=(d.len:Int)))/\(decide ((i:Int)<(d.len:Int))=false->true=amsA d)) (by kernel_rfl) ?_
  intro hm hs;have e0:∀ (i:Nat),((i:Int)).toNat=i:=fun i=>Int.toNat_natCast i
  simp only [Nat.zero_add,Nat.reduceAdd,e0];have hb:=hs.1;unfold amsA;refine ⟨⟨0,⟨Nat.zero_le _,fun j hj=>absurd hj (Nat.not_lt_zero j)⟩,rfl,trivial,trivial⟩,fun i hp=>⟨fun hl=>?_,fun hl=>?_⟩⟩
  ·have hl:=of_decide_eq_true hl;have hi:i<d.len:=by omega
   have hw:IntKind.i64.wrap ((i:Int)+1)=((i+1:Nat):Int):=by rw [IntWalk.i64_in _ (by omega)];omega
   have z1:=lel_lt (j:=2) hi;have s1:=hs.2 i hi;have er:arE d i = !(!nmB (d.el i 0).toS || !nmB (d.el i 1).toS || !bA (d.el i 2)):=by unfold arE;simp
   refine ⟨⟨by omega,by omega⟩,fun _=>by omega,fun _=>s1,fun hq=>?_,fun hq=>?_⟩
   ·have hq:arE d i=false:=by rw [er,hq];rfl
    exact (allB_no hi hq).symm
   ·have hq:arE d i=true:=by rw [er,hq];rfl
    refine ⟨i+1,⟨by omega,fun j hj=>?_⟩,by omega,hw,trivial,trivial⟩
    rcases Nat.lt_or_ge j i with h |h
    ·exact hp.2 j h
    ·obtain rfl:j=i:=by omega
     exact hq
  ·have hl:=of_decide_eq_false hl;exact (allB_yes fun j hj=>hp.2 j (by omega)).symm
 ·trivial
noncomputable def strS (m:Nat):FSpec:=fun ds _=>match ds with
 | [.i k,.s nm,.s tg,.i ek,.i en,.s es,.d ed,.i op,.i lk,.i ln,.s ls,.d ld,.i rk,.i rn,.s rs,.d rd,.d bd,.d eb,.d am]=>some {val:=.one (.sc (.bool (.sym (stA k nm tg ek en es ed op lk ln ls ld rk rn rs rd bd eb am)))),vc:=[SizeOf.sizeOf bd<m,SizeOf.sizeOf eb<m,SizeOf.sizeOf am<m,sOK bd,sOK eb,amOK am]}
 |_=>none
noncomputable def strC (m:Nat):Con:=con [lSt] (strS m)
theorem str_ok {m:Nat} (ih:ConOK Tryz.prog 95 (con [lBo] (bdrSu m))):ConOK Tryz.prog 133 (strC m):=by
 refine fn_ob tt_ok mixed Tryz.func133 rfl (fun _ _=>by kernel_rfl) (A:=fun ds=>⟨fun _=>Cons.of [(93,nmrC),(158,axrC),(159,acrC),(160,(amrC m)),(95,con [lBo] (bdrSu m))],fun _=>none,fun _=>none⟩) (fun _ _=>(cons_cons nmr_ok (cons_cons axr_ok (cons_cons acr_ok (cons_cons (amr_ok ih) (cons_cons ih cons_nil)))))) (by kernel_rfl) ?_
 intro ds fr;unfold strS;split
 ·rename_i k nm tg ek en es ed op lk ln ls ld rk rn rs rd bd eb am;refine kmp (q:=SizeOf.sizeOf bd<m->SizeOf.sizeOf eb<m->SizeOf.sizeOf am<m->sOK bd->sOK eb->amOK am->((k==(1:Int))=true->(nmB nm&&aX ek en es ed)=stA k nm tg ek en es ed op lk ln ls ld rk rn rs rd bd eb am)/\((k==(1:Int))=false->((k==(2:Int))=true->(aC op lk ln ls ld rk rn rs rd=true/\True->SizeOf.sizeOf bd<m)/\(aC op lk ln ls ld rk rn rs rd=true/\True->sOK bd)/\((aC op lk ln ls ld rk rn rs rd&&bA bd)=true/\True->SizeOf.sizeOf eb<m)/\((aC op lk ln ls ld rk rn rs rd&&bA bd)=true/\True->sOK eb)/\(aC op lk ln ls ld rk rn rs rd&&bA bd&&bA eb)=stA k nm tg ek en es ed op lk ln ls ld rk rn rs rd bd eb am)/\((k==(2:Int))=false->((k==(3:Int))=true->(aC op lk ln ls ld rk rn rs rd=true/\True->SizeOf.sizeOf bd<m)/\(aC op lk ln ls ld rk rn rs rd=true/\True->sOK bd)/\(aC op lk ln ls ld rk rn rs rd&&bA bd)=stA k nm tg ek en es ed op lk ln ls ld rk rn rs rd bd eb am)/\((k==(3:Int))=false->((k==(4:Int))=true->(nmB nm&&nmB tg&&aX ek en es ed)=stA k nm tg ek en es ed op lk ln ls ld rk rn rs rd bd eb am)/\((k==(4:Int))=false->((k==(5:Int))=true->((nmB nm&&decide ((am.len:Int)>(0:Int)))=true/\True->SizeOf.sizeOf am<m)/\((nmB nm&&decide ((am.len:Int)>(0:Int)))=true/\True->amOK am)/\(nmB nm&&decide ((am.len:Int)>(0:Int))&&amsA am)=stA k nm tg ek en es ed op lk ln ls ld rk rn rs rd bd eb am)/\((k==(5:Int))=false->((k==(6:Int))=true->aC op lk ln ls ld rk rn rs rd=stA k nm tg ek en es ed op lk ln ls ld rk rn rs rd bd eb am)/\((k==(6:Int))=false->((k==(7:Int))=true->nmB nm=stA k nm tg ek en es ed op lk ln ls ld rk rn rs rd bd eb am)/\((k==(7:Int))=false->false=stA k nm tg ek en es ed op lk ln ls ld rk rn rs rd bd eb am)))))))) (by kernel_rfl) ?_
  intro h1 h2 h3 h4 h5 h6;refine ⟨fun h=>?_,fun n1=>⟨fun h=>⟨fun _=>h1,fun _=>h4,fun _=>h2,fun _=>h5,?_⟩,fun n2=>⟨fun h=>⟨fun _=>h1,fun _=>h4,?_⟩,fun n3=>⟨fun h=>?_,fun n4=>⟨fun h=>⟨fun _=>h3,fun _=>h6,?_⟩,fun n5=>⟨fun h=>?_,fun n6=>⟨fun h=>?_,fun n7=>?_⟩⟩⟩⟩⟩⟩⟩
  iterate 7 (obtain rfl:=eq_of_beq h;rfl)
  unfold stA aStF;rw [if_neg (ne_of_beq_false n1),if_neg (ne_of_beq_false n2),if_neg (ne_of_beq_false n3),if_neg (ne_of_beq_false n4),if_neg (ne_of_beq_false n5),if_neg (ne_of_beq_false n6),if_neg (ne_of_beq_false n7)]
 ·trivial
theorem bdr_step (m:Nat) (ih:ConOK Tryz.prog 95 (con [lBo] (bdrSu m))):ConOK Tryz.prog 95 (con [lBo] (bdrSu (m+1))):=by
 refine fn_ob tt_ok mixed Tryz.func95 rfl (fun _ _=>by kernel_rfl) (A:=fun ds=>⟨fun _=>Cons.of [(133,(strC m))],fun k=>match k,ds with | 2,[.d d]=>some {ι:=Nat,pre:=fun _ i=>i<=d.len/\∀ j,j<i->stE d j=true,μ:=fun i=>d.len-i,st:=fun s i=>famR s [(7,.one (.sc (.int .i64 (.sym ((i:Int))))))] [5,6] [] []} |_,_=>none,fun _=>none⟩) (fun _ _=>(cons_cons (str_ok ih) cons_nil)) (by kernel_rfl) ?_
 intro ds fr;unfold bdrSu;split
 ·rename_i d;refine kmp (q:=withv (fun (i:Nat)=>d.el (i:Int).toNat 18) fun E5=>withv (fun (i:Nat)=>d.el (i:Int).toNat 17) fun E6=>withv (fun (i:Nat)=>d.el (i:Int).toNat 16) fun E7=>withv (fun (i:Nat)=>d.el (i:Int).toNat 15) fun E8=>withv (fun (i:Nat)=>d.el (i:Int).toNat 14) fun E9=>withv (fun (i:Nat)=>d.el (i:Int).toNat 13) fun E10=>withv (fun (i:Nat)=>d.el (i:Int).toNat 12) fun E11=>withv (fun (i:Nat)=>d.el (i:Int).toNat 11) fun E12=>withv (fun (i:Nat)=>d.el (i:Int).toNat 10) fun E13=>withv (fun (i:Nat)=>d.el (i:Int).toNat 9) fun E14=>withv (fun (i:Nat)=>d.el (i:Int).toNat 8) fun E15=>withv (fun (i:Nat)=>d.el (i:Int).toNat 7) fun E16=>SizeOf.sizeOf d<m+(1:Nat)->sOK d->(∃ (i:Nat),(i<=d.len/\∀ (j:Nat),j<i->stE d j=true)/\(0:Int)=(i:Int)/\d.rows=d.rows/\(d.len:Int)=(d.len:Int))/\∀ (i:Nat),(i<=d.len/\∀ (j:Nat),j<i->stE d j=true)->(decide ((i:Int)<(d.len:Int))=true->((0:Int)<=(i:Int)/\(i:Int)<(d.len:Int))/\SizeOf.sizeOf (E7 i)<m/\SizeOf.sizeOf (E6 i)<m/\SizeOf.sizeOf (E5 i)<m/\sOK (E7 i)/\sOK (E6 i)/\amOK (E5 i)/\((!stA (d.el (i:Int).toNat 0).toI (d.el (i:Int).toNat 1).toS (d.el (i:Int).toNat 2).toS (d.el (i:Int).toNat 3).toI (d.el (i:Int).toNat 4).toI (d.el (i:Int).toNat 5).toS (d.el (i:Int).toNat 6) (E16 i).toI (E15 i).toI (E14 i).toI (E13 i).toS (E12 i) (E11 i).toI (E10 i).toI (E9 i).toS (E8 i) (E7 i) (E6 i) (E5 i))=true->false=bA d)/\((!stA (d.el (i:Int).toNat 0).toI (d.el (i:Int).toNat 1).toS (d.el (i:Int).toNat 2).toS (d.el (i:Int).toNat 3).toI (d.el (i:Int).toNat 4).toI (d.el (i:Int).toNat 5).toS (d.el (i:Int).toNat 6) (E16 i).toI (E15 i).toI (E14 i).toI (E13 i).toS (E12 i) (E11 i).toI (E10 i).toI (E9 i).toS (E8 i) (E7 i) (E6 i) (E5 i))=false->∃ (j:Nat),(j<=d.len/\∀ (j_1:Nat),j_1<j->stE d j_1=true)/\d.len-j<d.len-i/\IntKind.i64.wrap ((i:Int)+(1:Int))=(j:Int)/\d.rows=d.rows/\(d.len:Int)=(d.len:Int)))/\(decide ((i:Int)<(d.len:Int))=false->true=bA d)) (by kernel_rfl) ?_
  dsimp +instances only [withv]
  intro hm hs;have e0:∀ (i:Nat),((i:Int)).toNat=i:=fun i=>Int.toNat_natCast i
  simp only [Nat.zero_add,Nat.reduceAdd,e0];have hb:=((sOK_iff d).1 hs).1;rw [bA_eq];refine ⟨⟨0,⟨Nat.zero_le _,fun j hj=>absurd hj (Nat.not_lt_zero j)⟩,rfl,trivial,trivial⟩,fun i hp=>⟨fun hl=>?_,fun hl=>?_⟩⟩
  ·have hl:=of_decide_eq_true hl;have hi:i<d.len:=by omega
   have hw:IntKind.i64.wrap ((i:Int)+1)=((i+1:Nat):Int):=by rw [IntWalk.i64_in _ (by omega)];omega
   have z1:=lel_lt (j:=16) hi;have z2:=lel_lt (j:=17) hi;have z3:=lel_lt (j:=18) hi;obtain ⟨s1,s2,s3⟩:=((sOK_iff d).1 hs).2 i hi;refine ⟨⟨by omega,by omega⟩,by omega,by omega,by omega,s1,s2,s3,fun hq=>?_,fun hq=>?_⟩
   ·have hq:stE d i=false:=by rw [Bool.not_eq_true'] at hq;exact hq
    exact (allB_no hi hq).symm
   ·have hq:stE d i=true:=by rw [Bool.not_eq_false'] at hq;exact hq
    refine ⟨i+1,⟨by omega,fun j hj=>?_⟩,by omega,hw,trivial,trivial⟩
    rcases Nat.lt_or_ge j i with h |h
    ·exact hp.2 j h
    ·obtain rfl:j=i:=by omega
     exact hq
  ·have hl:=of_decide_eq_false hl;exact (allB_yes fun j hj=>hp.2 j (by omega)).symm
 ·trivial
theorem bdr_ok:ConOK Tryz.prog 95 bdrC:=
 con_rec bdrM (fun _ _=>by kernel_rfl) fun m ih=>by
  rw [bdr_under] at ih ⊢;exact bdr_step m ih
end Go.Proofs.YtplejbgafjpomaaGreatDoor.Sx.Z
namespace Go.Proofs.YtplejbgafjpomaaGreatDoor.Sx.Z
open Go.RowKit
def lNs:AP:=.sc (.rows 9)
def lCh:AP:=.agg [.c .str,.c (.int .i64),.c (.int .i64),.c .str,.c .str,.c (.rows 9)]
def lRu:AP:=.agg [.c .str,.c (.rows 122)]
def lSy:AP:=.agg [.c (.rows 118),.c (.rows 121),.c (.rows 126)]
def nsE (d:D) (i:Nat):Bool:=nmB (d.el i 0).toS
def nsA (d:D):Bool:=allB d.len (nsE d)
def chB (nm:ByteArray) (k sz:Int) (f t:ByteArray) (tg:D):Bool:=nmB nm&&decide (k>=0)&&decide (k<=2)&&nuB sz&&nmB f&&nmB t&&decide ((tg.len:Int)>0)&&nsA tg
def mvE (d:D) (i:Nat):Bool:=nuB (d.el i 0).toI&&nmB (d.el i 1).toS&&nuB (d.el i 2).toI
def ruB (nm:ByteArray) (mv:D):Bool:=allB mv.len (mvE mv)&&nmB nm
def chE (d:D) (i:Nat):Bool:=chB (d.el i 0).toS (d.el i 1).toI (d.el i 2).toI (d.el i 3).toS (d.el i 4).toS (d.el i 5)
def ruE (d:D) (i:Nat):Bool:=ruB (d.el i 0).toS (d.el i 1)
def prE (d:D) (i:Nat):Bool:=nmB (d.el i 0).toS&&nsA (d.el i 1)&&bA (d.el i 2)
def syB (ch ru pr:D):Bool:=allB ch.len (chE ch)&&(allB ru.len (ruE ru)&&allB pr.len (prE pr))
structure SyOK (ch ru pr:D):Prop where
 c:ch.len<=10000000000000
 ct:∀ i,i<ch.len->(ch.el i 5).len<=10000000000000
 r:ru.len<=10000000000000
 rm:∀ i,i<ru.len->(ru.el i 1).len<=10000000000000
 p:pr.len<=10000000000000
 pv:∀ i,i<pr.len->(pr.el i 1).len<=10000000000000
 pb:∀ i,i<pr.len->sOK (pr.el i 2)
noncomputable def nsrS:FSpec:=fun ds _=>match ds with
 | [.d d]=>some {val:=.one (.sc (.bool (.sym (nsA d)))),vc:=[d.len<=10000000000000]}
 |_=>none
noncomputable def nsrC:Con:=con [lNs] nsrS
theorem nsr_ok:ConOK Tryz.prog 94 nsrC:=by
 refine fn_ob tt_ok mixed Tryz.func94 rfl (fun _ _=>by kernel_rfl) (A:=fun ds=>⟨fun _=>Cons.of [(93,nmrC)],fun k=>match k,ds with | 2,[.d d]=>some {ι:=Nat,pre:=fun _ i=>i<=d.len/\∀ j,j<i->nsE d j=true,μ:=fun i=>d.len-i,st:=fun s i=>famR s [(7,.one (.sc (.int .i64 (.sym ((i:Int))))))] [5,6] [] []} |_,_=>none,fun _=>none⟩) (fun _ _=>(cons_cons nmr_ok cons_nil)) (by kernel_rfl) ?_
 intro ds fr;unfold nsrS;split
 ·rename_i d;refine kmp (q:=d.len<=10000000000000->(∃ (i:Nat),(i<=d.len/\∀ (j:Nat),j<i->nsE d j=true)/\(0:Int)=(i:Int)/\d.rows=d.rows/\(d.len:Int)=(d.len:Int))/\∀ (i:Nat),(i<=d.len/\∀ (j:Nat),j<i->nsE d j=true)->(decide ((i:Int)<(d.len:Int))=true->((0:Int)<=(i:Int)/\(i:Int)<(d.len:Int))/\((!nmB (d.el (i:Int).toNat 0).toS)=true->false=nsA d)/\((!nmB (d.el (i:Int).toNat 0).toS)=false->∃ (j:Nat),(j<=d.len/\∀ (j_1:Nat),j_1<j->nsE d j_1=true)/\d.len-j<d.len-i/\IntKind.i64.wrap ((i:Int)+(1:Int))=(j:Int)/\d.rows=d.rows/\(d.len:Int)=(d.len:Int)))/\(decide ((i:Int)<(d.len:Int))=false->true=nsA d)) (by kernel_rfl) ?_
  intro hd;have e0:∀ (i:Nat),((i:Int)).toNat=i:=fun i=>Int.toNat_natCast i
  simp only [e0];unfold nsA;refine ⟨⟨0,⟨Nat.zero_le _,fun j hj=>absurd hj (Nat.not_lt_zero j)⟩,by (repeat' apply And.intro)<;>first |trivial |rfl |(intro _ _;rfl) |(intro _ _;trivial)⟩,fun i hp=>⟨fun hl=>?_,fun hl=>?_⟩⟩
  ·have hl:=of_decide_eq_true hl;have hb:=hd;have hi:i<d.len:=by omega
   have hw:IntKind.i64.wrap ((i:Int)+1)=((i+1:Nat):Int):=by rw [IntWalk.i64_in _ (by omega)];omega
   skip
   refine ⟨⟨by omega,by omega⟩,fun hq=>?_,fun hq=>?_⟩
   ·have hq:nsE d i=false:=by rw [Bool.not_eq_true'] at hq;exact hq
    exact (allB_no hi hq).symm
   ·have hq:nsE d i=true:=by rw [Bool.not_eq_false'] at hq;exact hq
    refine ⟨i+1,⟨by omega,fun j hj=>?_⟩,by omega,hw,by (repeat' apply And.intro)<;>first |trivial |rfl |(intro _ _;rfl) |(intro _ _;trivial)⟩
    rcases Nat.lt_or_ge j i with h |h
    ·exact hp.2 j h
    ·obtain rfl:j=i:=by omega
     exact hq
  ·have hl:=of_decide_eq_false hl;have hall:allB d.len (nsE d)=true:=allB_yes fun j hj=>hp.2 j (by omega)
   exact hall.symm
 ·trivial
noncomputable def chrS:FSpec:=fun ds _=>match ds with
 | [.s nm,.i k,.i sz,.s f,.s t,.d tg]=>some {val:=.one (.sc (.bool (.sym (chB nm k sz f t tg)))),vc:=[tg.len<=10000000000000]}
 |_=>none
noncomputable def chrC:Con:=con [lCh] chrS
theorem chr_ok:ConOK Tryz.prog 91 chrC:=by
 refine fn_ob tt_ok mixed Tryz.func91 rfl (fun _ _=>by kernel_rfl) (A:=fun ds=>⟨fun _=>Cons.of [(93,nmrC),(132,nurC),(94,nsrC)],fun _=>none,fun _=>none⟩) (fun _ _=>(cons_cons nmr_ok (cons_cons nur_ok (cons_cons nsr_ok cons_nil)))) (by kernel_rfl) ?_
 intro ds fr;unfold chrS;split
 ·rename_i nm k sz f t tg;refine kmp (q:=tg.len<=10000000000000->((nmB nm&&decide (k>=(0:Int))&&decide (k<=(2:Int))&&nuB sz&&nmB f&&nmB t&&decide ((tg.len:Int)>(0:Int)))=true/\True->tg.len<=10000000000000)/\(nmB nm&&decide (k>=(0:Int))&&decide (k<=(2:Int))&&nuB sz&&nmB f&&nmB t&&decide ((tg.len:Int)>(0:Int))&&nsA tg)=chB nm k sz f t tg) (by kernel_rfl) ?_
  intro ht;exact ⟨fun _=>ht,rfl⟩
 ·trivial
noncomputable def rurS:FSpec:=fun ds _=>match ds with
 | [.s nm,.d d]=>some {val:=.one (.sc (.bool (.sym (ruB nm d)))),vc:=[d.len<=10000000000000]}
 |_=>none
noncomputable def rurC:Con:=con [lRu] rurS
theorem rur_ok:ConOK Tryz.prog 92 rurC:=by
 refine fn_ob tt_ok mixed Tryz.func92 rfl (fun _ _=>by kernel_rfl) (A:=fun ds=>⟨fun _=>Cons.of [(93,nmrC),(132,nurC)],fun k=>match k,ds with | 2,[.s nm,.d d]=>some {ι:=Nat,pre:=fun _ i=>i<=d.len/\∀ j,j<i->mvE d j=true,μ:=fun i=>d.len-i,st:=fun s i=>famR s [(8,.one (.sc (.int .i64 (.sym ((i:Int))))))] [1,6,7] [] [1]} |_,_=>none,fun _=>none⟩) (fun _ _=>(cons_cons nmr_ok (cons_cons nur_ok cons_nil))) (by kernel_rfl) ?_
 intro ds fr;unfold rurS;split
 ·rename_i nm d;refine kmp (q:=d.len<=10000000000000->(∃ (i:Nat),(i<=d.len/\∀ (j:Nat),j<i->mvE d j=true)/\(0:Int)=(i:Int)/\d.rows=d.rows/\(d.len:Int)=(d.len:Int)/\Value.string nm=Value.string nm/\d.rows=d.rows)/\∀ (i:Nat),(i<=d.len/\∀ (j:Nat),j<i->mvE d j=true)->(decide ((i:Int)<(d.len:Int))=true->((0:Int)<=(i:Int)/\(i:Int)<(d.len:Int))/\((!nuB (d.el (i:Int).toNat 0).toI || !nmB (d.el (i:Int).toNat 1).toS || !nuB (d.el (i:Int).toNat 2).toI)=true->false=ruB nm d)/\((!nuB (d.el (i:Int).toNat 0).toI || !nmB (d.el (i:Int).toNat 1).toS || !nuB (d.el (i:Int).toNat 2).toI)=false->∃ (j:Nat),(j<=d.len/\∀ (j_1:Nat),j_1<j->mvE d j_1=true)/\d.len-j<d.len-i/\IntKind.i64.wrap ((i:Int)+(1:Int))=(j:Int)/\d.rows=d.rows/\(d.len:Int)=(d.len:Int)/\Value.string nm=Value.string nm/\d.rows=d.rows))/\(decide ((i:Int)<(d.len:Int))=false->nmB nm=ruB nm d)) (by kernel_rfl) ?_
  intro hd;have e0:∀ (i:Nat),((i:Int)).toNat=i:=fun i=>Int.toNat_natCast i
  simp only [Nat.zero_add,Nat.reduceAdd,e0];unfold ruB;refine ⟨⟨0,⟨Nat.zero_le _,fun j hj=>absurd hj (Nat.not_lt_zero j)⟩,by (repeat' apply And.intro)<;>first |trivial |rfl |(intro _ _;rfl) |(intro _ _;trivial)⟩,fun i hp=>⟨fun hl=>?_,fun hl=>?_⟩⟩
  ·have hl:=of_decide_eq_true hl;have hb:=hd;have hi:i<d.len:=by omega
   have hw:IntKind.i64.wrap ((i:Int)+1)=((i+1:Nat):Int):=by rw [IntWalk.i64_in _ (by omega)];omega
   have er:mvE d i = !(!nuB (d.el i 0).toI || !nmB (d.el i 1).toS || !nuB (d.el i 2).toI):=by unfold mvE;simp
   refine ⟨⟨by omega,by omega⟩,fun hq=>?_,fun hq=>?_⟩
   ·have hq:mvE d i=false:=by rw [er,hq];rfl
    rw [allB_no hi hq];rfl
   ·have hq:mvE d i=true:=by rw [er,hq];rfl
    refine ⟨i+1,⟨by omega,fun j hj=>?_⟩,by omega,hw,by (repeat' apply And.intro)<;>first |trivial |rfl |(intro _ _;rfl) |(intro _ _;trivial)⟩
    rcases Nat.lt_or_ge j i with h |h
    ·exact hp.2 j h
    ·obtain rfl:j=i:=by omega
     exact hq
  ·have hl:=of_decide_eq_false hl;have hall:allB d.len (mvE d)=true:=allB_yes fun j hj=>hp.2 j (by omega)
   rw [hall];rfl
 ·trivial
noncomputable def syrS:FSpec:=fun ds _=>match ds with
 | [.d ch,.d ru,.d pr]=>some {val:=.one (.sc (.bool (.sym (syB ch ru pr)))),vc:=[SyOK ch ru pr]}
 |_=>none
noncomputable def syrC:Con:=con [lSy] syrS
theorem syr_ok:ConOK Tryz.prog 52 syrC:=by
 refine fn_ob tt_ok mixed Tryz.func52 rfl (fun _ _=>by kernel_rfl) (A:=fun ds=>⟨fun _=>Cons.of [(93,nmrC),(94,nsrC),(95,bdrC),(91,chrC),(92,rurC)],fun k=>match k,ds with | 2,[.d ch,.d ru,.d pr]=>some {ι:=Nat,pre:=fun _ i=>i<=ch.len/\∀ j,j<i->chE ch j=true,μ:=fun i=>ch.len-i,st:=fun s i=>famR s [(12,.one (.sc (.int .i64 (.sym ((i:Int))))))] [1,10,11] [] [1]} | 8,[.d ch,.d ru,.d pr]=>some {ι:=Nat,pre:=fun _ i=>i<=ru.len/\∀ j,j<i->ruE ru j=true,μ:=fun i=>ru.len-i,st:=fun s i=>famR s [(23,.one (.sc (.int .i64 (.sym ((i:Int))))))] [1,21,22] [] [1]} | 14,[.d ch,.d ru,.d pr]=>some {ι:=Nat,pre:=fun _ i=>i<=pr.len/\∀ j,j<i->prE pr j=true,μ:=fun i=>pr.len-i,st:=fun s i=>famR s [(34,.one (.sc (.int .i64 (.sym ((i:Int))))))] [1,32,33] [] [1]} |_,_=>none,fun _=>none⟩) (fun _ _=>(cons_cons nmr_ok (cons_cons nsr_ok (cons_cons bdr_ok (cons_cons chr_ok (cons_cons rur_ok cons_nil)))))) (by kernel_rfl) ?_
 intro ds fr;unfold syrS;split
 ·rename_i ch ru pr;refine kmp (q:=SyOK ch ru pr->(∃ (i:Nat),(i<=ch.len/\∀ (j:Nat),j<i->chE ch j=true)/\(0:Int)=(i:Int)/\ch.rows=ch.rows/\(ch.len:Int)=(ch.len:Int)/\ch.rows=ch.rows/\ru.rows=ru.rows/\pr.rows=pr.rows)/\∀ (i:Nat),(i<=ch.len/\∀ (j:Nat),j<i->chE ch j=true)->(decide ((i:Int)<(ch.len:Int))=true->((0:Int)<=(i:Int)/\(i:Int)<(ch.len:Int))/\(ch.el (i:Int).toNat 5).len<=10000000000000/\((!chB (ch.el (i:Int).toNat 0).toS (ch.el (i:Int).toNat 1).toI (ch.el (i:Int).toNat 2).toI (ch.el (i:Int).toNat 3).toS (ch.el (i:Int).toNat 4).toS (ch.el (i:Int).toNat 5))=true->false=syB ch ru pr)/\((!chB (ch.el (i:Int).toNat 0).toS (ch.el (i:Int).toNat 1).toI (ch.el (i:Int).toNat 2).toI (ch.el (i:Int).toNat 3).toS (ch.el (i:Int).toNat 4).toS (ch.el (i:Int).toNat 5))=false->∃ (j:Nat),(j<=ch.len/\∀ (j_1:Nat),j_1<j->chE ch j_1=true)/\ch.len-j<ch.len-i/\IntKind.i64.wrap ((i:Int)+(1:Int))=(j:Int)/\ch.rows=ch.rows/\(ch.len:Int)=(ch.len:Int)/\ch.rows=ch.rows/\ru.rows=ru.rows/\pr.rows=pr.rows))/\(decide ((i:Int)<(ch.len:Int))=false->(∃ (i:Nat),(i<=ru.len/\∀ (j:Nat),j<i->ruE ru j=true)/\(0:Int)=(i:Int)/\ru.rows=ru.rows/\(ru.len:Int)=(ru.len:Int)/\ch.rows=ch.rows/\ru.rows=ru.rows/\pr.rows=pr.rows)/\∀ (i:Nat),(i<=ru.len/\∀ (j:Nat),j<i->ruE ru j=true)->(decide ((i:Int)<(ru.len:Int))=true->((0:Int)<=(i:Int)/\(i:Int)<(ru.len:Int))/\(ru.el (i:Int).toNat 1).len<=10000000000000/\((!ruB (ru.el (i:Int).toNat 0).toS (ru.el (i:Int).toNat 1))=true->false=syB ch ru pr)/\((!ruB (ru.el (i:Int).toNat 0).toS (ru.el (i:Int).toNat 1))=false->∃ (j:Nat),(j<=ru.len/\∀ (j_1:Nat),j_1<j->ruE ru j_1=true)/\ru.len-j<ru.len-i/\IntKind.i64.wrap ((i:Int)+(1:Int))=(j:Int)/\ru.rows=ru.rows/\(ru.len:Int)=(ru.len:Int)/\ch.rows=ch.rows/\ru.rows=ru.rows/\pr.rows=pr.rows))/\(decide ((i:Int)<(ru.len:Int))=false->(∃ (i:Nat),(i<=pr.len/\∀ (j:Nat),j<i->prE pr j=true)/\(0:Int)=(i:Int)/\pr.rows=pr.rows/\(pr.len:Int)=(pr.len:Int)/\ch.rows=ch.rows/\ru.rows=ru.rows/\pr.rows=pr.rows)/\∀ (i:Nat),(i<=pr.len/\∀ (j:Nat),j<i->prE pr j=true)->(decide ((i:Int)<(pr.len:Int))=true->((0:Int)<=(i:Int)/\(i:Int)<(pr.len:Int))/\((!nmB (pr.el (i:Int).toNat 0).toS)=false/\True->(pr.el (i:Int).toNat 1).len<=10000000000000)/\((!nmB (pr.el (i:Int).toNat 0).toS || !nsA (pr.el (i:Int).toNat 1))=false/\True->sOK (pr.el (i:Int).toNat 2))/\((!nmB (pr.el (i:Int).toNat 0).toS || !nsA (pr.el (i:Int).toNat 1) || !bA (pr.el (i:Int).toNat 2))=true->false=syB ch ru pr)/\((!nmB (pr.el (i:Int).toNat 0).toS || !nsA (pr.el (i:Int).toNat 1) || !bA (pr.el (i:Int).toNat 2))=false->∃ (j:Nat),(j<=pr.len/\∀ (j_1:Nat),j_1<j->prE pr j_1=true)/\pr.len-j<pr.len-i/\IntKind.i64.wrap ((i:Int)+(1:Int))=(j:Int)/\pr.rows=pr.rows/\(pr.len:Int)=(pr.len:Int)/\ch.rows=ch.rows/\ru.rows=ru.rows/\pr.rows=pr.rows))/\(decide ((i:Int)<(pr.len:Int))=false->true=syB ch ru pr)))) (by kernel_rfl) ?_
  intro hs;have e0:∀ (i:Nat),((i:Int)).toNat=i:=fun i=>Int.toNat_natCast i
  simp only [Nat.zero_add,Nat.reduceAdd,e0];unfold syB;refine ⟨⟨0,⟨Nat.zero_le _,fun j hj=>absurd hj (Nat.not_lt_zero j)⟩,by (repeat' apply And.intro)<;>first |trivial |rfl |(intro _ _;rfl) |(intro _ _;trivial)⟩,fun i hp=>⟨fun hl=>?_,fun hl=>?_⟩⟩
  ·have hl:=of_decide_eq_true hl;have hb:=hs.c;have hi:i<ch.len:=by omega
   have hw:IntKind.i64.wrap ((i:Int)+1)=((i+1:Nat):Int):=by rw [IntWalk.i64_in _ (by omega)];omega
   have v1:=hs.ct i hi;refine ⟨⟨by omega,by omega⟩,v1,fun hq=>?_,fun hq=>?_⟩
   ·have hq:chE ch i=false:=by rw [Bool.not_eq_true'] at hq;exact hq
    rw [allB_no hi hq];rfl
   ·have hq:chE ch i=true:=by rw [Bool.not_eq_false'] at hq;exact hq
    refine ⟨i+1,⟨by omega,fun j hj=>?_⟩,by omega,hw,by (repeat' apply And.intro)<;>first |trivial |rfl |(intro _ _;rfl) |(intro _ _;trivial)⟩
    rcases Nat.lt_or_ge j i with h |h
    ·exact hp.2 j h
    ·obtain rfl:j=i:=by omega
     exact hq
  ·have hl:=of_decide_eq_false hl;have hall:allB ch.len (chE ch)=true:=allB_yes fun j hj=>hp.2 j (by omega)
   have hc:=hall;refine ⟨⟨0,⟨Nat.zero_le _,fun j hj=>absurd hj (Nat.not_lt_zero j)⟩,by (repeat' apply And.intro)<;>first |trivial |rfl |(intro _ _;rfl) |(intro _ _;trivial)⟩,fun i hp=>⟨fun hl=>?_,fun hl=>?_⟩⟩
   ·have hl:=of_decide_eq_true hl;have hb:=hs.r;have hi:i<ru.len:=by omega
    have hw:IntKind.i64.wrap ((i:Int)+1)=((i+1:Nat):Int):=by rw [IntWalk.i64_in _ (by omega)];omega
    have v1:=hs.rm i hi;refine ⟨⟨by omega,by omega⟩,v1,fun hq=>?_,fun hq=>?_⟩
    ·have hq:ruE ru i=false:=by rw [Bool.not_eq_true'] at hq;exact hq
     rw [hc,allB_no hi hq];rfl
    ·have hq:ruE ru i=true:=by rw [Bool.not_eq_false'] at hq;exact hq
     refine ⟨i+1,⟨by omega,fun j hj=>?_⟩,by omega,hw,by (repeat' apply And.intro)<;>first |trivial |rfl |(intro _ _;rfl) |(intro _ _;trivial)⟩
     rcases Nat.lt_or_ge j i with h |h
     ·exact hp.2 j h
     ·obtain rfl:j=i:=by omega
      exact hq
   ·have hl:=of_decide_eq_false hl;have hall:allB ru.len (ruE ru)=true:=allB_yes fun j hj=>hp.2 j (by omega)
    have hr:=hall;refine ⟨⟨0,⟨Nat.zero_le _,fun j hj=>absurd hj (Nat.not_lt_zero j)⟩,by (repeat' apply And.intro)<;>first |trivial |rfl |(intro _ _;rfl) |(intro _ _;trivial)⟩,fun i hp=>⟨fun hl=>?_,fun hl=>?_⟩⟩
    ·have hl:=of_decide_eq_true hl;have hb:=hs.p;have hi:i<pr.len:=by omega
     have hw:IntKind.i64.wrap ((i:Int)+1)=((i+1:Nat):Int):=by rw [IntWalk.i64_in _ (by omega)];omega
     have er:prE pr i = !(!nmB (pr.el i 0).toS || !nsA (pr.el i 1) || !bA (pr.el i 2)):=by unfold prE;simp
     have v1:=hs.pv i hi;have v2:=hs.pb i hi;refine ⟨⟨by omega,by omega⟩,fun _=>v1,fun _=>v2,fun hq=>?_,fun hq=>?_⟩
     ·have hq:prE pr i=false:=by rw [er,hq];rfl
      rw [hc,hr,allB_no hi hq];rfl
     ·have hq:prE pr i=true:=by rw [er,hq];rfl
      refine ⟨i+1,⟨by omega,fun j hj=>?_⟩,by omega,hw,by (repeat' apply And.intro)<;>first |trivial |rfl |(intro _ _;rfl) |(intro _ _;trivial)⟩
      rcases Nat.lt_or_ge j i with h |h
      ·exact hp.2 j h
      ·obtain rfl:j=i:=by omega
       exact hq
    ·have hl:=of_decide_eq_false hl;have hall:allB pr.len (prE pr)=true:=allB_yes fun j hj=>hp.2 j (by omega)
     rw [hall,hc,hr];rfl
 ·trivial
end Go.Proofs.YtplejbgafjpomaaGreatDoor.Sx.Z
namespace Go.Proofs.YtplejbgafjpomaaGreatDoor.Sx.Z
open Go.RowKit
def suB (k:Int):Bool:=k==4 ||k==5
def brB (k i q:Int):Bool:=if k=3 then biB q else if k=4 ∨ k=5 then i==1&&suB q else if k=6 ∨ k=7 ∨ k=8 then suB q ||(i==1&&biB q) else false
def inB (b:Bool):Int:=if b=true then 1 else 0
def xNb (k dp:Int) (q:Nat->Int) (f:Nat->Int->Bool):Bool:=
 if dp>24 then false else if k=3 then f 0 (dp+1+inB (brB 3 0 (q 0))) else if biB k=true then f 0 (dp+inB (brB k 0 (q 0)))&&f 1 (dp+inB (brB k 1 (q 1))) else true
def kN (d:D) (i:Nat) (dp:Int):Bool:=if _h:i<d.len then xNb (d.el i 0).toI dp (fun j=>((d.el i 3).el j 0).toI) (fun j q=>kN (d.el i 3) j q) else true
 termination_by SizeOf.sizeOf d
 decreasing_by exact lel_lt (by assumption)
def xN (k:Int) (d:D) (dp:Int):Bool:=xNb k dp (fun j=>(d.el j 0).toI) (kN d)
theorem kN_eq {d:D} {i:Nat} (h:i<d.len) (dp:Int):kN d i dp=xN (d.el i 0).toI (d.el i 3) dp:=by
 rw [kN,dif_pos h];rfl
theorem aX_kids {k n:Int} {s:ByteArray} {d:D} (h:aX k n s d=true):(k=3->d.len=1/\aE d 0=true)/\(biB k=true->d.len=2/\aE d 0=true/\aE d 1=true):=by
 constructor
 ·rintro rfl;have e:aX 3 n s d=((d.len:Int)==1&&aE d 0):=rfl;rw [e] at h;simp only [Bool.and_eq_true,beq_iff_eq] at h;exact ⟨by omega,h.2⟩
 ·intro hb;rw [aX_bin hb] at h;simp only [Bool.and_eq_true,beq_iff_eq] at h;exact ⟨by omega,h.1.2,h.2⟩
noncomputable def isumS:FSpec:=fun ds _=>match ds with
 | [.i k]=>some {val:=.one (.sc (.bool (.sym (suB k)))),vc:=[]}
 |_=>none
noncomputable def isumC:Con:=con [lI] isumS
theorem isum_ok:ConOK Tryz.prog 197 isumC:=by
 refine fn_ob tt_ok mixed Tryz.func197 rfl (fun _ _=>by kernel_rfl) (A:=fun ds=>⟨fun _=>Cons.of [],fun _=>none,fun _=>none⟩) (fun _ _=>cons_nil) (by kernel_rfl) ?_
 intro ds fr;unfold isumS;split
 ·rename_i k;refine kmp (q:=(k==(4:Int) ||k==(5:Int))=suB k) (by kernel_rfl) ?_
  unfold suB
  cases hk:(k==4)<;>simp
 ·trivial
noncomputable def brrS:FSpec:=fun ds _=>match ds with
 | [.i k,.i _n,.s _s,.d d,.i i]=>some {val:=.one (.sc (.bool (.sym (brB k i (d.el i.toNat 0).toI)))),vc:=[0<=i/\i<d.len]}
 |_=>none
noncomputable def brrC:Con:=con [lX,lI] brrS
theorem brr_ok:ConOK Tryz.prog 186 brrC:=by
 refine fn_ob tt_ok mixed Tryz.func186 rfl (fun _ _=>by kernel_rfl) (A:=fun ds=>⟨fun _=>Cons.of [(173,isbinC),(197,isumC)],fun _=>none,fun _=>none⟩) (fun _ _=>(cons_cons isbin_ok (cons_cons isum_ok cons_nil))) (by kernel_rfl) ?_
 intro ds fr;unfold brrS;split
 ·rename_i k n s d i;refine kmp (q:=(0:Int)<=i/\i<(d.len:Int)->((0:Int)<=i/\i<(d.len:Int))/\((k==(3:Int))=true->biB (d.el i.toNat ((0:Nat)+(0:Nat))).toI=brB k i (d.el i.toNat 0).toI)/\((k==(3:Int))=false->((k==(4:Int))=true->((k==(4:Int))=true->(i==(1:Int)&&suB (d.el i.toNat ((0:Nat)+(0:Nat))).toI)=brB k i (d.el i.toNat 0).toI)/\((k==(4:Int))=false->((k==(6:Int))=true->((k==(6:Int))=true->(suB (d.el i.toNat ((0:Nat)+(0:Nat))).toI ||i==(1:Int)&&biB (d.el i.toNat ((0:Nat)+(0:Nat))).toI)=brB k i (d.el i.toNat 0).toI)/\((k==(6:Int))=false->false=brB k i (d.el i.toNat 0).toI))/\((k==(6:Int))=false->((k==(7:Int))=true->((k==(7:Int))=true->(suB (d.el i.toNat ((0:Nat)+(0:Nat))).toI ||i==(1:Int)&&biB (d.el i.toNat ((0:Nat)+(0:Nat))).toI)=brB k i (d.el i.toNat 0).toI)/\((k==(7:Int))=false->false=brB k i (d.el i.toNat 0).toI))/\((k==(7:Int))=false->((k==(8:Int))=true->(suB (d.el i.toNat ((0:Nat)+(0:Nat))).toI ||i==(1:Int)&&biB (d.el i.toNat ((0:Nat)+(0:Nat))).toI)=brB k i (d.el i.toNat 0).toI)/\((k==(8:Int))=false->false=brB k i (d.el i.toNat 0).toI)))))/\((k==(4:Int))=false->((k==(5:Int))=true->(i==(1:Int)&&suB (d.el i.toNat ((0:Nat)+(0:Nat))).toI)=brB k i (d.el i.toNat 0).toI)/\((k==(5:Int))=false->((k==(6:Int))=true->((k==(6:Int))=true->(suB (d.el i.toNat ((0:Nat)+(0:Nat))).toI ||i==(1:Int)&&biB (d.el i.toNat ((0:Nat)+(0:Nat))).toI)=brB k i (d.el i.toNat 0).toI)/\((k==(6:Int))=false->false=brB k i (d.el i.toNat 0).toI))/\((k==(6:Int))=false->((k==(7:Int))=true->((k==(7:Int))=true->(suB (d.el i.toNat ((0:Nat)+(0:Nat))).toI ||i==(1:Int)&&biB (d.el i.toNat ((0:Nat)+(0:Nat))).toI)=brB k i (d.el i.toNat 0).toI)/\((k==(7:Int))=false->false=brB k i (d.el i.toNat 0).toI))/\((k==(7:Int))=false->((k==(8:Int))=true->(suB (d.el i.toNat ((0:Nat)+(0:Nat))).toI ||i==(1:Int)&&biB (d.el i.toNat ((0:Nat)+(0:Nat))).toI)=brB k i (d.el i.toNat 0).toI)/\((k==(8:Int))=false->false=brB k i (d.el i.toNat 0).toI))))))) (by kernel_rfl) ?_
  intro hi;refine ⟨hi,?_⟩
  by_cases h3:k=3
  ·subst h3;exact ⟨fun _=>rfl,fun h=>(by cases h)⟩
  by_cases h4:k=4
  ·subst h4;exact ⟨fun h=>(by cases h),fun _=>⟨fun _=>⟨fun _=>rfl,fun h=>(by cases h)⟩,fun h=>(by cases h)⟩⟩
  by_cases h5:k=5
  ·subst h5;exact ⟨fun h=>(by cases h),fun _=>⟨fun h=>(by cases h),fun _=>⟨fun _=>rfl,fun h=>(by cases h)⟩⟩⟩
  have n3:(k==(3:Int))=false:=beq_false_of_ne h3;have n4:(k==(4:Int))=false:=beq_false_of_ne h4;have n5:(k==(5:Int))=false:=beq_false_of_ne h5
  by_cases h6:k=6
  ·subst h6;exact ⟨fun h=>(by cases h),fun _=>⟨fun h=>(by cases h),fun _=>⟨fun h=>(by cases h),fun _=>⟨fun _=>⟨fun _=>rfl,fun h=>(by cases h)⟩,fun h=>(by cases h)⟩⟩⟩⟩
  by_cases h7:k=7
  ·subst h7;exact ⟨fun h=>(by cases h),fun _=>⟨fun h=>(by cases h),fun _=>⟨fun h=>(by cases h),fun _=>⟨fun h=>(by cases h),fun _=>⟨fun _=>⟨fun _=>rfl,fun h=>(by cases h)⟩,fun h=>(by cases h)⟩⟩⟩⟩⟩
  by_cases h8:k=8
  ·subst h8;exact ⟨fun h=>(by cases h),fun _=>⟨fun h=>(by cases h),fun _=>⟨fun h=>(by cases h),fun _=>⟨fun h=>(by cases h),fun _=>⟨fun h=>(by cases h),fun _=>⟨fun _=>rfl,fun h=>(by cases h)⟩⟩⟩⟩⟩⟩
  have n6:(k==(6:Int))=false:=beq_false_of_ne h6;have n7:(k==(7:Int))=false:=beq_false_of_ne h7;have n8:(k==(8:Int))=false:=beq_false_of_ne h8;have e:brB k i (d.el i.toNat 0).toI=false:=by
   unfold brB;rw [if_neg h3,if_neg (by omega),if_neg (by omega)]
  rw [n3,n4,n5,n6,n7,n8,e]
  simp
 ·trivial
noncomputable def xdrS:FSpec:=fun ds _=>match ds with
 | [.i k,.i n,.s s,.d d,.i dp]=>some {val:=.one (.sc (.bool (.sym (!xN k d dp)))),vc:=[aX k n s d=true,0<=dp/\dp<=30]}
 |_=>none
noncomputable def xdrC:Con:=con [lX,lI] xdrS
noncomputable def xdrM:List Dat->Nat:=fun ds=>match ds with
 | [.i _k,.i _n,.s _s,.d d,.i _dp]=>SizeOf.sizeOf d
 |_=>0
noncomputable def xdrSu (m:Nat):FSpec:=fun ds _=>match ds with
 | [.i k,.i n,.s s,.d d,.i dp]=>some {val:=.one (.sc (.bool (.sym (!xN k d dp)))),vc:=[SizeOf.sizeOf d<m,aX k n s d=true,0<=dp/\dp<=30]}
 |_=>none
theorem xdr_under (m:Nat):xdrS.under xdrM m=xdrSu m:=by
 funext ds fr
 unfold FSpec.under xdrS xdrM xdrSu;split
 ·rename_i e h
  split at h
  ·obtain rfl:=Option.some.inj h;rfl
  ·cases h
 ·rename_i h
  split at h
  ·cases h
  ·rfl
noncomputable def kdrS (m:Nat):FSpec:=fun ds _=>match ds with
 | [.i k,.i _n,.s _s,.d d,.i i,.i dp]=>some {val:=.one (.sc (.bool (.sym (!kN d i.toNat (dp+inB (brB k i (d.el i.toNat 0).toI)))))),vc:=[SizeOf.sizeOf d<m+1,0<=i/\i<d.len,aE d i.toNat=true,0<=dp/\dp<=29]}
 |_=>none
noncomputable def kdrC (m:Nat):Con:=con [lX,lI,lI] (kdrS m)
theorem kdr_ok {m:Nat} (ih:ConOK Tryz.prog 161 (con [lX,lI] (xdrSu m))):ConOK Tryz.prog 174 (kdrC m):=by
 refine fn_ob tt_ok mixed Tryz.func174 rfl (fun _ _=>by kernel_rfl) (A:=fun ds=>⟨fun _=>Cons.of [(186,brrC),(161,con [lX,lI] (xdrSu m))],fun _=>none,fun _=>none⟩) (fun _ _=>(cons_cons brr_ok (cons_cons ih cons_nil))) (by kernel_rfl) ?_
 intro ds fr;unfold kdrS;split
 ·rename_i k n s d i dp;refine kmp (q:=SizeOf.sizeOf d<m+(1:Nat)->(0:Int)<=i/\i<(d.len:Int)->aE d i.toNat=true->(0:Int)<=dp/\dp<=(29:Int)->((0:Int)<=i/\i<(d.len:Int))/\(brB k i (d.el i.toNat 0).toI=true->((0:Int)<=i/\i<(d.len:Int))/\SizeOf.sizeOf (d.el i.toNat 3)<m/\aX (d.el i.toNat 0).toI (d.el i.toNat 1).toI (d.el i.toNat 2).toS (d.el i.toNat 3)=true/\((0:Int)<=IntKind.i64.wrap (dp+(1:Int))/\IntKind.i64.wrap (dp+(1:Int))<=(30:Int))/\(!xN (d.el i.toNat 0).toI (d.el i.toNat 3) (IntKind.i64.wrap (dp+(1:Int)))) = !kN d i.toNat (dp+inB (brB k i (d.el i.toNat 0).toI)))/\(brB k i (d.el i.toNat 0).toI=false->((0:Int)<=i/\i<(d.len:Int))/\SizeOf.sizeOf (d.el i.toNat 3)<m/\aX (d.el i.toNat 0).toI (d.el i.toNat 1).toI (d.el i.toNat 2).toS (d.el i.toNat 3)=true/\((0:Int)<=dp/\dp<=(30:Int))/\(!xN (d.el i.toNat 0).toI (d.el i.toNat 3) dp) = !kN d i.toNat (dp+inB (brB k i (d.el i.toNat 0).toI)))) (by kernel_rfl) ?_
  intro hm hi ha hd;have hl:i.toNat<d.len:=by omega
  have z:=lel_lt (j:=3) hl;have ha':=ha;rw [aE_eq hl] at ha';refine ⟨hi,fun hb=>⟨hi,by (try simp only [Nat.reduceAdd,Nat.zero_add]);omega,ha',?_,?_⟩,fun hb=>⟨hi,by (try simp only [Nat.reduceAdd,Nat.zero_add]);omega,ha',by omega,?_⟩⟩
  ·rw [IntWalk.i64_in _ (by omega)];omega
  ·rw [IntWalk.i64_in _ (by omega),kN_eq hl,hb];rfl
  ·rw [kN_eq hl,hb];show _ = !xN _ _ (dp+0);rw [Int.add_zero]
 ·trivial
theorem xdr_step (m:Nat) (ih:ConOK Tryz.prog 161 (con [lX,lI] (xdrSu m))):ConOK Tryz.prog 161 (con [lX,lI] (xdrSu (m+1))):=by
 refine fn_ob tt_ok mixed Tryz.func161 rfl (fun _ _=>by kernel_rfl) (A:=fun ds=>⟨fun _=>Cons.of [(173,isbinC),(174,(kdrC m))],fun _=>none,fun _=>none⟩) (fun _ _=>(cons_cons isbin_ok (cons_cons (kdr_ok ih) cons_nil))) (by kernel_rfl) ?_
 intro ds fr;unfold xdrSu;split
 ·rename_i k n s d dp;refine kmp (q:=SizeOf.sizeOf d<m+(1:Nat)->aX k n s d=true->(0:Int)<=dp/\dp<=(30:Int)->(decide (dp>(24:Int))=true->true = !xN k d dp)/\(decide (dp>(24:Int))=false->((k==(3:Int))=true->SizeOf.sizeOf d<m+(1:Nat)/\((0:Int)<=(0:Int)/\(0:Int)<(d.len:Int))/\aE d (Int.toNat (0:Int))=true/\((0:Int)<=IntKind.i64.wrap (dp+(1:Int))/\IntKind.i64.wrap (dp+(1:Int))<=(29:Int))/\(!kN d (Int.toNat (0:Int)) (IntKind.i64.wrap (dp+(1:Int))+inB (brB k (0:Int) (d.el (Int.toNat (0:Int)) (0:Nat)).toI))) = !xN k d dp)/\((k==(3:Int))=false->(biB k=true->SizeOf.sizeOf d<m+(1:Nat)/\((0:Int)<=(0:Int)/\(0:Int)<(d.len:Int))/\aE d (Int.toNat (0:Int))=true/\((0:Int)<=dp/\dp<=(29:Int))/\((!kN d (Int.toNat (0:Int)) (dp+inB (brB k (0:Int) (d.el (Int.toNat (0:Int)) (0:Nat)).toI)))=false/\True->SizeOf.sizeOf d<m+(1:Nat))/\((!kN d (Int.toNat (0:Int)) (dp+inB (brB k (0:Int) (d.el (Int.toNat (0:Int)) (0:Nat)).toI)))=false/\True->(0:Int)<=(1:Int)/\(1:Int)<(d.len:Int))/\((!kN d (Int.toNat (0:Int)) (dp+inB (brB k (0:Int) (d.el (Int.toNat (0:Int)) (0:Nat)).toI)))=false/\True->aE d (Int.toNat (1:Int))=true)/\((!kN d (Int.toNat (0:Int)) (dp+inB (brB k (0:Int) (d.el (Int.toNat (0:Int)) (0:Nat)).toI)))=false/\True->(0:Int)<=dp/\dp<=(29:Int))/\(!kN d (Int.toNat (0:Int)) (dp+inB (brB k (0:Int) (d.el (Int.toNat (0:Int)) (0:Nat)).toI)) || !kN d (Int.toNat (1:Int)) (dp+inB (brB k (1:Int) (d.el (Int.toNat (1:Int)) (0:Nat)).toI))) = !xN k d dp)/\(biB k=false->false = !xN k d dp)))) (by kernel_rfl) ?_
  intro hm ha hd;have hk:=aX_kids ha;refine ⟨fun h=>?_,fun h=>?_⟩
  ·have h:=of_decide_eq_true h;unfold xN xNb;rw [if_pos h];rfl
  ·have h:=of_decide_eq_false h;have hw:IntKind.i64.wrap (dp+1)=dp+1:=IntWalk.i64_in _ (by omega);rw [hw];refine ⟨fun h3=>?_,fun h3=>⟨fun hb=>?_,fun hb=>?_⟩⟩
   ·obtain rfl:=eq_of_beq h3;have k1:=hk.1 rfl;refine ⟨hm,by omega,k1.2,by omega,?_⟩;unfold xN xNb;rw [if_neg h,if_pos rfl];rfl
   ·have k2:=hk.2 hb;refine ⟨hm,by omega,k2.2.1,by omega,fun _=>hm,fun _=>by omega,fun _=>k2.2.2,fun _=>by omega,?_⟩;unfold xN xNb;rw [if_neg h,if_neg (ne_of_beq_false h3),if_pos hb,Bool.not_and];rfl
   ·unfold xN xNb;rw [if_neg h,if_neg (ne_of_beq_false h3),if_neg (by rw [hb];decide)];rfl
 ·trivial
theorem xdr_ok:ConOK Tryz.prog 161 xdrC:=
 con_rec xdrM (fun _ _=>by kernel_rfl) fun m ih=>by
  rw [xdr_under] at ih ⊢;exact xdr_step m ih
end Go.Proofs.YtplejbgafjpomaaGreatDoor.Sx.Z
namespace Go.Proofs.YtplejbgafjpomaaGreatDoor.Sx.Z
open Go.RowKit
def cN (lk:Int) (ld:D) (rk:Int) (rd:D):Bool:=xN lk ld 0&&xN rk rd 0
def stNF (k:Int) (e c b el a:Bool):Bool:=if k=1 ∨ k=4 then e else if k=6 then c else if k=2 then c&&b&&el else if k=3 then c&&b else if k=5 then a else true
def bN (d:D) (b:Int):Bool:=(List.finRange d.len).all fun (i:Fin d.len)=>stNF (d.el i 0).toI (xN (d.el i 3).toI (d.el i 6) 0) (cN (d.el i 8).toI (d.el i 11) (d.el i 12).toI (d.el i 15)) (!decide (b>=24)&&bN (d.el i 16) (b+1)) (bN (d.el i 17) (b+1))
    ((List.finRange (d.el i 18).len).all fun (j:Fin (d.el i 18).len)=>!decide (b>=24)&&bN ((d.el i 18).el j 2) (b+1))
 termination_by SizeOf.sizeOf d
 decreasing_by
  ·exact lel_lt i.isLt
  ·exact lel_lt i.isLt
  ·exact Nat.lt_trans (lel_lt j.isLt) (lel_lt i.isLt)
def blN (d:D) (b:Int):Bool:=!decide (b>=24)&&bN d (b+1)
def amNE (am:D) (b:Int) (j:Nat):Bool:=blN (am.el j 2) b
def amN (am:D) (b:Int):Bool:=allB am.len (amNE am b)
def stN (k:Int) (_nm _tg:ByteArray) (ek _en:Int) (_es:ByteArray) (ed:D) (_op lk _ln:Int) (_ls:ByteArray) (ld:D) (rk _rn:Int) (_rs:ByteArray) (rd bd eb am:D) (b:Int):Bool:=
 stNF k (xN ek ed 0) (cN lk ld rk rd) (blN bd b) (bN eb (b+1)) (amN am b)
def stNE (d:D) (b:Int) (i:Nat):Bool:=stN (d.el i 0).toI (d.el i 1).toS (d.el i 2).toS (d.el i 3).toI (d.el i 4).toI (d.el i 5).toS (d.el i 6) (d.el i 7).toI (d.el i 8).toI (d.el i 9).toI (d.el i 10).toS (d.el i 11) (d.el i 12).toI (d.el i 13).toI (d.el i 14).toS (d.el i 15) (d.el i 16) (d.el i 17) (d.el i 18) b
theorem bN_eq (d:D) (b:Int):bN d b=allB d.len (stNE d b):=by
 rw [bN,<- allF_eq]
 congr 1
 funext i
 unfold stNE stN amN;rw [<- allF_eq];rfl
theorem aC_two {op lk ln rk rn:Int} {ls rs:ByteArray} {ld rd:D} (h:aC op lk ln ls ld rk rn rs rd=true):aX lk ln ls ld=true/\aX rk rn rs rd=true:=by
 unfold aC at h;simp only [Bool.and_eq_true] at h;exact ⟨h.1.2,h.2⟩
noncomputable def cdrS:FSpec:=fun ds _=>match ds with
 | [.i op,.i lk,.i ln,.s ls,.d ld,.i rk,.i rn,.s rs,.d rd]=>some {val:=.one (.sc (.bool (.sym (!cN lk ld rk rd)))),vc:=[aC op lk ln ls ld rk rn rs rd=true]}
 |_=>none
noncomputable def cdrC:Con:=con [lCo] cdrS
theorem cdr_ok:ConOK Tryz.prog 162 cdrC:=by
 refine fn_ob tt_ok mixed Tryz.func162 rfl (fun _ _=>by kernel_rfl) (A:=fun ds=>⟨fun _=>Cons.of [(161,xdrC)],fun _=>none,fun _=>none⟩) (fun _ _=>(cons_cons xdr_ok cons_nil)) (by kernel_rfl) ?_
 intro ds fr;unfold cdrS;split
 ·rename_i op lk ln ls ld rk rn rs rd;refine kmp (q:=aC op lk ln ls ld rk rn rs rd=true->aX lk ln ls ld=true/\((0:Int)<=(0:Int)/\(0:Int)<=(30:Int))/\((!xN lk ld (0:Int))=false/\True->aX rk rn rs rd=true)/\((!xN lk ld (0:Int))=false/\True->(0:Int)<=(0:Int)/\(0:Int)<=(30:Int))/\(!xN lk ld (0:Int) || !xN rk rd (0:Int)) = !cN lk ld rk rd) (by kernel_rfl) ?_
  intro h;have h2:=aC_two h;refine ⟨h2.1,by omega,fun _=>h2.2,fun _=>by omega,?_⟩;unfold cN;rw [Bool.not_and]
 ·trivial
noncomputable def bddS:FSpec:=fun ds _=>match ds with
 | [.d d,.i b]=>some {val:=.one (.sc (.bool (.sym (!bN d b)))),vc:=[sOK d,bA d=true,0<=b/\b<=24]}
 |_=>none
noncomputable def bddC:Con:=con [lBo,lI] bddS
noncomputable def bddM:List Dat->Nat:=fun ds=>match ds with
 | [.d d,.i _b]=>SizeOf.sizeOf d
 |_=>0
noncomputable def bddSu (m:Nat):FSpec:=fun ds _=>match ds with
 | [.d d,.i b]=>some {val:=.one (.sc (.bool (.sym (!bN d b)))),vc:=[SizeOf.sizeOf d<m,sOK d,bA d=true,0<=b/\b<=24]}
 |_=>none
theorem bdd_under (m:Nat):bddS.under bddM m=bddSu m:=by
 funext ds fr
 unfold FSpec.under bddS bddM bddSu;split
 ·rename_i e h
  split at h
  ·obtain rfl:=Option.some.inj h;rfl
  ·cases h
 ·rename_i h
  split at h
  ·cases h
  ·rfl
noncomputable def bkdS (m:Nat):FSpec:=fun ds _=>match ds with
 | [.d d,.i b]=>some {val:=.one (.sc (.bool (.sym (!blN d b)))),vc:=[SizeOf.sizeOf d<m,sOK d,bA d=true,0<=b/\b<=24]}
 |_=>none
noncomputable def bkdC (m:Nat):Con:=con [lBo,lI] (bkdS m)
theorem bkd_ok {m:Nat} (ih:ConOK Tryz.prog 96 (con [lBo,lI] (bddSu m))):ConOK Tryz.prog 163 (bkdC m):=by
 refine fn_ob tt_ok mixed Tryz.func163 rfl (fun _ _=>by kernel_rfl) (A:=fun ds=>⟨fun _=>Cons.of [(96,con [lBo,lI] (bddSu m))],fun _=>none,fun _=>none⟩) (fun _ _=>(cons_cons ih cons_nil)) (by kernel_rfl) ?_
 intro ds fr;unfold bkdS;split
 ·rename_i d b;refine kmp (q:=SizeOf.sizeOf d<m->sOK d->bA d=true->(0:Int)<=b/\b<=(24:Int)->(decide (b>=(24:Int))=false/\True->SizeOf.sizeOf d<m)/\(decide (b>=(24:Int))=false/\True->sOK d)/\(decide (b>=(24:Int))=false/\True->bA d=true)/\(decide (b>=(24:Int))=false/\True->(0:Int)<=IntKind.i64.wrap (b+(1:Int))/\IntKind.i64.wrap (b+(1:Int))<=(24:Int))/\(decide (b>=(24:Int)) || !bN d (IntKind.i64.wrap (b+(1:Int)))) = !blN d b) (by kernel_rfl) ?_
  intro hm hs ha hb;refine ⟨fun _=>hm,fun _=>hs,fun _=>ha,fun h=>?_,?_⟩
  ·have h:=of_decide_eq_false h.1;rw [IntWalk.i64_in _ (by omega)];omega
  ·rw [IntWalk.i64_in _ (by omega)];unfold blN;rw [Bool.not_and,Bool.not_not]
 ·trivial
noncomputable def sddS (m:Nat):FSpec:=fun ds _=>match ds with
 | [.i k,.s nm,.s tg,.i ek,.i en,.s es,.d ed,.i op,.i lk,.i ln,.s ls,.d ld,.i rk,.i rn,.s rs,.d rd,.d bd,.d eb,.d am,.i b]=>some {val:=.one (.sc (.bool (.sym (!stN k nm tg ek en es ed op lk ln ls ld rk rn rs rd bd eb am b)))),vc:=[SizeOf.sizeOf bd<m,SizeOf.sizeOf eb<m,SizeOf.sizeOf am<m,sOK bd,sOK eb,amOK am,stA k nm tg ek en es ed op lk ln ls ld rk rn rs rd bd eb am=true,0<=b/\b<=24]}
 |_=>none
noncomputable def sddC (m:Nat):Con:=con [lSt,lI] (sddS m)
theorem sdd_ok {m:Nat} (ih:ConOK Tryz.prog 96 (con [lBo,lI] (bddSu m))):ConOK Tryz.prog 134 (sddC m):=by
 refine fn_ob tt_ok mixed Tryz.func134 rfl (fun _ _=>by kernel_rfl) (A:=fun ds=>⟨fun _=>Cons.of [(161,xdrC),(162,cdrC),(163,(bkdC m)),(96,con [lBo,lI] (bddSu m))],fun k=>match k,ds with | 13,[.i k,.s nm,.s tg,.i ek,.i en,.s es,.d ed,.i op,.i lk,.i ln,.s ls,.d ld,.i rk,.i rn,.s rs,.d rd,.d bd,.d eb,.d am,.i b]=>some {ι:=Nat,pre:=fun _ i=>i<=am.len/\∀ j,j<i->amNE am b j=true,μ:=fun i=>am.len-i,st:=fun s i=>famR s [(54,.one (.sc (.int .i64 (.sym ((i:Int))))))] [1,52,53] [] []} |_,_=>none,fun _=>none⟩) (fun _ _=>(cons_cons xdr_ok (cons_cons cdr_ok (cons_cons (bkd_ok ih) (cons_cons ih cons_nil))))) (by kernel_rfl) ?_
 intro ds fr;unfold sddS;split
 ·rename_i k nm tg ek en es ed op lk ln ls ld rk rn rs rd bd eb am b
  refine kmp (q:=SizeOf.sizeOf bd<m->SizeOf.sizeOf eb<m->SizeOf.sizeOf am<m->sOK bd->sOK eb->amOK am->stA k nm tg ek en es ed op lk ln ls ld rk rn rs rd bd eb am=true->(0:Int)<=b/\b<=(24:Int)->((k==(1:Int))=true->((k==(1:Int))=true->aX ek en es ed=true/\((0:Int)<=(0:Int)/\(0:Int)<=(30:Int))/\(!xN ek ed (0:Int)) = !stN k nm tg ek en es ed op lk ln ls ld rk rn rs rd bd eb am b)/\((k==(1:Int))=false->((k==(6:Int))=true->aC op lk ln ls ld rk rn rs rd=true/\(!cN lk ld rk rd) = !stN k nm tg ek en es ed op lk ln ls ld rk rn rs rd bd eb am b)/\((k==(6:Int))=false->((k==(2:Int))=true->aC op lk ln ls ld rk rn rs rd=true/\((!cN lk ld rk rd)=false/\True->SizeOf.sizeOf bd<m)/\((!cN lk ld rk rd)=false/\True->sOK bd)/\((!cN lk ld rk rd)=false/\True->bA bd=true)/\((!cN lk ld rk rd)=false/\True->(0:Int)<=b/\b<=(24:Int))/\((!cN lk ld rk rd || !blN bd b)=false/\True->SizeOf.sizeOf eb<m)/\((!cN lk ld rk rd || !blN bd b)=false/\True->sOK eb)/\((!cN lk ld rk rd || !blN bd b)=false/\True->bA eb=true)/\((!cN lk ld rk rd || !blN bd b)=false/\True->(0:Int)<=IntKind.i64.wrap (b+(1:Int))/\IntKind.i64.wrap (b+(1:Int))<=(24:Int))/\(!cN lk ld rk rd || !blN bd b || !bN eb (IntKind.i64.wrap (b+(1:Int)))) = !stN k nm tg ek en es ed op lk ln ls ld rk rn rs rd bd eb am b)/\((k==(2:Int))=false->((k==(3:Int))=true->aC op lk ln ls ld rk rn rs rd=true/\((!cN lk ld rk rd)=false/\True->SizeOf.sizeOf bd<m)/\((!cN lk ld rk rd)=false/\True->sOK bd)/\((!cN lk ld rk rd)=false/\True->bA bd=true)/\((!cN lk ld rk rd)=false/\True->(0:Int)<=b/\b<=(24:Int))/\(!cN lk ld rk rd || !blN bd b) = !stN k nm tg ek en es ed op lk ln ls ld rk rn rs rd bd eb am b)/\((k==(3:Int))=false->((k==(5:Int))=true->(∃ (i:Nat),(i<=am.len/\∀ (j:Nat),j<i->amNE am b j=true)/\(0:Int)=(i:Int)/\b=b/\am.rows=am.rows/\(am.len:Int)=(am.len:Int))/\∀ (i:Nat),(i<=am.len/\∀ (j:Nat),j<i->amNE am b j=true)->(decide ((i:Int)<(am.len:Int))=true->((0:Int)<=(i:Int)/\(i:Int)<(am.len:Int))/\SizeOf.sizeOf (am.el (i:Int).toNat 2)<m/\sOK (am.el (i:Int).toNat 2)/\bA (am.el (i:Int).toNat 2)=true/\((0:Int)<=b/\b<=(24:Int))/\((!blN (am.el (i:Int).toNat 2) b)=true->true = !stN k nm tg ek en es ed op lk ln ls ld rk rn rs rd bd eb am b)/\((!blN (am.el (i:Int).toNat 2) b)=false->∃ (j:Nat),(j<=am.len/\∀ (j_1:Nat),j_1<j->amNE am b j_1=true)/\am.len-j<am.len-i/\IntKind.i64.wrap ((i:Int)+(1:Int))=(j:Int)/\b=b/\am.rows=am.rows/\(am.len:Int)=(am.len:Int)))/\(decide ((i:Int)<(am.len:Int))=false->false = !stN k nm tg ek en es ed op lk ln ls ld rk rn rs rd bd eb am b))/\((k==(5:Int))=false->false = !stN k nm tg ek en es ed op lk ln ls ld rk rn rs rd bd eb am b))))))/\((k==(1:Int))=false->((k==(4:Int))=true->aX ek en es ed=true/\((0:Int)<=(0:Int)/\(0:Int)<=(30:Int))/\(!xN ek ed (0:Int)) = !stN k nm tg ek en es ed op lk ln ls ld rk rn rs rd bd eb am b)/\((k==(4:Int))=false->((k==(6:Int))=true->aC op lk ln ls ld rk rn rs rd=true/\(!cN lk ld rk rd) = !stN k nm tg ek en es ed op lk ln ls ld rk rn rs rd bd eb am b)/\((k==(6:Int))=false->((k==(2:Int))=true->aC op lk ln ls ld rk rn rs rd=true/\((!cN lk ld rk rd)=false/\True->SizeOf.sizeOf bd<m)/\((!cN lk ld rk rd)=false/\True->sOK bd)/\((!cN lk ld rk rd)=false/\True->bA bd=true)/\((!cN lk ld rk rd)=false/\True->(0:Int)<=b/\b<=(24:Int))/\((!cN lk ld rk rd || !blN bd b)=false/\True->SizeOf.sizeOf eb<m)/\((!cN lk ld rk rd || !blN bd b)=false/\True->sOK eb)/\((!cN lk ld rk rd || !blN bd b)=false/\True->bA eb=true)/\((!cN lk ld rk rd || !blN bd b)=false/\True->(0:Int)<=IntKind.i64.wrap (b+(1:Int))/\IntKind.i64.wrap (b+(1:Int))<=(24:Int))/\(!cN lk ld rk rd || !blN bd b || !bN eb (IntKind.i64.wrap (b+(1:Int)))) = !stN k nm tg ek en es ed op lk ln ls ld rk rn rs rd bd eb am b)/\((k==(2:Int))=false->((k==(3:Int))=true->aC op lk ln ls ld rk rn rs rd=true/\((!cN lk ld rk rd)=false/\True->SizeOf.sizeOf bd<m)/\((!cN lk ld rk rd)=false/\True->sOK bd)/\((!cN lk ld rk rd)=false/\True->bA bd=true)/\((!cN lk ld rk rd)=false/\True->(0:Int)<=b/\b<=(24:Int))/\(!cN lk ld rk rd || !blN bd b) = !stN k nm tg ek en es ed op lk ln ls ld rk rn rs rd bd eb am b)/\((k==(3:Int))=false->((k==(5:Int))=true->(∃ (i:Nat),(i<=am.len/\∀ (j:Nat),j<i->amNE am b j=true)/\(0:Int)=(i:Int)/\b=b/\am.rows=am.rows/\(am.len:Int)=(am.len:Int))/\∀ (i:Nat),(i<=am.len/\∀ (j:Nat),j<i->amNE am b j=true)->(decide ((i:Int)<(am.len:Int))=true->((0:Int)<=(i:Int)/\(i:Int)<(am.len:Int))/\SizeOf.sizeOf (am.el (i:Int).toNat 2)<m/\sOK (am.el (i:Int).toNat 2)/\bA (am.el (i:Int).toNat 2)=true/\((0:Int)<=b/\b<=(24:Int))/\((!blN (am.el (i:Int).toNat 2) b)=true->true = !stN k nm tg ek en es ed op lk ln ls ld rk rn rs rd bd eb am b)/\((!blN (am.el (i:Int).toNat 2) b)=false->∃ (j:Nat),(j<=am.len/\∀ (j_1:Nat),j_1<j->amNE am b j_1=true)/\am.len-j<am.len-i/\IntKind.i64.wrap ((i:Int)+(1:Int))=(j:Int)/\b=b/\am.rows=am.rows/\(am.len:Int)=(am.len:Int)))/\(decide ((i:Int)<(am.len:Int))=false->false = !stN k nm tg ek en es ed op lk ln ls ld rk rn rs rd bd eb am b))/\((k==(5:Int))=false->false = !stN k nm tg ek en es ed op lk ln ls ld rk rn rs rd bd eb am b))))))) (by kernel_rfl) ?_
  intro h1 h2 h3 h4 h5 h6 h7 hb
  by_cases n1:k=1
  ·subst n1;have h7:(nmB nm&&aX ek en es ed)=true:=h7;rw [Bool.and_eq_true] at h7;exact ⟨fun _=>⟨fun _=>⟨h7.2,by omega,rfl⟩,fun h=>(by cases h)⟩,fun h=>(by cases h)⟩
  by_cases n4:k=4
  ·subst n4;have h7:(nmB nm&&nmB tg&&aX ek en es ed)=true:=h7;rw [Bool.and_eq_true] at h7;exact ⟨fun h=>(by cases h),fun _=>⟨fun _=>⟨h7.2,by omega,rfl⟩,fun h=>(by cases h)⟩⟩
  refine ⟨fun h=>absurd (eq_of_beq h) n1,fun _=>⟨fun h=>absurd (eq_of_beq h) n4,fun _=>⟨fun k6=>?_,fun k6=>⟨fun k2=>?_,fun k2=>⟨fun k3=>?_,fun k3=>⟨fun k5=>?_,fun k5=>?_⟩⟩⟩⟩⟩⟩
  ·obtain rfl:=eq_of_beq k6;exact ⟨h7,rfl⟩
  ·obtain rfl:=eq_of_beq k2;have h7:(aC op lk ln ls ld rk rn rs rd&&bA bd&&bA eb)=true:=h7;simp only [Bool.and_eq_true] at h7;have hbn:(!cN lk ld rk rd || !blN bd b)=false->b<24:=by
    intro h;rw [Bool.or_eq_false_iff,Bool.not_eq_false',Bool.not_eq_false'] at h;have h:=h.2;unfold blN at h;simp only [Bool.and_eq_true,Bool.not_eq_true',decide_eq_false_iff_not] at h;omega
   refine ⟨h7.1.1,fun _=>h1,fun _=>h4,fun _=>h7.1.2,fun _=>hb,fun _=>h2,fun _=>h5,fun _=>h7.2,fun h=>?_,?_⟩
   ·have:=hbn h.1;rw [IntWalk.i64_in _ (by omega)];omega
   ·rw [IntWalk.i64_in _ (by omega),<- Bool.not_and,<- Bool.not_and];rfl
  ·obtain rfl:=eq_of_beq k3;have h7:(aC op lk ln ls ld rk rn rs rd&&bA bd)=true:=h7;simp only [Bool.and_eq_true] at h7;refine ⟨h7.1,fun _=>h1,fun _=>h4,fun _=>h7.2,fun _=>hb,?_⟩;rw [<- Bool.not_and];rfl
  ·have hb9:=hb;obtain rfl:=eq_of_beq k5;have h7:(nmB nm&&decide ((am.len:Int)>0)&&amsA am)=true:=h7;simp only [Bool.and_eq_true] at h7;have ham:=allB_iff.1 h7.2;have est:stN 5 nm tg ek en es ed op lk ln ls ld rk rn rs rd bd eb am b=amN am b:=rfl;rw [est];unfold amN;have e0:∀ (i:Nat),((i:Int)).toNat=i:=fun i=>Int.toNat_natCast i
   simp only [Nat.zero_add,Nat.reduceAdd,e0];refine ⟨⟨0,⟨Nat.zero_le _,fun j hj=>absurd hj (Nat.not_lt_zero j)⟩,by (repeat' apply And.intro)<;>first |trivial |rfl |(intro _ _;rfl) |(intro _ _;trivial)⟩,fun i hp=>⟨fun hl=>?_,fun hl=>?_⟩⟩
   ·have hl:=of_decide_eq_true hl;have hb:=h6.1;have hi:i<am.len:=by omega
    have hw:IntKind.i64.wrap ((i:Int)+1)=((i+1:Nat):Int):=by rw [IntWalk.i64_in _ (by omega)];omega
    have z1:=lel_lt (j:=2) hi;have s1:=h6.2 i hi;have r1:=ham i hi;unfold arE at r1;simp only [Bool.and_eq_true] at r1;refine ⟨⟨by omega,by omega⟩,by omega,s1,r1.2,hb9,fun hq=>?_,fun hq=>?_⟩
    ·have hq:amNE am b i=false:=by rw [Bool.not_eq_true'] at hq;exact hq
     rw [allB_no hi hq];rfl
    ·have hq:amNE am b i=true:=by rw [Bool.not_eq_false'] at hq;exact hq
     refine ⟨i+1,⟨by omega,fun j hj=>?_⟩,by omega,hw,by (repeat' apply And.intro)<;>first |trivial |rfl |(intro _ _;rfl) |(intro _ _;trivial)⟩
     rcases Nat.lt_or_ge j i with h |h
     ·exact hp.2 j h
     ·obtain rfl:j=i:=by omega
      exact hq
   ·have hl:=of_decide_eq_false hl;have hall:allB am.len (amNE am b)=true:=allB_yes fun j hj=>hp.2 j (by omega)
    rw [hall];rfl
  ·unfold stN stNF;have z6:=ne_of_beq_false k6;have z2:=ne_of_beq_false k2;have z3:=ne_of_beq_false k3;have z5:=ne_of_beq_false k5;rw [if_neg (by omega),if_neg z6,if_neg z2,if_neg z3,if_neg z5];rfl
 ·trivial
theorem bdd_step (m:Nat) (ih:ConOK Tryz.prog 96 (con [lBo,lI] (bddSu m))):ConOK Tryz.prog 96 (con [lBo,lI] (bddSu (m+1))):=by
 refine fn_ob tt_ok mixed Tryz.func96 rfl (fun _ _=>by kernel_rfl) (A:=fun ds=>⟨fun _=>Cons.of [(134,(sddC m))],fun k=>match k,ds with | 2,[.d d,.i b]=>some {ι:=Nat,pre:=fun _ i=>i<=d.len/\∀ j,j<i->stNE d b j=true,μ:=fun i=>d.len-i,st:=fun s i=>famR s [(9,.one (.sc (.int .i64 (.sym ((i:Int))))))] [1,7,8] [] []} |_,_=>none,fun _=>none⟩) (fun _ _=>(cons_cons (sdd_ok ih) cons_nil)) (by kernel_rfl) ?_
 intro ds fr;unfold bddSu;split
 ·rename_i d b;refine kmp (q:=withv (fun (i:Nat)=>d.el (i:Int).toNat 18) fun E26=>withv (fun (i:Nat)=>d.el (i:Int).toNat 17) fun E27=>withv (fun (i:Nat)=>d.el (i:Int).toNat 16) fun E28=>withv (fun (i:Nat)=>d.el (i:Int).toNat 15) fun E29=>withv (fun (i:Nat)=>d.el (i:Int).toNat 14) fun E30=>withv (fun (i:Nat)=>d.el (i:Int).toNat 13) fun E31=>withv (fun (i:Nat)=>d.el (i:Int).toNat 12) fun E32=>withv (fun (i:Nat)=>d.el (i:Int).toNat 11) fun E33=>withv (fun (i:Nat)=>d.el (i:Int).toNat 10) fun E34=>withv (fun (i:Nat)=>d.el (i:Int).toNat 9) fun E35=>withv (fun (i:Nat)=>d.el (i:Int).toNat 8) fun E36=>withv (fun (i:Nat)=>d.el (i:Int).toNat 7) fun E37=>withv (fun (i:Nat)=>d.el (i:Int).toNat 6) fun E38=>withv (fun (i:Nat)=>d.el (i:Int).toNat 5) fun E39=>withv (fun (i:Nat)=>d.el (i:Int).toNat 4) fun E40=>withv (fun (i:Nat)=>d.el (i:Int).toNat 3) fun E41=>withv (fun (i:Nat)=>d.el (i:Int).toNat 2) fun E42=>SizeOf.sizeOf d<m+(1:Nat)->sOK d->bA d=true->(0:Int)<=b/\b<=(24:Int)->(∃ (i:Nat),(i<=d.len/\∀ (j:Nat),j<i->stNE d b j=true)/\(0:Int)=(i:Int)/\b=b/\d.rows=d.rows/\(d.len:Int)=(d.len:Int))/\∀ (i:Nat),(i<=d.len/\∀ (j:Nat),j<i->stNE d b j=true)->(decide ((i:Int)<(d.len:Int))=true->((0:Int)<=(i:Int)/\(i:Int)<(d.len:Int))/\SizeOf.sizeOf (E28 i)<m/\SizeOf.sizeOf (E27 i)<m/\SizeOf.sizeOf (E26 i)<m/\sOK (E28 i)/\sOK (E27 i)/\amOK (E26 i)/\stA (d.el (i:Int).toNat 0).toI (d.el (i:Int).toNat 1).toS (E42 i).toS (E41 i).toI (E40 i).toI (E39 i).toS (E38 i) (E37 i).toI (E36 i).toI (E35 i).toI (E34 i).toS (E33 i) (E32 i).toI (E31 i).toI (E30 i).toS (E29 i) (E28 i) (E27 i) (E26 i)=true/\((0:Int)<=b/\b<=(24:Int))/\((!stN (d.el (i:Int).toNat 0).toI (d.el (i:Int).toNat 1).toS (E42 i).toS (E41 i).toI (E40 i).toI (E39 i).toS (E38 i) (E37 i).toI (E36 i).toI (E35 i).toI (E34 i).toS (E33 i) (E32 i).toI (E31 i).toI (E30 i).toS (E29 i) (E28 i) (E27 i) (E26 i) b)=true->true = !bN d b)/\((!stN (d.el (i:Int).toNat 0).toI (d.el (i:Int).toNat 1).toS (E42 i).toS (E41 i).toI (E40 i).toI (E39 i).toS (E38 i) (E37 i).toI (E36 i).toI (E35 i).toI (E34 i).toS (E33 i) (E32 i).toI (E31 i).toI (E30 i).toS (E29 i) (E28 i) (E27 i) (E26 i) b)=false->∃ (j:Nat),(j<=d.len/\∀ (j_1:Nat),j_1<j->stNE d b j_1=true)/\d.len-j<d.len-i/\IntKind.i64.wrap ((i:Int)+(1:Int))=(j:Int)/\b=b/\d.rows=d.rows/\(d.len:Int)=(d.len:Int)))/\(decide ((i:Int)<(d.len:Int))=false->false = !bN d b)) (by kernel_rfl) ?_
  dsimp +instances only [withv]
  intro hm hs ha hb0;have ha2:=ha;rw [bA_eq] at ha2;have ha2:=allB_iff.1 ha2;have e0:∀ (i:Nat),((i:Int)).toNat=i:=fun i=>Int.toNat_natCast i
  simp only [Nat.zero_add,Nat.reduceAdd,e0];rw [bN_eq];refine ⟨⟨0,⟨Nat.zero_le _,fun j hj=>absurd hj (Nat.not_lt_zero j)⟩,by (repeat' apply And.intro)<;>first |trivial |rfl |(intro _ _;rfl) |(intro _ _;trivial)⟩,fun i hp=>⟨fun hl=>?_,fun hl=>?_⟩⟩
  ·have hl:=of_decide_eq_true hl;have hb:=((sOK_iff d).1 hs).1;have hi:i<d.len:=by omega
   have hw:IntKind.i64.wrap ((i:Int)+1)=((i+1:Nat):Int):=by rw [IntWalk.i64_in _ (by omega)];omega
   have z1:=lel_lt (j:=16) hi;have z2:=lel_lt (j:=17) hi;have z3:=lel_lt (j:=18) hi;obtain ⟨s1,s2,s3⟩:=((sOK_iff d).1 hs).2 i hi;refine ⟨⟨by omega,by omega⟩,by omega,by omega,by omega,s1,s2,s3,ha2 i hi,hb0,fun hq=>?_,fun hq=>?_⟩
   ·have hq:stNE d b i=false:=by rw [Bool.not_eq_true'] at hq;exact hq
    rw [allB_no hi hq];rfl
   ·have hq:stNE d b i=true:=by rw [Bool.not_eq_false'] at hq;exact hq
    refine ⟨i+1,⟨by omega,fun j hj=>?_⟩,by omega,hw,by (repeat' apply And.intro)<;>first |trivial |rfl |(intro _ _;rfl) |(intro _ _;trivial)⟩
    rcases Nat.lt_or_ge j i with h |h
    ·exact hp.2 j h
    ·obtain rfl:j=i:=by omega
     exact hq
  ·have hl:=of_decide_eq_false hl;have hall:allB d.len (stNE d b)=true:=allB_yes fun j hj=>hp.2 j (by omega)
   rw [hall];rfl
 ·trivial
theorem bdd_ok:ConOK Tryz.prog 96 bddC:=
 con_rec bddM (fun _ _=>by kernel_rfl) fun m ih=>by
  rw [bdd_under] at ih ⊢;exact bdd_step m ih
end Go.Proofs.YtplejbgafjpomaaGreatDoor.Sx.Z
namespace Go.Proofs
open Go.Shelf
open Go.RowKit Go.Sort Go.Lib in
def Tryz.laysM171_ren:Go.Shelf.Ren:=⟨fun | 171=>137 | 243=>164 | 246=>175 | 283=>187 | 284=>188 | 285=>189 | 286=>190 | 129=>199 | 317=>198 | 318=>200 | 319=>201 | 320=>202 | 337=>203 | 338=>204 |n=>n,fun | 3=>3 | 9=>9 | 2=>2 | 4=>4 | 171=>289 | 0=>0 | 53=>35 | 37=>91 | 5=>5 | 173=>292 | 212=>297 | 51=>282 | 20=>20 | 213=>298 | 46=>271 | 232=>301 | 233=>302 |n=>n,fun | 17=>0 | 18=>1 | 19=>2 |n=>n⟩
theorem Tryz.laysM171:Go.Proofs.LaysM.n171 Tryz.prog Tryz.laysM171_ren:={
 mixed:=by kernel_rfl
 f129:=Tryz.func199.trans (congrArg some (by kernel_rfl))
 f171:=Tryz.func137.trans (congrArg some (by kernel_rfl))
 f243:=Tryz.func164.trans (congrArg some (by kernel_rfl))
 f246:=Tryz.func175.trans (congrArg some (by kernel_rfl))
 f283:=Tryz.func187.trans (congrArg some (by kernel_rfl))
 f284:=Tryz.func188.trans (congrArg some (by kernel_rfl))
 f285:=Tryz.func189.trans (congrArg some (by kernel_rfl))
 f286:=Tryz.func190.trans (congrArg some (by kernel_rfl))
 f317:=Tryz.func198.trans (congrArg some (by kernel_rfl))
 f318:=Tryz.func200.trans (congrArg some (by kernel_rfl))
 f319:=Tryz.func201.trans (congrArg some (by kernel_rfl))
 f320:=Tryz.func202.trans (congrArg some (by kernel_rfl))
 f337:=Tryz.func203.trans (congrArg some (by kernel_rfl))
 f338:=Tryz.func204.trans (congrArg some (by kernel_rfl))
 t0:=Tryz.underlying0
 a0:=Tryz.isAgg0
 z0:=Tryz.sizeOf0
 v0:=Tryz.zeroValue0
 t2:=Tryz.underlying2
 a2:=Tryz.isAgg2
 z2:=Tryz.sizeOf2
 v2:=Tryz.zeroValue2
 t3:=Tryz.underlying3
 a3:=Tryz.isAgg3
 z3:=Tryz.sizeOf3
 v3:=Tryz.zeroValue3
 t4:=Tryz.underlying4
 a4:=Tryz.isAgg4
 z4:=Tryz.sizeOf4
 v4:=Tryz.zeroValue4
 t5:=Tryz.underlying5
 a5:=Tryz.isAgg5
 z5:=Tryz.sizeOf5
 v5:=Tryz.zeroValue5
 t9:=Tryz.underlying9
 a9:=Tryz.isAgg9
 z9:=Tryz.sizeOf9
 v9:=Tryz.zeroValue9
 t20:=Tryz.underlying20
 a20:=Tryz.isAgg20
 z20:=Tryz.sizeOf20
 v20:=Tryz.zeroValue20
 t37:=Tryz.underlying91
 a37:=Tryz.isAgg91
 z37:=Tryz.sizeOf91
 v37:=Tryz.zeroValue91
 t46:=Tryz.underlying271
 a46:=Tryz.isAgg271
 z46:=Tryz.sizeOf271
 v46:=Tryz.zeroValue271
 t51:=Tryz.underlying282
 a51:=Tryz.isAgg282
 z51:=Tryz.sizeOf282
 v51:=Tryz.zeroValue282
 t53:=Tryz.underlying35
 a53:=Tryz.isAgg35
 z53:=Tryz.sizeOf35
 v53:=Tryz.zeroValue35
 t171:=Tryz.underlying289
 a171:=Tryz.isAgg289
 z171:=Tryz.sizeOf289
 v171:=Tryz.zeroValue289
 t173:=Tryz.underlying292
 a173:=Tryz.isAgg292
 z173:=Tryz.sizeOf292
 v173:=Tryz.zeroValue292
 t212:=Tryz.underlying297
 a212:=Tryz.isAgg297
 z212:=Tryz.sizeOf297
 v212:=Tryz.zeroValue297
 t213:=Tryz.underlying298
 a213:=Tryz.isAgg298
 z213:=Tryz.sizeOf298
 t232:=Tryz.underlying301
 a232:=Tryz.isAgg301
 z232:=Tryz.sizeOf301
 v232:=Tryz.zeroValue301
 t233:=Tryz.underlying302
 a233:=Tryz.isAgg302
 z233:=Tryz.sizeOf302
 v233:=Tryz.zeroValue302
 g17:=by kernel_rfl
 g18:=by kernel_rfl
 g19:=by kernel_rfl
 i0:=by kernel_rfl
 i2:=by kernel_rfl
 i3:=by kernel_rfl
 i4:=by kernel_rfl
 i5:=by kernel_rfl
 i9:=by kernel_rfl
 i20:=by kernel_rfl
 i37:=by kernel_rfl
 i46:=by kernel_rfl
 i51:=by kernel_rfl
 i53:=by kernel_rfl
 i171:=by kernel_rfl
 i173:=by kernel_rfl
 i212:=by kernel_rfl
 i232:=by kernel_rfl
 i233:=by kernel_rfl
 m17:=by kernel_rfl
 m18:=by kernel_rfl
 m19:=by kernel_rfl}
open Go.RowKit Go.Sort Go.Lib in
theorem Tryz.strconv_Itoa (n : Int) (h0 : -9223372036854775808 <= n) (h1 : n <= 9223372036854775807) (w : World) (htab : Lib.TabIs Tryz.prog w "internal/strconv.uint64pow10" .u64 Lib.pow10Tab) :
 Calls Tryz.prog 137 #[.int .i64 n] w fun e w'=>e = .returned (.string ⟨(Lib.itoa n).toArray⟩)/\∃ k os,w'=grow (w.drewN k) os:=Any.strconv_Itoa Tryz.laysM171 n h0 h1 w htab
open Go.RowKit Go.Lib in
def Tryz.lays212_ren:Go.Shelf.Ren:=⟨fun | 212=>166 | 263=>179 | 264=>180 |n=>n,fun | 46=>271 | 51=>282 | 146=>283 | 53=>35 | 148=>285 |n=>n,fun |n=>n⟩
theorem Tryz.lays212:Go.Proofs.Lays.n212 Tryz.prog Tryz.lays212_ren:={
 mixed:=by kernel_rfl
 f212:=Tryz.func166.trans (congrArg some (by kernel_rfl))
 f263:=Tryz.func179.trans (congrArg some (by kernel_rfl))
 f264:=Tryz.func180.trans (congrArg some (by kernel_rfl))
 t46:=Tryz.underlying271
 a46:=Tryz.isAgg271
 z46:=Tryz.sizeOf271
 v46:=Tryz.zeroValue271
 t51:=Tryz.underlying282
 a51:=Tryz.isAgg282
 z51:=Tryz.sizeOf282
 v51:=Tryz.zeroValue282
 t53:=Tryz.underlying35
 a53:=Tryz.isAgg35
 z53:=Tryz.sizeOf35
 v53:=Tryz.zeroValue35
 t146:=Tryz.underlying283
 a146:=Tryz.isAgg283
 z146:=Tryz.sizeOf283
 v146:=Tryz.zeroValue283
 t148:=Tryz.underlying285
 a148:=Tryz.isAgg285
 z148:=Tryz.sizeOf285
 v148:=Tryz.zeroValue285}
open Go.RowKit Go.Lib in
theorem Tryz.bits_Mul (x y:Nat) (hx:x<18446744073709551616) (hy:y<18446744073709551616) (w:World) :
 Calls Tryz.prog 166 #[.int .u64 x,.int .u64 y] w fun e w'=>e = .returned (.tuple #[.int .u64 ((x*y/18446744073709551616:Nat):Int),.int .u64 ((x*y%18446744073709551616:Nat):Int)])/\w'=w:=Any.bits_Mul Tryz.lays212 x y hx hy w
end Go.Proofs
namespace Go.Proofs.YtplejbgafjpomaaGreatDoor.Sx.Z
open Go.RowKit
def prNE (d:D) (i:Nat):Bool:=bN (d.el i 2) 0
def syN (pr:D):Bool:=allB pr.len (prNE pr)
def itW (n:Int):ByteArray:=⟨(Lib.itoa n).toArray⟩
def nI (n:Int):Prop:=-9223372036854775808<=n/\n<=9223372036854775807
def sR (s:ByteArray):List D:=[D.s s]
def cat (w:D) (l:List ByteArray):D:=.l ((w.rows++l.map sR).take 2001)
def wsL (ws:D) (n:Nat):List ByteArray:=(List.range n).map fun j=>(ws.el j 0).toS
theorem cat_len (w:D) (l:List ByteArray):(cat w l).len=min 2001 (w.len+l.length):=by
 show ((w.rows++l.map sR).take 2001).length=_;rw [List.length_take,List.length_append,List.length_map];rfl
theorem cat_le (w:D) (l:List ByteArray):(cat w l).len<=2001:=by rw [cat_len];omega
theorem cat_cat (w:D) (l m:List ByteArray):cat (cat w l) m=cat w (l++m):=by
 unfold cat
 congr 1
 show (((w.rows++l.map sR).take 2001)++m.map sR).take 2001=_;rw [List.map_append,<- List.append_assoc];rw [List.take_append (l₁:=(w.rows++l.map sR).take 2001),List.take_append (l₁:=w.rows++l.map sR),List.take_take,List.length_take,Nat.min_self]
 congr 1
 rcases Nat.le_total 2001 (w.rows++l.map sR).length with h |h
 ·rw [Nat.min_eq_left h,Nat.sub_self,show 2001-(w.rows++l.map sR).length=0 by omega]
 ·rw [Nat.min_eq_right h]
theorem cat_one {w:D} (h:w.len<=2000) (s:ByteArray):cat w [s] = .l (w.rows++[[D.s s]]):=by
 unfold cat;rw [List.take_of_length_le];· rfl
 rw [List.length_append];have:w.rows.length=w.len:=rfl
 simp;omega
theorem cat_full {w:D} (h:w.len=2001) (l:List ByteArray):cat w l=w:=by
 unfold cat;rw [List.take_append_of_le_length (by show 2001<=w.rows.length;rw [show w.rows.length=w.len from rfl];omega),List.take_of_length_le (by rw [show w.rows.length=w.len from rfl];omega)]
 cases w with
 |l r=>rfl
 |i n=>exact absurd (show (0:Nat)=2001 from h) (by decide)
 |b n=>exact absurd (show (0:Nat)=2001 from h) (by decide)
 |s n=>exact absurd (show (0:Nat)=2001 from h) (by decide)
noncomputable def sydS:FSpec:=fun ds _=>match ds with
 | [.d ch,.d ru,.d pr]=>some {val:=.one (.sc (.bool (.sym (!syN pr)))),vc:=[SyOK ch ru pr,syB ch ru pr=true]}
 |_=>none
noncomputable def sydC:Con:=con [lSy] sydS
theorem syd_ok:ConOK Tryz.prog 53 sydC:=by
 refine fn_ob tt_ok mixed Tryz.func53 rfl (fun _ _=>by kernel_rfl) (A:=fun ds=>⟨fun _=>Cons.of [(96,bddC)],fun k=>match k,ds with | 2,[.d ch,.d ru,.d pr]=>some {ι:=Nat,pre:=fun _ i=>i<=pr.len/\∀ j,j<i->prNE pr j=true,μ:=fun i=>pr.len-i,st:=fun s i=>famR s [(8,.one (.sc (.int .i64 (.sym ((i:Int))))))] [6,7] [] []} |_,_=>none,fun _=>none⟩) (fun _ _=>(cons_cons bdd_ok cons_nil)) (by kernel_rfl) ?_
 intro ds fr;unfold sydS;split
 ·rename_i ch ru pr;refine kmp (q:=SyOK ch ru pr->syB ch ru pr=true->(∃ (i:Nat),(i<=pr.len/\∀ (j:Nat),j<i->prNE pr j=true)/\(0:Int)=(i:Int)/\pr.rows=pr.rows/\(pr.len:Int)=(pr.len:Int))/\∀ (i:Nat),(i<=pr.len/\∀ (j:Nat),j<i->prNE pr j=true)->(decide ((i:Int)<(pr.len:Int))=true->((0:Int)<=(i:Int)/\(i:Int)<(pr.len:Int))/\sOK (pr.el (i:Int).toNat 2)/\bA (pr.el (i:Int).toNat 2)=true/\((0:Int)<=(0:Int)/\(0:Int)<=(24:Int))/\((!bN (pr.el (i:Int).toNat 2) (0:Int))=true->true = !syN pr)/\((!bN (pr.el (i:Int).toNat 2) (0:Int))=false->∃ (j:Nat),(j<=pr.len/\∀ (j_1:Nat),j_1<j->prNE pr j_1=true)/\pr.len-j<pr.len-i/\IntKind.i64.wrap ((i:Int)+(1:Int))=(j:Int)/\pr.rows=pr.rows/\(pr.len:Int)=(pr.len:Int)))/\(decide ((i:Int)<(pr.len:Int))=false->false = !syN pr)) (by kernel_rfl) ?_
  intro hs hr;unfold syB at hr;simp only [Bool.and_eq_true] at hr;have hpr:=allB_iff.1 hr.2.2;have e0:∀ (i:Nat),((i:Int)).toNat=i:=fun i=>Int.toNat_natCast i
  simp only [Nat.zero_add,Nat.reduceAdd,e0];unfold syN;refine ⟨⟨0,⟨Nat.zero_le _,fun j hj=>absurd hj (Nat.not_lt_zero j)⟩,by (repeat' apply And.intro)<;>first |trivial |rfl |(intro _ _;rfl) |(intro _ _;trivial)⟩,fun i hp=>⟨fun hl=>?_,fun hl=>?_⟩⟩
  ·have hl:=of_decide_eq_true hl;have hb:=hs.p;have hi:i<pr.len:=by omega
   have hw:IntKind.i64.wrap ((i:Int)+1)=((i+1:Nat):Int):=by rw [IntWalk.i64_in _ (by omega)];omega
   have v2:=hs.pb i hi;have r1:=hpr i hi;unfold prE at r1;simp only [Bool.and_eq_true] at r1;refine ⟨⟨by omega,by omega⟩,v2,r1.2,by omega,fun hq=>?_,fun hq=>?_⟩
   ·have hq:prNE pr i=false:=by rw [Bool.not_eq_true'] at hq;exact hq
    rw [allB_no hi hq];rfl
   ·have hq:prNE pr i=true:=by rw [Bool.not_eq_false'] at hq;exact hq
    refine ⟨i+1,⟨by omega,fun j hj=>?_⟩,by omega,hw,by (repeat' apply And.intro)<;>first |trivial |rfl |(intro _ _;rfl) |(intro _ _;trivial)⟩
    rcases Nat.lt_or_ge j i with h |h
    ·exact hp.2 j h
    ·obtain rfl:j=i:=by omega
     exact hq
  ·have hl:=of_decide_eq_false hl;have hall:allB pr.len (prNE pr)=true:=allB_yes fun j hj=>hp.2 j (by omega)
   rw [hall];rfl
 ·trivial
noncomputable def itS:FSpec:=fun ds _=>match ds with
 | [.i n]=>some {val:=.one (.sc (.raw (.string (itW n)))),vc:=[nI n]}
 |_=>none
noncomputable def itC:Con:=con [lI] itS
noncomputable def clS:FSpec:=fun ds _=>match ds with
 | [.s s]=>some {val:=.one (.sc (.raw (.string (s)))),vc:=[s.size<=281474976710656]}
 |_=>none
noncomputable def clC:Con:=con [.sc .str] clS
theorem it_ok:ConOK Tryz.prog 137 itC:=by
 refine ⟨fun _ _=>by kernel_rfl,fun hp fr args e he hv w0 w ρ vs hw _ ha=>?_,fun _ _ _ _ h=>nomatch (con_jf _ _ _ _ _).symm.trans h⟩;unfold itC con at he
 split at he
 ·rename_i ds ps hds
  split at he
  ·rename_i e1 he1;unfold itS at he1
   split at he1
   ·rename_i n;obtain rfl:=Option.some.inj he1;obtain rfl:=Option.some.inj he;obtain ⟨hp1,hp2⟩:=all_append.1 hv;obtain ⟨svs,h,ρ1,id,hun,_,_,hrel⟩:=unP_spec hw [lI] args _ ps hds hp1 vs ha (ids:=keepOwn hp (idsX hp args)) (fun i hi ho=>keepOwn_mem.2 ⟨hi,ho⟩) 0;obtain rfl:svs=_:=(congrArg Prod.fst (Option.some.inj hun)).symm
    match vs,hrel with
    | [x],⟨hx,_⟩=>
      have hx:x = .int .i64 n:=hx;subst hx;obtain ⟨hn,_⟩:=hp2;obtain ⟨g, hg⟩ := Option.isSome_iff_exists.1 (show (PG.globalNamed "internal/strconv.uint64pow10").isSome = true by kernel_rfl);have ht:=hw.tab g _ ⟨hg,rfl⟩;rw [<- hw.f00] at ht;obtain ⟨T,z,hh⟩:=hw.froz _ _ (hw.sub _ _ ht);have htab : Lib.TabIs Tryz.prog w "internal/strconv.uint64pow10" .u64 Lib.pow10Tab := by
       have hg' : Tryz.prog.globalNamed "internal/strconv.uint64pow10" = some g := hg;unfold Lib.TabIs World.var?;rw [hg'];show (match w.heap[g]? with |some (.cells cs _ _)=>some cs |_=>none)=_;rw [hh]
      refine (Tryz.strconv_Itoa n hn.1 hn.2 w htab).mono ?_
      rintro en w' ⟨rfl,k,os,rfl⟩;have hb:=Lib.below_grow w.heap.size w (Nat.le_refl _) k os;refine ⟨ρ,_,rfl,rfl,⟨fun _ _ h=>h,fun _ _=>rfl,fun _ _ h=>h,rfl,rfl⟩,fun _ _=>rfl,hb.mono (Nat.zero_le _),fun b hlt _=>hb.block b hlt,fun i x hx=>?_,fun i x hx=>?_,fun i j x y hx=>?_,fun b cs hcs=>.inl hcs,rfl⟩
      ·cases hx
      ·cases hx
      ·cases hx
   ·cases he1
  ·cases he
 ·cases he
theorem cl_ok:ConOK Tryz.prog 70 clC:=by
 refine ⟨fun _ _=>by kernel_rfl,fun hp fr args e he hv w0 w ρ vs hw _ ha=>?_,fun _ _ _ _ h=>nomatch (con_jf _ _ _ _ _).symm.trans h⟩;unfold clC con at he
 split at he
 ·rename_i ds ps hds
  split at he
  ·rename_i e1 he1;unfold clS at he1
   split at he1
   ·rename_i s;obtain rfl:=Option.some.inj he1;obtain rfl:=Option.some.inj he;obtain ⟨hp1,hp2⟩:=all_append.1 hv;obtain ⟨svs,h,ρ1,id,hun,_,_,hrel⟩:=unP_spec hw [.sc .str] args _ ps hds hp1 vs ha (ids:=keepOwn hp (idsX hp args)) (fun i hi ho=>keepOwn_mem.2 ⟨hi,ho⟩) 0;obtain rfl:svs=_:=(congrArg Prod.fst (Option.some.inj hun)).symm
    match vs,hrel with
    | [x],⟨hx,_⟩=>
      have hx:x = .string s:=hx;subst hx;refine (clone_any s w hp2.1).mono ?_
      rintro en w' ⟨rfl,hb⟩;refine ⟨ρ,_,rfl,rfl,⟨fun _ _ h=>h,fun _ _=>rfl,fun _ _ h=>h,rfl,rfl⟩,fun _ _=>rfl,hb.mono (Nat.zero_le _),fun b hlt _=>hb.block b hlt,fun i x hx=>?_,fun i x hx=>?_,fun i j x y hx=>?_,fun b cs hcs=>.inl hcs,rfl⟩
      ·cases hx
      ·cases hx
      ·cases hx
   ·cases he1
  ·cases he
 ·cases he
end Go.Proofs.YtplejbgafjpomaaGreatDoor.Sx.Z
namespace Go.Proofs.YtplejbgafjpomaaGreatDoor.Sx.Z
open Go.RowKit
def putD (w ws:D):D:=cat w (wsL ws ws.len)
theorem wsL_succ (ws:D) (n:Nat):wsL ws (n+1)=wsL ws n++[(ws.el n 0).toS]:=by
 unfold wsL;rw [List.range_succ,List.map_append];rfl
theorem wsL_add (ws:D) (n:Nat):∀ m,∃ l,wsL ws (n+m)=wsL ws n++l
 | 0=>⟨[],by simp⟩
 |m+1=>by
  obtain ⟨l,h⟩:=wsL_add ws n m;exact ⟨l++[(ws.el (n+m) 0).toS],by rw [<- Nat.add_assoc,wsL_succ,h,List.append_assoc]⟩
theorem cat_stop {w ws:D} {i:Nat} (hi:i<=ws.len) (h:(cat w (wsL ws i)).len>2000):putD w ws=cat w (wsL ws i):=by
 obtain ⟨l,e⟩:=wsL_add ws i (ws.len-i);have h1:=cat_le w (wsL ws i);unfold putD;rw [show ws.len=i+(ws.len-i) by omega,e,<- cat_cat,cat_full (by omega)]
noncomputable def tooMS:List Dat->Option (Eff × List Seg):=fun ds=>match ds with
 | [.d w]=>some ({val:=.one (.sc (.bool (.sym (decide ((w.len:Int)>2000))))),vc:=[w.len<=10000000000000],nw:=[(0,.orow 9 (w))]},[.c (.osl 9 0 (.lit 0) (.sym (w).len))])
 |_=>none
noncomputable def tooMC:Con:=conM 174 [.own 9] [] tooMS
theorem tooM_ok:ConOK Tryz.prog 55 tooMC:=by
 refine fn_obM tt_ok mixed Tryz.func55 rfl (fun _ _=>by kernel_rfl) (A:=fun ds=>⟨fun _=>Cons.of [],fun _=>none,fun _=>none⟩) (fun _ _=>cons_nil) (by kernel_rfl) ?_
 intro ds;unfold tooMS;split
 ·rename_i w;refine kmp (q:=w.len<=10000000000000->decide ((w.len:Int)>(2000:Int))=decide ((w.len:Int)>(2000:Int))/\w.len=w.len/\w.rows=w.rows) (by kernel_rfl) ?_
  intro _;exact ⟨rfl,rfl,rfl⟩
 ·trivial
noncomputable def putS:List Dat->Option (Eff × List Seg):=fun ds=>match ds with
 | [.d w,.d ws]=>some ({val:=.tup [],vc:=[w.len<=2001,ws.len<=1000,∀ j,j<ws.len->(ws.el j 0).toS.size<=281474976710656],nw:=[(0,.orow 9 (putD w ws))]},[.c (.osl 9 0 (.lit 0) (.sym (putD w ws).len))])
 |_=>none
noncomputable def putC:Con:=conM 174 [.own 9] [lNs] putS
theorem put_ok:ConOK Tryz.prog 135 putC:=by
 refine fn_obM tt_ok mixed Tryz.func135 rfl (fun _ _=>by kernel_rfl) (A:=fun ds=>⟨fun _=>Cons.of [(55,tooMC),(70,clC)],fun k=>match k,ds with | 1,[.d w,.d ws]=>some {ι:=Nat,pre:=fun _ i=>i<=ws.len,μ:=fun i=>ws.len-i,st:=fun s i=>famR s [(8,.one (.sc (.int .i64 (.sym ((i:Int))))))] [0,6,7] [(0,.own 174 ([.c (.osl 9 1 (.lit 0) (.sym (cat w (wsL ws i)).len))])),(1,.orow 9 (cat w (wsL ws i)))] []} |_,_=>none,fun _=>none⟩) (fun _ _=>(cons_cons tooM_ok (cons_cons cl_ok cons_nil))) (by kernel_rfl) ?_
 intro ds;unfold putS;split
 ·rename_i w ws;refine kmp (q:=w.len<=2001->ws.len<=1000->(∀ (j:Nat),j<ws.len->(ws.el j 0).toS.size<=281474976710656)->(∃ (i:Nat),i.le ws.len/\(0:Int)=(i:Int)/\ws.rows=ws.rows/\(ws.len:Int)=(ws.len:Int)/\w.len=(cat w (wsL ws i)).len/\w.rows=List.take (2001:Nat) (w.rows++List.map sR (wsL ws i)))/\∀ (i:Nat),i.le ws.len->(decide ((i:Int)<(ws.len:Int))=true->((0:Int)<=(i:Int)/\(i:Int)<(ws.len:Int))/\(0:Nat)=(0:Nat)/\(cat w (wsL ws i)).len=(cat w (wsL ws i)).len/\(cat w (wsL ws i)).len<=10000000000000/\(decide ((↑(cat w (wsL ws i)).len:Int)>(2000:Int))=true->(cat w (wsL ws i)).len=(putD w ws).len/\List.take (2001:Nat) (w.rows++List.map sR (wsL ws i))=List.take (2001:Nat) (w.rows++List.map sR (wsL ws ws.len)))/\(decide ((↑(cat w (wsL ws i)).len:Int)>(2000:Int))=false->(ws.el (i:Int).toNat 0).toS.size<=281474976710656/\(cat w (wsL ws i)).len=(cat w (wsL ws i)).len/\((cat w (wsL ws i)).len+((D.l [[D.s (ws.el (i:Int).toNat 0).toS]]).sub (0:Nat) 1).len)*(16:Nat)<=(140737488355328:Nat)/\(0:Nat)+(1:Nat)<=(D.l [[D.s (ws.el (i:Int).toNat 0).toS]]).len/\∃ (j:Nat),j.le ws.len/\ws.len-j<ws.len-i/\IntKind.i64.wrap ((i:Int)+(1:Int))=(j:Int)/\ws.rows=ws.rows/\(ws.len:Int)=(ws.len:Int)/\(cat w (wsL ws i)).len+((D.l [[D.s (ws.el (i:Int).toNat 0).toS]]).sub (0:Nat) 1).len=(cat w (wsL ws j)).len/\List.take (2001:Nat) (w.rows++List.map sR (wsL ws i))++List.drop (0:Nat) (List.take 1 [[D.s (ws.el (i:Int).toNat 0).toS]])=List.take (2001:Nat) (w.rows++List.map sR (wsL ws j))))/\(decide ((i:Int)<(ws.len:Int))=false->(cat w (wsL ws i)).len=(putD w ws).len/\List.take (2001:Nat) (w.rows++List.map sR (wsL ws i))=List.take (2001:Nat) (w.rows++List.map sR (wsL ws ws.len)))) (by kernel_rfl) ?_
  intro h1 h2 h3;have e0:∀ (i:Nat),((i:Int)).toNat=i:=fun i=>Int.toNat_natCast i
  simp only [e0];refine ⟨⟨0,Nat.zero_le _,rfl,trivial,trivial,?_,?_⟩,fun i hi=>⟨fun hl=>?_,fun hl=>?_⟩⟩
  ·rw [cat_len];show w.len=min 2001 (w.len+0);omega
  ·show w.rows=List.take 2001 (w.rows++[]);rw [List.append_nil,List.take_of_length_le (show w.len<=2001 from h1)]
  ·have hl:=of_decide_eq_true hl;have hi:i<ws.len:=by omega
   have hw:IntKind.i64.wrap ((i:Int)+1)=((i+1:Nat):Int):=by rw [IntWalk.i64_in _ (by omega)];omega
   refine ⟨⟨by omega,by omega⟩,trivial,trivial,by have:=cat_le w (wsL ws i);omega,fun hc=>?_,fun hc=>?_⟩
   ·have hc:=of_decide_eq_true hc;have e:=cat_stop (w:=w) (Nat.le_of_lt hi) (by omega);exact ⟨by rw [e],congrArg D.rows e.symm⟩
   ·have hc:=of_decide_eq_false hc;have e:cat w (wsL ws (i+1))=D.l ((cat w (wsL ws i)).rows++[[D.s (ws.el i 0).toS]]):=by rw [wsL_succ,<- cat_cat,cat_one (by omega)]
    have l1:((D.l [[D.s (ws.el i 0).toS]]).sub 0 (0+1)).len=1:=rfl;rw [l1];refine ⟨h3 i hi,trivial,by omega,Nat.le_refl _,i+1,hi,by omega,hw,trivial,trivial,?_,congrArg D.rows e.symm⟩;rw [e];show _=((cat w (wsL ws i)).rows++[[D.s (ws.el i 0).toS]]).length;rw [List.length_append];rfl
  ·have hl:=of_decide_eq_false hl;have hi:i=ws.len:=by have:i<=ws.len:=hi;omega
   rw [hi];exact ⟨rfl,rfl⟩
 ·trivial
end Go.Proofs.YtplejbgafjpomaaGreatDoor.Sx.Z
