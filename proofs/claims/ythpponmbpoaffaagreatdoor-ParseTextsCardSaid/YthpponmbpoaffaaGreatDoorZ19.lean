import Derived.Test.YthpponmbpoaffaaGreatDoorZ18
import Derived.Lib.ItoaLen
import Derived.Lib.AppendIntMem
import Derived.Test.YthpponmbpoaffaaGreatDoorZ1
namespace Go.Proofs.YthpponmbpoaffaaGreatDoor.Sx.Z
open Go.RowKit
def cN (lk:Int) (ld:D) (rk:Int) (rd:D):Bool:=xN lk ld 0&&xN rk rd 0
def stNF (k:Int) (e c b el a:Bool):Bool:=if k=1 ∨ k=4 then e else if k=6 then c else if k=2 then c&&b&&el else if k=3 then c&&b else if k=5 then a else true
def bN (d:D) (b:Int):Bool:=(List.finRange d.len).all fun (i:Fin d.len)=>stNF (d.el i 0).toI (xN (d.el i 3).toI (d.el i 6) 0) (cN (d.el i 8).toI (d.el i 11) (d.el i 12).toI (d.el i 15)) (!decide (b>=24)&&bN (d.el i 16) (b+1)) (bN (d.el i 17) (b+1))
    ((List.finRange (d.el i 18).len).all fun (j:Fin (d.el i 18).len)=>!decide (b>=24)&&bN ((d.el i 18).el j 2) (b+1))
 termination_by SizeOf.sizeOf d
 decreasing_by
  ·exact lel_lt i.isLt
  ·exact lel_lt i.isLt
  ·exact Nat.lt_trans (lel_lt j.isLt) (lel_lt i.isLt)
def blN (d:D) (b:Int):Bool:=!decide (b>=24)&&bN d (b+1)
def amNE (am:D) (b:Int) (j:Nat):Bool:=blN (am.el j 2) b
def amN (am:D) (b:Int):Bool:=allB am.len (amNE am b)
def stN (k:Int) (_nm _tg:ByteArray) (ek _en:Int) (_es:ByteArray) (ed:D) (_op lk _ln:Int) (_ls:ByteArray) (ld:D) (rk _rn:Int) (_rs:ByteArray) (rd bd eb am:D) (b:Int):Bool:=
 stNF k (xN ek ed 0) (cN lk ld rk rd) (blN bd b) (bN eb (b+1)) (amN am b)
def stNE (d:D) (b:Int) (i:Nat):Bool:=stN (d.el i 0).toI (d.el i 1).toS (d.el i 2).toS (d.el i 3).toI (d.el i 4).toI (d.el i 5).toS (d.el i 6) (d.el i 7).toI (d.el i 8).toI (d.el i 9).toI (d.el i 10).toS (d.el i 11) (d.el i 12).toI (d.el i 13).toI (d.el i 14).toS (d.el i 15) (d.el i 16) (d.el i 17) (d.el i 18) b
theorem bN_eq (d:D) (b:Int):bN d b=allB d.len (stNE d b):=by
 rw [bN,<- allF_eq]
 congr 1
 funext i
 unfold stNE stN amN
 rw [<- allF_eq]
 rfl
theorem aC_two {op lk ln rk rn:Int} {ls rs:ByteArray} {ld rd:D} (h:aC op lk ln ls ld rk rn rs rd=true):aX lk ln ls ld=true/\aX rk rn rs rd=true:=by
 unfold aC at h
 simp only [Bool.and_eq_true] at h
 exact ⟨h.1.2,h.2⟩
noncomputable def cdrS:FSpec:=fun ds _=>match ds with
 | [.i op,.i lk,.i ln,.s ls,.d ld,.i rk,.i rn,.s rs,.d rd]=>some {val:=.one (.sc (.bool (.sym (!cN lk ld rk rd)))),vc:=[aC op lk ln ls ld rk rn rs rd=true]}
 |_=>none
noncomputable def cdrC:Con:=con [lCo] cdrS
theorem cdr_ok:ConOK Tryz.prog 89 cdrC:=by
 refine fn_ob tt_ok mixed Tryz.func89 rfl (fun _ _=>by kernel_rfl) (A:=fun ds=>⟨fun _=>Cons.of [(88,xdrC)],fun _=>none,fun _=>none⟩) (fun _ _=>(cons_cons xdr_ok cons_nil)) (by kernel_rfl) ?_
 intro ds fr
 unfold cdrS
 split
 ·rename_i op lk ln ls ld rk rn rs rd
  refine kmp (q:=aC op lk ln ls ld rk rn rs rd=true->aX lk ln ls ld=true/\((0:Int)<=(0:Int)/\(0:Int)<=(30:Int))/\((!xN lk ld (0:Int))=false/\True->aX rk rn rs rd=true)/\((!xN lk ld (0:Int))=false/\True->(0:Int)<=(0:Int)/\(0:Int)<=(30:Int))/\(!xN lk ld (0:Int) || !xN rk rd (0:Int)) = !cN lk ld rk rd) (by kernel_rfl) ?_
  intro h
  have h2:=aC_two h
  refine ⟨h2.1,by omega,fun _=>h2.2,fun _=>by omega,?_⟩
  unfold cN
  rw [Bool.not_and]
 ·trivial
noncomputable def bddS:FSpec:=fun ds _=>match ds with
 | [.d d,.i b]=>some {val:=.one (.sc (.bool (.sym (!bN d b)))),vc:=[sOK d,bA d=true,0<=b/\b<=24]}
 |_=>none
noncomputable def bddC:Con:=con [lBo,lI] bddS
noncomputable def bddM:List Dat->Nat:=fun ds=>match ds with
 | [.d d,.i _b]=>SizeOf.sizeOf d
 |_=>0
noncomputable def bddSu (m:Nat):FSpec:=fun ds _=>match ds with
 | [.d d,.i b]=>some {val:=.one (.sc (.bool (.sym (!bN d b)))),vc:=[SizeOf.sizeOf d<m,sOK d,bA d=true,0<=b/\b<=24]}
 |_=>none
theorem bdd_under (m:Nat):bddS.under bddM m=bddSu m:=by
 funext ds fr
 unfold FSpec.under bddS bddM bddSu
 split
 ·rename_i e h
  split at h
  ·obtain rfl:=Option.some.inj h;rfl
  ·cases h
 ·rename_i h
  split at h
  ·cases h
  ·rfl
noncomputable def bkdS (m:Nat):FSpec:=fun ds _=>match ds with
 | [.d d,.i b]=>some {val:=.one (.sc (.bool (.sym (!blN d b)))),vc:=[SizeOf.sizeOf d<m,sOK d,bA d=true,0<=b/\b<=24]}
 |_=>none
noncomputable def bkdC (m:Nat):Con:=con [lBo,lI] (bkdS m)
theorem bkd_ok {m:Nat} (ih:ConOK Tryz.prog 46 (con [lBo,lI] (bddSu m))):ConOK Tryz.prog 90 (bkdC m):=by
 refine fn_ob tt_ok mixed Tryz.func90 rfl (fun _ _=>by kernel_rfl) (A:=fun ds=>⟨fun _=>Cons.of [(46,con [lBo,lI] (bddSu m))],fun _=>none,fun _=>none⟩) (fun _ _=>(cons_cons ih cons_nil)) (by kernel_rfl) ?_
 intro ds fr
 unfold bkdS
 split
 ·rename_i d b
  refine kmp (q:=SizeOf.sizeOf d<m->sOK d->bA d=true->(0:Int)<=b/\b<=(24:Int)->(decide (b>=(24:Int))=false/\True->SizeOf.sizeOf d<m)/\(decide (b>=(24:Int))=false/\True->sOK d)/\(decide (b>=(24:Int))=false/\True->bA d=true)/\(decide (b>=(24:Int))=false/\True->(0:Int)<=IntKind.i64.wrap (b+(1:Int))/\IntKind.i64.wrap (b+(1:Int))<=(24:Int))/\(decide (b>=(24:Int)) || !bN d (IntKind.i64.wrap (b+(1:Int)))) = !blN d b) (by kernel_rfl) ?_
  intro hm hs ha hb
  refine ⟨fun _=>hm,fun _=>hs,fun _=>ha,fun h=>?_,?_⟩
  ·have h:=of_decide_eq_false h.1
   rw [IntWalk.i64_in _ (by omega)];omega
  ·rw [IntWalk.i64_in _ (by omega)]
   unfold blN
   rw [Bool.not_and,Bool.not_not]
 ·trivial
noncomputable def sddS (m:Nat):FSpec:=fun ds _=>match ds with
 | [.i k,.s nm,.s tg,.i ek,.i en,.s es,.d ed,.i op,.i lk,.i ln,.s ls,.d ld,.i rk,.i rn,.s rs,.d rd,.d bd,.d eb,.d am,.i b]=>some {val:=.one (.sc (.bool (.sym (!stN k nm tg ek en es ed op lk ln ls ld rk rn rs rd bd eb am b)))),vc:=[SizeOf.sizeOf bd<m,SizeOf.sizeOf eb<m,SizeOf.sizeOf am<m,sOK bd,sOK eb,amOK am,stA k nm tg ek en es ed op lk ln ls ld rk rn rs rd bd eb am=true,0<=b/\b<=24]}
 |_=>none
noncomputable def sddC (m:Nat):Con:=con [lSt,lI] (sddS m)
theorem sdd_ok {m:Nat} (ih:ConOK Tryz.prog 46 (con [lBo,lI] (bddSu m))):ConOK Tryz.prog 68 (sddC m):=by
 refine fn_ob tt_ok mixed Tryz.func68 rfl (fun _ _=>by kernel_rfl) (A:=fun ds=>⟨fun _=>Cons.of [(88,xdrC),(89,cdrC),(90,(bkdC m)),(46,con [lBo,lI] (bddSu m))],fun k=>match k,ds with | 13,[.i k,.s nm,.s tg,.i ek,.i en,.s es,.d ed,.i op,.i lk,.i ln,.s ls,.d ld,.i rk,.i rn,.s rs,.d rd,.d bd,.d eb,.d am,.i b]=>some {ι:=Nat,pre:=fun _ i=>i<=am.len/\∀ j,j<i->amNE am b j=true,μ:=fun i=>am.len-i,st:=fun s i=>famR s [(54,.one (.sc (.int .i64 (.sym ((i:Int))))))] [1,52,53] [] []} |_,_=>none,fun _=>none⟩) (fun _ _=>(cons_cons xdr_ok (cons_cons cdr_ok (cons_cons (bkd_ok ih) (cons_cons ih cons_nil))))) (by kernel_rfl) ?_
 intro ds fr
 unfold sddS
 split
 ·rename_i k nm tg ek en es ed op lk ln ls ld rk rn rs rd bd eb am b
  refine kmp (q:=SizeOf.sizeOf bd<m->SizeOf.sizeOf eb<m->SizeOf.sizeOf am<m->sOK bd->sOK eb->amOK am->stA k nm tg ek en es ed op lk ln ls ld rk rn rs rd bd eb am=true->(0:Int)<=b/\b<=(24:Int)->((k==(1:Int))=true->((k==(1:Int))=true->aX ek en es ed=true/\((0:Int)<=(0:Int)/\(0:Int)<=(30:Int))/\(!xN ek ed (0:Int)) = !stN k nm tg ek en es ed op lk ln ls ld rk rn rs rd bd eb am b)/\((k==(1:Int))=false->((k==(6:Int))=true->aC op lk ln ls ld rk rn rs rd=true/\(!cN lk ld rk rd) = !stN k nm tg ek en es ed op lk ln ls ld rk rn rs rd bd eb am b)/\((k==(6:Int))=false->((k==(2:Int))=true->aC op lk ln ls ld rk rn rs rd=true/\((!cN lk ld rk rd)=false/\True->SizeOf.sizeOf bd<m)/\((!cN lk ld rk rd)=false/\True->sOK bd)/\((!cN lk ld rk rd)=false/\True->bA bd=true)/\((!cN lk ld rk rd)=false/\True->(0:Int)<=b/\b<=(24:Int))/\((!cN lk ld rk rd || !blN bd b)=false/\True->SizeOf.sizeOf eb<m)/\((!cN lk ld rk rd || !blN bd b)=false/\True->sOK eb)/\((!cN lk ld rk rd || !blN bd b)=false/\True->bA eb=true)/\((!cN lk ld rk rd || !blN bd b)=false/\True->(0:Int)<=IntKind.i64.wrap (b+(1:Int))/\IntKind.i64.wrap (b+(1:Int))<=(24:Int))/\(!cN lk ld rk rd || !blN bd b || !bN eb (IntKind.i64.wrap (b+(1:Int)))) = !stN k nm tg ek en es ed op lk ln ls ld rk rn rs rd bd eb am b)/\((k==(2:Int))=false->((k==(3:Int))=true->aC op lk ln ls ld rk rn rs rd=true/\((!cN lk ld rk rd)=false/\True->SizeOf.sizeOf bd<m)/\((!cN lk ld rk rd)=false/\True->sOK bd)/\((!cN lk ld rk rd)=false/\True->bA bd=true)/\((!cN lk ld rk rd)=false/\True->(0:Int)<=b/\b<=(24:Int))/\(!cN lk ld rk rd || !blN bd b) = !stN k nm tg ek en es ed op lk ln ls ld rk rn rs rd bd eb am b)/\((k==(3:Int))=false->((k==(5:Int))=true->(∃ (i:Nat),(i<=am.len/\∀ (j:Nat),j<i->amNE am b j=true)/\(0:Int)=(↑i:Int)/\b=b/\am.rows=am.rows/\(↑am.len:Int)=(↑am.len:Int))/\∀ (i:Nat),(i<=am.len/\∀ (j:Nat),j<i->amNE am b j=true)->(decide ((↑i:Int)<(↑am.len:Int))=true->((0:Int)<=(↑i:Int)/\(↑i:Int)<(↑am.len:Int))/\SizeOf.sizeOf (am.el (↑i:Int).toNat 2)<m/\sOK (am.el (↑i:Int).toNat 2)/\bA (am.el (↑i:Int).toNat 2)=true/\((0:Int)<=b/\b<=(24:Int))/\((!blN (am.el (↑i:Int).toNat 2) b)=true->true = !stN k nm tg ek en es ed op lk ln ls ld rk rn rs rd bd eb am b)/\((!blN (am.el (↑i:Int).toNat 2) b)=false->∃ (j:Nat),(j<=am.len/\∀ (j_1:Nat),j_1<j->amNE am b j_1=true)/\am.len-j<am.len-i/\IntKind.i64.wrap ((↑i:Int)+(1:Int))=(↑j:Int)/\b=b/\am.rows=am.rows/\(↑am.len:Int)=(↑am.len:Int)))/\(decide ((↑i:Int)<(↑am.len:Int))=false->false = !stN k nm tg ek en es ed op lk ln ls ld rk rn rs rd bd eb am b))/\((k==(5:Int))=false->false = !stN k nm tg ek en es ed op lk ln ls ld rk rn rs rd bd eb am b))))))/\((k==(1:Int))=false->((k==(4:Int))=true->aX ek en es ed=true/\((0:Int)<=(0:Int)/\(0:Int)<=(30:Int))/\(!xN ek ed (0:Int)) = !stN k nm tg ek en es ed op lk ln ls ld rk rn rs rd bd eb am b)/\((k==(4:Int))=false->((k==(6:Int))=true->aC op lk ln ls ld rk rn rs rd=true/\(!cN lk ld rk rd) = !stN k nm tg ek en es ed op lk ln ls ld rk rn rs rd bd eb am b)/\((k==(6:Int))=false->((k==(2:Int))=true->aC op lk ln ls ld rk rn rs rd=true/\((!cN lk ld rk rd)=false/\True->SizeOf.sizeOf bd<m)/\((!cN lk ld rk rd)=false/\True->sOK bd)/\((!cN lk ld rk rd)=false/\True->bA bd=true)/\((!cN lk ld rk rd)=false/\True->(0:Int)<=b/\b<=(24:Int))/\((!cN lk ld rk rd || !blN bd b)=false/\True->SizeOf.sizeOf eb<m)/\((!cN lk ld rk rd || !blN bd b)=false/\True->sOK eb)/\((!cN lk ld rk rd || !blN bd b)=false/\True->bA eb=true)/\((!cN lk ld rk rd || !blN bd b)=false/\True->(0:Int)<=IntKind.i64.wrap (b+(1:Int))/\IntKind.i64.wrap (b+(1:Int))<=(24:Int))/\(!cN lk ld rk rd || !blN bd b || !bN eb (IntKind.i64.wrap (b+(1:Int)))) = !stN k nm tg ek en es ed op lk ln ls ld rk rn rs rd bd eb am b)/\((k==(2:Int))=false->((k==(3:Int))=true->aC op lk ln ls ld rk rn rs rd=true/\((!cN lk ld rk rd)=false/\True->SizeOf.sizeOf bd<m)/\((!cN lk ld rk rd)=false/\True->sOK bd)/\((!cN lk ld rk rd)=false/\True->bA bd=true)/\((!cN lk ld rk rd)=false/\True->(0:Int)<=b/\b<=(24:Int))/\(!cN lk ld rk rd || !blN bd b) = !stN k nm tg ek en es ed op lk ln ls ld rk rn rs rd bd eb am b)/\((k==(3:Int))=false->((k==(5:Int))=true->(∃ (i:Nat),(i<=am.len/\∀ (j:Nat),j<i->amNE am b j=true)/\(0:Int)=(↑i:Int)/\b=b/\am.rows=am.rows/\(↑am.len:Int)=(↑am.len:Int))/\∀ (i:Nat),(i<=am.len/\∀ (j:Nat),j<i->amNE am b j=true)->(decide ((↑i:Int)<(↑am.len:Int))=true->((0:Int)<=(↑i:Int)/\(↑i:Int)<(↑am.len:Int))/\SizeOf.sizeOf (am.el (↑i:Int).toNat 2)<m/\sOK (am.el (↑i:Int).toNat 2)/\bA (am.el (↑i:Int).toNat 2)=true/\((0:Int)<=b/\b<=(24:Int))/\((!blN (am.el (↑i:Int).toNat 2) b)=true->true = !stN k nm tg ek en es ed op lk ln ls ld rk rn rs rd bd eb am b)/\((!blN (am.el (↑i:Int).toNat 2) b)=false->∃ (j:Nat),(j<=am.len/\∀ (j_1:Nat),j_1<j->amNE am b j_1=true)/\am.len-j<am.len-i/\IntKind.i64.wrap ((↑i:Int)+(1:Int))=(↑j:Int)/\b=b/\am.rows=am.rows/\(↑am.len:Int)=(↑am.len:Int)))/\(decide ((↑i:Int)<(↑am.len:Int))=false->false = !stN k nm tg ek en es ed op lk ln ls ld rk rn rs rd bd eb am b))/\((k==(5:Int))=false->false = !stN k nm tg ek en es ed op lk ln ls ld rk rn rs rd bd eb am b))))))) (by kernel_rfl) ?_
  intro h1 h2 h3 h4 h5 h6 h7 hb
  by_cases n1:k=1
  ·subst n1
   have h7:(nmB nm&&aX ek en es ed)=true:=h7
   rw [Bool.and_eq_true] at h7
   exact ⟨fun _=>⟨fun _=>⟨h7.2,by omega,rfl⟩,fun h=>(by cases h)⟩,fun h=>(by cases h)⟩
  by_cases n4:k=4
  ·subst n4
   have h7:(nmB nm&&nmB tg&&aX ek en es ed)=true:=h7
   rw [Bool.and_eq_true] at h7
   exact ⟨fun h=>(by cases h),fun _=>⟨fun _=>⟨h7.2,by omega,rfl⟩,fun h=>(by cases h)⟩⟩
  refine ⟨fun h=>absurd (eq_of_beq h) n1,fun _=>⟨fun h=>absurd (eq_of_beq h) n4,fun _=>⟨fun k6=>?_,fun k6=>⟨fun k2=>?_,fun k2=>⟨fun k3=>?_,fun k3=>⟨fun k5=>?_,fun k5=>?_⟩⟩⟩⟩⟩⟩
  ·obtain rfl:=eq_of_beq k6
   exact ⟨h7,rfl⟩
  ·obtain rfl:=eq_of_beq k2
   have h7:(aC op lk ln ls ld rk rn rs rd&&bA bd&&bA eb)=true:=h7
   simp only [Bool.and_eq_true] at h7
   have hbn:(!cN lk ld rk rd || !blN bd b)=false->b<24:=by
    intro h
    rw [Bool.or_eq_false_iff,Bool.not_eq_false',Bool.not_eq_false'] at h
    have h:=h.2
    unfold blN at h
    simp only [Bool.and_eq_true,Bool.not_eq_true',decide_eq_false_iff_not] at h
    omega
   refine ⟨h7.1.1,fun _=>h1,fun _=>h4,fun _=>h7.1.2,fun _=>hb,fun _=>h2,fun _=>h5,fun _=>h7.2,fun h=>?_,?_⟩
   ·have:=hbn h.1
    rw [IntWalk.i64_in _ (by omega)];omega
   ·rw [IntWalk.i64_in _ (by omega),<- Bool.not_and,<- Bool.not_and];rfl
  ·obtain rfl:=eq_of_beq k3
   have h7:(aC op lk ln ls ld rk rn rs rd&&bA bd)=true:=h7
   simp only [Bool.and_eq_true] at h7
   refine ⟨h7.1,fun _=>h1,fun _=>h4,fun _=>h7.2,fun _=>hb,?_⟩
   rw [<- Bool.not_and];rfl
  ·have hb9:=hb
   obtain rfl:=eq_of_beq k5
   have h7:(nmB nm&&decide ((am.len:Int)>0)&&amsA am)=true:=h7
   simp only [Bool.and_eq_true] at h7
   have ham:=allB_iff.1 h7.2
   have est:stN 5 nm tg ek en es ed op lk ln ls ld rk rn rs rd bd eb am b=amN am b:=rfl
   rw [est]
   unfold amN
   have e0:∀ (i:Nat),((i:Int)).toNat=i:=fun i=>Int.toNat_natCast i
   simp only [Nat.zero_add,Nat.reduceAdd,e0]
   refine ⟨⟨0,⟨Nat.zero_le _,fun j hj=>absurd hj (Nat.not_lt_zero j)⟩,by (repeat' apply And.intro)<;>first |trivial |rfl |(intro _ _;rfl) |(intro _ _;trivial)⟩,fun i hp=>⟨fun hl=>?_,fun hl=>?_⟩⟩
   ·have hl:=of_decide_eq_true hl
    have hb:=h6.1
    have hi:i<am.len:=by omega
    have hw:IntKind.i64.wrap ((i:Int)+1)=((i+1:Nat):Int):=by rw [IntWalk.i64_in _ (by omega)];omega
    have z1:=lel_lt (j:=2) hi
    have s1:=h6.2 i hi
    have r1:=ham i hi
    unfold arE at r1
    simp only [Bool.and_eq_true] at r1
    refine ⟨⟨by omega,by omega⟩,by omega,s1,r1.2,hb9,fun hq=>?_,fun hq=>?_⟩
    ·have hq:amNE am b i=false:=by rw [Bool.not_eq_true'] at hq;exact hq
     rw [allB_no hi hq];rfl
    ·have hq:amNE am b i=true:=by rw [Bool.not_eq_false'] at hq;exact hq
     refine ⟨i+1,⟨by omega,fun j hj=>?_⟩,by omega,hw,by (repeat' apply And.intro)<;>first |trivial |rfl |(intro _ _;rfl) |(intro _ _;trivial)⟩
     rcases Nat.lt_or_ge j i with h |h
     ·exact hp.2 j h
     ·obtain rfl:j=i:=by omega
      exact hq
   ·have hl:=of_decide_eq_false hl
    have hall:allB am.len (amNE am b)=true:=allB_yes fun j hj=>hp.2 j (by omega)
    rw [hall];rfl
  ·unfold stN stNF
   have z6:=ne_of_beq_false k6
   have z2:=ne_of_beq_false k2
   have z3:=ne_of_beq_false k3
   have z5:=ne_of_beq_false k5
   rw [if_neg (by omega),if_neg z6,if_neg z2,if_neg z3,if_neg z5];rfl
 ·trivial
theorem bdd_step (m:Nat) (ih:ConOK Tryz.prog 46 (con [lBo,lI] (bddSu m))):ConOK Tryz.prog 46 (con [lBo,lI] (bddSu (m+1))):=by
 refine fn_ob tt_ok mixed Tryz.func46 rfl (fun _ _=>by kernel_rfl) (A:=fun ds=>⟨fun _=>Cons.of [(68,(sddC m))],fun k=>match k,ds with | 2,[.d d,.i b]=>some {ι:=Nat,pre:=fun _ i=>i<=d.len/\∀ j,j<i->stNE d b j=true,μ:=fun i=>d.len-i,st:=fun s i=>famR s [(9,.one (.sc (.int .i64 (.sym ((i:Int))))))] [1,7,8] [] []} |_,_=>none,fun _=>none⟩) (fun _ _=>(cons_cons (sdd_ok ih) cons_nil)) (by kernel_rfl) ?_
 intro ds fr
 unfold bddSu
 split
 ·rename_i d b
  refine kmp (q:=SizeOf.sizeOf d<m+(1:Nat)->sOK d->bA d=true->(0:Int)<=b/\b<=(24:Int)->(∃ (i:Nat),(i<=d.len/\∀ (j:Nat),j<i->stNE d b j=true)/\(0:Int)=(↑i:Int)/\b=b/\d.rows=d.rows/\(↑d.len:Int)=(↑d.len:Int))/\∀ (i:Nat),(i<=d.len/\∀ (j:Nat),j<i->stNE d b j=true)->(decide ((↑i:Int)<(↑d.len:Int))=true->((0:Int)<=(↑i:Int)/\(↑i:Int)<(↑d.len:Int))/\SizeOf.sizeOf (d.el (↑i:Int).toNat 16)<m/\SizeOf.sizeOf (d.el (↑i:Int).toNat 17)<m/\SizeOf.sizeOf (d.el (↑i:Int).toNat 18)<m/\sOK (d.el (↑i:Int).toNat 16)/\sOK (d.el (↑i:Int).toNat 17)/\amOK (d.el (↑i:Int).toNat 18)/\stA (d.el (↑i:Int).toNat (0:Nat)).toI (d.el (↑i:Int).toNat 1).toS (d.el (↑i:Int).toNat 2).toS (d.el (↑i:Int).toNat 3).toI (d.el (↑i:Int).toNat 4).toI (d.el (↑i:Int).toNat 5).toS (d.el (↑i:Int).toNat 6) (d.el (↑i:Int).toNat 7).toI (d.el (↑i:Int).toNat 8).toI (d.el (↑i:Int).toNat 9).toI (d.el (↑i:Int).toNat 10).toS (d.el (↑i:Int).toNat 11) (d.el (↑i:Int).toNat 12).toI (d.el (↑i:Int).toNat 13).toI (d.el (↑i:Int).toNat 14).toS (d.el (↑i:Int).toNat 15) (d.el (↑i:Int).toNat 16) (d.el (↑i:Int).toNat 17) (d.el (↑i:Int).toNat 18)=true/\((0:Int)<=b/\b<=(24:Int))/\((!stN (d.el (↑i:Int).toNat (0:Nat)).toI (d.el (↑i:Int).toNat 1).toS (d.el (↑i:Int).toNat 2).toS (d.el (↑i:Int).toNat 3).toI (d.el (↑i:Int).toNat 4).toI (d.el (↑i:Int).toNat 5).toS (d.el (↑i:Int).toNat 6) (d.el (↑i:Int).toNat 7).toI (d.el (↑i:Int).toNat 8).toI (d.el (↑i:Int).toNat 9).toI (d.el (↑i:Int).toNat 10).toS (d.el (↑i:Int).toNat 11) (d.el (↑i:Int).toNat 12).toI (d.el (↑i:Int).toNat 13).toI (d.el (↑i:Int).toNat 14).toS (d.el (↑i:Int).toNat 15) (d.el (↑i:Int).toNat 16) (d.el (↑i:Int).toNat 17) (d.el (↑i:Int).toNat 18) b)=true->true = !bN d b)/\((!stN (d.el (↑i:Int).toNat (0:Nat)).toI (d.el (↑i:Int).toNat 1).toS (d.el (↑i:Int).toNat 2).toS (d.el (↑i:Int).toNat 3).toI (d.el (↑i:Int).toNat 4).toI (d.el (↑i:Int).toNat 5).toS (d.el (↑i:Int).toNat 6) (d.el (↑i:Int).toNat 7).toI (d.el (↑i:Int).toNat 8).toI (d.el (↑i:Int).toNat 9).toI (d.el (↑i:Int).toNat 10).toS (d.el (↑i:Int).toNat 11) (d.el (↑i:Int).toNat 12).toI (d.el (↑i:Int).toNat 13).toI (d.el (↑i:Int).toNat 14).toS (d.el (↑i:Int).toNat 15) (d.el (↑i:Int).toNat 16) (d.el (↑i:Int).toNat 17) (d.el (↑i:Int).toNat 18) b)=false->∃ (j:Nat),(j<=d.len/\∀ (j_1:Nat),j_1<j->stNE d b j_1=true)/\d.len-j<d.len-i/\IntKind.i64.wrap ((↑i:Int)+(1:Int))=(↑j:Int)/\b=b/\d.rows=d.rows/\(↑d.len:Int)=(↑d.len:Int)))/\(decide ((↑i:Int)<(↑d.len:Int))=false->false = !bN d b)) (by kernel_rfl) ?_
  intro hm hs ha hb0
  have ha2:=ha
  rw [bA_eq] at ha2
  have ha2:=allB_iff.1 ha2
  have e0:∀ (i:Nat),((i:Int)).toNat=i:=fun i=>Int.toNat_natCast i
  simp only [Nat.zero_add,Nat.reduceAdd,e0]
  rw [bN_eq]
  refine ⟨⟨0,⟨Nat.zero_le _,fun j hj=>absurd hj (Nat.not_lt_zero j)⟩,by (repeat' apply And.intro)<;>first |trivial |rfl |(intro _ _;rfl) |(intro _ _;trivial)⟩,fun i hp=>⟨fun hl=>?_,fun hl=>?_⟩⟩
  ·have hl:=of_decide_eq_true hl
   have hb:=((sOK_iff d).1 hs).1
   have hi:i<d.len:=by omega
   have hw:IntKind.i64.wrap ((i:Int)+1)=((i+1:Nat):Int):=by rw [IntWalk.i64_in _ (by omega)];omega
   have z1:=lel_lt (j:=16) hi
   have z2:=lel_lt (j:=17) hi
   have z3:=lel_lt (j:=18) hi
   obtain ⟨s1,s2,s3⟩:=((sOK_iff d).1 hs).2 i hi
   refine ⟨⟨by omega,by omega⟩,by omega,by omega,by omega,s1,s2,s3,ha2 i hi,hb0,fun hq=>?_,fun hq=>?_⟩
   ·have hq:stNE d b i=false:=by rw [Bool.not_eq_true'] at hq;exact hq
    rw [allB_no hi hq];rfl
   ·have hq:stNE d b i=true:=by rw [Bool.not_eq_false'] at hq;exact hq
    refine ⟨i+1,⟨by omega,fun j hj=>?_⟩,by omega,hw,by (repeat' apply And.intro)<;>first |trivial |rfl |(intro _ _;rfl) |(intro _ _;trivial)⟩
    rcases Nat.lt_or_ge j i with h |h
    ·exact hp.2 j h
    ·obtain rfl:j=i:=by omega
     exact hq
  ·have hl:=of_decide_eq_false hl
   have hall:allB d.len (stNE d b)=true:=allB_yes fun j hj=>hp.2 j (by omega)
   rw [hall];rfl
 ·trivial
theorem bdd_ok:ConOK Tryz.prog 46 bddC:=
 con_rec bddM (fun _ _=>by kernel_rfl) fun m ih=>by
  rw [bdd_under] at ih ⊢
  exact bdd_step m ih
end Go.Proofs.YthpponmbpoaffaaGreatDoor.Sx.Z
namespace Go.Proofs.YthpponmbpoaffaaGreatDoor.Sx.Z
open Go.RowKit
def prNE (d:D) (i:Nat):Bool:=bN (d.el i 2) 0
def syN (pr:D):Bool:=allB pr.len (prNE pr)
def itW (n:Int):ByteArray:=⟨(Lib.itoa n).toArray⟩
def nI (n:Int):Prop:=-9223372036854775808<=n/\n<=9223372036854775807
def sR (s:ByteArray):List D:=[D.s s]
def cat (w:D) (l:List ByteArray):D:=.l ((w.rows++l.map sR).take 2001)
def wsL (ws:D) (n:Nat):List ByteArray:=(List.range n).map fun j=>(ws.el j 0).toS
theorem cat_len (w:D) (l:List ByteArray):(cat w l).len=min 2001 (w.len+l.length):=by
 show ((w.rows++l.map sR).take 2001).length=_
 rw [List.length_take,List.length_append,List.length_map];rfl
theorem cat_le (w:D) (l:List ByteArray):(cat w l).len<=2001:=by rw [cat_len];omega
theorem cat_cat (w:D) (l m:List ByteArray):cat (cat w l) m=cat w (l++m):=by
 unfold cat
 congr 1
 show (((w.rows++l.map sR).take 2001)++m.map sR).take 2001=_
 rw [List.map_append,<- List.append_assoc]
 rw [List.take_append (l₁:=(w.rows++l.map sR).take 2001),List.take_append (l₁:=w.rows++l.map sR),List.take_take,List.length_take,Nat.min_self]
 congr 1
 rcases Nat.le_total 2001 (w.rows++l.map sR).length with h |h
 ·rw [Nat.min_eq_left h,Nat.sub_self,show 2001-(w.rows++l.map sR).length=0 by omega]
 ·rw [Nat.min_eq_right h]
theorem cat_one {w:D} (h:w.len<=2000) (s:ByteArray):cat w [s] = .l (w.rows++[[D.s s]]):=by
 unfold cat
 rw [List.take_of_length_le];· rfl
 rw [List.length_append]
 have:w.rows.length=w.len:=rfl
 simp;omega
theorem cat_full {w:D} (h:w.len=2001) (l:List ByteArray):cat w l=w:=by
 unfold cat
 rw [List.take_append_of_le_length (by show 2001<=w.rows.length;rw [show w.rows.length=w.len from rfl];omega),List.take_of_length_le (by rw [show w.rows.length=w.len from rfl];omega)]
 cases w with
 |l r=>rfl
 |i n=>exact absurd (show (0:Nat)=2001 from h) (by decide)
 |b n=>exact absurd (show (0:Nat)=2001 from h) (by decide)
 |s n=>exact absurd (show (0:Nat)=2001 from h) (by decide)
noncomputable def sydS:FSpec:=fun ds _=>match ds with
 | [.d ch,.d ru,.d pr]=>some {val:=.one (.sc (.bool (.sym (!syN pr)))),vc:=[SyOK ch ru pr,syB ch ru pr=true]}
 |_=>none
noncomputable def sydC:Con:=con [lSy] sydS
theorem syd_ok:ConOK Tryz.prog 24 sydC:=by
 refine fn_ob tt_ok mixed Tryz.func24 rfl (fun _ _=>by kernel_rfl) (A:=fun ds=>⟨fun _=>Cons.of [(46,bddC)],fun k=>match k,ds with | 2,[.d ch,.d ru,.d pr]=>some {ι:=Nat,pre:=fun _ i=>i<=pr.len/\∀ j,j<i->prNE pr j=true,μ:=fun i=>pr.len-i,st:=fun s i=>famR s [(8,.one (.sc (.int .i64 (.sym ((i:Int))))))] [6,7] [] []} |_,_=>none,fun _=>none⟩) (fun _ _=>(cons_cons bdd_ok cons_nil)) (by kernel_rfl) ?_
 intro ds fr
 unfold sydS
 split
 ·rename_i ch ru pr
  refine kmp (q:=SyOK ch ru pr->syB ch ru pr=true->(∃ (i:Nat),(i<=pr.len/\∀ (j:Nat),j<i->prNE pr j=true)/\(0:Int)=(↑i:Int)/\pr.rows=pr.rows/\(↑pr.len:Int)=(↑pr.len:Int))/\∀ (i:Nat),(i<=pr.len/\∀ (j:Nat),j<i->prNE pr j=true)->(decide ((↑i:Int)<(↑pr.len:Int))=true->((0:Int)<=(↑i:Int)/\(↑i:Int)<(↑pr.len:Int))/\sOK (pr.el (↑i:Int).toNat 2)/\bA (pr.el (↑i:Int).toNat 2)=true/\((0:Int)<=(0:Int)/\(0:Int)<=(24:Int))/\((!bN (pr.el (↑i:Int).toNat 2) (0:Int))=true->true = !syN pr)/\((!bN (pr.el (↑i:Int).toNat 2) (0:Int))=false->∃ (j:Nat),(j<=pr.len/\∀ (j_1:Nat),j_1<j->prNE pr j_1=true)/\pr.len-j<pr.len-i/\IntKind.i64.wrap ((↑i:Int)+(1:Int))=(↑j:Int)/\pr.rows=pr.rows/\(↑pr.len:Int)=(↑pr.len:Int)))/\(decide ((↑i:Int)<(↑pr.len:Int))=false->false = !syN pr)) (by kernel_rfl) ?_
  intro hs hr
  unfold syB at hr
  simp only [Bool.and_eq_true] at hr
  have hpr:=allB_iff.1 hr.2.2
  have e0:∀ (i:Nat),((i:Int)).toNat=i:=fun i=>Int.toNat_natCast i
  simp only [Nat.zero_add,Nat.reduceAdd,e0]
  unfold syN
  refine ⟨⟨0,⟨Nat.zero_le _,fun j hj=>absurd hj (Nat.not_lt_zero j)⟩,by (repeat' apply And.intro)<;>first |trivial |rfl |(intro _ _;rfl) |(intro _ _;trivial)⟩,fun i hp=>⟨fun hl=>?_,fun hl=>?_⟩⟩
  ·have hl:=of_decide_eq_true hl
   have hb:=hs.p
   have hi:i<pr.len:=by omega
   have hw:IntKind.i64.wrap ((i:Int)+1)=((i+1:Nat):Int):=by rw [IntWalk.i64_in _ (by omega)];omega
   have v2:=hs.pb i hi
   have r1:=hpr i hi
   unfold prE at r1
   simp only [Bool.and_eq_true] at r1
   refine ⟨⟨by omega,by omega⟩,v2,r1.2,by omega,fun hq=>?_,fun hq=>?_⟩
   ·have hq:prNE pr i=false:=by rw [Bool.not_eq_true'] at hq;exact hq
    rw [allB_no hi hq];rfl
   ·have hq:prNE pr i=true:=by rw [Bool.not_eq_false'] at hq;exact hq
    refine ⟨i+1,⟨by omega,fun j hj=>?_⟩,by omega,hw,by (repeat' apply And.intro)<;>first |trivial |rfl |(intro _ _;rfl) |(intro _ _;trivial)⟩
    rcases Nat.lt_or_ge j i with h |h
    ·exact hp.2 j h
    ·obtain rfl:j=i:=by omega
     exact hq
  ·have hl:=of_decide_eq_false hl
   have hall:allB pr.len (prNE pr)=true:=allB_yes fun j hj=>hp.2 j (by omega)
   rw [hall];rfl
 ·trivial
noncomputable def itS:FSpec:=fun ds _=>match ds with
 | [.i n]=>some {val:=.one (.sc (.raw (.string (itW n)))),vc:=[nI n]}
 |_=>none
noncomputable def itC:Con:=con [lI] itS
noncomputable def clS:FSpec:=fun ds _=>match ds with
 | [.s s]=>some {val:=.one (.sc (.raw (.string (s)))),vc:=[s.size<=281474976710656]}
 |_=>none
noncomputable def clC:Con:=con [.sc .str] clS
theorem it_ok:ConOK Tryz.prog 71 itC:=by
 refine ⟨fun _ _=>by kernel_rfl,fun hp fr args e he hv w0 w ρ vs hw _ ha=>?_,fun _ _ _ _ h=>nomatch (con_jf _ _ _ _ _).symm.trans h⟩
 unfold itC con at he
 split at he
 ·rename_i ds ps hds
  split at he
  ·rename_i e1 he1
   unfold itS at he1
   split at he1
   ·rename_i n
    obtain rfl:=Option.some.inj he1
    obtain rfl:=Option.some.inj he
    obtain ⟨hp1,hp2⟩:=all_append.1 hv
    obtain ⟨svs,h,ρ1,id,hun,_,_,hrel⟩:=unP_spec hw [lI] args _ ps hds hp1 vs ha (ids:=keepOwn hp (idsX hp args)) (fun i hi ho=>keepOwn_mem.2 ⟨hi,ho⟩) 0
    obtain rfl:svs=_:=(congrArg Prod.fst (Option.some.inj hun)).symm
    match vs,hrel with
    | [x],⟨hx,_⟩=>
      have hx:x = .int .i64 n:=hx
      subst hx
      obtain ⟨hn,_⟩:=hp2
      obtain ⟨g, hg⟩ := Option.isSome_iff_exists.1 (show (PG.globalNamed "internal/strconv.uint64pow10").isSome = true by kernel_rfl)
      have ht:=hw.tab g _ ⟨hg,rfl⟩
      rw [<- hw.f00] at ht
      obtain ⟨T,z,hh⟩:=hw.froz _ _ (hw.sub _ _ ht)
      have htab : Lib.TabIs Tryz.prog w "internal/strconv.uint64pow10" .u64 Lib.pow10Tab := by
       have hg' : Tryz.prog.globalNamed "internal/strconv.uint64pow10" = some g := hg
       unfold Lib.TabIs World.var?
       rw [hg']
       show (match w.heap[g]? with |some (.cells cs _ _)=>some cs |_=>none)=_
       rw [hh]
      refine (Tryz.strconv_Itoa n hn.1 hn.2 w htab).mono ?_
      rintro en w' ⟨rfl,k,os,rfl⟩
      have hb:=Lib.below_grow w.heap.size w (Nat.le_refl _) k os
      refine ⟨ρ,_,rfl,rfl,⟨fun _ _ h=>h,fun _ _=>rfl,fun _ _ h=>h,rfl,rfl⟩,fun _ _=>rfl,hb.mono (Nat.zero_le _),fun b hlt _=>hb.block b hlt,fun i x hx=>?_,fun i x hx=>?_,fun i j x y hx=>?_,fun b cs hcs=>.inl hcs⟩
      ·cases hx
      ·cases hx
      ·cases hx
   ·cases he1
  ·cases he
 ·cases he
theorem cl_ok:ConOK Tryz.prog 32 clC:=by
 refine ⟨fun _ _=>by kernel_rfl,fun hp fr args e he hv w0 w ρ vs hw _ ha=>?_,fun _ _ _ _ h=>nomatch (con_jf _ _ _ _ _).symm.trans h⟩
 unfold clC con at he
 split at he
 ·rename_i ds ps hds
  split at he
  ·rename_i e1 he1
   unfold clS at he1
   split at he1
   ·rename_i s
    obtain rfl:=Option.some.inj he1
    obtain rfl:=Option.some.inj he
    obtain ⟨hp1,hp2⟩:=all_append.1 hv
    obtain ⟨svs,h,ρ1,id,hun,_,_,hrel⟩:=unP_spec hw [.sc .str] args _ ps hds hp1 vs ha (ids:=keepOwn hp (idsX hp args)) (fun i hi ho=>keepOwn_mem.2 ⟨hi,ho⟩) 0
    obtain rfl:svs=_:=(congrArg Prod.fst (Option.some.inj hun)).symm
    match vs,hrel with
    | [x],⟨hx,_⟩=>
      have hx:x = .string s:=hx
      subst hx
      refine (clone_any s w hp2.1).mono ?_
      rintro en w' ⟨rfl,hb⟩
      refine ⟨ρ,_,rfl,rfl,⟨fun _ _ h=>h,fun _ _=>rfl,fun _ _ h=>h,rfl,rfl⟩,fun _ _=>rfl,hb.mono (Nat.zero_le _),fun b hlt _=>hb.block b hlt,fun i x hx=>?_,fun i x hx=>?_,fun i j x y hx=>?_,fun b cs hcs=>.inl hcs⟩
      ·cases hx
      ·cases hx
      ·cases hx
   ·cases he1
  ·cases he
 ·cases he
end Go.Proofs.YthpponmbpoaffaaGreatDoor.Sx.Z
namespace Go.Proofs.YthpponmbpoaffaaGreatDoor.Sx.Z
open Go.RowKit
def putD (w ws:D):D:=cat w (wsL ws ws.len)
theorem wsL_succ (ws:D) (n:Nat):wsL ws (n+1)=wsL ws n++[(ws.el n 0).toS]:=by
 unfold wsL
 rw [List.range_succ,List.map_append];rfl
theorem wsL_add (ws:D) (n:Nat):∀ m,∃ l,wsL ws (n+m)=wsL ws n++l
 | 0=>⟨[],by simp⟩
 |m+1=>by
  obtain ⟨l,h⟩:=wsL_add ws n m
  exact ⟨l++[(ws.el (n+m) 0).toS],by rw [<- Nat.add_assoc,wsL_succ,h,List.append_assoc]⟩
theorem cat_stop {w ws:D} {i:Nat} (hi:i<=ws.len) (h:(cat w (wsL ws i)).len>2000):putD w ws=cat w (wsL ws i):=by
 obtain ⟨l,e⟩:=wsL_add ws i (ws.len-i)
 have h1:=cat_le w (wsL ws i)
 unfold putD
 rw [show ws.len=i+(ws.len-i) by omega,e,<- cat_cat,cat_full (by omega)]
noncomputable def tooMS:List Dat->Option (Eff × List Seg):=fun ds=>match ds with
 | [.d w]=>some ({val:=.one (.sc (.bool (.sym (decide ((w.len:Int)>2000))))),vc:=[w.len<=10000000000000],nw:=[(0,.orow 9 (w))]},[.c (.osl 9 0 (.lit 0) (.sym (w).len))])
 |_=>none
noncomputable def tooMC:Con:=conM 96 [.own 9] [] tooMS
theorem tooM_ok:ConOK Tryz.prog 26 tooMC:=by
 refine fn_obM tt_ok mixed Tryz.func26 rfl (fun _ _=>by kernel_rfl) (A:=fun ds=>⟨fun _=>Cons.of [],fun _=>none,fun _=>none⟩) (fun _ _=>cons_nil) (by kernel_rfl) ?_
 intro ds
 unfold tooMS
 split
 ·rename_i w
  refine kmp (q:=w.len<=(10000000000000:Nat)->decide ((↑w.len:Int)>(2000:Int))=decide ((↑w.len:Int)>(2000:Int))/\w.len=w.len/\w.rows=w.rows) (by kernel_rfl) ?_
  intro _
  exact ⟨rfl,rfl,rfl⟩
 ·trivial
noncomputable def putS:List Dat->Option (Eff × List Seg):=fun ds=>match ds with
 | [.d w,.d ws]=>some ({val:=.tup [],vc:=[w.len<=2001,ws.len<=1000,∀ j,j<ws.len->(ws.el j 0).toS.size<=281474976710656],nw:=[(0,.orow 9 (putD w ws))]},[.c (.osl 9 0 (.lit 0) (.sym (putD w ws).len))])
 |_=>none
noncomputable def putC:Con:=conM 96 [.own 9] [lNs] putS
theorem put_ok:ConOK Tryz.prog 69 putC:=by
 refine fn_obM tt_ok mixed Tryz.func69 rfl (fun _ _=>by kernel_rfl) (A:=fun ds=>⟨fun _=>Cons.of [(26,tooMC),(32,clC)],fun k=>match k,ds with | 1,[.d w,.d ws]=>some {ι:=Nat,pre:=fun _ i=>i<=ws.len,μ:=fun i=>ws.len-i,st:=fun s i=>famR s [(8,.one (.sc (.int .i64 (.sym ((i:Int))))))] [0,6,7] [(0,.own 96 ([.c (.osl 9 1 (.lit 0) (.sym (cat w (wsL ws i)).len))])),(1,.orow 9 (cat w (wsL ws i)))] []} |_,_=>none,fun _=>none⟩) (fun _ _=>(cons_cons tooM_ok (cons_cons cl_ok cons_nil))) (by kernel_rfl) ?_
 intro ds
 unfold putS
 split
 ·rename_i w ws
  refine kmp (q:=w.len<=(2001:Nat)->ws.len<=(1000:Nat)->(∀ (j:Nat),j<ws.len->(ws.el j (0:Nat)).toS.size<=(281474976710656:Nat))->(∃ (i:Nat),i.le ws.len/\(0:Int)=(↑i:Int)/\ws.rows=ws.rows/\(↑ws.len:Int)=(↑ws.len:Int)/\w.len=(cat w (wsL ws i)).len/\w.rows=List.take (2001:Nat) (w.rows++List.map sR (wsL ws i)))/\∀ (i:Nat),i.le ws.len->(decide ((↑i:Int)<(↑ws.len:Int))=true->((0:Int)<=(↑i:Int)/\(↑i:Int)<(↑ws.len:Int))/\(0:Nat)=(0:Nat)/\(cat w (wsL ws i)).len=(cat w (wsL ws i)).len/\(cat w (wsL ws i)).len<=(10000000000000:Nat)/\(decide ((↑(cat w (wsL ws i)).len:Int)>(2000:Int))=true->(cat w (wsL ws i)).len=(putD w ws).len/\List.take (2001:Nat) (w.rows++List.map sR (wsL ws i))=List.take (2001:Nat) (w.rows++List.map sR (wsL ws ws.len)))/\(decide ((↑(cat w (wsL ws i)).len:Int)>(2000:Int))=false->(ws.el (↑i:Int).toNat (0:Nat)).toS.size<=(281474976710656:Nat)/\(cat w (wsL ws i)).len=(cat w (wsL ws i)).len/\((cat w (wsL ws i)).len+((D.l [[D.s (ws.el (↑i:Int).toNat (0:Nat)).toS]]).sub (0:Nat) 1).len)*(16:Nat)<=(140737488355328:Nat)/\(0:Nat)+(1:Nat)<=(D.l [[D.s (ws.el (↑i:Int).toNat (0:Nat)).toS]]).len/\∃ (j:Nat),j.le ws.len/\ws.len-j<ws.len-i/\IntKind.i64.wrap ((↑i:Int)+(1:Int))=(↑j:Int)/\ws.rows=ws.rows/\(↑ws.len:Int)=(↑ws.len:Int)/\(cat w (wsL ws i)).len+((D.l [[D.s (ws.el (↑i:Int).toNat (0:Nat)).toS]]).sub (0:Nat) 1).len=(cat w (wsL ws j)).len/\List.take (2001:Nat) (w.rows++List.map sR (wsL ws i))++List.drop (0:Nat) (List.take 1 [[D.s (ws.el (↑i:Int).toNat (0:Nat)).toS]])=List.take (2001:Nat) (w.rows++List.map sR (wsL ws j))))/\(decide ((↑i:Int)<(↑ws.len:Int))=false->(cat w (wsL ws i)).len=(putD w ws).len/\List.take (2001:Nat) (w.rows++List.map sR (wsL ws i))=List.take (2001:Nat) (w.rows++List.map sR (wsL ws ws.len)))) (by kernel_rfl) ?_
  intro h1 h2 h3
  have e0:∀ (i:Nat),((i:Int)).toNat=i:=fun i=>Int.toNat_natCast i
  simp only [e0]
  refine ⟨⟨0,Nat.zero_le _,rfl,trivial,trivial,?_,?_⟩,fun i hi=>⟨fun hl=>?_,fun hl=>?_⟩⟩
  ·rw [cat_len]
   show w.len=min 2001 (w.len+0)
   omega
  ·show w.rows=List.take 2001 (w.rows++[])
   rw [List.append_nil,List.take_of_length_le (show w.len<=2001 from h1)]
  ·have hl:=of_decide_eq_true hl
   have hi:i<ws.len:=by omega
   have hw:IntKind.i64.wrap ((i:Int)+1)=((i+1:Nat):Int):=by rw [IntWalk.i64_in _ (by omega)];omega
   refine ⟨⟨by omega,by omega⟩,trivial,trivial,by have:=cat_le w (wsL ws i);omega,fun hc=>?_,fun hc=>?_⟩
   ·have hc:=of_decide_eq_true hc
    have e:=cat_stop (w:=w) (Nat.le_of_lt hi) (by omega)
    exact ⟨by rw [e],congrArg D.rows e.symm⟩
   ·have hc:=of_decide_eq_false hc
    have e:cat w (wsL ws (i+1))=D.l ((cat w (wsL ws i)).rows++[[D.s (ws.el i 0).toS]]):=by rw [wsL_succ,<- cat_cat,cat_one (by omega)]
    have l1:((D.l [[D.s (ws.el i 0).toS]]).sub 0 (0+1)).len=1:=rfl
    rw [l1]
    refine ⟨h3 i hi,trivial,by omega,Nat.le_refl _,i+1,hi,by omega,hw,trivial,trivial,?_,congrArg D.rows e.symm⟩
    rw [e]
    show _=((cat w (wsL ws i)).rows++[[D.s (ws.el i 0).toS]]).length
    rw [List.length_append];rfl
  ·have hl:=of_decide_eq_false hl
   have hi:i=ws.len:=by have:i<=ws.len:=hi;omega
   rw [hi]
   exact ⟨rfl,rfl⟩
 ·trivial
end Go.Proofs.YthpponmbpoaffaaGreatDoor.Sx.Z
namespace Go.Proofs.YthpponmbpoaffaaGreatDoor.Sx.Z
open Go.RowKit
def chW (k:Int):ByteArray:=if k=0 then ⟨#[98,108,111,99,107]⟩ else if k=1 then ⟨#[100,114,111,112]⟩ else ⟨#[108,111,115,115,121]⟩
def biW (k:Int):ByteArray:=if k=4 then ⟨#[43]⟩ else if k=5 then ⟨#[45]⟩ else if k=6 then ⟨#[42]⟩ else if k=7 then ⟨#[47]⟩ else ⟨#[37]⟩
def cmW (k:Int):ByteArray:=if k=1 then ⟨#[61,61]⟩ else if k=2 then ⟨#[33,61]⟩ else if k=3 then ⟨#[60]⟩ else if k=4 then ⟨#[60,61]⟩ else if k=5 then ⟨#[62]⟩ else ⟨#[62,61]⟩
def par (b:Bool) (l:List ByteArray):List ByteArray:=if b=true then ⟨#[40]⟩::(l++[⟨#[41]⟩]) else l
def xWb (k n:Int) (s:ByteArray) (q:Nat->Int) (f:Nat->List ByteArray):List ByteArray:=
 if k=1 then [itW n] else if k=2 then [s] else if k=3 then ⟨#[45]⟩::par (brB 3 0 (q 0)) (f 0) else if biB k=true then par (brB k 0 (q 0)) (f 0)++(biW k::par (brB k 1 (q 1)) (f 1)) else []
def kW (d:D) (i:Nat):List ByteArray:=if h:i<d.len then xWb (d.el i 0).toI (d.el i 1).toI (d.el i 2).toS (fun j=>((d.el i 3).el j 0).toI) (fun j=>kW (d.el i 3) j) else []
 termination_by SizeOf.sizeOf d
 decreasing_by exact lel_lt h
def xW (k n:Int) (s:ByteArray) (d:D):List ByteArray:=xWb k n s (fun j=>(d.el j 0).toI) (kW d)
theorem kW_eq {d:D} {i:Nat} (h:i<d.len):kW d i=xW (d.el i 0).toI (d.el i 1).toI (d.el i 2).toS (d.el i 3):=by
 rw [kW,dif_pos h];rfl
def xFb (k n:Int) (s:ByteArray) (len:Nat) (f:Nat->Prop):Prop:=(k=1->nI n)/\(k=2->s.size<=1000000000)/\(k=3->len=1/\f 0)/\(biB k=true->len=2/\f 0/\f 1)
def kF (d:D) (i:Nat):Prop:=if h:i<d.len then xFb (d.el i 0).toI (d.el i 1).toI (d.el i 2).toS (d.el i 3).len (fun j=>kF (d.el i 3) j) else True
 termination_by SizeOf.sizeOf d
 decreasing_by exact lel_lt h
def xF (k n:Int) (s:ByteArray) (d:D):Prop:=xFb k n s d.len (kF d)
theorem kF_eq {d:D} {i:Nat} (h:i<d.len):kF d i=xF (d.el i 0).toI (d.el i 1).toI (d.el i 2).toS (d.el i 3):=by
 rw [kF,dif_pos h];rfl
def wsR (l:List ByteArray):D:=.l (l.map sR)
theorem wsR_len (l:List ByteArray):(wsR l).len=l.length:=List.length_map ..
theorem wsR_el {l:List ByteArray} {j:Nat} (h:j<l.length):((wsR l).el j 0).toS=l[j]:=by
 show ((((l.map sR).getD j []).getD 0 (.i 0))).toS=_
 rw [List.getD_eq_getElem?_getD (l:=l.map sR),List.getElem?_map,List.getElem?_eq_getElem h];rfl
theorem put_eq (w:D) (l:List ByteArray):putD w (wsR l)=cat w l:=by
 unfold putD
 congr 1
 rw [wsR_len]
 unfold wsL
 apply List.ext_getElem
 ·rw [List.length_map,List.length_range]
 ·intro i h1 h2
  rw [List.getElem_map,List.getElem_range,wsR_el h2]
theorem wsR_ok {l:List ByteArray} (h:∀ a∈l,a.size<=281474976710656):∀ j,j<(wsR l).len->((wsR l).el j 0).toS.size<=281474976710656:=fun j hj=>by
 rw [wsR_len] at hj
 rw [wsR_el hj]
 exact h _ (List.getElem_mem hj)
theorem ok1 {a:ByteArray} (h:a.size<=281474976710656):∀ j,j<(D.l [[D.s a]]).len->((D.l [[D.s a]]).el j 0).toS.size<=281474976710656:=wsR_ok (l:=[a]) (by simpa using h)
theorem put1s (w:D) (a:ByteArray):putD w ((D.l [[D.s a]]).sub 0 (0+1))=cat w [a]:=put_eq w [a]
theorem eqD {a b:D} (h:a=b):a.len=b.len/\a.rows=b.rows:=by rw [h];exact ⟨rfl,rfl⟩
theorem cat_nil {w:D} (h:w.len<=2001):w.len=(cat w []).len/\w.rows=(cat w []).rows:=by
 constructor
 ·rw [cat_len]
  show w.len=min 2001 (w.len+0)
  omega
 ·show w.rows=List.take 2001 (w.rows++[])
  rw [List.append_nil,List.take_of_length_le (show w.len<=2001 from h)]
theorem itW_size {n:Int} (h:nI n):(itW n).size<=21:=Lib.itoa_length_le n h.1 h.2
theorem biW_size (k:Int):(biW k).size<=2:=by
 unfold biW
 (repeat' split)<;>decide
theorem cmW_size (k:Int):(cmW k).size<=2:=by
 unfold cmW
 (repeat' split)<;>decide
theorem chW_size (k:Int):(chW k).size<=5:=by
 unfold chW
 (repeat' split)<;>decide
noncomputable def chwS:FSpec:=fun ds _=>match ds with
 | [.i k]=>some {val:=.one (.sc (.raw (.string (chW k)))),vc:=[]}
 |_=>none
noncomputable def chwC:Con:=con [lI] chwS
theorem chw_ok:ConOK Tryz.prog 70 chwC:=by
 refine fn_ob tt_ok mixed Tryz.func70 rfl (fun _ _=>by kernel_rfl) (A:=fun ds=>⟨fun _=>Cons.of [],fun _=>none,fun _=>none⟩) (fun _ _=>cons_nil) (by kernel_rfl) ?_
 intro ds fr
 unfold chwS
 split
 ·rename_i k
  refine kmp (q:=((k==(0:Int))=true->Value.string {data:=#[(98:UInt8),(108:UInt8),(111:UInt8),(99:UInt8),(107:UInt8)]}=Value.string (chW k))/\((k==(0:Int))=false->((k==(1:Int))=true->Value.string {data:=#[(100:UInt8),(114:UInt8),(111:UInt8),(112:UInt8)]}=Value.string (chW k))/\((k==(1:Int))=false->Value.string {data:=#[(108:UInt8),(111:UInt8),(115:UInt8),(115:UInt8),(121:UInt8)]}=Value.string (chW k)))) (by kernel_rfl) ?_
  refine ⟨fun h=>?_,fun n1=>⟨fun h=>?_,fun n2=>?_⟩⟩
  iterate 2 (obtain rfl:=eq_of_beq h;rfl)
  unfold chW
  rw [if_neg (ne_of_beq_false n1),if_neg (ne_of_beq_false n2)]
 ·trivial
noncomputable def biwS:FSpec:=fun ds _=>match ds with
 | [.i k]=>some {val:=.one (.sc (.raw (.string (biW k)))),vc:=[]}
 |_=>none
noncomputable def biwC:Con:=con [lI] biwS
theorem biw_ok:ConOK Tryz.prog 115 biwC:=by
 refine fn_ob tt_ok mixed Tryz.func115 rfl (fun _ _=>by kernel_rfl) (A:=fun ds=>⟨fun _=>Cons.of [],fun _=>none,fun _=>none⟩) (fun _ _=>cons_nil) (by kernel_rfl) ?_
 intro ds fr
 unfold biwS
 split
 ·rename_i k
  refine kmp (q:=((k==(4:Int))=true->Value.string {data:=#[(43:UInt8)]}=Value.string (biW k))/\((k==(4:Int))=false->((k==(5:Int))=true->Value.string {data:=#[(45:UInt8)]}=Value.string (biW k))/\((k==(5:Int))=false->((k==(6:Int))=true->Value.string {data:=#[(42:UInt8)]}=Value.string (biW k))/\((k==(6:Int))=false->((k==(7:Int))=true->Value.string {data:=#[(47:UInt8)]}=Value.string (biW k))/\((k==(7:Int))=false->Value.string {data:=#[(37:UInt8)]}=Value.string (biW k)))))) (by kernel_rfl) ?_
  refine ⟨fun h=>?_,fun n1=>⟨fun h=>?_,fun n2=>⟨fun h=>?_,fun n3=>⟨fun h=>?_,fun n4=>?_⟩⟩⟩⟩
  iterate 4 (obtain rfl:=eq_of_beq h;rfl)
  unfold biW
  rw [if_neg (ne_of_beq_false n1),if_neg (ne_of_beq_false n2),if_neg (ne_of_beq_false n3),if_neg (ne_of_beq_false n4)]
 ·trivial
noncomputable def cmwS:FSpec:=fun ds _=>match ds with
 | [.i k]=>some {val:=.one (.sc (.raw (.string (cmW k)))),vc:=[]}
 |_=>none
noncomputable def cmwC:Con:=con [lI] cmwS
theorem cmw_ok:ConOK Tryz.prog 116 cmwC:=by
 refine fn_ob tt_ok mixed Tryz.func116 rfl (fun _ _=>by kernel_rfl) (A:=fun ds=>⟨fun _=>Cons.of [],fun _=>none,fun _=>none⟩) (fun _ _=>cons_nil) (by kernel_rfl) ?_
 intro ds fr
 unfold cmwS
 split
 ·rename_i k
  refine kmp (q:=((k==(1:Int))=true->Value.string {data:=#[(61:UInt8),(61:UInt8)]}=Value.string (cmW k))/\((k==(1:Int))=false->((k==(2:Int))=true->Value.string {data:=#[(33:UInt8),(61:UInt8)]}=Value.string (cmW k))/\((k==(2:Int))=false->((k==(3:Int))=true->Value.string {data:=#[(60:UInt8)]}=Value.string (cmW k))/\((k==(3:Int))=false->((k==(4:Int))=true->Value.string {data:=#[(60:UInt8),(61:UInt8)]}=Value.string (cmW k))/\((k==(4:Int))=false->((k==(5:Int))=true->Value.string {data:=#[(62:UInt8)]}=Value.string (cmW k))/\((k==(5:Int))=false->Value.string {data:=#[(62:UInt8),(61:UInt8)]}=Value.string (cmW k))))))) (by kernel_rfl) ?_
  refine ⟨fun h=>?_,fun n1=>⟨fun h=>?_,fun n2=>⟨fun h=>?_,fun n3=>⟨fun h=>?_,fun n4=>⟨fun h=>?_,fun n5=>?_⟩⟩⟩⟩⟩
  iterate 5 (obtain rfl:=eq_of_beq h;rfl)
  unfold cmW
  rw [if_neg (ne_of_beq_false n1),if_neg (ne_of_beq_false n2),if_neg (ne_of_beq_false n3),if_neg (ne_of_beq_false n4),if_neg (ne_of_beq_false n5)]
 ·trivial
noncomputable def xwrS:List Dat->Option (Eff × List Seg):=fun ds=>match ds with
 | [.d w,.i k,.i n,.s s,.d d]=>some ({val:=.tup [],vc:=[xF k n s d,w.len<=2001],nw:=[(0,.orow 9 (cat w (xW k n s d)))]},[.c (.osl 9 0 (.lit 0) (.sym (cat w (xW k n s d)).len))])
 |_=>none
noncomputable def xwrC:Con:=conM 96 [.own 9] [lX] xwrS
noncomputable def xwrM:List Dat->Nat:=fun ds=>match ds with
 | [.d w,.i k,.i n,.s s,.d d]=>SizeOf.sizeOf d
 |_=>0
noncomputable def xwrSu (m:Nat):List Dat->Option (Eff × List Seg):=fun ds=>match ds with
 | [.d w,.i k,.i n,.s s,.d d]=>some ({val:=.tup [],vc:=[SizeOf.sizeOf d<m,xF k n s d,w.len<=2001],nw:=[(0,.orow 9 (cat w (xW k n s d)))]},[.c (.osl 9 0 (.lit 0) (.sym (cat w (xW k n s d)).len))])
 |_=>none
theorem xwr_under (m:Nat):underM xwrS xwrM m=xwrSu m:=by
 funext ds
 unfold underM xwrS xwrM xwrSu
 split
 ·rename_i e sg h
  split at h
  ·obtain ⟨rfl,rfl⟩:=Prod.mk.inj (Option.some.inj h);rfl
  ·cases h
 ·rename_i h
  split at h
  ·cases h
  ·rfl
noncomputable def kwrS (m:Nat):List Dat->Option (Eff × List Seg):=fun ds=>match ds with
 | [.d w,.i k,.i n,.s s,.d d,.i i]=>some ({val:=.tup [],vc:=[SizeOf.sizeOf d<m+1,0<=i/\i<d.len,kF d i.toNat,w.len<=2001],nw:=[(0,.orow 9 (cat w (par (brB k i (d.el i.toNat 0).toI) (kW d i.toNat))))]},[.c (.osl 9 0 (.lit 0) (.sym (cat w (par (brB k i (d.el i.toNat 0).toI) (kW d i.toNat))).len))])
 |_=>none
noncomputable def kwrC (m:Nat):Con:=conM 96 [.own 9] [lX,lI] (kwrS m)
theorem kwr_ok {m:Nat} (ih:ConOK Tryz.prog 101 (conM 96 [.own 9] [lX] (xwrSu m))):ConOK Tryz.prog 114 (kwrC m):=by
 refine fn_obM tt_ok mixed Tryz.func114 rfl (fun _ _=>by kernel_rfl) (A:=fun ds=>⟨fun _=>Cons.of [(69,putC),(109,brrC),(101,conM 96 [.own 9] [lX] (xwrSu m))],fun _=>none,fun _=>none⟩) (fun _ _=>(cons_cons put_ok (cons_cons brr_ok (cons_cons ih cons_nil)))) (by kernel_rfl) ?_
 intro ds
 unfold kwrS
 split
 ·rename_i w k n s d i
  refine kmp (q:=SizeOf.sizeOf d<m+(1:Nat)->(0:Int)<=i/\i<(↑d.len:Int)->kF d i.toNat->w.len<=(2001:Nat)->((0:Int)<=i/\i<(↑d.len:Int))/\((!brB k i (d.el i.toNat (0:Nat)).toI)=true->((0:Int)<=i/\i<(↑d.len:Int))/\(0:Nat)=(0:Nat)/\w.len=w.len/\SizeOf.sizeOf (d.el i.toNat 3)<m/\xF (d.el i.toNat (0:Nat)).toI (d.el i.toNat 1).toI (d.el i.toNat 2).toS (d.el i.toNat 3)/\w.len<=(2001:Nat)/\(cat w (xW (d.el i.toNat (0:Nat)).toI (d.el i.toNat 1).toI (d.el i.toNat 2).toS (d.el i.toNat 3))).len=(cat w (par (brB k i (d.el i.toNat (0:Nat)).toI) (kW d i.toNat))).len/\List.take (2001:Nat) (w.rows++List.map sR (xW (d.el i.toNat (0:Nat)).toI (d.el i.toNat 1).toI (d.el i.toNat 2).toS (d.el i.toNat 3)))=List.take (2001:Nat) (w.rows++List.map sR (par (brB k i (d.el i.toNat (0:Nat)).toI) (kW d i.toNat))))/\((!brB k i (d.el i.toNat (0:Nat)).toI)=false->(0:Nat)=(0:Nat)/\w.len=w.len/\(0:Nat)+(1:Nat)<=(D.l [[D.s {data:=#[(40:UInt8)]}]]).len/\w.len<=(2001:Nat)/\((D.l [[D.s {data:=#[(40:UInt8)]}]]).sub (0:Nat) 1).len<=(1000:Nat)/\(∀ (j:Nat),j<((D.l [[D.s {data:=#[(40:UInt8)]}]]).sub (0:Nat) 1).len->(((D.l [[D.s {data:=#[(40:UInt8)]}]]).sub (0:Nat) 1).el j (0:Nat)).toS.size<=(281474976710656:Nat))/\((0:Int)<=i/\i<(↑d.len:Int))/\(0:Nat)=(0:Nat)/\(putD w ((D.l [[D.s {data:=#[(40:UInt8)]}]]).sub (0:Nat) 1)).len=(putD w ((D.l [[D.s {data:=#[(40:UInt8)]}]]).sub (0:Nat) 1)).len/\SizeOf.sizeOf (d.el i.toNat 3)<m/\xF (d.el i.toNat (0:Nat)).toI (d.el i.toNat 1).toI (d.el i.toNat 2).toS (d.el i.toNat 3)/\(putD w ((D.l [[D.s {data:=#[(40:UInt8)]}]]).sub (0:Nat) 1)).len<=(2001:Nat)/\(0:Nat)=(0:Nat)/\(cat (putD w ((D.l [[D.s {data:=#[(40:UInt8)]}]]).sub (0:Nat) 1)) (xW (d.el i.toNat (0:Nat)).toI (d.el i.toNat 1).toI (d.el i.toNat 2).toS (d.el i.toNat 3))).len=(cat (putD w ((D.l [[D.s {data:=#[(40:UInt8)]}]]).sub (0:Nat) 1)) (xW (d.el i.toNat (0:Nat)).toI (d.el i.toNat 1).toI (d.el i.toNat 2).toS (d.el i.toNat 3))).len/\(0:Nat)+(1:Nat)<=(D.l [[D.s {data:=#[(41:UInt8)]}]]).len/\(cat (putD w ((D.l [[D.s {data:=#[(40:UInt8)]}]]).sub (0:Nat) 1)) (xW (d.el i.toNat (0:Nat)).toI (d.el i.toNat 1).toI (d.el i.toNat 2).toS (d.el i.toNat 3))).len<=(2001:Nat)/\((D.l [[D.s {data:=#[(41:UInt8)]}]]).sub (0:Nat) 1).len<=(1000:Nat)/\(∀ (j:Nat),j<((D.l [[D.s {data:=#[(41:UInt8)]}]]).sub (0:Nat) 1).len->(((D.l [[D.s {data:=#[(41:UInt8)]}]]).sub (0:Nat) 1).el j (0:Nat)).toS.size<=(281474976710656:Nat))/\(putD (cat (putD w ((D.l [[D.s {data:=#[(40:UInt8)]}]]).sub (0:Nat) 1)) (xW (d.el i.toNat (0:Nat)).toI (d.el i.toNat 1).toI (d.el i.toNat 2).toS (d.el i.toNat 3))) ((D.l [[D.s {data:=#[(41:UInt8)]}]]).sub (0:Nat) 1)).len=(cat w (par (brB k i (d.el i.toNat (0:Nat)).toI) (kW d i.toNat))).len/\List.take (2001:Nat) (List.take (2001:Nat) (List.take (2001:Nat) (w.rows++List.map sR (wsL ((D.l [[D.s {data:=#[(40:UInt8)]}]]).sub (0:Nat) 1) ((D.l [[D.s {data:=#[(40:UInt8)]}]]).sub (0:Nat) 1).len))++List.map sR (xW (d.el i.toNat (0:Nat)).toI (d.el i.toNat 1).toI (d.el i.toNat 2).toS (d.el i.toNat 3)))++List.map sR (wsL ((D.l [[D.s {data:=#[(41:UInt8)]}]]).sub (0:Nat) 1) ((D.l [[D.s {data:=#[(41:UInt8)]}]]).sub (0:Nat) 1).len))=List.take (2001:Nat) (w.rows++List.map sR (par (brB k i (d.el i.toNat (0:Nat)).toI) (kW d i.toNat))))) (by kernel_rfl) ?_
  intro hm hi hk hw
  have o1:(1:Nat)<=1000:=by decide
  have hl:i.toNat<d.len:=by omega
  have z:SizeOf.sizeOf (d.el i.toNat (0+1+1+1))<m:=by have:=lel_lt (j:=3) hl;show SizeOf.sizeOf (d.el i.toNat 3)<m;omega
  have hk2:=hk
  rw [kF_eq hl] at hk2
  have ek:=kW_eq hl
  refine ⟨hi,fun hb=>⟨hi,rfl,rfl,z,hk2,hw,eqD ?_⟩,fun hb=>⟨rfl,rfl,Nat.le_refl _,hw,o1,ok1 (by decide),hi,rfl,rfl,z,hk2,cat_le _ _,rfl,rfl,Nat.le_refl _,cat_le _ _,o1,ok1 (by decide),eqD ?_⟩⟩
  ·rw [Bool.not_eq_true'] at hb
   rw [hb,ek];rfl
  ·rw [Bool.not_eq_false'] at hb
   rw [put1s,cat_cat,put1s,cat_cat,hb,ek];rfl
 ·trivial
theorem xwr_step (m:Nat) (ih:ConOK Tryz.prog 101 (conM 96 [.own 9] [lX] (xwrSu m))):ConOK Tryz.prog 101 (conM 96 [.own 9] [lX] (xwrSu (m+1))):=by
 refine fn_obM tt_ok mixed Tryz.func101 rfl (fun _ _=>by kernel_rfl) (A:=fun ds=>⟨fun _=>Cons.of [(69,putC),(71,itC),(97,isbinC),(115,biwC),(114,(kwrC m))],fun _=>none,fun _=>none⟩) (fun _ _=>(cons_cons put_ok (cons_cons it_ok (cons_cons isbin_ok (cons_cons biw_ok (cons_cons (kwr_ok ih) cons_nil)))))) (by kernel_rfl) ?_
 intro ds
 unfold xwrSu
 split
 ·rename_i w k n s d
  refine kmp (q:=SizeOf.sizeOf d<m+(1:Nat)->xF k n s d->w.len<=(2001:Nat)->((k==(1:Int))=true->nI n/\(0:Nat)=(0:Nat)/\w.len=w.len/\(0:Nat)+(1:Nat)<=(D.l [[D.s (itW n)]]).len/\w.len<=(2001:Nat)/\((D.l [[D.s (itW n)]]).sub (0:Nat) 1).len<=(1000:Nat)/\(∀ (j:Nat),j<((D.l [[D.s (itW n)]]).sub (0:Nat) 1).len->(((D.l [[D.s (itW n)]]).sub (0:Nat) 1).el j (0:Nat)).toS.size<=(281474976710656:Nat))/\(putD w ((D.l [[D.s (itW n)]]).sub (0:Nat) 1)).len=(cat w (xW k n s d)).len/\List.take (2001:Nat) (w.rows++List.map sR (wsL ((D.l [[D.s (itW n)]]).sub (0:Nat) 1) ((D.l [[D.s (itW n)]]).sub (0:Nat) 1).len))=List.take (2001:Nat) (w.rows++List.map sR (xW k n s d)))/\((k==(1:Int))=false->((k==(2:Int))=true->(0:Nat)=(0:Nat)/\w.len=w.len/\(0:Nat)+(1:Nat)<=(D.l [[D.s s]]).len/\w.len<=(2001:Nat)/\((D.l [[D.s s]]).sub (0:Nat) 1).len<=(1000:Nat)/\(∀ (j:Nat),j<((D.l [[D.s s]]).sub (0:Nat) 1).len->(((D.l [[D.s s]]).sub (0:Nat) 1).el j (0:Nat)).toS.size<=(281474976710656:Nat))/\(putD w ((D.l [[D.s s]]).sub (0:Nat) 1)).len=(cat w (xW k n s d)).len/\List.take (2001:Nat) (w.rows++List.map sR (wsL ((D.l [[D.s s]]).sub (0:Nat) 1) ((D.l [[D.s s]]).sub (0:Nat) 1).len))=List.take (2001:Nat) (w.rows++List.map sR (xW k n s d)))/\((k==(2:Int))=false->((k==(3:Int))=true->(0:Nat)=(0:Nat)/\w.len=w.len/\(0:Nat)+(1:Nat)<=(D.l [[D.s {data:=#[(45:UInt8)]}]]).len/\w.len<=(2001:Nat)/\((D.l [[D.s {data:=#[(45:UInt8)]}]]).sub (0:Nat) 1).len<=(1000:Nat)/\(∀ (j:Nat),j<((D.l [[D.s {data:=#[(45:UInt8)]}]]).sub (0:Nat) 1).len->(((D.l [[D.s {data:=#[(45:UInt8)]}]]).sub (0:Nat) 1).el j (0:Nat)).toS.size<=(281474976710656:Nat))/\(0:Nat)=(0:Nat)/\(putD w ((D.l [[D.s {data:=#[(45:UInt8)]}]]).sub (0:Nat) 1)).len=(putD w ((D.l [[D.s {data:=#[(45:UInt8)]}]]).sub (0:Nat) 1)).len/\SizeOf.sizeOf d<m+(1:Nat)/\((0:Int)<=(0:Int)/\(0:Int)<(↑d.len:Int))/\kF d (Int.toNat (0:Int))/\(putD w ((D.l [[D.s {data:=#[(45:UInt8)]}]]).sub (0:Nat) 1)).len<=(2001:Nat)/\(cat (putD w ((D.l [[D.s {data:=#[(45:UInt8)]}]]).sub (0:Nat) 1)) (par (brB k (0:Int) (d.el (Int.toNat (0:Int)) (0:Nat)).toI) (kW d (Int.toNat (0:Int))))).len=(cat w (xW k n s d)).len/\List.take (2001:Nat) (List.take (2001:Nat) (w.rows++List.map sR (wsL ((D.l [[D.s {data:=#[(45:UInt8)]}]]).sub (0:Nat) 1) ((D.l [[D.s {data:=#[(45:UInt8)]}]]).sub (0:Nat) 1).len))++List.map sR (par (brB k (0:Int) (d.el (Int.toNat (0:Int)) (0:Nat)).toI) (kW d (Int.toNat (0:Int)))))=List.take (2001:Nat) (w.rows++List.map sR (xW k n s d)))/\((k==(3:Int))=false->(biB k=true->(0:Nat)=(0:Nat)/\w.len=w.len/\SizeOf.sizeOf d<m+(1:Nat)/\((0:Int)<=(0:Int)/\(0:Int)<(↑d.len:Int))/\kF d (Int.toNat (0:Int))/\w.len<=(2001:Nat)/\(0:Nat)=(0:Nat)/\(cat w (par (brB k (0:Int) (d.el (Int.toNat (0:Int)) (0:Nat)).toI) (kW d (Int.toNat (0:Int))))).len=(cat w (par (brB k (0:Int) (d.el (Int.toNat (0:Int)) (0:Nat)).toI) (kW d (Int.toNat (0:Int))))).len/\(0:Nat)+(1:Nat)<=(D.l [[D.s (biW k)]]).len/\(cat w (par (brB k (0:Int) (d.el (Int.toNat (0:Int)) (0:Nat)).toI) (kW d (Int.toNat (0:Int))))).len<=(2001:Nat)/\((D.l [[D.s (biW k)]]).sub (0:Nat) 1).len<=(1000:Nat)/\(∀ (j:Nat),j<((D.l [[D.s (biW k)]]).sub (0:Nat) 1).len->(((D.l [[D.s (biW k)]]).sub (0:Nat) 1).el j (0:Nat)).toS.size<=(281474976710656:Nat))/\(0:Nat)=(0:Nat)/\(putD (cat w (par (brB k (0:Int) (d.el (Int.toNat (0:Int)) (0:Nat)).toI) (kW d (Int.toNat (0:Int))))) ((D.l [[D.s (biW k)]]).sub (0:Nat) 1)).len=(putD (cat w (par (brB k (0:Int) (d.el (Int.toNat (0:Int)) (0:Nat)).toI) (kW d (Int.toNat (0:Int))))) ((D.l [[D.s (biW k)]]).sub (0:Nat) 1)).len/\SizeOf.sizeOf d<m+(1:Nat)/\((0:Int)<=(1:Int)/\(1:Int)<(↑d.len:Int))/\kF d (Int.toNat (1:Int))/\(putD (cat w (par (brB k (0:Int) (d.el (Int.toNat (0:Int)) (0:Nat)).toI) (kW d (Int.toNat (0:Int))))) ((D.l [[D.s (biW k)]]).sub (0:Nat) 1)).len<=(2001:Nat)/\(cat (putD (cat w (par (brB k (0:Int) (d.el (Int.toNat (0:Int)) (0:Nat)).toI) (kW d (Int.toNat (0:Int))))) ((D.l [[D.s (biW k)]]).sub (0:Nat) 1)) (par (brB k (1:Int) (d.el (Int.toNat (1:Int)) (0:Nat)).toI) (kW d (Int.toNat (1:Int))))).len=(cat w (xW k n s d)).len/\List.take (2001:Nat) (List.take (2001:Nat) (List.take (2001:Nat) (w.rows++List.map sR (par (brB k (0:Int) (d.el (Int.toNat (0:Int)) (0:Nat)).toI) (kW d (Int.toNat (0:Int)))))++List.map sR (wsL ((D.l [[D.s (biW k)]]).sub (0:Nat) 1) ((D.l [[D.s (biW k)]]).sub (0:Nat) 1).len))++List.map sR (par (brB k (1:Int) (d.el (Int.toNat (1:Int)) (0:Nat)).toI) (kW d (Int.toNat (1:Int)))))=List.take (2001:Nat) (w.rows++List.map sR (xW k n s d)))/\(biB k=false->w.len=(cat w (xW k n s d)).len/\w.rows=List.take (2001:Nat) (w.rows++List.map sR (xW k n s d))))))) (by kernel_rfl) ?_
  intro hm hf hw
  have o1:(1:Nat)<=1000:=by decide
  unfold xF xFb at hf
  obtain ⟨f1,f2,f3,f4⟩:=hf
  refine ⟨fun h=>?_,fun n1=>⟨fun h=>?_,fun n2=>⟨fun h=>?_,fun n3=>⟨fun h=>?_,fun n4=>?_⟩⟩⟩⟩
  ·obtain rfl:=eq_of_beq h
   have hn:=f1 rfl
   have:=itW_size hn
   exact ⟨hn,rfl,rfl,Nat.le_refl _,hw,o1,ok1 (by omega),eqD (put_eq w [itW n])⟩
  ·obtain rfl:=eq_of_beq h
   have hn:=f2 rfl
   exact ⟨rfl,rfl,Nat.le_refl _,hw,o1,ok1 (by omega),eqD (put_eq w [s])⟩
  ·obtain rfl:=eq_of_beq h
   obtain ⟨hl,hk⟩:=f3 rfl
   refine ⟨rfl,rfl,Nat.le_refl _,hw,o1,ok1 (by decide),rfl,rfl,hm,by omega,hk,cat_le _ _,eqD ?_⟩
   rw [put1s,cat_cat];rfl
  ·obtain ⟨hl,k0,k1⟩:=f4 h
   have:=biW_size k
   refine ⟨rfl,rfl,hm,by omega,k0,hw,rfl,rfl,Nat.le_refl _,cat_le _ _,o1,ok1 (by omega),rfl,rfl,hm,by omega,k1,cat_le _ _,eqD ?_⟩
   rw [put1s,cat_cat,cat_cat]
   congr 1
   unfold xW xWb
   rw [if_neg (ne_of_beq_false n1),if_neg (ne_of_beq_false n2),if_neg (ne_of_beq_false n3),if_pos h];rfl
  ·have e:xW k n s d=[]:=by
    unfold xW xWb
    rw [if_neg (ne_of_beq_false n1),if_neg (ne_of_beq_false n2),if_neg (ne_of_beq_false n3),if_neg (by rw [n4];decide)]
   rw [e]
   exact cat_nil hw
 ·trivial
theorem xwr_ok:ConOK Tryz.prog 101 xwrC:=
 conM_rec xwrM (fun _ _=>by kernel_rfl) fun m ih=>by
  rw [xwr_under] at ih ⊢
  exact xwr_step m ih
end Go.Proofs.YthpponmbpoaffaaGreatDoor.Sx.Z
