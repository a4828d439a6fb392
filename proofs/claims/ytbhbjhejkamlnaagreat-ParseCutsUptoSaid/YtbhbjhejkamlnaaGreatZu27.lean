import Derived.Test.YtbhbjhejkamlnaaGreatZu26
import Derived.Test.YtbhbjhejkamlnaaGreatZu25
set_option linter.unusedVariables false
set_option linter.unusedSimpArgs false
namespace Go.Proofs.YtbhbjhejkamlnaaGreat.Sx.Z
open Go.RowKit
def gX0:AP:=.agg [.c (.int .i64),.c (.int .i64),.c .str,.c (.rows 24)]
def gC0:AP:=.agg [.c (.int .i64),.c (.int .i64),.c (.int .i64),.c .str,.c (.rows 24),.c (.int .i64),.c (.int .i64),.c .str,.c (.rows 24)]
def gB0:AP:=.sc (.rows 31)
def nm2 (s:ByteArray):Bool:=(lexR s).2.2==0&&((tokD (lexR s).1).len:Int)==1&&((tokD (lexR s).1).el 0 0).toI==1&&(((tokD (lexR s).1).el 0 1).toS.toList==s.toList)
theorem nm2_word {s:ByteArray} (h:nm2 s=true):∃ m,wordE s.data.toList = .ok (1,s.size,m):=by
 unfold nm2 at h;simp only [Bool.and_eq_true,beq_iff_eq] at h;obtain ⟨⟨⟨h1,h2⟩,h3⟩,h4⟩:=h;have h2:((lexR s).1.length:Int)=1:=by rw [tokD_len] at h2;exact h2
 obtain ⟨t,ht⟩:∃ t,(lexR s).1=[t]:=List.length_eq_one_iff.1 (by omega)
 rw [ht] at h3 h4;have h3:t.kind=1:=h3;have h4:t.text.toList=s.toList:=h4;have h4:t.text=s:=by
  rw [ByteArray.toList_eq,ByteArray.toList_eq] at h4;exact ByteArray.ext (Array.toList_inj.1 h4)
 cases hg:lexGo s s.size 0 [] with
 |error x=>
  obtain ⟨p,e⟩:=x;rw [lexR_err hg rfl] at ht
  cases ht
 |ok acc=>
  by_cases hl:2000<acc.length
  ·rw [lexR_long hg rfl hl] at ht
   cases ht
  ·rw [lexR_ok hg rfl (by omega)] at ht
   have ht:acc=[t]:=ht;obtain ⟨q,q1,q2⟩:=tok_nx s s.size 0 [] acc (Nat.zero_le _) (fun _ h=>by cases h) hg t (by rw [ht];exact List.mem_singleton.2 rfl)
   rw [h4] at q1 q2;have q0:q=0:=by omega
   rw [q0,List.drop_zero,h3] at q2;exact ⟨_,q2⟩
theorem nm2_sz {s:ByteArray} (h:nm2 s=true):s.size<=12:=by
 obtain ⟨m,hm⟩:=nm2_word h;unfold wordE at hm
 split at hm
 ·unfold nameE at hm
  split at hm
  ·cases hm
  ·rename_i hn;simp only [Except.ok.injEq,Prod.mk.injEq] at hm;omega
 ·split at hm
  ·unfold numE at hm
   repeat' split at hm
   all_goals first |cases hm |(simp only [Except.ok.injEq,Prod.mk.injEq] at hm;omega)
  ·unfold sgnE at hm
   repeat' split at hm
   all_goals first |cases hm |(simp only [Except.ok.injEq,Prod.mk.injEq] at hm;omega)
theorem nm2_eq (s:ByteArray):nm2 s=nmB s:=by
 cases h:nm2 s with
 |true=>
  have hz:=nm2_sz h;unfold nm2 at h;unfold nmB;rw [decide_eq_false (by omega)]
  simp only [Bool.and_eq_true] at h;simp only [h.1.1.1,h.1.1.2,h.1.2,h.2,Bool.not_false,Bool.and_self]
 |false=>
  cases hb:nmB s with
  |false=>rfl
  |true=>
   unfold nmB at hb;unfold nm2 at h;simp only [Bool.and_eq_true] at hb;simp only [hb.2.1.1.1,hb.2.1.1.2,hb.2.1.2,hb.2.2,Bool.and_self] at h
   cases h
def vXb (k n:Int) (s:ByteArray) (len:Int) (f:Nat->Bool):Bool:=
 if k=1 then nuB n&&len==0 else if k=2 then nmB s&&len==0 else if k=3 then len==1&&f 0 else if biB k=true then len==2&&f 0&&f 1 else false
def vE (d:D) (i:Nat):Bool:=if _h:i<d.len then vXb (d.el i 0).toI (d.el i 1).toI (d.el i 2).toS (d.el i 3).len (fun j=>vE (d.el i 3) j) else false
 termination_by SizeOf.sizeOf d
 decreasing_by exact lel_lt (by assumption)
def vX (k n:Int) (s:ByteArray) (d:D):Bool:=vXb k n s d.len (vE d)
theorem vE_eq {d:D} {i:Nat} (h:i<d.len):vE d i=vX (d.el i 0).toI (d.el i 1).toI (d.el i 2).toS (d.el i 3):=by
 rw [vE,dif_pos h];rfl
theorem vX_bin {k n:Int} {s:ByteArray} {d:D} (h:biB k=true):vX k n s d=((d.len:Int)==2&&vE d 0&&vE d 1):=by
 have hb:=bi_in h;unfold vX vXb;rw [if_neg (by omega),if_neg (by omega),if_neg (by omega),if_pos h]
theorem vX_no {k n:Int} {s:ByteArray} {d:D} (h1:k≠1) (h2:k≠2) (h3:k≠3) (h:biB k=false):vX k n s d=false:=by
 unfold vX vXb;rw [if_neg h1,if_neg h2,if_neg h3,if_neg (by rw [h];decide)]
theorem vX_aXs {k n:Int} {s:ByteArray} {d:D} (ih:∀ j,j<d.len->vE d j=true->aE d j=true) (h:vX k n s d=true):aX k n s d=true:=by
 unfold vX vXb at h;unfold aX aXb
 split at h
 ·rw [if_pos (by assumption)]
  simp only [Bool.and_eq_true] at h;exact h.1
 ·rw [if_neg (by assumption)]
  split at h
  ·rw [if_pos (by assumption)]
   simp only [Bool.and_eq_true] at h;exact h.1
  ·rw [if_neg (by assumption)]
   split at h
   ·rw [if_pos (by assumption)]
    simp only [Bool.and_eq_true,beq_iff_eq] at h;rw [ih 0 (by omega) h.2]
    simp only [Bool.and_true,beq_iff_eq];exact h.1
   ·rw [if_neg (by assumption)]
    split at h
    ·rw [if_pos (by assumption)]
     simp only [Bool.and_eq_true,beq_iff_eq] at h;rw [ih 0 (by omega) h.1.2,ih 1 (by omega) h.2]
     simp only [Bool.and_true,beq_iff_eq];exact h.1.1
    ·cases h
theorem vE_aE:∀ (m:Nat) (d:D),SizeOf.sizeOf d<=m->∀ i,i<d.len->vE d i=true->aE d i=true:=by
 intro m
 induction m with
 |zero=>
  intro d hm i hi;have:=lel_lt (j:=0) hi;omega
 |succ m ih=>
  intro d hm i hi h;rw [vE_eq hi] at h;rw [aE_eq hi];have:=lel_lt (j:=3) hi;exact vX_aXs (fun j hj=>ih _ (by omega) j hj) h
theorem vX_aX {k n:Int} {s:ByteArray} {d:D} (h:vX k n s d=true):aX k n s d=true:=vX_aXs (fun j hj=>vE_aE _ d (Nat.le_refl _) j hj) h
def vC (op lk ln:Int) (ls:ByteArray) (ld:D) (rk rn:Int) (rs:ByteArray) (rd:D):Bool:=decide (op>=1)&&decide (op<=6)&&vX lk ln ls ld&&vX rk rn rs rd
theorem vC_aC {op lk ln:Int} {ls:ByteArray} {ld:D} {rk rn:Int} {rs:ByteArray} {rd:D} (h:vC op lk ln ls ld rk rn rs rd=true):aC op lk ln ls ld rk rn rs rd=true:=by
 unfold vC at h;unfold aC;simp only [Bool.and_eq_true] at h ⊢;exact ⟨⟨h.1.1,vX_aX h.1.2⟩,vX_aX h.2⟩
def sW (d:D):Prop:=wD d<=2097153
theorem sW_el {d:D} (h:sW d) {i:Nat} (hi:i<d.len) (j:Nat):sW (d.el i j):=Nat.le_trans (Nat.le_of_lt (wD_el j hi)) h
theorem sW_str {d:D} (h:sW d):d.toS.size<=2147483647:=by
 have:=wD_str d;have h:wD d<=2097153:=h;omega
theorem sW_len {d:D} (h:sW d):d.len<=2097153:=by
 have:=wD_len d;have h:wD d<=2097153:=h;omega
noncomputable def nmqS:FSpec:=fun ds _=>match ds with
 | [.s s]=>some {val:=.one (.sc (.bool (.sym (nmB s)))),vc:=[s.size<=2147483647]}
 |_=>none
noncomputable def nmqC:Con:=con [.sc .str] nmqS
theorem nmq_ok:ConOK Tryz.prog 35 nmqC:=by
 refine fn_ob tt_ok mixed Tryz.func35 rfl (fun _ _=>by kernel_rfl) (A:=fun ds=>⟨fun _=>Cons.of [(18,rlxC)],fun _=>none,fun _=>none⟩) (fun _ _=>(cons_cons rlx_ok cons_nil)) (by kernel_rfl) ?_
 intro ds fr;unfold nmqS;split
 ·rename_i s;refine kmp (q:=s.size<=2147483647->s.size<=2147483647/\(((lexR s).snd.snd==(0:Int)&&(↑(tokD (lexR s).fst).len:Int)==(1:Int))=true/\True->(0:Nat)<(tokD (lexR s).fst).len)/\(((lexR s).snd.snd==(0:Int)&&(↑(tokD (lexR s).fst).len:Int)==(1:Int)&&((tokD (lexR s).fst).el ((0:Nat)) ((0:Nat)+(0:Nat))).toI==(1:Int))=true/\True->(0:Nat)<(tokD (lexR s).fst).len)/\((lexR s).snd.snd==(0:Int)&&(↑(tokD (lexR s).fst).len:Int)==(1:Int)&&((tokD (lexR s).fst).el ((0:Nat)) ((0:Nat)+(0:Nat))).toI==(1:Int)&&((tokD (lexR s).fst).el ((0:Nat)) 1).toS.toList==s.toList)=nmB s) (by kernel_rfl) ?_
  intro h;refine ⟨h,fun q=>?_,fun q=>?_,(nm2_eq s).symm ▸ rfl⟩
  ·have q:=q.1;simp only [Bool.and_eq_true,beq_iff_eq] at q;omega
  ·have q:=q.1;simp only [Bool.and_eq_true,beq_iff_eq] at q;omega
 ·trivial
noncomputable def nuqS:FSpec:=fun ds _=>match ds with
 | [.i n]=>some {val:=.one (.sc (.bool (.sym (nuB n)))),vc:=[]}
 |_=>none
noncomputable def nuqC:Con:=con [.sc (.int .i64)] nuqS
theorem nuq_ok:ConOK Tryz.prog 36 nuqC:=by
 refine fn_ob tt_ok mixed Tryz.func36 rfl (fun _ _=>by kernel_rfl) (A:=fun ds=>⟨fun _=>Cons.of [],fun _=>none,fun _=>none⟩) (fun _ _=>cons_nil) (by kernel_rfl) ?_
 intro ds fr;unfold nuqS;split
 ·rename_i n;refine kmp (q:=(decide (n>=(0:Int))&&decide (n<=(2147483647:Int)))=nuB n) (by kernel_rfl) ?_
  rfl
 ·trivial
noncomputable def twqS:FSpec:=fun ds _=>match ds with
 | [.i k]=>some {val:=.one (.sc (.bool (.sym (biB k)))),vc:=[]}
 |_=>none
noncomputable def twqC:Con:=con [.sc (.int .i64)] twqS
theorem twq_ok:ConOK Tryz.prog 66 twqC:=by
 refine fn_ob tt_ok mixed Tryz.func66 rfl (fun _ _=>by kernel_rfl) (A:=fun ds=>⟨fun _=>Cons.of [],fun _=>none,fun _=>none⟩) (fun _ _=>cons_nil) (by kernel_rfl) ?_
 intro ds fr;unfold twqS;split
 ·rename_i k;refine kmp (q:=(decide (k>=(4:Int))&&decide (k<=(8:Int)))=biB k) (by kernel_rfl) ?_
  rfl
 ·trivial
noncomputable def xrqS:FSpec:=fun ds _=>match ds with
 | [.i k,.i n,.s s,.d d]=>some {val:=.one (.sc (.bool (.sym (vX k n s d)))),vc:=[s.size<=2147483647,sW d]}
 |_=>none
noncomputable def xrqC:Con:=con [gX0] xrqS
noncomputable def xrqM:List Dat->Nat:=fun ds=>match ds with
 | [.i k,.i n,.s s,.d d]=>SizeOf.sizeOf d
 |_=>0
noncomputable def xrqSu (m:Nat):FSpec:=fun ds _=>match ds with
 | [.i k,.i n,.s s,.d d]=>some {val:=.one (.sc (.bool (.sym (vX k n s d)))),vc:=[SizeOf.sizeOf d<m,s.size<=2147483647,sW d]}
 |_=>none
theorem xrq_under (m:Nat):xrqS.under xrqM m=xrqSu m:=by
 funext ds fr
 unfold FSpec.under xrqS xrqM xrqSu;split
 ·rename_i e h
  split at h
  ·obtain rfl:=Option.some.inj h;rfl
  ·cases h
 ·rename_i h
  split at h
  ·cases h
  ·rfl
theorem xrq_step (m:Nat) (ih:ConOK Tryz.prog 64 (con [gX0] (xrqSu m))):ConOK Tryz.prog 64 (con [gX0] (xrqSu (m+1))):=by
 refine fn_ob tt_ok mixed Tryz.func64 rfl (fun _ _=>by kernel_rfl) (A:=fun ds=>⟨fun _=>Cons.of [(36,nuqC),(35,nmqC),(66,twqC),(64,con [gX0] (xrqSu m))],fun _=>none,fun _=>none⟩) (fun _ _=>(cons_cons nuq_ok (cons_cons nmq_ok (cons_cons twq_ok (cons_cons ih cons_nil))))) (by kernel_rfl) ?_
 intro ds fr;unfold xrqSu;split
 ·rename_i k n s d;refine kmp (q:=withv (d.el ((0:Nat)) 3) fun E181=>withv (d.el ((0:Nat)) 2) fun E182=>withv (d.el ((0:Nat)) 1) fun E183=>withv (d.el ((1:Nat)) 3) fun E184=>withv (d.el ((0:Nat)) (0:Nat)) fun E185=>withv (d.el ((1:Nat)) 2) fun E186=>SizeOf.sizeOf d<m+(1:Nat)->s.size<=2147483647->sW d->((k==(1:Int))=true->(nuB n&&(d.len:Int)==(0:Int))=vX k n s d)/\((k==(1:Int))=false->((k==(2:Int))=true->s.size<=2147483647/\(nmB s&&(d.len:Int)==(0:Int))=vX k n s d)/\((k==(2:Int))=false->((k==(3:Int))=true->(((d.len:Int)==(1:Int))=true/\True->(0:Nat)<d.len)/\(((d.len:Int)==(1:Int))=true/\True->SizeOf.sizeOf E181<m)/\(((d.len:Int)==(1:Int))=true/\True->E182.toS.size<=2147483647)/\(((d.len:Int)==(1:Int))=true/\True->sW E181)/\((d.len:Int)==(1:Int)&&vX E185.toI E183.toI E182.toS E181)=vX k n s d)/\((k==(3:Int))=false->(biB k=true->(((d.len:Int)==(2:Int))=true/\True->(0:Nat)<d.len)/\(((d.len:Int)==(2:Int))=true/\True->SizeOf.sizeOf E181<m)/\(((d.len:Int)==(2:Int))=true/\True->E182.toS.size<=2147483647)/\(((d.len:Int)==(2:Int))=true/\True->sW E181)/\(((d.len:Int)==(2:Int)&&vX E185.toI E183.toI E182.toS E181)=true/\True->(1:Nat)<d.len)/\(((d.len:Int)==(2:Int)&&vX E185.toI E183.toI E182.toS E181)=true/\True->SizeOf.sizeOf E184<m)/\(((d.len:Int)==(2:Int)&&vX E185.toI E183.toI E182.toS E181)=true/\True->E186.toS.size<=2147483647)/\(((d.len:Int)==(2:Int)&&vX E185.toI E183.toI E182.toS E181)=true/\True->sW E184)/\((d.len:Int)==(2:Int)&&vX E185.toI E183.toI E182.toS E181&&vX (d.el ((1:Nat)) (0:Nat)).toI (d.el ((1:Nat)) 1).toI E186.toS E184)=vX k n s d)/\(biB k=false->false=vX k n s d))))) (by kernel_rfl) ?_
  dsimp +instances only [withv]
  intro hm hs hd
  (try simp only [Nat.reduceAdd,Nat.zero_add])
  refine ⟨fun h=>?_,fun h1=>⟨fun h=>?_,fun h2=>⟨fun h=>?_,fun h3=>⟨fun h=>?_,fun h=>?_⟩⟩⟩⟩
  ·obtain rfl:=eq_of_beq h;rfl
  ·obtain rfl:=eq_of_beq h;exact ⟨hs,rfl⟩
  ·obtain rfl:=eq_of_beq h;have e:vX 3 n s d=((d.len:Int)==1&&vE d 0):=rfl;rw [e]
   by_cases hl:d.len=1
   ·have h0:0<d.len:=by omega
    have z:=lel_lt (d:=d) (i:=0) (j:=3) h0;rw [vE_eq h0];exact ⟨fun _=>h0,fun _=>by omega,fun _=>sW_str (sW_el hd h0 2),fun _=>sW_el hd h0 3,rfl⟩
   ·have q:((d.len:Int)==1)=false:=by simpa using (by omega:¬ (d.len:Int)=1)
    rw [q];exact ⟨fun h=>(by cases h.1),fun h=>(by cases h.1),fun h=>(by cases h.1),fun h=>(by cases h.1),rfl⟩
  ·rw [vX_bin h]
   by_cases hl:d.len=2
   ·have h0:0<d.len:=by omega
    have h1:1<d.len:=by omega
    have z:=lel_lt (d:=d) (i:=0) (j:=3) h0;have z1:=lel_lt (d:=d) (i:=1) (j:=3) h1;rw [vE_eq h0,vE_eq h1];exact ⟨fun _=>h0,fun _=>by omega,fun _=>sW_str (sW_el hd h0 2),fun _=>sW_el hd h0 3,fun _=>h1,fun _=>by omega,fun _=>sW_str (sW_el hd h1 2),fun _=>sW_el hd h1 3,rfl⟩
   ·have q:((d.len:Int)==2)=false:=by simpa using (by omega:¬ (d.len:Int)=2)
    rw [q];exact ⟨fun h=>(by cases h.1),fun h=>(by cases h.1),fun h=>(by cases h.1),fun h=>(by cases h.1),fun h=>(by cases h.1),fun h=>(by cases h.1),fun h=>(by cases h.1),fun h=>(by cases h.1),rfl⟩
  ·exact (vX_no (ne_of_beq_false h1) (ne_of_beq_false h2) (ne_of_beq_false h3) h).symm
 ·trivial
theorem xrq_ok:ConOK Tryz.prog 64 xrqC:=
 con_rec xrqM (fun _ _=>by kernel_rfl) fun m ih=>by
  rw [xrq_under] at ih ⊢;exact xrq_step m ih
noncomputable def crqS:FSpec:=fun ds _=>match ds with
 | [.i op,.i lk,.i ln,.s ls,.d ld,.i rk,.i rn,.s rs,.d rd]=>some {val:=.one (.sc (.bool (.sym (vC op lk ln ls ld rk rn rs rd)))),vc:=[ls.size<=2147483647,sW ld,rs.size<=2147483647,sW rd]}
 |_=>none
noncomputable def crqC:Con:=con [gC0] crqS
theorem crq_ok:ConOK Tryz.prog 65 crqC:=by
 refine fn_ob tt_ok mixed Tryz.func65 rfl (fun _ _=>by kernel_rfl) (A:=fun ds=>⟨fun _=>Cons.of [(64,xrqC)],fun _=>none,fun _=>none⟩) (fun _ _=>(cons_cons xrq_ok cons_nil)) (by kernel_rfl) ?_
 intro ds fr;unfold crqS;split
 ·rename_i op lk ln ls ld rk rn rs rd;refine kmp (q:=ls.size<=2147483647->sW ld->rs.size<=2147483647->sW rd->((decide (op>=(1:Int))&&decide (op<=(6:Int)))=true/\True->ls.size<=2147483647)/\((decide (op>=(1:Int))&&decide (op<=(6:Int)))=true/\True->sW ld)/\((decide (op>=(1:Int))&&decide (op<=(6:Int))&&vX lk ln ls ld)=true/\True->rs.size<=2147483647)/\((decide (op>=(1:Int))&&decide (op<=(6:Int))&&vX lk ln ls ld)=true/\True->sW rd)/\(decide (op>=(1:Int))&&decide (op<=(6:Int))&&vX lk ln ls ld&&vX rk rn rs rd)=vC op lk ln ls ld rk rn rs rd) (by kernel_rfl) ?_
  intro h1 h2 h3 h4;exact ⟨fun _=>h1,fun _=>h2,fun _=>h3,fun _=>h4,rfl⟩
 ·trivial
end Go.Proofs.YtbhbjhejkamlnaaGreat.Sx.Z
namespace Go.Proofs.YtbhbjhejkamlnaaGreat.Sx.Z
open Go.RowKit
def vB (d:D):Bool:=(List.finRange d.len).all fun (i:Fin d.len)=>aStF (d.el i 0).toI (d.el i 1).toS (d.el i 2).toS (vX (d.el i 3).toI (d.el i 4).toI (d.el i 5).toS (d.el i 6)) (vC (d.el i 7).toI (d.el i 8).toI (d.el i 9).toI (d.el i 10).toS (d.el i 11) (d.el i 12).toI (d.el i 13).toI (d.el i 14).toS (d.el i 15)) (vB (d.el i 16)) (vB (d.el i 17)) (d.el i 18).len
    ((List.finRange (d.el i 18).len).all fun (j:Fin (d.el i 18).len)=>nmB ((d.el i 18).el j 0).toS&&nmB ((d.el i 18).el j 1).toS&&vB ((d.el i 18).el j 2))
 termination_by SizeOf.sizeOf d
 decreasing_by
  ·exact lel_lt i.isLt
  ·exact lel_lt i.isLt
  ·exact Nat.lt_trans (lel_lt j.isLt) (lel_lt i.isLt)
def vAr (am:D) (j:Nat):Bool:=nmB (am.el j 0).toS&&nmB (am.el j 1).toS&&vB (am.el j 2)
def vAk (am:D) (k:Nat):Bool:=allB k (vAr am)
def vA (k:Int) (nm tg:ByteArray) (ek en:Int) (es:ByteArray) (ed:D) (op lk ln:Int) (ls:ByteArray) (ld:D) (rk rn:Int) (rs:ByteArray) (rd bd eb am:D):Bool:=
 aStF k nm tg (vX ek en es ed) (vC op lk ln ls ld rk rn rs rd) (vB bd) (vB eb) am.len (vAk am am.len)
def vSt (d:D) (i:Nat):Bool:=vA (d.el i 0).toI (d.el i 1).toS (d.el i 2).toS (d.el i 3).toI (d.el i 4).toI (d.el i 5).toS (d.el i 6) (d.el i 7).toI (d.el i 8).toI (d.el i 9).toI (d.el i 10).toS (d.el i 11) (d.el i 12).toI (d.el i 13).toI (d.el i 14).toS (d.el i 15) (d.el i 16) (d.el i 17) (d.el i 18)
theorem vB_eq (d:D):vB d=allB d.len (vSt d):=by
 rw [vB,<- allF_eq]
 congr 1
 funext i
 unfold vSt vA vAk;rw [<- allF_eq];rfl
theorem vAk_succ (am:D) (k:Nat):vAk am (k+1)=(vAk am k&&vAr am k):=by
 unfold vAk allB;rw [List.range_succ,List.all_append]
 simp
theorem aSt_imp {k:Int} {nm tg:ByteArray} {e c b el a e' c' b' el' a':Bool} {al:Int} (h:aStF k nm tg e c b el al a=true) (he:e=true->e'=true) (hc:c=true->c'=true) (hb:b=true->b'=true) (hl:el=true->el'=true) (ha:a=true->a'=true):aStF k nm tg e' c' b' el' al a'=true:=by
 unfold aStF at h ⊢
 repeat' split at h
 all_goals simp_all
theorem vB_bA:∀ (m:Nat) (d:D),SizeOf.sizeOf d<=m->vB d=true->bA d=true:=by
 intro m
 induction m with
 |zero=>
  intro d hm h;rw [bA_eq];refine allB_yes fun i hi=>?_
  have:=lel_lt (j:=0) hi;omega
 |succ m ih=>
  intro d hm h;rw [vB_eq] at h;rw [bA_eq];refine allB_yes fun i hi=>?_
  have h0:=allB_iff.1 h i hi;have z1:=lel_lt (j:=16) hi;have z2:=lel_lt (j:=17) hi;have z3:=lel_lt (j:=18) hi;refine aSt_imp h0 vX_aX vC_aC (ih _ (by omega)) (ih _ (by omega)) fun ha=>?_
  refine allB_yes fun j hj=>?_
  have h1:=allB_iff.1 ha j hj;have z4:=lel_lt (j:=2) hj;unfold vAr at h1;unfold arE;simp only [Bool.and_eq_true] at h1 ⊢;exact ⟨h1.1,ih _ (by omega) h1.2⟩
noncomputable def srqS:FSpec:=fun ds _=>match ds with
 | [.d d]=>some {val:=.one (.sc (.bool (.sym (vB d)))),vc:=[sW d]}
 |_=>none
noncomputable def srqC:Con:=con [gB0] srqS
noncomputable def srqM:List Dat->Nat:=fun ds=>match ds with
 | [.d d]=>SizeOf.sizeOf d
 |_=>0
noncomputable def srqSu (m:Nat):FSpec:=fun ds _=>match ds with
 | [.d d]=>some {val:=.one (.sc (.bool (.sym (vB d)))),vc:=[SizeOf.sizeOf d<m,sW d]}
 |_=>none
theorem srq_under (m:Nat):srqS.under srqM m=srqSu m:=by
 funext ds fr
 unfold FSpec.under srqS srqM srqSu;split
 ·rename_i e h
  split at h
  ·obtain rfl:=Option.some.inj h;rfl
  ·cases h
 ·rename_i h
  split at h
  ·cases h
  ·rfl
theorem srq_step (m:Nat) (ih:ConOK Tryz.prog 37 (con [gB0] (srqSu m))):ConOK Tryz.prog 37 (con [gB0] (srqSu (m+1))):=by
 refine fn_ob tt_ok mixed Tryz.func37 rfl (fun _ _=>by kernel_rfl) (A:=fun ds=>⟨fun _=>Cons.of [(35,nmqC),(64,xrqC),(65,crqC),(37,con [gB0] (srqSu m))],fun k=>match k,ds with | 2,[.d d]=>some {ι:=Nat,pre:=fun _ i=>i<=d.len/\∀ j,j<i->vSt d j=true,μ:=fun i=>d.len+1-i,st:=fun s i=>famR s [(3,.one (.sc (.int .i64 (.sym ((i:Nat))))))] [0] [] []} | 18,[.d d]=>some {ι:=Nat,pre:=fun s q=>q<=(d.el (slotN s 3) 18).len/\True,μ:=fun q=>2097154-q,st:=fun s q=>famR s [(6,.one (.sc (.int .i64 (.sym ((q:Nat)))))),(5,.one (.sc (.bool (.sym (nmB (d.el (slotN s 3) 1).toS&&decide (((d.el (slotN s 3) 18).len:Int)>0)&&vAk (d.el (slotN s 3) 18) q)))))] [0,3,4] [] [4]} |_,_=>none,fun _=>none⟩) (fun _ _=>(cons_cons nmq_ok (cons_cons xrq_ok (cons_cons crq_ok (cons_cons ih cons_nil))))) (by kernel_rfl) ?_
 intro ds fr;unfold srqSu;split
 ·rename_i d
  refine kmp (q:=withv (fun (i:Nat)=>d.el (i:Int).toNat 18) fun E187=>withv (fun (i:Nat)=>vC (d.el (i:Int).toNat 7).toI (d.el (i:Int).toNat 8).toI (d.el (i:Int).toNat 9).toI (d.el (i:Int).toNat 10).toS (d.el (i:Int).toNat 11) (d.el (i:Int).toNat 12).toI (d.el (i:Int).toNat 13).toI (d.el (i:Int).toNat 14).toS (d.el (i:Int).toNat 15)&&vB (d.el (i:Int).toNat 16)) fun E188=>withv (fun (i:Nat)=>d.el (i:Int).toNat 15) fun E189=>withv (fun (i:Nat)=>d.el (i:Int).toNat 14) fun E190=>withv (fun (i:Nat)=>d.el (i:Int).toNat 11) fun E191=>withv (fun (i:Nat)=>d.el (i:Int).toNat 10) fun E192=>withv (fun (i:Nat)=>d.el (i:Int).toNat 13) fun E193=>withv (fun (i:Nat)=>d.el (i:Int).toNat 16) fun E194=>withv (fun (i:Nat)=>d.el (i:Int).toNat 12) fun E195=>withv (fun (i:Nat)=>d.el (i:Int).toNat 17) fun E196=>withv (fun (i:Nat)=>d.el (i:Int).toNat 9) fun E197=>withv (fun (i:Nat)=>d.el (i:Int).toNat 8) fun E198=>withv (fun (i:Nat)=>d.el (i:Int).toNat 7) fun E199=>withv (fun (i:Nat)=>d.el (i:Int).toNat 6) fun E200=>withv (fun (i:Nat)=>d.el (i:Int).toNat 5) fun E201=>withv (fun (i:Nat)=>d.el (i:Int).toNat 1) fun E202=>withv (fun (i:Nat)=>d.el (i:Int).toNat 4) fun E203=>withv (fun (i:Nat) (i_1:Nat)=>nmB (d.el i 1).toS&&decide ((↑(d.el i 18).len:Int)>(0:Int))&&vAk (d.el i 18) i_1&&nmB ((E187 i).el (i_1:Int).toNat ((0:Nat)+(0:Nat))).toS&&nmB ((E187 i).el (i_1:Int).toNat 1).toS) fun E204=>withv (fun (i:Nat)=>d.el (i:Int).toNat 0) fun E205=>withv (fun (i:Nat)=>d.el (i:Int).toNat 3) fun E206=>withv (fun (i:Nat)=>d.el (i:Int).toNat 2) fun E207=>withv (fun (i:Nat) (i_1:Nat)=>nmB (d.el i 1).toS&&decide ((↑(d.el i 18).len:Int)>(0:Int))&&vAk (d.el i 18) i_1) fun E208=>withv (fun (i:Nat) (i_1:Nat)=>nmB (d.el i 1).toS&&decide ((↑(d.el i 18).len:Int)>(0:Int))&&vAk (d.el i 18) i_1&&nmB ((E187 i).el (i_1:Int).toNat ((0:Nat)+(0:Nat))).toS) fun E209=>withv (fun (i:Nat)=>vC (E199 i).toI (E198 i).toI (E197 i).toI (E192 i).toS (E191 i) (E195 i).toI (E193 i).toI (E190 i).toS (E189 i)&&vB (E194 i)&&vB (E196 i)) fun E210=>withv (fun (i:Nat)=>nmB (E202 i).toS&&nmB (E207 i).toS&&vX (E206 i).toI (E203 i).toI (E201 i).toS (E200 i)) fun E211=>withv (fun (i:Nat) (i_1:Nat)=>(E187 i).el (i_1:Int).toNat ((0:Nat)+(2:Nat))) fun E212=>withv (fun (i:Nat)=>nmB (E202 i).toS&&vX (E206 i).toI (E203 i).toI (E201 i).toS (E200 i)) fun E213=>SizeOf.sizeOf d<m+(1:Nat)->sW d->(∃ (i:Nat),(i<=d.len/\∀ (j:Nat),j<i->vSt d j=true)/\(0:Int)=(i:Int)/\d.rows=d.rows)/\∀ (i:Nat),(i<=d.len/\∀ (j:Nat),j<i->vSt d j=true)->(decide ((i:Int)<(d.len:Int))=true->((0:Int)<=(i:Int)/\(i:Int)<(d.len:Int))/\(((E205 i).toI==(1:Int))=true->(E202 i).toS.size<=2147483647/\(nmB (E202 i).toS=true/\True->(E201 i).toS.size<=2147483647)/\(nmB (E202 i).toS=true/\True->sW (E200 i))/\((!(E213 i))=true->false=vB d)/\((!(E213 i))=false->∃ (j:Nat),(j<=d.len/\∀ (j_1:Nat),j_1<j->vSt d j_1=true)/\d.len+(1:Nat)-j<d.len+(1:Nat)-i/\IntKind.i64.wrap ((i:Int)+(1:Int))=(j:Int)/\d.rows=d.rows))/\(((E205 i).toI==(1:Int))=false->(((E205 i).toI==(2:Int))=true->(E192 i).toS.size<=2147483647/\sW (E191 i)/\(E190 i).toS.size<=2147483647/\sW (E189 i)/\(vC (E199 i).toI (E198 i).toI (E197 i).toI (E192 i).toS (E191 i) (E195 i).toI (E193 i).toI (E190 i).toS (E189 i)=true/\True->SizeOf.sizeOf (E194 i)<m)/\(vC (E199 i).toI (E198 i).toI (E197 i).toI (E192 i).toS (E191 i) (E195 i).toI (E193 i).toI (E190 i).toS (E189 i)=true/\True->sW (E194 i))/\((E188 i)=true/\True->SizeOf.sizeOf (E196 i)<m)/\((E188 i)=true/\True->sW (E196 i))/\((!(E210 i))=true->false=vB d)/\((!(E210 i))=false->∃ (j:Nat),(j<=d.len/\∀ (j_1:Nat),j_1<j->vSt d j_1=true)/\d.len+(1:Nat)-j<d.len+(1:Nat)-i/\IntKind.i64.wrap ((i:Int)+(1:Int))=(j:Int)/\d.rows=d.rows))/\(((E205 i).toI==(2:Int))=false->(((E205 i).toI==(3:Int))=true->(E192 i).toS.size<=2147483647/\sW (E191 i)/\(E190 i).toS.size<=2147483647/\sW (E189 i)/\(vC (E199 i).toI (E198 i).toI (E197 i).toI (E192 i).toS (E191 i) (E195 i).toI (E193 i).toI (E190 i).toS (E189 i)=true/\True->SizeOf.sizeOf (E194 i)<m)/\(vC (E199 i).toI (E198 i).toI (E197 i).toI (E192 i).toS (E191 i) (E195 i).toI (E193 i).toI (E190 i).toS (E189 i)=true/\True->sW (E194 i))/\((!(E188 i))=true->false=vB d)/\((!(E188 i))=false->∃ (j:Nat),(j<=d.len/\∀ (j_1:Nat),j_1<j->vSt d j_1=true)/\d.len+(1:Nat)-j<d.len+(1:Nat)-i/\IntKind.i64.wrap ((i:Int)+(1:Int))=(j:Int)/\d.rows=d.rows))/\(((E205 i).toI==(3:Int))=false->(((E205 i).toI==(4:Int))=true->(E202 i).toS.size<=2147483647/\(nmB (E202 i).toS=true/\True->(E207 i).toS.size<=2147483647)/\((nmB (E202 i).toS&&nmB (E207 i).toS)=true/\True->(E201 i).toS.size<=2147483647)/\((nmB (E202 i).toS&&nmB (E207 i).toS)=true/\True->sW (E200 i))/\((!(E211 i))=true->false=vB d)/\((!(E211 i))=false->∃ (j:Nat),(j<=d.len/\∀ (j_1:Nat),j_1<j->vSt d j_1=true)/\d.len+(1:Nat)-j<d.len+(1:Nat)-i/\IntKind.i64.wrap ((i:Int)+(1:Int))=(j:Int)/\d.rows=d.rows))/\(((E205 i).toI==(4:Int))=false->(((E205 i).toI==(5:Int))=true->(E202 i).toS.size<=2147483647/\(∃ (i_1:Nat),(i_1<=(d.el i 18).len/\True)/\(0:Int)=(i_1:Int)/\(nmB (E202 i).toS&&decide ((↑(E187 i).len:Int)>(0:Int)))=(E208 i i_1)/\d.rows=d.rows/\(i:Int)=(i:Int)/\(E205 i).toI=(E205 i).toI/\Value.string (E202 i).toS=Value.string (E202 i).toS/\Value.string (E207 i).toS=Value.string (E207 i).toS/\(E206 i).toI=(E206 i).toI/\(E203 i).toI=(E203 i).toI/\Value.string (E201 i).toS=Value.string (E201 i).toS/\(E200 i).rows=(E200 i).rows/\(E199 i).toI=(E199 i).toI/\(E198 i).toI=(E198 i).toI/\(E197 i).toI=(E197 i).toI/\Value.string (E192 i).toS=Value.string (E192 i).toS/\(E191 i).rows=(E191 i).rows/\(E195 i).toI=(E195 i).toI/\(E193 i).toI=(E193 i).toI/\Value.string (E190 i).toS=Value.string (E190 i).toS/\(E189 i).rows=(E189 i).rows/\(E194 i).rows=(E194 i).rows/\(E196 i).rows=(E196 i).rows/\(E187 i).rows=(E187 i).rows)/\∀ (i_1:Nat),i_1<=(d.el i 18).len/\True->(decide ((i_1:Int)<(↑(E187 i).len:Int))=true->((E208 i i_1)=true/\True->(0:Int)<=(i_1:Int)/\(i_1:Int)<(↑(E187 i).len:Int))/\((E208 i i_1)=true/\True->((E187 i).el (i_1:Int).toNat ((0:Nat)+(0:Nat))).toS.size<=2147483647)/\((E209 i i_1)=true/\True->(0:Int)<=(i_1:Int)/\(i_1:Int)<(↑(E187 i).len:Int))/\((E209 i i_1)=true/\True->((E187 i).el (i_1:Int).toNat 1).toS.size<=2147483647)/\((E204 i i_1)=true/\True->(0:Int)<=(i_1:Int)/\(i_1:Int)<(↑(E187 i).len:Int))/\((E204 i i_1)=true/\True->SizeOf.sizeOf (E212 i i_1)<m)/\((E204 i i_1)=true/\True->sW (E212 i i_1))/\∃ (j:Nat),(j<=(d.el i 18).len/\True)/\(2097154:Nat)-j<(2097154:Nat)-i_1/\IntKind.i64.wrap ((i_1:Int)+(1:Int))=(j:Int)/\(nmB (d.el i 1).toS&&decide ((↑(d.el i 18).len:Int)>(0:Int))&&vAk (d.el i 18) i_1&&nmB ((E187 i).el (i_1:Int).toNat ((0:Nat)+(0:Nat))).toS&&nmB ((E187 i).el (i_1:Int).toNat 1).toS&&vB (E212 i i_1))=(nmB (d.el i 1).toS&&decide ((↑(d.el i 18).len:Int)>(0:Int))&&vAk (d.el i 18) j)/\d.rows=d.rows/\(i:Int)=(i:Int)/\(E205 i).toI=(E205 i).toI/\Value.string (E202 i).toS=Value.string (E202 i).toS/\Value.string (E207 i).toS=Value.string (E207 i).toS/\(E206 i).toI=(E206 i).toI/\(E203 i).toI=(E203 i).toI/\Value.string (E201 i).toS=Value.string (E201 i).toS/\(E200 i).rows=(E200 i).rows/\(E199 i).toI=(E199 i).toI/\(E198 i).toI=(E198 i).toI/\(E197 i).toI=(E197 i).toI/\Value.string (E192 i).toS=Value.string (E192 i).toS/\(E191 i).rows=(E191 i).rows/\(E195 i).toI=(E195 i).toI/\(E193 i).toI=(E193 i).toI/\Value.string (E190 i).toS=Value.string (E190 i).toS/\(E189 i).rows=(E189 i).rows/\(E194 i).rows=(E194 i).rows/\(E196 i).rows=(E196 i).rows/\(E187 i).rows=(E187 i).rows)/\(decide ((i_1:Int)<(↑(E187 i).len:Int))=false->((!(E208 i i_1))=true->false=vB d)/\((!(E208 i i_1))=false->∃ (j:Nat),(j<=d.len/\∀ (j_1:Nat),j_1<j->vSt d j_1=true)/\d.len+(1:Nat)-j<d.len+(1:Nat)-i/\IntKind.i64.wrap ((i:Int)+(1:Int))=(j:Int)/\d.rows=d.rows)))/\(((E205 i).toI==(5:Int))=false->(((E205 i).toI==(6:Int))=true->(E192 i).toS.size<=2147483647/\sW (E191 i)/\(E190 i).toS.size<=2147483647/\sW (E189 i)/\((!vC (E199 i).toI (E198 i).toI (E197 i).toI (E192 i).toS (E191 i) (E195 i).toI (E193 i).toI (E190 i).toS (E189 i))=true->false=vB d)/\((!vC (E199 i).toI (E198 i).toI (E197 i).toI (E192 i).toS (E191 i) (E195 i).toI (E193 i).toI (E190 i).toS (E189 i))=false->∃ (j:Nat),(j<=d.len/\∀ (j_1:Nat),j_1<j->vSt d j_1=true)/\d.len+(1:Nat)-j<d.len+(1:Nat)-i/\IntKind.i64.wrap ((i:Int)+(1:Int))=(j:Int)/\d.rows=d.rows))/\(((E205 i).toI==(6:Int))=false->(((E205 i).toI==(7:Int))=true->(E202 i).toS.size<=2147483647/\((!nmB (E202 i).toS)=true->false=vB d)/\((!nmB (E202 i).toS)=false->∃ (j:Nat),(j<=d.len/\∀ (j_1:Nat),j_1<j->vSt d j_1=true)/\d.len+(1:Nat)-j<d.len+(1:Nat)-i/\IntKind.i64.wrap ((i:Int)+(1:Int))=(j:Int)/\d.rows=d.rows))/\(((E205 i).toI==(7:Int))=false->false=vB d))))))))/\(decide ((i:Int)<(d.len:Int))=false->true=vB d)) (by kernel_rfl) ?_
  dsimp +instances only [withv]
  intro hm hd;have en:∀ i:Nat,(i:Int).toNat=i:=fun i=>Int.toNat_natCast i
  simp only [Nat.reduceAdd,Nat.zero_add,en];have hl:=sW_len hd;refine ⟨⟨0,⟨Nat.zero_le _,fun j hj=>absurd hj (Nat.not_lt_zero j)⟩,rfl,trivial⟩,fun i hp=>⟨fun hc=>?_,fun hc=>?_⟩⟩
  ·have hc:=of_decide_eq_true hc;have hi:i<d.len:=by omega
   have hw:IntKind.i64.wrap ((i:Int)+1)=((i+1:Nat):Int):=by rw [IntWalk.i64_in _ (by omega)];omega
   have s1:=sW_str (sW_el hd hi 1);have s2:=sW_str (sW_el hd hi 2);have s5:=sW_str (sW_el hd hi 5);have s6:=sW_el hd hi 6;have s10:=sW_str (sW_el hd hi 10);have s11:=sW_el hd hi 11;have s14:=sW_str (sW_el hd hi 14);have s15:=sW_el hd hi 15;have s16:=sW_el hd hi 16;have s17:=sW_el hd hi 17;have s18:=sW_el hd hi 18;have z16:=lel_lt (j:=16) hi;have z17:=lel_lt (j:=17) hi;have z18:=lel_lt (j:=18) hi;have z16:SizeOf.sizeOf (d.el i 16)<m:=by omega
   have z17:SizeOf.sizeOf (d.el i 17)<m:=by omega
   have fin:∀ X:Bool,X=vSt d i->((!X)=true->false=vB d)/\((!X)=false->∃ j:Nat,(j<=d.len/\∀ j_1,j_1<j->vSt d j_1=true)/\d.len+1-j<d.len+1-i/\IntKind.i64.wrap ((i:Int)+1)=(j:Int)/\True):=fun X hX=>by
    refine ⟨fun h=>?_,fun h=>⟨i+1,⟨hi,fun j hj=>?_⟩,by omega,hw,trivial⟩⟩
    ·rw [vB_eq];exact (allB_no hi (by rw [<- hX];simpa using h)).symm
    ·rcases Nat.lt_or_ge j i with h1 |h1
     ·exact hp.2 j h1
     ·obtain rfl:j=i:=by omega
      rw [<- hX];simpa using h
   refine ⟨⟨by omega,hc⟩,fun k=>⟨s1,fun _=>s5,fun _=>s6,fin _ ?_⟩,fun k1=>⟨fun k=>⟨s10,s11,s14,s15,fun _=>z16,fun _=>s16,fun _=>z17,fun _=>s17,fin _ ?_⟩,fun k2=>⟨fun k=>⟨s10,s11,s14,s15,fun _=>z16,fun _=>s16,fin _ ?_⟩,fun k3=>⟨fun k=>⟨s1,fun _=>s2,fun _=>s5,fun _=>s6,fin _ ?_⟩,fun k4=>⟨fun k=>⟨s1,⟨0,⟨Nat.zero_le _,trivial⟩,rfl,?_,(by (repeat' (with_reducible apply And.intro))<;>first |exact True.intro |rfl)⟩,fun q hq=>⟨fun hc=>?_,fun hc=>fin _ ?_⟩⟩,fun k5=>⟨fun k=>⟨s10,s11,s14,s15,fin _ ?_⟩,fun k6=>⟨fun k=>⟨s1,fin _ ?_⟩,fun k7=>?_⟩⟩⟩⟩⟩⟩⟩
   ·unfold vSt vA aStF;rw [eq_of_beq k];rfl
   ·unfold vSt vA aStF;rw [eq_of_beq k];rfl
   ·unfold vSt vA aStF;rw [eq_of_beq k];rfl
   ·unfold vSt vA aStF;rw [eq_of_beq k];rfl
   ·show _=(_&&true);rw [Bool.and_true]
   ·have hc:=of_decide_eq_true hc;have hq2:q<(d.el i 18).len:=by omega
    have hl2:=sW_len s18;have t0:=sW_str (sW_el s18 hq2 0);have t1:=sW_str (sW_el s18 hq2 1);have t2:=sW_el s18 hq2 2;have t3:=lel_lt (j:=2) hq2;have hx:(0:Int)<=(q:Int)/\(q:Int)<((d.el i 18).len:Int):=⟨by omega,hc⟩
    have hw2:IntKind.i64.wrap ((q:Int)+1)=((q+1:Nat):Int):=by rw [IntWalk.i64_in _ (by omega)];omega
    refine ⟨fun _=>hx,fun _=>t0,fun _=>hx,fun _=>t1,fun _=>hx,fun _=>by omega,fun _=>t2,q+1,⟨hq2,trivial⟩,by omega,hw2,?_,(by (repeat' (with_reducible apply And.intro))<;>first |exact True.intro |rfl)⟩
    rw [vAk_succ];unfold vAr;simp only [Bool.and_assoc]
   ·have hc:=of_decide_eq_false hc;obtain rfl:q=(d.el i 18).len:=by have:=hq.1;omega
    unfold vSt vA aStF;rw [eq_of_beq k];rfl
   ·unfold vSt vA aStF;rw [eq_of_beq k];rfl
   ·unfold vSt vA aStF;rw [eq_of_beq k];rfl
   ·rw [vB_eq];refine (allB_no hi ?_).symm;unfold vSt vA aStF;rw [if_neg (ne_of_beq_false k1),if_neg (ne_of_beq_false k2),if_neg (ne_of_beq_false k3),if_neg (ne_of_beq_false k4),if_neg (ne_of_beq_false k5),if_neg (ne_of_beq_false k6),if_neg (ne_of_beq_false k7)]
  ·have hc:=of_decide_eq_false hc;rw [vB_eq];exact (allB_yes fun j hj=>hp.2 j (by omega)).symm
 ·trivial
theorem srq_ok:ConOK Tryz.prog 37 srqC:=
 con_rec srqM (fun _ _=>by kernel_rfl) fun m ih=>by
  rw [srq_under] at ih ⊢;exact srq_step m ih
end Go.Proofs.YtbhbjhejkamlnaaGreat.Sx.Z
