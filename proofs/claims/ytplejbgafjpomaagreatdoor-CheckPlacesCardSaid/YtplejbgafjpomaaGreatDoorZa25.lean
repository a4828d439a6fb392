import Derived.Test.YtplejbgafjpomaaGreatDoorZa24
set_option linter.unusedVariables false
set_option linter.unusedSimpArgs false
namespace Go.Proofs.YtplejbgafjpomaaGreatDoor.Sx.Z
open Go.RowKit
def flE (e be:Int):Int:=if be=0 then e else be
def plE (l:D) (s:ByteArray) (be:Int):Int:=if ixN l s<0 then flE 8 be else be
def gxN (k n:Int):Int:=if k=1 then n else 0
def gxI (bv:D) (k:Int) (s:ByteArray):Int:=if k=1 then 0 else if k=2 then ixN bv s else 0
def gxD (bv d:D):D:=.l ((List.finRange d.len).map fun (i:Fin d.len)=>[D.i (d.el i 0).toI,D.i (gxN (d.el i 0).toI (d.el i 1).toI),D.i (gxI bv (d.el i 0).toI (d.el i 2).toS),if (d.el i 0).toI=1 then .l [] else if (d.el i 0).toI=2 then .l [] else gxD bv (d.el i 3)])
 termination_by SizeOf.sizeOf d
 decreasing_by exact lel_lt i.isLt
def gxK (bv:D) (k:Int) (d:D):D:=if k=1 then .l [] else if k=2 then .l [] else gxD bv d
def gxR (bv d:D) (i:Nat):List D:=[D.i (d.el i 0).toI,D.i (gxN (d.el i 0).toI (d.el i 1).toI),D.i (gxI bv (d.el i 0).toI (d.el i 2).toS),gxK bv (d.el i 0).toI (d.el i 3)]
theorem gxD_eq (bv d:D):gxD bv d=cpTo d.len (gxR bv d):=by
 rw [gxD,<- cpF_eq];rfl
theorem itN_fin' {α:Type} (g:Nat -> α -> α) (n:Nat) (x : α):(List.finRange n).foldl (fun a i=>g i.1 a) x=(List.range n).foldl (fun a i=>g i a) x:=by
 have h1:(List.finRange n).foldl (fun a i=>g i.1 a) x=((List.finRange n).map fun i=>i.1).foldl (fun a i=>g i a) x:=by rw [List.foldl_map]
 have h2:((List.finRange n).map fun i=>i.1)=List.range n:=by
  apply List.ext_getElem
  ·simp
  ·intro i h1 h2
   simp
 rw [h1,h2]
def goN {α:Type} (g:Nat -> α -> α) (n:Nat) (x : α) : α:=(List.range n).foldl (fun a i=>g i a) x
theorem goN_s {α:Type} (g:Nat -> α -> α) (n:Nat) (x : α):goN g (n+1) x=g n (goN g n x):=by
 unfold goN;rw [List.range_succ,List.foldl_append];rfl
def gyE (bv d:D) (be:Int):Int:=(List.finRange d.len).foldl (fun (e:Int) (i:Fin d.len)=>if (d.el i 0).toI=1 then e else if (d.el i 0).toI=2 then plE bv (d.el i 2).toS e else gyE bv (d.el i 3) e) be
 termination_by SizeOf.sizeOf d
 decreasing_by exact lel_lt i.isLt
def gxE (bv:D) (k:Int) (s:ByteArray) (d:D) (be:Int):Int:=if k=1 then be else if k=2 then plE bv s be else gyE bv d be
def gxQ (bv d:D) (i:Nat) (e:Int):Int:=gxE bv (d.el i 0).toI (d.el i 2).toS (d.el i 3) e
theorem gyE_eq (bv d:D) (be:Int):gyE bv d be=goN (gxQ bv d) d.len be:=by
 rw [gyE,goN,<- itN_fin'];rfl
noncomputable def faiS:List Dat->Option (Eff × List Seg):=fun ds=>match ds with
 | [.d bc,.s bp,.d bv,.i be,.i e]=>some ({val:=.tup [],vc:=[]},[.c (.rows 118 bc),.c (.raw (.string bp)),.c (.rows 9 bv),.c (.int .i64 (.sym (flE e be)))])
 |_=>none
noncomputable def faiC:Con:=conM 182 [.c (.rows 118),.c .str,.c (.rows 9),.c (.int .i64)] [.sc (.int .i64)] faiS
theorem fai_ok:ConOK Tryz.prog 167 faiC:=by
 refine fn_obM tt_ok mixed Tryz.func167 rfl (fun _ _=>by kernel_rfl) (A:=fun ds=>⟨fun _=>Cons.of [],fun _=>none,fun _=>none⟩) (fun _ _=>cons_nil) (by kernel_rfl) ?_
 intro ds;unfold faiS;split
 ·rename_i bc bp bv be e;refine kmp (q:=((be==(0:Int))=true->bc.rows=bc.rows/\Value.string bp=Value.string bp/\bv.rows=bv.rows/\e=flE e be)/\((be==(0:Int))=false->bc.rows=bc.rows/\Value.string bp=Value.string bp/\bv.rows=bv.rows/\be=flE e be)) (by kernel_rfl) ?_
  unfold flE;exact ⟨fun h=>⟨rfl,rfl,rfl,(if_pos (eq_of_beq h)).symm⟩,fun h=>⟨rfl,rfl,rfl,(if_neg (ne_of_beq_false h)).symm⟩⟩
 ·trivial
noncomputable def plgS:List Dat->Option (Eff × List Seg):=fun ds=>match ds with
 | [.d bc,.s bp,.d bv,.i be,.d l,.s s]=>some ({val:=.one (.sc (.int .i64 (.sym (ixN l s)))),vc:=[l.len<=10000000000000]},[.c (.rows 118 bc),.c (.raw (.string bp)),.c (.rows 9 bv),.c (.int .i64 (.sym (plE l s be)))])
 |_=>none
noncomputable def plgC:Con:=conM 182 [.c (.rows 118),.c .str,.c (.rows 9),.c (.int .i64)] [.sc (.rows 9),.sc .str] plgS
theorem plg_ok:ConOK Tryz.prog 140 plgC:=by
 refine fn_obM tt_ok mixed Tryz.func140 rfl (fun _ _=>by kernel_rfl) (A:=fun ds=>⟨fun _=>Cons.of [(105,ixsC),(167,faiC)],fun _=>none,fun _=>none⟩) (fun _ _=>(cons_cons ixs_ok (cons_cons fai_ok cons_nil))) (by kernel_rfl) ?_
 intro ds;unfold plgS;split
 ·rename_i bc bp bv be l s;refine kmp (q:=l.len<=10000000000000->l.len<=10000000000000/\(decide (ixN l s<(0:Int))=true->ixN l s=ixN l s/\bc.rows=bc.rows/\Value.string bp=Value.string bp/\bv.rows=bv.rows/\flE (8:Int) be=plE l s be)/\(decide (ixN l s<(0:Int))=false->ixN l s=ixN l s/\bc.rows=bc.rows/\Value.string bp=Value.string bp/\bv.rows=bv.rows/\be=plE l s be)) (by kernel_rfl) ?_
  intro hl;unfold plE;exact ⟨hl,fun h=>⟨rfl,rfl,rfl,rfl,(if_pos (of_decide_eq_true h)).symm⟩,fun h=>⟨rfl,rfl,rfl,rfl,(if_neg (of_decide_eq_false h)).symm⟩⟩
 ·trivial
noncomputable def bxgS:List Dat->Option (Eff × List Seg):=fun ds=>match ds with
 | [.d bc,.s bp,.d bv,.i be,.i k,.i n,.s s,.d d]=>some ({val:=.one (.agg [.c (.int .i64 (.sym (k))),.c (.int .i64 (.sym (gxN (k) (n)))),.c (.int .i64 (.sym (gxI bv (k) (s)))),.c (.rows 161 (gxK bv (k) (d)))]),vc:=[bv.len<=10000000000000,k4S d]},[.c (.rows 118 bc),.c (.raw (.string bp)),.c (.rows 9 bv),.c (.int .i64 (.sym (gxE bv k s d be)))])
 |_=>none
noncomputable def bxgC:Con:=conM 182 [.c (.rows 118),.c .str,.c (.rows 9),.c (.int .i64)] [lX] bxgS
noncomputable def bxgM:List Dat->Nat:=fun ds=>match ds with
 | [.d bc,.s bp,.d bv,.i be,.i k,.i n,.s s,.d d]=>SizeOf.sizeOf d
 |_=>0
noncomputable def bxgSu (m:Nat):List Dat->Option (Eff × List Seg):=fun ds=>match ds with
 | [.d bc,.s bp,.d bv,.i be,.i k,.i n,.s s,.d d]=>some ({val:=.one (.agg [.c (.int .i64 (.sym (k))),.c (.int .i64 (.sym (gxN (k) (n)))),.c (.int .i64 (.sym (gxI bv (k) (s)))),.c (.rows 161 (gxK bv (k) (d)))]),vc:=[SizeOf.sizeOf d<m,bv.len<=10000000000000,k4S d]},[.c (.rows 118 bc),.c (.raw (.string bp)),.c (.rows 9 bv),.c (.int .i64 (.sym (gxE bv k s d be)))])
 |_=>none
theorem bxg_under (m:Nat):underM bxgS bxgM m=bxgSu m:=by
 funext ds
 unfold underM bxgS bxgM bxgSu;split
 ·rename_i e sg h
  split at h
  ·obtain ⟨rfl,rfl⟩:=Prod.mk.inj (Option.some.inj h);rfl
  ·cases h
 ·rename_i h
  split at h
  ·cases h
  ·rfl
theorem bxg_step (m:Nat) (ih:ConOK Tryz.prog 141 (conM 182 [.c (.rows 118),.c .str,.c (.rows 9),.c (.int .i64)] [lX] (bxgSu m))):ConOK Tryz.prog 141 (conM 182 [.c (.rows 118),.c .str,.c (.rows 9),.c (.int .i64)] [lX] (bxgSu (m+1))):=by
 refine fn_obM tt_ok mixed Tryz.func141 rfl (fun _ _=>by kernel_rfl) (A:=fun ds=>⟨fun _=>Cons.of [(140,plgC),(141,conM 182 [.c (.rows 118),.c .str,.c (.rows 9),.c (.int .i64)] [lX] (bxgSu m))],fun k=>match k,ds with | 8,[.d bc,.s bp,.d bv,.i be,.i k,.i n,.s s,.d d]=>some {ι:=Nat,pre:=fun _ i=>i<=d.len,μ:=fun i=>d.len+1-i,st:=fun s i=>famR s [(36,.one (.sc (.int .i64 (.sym ((i:Nat))))))] [0,3,4,5,34,35] [(0,.own 182 ([.c (.rows 118 bc),.c (.raw (.string bp)),.c (.rows 9 bv),.c (.int .i64 (.sym (goN (gxQ bv d) i be)))])),(idOf s 5,.own 161 ([.c (.int .i64 (.sym (k))),.c (.int .i64 (.lit 0)),.c (.int .i64 (.lit 0)),.c (.osl 161 (s.nx-1) (.lit 0) (.sym (i:Nat)))])),(s.nx-1,.orow 161 (cpTo i (gxR bv d)))] [3,4]} |_,_=>none,fun _=>none⟩) (fun _ _=>(cons_cons plg_ok (cons_cons ih cons_nil))) (by kernel_rfl) ?_
 intro ds;unfold bxgSu;split
 ·rename_i bc bp bv be k n s d
  refine kmp (q:=SizeOf.sizeOf d<m+(1:Nat)->bv.len<=10000000000000->k4S d->((k==(1:Int))=true->k=k/\n=gxN k n/\(0:Int)=gxI bv k s/\(gxK bv k d).rows=[]/\bc.rows=bc.rows/\Value.string bp=Value.string bp/\bv.rows=bv.rows/\be=gxE bv k s d be)/\((k==(1:Int))=false->((k==(2:Int))=true->bv.len<=10000000000000/\k=k/\(0:Int)=gxN k n/\ixN bv s=gxI bv k s/\(gxK bv k d).rows=[]/\bc.rows=bc.rows/\Value.string bp=Value.string bp/\bv.rows=bv.rows/\plE bv s be=gxE bv k s d be)/\((k==(2:Int))=false->(∃ (i:Nat),i.le d.len/\(0:Int)=(i:Int)/\d.rows=d.rows/\(d.len:Int)=(d.len:Int)/\bc.rows=bc.rows/\Value.string bp=Value.string bp/\bv.rows=bv.rows/\be=goN (gxQ bv d) i be/\k=k/\(0:Int)=(0:Int)/\(0:Int)=(0:Int)/\i=(0:Nat)/\List.map (gxR bv d) (List.range i)=[]/\k=k/\n=n/\Value.string s=Value.string s/\d.rows=d.rows/\(0:Int)=(0:Int)/\(0:Int)=(0:Int)/\(0:Int)=(0:Int))/\∀ (i:Nat),i.le d.len->(decide ((i:Int)<(d.len:Int))=true->((0:Int)<=(i:Int)/\(i:Int)<(d.len:Int))/\SizeOf.sizeOf (d.el (i:Int).toNat 3)<m/\bv.len<=10000000000000/\k4S (d.el (i:Int).toNat 3)/\i=(cpTo i (gxR bv d)).len/\(i+((D.l [[D.i (d.el (i:Int).toNat 0).toI,D.i (gxN (d.el (i:Int).toNat 0).toI (d.el (i:Int).toNat 1).toI),D.i (gxI bv (d.el (i:Int).toNat 0).toI (d.el (i:Int).toNat 2).toS),gxK bv (d.el (i:Int).toNat 0).toI (d.el (i:Int).toNat 3)]]).sub (0:Nat) 1).len)*(48:Nat)<=(140737488355328:Nat)/\(0:Nat)+(1:Nat)<=(D.l [[D.i (d.el (i:Int).toNat 0).toI,D.i (gxN (d.el (i:Int).toNat 0).toI (d.el (i:Int).toNat 1).toI),D.i (gxI bv (d.el (i:Int).toNat 0).toI (d.el (i:Int).toNat 2).toS),gxK bv (d.el (i:Int).toNat 0).toI (d.el (i:Int).toNat 3)]]).len/\∃ (j:Nat),j.le d.len/\d.len+(1:Nat)-j<d.len+(1:Nat)-i/\IntKind.i64.wrap ((i:Int)+(1:Int))=(j:Int)/\d.rows=d.rows/\(d.len:Int)=(d.len:Int)/\bc.rows=bc.rows/\Value.string bp=Value.string bp/\bv.rows=bv.rows/\gxE bv (d.el (i:Int).toNat 0).toI (d.el (i:Int).toNat 2).toS (d.el (i:Int).toNat 3) (goN (gxQ bv d) i be)=goN (gxQ bv d) j be/\k=k/\(0:Int)=(0:Int)/\(0:Int)=(0:Int)/\i+((D.l [[D.i (d.el (i:Int).toNat 0).toI,D.i (gxN (d.el (i:Int).toNat 0).toI (d.el (i:Int).toNat 1).toI),D.i (gxI bv (d.el (i:Int).toNat 0).toI (d.el (i:Int).toNat 2).toS),gxK bv (d.el (i:Int).toNat 0).toI (d.el (i:Int).toNat 3)]]).sub (0:Nat) 1).len=j/\List.map (gxR bv d) (List.range i)++List.drop (0:Nat) (List.take 1 [[D.i (d.el (i:Int).toNat 0).toI,D.i (gxN (d.el (i:Int).toNat 0).toI (d.el (i:Int).toNat 1).toI),D.i (gxI bv (d.el (i:Int).toNat 0).toI (d.el (i:Int).toNat 2).toS),gxK bv (d.el (i:Int).toNat 0).toI (d.el (i:Int).toNat 3)]])=List.map (gxR bv d) (List.range j)/\k=k/\n=n/\Value.string s=Value.string s/\d.rows=d.rows/\(0:Int)=(0:Int)/\(0:Int)=(0:Int)/\(0:Int)=(0:Int))/\(decide ((i:Int)<(d.len:Int))=false->(0:Nat)+i<=(cpTo i (gxR bv d)).len/\k=k/\(0:Int)=gxN k n/\(0:Int)=gxI bv k s/\List.drop ((0:Nat)) (List.take ((0:Nat)+i) (List.map (gxR bv d) (List.range i)))=(gxK bv k d).rows/\bc.rows=bc.rows/\Value.string bp=Value.string bp/\bv.rows=bv.rows/\goN (gxQ bv d) i be=gxE bv k s d be)))) (by kernel_rfl) ?_
  intro hm hv hs;simp only [Nat.zero_add,Nat.reduceAdd,k_n];rw [k4S_iff] at hs;obtain ⟨h1,h2⟩:=hs;refine ⟨fun h=>?_,fun n1=>⟨fun h=>?_,fun n2=>⟨⟨0,Nat.zero_le _,(by (repeat' (with_reducible apply And.intro))<;>first |exact True.intro |rfl)⟩,fun i hi=>⟨fun hl=>?_,fun hl=>?_⟩⟩⟩⟩
  ·obtain rfl:=eq_of_beq h;exact (by (repeat' (with_reducible apply And.intro))<;>first |exact True.intro |rfl)
  ·obtain rfl:=eq_of_beq h;exact ⟨hv,(by (repeat' (with_reducible apply And.intro))<;>first |exact True.intro |rfl)⟩
  ·have hl:=of_decide_eq_true hl;have hi2:i<d.len:=by omega
   have z:=lel_lt (j:=3) hi2;refine ⟨⟨by omega,by omega⟩,(show SizeOf.sizeOf (d.el i 3)<m by omega),hv,h2 i hi2,(cpTo_len _ _).symm,(show (i+1)*48<=140737488355328 by omega),Nat.le_refl _,i+1,hi2,by omega,k_nx (by omega),?_⟩;rw [goN_s]
   (repeat' (with_reducible apply And.intro))<;>first |exact True.intro |exact (cpTo_succ i (gxR bv d)).symm |rfl
  ·have hl:=of_decide_eq_false hl;have hi3:i=d.len:=by have:i<=d.len:=hi;omega
   subst hi3;have k1:k≠1:=ne_of_beq_false n1;have k2:k≠2:=ne_of_beq_false n2;have q1:gxN k n=0:=if_neg k1;have q2:gxI bv k s=0:=by unfold gxI;rw [if_neg k1,if_neg k2]
   have q3:gxK bv k d=cpTo d.len (gxR bv d):=by unfold gxK;rw [if_neg k1,if_neg k2,gxD_eq]
   have q4:gxE bv k s d be=goN (gxQ bv d) d.len be:=by unfold gxE;rw [if_neg k1,if_neg k2,gyE_eq]
   rw [q1,q2,q3,q4];have t:=takeAll d.len (gxR bv d);rw [Nat.zero_add] at t;refine ⟨by rw [cpTo_len];omega,?_⟩
   (repeat' (with_reducible apply And.intro))<;>first |exact True.intro |exact t |rfl
 ·trivial
theorem bxg_ok:ConOK Tryz.prog 141 bxgC:=
 conM_rec bxgM (fun _ _=>by kernel_rfl) fun m ih=>by
  rw [bxg_under] at ih ⊢;exact bxg_step m ih
noncomputable def bcgS:List Dat->Option (Eff × List Seg):=fun ds=>match ds with
 | [.d bc,.s bp,.d bv,.i be,.i op,.i lk,.i ln,.s ls,.d ld,.i rk,.i rn,.s rs,.d rd]=>some ({val:=.one (.agg [.c (.int .i64 (.sym (op))),.c (.int .i64 (.sym (lk))),.c (.int .i64 (.sym (gxN (lk) (ln)))),.c (.int .i64 (.sym (gxI bv (lk) (ls)))),.c (.rows 161 (gxK bv (lk) (ld))),.c (.int .i64 (.sym (rk))),.c (.int .i64 (.sym (gxN (rk) (rn)))),.c (.int .i64 (.sym (gxI bv (rk) (rs)))),.c (.rows 161 (gxK bv (rk) (rd)))]),vc:=[bv.len<=10000000000000,k4S ld,k4S rd]},[.c (.rows 118 bc),.c (.raw (.string bp)),.c (.rows 9 bv),.c (.int .i64 (.sym (gxE bv rk rs rd (gxE bv lk ls ld be))))])
 |_=>none
noncomputable def bcgC:Con:=conM 182 [.c (.rows 118),.c .str,.c (.rows 9),.c (.int .i64)] [lCo] bcgS
theorem bcg_ok:ConOK Tryz.prog 142 bcgC:=by
 refine fn_obM tt_ok mixed Tryz.func142 rfl (fun _ _=>by kernel_rfl) (A:=fun ds=>⟨fun _=>Cons.of [(141,bxgC)],fun _=>none,fun _=>none⟩) (fun _ _=>(cons_cons bxg_ok cons_nil)) (by kernel_rfl) ?_
 intro ds;unfold bcgS;split
 ·rename_i bc bp bv be op lk ln ls ld rk rn rs rd;refine kmp (q:=bv.len<=10000000000000->k4S ld->k4S rd->bv.len<=10000000000000/\k4S ld/\bv.len<=10000000000000/\k4S rd/\op=op/\lk=lk/\gxN lk ln=gxN lk ln/\gxI bv lk ls=gxI bv lk ls/\(gxK bv lk ld).rows=(gxK bv lk ld).rows/\rk=rk/\gxN rk rn=gxN rk rn/\gxI bv rk rs=gxI bv rk rs/\(gxK bv rk rd).rows=(gxK bv rk rd).rows/\bc.rows=bc.rows/\Value.string bp=Value.string bp/\bv.rows=bv.rows/\gxE bv rk rs rd (gxE bv lk ls ld be)=gxE bv rk rs rd (gxE bv lk ls ld be)) (by kernel_rfl) ?_
  intro h1 h2 h3;exact ⟨h1,h2,h1,h3,(by (repeat' (with_reducible apply And.intro))<;>first |exact True.intro |rfl)⟩
 ·trivial
def cgT (bc:D) (nm:ByteArray):D:=if ixC bc nm<0 then .l [] else bc.el (ixC bc nm).toNat 5
def cgE (c:Nat) (bc:D) (nm bp:ByteArray) (be:Int):Int:=if ixC bc nm<0 then flE 8 be else if eqS (bc.el (ixC bc nm).toNat c).toS bp=true then be else flE 9 be
noncomputable def krcvS:FSpec:=fun ds _=>match ds with
 | [.s nm,.i ck,.i cz,.s cf,.s ct,.d tg]=>some {val:=.one (.sc (.raw (.string (ct)))),vc:=[]}
 |_=>none
noncomputable def krcvC:Con:=con [.agg [.c .str,.c (.int .i64),.c (.int .i64),.c .str,.c .str,.c (.rows 9)]] krcvS
theorem krcv_ok:ConOK Tryz.prog 145 krcvC:=by
 refine fn_ob tt_ok mixed Tryz.func145 rfl (fun _ _=>by kernel_rfl) (A:=fun ds=>⟨fun _=>Cons.of [],fun _=>none,fun _=>none⟩) (fun _ _=>cons_nil) (by kernel_rfl) ?_
 intro ds fr;unfold krcvS;split
 ·rename_i nm ck cz cf ct tg;refine kmp (q:=Value.string ct=Value.string ct) (by kernel_rfl) ?_
  rfl
 ·trivial
noncomputable def cngS:List Dat->Option (Eff × List Seg):=fun ds=>match ds with
 | [.d bc,.s bp,.d bv,.i be,.s nm,.v kf]=>(match isFn 144 kf with |true=>some ({val:=.tup [.sc (.int .i64 (.sym (ixC bc nm))),.sc (.rows 9 (cgT bc nm))],vc:=[bc.len<=10000000000000]},[.c (.rows 118 bc),.c (.raw (.string bp)),.c (.rows 9 bv),.c (.int .i64 (.sym (cgE 3 bc nm bp be)))]) |false=>(match isFn 145 kf with |true=>some ({val:=.tup [.sc (.int .i64 (.sym (ixC bc nm))),.sc (.rows 9 (cgT bc nm))],vc:=[bc.len<=10000000000000]},[.c (.rows 118 bc),.c (.raw (.string bp)),.c (.rows 9 bv),.c (.int .i64 (.sym (cgE 4 bc nm bp be)))]) |false=>none))
 |_=>none
noncomputable def cngC:Con:=conM 182 [.c (.rows 118),.c .str,.c (.rows 9),.c (.int .i64)] [.sc .str,.sc .any] cngS
theorem cng_ok:ConOK Tryz.prog 143 cngC:=by
 refine fn_obM tt_ok mixed Tryz.func143 rfl (fun _ _=>by kernel_rfl) (A:=fun ds=>⟨fun _=>Cons.of [(58,chanAtC),(144,ksndC),(145,krcvC),(167,faiC)],fun _=>none,fun _=>none⟩) (fun _ _=>(cons_cons chanAt_ok (cons_cons ksnd_ok (cons_cons krcv_ok (cons_cons fai_ok cons_nil))))) (by kernel_rfl) ?_
 intro ds;unfold cngS;split
 ·rename_i bc bp bv be nm kf;split
  ·rename_i hg;obtain rfl:=isFn_eq hg;refine kmp (q:=bc.len<=10000000000000->bc.len<=10000000000000/\(decide (ixC bc nm<(0:Int))=true->ixC bc nm=ixC bc nm/\(cgT bc nm).rows=[]/\bc.rows=bc.rows/\Value.string bp=Value.string bp/\bv.rows=bv.rows/\flE (8:Int) be=cgE (3:Nat) bc nm bp be)/\(decide (ixC bc nm<(0:Int))=false->((0:Int)<=ixC bc nm/\ixC bc nm<(bc.len:Int))/\((!(bc.el (ixC bc nm).toNat 3).toS.toList==bp.toList)=true->((0:Int)<=ixC bc nm/\ixC bc nm<(bc.len:Int))/\ixC bc nm=ixC bc nm/\(bc.el (ixC bc nm).toNat ((0:Nat)+(5:Nat))).rows=(cgT bc nm).rows/\bc.rows=bc.rows/\Value.string bp=Value.string bp/\bv.rows=bv.rows/\flE (9:Int) be=cgE (3:Nat) bc nm bp be)/\((!(bc.el (ixC bc nm).toNat 3).toS.toList==bp.toList)=false->((0:Int)<=ixC bc nm/\ixC bc nm<(bc.len:Int))/\ixC bc nm=ixC bc nm/\(bc.el (ixC bc nm).toNat ((0:Nat)+(5:Nat))).rows=(cgT bc nm).rows/\bc.rows=bc.rows/\Value.string bp=Value.string bp/\bv.rows=bv.rows/\be=cgE (3:Nat) bc nm bp be))) (by kernel_rfl) ?_
   intro h1
   (try simp only [Nat.reduceAdd,Nat.zero_add])
   refine ⟨h1,fun h=>?_,fun h=>?_⟩
   ·have h:=of_decide_eq_true h;have t:cgT bc nm = .l []:=if_pos h;have e:cgE 3 bc nm bp be=flE 8 be:=if_pos h;rw [t,e];exact (by (repeat' (with_reducible apply And.intro))<;>first |exact True.intro |rfl)
   ·have h:=of_decide_eq_false h;have hb:ixC bc nm<bc.len:=by
     unfold ixC at h ⊢
     rcases ixF_or (fun j=>eqS (bc.el j 0).toS nm) bc.len with ⟨i,h1,_,_,h2⟩ |⟨_,h2⟩
     ·rw [h2];omega
     ·rw [h2] at h;omega
    have t:cgT bc nm=bc.el (ixC bc nm).toNat 5:=if_neg h;rw [t];refine ⟨⟨by omega,hb⟩,fun q=>⟨⟨by omega,hb⟩,?_⟩,fun q=>⟨⟨by omega,hb⟩,?_⟩⟩
    ·have e:cgE 3 bc nm bp be=flE 9 be:=by
      unfold cgE eqS;rw [if_neg h,if_neg];intro z;rw [z] at q
      cases q
     rw [e];exact (by (repeat' (with_reducible apply And.intro))<;>first |exact True.intro |rfl)
    ·have e:cgE 3 bc nm bp be=be:=by
      unfold cgE eqS;rw [if_neg h,if_pos];generalize (ByteArray.toList _==_)=z at q ⊢
      cases z
      ·cases q
      ·rfl
     rw [e];exact (by (repeat' (with_reducible apply And.intro))<;>first |exact True.intro |rfl)
  ·split
   ·rename_i hg;obtain rfl:=isFn_eq hg;refine kmp (q:=bc.len<=10000000000000->bc.len<=10000000000000/\(decide (ixC bc nm<(0:Int))=true->ixC bc nm=ixC bc nm/\(cgT bc nm).rows=[]/\bc.rows=bc.rows/\Value.string bp=Value.string bp/\bv.rows=bv.rows/\flE (8:Int) be=cgE (4:Nat) bc nm bp be)/\(decide (ixC bc nm<(0:Int))=false->((0:Int)<=ixC bc nm/\ixC bc nm<(bc.len:Int))/\((!(bc.el (ixC bc nm).toNat 4).toS.toList==bp.toList)=true->((0:Int)<=ixC bc nm/\ixC bc nm<(bc.len:Int))/\ixC bc nm=ixC bc nm/\(bc.el (ixC bc nm).toNat ((0:Nat)+(5:Nat))).rows=(cgT bc nm).rows/\bc.rows=bc.rows/\Value.string bp=Value.string bp/\bv.rows=bv.rows/\flE (9:Int) be=cgE (4:Nat) bc nm bp be)/\((!(bc.el (ixC bc nm).toNat 4).toS.toList==bp.toList)=false->((0:Int)<=ixC bc nm/\ixC bc nm<(bc.len:Int))/\ixC bc nm=ixC bc nm/\(bc.el (ixC bc nm).toNat ((0:Nat)+(5:Nat))).rows=(cgT bc nm).rows/\bc.rows=bc.rows/\Value.string bp=Value.string bp/\bv.rows=bv.rows/\be=cgE (4:Nat) bc nm bp be))) (by kernel_rfl) ?_
    intro h1
    (try simp only [Nat.reduceAdd,Nat.zero_add])
    refine ⟨h1,fun h=>?_,fun h=>?_⟩
    ·have h:=of_decide_eq_true h;have t:cgT bc nm = .l []:=if_pos h;have e:cgE 4 bc nm bp be=flE 8 be:=if_pos h;rw [t,e];exact (by (repeat' (with_reducible apply And.intro))<;>first |exact True.intro |rfl)
    ·have h:=of_decide_eq_false h;have hb:ixC bc nm<bc.len:=by
      unfold ixC at h ⊢
      rcases ixF_or (fun j=>eqS (bc.el j 0).toS nm) bc.len with ⟨i,h1,_,_,h2⟩ |⟨_,h2⟩
      ·rw [h2];omega
      ·rw [h2] at h;omega
     have t:cgT bc nm=bc.el (ixC bc nm).toNat 5:=if_neg h;rw [t];refine ⟨⟨by omega,hb⟩,fun q=>⟨⟨by omega,hb⟩,?_⟩,fun q=>⟨⟨by omega,hb⟩,?_⟩⟩
     ·have e:cgE 4 bc nm bp be=flE 9 be:=by
       unfold cgE eqS;rw [if_neg h,if_neg];intro z;rw [z] at q
       cases q
      rw [e];exact (by (repeat' (with_reducible apply And.intro))<;>first |exact True.intro |rfl)
     ·have e:cgE 4 bc nm bp be=be:=by
       unfold cgE eqS;rw [if_neg h,if_pos];generalize (ByteArray.toList _==_)=z at q ⊢
       cases z
       ·cases q
       ·rfl
      rw [e];exact (by (repeat' (with_reducible apply And.intro))<;>first |exact True.intro |rfl)
   ·trivial
 ·trivial
end Go.Proofs.YtplejbgafjpomaaGreatDoor.Sx.Z
