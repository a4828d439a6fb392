import Derived.Test.YtbhbjhejkamlnaaGreatZu29
import Derived.Test.YtbhbjhejkamlnaaGreatZu22
set_option linter.unusedVariables false
set_option linter.unusedSimpArgs false
namespace Go.Proofs.YtbhbjhejkamlnaaGreat.Sx.Z
open Go.RowKit
def dXb (k:Int) (q:Nat->Int) (f:Nat->Nat):Nat:=if k=3 then (if biB (q 0)=true then 2 else 1)+f 0 else if biB k=true then max (f 0+(if lfB k (q 0)=true then 1 else 0)) (f 1+(if rgB k (q 1)=true then 1 else 0)) else 0
def dE (d:D) (i:Nat):Nat:=if _h:i<d.len then dXb (d.el i 0).toI (fun j=>((d.el i 3).el j 0).toI) (fun j=>dE (d.el i 3) j) else 0
 termination_by SizeOf.sizeOf d
 decreasing_by exact lel_lt (by assumption)
def dX (k:Int) (d:D):Nat:=dXb k (fun j=>(d.el j 0).toI) (dE d)
theorem dE_eq {d:D} {i:Nat} (h:i<d.len):dE d i=dX (d.el i 0).toI (d.el i 3):=by
 rw [dE,dif_pos h];rfl
theorem dX_3 {d:D} (h:0<d.len):dX 3 d=(if biB (d.el 0 0).toI=true then 2 else 1)+dX (d.el 0 0).toI (d.el 0 3):=by
 unfold dX dXb;rw [if_pos rfl,dE_eq h];rfl
theorem dX_4 {k:Int} {d:D} (hb:biB k=true) (h:1<d.len):dX k d=max (dX (d.el 0 0).toI (d.el 0 3)+(if lfB k (d.el 0 0).toI=true then 1 else 0)) (dX (d.el 1 0).toI (d.el 1 3)+(if rgB k (d.el 1 0).toI=true then 1 else 0)):=by
 have hk:=bi_in hb;have e:dX k d=dXb k (fun j=>(d.el j 0).toI) (dE d):=rfl
 rw [e];unfold dXb;rw [if_neg (by omega),if_pos hb,dE_eq (by omega),dE_eq h]
theorem dX_0 {k:Int} {d:D} (h3:k≠3) (hb:biB k=false):dX k d=0:=by
 unfold dX dXb;rw [if_neg h3,if_neg (by rw [hb];decide)]
theorem vX_ind {Q:Int->Int->ByteArray->D->Prop} (h0:∀ k n s d,k≠3->biB k=false->Q k n s d)
 (h3:∀ n s d,d.len=1->Q (d.el 0 0).toI (d.el 0 1).toI (d.el 0 2).toS (d.el 0 3)->Q 3 n s d)
 (h4:∀ k n s d,biB k=true->d.len=2->Q (d.el 0 0).toI (d.el 0 1).toI (d.el 0 2).toS (d.el 0 3)->Q (d.el 1 0).toI (d.el 1 1).toI (d.el 1 2).toS (d.el 1 3)->Q k n s d) :
 ∀ (m:Nat) (k n:Int) (s:ByteArray) (d:D),SizeOf.sizeOf d<=m->vX k n s d=true->Q k n s d:=by
 intro m
 induction m with
 |zero=>
  intro k n s d hm h
  by_cases e3:k=3
  ·subst e3;obtain ⟨l1,_⟩:=vX_kid3 h;have:=lel_lt (d:=d) (i:=0) (j:=0) (by omega)
   omega
  ·cases hb:biB k with
   |false=>exact h0 k n s d e3 hb
   |true=>
    obtain ⟨l2,_⟩:=vX_kid4 hb h;have:=lel_lt (d:=d) (i:=0) (j:=0) (by omega)
    omega
 |succ m ih=>
  intro k n s d hm h
  by_cases e3:k=3
  ·subst e3;obtain ⟨l1,h1⟩:=vX_kid3 h;have:=lel_lt (d:=d) (i:=0) (j:=3) (by omega)
   exact h3 n s d l1 (ih _ _ _ _ (by omega) h1)
  ·cases hb:biB k with
   |false=>exact h0 k n s d e3 hb
   |true=>
    obtain ⟨l2,h1,h2⟩:=vX_kid4 hb h;have z0:=lel_lt (d:=d) (i:=0) (j:=3) (by omega)
    have z1:=lel_lt (d:=d) (i:=1) (j:=3) (by omega)
    exact h4 k n s d hb l2 (ih _ _ _ _ (by omega) h1) (ih _ _ _ _ (by omega) h2)
theorem dX_le {k n:Int} {s:ByteArray} {d:D} (h:vX k n s d=true):dX k d<=2*wD d:=
 vX_ind (Q:=fun k _ _ d=>dX k d<=2*wD d) (fun k n s d h3 hb=>by rw [dX_0 h3 hb];exact Nat.zero_le _)
  (fun n s d hl ih=>by
    rw [dX_3 (by omega)]
    have:=wD_el (d:=d) (i:=0) 3 (by omega)
    split<;>omega)
  (fun k n s d hb hl i0 i1=>by
    rw [dX_4 hb (by omega)]
    have:=wD_el (d:=d) (i:=0) 3 (by omega)
    have:=wD_el (d:=d) (i:=1) 3 (by omega)
    have e0:(if lfB k (d.el 0 0).toI=true then 1 else 0)<=1:=by split<;>omega
    have e1:(if rgB k (d.el 1 0).toI=true then 1 else 0)<=1:=by split<;>omega
    omega) _ _ _ _ _ (Nat.le_refl _) h
def mxL:List Nat->Nat
 | []=>0
 |x::l=>max x (mxL l)
theorem mxL_app:∀ l m:List Nat,mxL (l++m)=max (mxL l) (mxL m)
 | [],m=>by show mxL m=max 0 (mxL m);omega
 |x::l,m=>by show max x (mxL (l++m))=max (max x (mxL l)) (mxL m);rw [mxL_app l m];omega
theorem mxL_bd:∀ {l:List Nat} {b:Nat},(∀ x∈l,x<=b)->mxL l<=b
 | [],b,_=>Nat.zero_le _
 |x::l,b,h=>by
  show max x (mxL l)<=b;have:=h x (List.mem_cons_self ..);have:=mxL_bd (l:=l) fun y hy=>h y (List.mem_cons_of_mem _ hy)
  omega
def mxT (n:Nat) (f:Nat->Nat):Nat:=mxL ((List.range n).map f)
theorem mxT_succ (n:Nat) (f:Nat->Nat):mxT (n+1) f=max (mxT n f) (f n):=by
 unfold mxT;rw [List.range_succ,List.map_append,mxL_app];show max _ (max (f n) 0)=_;omega
theorem mxT_bd {n b:Nat} {f:Nat->Nat} (h:∀ i,i<n->f i<=b):mxT n f<=b:=mxL_bd fun x hx=>by
 obtain ⟨i,hi,rfl⟩:=List.mem_map.1 hx;exact h i (List.mem_range.1 hi)
theorem mxF_eq {n:Nat} (f:Nat->Nat):mxL ((List.finRange n).map fun i=>f i.1)=mxT n f:=by
 unfold mxT
 congr 1
 apply List.ext_getElem
 ·simp
 ·intro i h1 h2
  simp
def stDF (k:Int) (b e a:Nat):Nat:=if k=2 then max (b+1) (e+1) else if k=3 then b+1 else if k=5 then max 1 a else 0
def stXF (k:Int) (xe xc b e a:Nat):Nat:=if k=1 ∨ k=4 then xe else if k=2 then max xc (max b e) else if k=3 then max xc b else if k=5 then a else if k=6 then xc else 0
def bD (d:D):Nat:=mxL ((List.finRange d.len).map fun (i:Fin d.len)=>stDF (d.el i 0).toI (bD (d.el i 16)) (bD (d.el i 17)) (mxL ((List.finRange (d.el i 18).len).map fun (j:Fin (d.el i 18).len)=>bD ((d.el i 18).el j 2)+1)))
 termination_by SizeOf.sizeOf d
 decreasing_by
  ·exact lel_lt i.isLt
  ·exact lel_lt i.isLt
  ·exact Nat.lt_trans (lel_lt j.isLt) (lel_lt i.isLt)
def bX (d:D):Nat:=mxL ((List.finRange d.len).map fun (i:Fin d.len)=>stXF (d.el i 0).toI (dX (d.el i 3).toI (d.el i 6)) (max (dX (d.el i 8).toI (d.el i 11)) (dX (d.el i 12).toI (d.el i 15))) (bX (d.el i 16)) (bX (d.el i 17)) (mxL ((List.finRange (d.el i 18).len).map fun (j:Fin (d.el i 18).len)=>bX ((d.el i 18).el j 2))))
 termination_by SizeOf.sizeOf d
 decreasing_by
  ·exact lel_lt i.isLt
  ·exact lel_lt i.isLt
  ·exact Nat.lt_trans (lel_lt j.isLt) (lel_lt i.isLt)
def aD (am:D) (j:Nat):Nat:=bD (am.el j 2)+1
def aXm (am:D) (j:Nat):Nat:=bX (am.el j 2)
def sD (d:D) (i:Nat):Nat:=stDF (d.el i 0).toI (bD (d.el i 16)) (bD (d.el i 17)) (mxT (d.el i 18).len (aD (d.el i 18)))
def cX (d:D) (i:Nat):Nat:=max (dX (d.el i 8).toI (d.el i 11)) (dX (d.el i 12).toI (d.el i 15))
def sX (d:D) (i:Nat):Nat:=stXF (d.el i 0).toI (dX (d.el i 3).toI (d.el i 6)) (cX d i) (bX (d.el i 16)) (bX (d.el i 17)) (mxT (d.el i 18).len (aXm (d.el i 18)))
theorem bD_eq (d:D):bD d=mxT d.len (sD d):=by
 rw [bD,<- mxF_eq]
 congr 2
 funext i
 unfold sD;rw [<- mxF_eq];rfl
theorem bX_eq (d:D):bX d=mxT d.len (sX d):=by
 rw [bX,<- mxF_eq]
 congr 2
 funext i
 unfold sX;rw [<- mxF_eq];rfl
noncomputable def dpqS:FSpec:=fun ds _=>match ds with
 | [.i k,.i n,.s s,.d d]=>some {val:=.one (.sc (.int .i64 (.sym ((dX k d:Nat))))),vc:=[vX k n s d=true,sW d]}
 |_=>none
noncomputable def dpqC:Con:=con [gX0] dpqS
noncomputable def dpqM:List Dat->Nat:=fun ds=>match ds with
 | [.i k,.i n,.s s,.d d]=>SizeOf.sizeOf d
 |_=>0
noncomputable def dpqSu (m:Nat):FSpec:=fun ds _=>match ds with
 | [.i k,.i n,.s s,.d d]=>some {val:=.one (.sc (.int .i64 (.sym ((dX k d:Nat))))),vc:=[SizeOf.sizeOf d<m,vX k n s d=true,sW d]}
 |_=>none
theorem dpq_under (m:Nat):dpqS.under dpqM m=dpqSu m:=by
 funext ds fr
 unfold FSpec.under dpqS dpqM dpqSu;split
 ·rename_i e h
  split at h
  ·obtain rfl:=Option.some.inj h;rfl
  ·cases h
 ·rename_i h
  split at h
  ·cases h
  ·rfl
theorem dpq_step (m:Nat) (ih:ConOK Tryz.prog 38 (con [gX0] (dpqSu m))):ConOK Tryz.prog 38 (con [gX0] (dpqSu (m+1))):=by
 refine fn_ob tt_ok mixed Tryz.func38 rfl (fun _ _=>by kernel_rfl) (A:=fun ds=>⟨fun _=>Cons.of [(66,twqC),(67,lfqC),(68,rgqC),(38,con [gX0] (dpqSu m))],fun _=>none,fun _=>none⟩) (fun _ _=>(cons_cons twq_ok (cons_cons lfq_ok (cons_cons rgq_ok (cons_cons ih cons_nil))))) (by kernel_rfl) ?_
 intro ds fr;unfold dpqSu;split
 ·rename_i k n s d;refine kmp (q:=withv (d.el ((0:Nat)) 3) fun E282=>withv (dX (d.el ((1:Nat)) (0:Nat)).toI (d.el ((1:Nat)) 3)) fun E283=>withv (dX (d.el ((0:Nat)) (0:Nat)).toI E282) fun E284=>withv (d.el ((1:Nat)) 3) fun E285=>withv (d.el ((0:Nat)) 2) fun E286=>withv (d.el ((0:Nat)) (0:Nat)) fun E287=>withv (d.el ((1:Nat)) (0:Nat)) fun E288=>withv (d.el ((0:Nat)) 1) fun E289=>withv (k==(3:Int)&&biB (d.el ((0:Nat)) ((0:Nat)+(0:Nat))).toI) fun E290=>SizeOf.sizeOf d<m+(1:Nat)->vX k n s d=true->sW d->((k==(3:Int))=true/\True->(0:Nat)<d.len)/\(E290=true->(0:Nat)<d.len/\SizeOf.sizeOf E282<m/\vX E287.toI E289.toI E286.toS E282=true/\sW E282/\IntKind.i64.wrap ((2:Int)+(E284:Int))=(↑(dX k d):Int))/\(E290=false->((k==(3:Int))=true->(0:Nat)<d.len/\SizeOf.sizeOf E282<m/\vX E287.toI E289.toI E286.toS E282=true/\sW E282/\IntKind.i64.wrap ((1:Int)+(E284:Int))=(↑(dX k d):Int))/\((k==(3:Int))=false->(biB k=true->(0:Nat)<d.len/\SizeOf.sizeOf E282<m/\vX E287.toI E289.toI E286.toS E282=true/\sW E282/\(1:Nat)<d.len/\SizeOf.sizeOf E285<m/\vX E288.toI (d.el ((1:Nat)) 1).toI (d.el ((1:Nat)) 2).toS E285=true/\sW E285/\(0:Nat)<d.len/\(lfB k E287.toI=true->(1:Nat)<d.len/\(rgB k E288.toI=true->(if IntKind.i64.wrap ((E283:Int)+(1:Int))>IntKind.i64.wrap ((E284:Int)+(1:Int)) then IntKind.i64.wrap ((E283:Int)+(1:Int)) else IntKind.i64.wrap ((E284:Int)+(1:Int)))=(↑(dX k d):Int))/\(rgB k E288.toI=false->(if (E283:Int)>IntKind.i64.wrap ((E284:Int)+(1:Int)) then (E283:Int) else IntKind.i64.wrap ((E284:Int)+(1:Int)))=(↑(dX k d):Int)))/\(lfB k E287.toI=false->(1:Nat)<d.len/\(rgB k E288.toI=true->(if IntKind.i64.wrap ((E283:Int)+(1:Int))>(E284:Int) then IntKind.i64.wrap ((E283:Int)+(1:Int)) else (E284:Int))=(↑(dX k d):Int))/\(rgB k E288.toI=false->(if (E283:Int)>(E284:Int) then (E283:Int) else (E284:Int))=(↑(dX k d):Int))))/\(biB k=false->(0:Int)=(↑(dX k d):Int))))) (by kernel_rfl) ?_
  dsimp +instances only [withv]
  intro hm hx hd
  (try simp only [Nat.reduceAdd,Nat.zero_add])
  have hw0:wD d<=2097153:=hd;have wr:∀ (a:Int) (n:Nat),0<=a->a<=2->n<=4194306->IntKind.i64.wrap (a+(n:Int))=a+n:=fun a n h0 h2 hn=>IntWalk.i64_in _ (by omega)
  have wr1:∀ (n:Nat),n<=4194306->IntKind.i64.wrap ((n:Int)+1)=(n:Int)+1:=fun n hn=>IntWalk.i64_in _ (by omega)
  refine ⟨fun k3=>?_,fun k3=>?_,fun k3=>⟨fun k4=>?_,fun k4=>⟨fun k5=>?_,fun k5=>?_⟩⟩⟩
  ·obtain rfl:=eq_of_beq k3.1;have:=(vX_kid3 hx).1;omega
  ·simp only [Bool.and_eq_true] at k3;obtain rfl:=eq_of_beq k3.1;obtain ⟨l1,h1⟩:=vX_kid3 hx;have h0:0<d.len:=by omega
   have:=lel_lt (j:=3) h0;have w1:=wD_el 3 h0;have w2:=dX_le h1;rw [dX_3 h0,if_pos k3.2];exact ⟨h0,by omega,h1,sW_el hd h0 3,by rw [wr _ _ (by omega) (by omega) (by omega)];omega⟩
  ·obtain rfl:=eq_of_beq k4;obtain ⟨l1,h1⟩:=vX_kid3 hx;have h0:0<d.len:=by omega
   have:=lel_lt (j:=3) h0;have w1:=wD_el 3 h0;have w2:=dX_le h1;have hb:biB (d.el 0 0).toI=false:=by simpa using k3
   rw [dX_3 h0,if_neg (by rw [hb];decide)]
   exact ⟨h0,by omega,h1,sW_el hd h0 3,by rw [wr _ _ (by omega) (by omega) (by omega)];omega⟩
  ·obtain ⟨l2,h1,h2⟩:=vX_kid4 k5 hx;have h0:0<d.len:=by omega
   have h01:1<d.len:=by omega
   have z0:=lel_lt (j:=3) h0;have z1:=lel_lt (j:=3) h01;have w0:=wD_el 3 h0;have w1:=wD_el 3 h01;have w2:=dX_le h1;have w3:=dX_le h2;rw [dX_4 k5 h01];generalize dX (d.el 0 0).toI (d.el 0 3)=A at w2 ⊢;generalize dX (d.el 1 0).toI (d.el 1 3)=B at w3 ⊢;rw [wr1 A (by omega),wr1 B (by omega)]
   refine ⟨h0,by omega,h1,sW_el hd h0 3,h01,by omega,h2,sW_el hd h01 3,h0,fun l=>⟨h01,fun r=>?_,fun r=>?_⟩,fun l=>⟨h01,fun r=>?_,fun r=>?_⟩⟩<;>simp only [l,r,if_true,Bool.false_eq_true,if_false]<;>split<;>omega
  ·rw [dX_0 (ne_of_beq_false k4) k5];rfl
 ·trivial
theorem dpq_ok:ConOK Tryz.prog 38 dpqC:=
 con_rec dpqM (fun _ _=>by kernel_rfl) fun m ih=>by
  rw [dpq_under] at ih ⊢;exact dpq_step m ih
end Go.Proofs.YtbhbjhejkamlnaaGreat.Sx.Z
namespace Go.Proofs.YtbhbjhejkamlnaaGreat.Sx.Z
open Go.RowKit
def lXr:AP:=.agg [.c (.int .i64),.c (.int .i64),.c .str,.c (.rows 24)]
def lCr:AP:=.agg [.c (.int .i64),.c (.int .i64),.c (.int .i64),.c .str,.c (.rows 24),.c (.int .i64),.c (.int .i64),.c .str,.c (.rows 24)]
def cpTo (n:Nat) (f:Nat->List D):D:=.l ((List.range n).map f)
theorem cpTo_len (n:Nat) (f:Nat->List D):(cpTo n f).len=n:=by
 show ((List.range n).map f).length=n;rw [List.length_map,List.length_range]
theorem cpTo_succ (n:Nat) (f:Nat->List D):(cpTo (n+1) f).rows=(cpTo n f).rows++[f n]:=by
 show (List.range (n+1)).map f=(List.range n).map f++[f n];rw [List.range_succ,List.map_append];rfl
theorem cpF_eq {n:Nat} (f:Nat->List D):D.l ((List.finRange n).map fun i=>f i.1)=cpTo n f:=by
 unfold cpTo
 congr 1
 apply List.ext_getElem
 ·simp
 ·intro i h1 h2
  simp
def cpE (d:D):D:=.l ((List.finRange d.len).map fun (i:Fin d.len)=>[D.i (d.el i 0).toI,D.i (d.el i 1).toI,D.s (d.el i 2).toS,cpE (d.el i 3)])
 termination_by SizeOf.sizeOf d
 decreasing_by exact lel_lt i.isLt
def rX (d:D) (i:Nat):List D:=[D.i (d.el i 0).toI,D.i (d.el i 1).toI,D.s (d.el i 2).toS,cpE (d.el i 3)]
theorem cpE_eq (d:D):cpE d=cpTo d.len (rX d):=by
 rw [cpE,<- cpF_eq];rfl
def kS (d:D):Prop:=d.len<=3000000/\∀ i:Fin d.len,kS (d.el i 3)
 termination_by SizeOf.sizeOf d
 decreasing_by exact lel_lt i.isLt
theorem kS_iff (d:D):kS d↔d.len<=3000000/\∀ i,i<d.len->kS (d.el i 3):=by
 rw [kS];exact ⟨fun h=>⟨h.1,fun i hi=>h.2 ⟨i,hi⟩⟩,fun h=>⟨h.1,fun i=>h.2 i.1 i.2⟩⟩
noncomputable def xcpS:FSpec:=fun ds _=>match ds with
 | [.i k,.i n,.s s,.d d]=>some {val:=.one (.agg [.c (.int .i64 (.sym (k))),.c (.int .i64 (.sym (n))),.c (.raw (.string (s))),.c (.rows 75 (cpE d))]),vc:=[kS d]}
 |_=>none
noncomputable def xcpC:Con:=con [lXr] xcpS
noncomputable def xcpM:List Dat->Nat:=fun ds=>match ds with
 | [.i _k,.i _n,.s _s,.d d]=>SizeOf.sizeOf d
 |_=>0
noncomputable def xcpSu (m:Nat):FSpec:=fun ds _=>match ds with
 | [.i k,.i n,.s s,.d d]=>some {val:=.one (.agg [.c (.int .i64 (.sym (k))),.c (.int .i64 (.sym (n))),.c (.raw (.string (s))),.c (.rows 75 (cpE d))]),vc:=[SizeOf.sizeOf d<m,kS d]}
 |_=>none
theorem xcp_under (m:Nat):xcpS.under xcpM m=xcpSu m:=by
 funext ds fr
 unfold FSpec.under xcpS xcpM xcpSu;split
 ·rename_i e h
  split at h
  ·obtain rfl:=Option.some.inj h;rfl
  ·cases h
 ·rename_i h
  split at h
  ·cases h
  ·rfl
theorem xcp_step (m:Nat) (ih:ConOK Tryz.prog 60 (con [lXr] (xcpSu m))):ConOK Tryz.prog 60 (con [lXr] (xcpSu (m+1))):=by
 refine fn_ob tt_ok mixed Tryz.func60 rfl (fun _ _=>by kernel_rfl) (A:=fun ds=>⟨fun _=>Cons.of [(60,con [lXr] (xcpSu m))],fun k=>match k,ds with | 3,[.i k,.i n,.s s,.d d]=>some {ι:=Nat,pre:=fun _ i=>i<=d.len,μ:=fun i=>d.len+1-i,st:=fun s i=>famR s [(4,.one (.sc (.int .i64 (.sym ((i:Nat)))))),(3,.one (.sc (.osl 75 (s.nx-1) (.lit 0) (.sym (i)))))] [1,2] [(s.nx-1,.orow 75 (cpTo i (rX d)))] [1,2]} |_,_=>none,fun _=>none⟩) (fun _ _=>(cons_cons ih cons_nil)) (by kernel_rfl) ?_
 intro ds fr;unfold xcpSu;split
 ·rename_i k n s d;refine kmp (q:=withv (fun (i:Nat)=>D.l [[D.i (d.el (i:Int).toNat 0).toI,D.i (d.el (i:Int).toNat 1).toI,D.s (d.el (i:Int).toNat 2).toS,cpE (d.el (i:Int).toNat 3)]]) fun E291=>withv (fun (i:Nat)=>d.el (i:Int).toNat 3) fun E292=>SizeOf.sizeOf d<m+1->kS d->(∃ (i:Nat),i.le d.len/\(0:Int)=(i:Int)/\i=0/\List.map (rX d) (List.range i)=[]/\k=k/\n=n/\Value.string s=Value.string s/\d.rows=d.rows/\(0:Int)=(0:Int)/\(0:Int)=(0:Int)/\Value.string ByteArray.empty=Value.string ByteArray.empty)/\∀ (i:Nat),i.le d.len->(decide ((i:Int)<(d.len:Int))=true->((0:Int)<=(i:Int)/\(i:Int)<(d.len:Int))/\SizeOf.sizeOf (E292 i)<m/\kS (E292 i)/\i=(cpTo i (rX d)).len/\(i+((E291 i).sub 0 1).len)*56<=140737488355328/\0+1<=(E291 i).len/\∃ (j:Nat),j.le d.len/\d.len+1-j<d.len+1-i/\IntKind.i64.wrap ((i:Int)+1)=(j:Int)/\i+((E291 i).sub 0 1).len=j/\List.map (rX d) (List.range i)++List.drop 0 (List.take 1 [[D.i (d.el (i:Int).toNat 0).toI,D.i (d.el (i:Int).toNat 1).toI,D.s (d.el (i:Int).toNat 2).toS,cpE (E292 i)]])=List.map (rX d) (List.range j)/\k=k/\n=n/\Value.string s=Value.string s/\d.rows=d.rows/\(0:Int)=(0:Int)/\(0:Int)=(0:Int)/\Value.string ByteArray.empty=Value.string ByteArray.empty)/\(decide ((i:Int)<(d.len:Int))=false->0+i<=(cpTo i (rX d)).len/\k=k/\n=n/\Value.string s=Value.string s/\List.drop 0 (List.take ((0:Nat)+i) (List.map (rX d) (List.range i)))=(cpE d).rows)) (by kernel_rfl) ?_
  dsimp +instances only [withv]
  intro hm hs;rw [kS_iff] at hs;obtain ⟨h1,h2⟩:=hs;refine ⟨⟨0,Nat.zero_le _,rfl,rfl,rfl,rfl,rfl,rfl,rfl,rfl,rfl,rfl⟩,fun i hi=>⟨fun hl=>?_,fun hl=>?_⟩⟩
  ·have hl:=of_decide_eq_true hl;have hi2:i<d.len:=by omega
   have hw2:IntKind.i64.wrap ((i:Int)+1)=((i+1:Nat):Int):=by rw [IntWalk.i64_in _ (by omega)];omega
   have z:=lel_lt (j:=3) hi2;exact ⟨⟨by omega,by omega⟩,(show SizeOf.sizeOf (d.el i 3)<m by omega),h2 i hi2,(cpTo_len _ _).symm,(show (i+1)*56<=140737488355328 by omega),Nat.le_refl _,i+1,hi2,by omega,hw2,rfl,(cpTo_succ i (rX d)).symm,rfl,rfl,rfl,rfl,rfl,rfl,rfl⟩
  ·have hl:=of_decide_eq_false hl;have hi3:i=d.len:=by have:i<=d.len:=hi;omega
   subst hi3;refine ⟨by rw [cpTo_len];omega,rfl,rfl,rfl,?_⟩
   rw [cpE_eq,Nat.zero_add,List.drop_zero,List.take_of_length_le (by simp)];rfl
 ·trivial
theorem xcp_ok:ConOK Tryz.prog 60 xcpC:=
 con_rec xcpM (fun _ _=>by kernel_rfl) fun m ih=>by
  rw [xcp_under] at ih ⊢;exact xcp_step m ih
noncomputable def ccpS:FSpec:=fun ds _=>match ds with
 | [.i op,.i lk,.i ln,.s ls,.d ld,.i rk,.i rn,.s rs,.d rd]=>some {val:=.one (.agg [.c (.int .i64 (.sym (op))),.c (.int .i64 (.sym (lk))),.c (.int .i64 (.sym (ln))),.c (.raw (.string (ls))),.c (.rows 75 (cpE ld)),.c (.int .i64 (.sym (rk))),.c (.int .i64 (.sym (rn))),.c (.raw (.string (rs))),.c (.rows 75 (cpE rd))]),vc:=[kS ld,kS rd]}
 |_=>none
noncomputable def ccpC:Con:=con [lCr] ccpS
theorem ccp_ok:ConOK Tryz.prog 61 ccpC:=by
 refine fn_ob tt_ok mixed Tryz.func61 rfl (fun _ _=>by kernel_rfl) (A:=fun ds=>⟨fun _=>Cons.of [(60,xcpC)],fun _=>none,fun _=>none⟩) (fun _ _=>(cons_cons xcp_ok cons_nil)) (by kernel_rfl) ?_
 intro ds fr;unfold ccpS;split
 ·rename_i op lk ln ls ld rk rn rs rd;refine kmp (q:=kS ld->kS rd->kS ld/\kS rd/\op=op/\lk=lk/\ln=ln/\Value.string ls=Value.string ls/\(cpE ld).rows=(cpE ld).rows/\rk=rk/\rn=rn/\Value.string rs=Value.string rs/\(cpE rd).rows=(cpE rd).rows) (by kernel_rfl) ?_
  intro hl hr;exact ⟨hl,hr,rfl,rfl,rfl,rfl,rfl,rfl,rfl,rfl,rfl⟩
 ·trivial
end Go.Proofs.YtbhbjhejkamlnaaGreat.Sx.Z
