import Derived.Test.YtplejbgafjpomaaGreatDoorZb19
import Derived.Test.YtplejbgafjpomaaGreatDoorZb18
import Derived.HandedShaped
import Derived.Test.YtplejbgafjpomaaGreatDoorZb15
import Derived.Test.YtplejbgafjpomaaGreatDoorZb16
set_option linter.unusedVariables false
set_option linter.unusedSimpArgs false
namespace Go.Proofs.YtplejbgafjpomaaGreatDoor.Sx.Z
open Go.RowKit
def sel {α:Type} (k:Int) (a1 a2 a3 a4 a5 a6 a7 : α) : α:=if k=1 then a1 else if k=2 then a2 else if k=3 then a3 else if k=4 then a4 else if k=5 then a5 else if k=6 then a6 else a7
def psR (r:D) (x:List D):D:=.l (r.rows++[x])
theorem psR_len (r:D) (x:List D):(psR r x).len=r.len+1:=by
 show (r.rows++[x]).length=_;rw [List.length_append];rfl
def endR (n:Nat) (q:Int × D):Int × D:=(q.1,if q.2.len<n then .l [] else q.2)
def brS (bc:D) (bp:ByteArray) (bv d:D) (i:Nat) (f1 f2:Int->Int × D) (f3:D->Int->Int × D) (e:Int):Int × List D:=(sel ((d.el i 0).toI) (gxE bv (d.el i 3).toI (d.el i 5).toS (d.el i 6) (plE bv (d.el i 1).toS e)) ((f2 (f1 (gxE bv (d.el i 12).toI (d.el i 14).toS (d.el i 15) (gxE bv (d.el i 8).toI (d.el i 10).toS (d.el i 11) e))).1).1) ((f1 (gxE bv (d.el i 12).toI (d.el i 14).toS (d.el i 15) (gxE bv (d.el i 8).toI (d.el i 10).toS (d.el i 11) e))).1) (gxE bv (d.el i 3).toI (d.el i 5).toS (d.el i 6) (plE (cgT bc (d.el i 1).toS) (d.el i 2).toS (cgE 3 bc (d.el i 1).toS bp e))) ((f3 (cgT bc (d.el i 1).toS) (cgE 4 bc (d.el i 1).toS bp e)).1) ((gxE bv (d.el i 12).toI (d.el i 14).toS (d.el i 15) (gxE bv (d.el i 8).toI (d.el i 10).toS (d.el i 11) e))) (plE bv (d.el i 1).toS e),[D.i ((d.el i 0).toI),D.i (sel ((d.el i 0).toI) (ixN bv (d.el i 1).toS) (0) (0) (0) (0) (0) (ixN bv (d.el i 1).toS)),D.i (sel ((d.el i 0).toI) (0) (0) (0) (ixC bc (d.el i 1).toS) (ixC bc (d.el i 1).toS) (0) (0)),D.i (sel ((d.el i 0).toI) (0) (0) (0) (ixN (cgT bc (d.el i 1).toS) (d.el i 2).toS) (0) (0) (0)),D.i (sel ((d.el i 0).toI) ((d.el i 3).toI) (0) (0) ((d.el i 3).toI) (0) (0) (0)),D.i (sel ((d.el i 0).toI) (gxN (d.el i 3).toI (d.el i 4).toI) (0) (0) (gxN (d.el i 3).toI (d.el i 4).toI) (0) (0) (0)),D.i (sel ((d.el i 0).toI) (gxI bv (d.el i 3).toI (d.el i 5).toS) (0) (0) (gxI bv (d.el i 3).toI (d.el i 5).toS) (0) (0) (0)),sel ((d.el i 0).toI) (gxK bv (d.el i 3).toI (d.el i 6)) (.l []) (.l []) (gxK bv (d.el i 3).toI (d.el i 6)) (.l []) (.l []) (.l []),D.i (sel ((d.el i 0).toI) (0) ((d.el i 7).toI) ((d.el i 7).toI) (0) (0) ((d.el i 7).toI) (0)),D.i (sel ((d.el i 0).toI) (0) ((d.el i 8).toI) ((d.el i 8).toI) (0) (0) ((d.el i 8).toI) (0)),D.i (sel ((d.el i 0).toI) (0) (gxN (d.el i 8).toI (d.el i 9).toI) (gxN (d.el i 8).toI (d.el i 9).toI) (0) (0) (gxN (d.el i 8).toI (d.el i 9).toI) (0)),D.i (sel ((d.el i 0).toI) (0) (gxI bv (d.el i 8).toI (d.el i 10).toS) (gxI bv (d.el i 8).toI (d.el i 10).toS) (0) (0) (gxI bv (d.el i 8).toI (d.el i 10).toS) (0)),sel ((d.el i 0).toI) (.l []) (gxK bv (d.el i 8).toI (d.el i 11)) (gxK bv (d.el i 8).toI (d.el i 11)) (.l []) (.l []) (gxK bv (d.el i 8).toI (d.el i 11)) (.l []),D.i (sel ((d.el i 0).toI) (0) ((d.el i 12).toI) ((d.el i 12).toI) (0) (0) ((d.el i 12).toI) (0)),D.i (sel ((d.el i 0).toI) (0) (gxN (d.el i 12).toI (d.el i 13).toI) (gxN (d.el i 12).toI (d.el i 13).toI) (0) (0) (gxN (d.el i 12).toI (d.el i 13).toI) (0)),D.i (sel ((d.el i 0).toI) (0) (gxI bv (d.el i 12).toI (d.el i 14).toS) (gxI bv (d.el i 12).toI (d.el i 14).toS) (0) (0) (gxI bv (d.el i 12).toI (d.el i 14).toS) (0)),sel ((d.el i 0).toI) (.l []) (gxK bv (d.el i 12).toI (d.el i 15)) (gxK bv (d.el i 12).toI (d.el i 15)) (.l []) (.l []) (gxK bv (d.el i 12).toI (d.el i 15)) (.l []),sel ((d.el i 0).toI) (.l []) ((f1 (gxE bv (d.el i 12).toI (d.el i 14).toS (d.el i 15) (gxE bv (d.el i 8).toI (d.el i 10).toS (d.el i 11) e))).2) ((f1 (gxE bv (d.el i 12).toI (d.el i 14).toS (d.el i 15) (gxE bv (d.el i 8).toI (d.el i 10).toS (d.el i 11) e))).2) (.l []) (.l []) (.l []) (.l []),sel ((d.el i 0).toI) (.l []) ((f2 (f1 (gxE bv (d.el i 12).toI (d.el i 14).toS (d.el i 15) (gxE bv (d.el i 8).toI (d.el i 10).toS (d.el i 11) e))).1).2) (.l []) (.l []) (.l []) (.l []) (.l []),sel ((d.el i 0).toI) (.l []) (.l []) (.l []) (.l []) ((f3 (cgT bc (d.el i 1).toS) (cgE 4 bc (d.el i 1).toS bp e)).2) (.l []) (.l [])])
def brT (tags:D) (bv:D) (tg v:ByteArray) (b:Int->Int × D) (u:Bool) (e:Int):Int × List D:=((b (plE bv v (if u=true then flE 7 (plE tags tg e) else plE tags tg e))).1,[D.i (ixN tags tg),D.i (ixN bv v),(b (plE bv v (if u=true then flE 7 (plE tags tg e) else plE tags tg e))).2])
def stp (q:Int × D) (f:Int->Int × List D):Int × D:=if q.1=0 then ((f q.1).1,psR q.2 (f q.1).2) else q
def grB (bc:D) (bp:ByteArray) (bv d:D) (be:Int):Int × D:=
 endR d.len ((List.finRange d.len).foldl (fun (q:Int × D) (i:Fin d.len)=>stp q (brS bc bp bv d i.1 (fun e=>grB bc bp bv (d.el i 16) e) (fun e=>grB bc bp bv (d.el i 17) e)
  (fun tags e=>endR (d.el i 18).len ((List.finRange (d.el i 18).len).foldl (fun (q:Int × D) (j:Fin (d.el i 18).len)=>stp q (brT tags bv ((d.el i 18).el j 0).toS ((d.el i 18).el j 1).toS (fun e=>grB bc bp bv ((d.el i 18).el j 2) e) (tgU (q.2.sub 0 q.2.len) (q.2.sub 0 q.2.len).len (ixN tags ((d.el i 18).el j 0).toS)))) (e,.l []))))) (be,.l []))
 termination_by SizeOf.sizeOf d
 decreasing_by
  ·exact lel_lt i.isLt
  ·exact lel_lt i.isLt
  ·exact Nat.lt_trans (lel_lt j.isLt) (lel_lt i.isLt)
def grJ (bc:D) (bp:ByteArray) (bv tags am:D) (j:Nat) (q:Int × D):Int × D:=stp q (brT tags bv (am.el j 0).toS (am.el j 1).toS (grB bc bp bv (am.el j 2)) (tgU (q.2.sub 0 q.2.len) (q.2.sub 0 q.2.len).len (ixN tags (am.el j 0).toS)))
def grA (bc:D) (bp:ByteArray) (bv am tags:D) (be:Int):Int × D:=endR am.len (goN (grJ bc bp bv tags am) am.len (be,.l []))
def grI (bc:D) (bp:ByteArray) (bv d:D) (i:Nat) (q:Int × D):Int × D:=stp q (brS bc bp bv d i (grB bc bp bv (d.el i 16)) (grB bc bp bv (d.el i 17)) (grA bc bp bv (d.el i 18)))
theorem grB_eq (bc:D) (bp:ByteArray) (bv d:D) (be:Int):grB bc bp bv d be=endR d.len (goN (grI bc bp bv d) d.len (be,.l [])):=by
 rw [grB,goN,<- itN_fin' (grI bc bp bv d)]
 congr 2
 funext q i
 unfold grI
 congr 2
 funext tags e
 unfold grA;rw [goN,<- itN_fin' (grJ bc bp bv tags (d.el i 18))];rfl
def bG (d:D):Prop:=d.len*256<=140737488355328/\∀ i:Fin d.len,k4S (d.el i 6)/\k4S (d.el i 11)/\k4S (d.el i 15)/\bG (d.el i 16)/\bG (d.el i 17)/\(d.el i 18).len*40<=140737488355328/\∀ j:Fin (d.el i 18).len,bG ((d.el i 18).el j 2)
 termination_by SizeOf.sizeOf d
 decreasing_by
  ·exact lel_lt i.isLt
  ·exact lel_lt i.isLt
  ·exact Nat.lt_trans (lel_lt j.isLt) (lel_lt i.isLt)
def aG (am:D):Prop:=am.len*40<=140737488355328/\∀ j,j<am.len->bG (am.el j 2)
theorem bG_iff (d:D):bG d↔d.len*256<=140737488355328/\∀ i,i<d.len->k4S (d.el i 6)/\k4S (d.el i 11)/\k4S (d.el i 15)/\bG (d.el i 16)/\bG (d.el i 17)/\aG (d.el i 18):=by
 rw [bG];refine ⟨fun h=>⟨h.1,fun i hi=>?_⟩,fun h=>⟨h.1,fun i=>?_⟩⟩
 ·obtain ⟨a,b,c,e,f,g,k⟩:=h.2 ⟨i,hi⟩;exact ⟨a,b,c,e,f,g,fun j hj=>k ⟨j,hj⟩⟩
 ·obtain ⟨a,b,c,e,f,g,k⟩:=h.2 i.1 i.2;exact ⟨a,b,c,e,f,g,fun j=>k j.1 j.2⟩
structure bgX (bc bv:D):Prop where
 c:bc.len<=10000000000000
 v:bv.len<=10000000000000
 t:∀ i,i<bc.len->(bc.el i 5).len<=10000000000000
theorem goN_st {g:Nat->Int × D->Int × D} (hg:∀ j q,q.1≠0->g j q=q) {x:Int × D} {i:Nat} (h:(goN g i x).1≠0):∀ n,i<=n->goN g n x=goN g i x
 | 0,hn=>by
   obtain rfl:i=0:=by omega
   rfl
 |n+1,hn=>by
  rcases Nat.lt_or_ge i (n+1) with h1 |h1
  ·rw [goN_s,goN_st hg h n (by omega)];exact hg n _ h
  ·obtain rfl:i=n+1:=by omega
   rfl
theorem stp_st {q:Int × D} (h:q.1≠0) (f:Int->Int × List D):stp q f=q:=by
 unfold stp;rw [if_neg h]
theorem stp_go {q:Int × D} (h:q.1=0) (f:Int->Int × List D):stp q f=((f q.1).1,psR q.2 (f q.1).2):=by
 unfold stp;rw [if_pos h]
theorem end_lo {n:Nat} {q:Int × D} (h:q.2.len<n):endR n q=(q.1,.l []):=by
 unfold endR;rw [if_pos h]
theorem end_at {n:Nat} {q:Int × D} (h:q.2.len=n):endR n q=q:=by
 unfold endR;rw [if_neg (by omega)]
theorem cgT_len {bc bv:D} (hx:bgX bc bv) (nm:ByteArray):(cgT bc nm).len<=10000000000000:=by
 unfold cgT;split
 ·decide
 ·rename_i h;have hb:ixC bc nm<bc.len:=by
   unfold ixC at h ⊢
   rcases ixF_or (fun j=>eqS (bc.el j 0).toS nm) bc.len with ⟨i,h1,_,_,h2⟩ |⟨_,h2⟩
   ·rw [h2];omega
   ·rw [h2] at h;omega
  exact hx.t _ (by omega)
section
variable {α:Type} {a1 a2 a3 a4 a5 a6 a7 : α}
theorem sel_1:sel 1 a1 a2 a3 a4 a5 a6 a7=a1:=rfl
theorem sel_2:sel 2 a1 a2 a3 a4 a5 a6 a7=a2:=rfl
theorem sel_3:sel 3 a1 a2 a3 a4 a5 a6 a7=a3:=rfl
theorem sel_4:sel 4 a1 a2 a3 a4 a5 a6 a7=a4:=rfl
theorem sel_5:sel 5 a1 a2 a3 a4 a5 a6 a7=a5:=rfl
theorem sel_6:sel 6 a1 a2 a3 a4 a5 a6 a7=a6:=rfl
theorem sel_7 {k:Int} (h1:k≠1) (h2:k≠2) (h3:k≠3) (h4:k≠4) (h5:k≠5) (h6:k≠6):sel k a1 a2 a3 a4 a5 a6 a7=a7:=by
 unfold sel;rw [if_neg h1,if_neg h2,if_neg h3,if_neg h4,if_neg h5,if_neg h6]
end
theorem tl_r (q:D):List.drop 0 (List.take q.len q.rows)=q.rows:=by
 show List.drop 0 (List.take q.rows.length q.rows)=_;rw [List.take_length];rfl
theorem tl_l (q:D):(q.sub 0 q.len).len=q.len:=congrArg List.length (tl_r q)
noncomputable def bbgS:List Dat->Option (Eff × List Seg):=fun ds=>match ds with
 | [.d bc,.s bp,.d bv,.i be,.d d]=>some ({val:=.one (.sc (.rows 166 (grB bc bp bv d be).2)),vc:=[bgX bc bv,bG d]},[.c (.rows 118 bc),.c (.raw (.string bp)),.c (.rows 9 bv),.c (.int .i64 (.sym ((grB bc bp bv d be).1)))])
 |_=>none
noncomputable def bbgC:Con:=conM 182 [.c (.rows 118),.c .str,.c (.rows 9),.c (.int .i64)] [lBo] bbgS
noncomputable def bbgM:List Dat->Nat:=fun ds=>match ds with
 | [.d bc,.s bp,.d bv,.i be,.d d]=>SizeOf.sizeOf d
 |_=>0
noncomputable def bbgSu (m:Nat):List Dat->Option (Eff × List Seg):=fun ds=>match ds with
 | [.d bc,.s bp,.d bv,.i be,.d d]=>some ({val:=.one (.sc (.rows 166 (grB bc bp bv d be).2)),vc:=[SizeOf.sizeOf d<m,bgX bc bv,bG d]},[.c (.rows 118 bc),.c (.raw (.string bp)),.c (.rows 9 bv),.c (.int .i64 (.sym ((grB bc bp bv d be).1)))])
 |_=>none
theorem bbg_under (m:Nat):underM bbgS bbgM m=bbgSu m:=by
 funext ds
 unfold underM bbgS bbgM bbgSu;split
 ·rename_i e sg h
  split at h
  ·obtain ⟨rfl,rfl⟩:=Prod.mk.inj (Option.some.inj h);rfl
  ·cases h
 ·rename_i h
  split at h
  ·cases h
  ·rfl
noncomputable def bagS (m:Nat):List Dat->Option (Eff × List Seg):=fun ds=>match ds with
 | [.d bc,.s bp,.d bv,.i be,.d tags,.d am]=>some ({val:=.one (.sc (.rows 170 (grA bc bp bv am tags be).2)),vc:=[bgX bc bv,tags.len<=10000000000000,SizeOf.sizeOf am<m,aG am]},[.c (.rows 118 bc),.c (.raw (.string bp)),.c (.rows 9 bv),.c (.int .i64 (.sym ((grA bc bp bv am tags be).1)))])
 |_=>none
noncomputable def bagC (m:Nat):Con:=conM 182 [.c (.rows 118),.c .str,.c (.rows 9),.c (.int .i64)] [.sc (.rows 9),.sc (.rows 195)] (bagS m)
theorem bag_ok {m:Nat} (ih:ConOK Tryz.prog 61 (conM 182 [.c (.rows 118),.c .str,.c (.rows 9),.c (.int .i64)] [lBo] (bbgSu m))):ConOK Tryz.prog 146 (bagC m):=by
 refine fn_obM tt_ok mixed Tryz.func146 rfl (fun _ _=>by kernel_rfl) (A:=fun ds=>⟨fun _=>Cons.of [(140,plgC),(131,ktuC),(167,faiC),(61,conM 182 [.c (.rows 118),.c .str,.c (.rows 9),.c (.int .i64)] [lBo] (bbgSu m))],fun k=>match k,ds with | 3,[.d bc,.s bp,.d bv,.i be,.d tags,.d am]=>some {ι:=Nat,pre:=fun _ i=>i<=am.len/\(goN (grJ bc bp bv tags am) i (be,.l [])).2.len=i,μ:=fun i=>am.len+1-i,st:=fun s i=>famR s [(13,.one (.sc (.int .i64 (.sym ((i:Nat)))))),(7,.one (.sc (.osl 170 (s.nx-1) (.lit 0) (.sym ((goN (grJ bc bp bv tags am) i (be,.l [])).2.len)))))] [0,1,11,12] [(0,.own 182 ([.c (.rows 118 bc),.c (.raw (.string bp)),.c (.rows 9 bv),.c (.int .i64 (.sym ((goN (grJ bc bp bv tags am) i (be,.l [])).1)))])),(s.nx-1,.orow 170 ((goN (grJ bc bp bv tags am) i (be,.l [])).2))] []} |_,_=>none,fun _=>none⟩) (fun _ _=>(cons_cons plg_ok (cons_cons ktu_ok (cons_cons fai_ok (cons_cons ih cons_nil))))) (by kernel_rfl) ?_
 intro ds;unfold bagS;split
 ·rename_i bc bp bv be tags am
  refine kmp (q:=withv (fun (i:Nat)=>goN (grJ bc bp bv tags am) i (be,D.l [])) fun E239=>withv (fun (i:Nat)=>grB bc bp bv (am.el (i:Int).toNat 2) (plE bv (am.el (i:Int).toNat 1).toS (flE (7:Int) (plE tags (am.el (i:Int).toNat 0).toS (E239 i).fst)))) fun E240=>withv (fun (i:Nat)=>grB bc bp bv (am.el (i:Int).toNat 2) (plE bv (am.el (i:Int).toNat 1).toS (plE tags (am.el (i:Int).toNat 0).toS (E239 i).fst))) fun E241=>withv (fun (i:Nat)=>ixN tags (am.el (i:Int).toNat 0).toS) fun E242=>withv (fun (i:Nat)=>ixN bv (am.el (i:Int).toNat 1).toS) fun E243=>withv (fun (j:Nat)=>goN (grJ bc bp bv tags am) j (be,D.l [])) fun E244=>withv (fun (i:Nat)=>(E239 i).snd.sub ((0:Nat)) ((0:Nat)+(E239 i).snd.len)) fun E245=>withv (fun (i:Nat)=>am.el (i:Int).toNat 2) fun E246=>bgX bc bv->tags.len<=10000000000000->SizeOf.sizeOf am<m->aG am->(∃ (i:Nat),(i<=am.len/\(E239 i).snd.len=i)/\(0:Int)=(i:Int)/\(E239 i).snd.len=(0:Nat)/\tags.rows=tags.rows/\am.rows=am.rows/\(am.len:Int)=(am.len:Int)/\bc.rows=bc.rows/\Value.string bp=Value.string bp/\bv.rows=bv.rows/\be=(E239 i).fst/\(E239 i).snd.rows=[])/\∀ (i:Nat),i<=am.len/\(E239 i).snd.len=i->(decide ((i:Int)<(am.len:Int))=true->((0:Int)<=(i:Int)/\(i:Int)<(am.len:Int))/\(((E239 i).fst != (0:Int))=true->(grA bc bp bv am tags be).snd.rows=[]/\bc.rows=bc.rows/\Value.string bp=Value.string bp/\bv.rows=bv.rows/\(E239 i).fst=(grA bc bp bv am tags be).fst)/\(((E239 i).fst != (0:Int))=false->tags.len<=10000000000000/\(0:Nat)+(E239 i).snd.len<=(E239 i).snd.len/\(E245 i).len<=10000000000000/\(tgU (E245 i) (E245 i).len (E242 i)=true->bv.len<=10000000000000/\SizeOf.sizeOf (E246 i)<m/\bgX bc bv/\bG (E246 i)/\(E239 i).snd.len=(E239 i).snd.len/\((E239 i).snd.len+((D.l [[D.i (E242 i),D.i (E243 i),(E240 i).snd]]).sub (0:Nat) 1).len)*(40:Nat)<=(140737488355328:Nat)/\(0:Nat)+(1:Nat)<=(D.l [[D.i (E242 i),D.i (E243 i),(E240 i).snd]]).len/\∃ (j:Nat),(j<=am.len/\(E244 j).snd.len=j)/\am.len+(1:Nat)-j<am.len+(1:Nat)-i/\IntKind.i64.wrap ((i:Int)+(1:Int))=(j:Int)/\(E239 i).snd.len+((D.l [[D.i (E242 i),D.i (E243 i),(E240 i).snd]]).sub (0:Nat) 1).len=(E244 j).snd.len/\tags.rows=tags.rows/\am.rows=am.rows/\(am.len:Int)=(am.len:Int)/\bc.rows=bc.rows/\Value.string bp=Value.string bp/\bv.rows=bv.rows/\(E240 i).fst=(E244 j).fst/\(E239 i).snd.rows++List.drop (0:Nat) (List.take 1 [[D.i (E242 i),D.i (E243 i),(E240 i).snd]])=(E244 j).snd.rows)/\(tgU (E245 i) (E245 i).len (E242 i)=false->bv.len<=10000000000000/\SizeOf.sizeOf (E246 i)<m/\bgX bc bv/\bG (E246 i)/\(E239 i).snd.len=(E239 i).snd.len/\((E239 i).snd.len+((D.l [[D.i (E242 i),D.i (E243 i),(E241 i).snd]]).sub (0:Nat) 1).len)*(40:Nat)<=(140737488355328:Nat)/\(0:Nat)+(1:Nat)<=(D.l [[D.i (E242 i),D.i (E243 i),(E241 i).snd]]).len/\∃ (j:Nat),(j<=am.len/\(E244 j).snd.len=j)/\am.len+(1:Nat)-j<am.len+(1:Nat)-i/\IntKind.i64.wrap ((i:Int)+(1:Int))=(j:Int)/\(E239 i).snd.len+((D.l [[D.i (E242 i),D.i (E243 i),(E241 i).snd]]).sub (0:Nat) 1).len=(E244 j).snd.len/\tags.rows=tags.rows/\am.rows=am.rows/\(am.len:Int)=(am.len:Int)/\bc.rows=bc.rows/\Value.string bp=Value.string bp/\bv.rows=bv.rows/\(E241 i).fst=(E244 j).fst/\(E239 i).snd.rows++List.drop (0:Nat) (List.take 1 [[D.i (E242 i),D.i (E243 i),(E241 i).snd]])=(E244 j).snd.rows)))/\(decide ((i:Int)<(am.len:Int))=false->(0:Nat)+(E239 i).snd.len<=(E239 i).snd.len/\List.drop ((0:Nat)) (List.take ((0:Nat)+(E239 i).snd.len) (E239 i).snd.rows)=(grA bc bp bv am tags be).snd.rows/\bc.rows=bc.rows/\Value.string bp=Value.string bp/\bv.rows=bv.rows/\(E239 i).fst=(grA bc bp bv am tags be).fst)) (by kernel_rfl) ?_
  dsimp +instances only [withv]
  intro hx ht hm ha;simp only [Nat.zero_add,Nat.reduceAdd,k_n];refine ⟨⟨0,⟨Nat.zero_le _,rfl⟩,(by (repeat' (with_reducible apply And.intro))<;>first |exact True.intro |rfl)⟩,fun i hi=>?_⟩;obtain ⟨hi,hq⟩:=hi;have hs:=goN_s (grJ bc bp bv tags am) i (be,.l []);have st:∀ j q,q.1≠0->grJ bc bp bv tags am j q=q:=fun j q h=>stp_st h _
  have a1:=ha.1;have stay:=fun h=>goN_st st (x:=(be,.l [])) (i:=i) h am.len hi
  refine ⟨fun hc=>?_,fun hc=>?_⟩
  ·have hc:=of_decide_eq_true hc;have hi2:i<am.len:=by omega
   have a2:=ha.2 i hi2;have z:=lel_lt (j:=2) hi2;refine ⟨⟨by omega,by omega⟩,fun he=>?_,fun he=>?_⟩
   ·have he:=bne_iff_ne.mp he;have e:grA bc bp bv am tags be=((goN (grJ bc bp bv tags am) i (be,.l [])).1,.l []):=by
     unfold grA;rw [stay he,end_lo (by omega)]
    rw [e];exact (by (repeat' (with_reducible apply And.intro))<;>first |exact True.intro |rfl)
   ·have he:(goN (grJ bc bp bv tags am) i (be,.l [])).1=0:=by simpa using he
    generalize goN (grJ bc bp bv tags am) i (be,.l [])=q at hq hs he ⊢;refine ⟨ht,Nat.le_refl _,by rw [tl_l];omega,fun hu=>?_,fun hu=>?_⟩
    ·have hs:goN (grJ bc bp bv tags am) (i+1) (be,.l [])=((grB bc bp bv (am.el i 2) (plE bv (am.el i 1).toS (flE 7 (plE tags (am.el i 0).toS q.1)))).1,psR q.2 [D.i (ixN tags (am.el i 0).toS),D.i (ixN bv (am.el i 1).toS),(grB bc bp bv (am.el i 2) (plE bv (am.el i 1).toS (flE 7 (plE tags (am.el i 0).toS q.1)))).2]):=by
      rw [hs];unfold grJ;rw [stp_go he];unfold brT;rw [if_pos hu]
     refine ⟨hx.v,by omega,hx,a2,trivial,(show (q.2.len+1)*40<=140737488355328 by omega),Nat.le_refl _,i+1,⟨hi2,by rw [hs];show (psR _ _).len=_;rw [psR_len,hq]⟩,by omega,k_nx (by omega),?_⟩;rw [hs]
     (repeat' (with_reducible apply And.intro))<;>first |exact True.intro |exact (psR_len _ _).symm |rfl
    ·have hs:goN (grJ bc bp bv tags am) (i+1) (be,.l [])=((grB bc bp bv (am.el i 2) (plE bv (am.el i 1).toS (plE tags (am.el i 0).toS q.1))).1,psR q.2 [D.i (ixN tags (am.el i 0).toS),D.i (ixN bv (am.el i 1).toS),(grB bc bp bv (am.el i 2) (plE bv (am.el i 1).toS (plE tags (am.el i 0).toS q.1))).2]):=by
      rw [hs];unfold grJ;rw [stp_go he];unfold brT;rw [if_neg (by rw [hu];decide)]
     refine ⟨hx.v,by omega,hx,a2,trivial,(show (q.2.len+1)*40<=140737488355328 by omega),Nat.le_refl _,i+1,⟨hi2,by rw [hs];show (psR _ _).len=_;rw [psR_len,hq]⟩,by omega,k_nx (by omega),?_⟩;rw [hs]
     (repeat' (with_reducible apply And.intro))<;>first |exact True.intro |exact (psR_len _ _).symm |rfl
  ·have hc:=of_decide_eq_false hc;have hi3:i=am.len:=by omega
   subst hi3;have e:grA bc bp bv am tags be=goN (grJ bc bp bv tags am) am.len (be,.l []):=by
    unfold grA;rw [end_at hq]
   rw [e];have t:=tl_r (goN (grJ bc bp bv tags am) am.len (be,.l [])).2;refine ⟨Nat.le_refl _,?_⟩
   (repeat' (with_reducible apply And.intro))<;>first |exact True.intro |exact t |rfl
 ·trivial
noncomputable def bsgS (m:Nat):List Dat->Option (Eff × List Seg):=fun ds=>match ds with
 | [.d bc,.s bp,.d bv,.i be,.i k,.s nm,.s tg,.i ek,.i en,.s es,.d ed,.i op,.i lk,.i ln,.s ls,.d ld,.i rk,.i rn,.s rs,.d rd,.d bd,.d eb,.d am]=>some ({val:=.one (.agg [.c (.int .i64 (.sym (k))),.c (.int .i64 (.sym (sel (k) (ixN bv nm) (0) (0) (0) (0) (0) (ixN bv nm)))),.c (.int .i64 (.sym (sel (k) (0) (0) (0) (ixC bc nm) (ixC bc nm) (0) (0)))),.c (.int .i64 (.sym (sel (k) (0) (0) (0) (ixN (cgT bc nm) tg) (0) (0) (0)))),.c (.int .i64 (.sym (sel (k) (ek) (0) (0) (ek) (0) (0) (0)))),.c (.int .i64 (.sym (sel (k) (gxN ek en) (0) (0) (gxN ek en) (0) (0) (0)))),.c (.int .i64 (.sym (sel (k) (gxI bv ek es) (0) (0) (gxI bv ek es) (0) (0) (0)))),.c (.rows 161 (sel (k) (gxK bv ek ed) (.l []) (.l []) (gxK bv ek ed) (.l []) (.l []) (.l []))),.c (.int .i64 (.sym (sel (k) (0) (op) (op) (0) (0) (op) (0)))),.c (.int .i64 (.sym (sel (k) (0) (lk) (lk) (0) (0) (lk) (0)))),.c (.int .i64 (.sym (sel (k) (0) (gxN lk ln) (gxN lk ln) (0) (0) (gxN lk ln) (0)))),.c (.int .i64 (.sym (sel (k) (0) (gxI bv lk ls) (gxI bv lk ls) (0) (0) (gxI bv lk ls) (0)))),.c (.rows 161 (sel (k) (.l []) (gxK bv lk ld) (gxK bv lk ld) (.l []) (.l []) (gxK bv lk ld) (.l []))),.c (.int .i64 (.sym (sel (k) (0) (rk) (rk) (0) (0) (rk) (0)))),.c (.int .i64 (.sym (sel (k) (0) (gxN rk rn) (gxN rk rn) (0) (0) (gxN rk rn) (0)))),.c (.int .i64 (.sym (sel (k) (0) (gxI bv rk rs) (gxI bv rk rs) (0) (0) (gxI bv rk rs) (0)))),.c (.rows 161 (sel (k) (.l []) (gxK bv rk rd) (gxK bv rk rd) (.l []) (.l []) (gxK bv rk rd) (.l []))),.c (.rows 166 (sel (k) (.l []) ((grB bc bp bv bd (gxE bv rk rs rd (gxE bv lk ls ld be))).2) ((grB bc bp bv bd (gxE bv rk rs rd (gxE bv lk ls ld be))).2) (.l []) (.l []) (.l []) (.l []))),.c (.rows 166 (sel (k) (.l []) ((grB bc bp bv eb (grB bc bp bv bd (gxE bv rk rs rd (gxE bv lk ls ld be))).1).2) (.l []) (.l []) (.l []) (.l []) (.l []))),.c (.rows 170 (sel (k) (.l []) (.l []) (.l []) (.l []) ((grA bc bp bv am (cgT bc nm) (cgE 4 bc nm bp be)).2) (.l []) (.l [])))]),vc:=[bgX bc bv,SizeOf.sizeOf bd<m,SizeOf.sizeOf eb<m,SizeOf.sizeOf am<m,k4S ed,k4S ld,k4S rd,bG bd,bG eb,aG am]},[.c (.rows 118 bc),.c (.raw (.string bp)),.c (.rows 9 bv),.c (.int .i64 (.sym (sel (k) (gxE bv ek es ed (plE bv nm be)) ((grB bc bp bv eb (grB bc bp bv bd (gxE bv rk rs rd (gxE bv lk ls ld be))).1).1) ((grB bc bp bv bd (gxE bv rk rs rd (gxE bv lk ls ld be))).1) (gxE bv ek es ed (plE (cgT bc nm) tg (cgE 3 bc nm bp be))) ((grA bc bp bv am (cgT bc nm) (cgE 4 bc nm bp be)).1) ((gxE bv rk rs rd (gxE bv lk ls ld be))) (plE bv nm be))))])
 |_=>none
noncomputable def bsgC (m:Nat):Con:=conM 182 [.c (.rows 118),.c .str,.c (.rows 9),.c (.int .i64)] [lSt] (bsgS m)
theorem bsg_ok {m:Nat} (ih:ConOK Tryz.prog 61 (conM 182 [.c (.rows 118),.c .str,.c (.rows 9),.c (.int .i64)] [lBo] (bbgSu m))):ConOK Tryz.prog 107 (bsgC m):=by
 refine fn_obM tt_ok mixed Tryz.func107 rfl (fun _ _=>by kernel_rfl) (A:=fun ds=>⟨fun _=>Cons.of [(140,plgC),(141,bxgC),(142,bcgC),(143,cngC),(146,(bagC m)),(61,conM 182 [.c (.rows 118),.c .str,.c (.rows 9),.c (.int .i64)] [lBo] (bbgSu m))],fun _=>none,fun _=>none⟩) (fun _ _=>(cons_cons plg_ok (cons_cons bxg_ok (cons_cons bcg_ok (cons_cons cng_ok (cons_cons (bag_ok ih) (cons_cons ih cons_nil))))))) (by kernel_rfl) ?_
 intro ds;unfold bsgS;split
 ·rename_i bc bp bv be k nm tg ek en es ed op lk ln ls ld rk rn rs rd bd eb am
  refine kmp (q:=withv (grB bc bp bv bd (gxE bv rk rs rd (gxE bv lk ls ld be))) fun E247=>withv (grA bc bp bv am (cgT bc nm) (cgE (4:Nat) bc nm bp be)) fun E248=>withv (sel k (D.l []) (grB bc bp bv eb E247.fst).snd (D.l []) (D.l []) (D.l []) (D.l []) (D.l [])) fun E249=>withv (sel k (D.l []) (gxK bv lk ld) (gxK bv lk ld) (D.l []) (D.l []) (gxK bv lk ld) (D.l [])) fun E250=>withv (sel k (D.l []) (gxK bv rk rd) (gxK bv rk rd) (D.l []) (D.l []) (gxK bv rk rd) (D.l [])) fun E251=>withv (sel k (gxK bv ek ed) (D.l []) (D.l []) (gxK bv ek ed) (D.l []) (D.l []) (D.l [])) fun E252=>withv (sel k (D.l []) E247.snd E247.snd (D.l []) (D.l []) (D.l []) (D.l [])) fun E253=>withv (sel k (D.l []) (D.l []) (D.l []) (D.l []) E248.snd (D.l []) (D.l [])) fun E254=>withv (gxE bv ek es ed (plE (cgT bc nm) tg (cgE (3:Nat) bc nm bp be))) fun E255=>withv (gxE bv rk rs rd (gxE bv lk ls ld be)) fun E256=>withv (grB bc bp bv eb E247.fst) fun E257=>withv (gxE bv ek es ed (plE bv nm be)) fun E258=>bgX bc bv->SizeOf.sizeOf bd<m->SizeOf.sizeOf eb<m->SizeOf.sizeOf am<m->k4S ed->k4S ld->k4S rd->bG bd->bG eb->aG am->((k==(1:Int))=true->bv.len<=10000000000000/\bv.len<=10000000000000/\k4S ed/\k=k/\ixN bv nm=sel k (ixN bv nm) (0:Int) (0:Int) (0:Int) (0:Int) (0:Int) (ixN bv nm)/\(0:Int)=sel k (0:Int) (0:Int) (0:Int) (ixC bc nm) (ixC bc nm) (0:Int) (0:Int)/\(0:Int)=sel k (0:Int) (0:Int) (0:Int) (ixN (cgT bc nm) tg) (0:Int) (0:Int) (0:Int)/\ek=sel k ek (0:Int) (0:Int) ek (0:Int) (0:Int) (0:Int)/\gxN ek en=sel k (gxN ek en) (0:Int) (0:Int) (gxN ek en) (0:Int) (0:Int) (0:Int)/\gxI bv ek es=sel k (gxI bv ek es) (0:Int) (0:Int) (gxI bv ek es) (0:Int) (0:Int) (0:Int)/\(gxK bv ek ed).rows=E252.rows/\(0:Int)=sel k (0:Int) op op (0:Int) (0:Int) op (0:Int)/\(0:Int)=sel k (0:Int) lk lk (0:Int) (0:Int) lk (0:Int)/\(0:Int)=sel k (0:Int) (gxN lk ln) (gxN lk ln) (0:Int) (0:Int) (gxN lk ln) (0:Int)/\(0:Int)=sel k (0:Int) (gxI bv lk ls) (gxI bv lk ls) (0:Int) (0:Int) (gxI bv lk ls) (0:Int)/\E250.rows=[]/\(0:Int)=sel k (0:Int) rk rk (0:Int) (0:Int) rk (0:Int)/\(0:Int)=sel k (0:Int) (gxN rk rn) (gxN rk rn) (0:Int) (0:Int) (gxN rk rn) (0:Int)/\(0:Int)=sel k (0:Int) (gxI bv rk rs) (gxI bv rk rs) (0:Int) (0:Int) (gxI bv rk rs) (0:Int)/\E251.rows=[]/\E253.rows=[]/\E249.rows=[]/\E254.rows=[]/\bc.rows=bc.rows/\Value.string bp=Value.string bp/\bv.rows=bv.rows/\gxE bv ek es ed (plE bv nm be)=sel k E258 E257.fst E247.fst E255 E248.fst E256 (plE bv nm be))/\((k==(1:Int))=false->((k==(2:Int))=true->bv.len<=10000000000000/\k4S ld/\k4S rd/\SizeOf.sizeOf bd<m/\bgX bc bv/\bG bd/\SizeOf.sizeOf eb<m/\bgX bc bv/\bG eb/\k=k/\(0:Int)=sel k (ixN bv nm) (0:Int) (0:Int) (0:Int) (0:Int) (0:Int) (ixN bv nm)/\(0:Int)=sel k (0:Int) (0:Int) (0:Int) (ixC bc nm) (ixC bc nm) (0:Int) (0:Int)/\(0:Int)=sel k (0:Int) (0:Int) (0:Int) (ixN (cgT bc nm) tg) (0:Int) (0:Int) (0:Int)/\(0:Int)=sel k ek (0:Int) (0:Int) ek (0:Int) (0:Int) (0:Int)/\(0:Int)=sel k (gxN ek en) (0:Int) (0:Int) (gxN ek en) (0:Int) (0:Int) (0:Int)/\(0:Int)=sel k (gxI bv ek es) (0:Int) (0:Int) (gxI bv ek es) (0:Int) (0:Int) (0:Int)/\E252.rows=[]/\op=sel k (0:Int) op op (0:Int) (0:Int) op (0:Int)/\lk=sel k (0:Int) lk lk (0:Int) (0:Int) lk (0:Int)/\gxN lk ln=sel k (0:Int) (gxN lk ln) (gxN lk ln) (0:Int) (0:Int) (gxN lk ln) (0:Int)/\gxI bv lk ls=sel k (0:Int) (gxI bv lk ls) (gxI bv lk ls) (0:Int) (0:Int) (gxI bv lk ls) (0:Int)/\(gxK bv lk ld).rows=E250.rows/\rk=sel k (0:Int) rk rk (0:Int) (0:Int) rk (0:Int)/\gxN rk rn=sel k (0:Int) (gxN rk rn) (gxN rk rn) (0:Int) (0:Int) (gxN rk rn) (0:Int)/\gxI bv rk rs=sel k (0:Int) (gxI bv rk rs) (gxI bv rk rs) (0:Int) (0:Int) (gxI bv rk rs) (0:Int)/\(gxK bv rk rd).rows=E251.rows/\E247.snd.rows=E253.rows/\E257.snd.rows=E249.rows/\E254.rows=[]/\bc.rows=bc.rows/\Value.string bp=Value.string bp/\bv.rows=bv.rows/\E257.fst=sel k E258 E257.fst E247.fst E255 E248.fst E256 (plE bv nm be))/\((k==(2:Int))=false->((k==(3:Int))=true->bv.len<=10000000000000/\k4S ld/\k4S rd/\SizeOf.sizeOf bd<m/\bgX bc bv/\bG bd/\k=k/\(0:Int)=sel k (ixN bv nm) (0:Int) (0:Int) (0:Int) (0:Int) (0:Int) (ixN bv nm)/\(0:Int)=sel k (0:Int) (0:Int) (0:Int) (ixC bc nm) (ixC bc nm) (0:Int) (0:Int)/\(0:Int)=sel k (0:Int) (0:Int) (0:Int) (ixN (cgT bc nm) tg) (0:Int) (0:Int) (0:Int)/\(0:Int)=sel k ek (0:Int) (0:Int) ek (0:Int) (0:Int) (0:Int)/\(0:Int)=sel k (gxN ek en) (0:Int) (0:Int) (gxN ek en) (0:Int) (0:Int) (0:Int)/\(0:Int)=sel k (gxI bv ek es) (0:Int) (0:Int) (gxI bv ek es) (0:Int) (0:Int) (0:Int)/\E252.rows=[]/\op=sel k (0:Int) op op (0:Int) (0:Int) op (0:Int)/\lk=sel k (0:Int) lk lk (0:Int) (0:Int) lk (0:Int)/\gxN lk ln=sel k (0:Int) (gxN lk ln) (gxN lk ln) (0:Int) (0:Int) (gxN lk ln) (0:Int)/\gxI bv lk ls=sel k (0:Int) (gxI bv lk ls) (gxI bv lk ls) (0:Int) (0:Int) (gxI bv lk ls) (0:Int)/\(gxK bv lk ld).rows=E250.rows/\rk=sel k (0:Int) rk rk (0:Int) (0:Int) rk (0:Int)/\gxN rk rn=sel k (0:Int) (gxN rk rn) (gxN rk rn) (0:Int) (0:Int) (gxN rk rn) (0:Int)/\gxI bv rk rs=sel k (0:Int) (gxI bv rk rs) (gxI bv rk rs) (0:Int) (0:Int) (gxI bv rk rs) (0:Int)/\(gxK bv rk rd).rows=E251.rows/\E247.snd.rows=E253.rows/\E249.rows=[]/\E254.rows=[]/\bc.rows=bc.rows/\Value.string bp=Value.string bp/\bv.rows=bv.rows/\E247.fst=sel k E258 E257.fst E247.fst E255 E248.fst E256 (plE bv nm be))/\((k==(3:Int))=false->((k==(4:Int))=true->bc.len<=10000000000000/\(cgT bc nm).len<=10000000000000/\bv.len<=10000000000000/\k4S ed/\k=k/\(0:Int)=sel k (ixN bv nm) (0:Int) (0:Int) (0:Int) (0:Int) (0:Int) (ixN bv nm)/\ixC bc nm=sel k (0:Int) (0:Int) (0:Int) (ixC bc nm) (ixC bc nm) (0:Int) (0:Int)/\ixN (cgT bc nm) tg=sel k (0:Int) (0:Int) (0:Int) (ixN (cgT bc nm) tg) (0:Int) (0:Int) (0:Int)/\ek=sel k ek (0:Int) (0:Int) ek (0:Int) (0:Int) (0:Int)/\gxN ek en=sel k (gxN ek en) (0:Int) (0:Int) (gxN ek en) (0:Int) (0:Int) (0:Int)/\gxI bv ek es=sel k (gxI bv ek es) (0:Int) (0:Int) (gxI bv ek es) (0:Int) (0:Int) (0:Int)/\(gxK bv ek ed).rows=E252.rows/\(0:Int)=sel k (0:Int) op op (0:Int) (0:Int) op (0:Int)/\(0:Int)=sel k (0:Int) lk lk (0:Int) (0:Int) lk (0:Int)/\(0:Int)=sel k (0:Int) (gxN lk ln) (gxN lk ln) (0:Int) (0:Int) (gxN lk ln) (0:Int)/\(0:Int)=sel k (0:Int) (gxI bv lk ls) (gxI bv lk ls) (0:Int) (0:Int) (gxI bv lk ls) (0:Int)/\E250.rows=[]/\(0:Int)=sel k (0:Int) rk rk (0:Int) (0:Int) rk (0:Int)/\(0:Int)=sel k (0:Int) (gxN rk rn) (gxN rk rn) (0:Int) (0:Int) (gxN rk rn) (0:Int)/\(0:Int)=sel k (0:Int) (gxI bv rk rs) (gxI bv rk rs) (0:Int) (0:Int) (gxI bv rk rs) (0:Int)/\E251.rows=[]/\E253.rows=[]/\E249.rows=[]/\E254.rows=[]/\bc.rows=bc.rows/\Value.string bp=Value.string bp/\bv.rows=bv.rows/\gxE bv ek es ed (plE (cgT bc nm) tg (cgE (3:Nat) bc nm bp be))=sel k E258 E257.fst E247.fst E255 E248.fst E256 (plE bv nm be))/\((k==(4:Int))=false->((k==(5:Int))=true->bc.len<=10000000000000/\bgX bc bv/\(cgT bc nm).len<=10000000000000/\SizeOf.sizeOf am<m/\aG am/\k=k/\(0:Int)=sel k (ixN bv nm) (0:Int) (0:Int) (0:Int) (0:Int) (0:Int) (ixN bv nm)/\ixC bc nm=sel k (0:Int) (0:Int) (0:Int) (ixC bc nm) (ixC bc nm) (0:Int) (0:Int)/\(0:Int)=sel k (0:Int) (0:Int) (0:Int) (ixN (cgT bc nm) tg) (0:Int) (0:Int) (0:Int)/\(0:Int)=sel k ek (0:Int) (0:Int) ek (0:Int) (0:Int) (0:Int)/\(0:Int)=sel k (gxN ek en) (0:Int) (0:Int) (gxN ek en) (0:Int) (0:Int) (0:Int)/\(0:Int)=sel k (gxI bv ek es) (0:Int) (0:Int) (gxI bv ek es) (0:Int) (0:Int) (0:Int)/\E252.rows=[]/\(0:Int)=sel k (0:Int) op op (0:Int) (0:Int) op (0:Int)/\(0:Int)=sel k (0:Int) lk lk (0:Int) (0:Int) lk (0:Int)/\(0:Int)=sel k (0:Int) (gxN lk ln) (gxN lk ln) (0:Int) (0:Int) (gxN lk ln) (0:Int)/\(0:Int)=sel k (0:Int) (gxI bv lk ls) (gxI bv lk ls) (0:Int) (0:Int) (gxI bv lk ls) (0:Int)/\E250.rows=[]/\(0:Int)=sel k (0:Int) rk rk (0:Int) (0:Int) rk (0:Int)/\(0:Int)=sel k (0:Int) (gxN rk rn) (gxN rk rn) (0:Int) (0:Int) (gxN rk rn) (0:Int)/\(0:Int)=sel k (0:Int) (gxI bv rk rs) (gxI bv rk rs) (0:Int) (0:Int) (gxI bv rk rs) (0:Int)/\E251.rows=[]/\E253.rows=[]/\E249.rows=[]/\E248.snd.rows=E254.rows/\bc.rows=bc.rows/\Value.string bp=Value.string bp/\bv.rows=bv.rows/\E248.fst=sel k E258 E257.fst E247.fst E255 E248.fst E256 (plE bv nm be))/\((k==(5:Int))=false->((k==(6:Int))=true->bv.len<=10000000000000/\k4S ld/\k4S rd/\k=k/\(0:Int)=sel k (ixN bv nm) (0:Int) (0:Int) (0:Int) (0:Int) (0:Int) (ixN bv nm)/\(0:Int)=sel k (0:Int) (0:Int) (0:Int) (ixC bc nm) (ixC bc nm) (0:Int) (0:Int)/\(0:Int)=sel k (0:Int) (0:Int) (0:Int) (ixN (cgT bc nm) tg) (0:Int) (0:Int) (0:Int)/\(0:Int)=sel k ek (0:Int) (0:Int) ek (0:Int) (0:Int) (0:Int)/\(0:Int)=sel k (gxN ek en) (0:Int) (0:Int) (gxN ek en) (0:Int) (0:Int) (0:Int)/\(0:Int)=sel k (gxI bv ek es) (0:Int) (0:Int) (gxI bv ek es) (0:Int) (0:Int) (0:Int)/\E252.rows=[]/\op=sel k (0:Int) op op (0:Int) (0:Int) op (0:Int)/\lk=sel k (0:Int) lk lk (0:Int) (0:Int) lk (0:Int)/\gxN lk ln=sel k (0:Int) (gxN lk ln) (gxN lk ln) (0:Int) (0:Int) (gxN lk ln) (0:Int)/\gxI bv lk ls=sel k (0:Int) (gxI bv lk ls) (gxI bv lk ls) (0:Int) (0:Int) (gxI bv lk ls) (0:Int)/\(gxK bv lk ld).rows=E250.rows/\rk=sel k (0:Int) rk rk (0:Int) (0:Int) rk (0:Int)/\gxN rk rn=sel k (0:Int) (gxN rk rn) (gxN rk rn) (0:Int) (0:Int) (gxN rk rn) (0:Int)/\gxI bv rk rs=sel k (0:Int) (gxI bv rk rs) (gxI bv rk rs) (0:Int) (0:Int) (gxI bv rk rs) (0:Int)/\(gxK bv rk rd).rows=E251.rows/\E253.rows=[]/\E249.rows=[]/\E254.rows=[]/\bc.rows=bc.rows/\Value.string bp=Value.string bp/\bv.rows=bv.rows/\gxE bv rk rs rd (gxE bv lk ls ld be)=sel k E258 E257.fst E247.fst E255 E248.fst E256 (plE bv nm be))/\((k==(6:Int))=false->bv.len<=10000000000000/\k=k/\ixN bv nm=sel k (ixN bv nm) (0:Int) (0:Int) (0:Int) (0:Int) (0:Int) (ixN bv nm)/\(0:Int)=sel k (0:Int) (0:Int) (0:Int) (ixC bc nm) (ixC bc nm) (0:Int) (0:Int)/\(0:Int)=sel k (0:Int) (0:Int) (0:Int) (ixN (cgT bc nm) tg) (0:Int) (0:Int) (0:Int)/\(0:Int)=sel k ek (0:Int) (0:Int) ek (0:Int) (0:Int) (0:Int)/\(0:Int)=sel k (gxN ek en) (0:Int) (0:Int) (gxN ek en) (0:Int) (0:Int) (0:Int)/\(0:Int)=sel k (gxI bv ek es) (0:Int) (0:Int) (gxI bv ek es) (0:Int) (0:Int) (0:Int)/\E252.rows=[]/\(0:Int)=sel k (0:Int) op op (0:Int) (0:Int) op (0:Int)/\(0:Int)=sel k (0:Int) lk lk (0:Int) (0:Int) lk (0:Int)/\(0:Int)=sel k (0:Int) (gxN lk ln) (gxN lk ln) (0:Int) (0:Int) (gxN lk ln) (0:Int)/\(0:Int)=sel k (0:Int) (gxI bv lk ls) (gxI bv lk ls) (0:Int) (0:Int) (gxI bv lk ls) (0:Int)/\E250.rows=[]/\(0:Int)=sel k (0:Int) rk rk (0:Int) (0:Int) rk (0:Int)/\(0:Int)=sel k (0:Int) (gxN rk rn) (gxN rk rn) (0:Int) (0:Int) (gxN rk rn) (0:Int)/\(0:Int)=sel k (0:Int) (gxI bv rk rs) (gxI bv rk rs) (0:Int) (0:Int) (gxI bv rk rs) (0:Int)/\E251.rows=[]/\E253.rows=[]/\E249.rows=[]/\E254.rows=[]/\bc.rows=bc.rows/\Value.string bp=Value.string bp/\bv.rows=bv.rows/\plE bv nm be=sel k E258 E257.fst E247.fst E255 E248.fst E256 (plE bv nm be)))))))) (by kernel_rfl) ?_
  dsimp +instances only [withv]
  intro hx m1 m2 m3 s1 s2 s3 s4 s5 s6;have ht:=cgT_len hx nm;have hc:=hx.c;refine ⟨fun h=>?_,fun n1=>⟨fun h=>?_,fun n2=>⟨fun h=>?_,fun n3=>⟨fun h=>?_,fun n4=>⟨fun h=>?_,fun n5=>⟨fun h=>?_,fun n6=>?_⟩⟩⟩⟩⟩⟩
  ·obtain rfl:=eq_of_beq h;simp only [sel_1]
   (repeat' (with_reducible apply And.intro))<;>first |exact True.intro |with_reducible assumption |exact hx.v |exact hx.c |rfl
  ·obtain rfl:=eq_of_beq h;simp only [sel_2]
   (repeat' (with_reducible apply And.intro))<;>first |exact True.intro |with_reducible assumption |exact hx.v |exact hx.c |rfl
  ·obtain rfl:=eq_of_beq h;simp only [sel_3]
   (repeat' (with_reducible apply And.intro))<;>first |exact True.intro |with_reducible assumption |exact hx.v |exact hx.c |rfl
  ·obtain rfl:=eq_of_beq h;simp only [sel_4]
   (repeat' (with_reducible apply And.intro))<;>first |exact True.intro |with_reducible assumption |exact hx.v |exact hx.c |rfl
  ·obtain rfl:=eq_of_beq h;simp only [sel_5]
   (repeat' (with_reducible apply And.intro))<;>first |exact True.intro |with_reducible assumption |exact hx.v |exact hx.c |rfl
  ·obtain rfl:=eq_of_beq h;simp only [sel_6]
   (repeat' (with_reducible apply And.intro))<;>first |exact True.intro |with_reducible assumption |exact hx.v |exact hx.c |rfl
  ·simp only [sel_7 (ne_of_beq_false n1) (ne_of_beq_false n2) (ne_of_beq_false n3) (ne_of_beq_false n4) (ne_of_beq_false n5) (ne_of_beq_false n6)]
   (repeat' (with_reducible apply And.intro))<;>first |exact True.intro |with_reducible assumption |exact hx.v |exact hx.c |rfl
 ·trivial
set_option maxRecDepth 100000 in
theorem bbg_step (m:Nat) (ih:ConOK Tryz.prog 61 (conM 182 [.c (.rows 118),.c .str,.c (.rows 9),.c (.int .i64)] [lBo] (bbgSu m))):ConOK Tryz.prog 61 (conM 182 [.c (.rows 118),.c .str,.c (.rows 9),.c (.int .i64)] [lBo] (bbgSu (m+1))):=by
 refine fn_obM tt_ok mixed Tryz.func61 rfl (fun _ _=>by kernel_rfl) (A:=fun ds=>⟨fun _=>Cons.of [(107,(bsgC m))],fun k=>match k,ds with | 3,[.d bc,.s bp,.d bv,.i be,.d d]=>some {ι:=Nat,pre:=fun _ i=>i<=d.len/\(goN (grI bc bp bv d) i (be,.l [])).2.len=i,μ:=fun i=>d.len+1-i,st:=fun s i=>famR s [(10,.one (.sc (.int .i64 (.sym ((i:Nat)))))),(5,.one (.sc (.osl 166 (s.nx-1) (.lit 0) (.sym ((goN (grI bc bp bv d) i (be,.l [])).2.len)))))] [0,8,9] [(0,.own 182 ([.c (.rows 118 bc),.c (.raw (.string bp)),.c (.rows 9 bv),.c (.int .i64 (.sym ((goN (grI bc bp bv d) i (be,.l [])).1)))])),(s.nx-1,.orow 166 ((goN (grI bc bp bv d) i (be,.l [])).2))] []} |_,_=>none,fun _=>none⟩) (fun _ _=>(cons_cons (bsg_ok ih) cons_nil)) (by kernel_rfl) ?_
 intro ds;unfold bbgSu;split
 ·rename_i bc bp bv be d
  refine kmp (q:=withv (fun (i:Nat)=>D.l [[D.i (d.el (i:Int).toNat 0).toI,D.i (sel (d.el (i:Int).toNat 0).toI (ixN bv (d.el (i:Int).toNat 1).toS) (0:Int) (0:Int) (0:Int) (0:Int) (0:Int) (ixN bv (d.el (i:Int).toNat 1).toS)),D.i (sel (d.el (i:Int).toNat 0).toI (0:Int) (0:Int) (0:Int) (ixC bc (d.el (i:Int).toNat 1).toS) (ixC bc (d.el (i:Int).toNat 1).toS) (0:Int) (0:Int)),D.i (sel (d.el (i:Int).toNat 0).toI (0:Int) (0:Int) (0:Int) (ixN (cgT bc (d.el (i:Int).toNat 1).toS) (d.el (i:Int).toNat 2).toS) (0:Int) (0:Int) (0:Int)),D.i (sel (d.el (i:Int).toNat 0).toI (d.el (i:Int).toNat 3).toI (0:Int) (0:Int) (d.el (i:Int).toNat 3).toI (0:Int) (0:Int) (0:Int)),D.i (sel (d.el (i:Int).toNat 0).toI (gxN (d.el (i:Int).toNat 3).toI (d.el (i:Int).toNat 4).toI) (0:Int) (0:Int) (gxN (d.el (i:Int).toNat 3).toI (d.el (i:Int).toNat 4).toI) (0:Int) (0:Int) (0:Int)),D.i (sel (d.el (i:Int).toNat 0).toI (gxI bv (d.el (i:Int).toNat 3).toI (d.el (i:Int).toNat 5).toS) (0:Int) (0:Int) (gxI bv (d.el (i:Int).toNat 3).toI (d.el (i:Int).toNat 5).toS) (0:Int) (0:Int) (0:Int)),sel (d.el (i:Int).toNat 0).toI (gxK bv (d.el (i:Int).toNat 3).toI (d.el (i:Int).toNat 6)) (D.l []) (D.l []) (gxK bv (d.el (i:Int).toNat 3).toI (d.el (i:Int).toNat 6)) (D.l []) (D.l []) (D.l []),D.i (sel (d.el (i:Int).toNat 0).toI (0:Int) (d.el (i:Int).toNat 7).toI (d.el (i:Int).toNat 7).toI (0:Int) (0:Int) (d.el (i:Int).toNat 7).toI (0:Int)),D.i (sel (d.el (i:Int).toNat 0).toI (0:Int) (d.el (i:Int).toNat 8).toI (d.el (i:Int).toNat 8).toI (0:Int) (0:Int) (d.el (i:Int).toNat 8).toI (0:Int)),D.i (sel (d.el (i:Int).toNat 0).toI (0:Int) (gxN (d.el (i:Int).toNat 8).toI (d.el (i:Int).toNat 9).toI) (gxN (d.el (i:Int).toNat 8).toI (d.el (i:Int).toNat 9).toI) (0:Int) (0:Int) (gxN (d.el (i:Int).toNat 8).toI (d.el (i:Int).toNat 9).toI) (0:Int)),D.i (sel (d.el (i:Int).toNat 0).toI (0:Int) (gxI bv (d.el (i:Int).toNat 8).toI (d.el (i:Int).toNat 10).toS) (gxI bv (d.el (i:Int).toNat 8).toI (d.el (i:Int).toNat 10).toS) (0:Int) (0:Int) (gxI bv (d.el (i:Int).toNat 8).toI (d.el (i:Int).toNat 10).toS) (0:Int)),sel (d.el (i:Int).toNat 0).toI (D.l []) (gxK bv (d.el (i:Int).toNat 8).toI (d.el (i:Int).toNat 11)) (gxK bv (d.el (i:Int).toNat 8).toI (d.el (i:Int).toNat 11)) (D.l []) (D.l []) (gxK bv (d.el (i:Int).toNat 8).toI (d.el (i:Int).toNat 11)) (D.l []),D.i (sel (d.el (i:Int).toNat 0).toI (0:Int) (d.el (i:Int).toNat 12).toI (d.el (i:Int).toNat 12).toI (0:Int) (0:Int) (d.el (i:Int).toNat 12).toI (0:Int)),D.i (sel (d.el (i:Int).toNat 0).toI (0:Int) (gxN (d.el (i:Int).toNat 12).toI (d.el (i:Int).toNat 13).toI) (gxN (d.el (i:Int).toNat 12).toI (d.el (i:Int).toNat 13).toI) (0:Int) (0:Int) (gxN (d.el (i:Int).toNat 12).toI (d.el (i:Int).toNat 13).toI) (0:Int)),D.i (sel (d.el (i:Int).toNat 0).toI (0:Int) (gxI bv (d.el (i:Int).toNat 12).toI (d.el (i:Int).toNat 14).toS) (gxI bv (d.el (i:Int).toNat 12).toI (d.el (i:Int).toNat 14).toS) (0:Int) (0:Int) (gxI bv (d.el (i:Int).toNat 12).toI (d.el (i:Int).toNat 14).toS) (0:Int)),sel (d.el (i:Int).toNat 0).toI (D.l []) (gxK bv (d.el (i:Int).toNat 12).toI (d.el (i:Int).toNat 15)) (gxK bv (d.el (i:Int).toNat 12).toI (d.el (i:Int).toNat 15)) (D.l []) (D.l []) (gxK bv (d.el (i:Int).toNat 12).toI (d.el (i:Int).toNat 15)) (D.l []),sel (d.el (i:Int).toNat 0).toI (D.l []) (grB bc bp bv (d.el (i:Int).toNat 16) (gxE bv (d.el (i:Int).toNat 12).toI (d.el (i:Int).toNat 14).toS (d.el (i:Int).toNat 15) (gxE bv (d.el (i:Int).toNat 8).toI (d.el (i:Int).toNat 10).toS (d.el (i:Int).toNat 11) (goN (grI bc bp bv d) i (be,D.l [])).fst))).snd (grB bc bp bv (d.el (i:Int).toNat 16) (gxE bv (d.el (i:Int).toNat 12).toI (d.el (i:Int).toNat 14).toS (d.el (i:Int).toNat 15) (gxE bv (d.el (i:Int).toNat 8).toI (d.el (i:Int).toNat 10).toS (d.el (i:Int).toNat 11) (goN (grI bc bp bv d) i (be,D.l [])).fst))).snd (D.l []) (D.l []) (D.l []) (D.l []),sel (d.el (i:Int).toNat 0).toI (D.l []) (grB bc bp bv (d.el (i:Int).toNat 17) (grB bc bp bv (d.el (i:Int).toNat 16) (gxE bv (d.el (i:Int).toNat 12).toI (d.el (i:Int).toNat 14).toS (d.el (i:Int).toNat 15) (gxE bv (d.el (i:Int).toNat 8).toI (d.el (i:Int).toNat 10).toS (d.el (i:Int).toNat 11) (goN (grI bc bp bv d) i (be,D.l [])).fst))).fst).snd (D.l []) (D.l []) (D.l []) (D.l []) (D.l []),sel (d.el (i:Int).toNat 0).toI (D.l []) (D.l []) (D.l []) (D.l []) (grA bc bp bv (d.el (i:Int).toNat 18) (cgT bc (d.el (i:Int).toNat 1).toS) (cgE (4:Nat) bc (d.el (i:Int).toNat 1).toS bp (goN (grI bc bp bv d) i (be,D.l [])).fst)).snd (D.l []) (D.l [])]]) fun E259=>withv (fun (i:Nat)=>gxE bv (d.el (i:Int).toNat 12).toI (d.el (i:Int).toNat 14).toS (d.el (i:Int).toNat 15) (gxE bv (d.el (i:Int).toNat 8).toI (d.el (i:Int).toNat 10).toS (d.el (i:Int).toNat 11) (goN (grI bc bp bv d) i (be,D.l [])).fst)) fun E260=>withv (fun (i:Nat)=>d.el (i:Int).toNat 12) fun E261=>withv (fun (i:Nat)=>d.el (i:Int).toNat 8) fun E262=>withv (fun (i:Nat)=>d.el (i:Int).toNat 16) fun E263=>withv (fun (i:Nat)=>d.el (i:Int).toNat 18) fun E264=>withv (fun (i:Nat)=>d.el (i:Int).toNat 17) fun E265=>withv (fun (i:Nat)=>goN (grI bc bp bv d) i (be,D.l [])) fun E266=>withv (fun (i:Nat)=>d.el (i:Int).toNat 15) fun E267=>withv (fun (i:Nat)=>d.el (i:Int).toNat 3) fun E268=>withv (fun (i:Nat)=>d.el (i:Int).toNat 0) fun E269=>withv (fun (i:Nat)=>d.el (i:Int).toNat 1) fun E270=>withv (fun (i:Nat)=>d.el (i:Int).toNat 11) fun E271=>withv (fun (i:Nat)=>gxI bv (E261 i).toI (d.el (i:Int).toNat 14).toS) fun E272=>withv (fun (i:Nat)=>gxN (E261 i).toI (d.el (i:Int).toNat 13).toI) fun E273=>withv (fun (i:Nat)=>d.el (i:Int).toNat 6) fun E274=>withv (fun (i:Nat)=>gxI bv (E262 i).toI (d.el (i:Int).toNat 10).toS) fun E275=>withv (fun (i:Nat)=>gxN (E262 i).toI (d.el (i:Int).toNat 9).toI) fun E276=>withv (fun (i:Nat)=>d.el (i:Int).toNat 5) fun E277=>withv (fun (i:Nat)=>d.el (i:Int).toNat 7) fun E278=>SizeOf.sizeOf d<m+(1:Nat)->bgX bc bv->bG d->(∃ (i:Nat),(i<=d.len/\(E266 i).snd.len=i)/\(0:Int)=(i:Int)/\(E266 i).snd.len=(0:Nat)/\d.rows=d.rows/\(d.len:Int)=(d.len:Int)/\bc.rows=bc.rows/\Value.string bp=Value.string bp/\bv.rows=bv.rows/\be=(E266 i).fst/\(E266 i).snd.rows=[])/\∀ (i:Nat),i<=d.len/\(E266 i).snd.len=i->(decide ((i:Int)<(d.len:Int))=true->((0:Int)<=(i:Int)/\(i:Int)<(d.len:Int))/\(((E266 i).fst != (0:Int))=true->(grB bc bp bv d be).snd.rows=[]/\bc.rows=bc.rows/\Value.string bp=Value.string bp/\bv.rows=bv.rows/\(E266 i).fst=(grB bc bp bv d be).fst)/\(((E266 i).fst != (0:Int))=false->bgX bc bv/\SizeOf.sizeOf (E263 i)<m/\SizeOf.sizeOf (E265 i)<m/\SizeOf.sizeOf (E264 i)<m/\k4S (E274 i)/\k4S (E271 i)/\k4S (E267 i)/\bG (E263 i)/\bG (E265 i)/\aG (E264 i)/\(E266 i).snd.len=(E266 i).snd.len/\((E266 i).snd.len+((E259 i).sub (0:Nat) 1).len)*(256:Nat)<=(140737488355328:Nat)/\(0:Nat)+(1:Nat)<=(E259 i).len/\∃ (j:Nat),(j<=d.len/\(goN (grI bc bp bv d) j (be,D.l [])).snd.len=j)/\d.len+(1:Nat)-j<d.len+(1:Nat)-i/\IntKind.i64.wrap ((i:Int)+(1:Int))=(j:Int)/\(E266 i).snd.len+((E259 i).sub (0:Nat) 1).len=(goN (grI bc bp bv d) j (be,D.l [])).snd.len/\d.rows=d.rows/\(d.len:Int)=(d.len:Int)/\bc.rows=bc.rows/\Value.string bp=Value.string bp/\bv.rows=bv.rows/\sel (E269 i).toI (gxE bv (E268 i).toI (E277 i).toS (E274 i) (plE bv (E270 i).toS (E266 i).fst)) (grB bc bp bv (E265 i) (grB bc bp bv (E263 i) (E260 i)).fst).fst (grB bc bp bv (E263 i) (E260 i)).fst (gxE bv (E268 i).toI (E277 i).toS (E274 i) (plE (cgT bc (E270 i).toS) (d.el (i:Int).toNat 2).toS (cgE (3:Nat) bc (E270 i).toS bp (E266 i).fst))) (grA bc bp bv (E264 i) (cgT bc (E270 i).toS) (cgE (4:Nat) bc (E270 i).toS bp (E266 i).fst)).fst (E260 i) (plE bv (E270 i).toS (E266 i).fst)=(goN (grI bc bp bv d) j (be,D.l [])).fst/\(E266 i).snd.rows++List.drop (0:Nat) (List.take 1 [[D.i (E269 i).toI,D.i (sel (E269 i).toI (ixN bv (E270 i).toS) (0:Int) (0:Int) (0:Int) (0:Int) (0:Int) (ixN bv (E270 i).toS)),D.i (sel (E269 i).toI (0:Int) (0:Int) (0:Int) (ixC bc (E270 i).toS) (ixC bc (E270 i).toS) (0:Int) (0:Int)),D.i (sel (E269 i).toI (0:Int) (0:Int) (0:Int) (ixN (cgT bc (E270 i).toS) (d.el (i:Int).toNat 2).toS) (0:Int) (0:Int) (0:Int)),D.i (sel (E269 i).toI (E268 i).toI (0:Int) (0:Int) (E268 i).toI (0:Int) (0:Int) (0:Int)),D.i (sel (E269 i).toI (gxN (E268 i).toI (d.el (i:Int).toNat 4).toI) (0:Int) (0:Int) (gxN (E268 i).toI (d.el (i:Int).toNat 4).toI) (0:Int) (0:Int) (0:Int)),D.i (sel (E269 i).toI (gxI bv (E268 i).toI (E277 i).toS) (0:Int) (0:Int) (gxI bv (E268 i).toI (E277 i).toS) (0:Int) (0:Int) (0:Int)),sel (E269 i).toI (gxK bv (E268 i).toI (E274 i)) (D.l []) (D.l []) (gxK bv (E268 i).toI (E274 i)) (D.l []) (D.l []) (D.l []),D.i (sel (E269 i).toI (0:Int) (E278 i).toI (E278 i).toI (0:Int) (0:Int) (E278 i).toI (0:Int)),D.i (sel (E269 i).toI (0:Int) (E262 i).toI (E262 i).toI (0:Int) (0:Int) (E262 i).toI (0:Int)),D.i (sel (E269 i).toI (0:Int) (E276 i) (E276 i) (0:Int) (0:Int) (E276 i) (0:Int)),D.i (sel (E269 i).toI (0:Int) (E275 i) (E275 i) (0:Int) (0:Int) (E275 i) (0:Int)),sel (E269 i).toI (D.l []) (gxK bv (E262 i).toI (E271 i)) (gxK bv (E262 i).toI (E271 i)) (D.l []) (D.l []) (gxK bv (E262 i).toI (E271 i)) (D.l []),D.i (sel (E269 i).toI (0:Int) (E261 i).toI (E261 i).toI (0:Int) (0:Int) (E261 i).toI (0:Int)),D.i (sel (E269 i).toI (0:Int) (E273 i) (E273 i) (0:Int) (0:Int) (E273 i) (0:Int)),D.i (sel (E269 i).toI (0:Int) (E272 i) (E272 i) (0:Int) (0:Int) (E272 i) (0:Int)),sel (E269 i).toI (D.l []) (gxK bv (E261 i).toI (E267 i)) (gxK bv (E261 i).toI (E267 i)) (D.l []) (D.l []) (gxK bv (E261 i).toI (E267 i)) (D.l []),sel (E269 i).toI (D.l []) (grB bc bp bv (E263 i) (E260 i)).snd (grB bc bp bv (E263 i) (E260 i)).snd (D.l []) (D.l []) (D.l []) (D.l []),sel (E269 i).toI (D.l []) (grB bc bp bv (E265 i) (grB bc bp bv (E263 i) (E260 i)).fst).snd (D.l []) (D.l []) (D.l []) (D.l []) (D.l []),sel (E269 i).toI (D.l []) (D.l []) (D.l []) (D.l []) (grA bc bp bv (E264 i) (cgT bc (E270 i).toS) (cgE (4:Nat) bc (E270 i).toS bp (E266 i).fst)).snd (D.l []) (D.l [])]])=(goN (grI bc bp bv d) j (be,D.l [])).snd.rows))/\(decide ((i:Int)<(d.len:Int))=false->(0:Nat)+(E266 i).snd.len<=(E266 i).snd.len/\List.drop ((0:Nat)) (List.take ((0:Nat)+(E266 i).snd.len) (E266 i).snd.rows)=(grB bc bp bv d be).snd.rows/\bc.rows=bc.rows/\Value.string bp=Value.string bp/\bv.rows=bv.rows/\(E266 i).fst=(grB bc bp bv d be).fst)) (by kernel_rfl) ?_
  dsimp +instances only [withv]
  intro hm hx hb;simp only [Nat.zero_add,Nat.reduceAdd,k_n];rw [bG_iff] at hb;obtain ⟨b1,b2⟩:=hb;refine ⟨⟨0,⟨Nat.zero_le _,rfl⟩,(by (repeat' (with_reducible apply And.intro))<;>first |exact True.intro |rfl)⟩,fun i hi=>?_⟩;obtain ⟨hi,hq⟩:=hi;have hs:=goN_s (grI bc bp bv d) i (be,.l []);have st:∀ j q,q.1≠0->grI bc bp bv d j q=q:=fun j q h=>stp_st h _
  have stay:=fun h=>goN_st st (x:=(be,.l [])) (i:=i) h d.len hi
  refine ⟨fun hc=>?_,fun hc=>?_⟩
  ·have hc:=of_decide_eq_true hc;have hi2:i<d.len:=by omega
   obtain ⟨k1,k2,k3,k4,k5,k6⟩:=b2 i hi2;have z1:=lel_lt (j:=16) hi2;have z2:=lel_lt (j:=17) hi2;have z3:=lel_lt (j:=18) hi2;refine ⟨⟨by omega,by omega⟩,fun he=>?_,fun he=>?_⟩
   ·have he:=bne_iff_ne.mp he;have e:grB bc bp bv d be=((goN (grI bc bp bv d) i (be,.l [])).1,.l []):=by
     rw [grB_eq,stay he,end_lo (by omega)]
    rw [e];exact (by (repeat' (with_reducible apply And.intro))<;>first |exact True.intro |rfl)
   ·have he:(goN (grI bc bp bv d) i (be,.l [])).1=0:=by simpa using he
    generalize goN (grI bc bp bv d) i (be,.l [])=q at hq hs he ⊢;have hs:goN (grI bc bp bv d) (i+1) (be,.l [])=((brS bc bp bv d i (grB bc bp bv (d.el i 16)) (grB bc bp bv (d.el i 17)) (grA bc bp bv (d.el i 18)) q.1).1,psR q.2 (brS bc bp bv d i (grB bc bp bv (d.el i 16)) (grB bc bp bv (d.el i 17)) (grA bc bp bv (d.el i 18)) q.1).2):=by
     rw [hs];unfold grI;rw [stp_go he]
    refine ⟨hx,by omega,by omega,by omega,k1,k2,k3,k4,k5,k6,trivial,(show (q.2.len+1)*256<=140737488355328 by omega),Nat.le_refl _,i+1,⟨hi2,by rw [hs];show (psR _ _).len=_;rw [psR_len,hq]⟩,by omega,k_nx (by omega),?_⟩;rw [hs]
    (repeat' (with_reducible apply And.intro))<;>first |exact True.intro |exact (psR_len _ _).symm |rfl
  ·have hc:=of_decide_eq_false hc;have hi3:i=d.len:=by omega
   subst hi3;have e:grB bc bp bv d be=goN (grI bc bp bv d) d.len (be,.l []):=by
    rw [grB_eq,end_at hq]
   rw [e];have t:=tl_r (goN (grI bc bp bv d) d.len (be,.l [])).2;refine ⟨Nat.le_refl _,?_⟩
   (repeat' (with_reducible apply And.intro))<;>first |exact True.intro |exact t |rfl
 ·trivial
theorem bbg_ok:ConOK Tryz.prog 61 bbgC:=
 conM_rec bbgM (fun _ _=>by kernel_rfl) fun m ih=>by
  rw [bbg_under] at ih ⊢;exact bbg_step m ih
def bpE (ch pr:D) (i:Nat):Int:=if 6<(pr.el i 1).len then 10 else if twK (pr.el i 1)=true then 7 else (grB ch (pr.el i 0).toS (pr.el i 1) (pr.el i 2) 0).1
def bpI (ch pr:D):Int:=ixF (fun i=>bpE ch pr i != 0) pr.len
def bpX (ch pr:D):Int:=if bpI ch pr<0 then 0 else bpE ch pr (bpI ch pr).toNat
def bpG (ch pr:D) (i:Nat):List D:=[D.i (pr.el i 1).len,(grB ch (pr.el i 0).toS (pr.el i 1) (pr.el i 2) 0).2]
def bpD (ch pr:D):D:=if bpI ch pr<0 then cpTo pr.len (bpG ch pr) else .l []
structure BpS (ch pr:D):Prop where
 l:pr.len<=1000000000000
 v:∀ i,i<pr.len->bgX ch (pr.el i 1)/\bG (pr.el i 2)
theorem bp_hit {ch pr:D} {i:Nat} (hi:i<pr.len) (hq:bpE ch pr i≠0) (hp:∀ j,j<i->(bpE ch pr j != 0)=false):bpX ch pr=bpE ch pr i/\bpD ch pr = .l []:=by
 have e:bpI ch pr=i:=ixF_hit hi (bne_iff_ne.mpr hq) hp;unfold bpX bpD;rw [e,if_neg (by omega),if_neg (by omega)];exact ⟨rfl,rfl⟩
theorem bp_no {ch pr:D} (hp:∀ j,j<pr.len->(bpE ch pr j != 0)=false):bpX ch pr=0/\bpD ch pr=cpTo pr.len (bpG ch pr):=by
 have e:bpI ch pr = -1:=ixF_no hp;unfold bpX bpD;rw [e,if_pos (by decide),if_pos (by decide)];exact ⟨rfl,rfl⟩
noncomputable def bpgS:FSpec:=fun ds _=>match ds with
 | [.d ch,.d ru,.d pr]=>some {val:=.tup [.sc (.rows 78 (bpD ch pr)),.sc (.int .i64 (.sym (bpX ch pr)))],vc:=[BpS ch pr]}
 |_=>none
noncomputable def bpgC:Con:=con [lSy] bpgS
theorem bpg_ok:ConOK Tryz.prog 32 bpgC:=by
 refine fn_ob tt_ok mixed Tryz.func32 rfl (fun _ _=>by kernel_rfl) (A:=fun ds=>⟨fun _=>Cons.of [(60,atwC),(61,bbgC)],fun k=>match k,ds with | 3,[.d ch,.d ru,.d pr]=>some {ι:=Nat,pre:=fun _ i=>i<=pr.len/\∀ j,j<i->(bpE ch pr j != 0)=false,μ:=fun i=>pr.len+1-i,st:=fun s i=>famR s [(12,.one (.sc (.int .i64 (.sym ((i:Nat)))))),(4,.one (.sc (.osl 78 (s.nx-1) (.lit 0) (.sym (i)))))] [1,10,11] [(s.nx-1,.orow 78 (cpTo i (bpG ch pr)))] [1]} |_,_=>none,fun _=>none⟩) (fun _ _=>(cons_cons atw_ok (cons_cons bbg_ok cons_nil))) (by kernel_rfl) ?_
 intro ds fr;unfold bpgS;split
 ·rename_i ch ru pr;refine kmp (q:=withv (fun (i:Nat)=>grB ch (pr.el (i:Int).toNat 0).toS (pr.el (i:Int).toNat 1) (pr.el (i:Int).toNat 2) (0:Int)) fun E279=>withv (fun (i:Nat)=>pr.el (i:Int).toNat 1) fun E280=>BpS ch pr->(∃ (i:Nat),(i<=pr.len/\∀ (j:Nat),j<i->(bpE ch pr j != (0:Int))=false)/\(0:Int)=(i:Int)/\i=(0:Nat)/\pr.rows=pr.rows/\(pr.len:Int)=(pr.len:Int)/\List.map (bpG ch pr) (List.range i)=[]/\ch.rows=ch.rows/\ru.rows=ru.rows/\pr.rows=pr.rows)/\∀ (i:Nat),(i<=pr.len/\∀ (j:Nat),j<i->(bpE ch pr j != (0:Int))=false)->(decide ((i:Int)<(pr.len:Int))=true->((0:Int)<=(i:Int)/\(i:Int)<(pr.len:Int))/\(decide ((↑(E280 i).len:Int)>(6:Int))=true->(bpD ch pr).rows=[]/\(10:Int)=bpX ch pr)/\(decide ((↑(E280 i).len:Int)>(6:Int))=false->(E280 i).len<=10000000000000/\(twK (E280 i)=true->(bpD ch pr).rows=[]/\(7:Int)=bpX ch pr)/\(twK (E280 i)=false->bgX ch (E280 i)/\bG (pr.el (i:Int).toNat 2)/\(((E279 i).fst != (0:Int))=true->(bpD ch pr).rows=[]/\(E279 i).fst=bpX ch pr)/\(((E279 i).fst != (0:Int))=false->i=(cpTo i (bpG ch pr)).len/\(i+((D.l [[D.i (↑(E280 i).len:Int),(E279 i).snd]]).sub (0:Nat) 1).len)*(32:Nat)<=(140737488355328:Nat)/\(0:Nat)+(1:Nat)<=(D.l [[D.i (↑(E280 i).len:Int),(E279 i).snd]]).len/\∃ (j:Nat),(j<=pr.len/\∀ (j_1:Nat),j_1<j->(bpE ch pr j_1 != (0:Int))=false)/\pr.len+(1:Nat)-j<pr.len+(1:Nat)-i/\IntKind.i64.wrap ((i:Int)+(1:Int))=(j:Int)/\i+((D.l [[D.i (↑(E280 i).len:Int),(E279 i).snd]]).sub (0:Nat) 1).len=j/\pr.rows=pr.rows/\(pr.len:Int)=(pr.len:Int)/\List.map (bpG ch pr) (List.range i)++List.drop (0:Nat) (List.take 1 [[D.i (↑(E280 i).len:Int),(E279 i).snd]])=List.map (bpG ch pr) (List.range j)/\ch.rows=ch.rows/\ru.rows=ru.rows/\pr.rows=pr.rows))))/\(decide ((i:Int)<(pr.len:Int))=false->(0:Nat)+i<=(cpTo i (bpG ch pr)).len/\List.drop ((0:Nat)) (List.take ((0:Nat)+i) (List.map (bpG ch pr) (List.range i)))=(bpD ch pr).rows/\(0:Int)=bpX ch pr)) (by kernel_rfl) ?_
  dsimp +instances only [withv]
  intro hb;simp only [Nat.reduceAdd,Nat.zero_add,k_n];have b1:=hb.l;refine ⟨⟨0,⟨Nat.zero_le _,fun j h=>absurd h (Nat.not_lt_zero j)⟩,(by (repeat' (with_reducible apply And.intro))<;>first |exact True.intro |rfl)⟩,fun i hi=>?_⟩;obtain ⟨hi,hp⟩:=hi;refine ⟨fun hc=>?_,fun hc=>?_⟩
  ·have hc:=of_decide_eq_true hc;have hi2:i<pr.len:=by omega
   obtain ⟨v1,v2⟩:=hb.v i hi2;have w1:=v1.v;refine ⟨⟨by omega,by omega⟩,fun h6=>?_,fun h6=>⟨w1,fun ht=>?_,fun ht=>⟨v1,v2,fun he=>?_,fun he=>?_⟩⟩⟩
   ·have h6:=of_decide_eq_true h6;have e:bpE ch pr i=10:=if_pos (by omega);obtain ⟨x,y⟩:=bp_hit hi2 (by rw [e];decide) hp;rw [x,y,e];exact ⟨rfl,rfl⟩
   ·have h6:=of_decide_eq_false h6;have e:bpE ch pr i=7:=by
     unfold bpE;rw [if_neg (by omega),if_pos ht]
    obtain ⟨x,y⟩:=bp_hit hi2 (by rw [e];decide) hp;rw [x,y,e];exact ⟨rfl,rfl⟩
   ·have h6:=of_decide_eq_false h6;have e:bpE ch pr i=(grB ch (pr.el i 0).toS (pr.el i 1) (pr.el i 2) 0).1:=by
     unfold bpE;rw [if_neg (by omega),if_neg (by rw [ht];decide)]
    obtain ⟨x,y⟩:=bp_hit hi2 (by rw [e];exact bne_iff_ne.mp he) hp;rw [x,y,e];exact ⟨rfl,rfl⟩
   ·have h6:=of_decide_eq_false h6;have e:bpE ch pr i=(grB ch (pr.el i 0).toS (pr.el i 1) (pr.el i 2) 0).1:=by
     unfold bpE;rw [if_neg (by omega),if_neg (by rw [ht];decide)]
    refine ⟨(cpTo_len _ _).symm,(show (i+1)*32<=140737488355328 by omega),Nat.le_refl _,i+1,⟨hi2,fun j hj=>?_⟩,by omega,k_nx (by omega),?_⟩
    ·rcases Nat.lt_or_ge j i with h |h
     ·exact hp j h
     ·obtain rfl:j=i:=by omega
      rw [e];exact he
    ·(repeat' (with_reducible apply And.intro))<;>first |exact True.intro |exact (cpTo_succ _ _).symm |rfl
  ·have hc:=of_decide_eq_false hc;have hi3:i=pr.len:=by omega
   subst hi3;obtain ⟨x,y⟩:=bp_no hp;have t:=takeAll pr.len (bpG ch pr);rw [Nat.zero_add] at t;rw [x,y];exact ⟨by rw [cpTo_len];omega,t,rfl⟩
 ·trivial
def noM (t:Nat):D:=.l (List.replicate t [D.i (-1)])
def ruG (r:D) (n t:Nat):D:=.l (r.rows++List.replicate (n-r.len) [noM t])
def ruW (r:D) (f t:Nat) (x:Int):D:=.l (r.rows.set f [D.l ((r.el f 0).rows.set t [D.i x])])
def ruJ (mv tags:D) (j:Nat) (q:Int × D):Int × D:=
 if q.1≠0 then q
 else if ixN tags (mv.el j 1).toS<0 then (8,q.2)
 else if 8<=(mv.el j 0).toI ∨ 8<=(mv.el j 2).toI then (11,q.2)
 else if 0<=(((ruG q.2 (max (mv.el j 0).toI (mv.el j 2).toI+1).toNat tags.len).el (mv.el j 0).toI.toNat 0).el (ixN tags (mv.el j 1).toS).toNat 0).toI then (7,q.2)
 else (0,ruW (ruG q.2 (max (mv.el j 0).toI (mv.el j 2).toI+1).toNat tags.len) (mv.el j 0).toI.toNat (ixN tags (mv.el j 1).toS).toNat (mv.el j 2).toI)
def bruQ (mv tags:D):Int × D:=goN (ruJ mv tags) mv.len (0,.l [[noM tags.len]])
def bruE (mv tags:D):Int:=(bruQ mv tags).1
def bruD (mv tags:D):D:=if bruE mv tags=0 then (bruQ mv tags).2 else .l []
structure RuS (mv tags:D):Prop where
 l:mv.len<=10000000000000
 t:tags.len<=1000000
 f:∀ j,j<mv.len->0<=(mv.el j 0).toI
def bruC:Con:=con [.agg [.c .str,.c (.rows 122)],.sc (.rows 9)] (fun ds _=>match ds with | [.s _,.d mv,.d tags]=>some {val:=.tup [.sc (.rows 40 (bruD mv tags)),.sc (.int .i64 (.sym (bruE mv tags)))],vc:=[RuS mv tags]} |_=>none)
def bcE (ch pr:D) (i:Nat):Int:=if (decide (ixC pr (ch.el i 3).toS<0) ||decide (ixC pr (ch.el i 4).toS<0))=true then 8 else if (ixC pr (ch.el i 3).toS==ixC pr (ch.el i 4).toS)=true then 9 else 0
def bcI (ch pr:D):Int:=ixF (fun i=>bcE ch pr i != 0) ch.len
def seR (q:D) (a:Nat) (x:D):D:=.l (q.rows.set a [q.el a 0,q.el a 1,q.el a 2,q.el a 3,q.el a 4,x])
theorem seR_len (q:D) (a:Nat) (x:D):(seR q a x).len=q.len:=by
 show (q.rows.set a _).length=_;rw [List.length_set];rfl
def bcJ (ch ru:D) (k:Nat) (q:Int × D):Int × D:=
 if q.1=0 then
  (if ixC ch (ru.el k 0).toS<0 then (8,q.2)
  else if decide (((q.2.el (ixC ch (ru.el k 0).toS).toNat 5).len:Int)>0)=true then (7,q.2)
  else if bruE (ru.el k 1) (ch.el (ixC ch (ru.el k 0).toS).toNat 5)=0 then (0,seR q.2 (ixC ch (ru.el k 0).toS).toNat (bruD (ru.el k 1) (ch.el (ixC ch (ru.el k 0).toS).toNat 5)))
  else (bruE (ru.el k 1) (ch.el (ixC ch (ru.el k 0).toS).toNat 5),q.2))
 else q
def bcQ (ch ru pr:D) (k:Nat):Int × D:=goN (bcJ ch ru) k (0,cpTo ch.len (bcR ch pr))
def bcX (ch ru pr:D):Int:=if bcI ch pr<0 then (bcQ ch ru pr ru.len).1 else bcE ch pr (bcI ch pr).toNat
def bcD (ch ru pr:D):D:=if bcI ch pr<0 then (if (bcQ ch ru pr ru.len).1=0 then (bcQ ch ru pr ru.len).2 else .l []) else .l []
theorem bc_hit {ch pr:D} {i:Nat} (ru:D) (hi:i<ch.len) (hq:bcE ch pr i≠0) (hp:∀ j,j<i->(bcE ch pr j != 0)=false):bcX ch ru pr=bcE ch pr i/\bcD ch ru pr = .l []:=by
 have e:bcI ch pr=i:=ixF_hit hi (bne_iff_ne.mpr hq) hp;unfold bcX bcD;rw [e,if_neg (by omega),if_neg (by omega)];exact ⟨rfl,rfl⟩
theorem bc_no {ch pr:D} (ru:D) (hp:∀ j,j<ch.len->(bcE ch pr j != 0)=false):bcX ch ru pr=(bcQ ch ru pr ru.len).1/\bcD ch ru pr=if (bcQ ch ru pr ru.len).1=0 then (bcQ ch ru pr ru.len).2 else .l []:=by
 have e:bcI ch pr = -1:=ixF_no hp;unfold bcX bcD;rw [e,if_pos (by decide),if_pos (by decide)];exact ⟨rfl,rfl⟩
theorem bcJ_st (ch ru:D):∀ j q,q.1≠0->bcJ ch ru j q=q:=fun j q h=>by
 unfold bcJ;rw [if_neg h]
theorem bc_end {ch ru pr:D} {k:Nat} {x:Int} {y:D} (hp:∀ j,j<ch.len->(bcE ch pr j != 0)=false) (hk:k<ru.len) (hx:x≠0) (h:bcQ ch ru pr (k+1)=(x,y)):bcX ch ru pr=x/\bcD ch ru pr = .l []:=by
 have e:bcQ ch ru pr ru.len=(x,y):=by
  have:=goN_st (bcJ_st ch ru) (x:=(0,cpTo ch.len (bcR ch pr))) (i:=k+1) (by rw [show goN (bcJ ch ru) (k+1) (0,cpTo ch.len (bcR ch pr))=(x,y) from h];exact hx) ru.len (by omega);exact this.trans h
 obtain ⟨a,b⟩:=bc_no (pr:=pr) ru hp;rw [a,b,e,if_neg hx];exact ⟨rfl,rfl⟩
structure BcS (ch ru pr:D):Prop where
 l:ch.len<=1000000000000
 p:pr.len<=1000000000000
 u:∀ k,k<ru.len->∀ i,i<ch.len->RuS (ru.el k 1) (ch.el i 5)
noncomputable def bchgS:FSpec:=fun ds _=>match ds with
 | [.d ch,.d ru,.d pr]=>some {val:=.tup [.sc (.rows 69 (bcD ch ru pr)),.sc (.int .i64 (.sym (bcX ch ru pr)))],vc:=[BcS ch ru pr,ru.len<=10000000000000]}
 |_=>none
noncomputable def bchgC:Con:=con [lSy] bchgS
theorem bchg_ok (hru:ConOK Tryz.prog 59 bruC):ConOK Tryz.prog 31 bchgC:=by
 refine fn_ob tt_ok mixed Tryz.func31 rfl (fun _ _=>by kernel_rfl) (A:=fun ds=>⟨fun _=>Cons.of [(57,procAtC),(58,chanAtC),(59,bruC)],fun k=>match k,ds with | 3,[.d ch,.d ru,.d pr]=>some {ι:=Nat,pre:=fun _ i=>i<=ch.len/\∀ j,j<i->(bcE ch pr j != 0)=false,μ:=fun i=>ch.len+1-i,st:=fun s i=>famR s [(17,.one (.sc (.int .i64 (.sym ((i:Nat)))))),(4,.one (.sc (.osl 69 (s.nx-1) (.lit 0) (.sym (i)))))] [1,15,16] [(s.nx-1,.orow 69 (cpTo i (bcR ch pr)))] [1]} | 13,[.d ch,.d ru,.d pr]=>some {ι:=Nat,pre:=fun _ i=>i<=ru.len/\(bcQ ch ru pr i).1=0/\(bcQ ch ru pr i).2.len=ch.len/\∀ j,j<ch.len->(bcE ch pr j != 0)=false,μ:=fun i=>ru.len+1-i,st:=fun s i=>famR s [(57,.one (.sc (.int .i64 (.sym ((i:Nat)))))),(4,.one (.sc (.osl 69 (s.nx-1) (.lit 0) (.sym (ch.len)))))] [1,55,56] [(s.nx-1,.orow 69 ((bcQ ch ru pr i).2))] [1]} |_,_=>none,fun _=>none⟩) (fun _ _=>(cons_cons procAt_ok (cons_cons chanAt_ok (cons_cons hru cons_nil)))) (by kernel_rfl) ?_
 intro ds fr;unfold bchgS;split
 ·rename_i ch ru pr
  refine kmp (q:=withv (fun (i:Nat)=>D.l [[D.i (ch.el (i:Int).toNat 1).toI,D.i (ch.el (i:Int).toNat 2).toI,D.i (ixC pr (ch.el (i:Int).toNat 3).toS),D.i (ixC pr (ch.el (i:Int).toNat 4).toS),D.i (↑(ch.el (i:Int).toNat 5).len:Int),D.l []]]) fun E281=>withv (fun (i:Nat)=>ru.el (i:Int).toNat 0) fun E282=>withv (fun (i:Nat)=>ch.el (i:Int).toNat 4) fun E283=>withv (fun (i:Nat)=>ch.el (i:Int).toNat 3) fun E284=>withv (fun (i:Nat)=>ch.el (ixC ch (E282 i).toS).toNat ((0:Nat)+(5:Nat))) fun E285=>withv (fun (i:Nat)=>ru.el (i:Int).toNat 1) fun E286=>BcS ch ru pr->ru.len<=10000000000000->(∃ (i:Nat),(i<=ch.len/\∀ (j:Nat),j<i->(bcE ch pr j != (0:Int))=false)/\(0:Int)=(i:Int)/\i=(0:Nat)/\ch.rows=ch.rows/\(ch.len:Int)=(ch.len:Int)/\List.map (bcR ch pr) (List.range i)=[]/\ch.rows=ch.rows/\ru.rows=ru.rows/\pr.rows=pr.rows)/\∀ (i:Nat),(i<=ch.len/\∀ (j:Nat),j<i->(bcE ch pr j != (0:Int))=false)->(decide ((i:Int)<(ch.len:Int))=true->((0:Int)<=(i:Int)/\(i:Int)<(ch.len:Int))/\pr.len<=10000000000000/\pr.len<=10000000000000/\((decide (ixC pr (E284 i).toS<(0:Int)) ||decide (ixC pr (E283 i).toS<(0:Int)))=true->(bcD ch ru pr).rows=[]/\(8:Int)=bcX ch ru pr)/\((decide (ixC pr (E284 i).toS<(0:Int)) ||decide (ixC pr (E283 i).toS<(0:Int)))=false->((ixC pr (E284 i).toS==ixC pr (E283 i).toS)=true->(bcD ch ru pr).rows=[]/\(9:Int)=bcX ch ru pr)/\((ixC pr (E284 i).toS==ixC pr (E283 i).toS)=false->i=(cpTo i (bcR ch pr)).len/\(i+((E281 i).sub (0:Nat) 1).len)*(64:Nat)<=(140737488355328:Nat)/\(0:Nat)+(1:Nat)<=(E281 i).len/\∃ (j:Nat),(j<=ch.len/\∀ (j_1:Nat),j_1<j->(bcE ch pr j_1 != (0:Int))=false)/\ch.len+(1:Nat)-j<ch.len+(1:Nat)-i/\IntKind.i64.wrap ((i:Int)+(1:Int))=(j:Int)/\i+((E281 i).sub (0:Nat) 1).len=j/\ch.rows=ch.rows/\(ch.len:Int)=(ch.len:Int)/\List.map (bcR ch pr) (List.range i)++List.drop (0:Nat) (List.take 1 [[D.i (ch.el (i:Int).toNat 1).toI,D.i (ch.el (i:Int).toNat 2).toI,D.i (ixC pr (E284 i).toS),D.i (ixC pr (E283 i).toS),D.i (↑(ch.el (i:Int).toNat 5).len:Int),D.l []]])=List.map (bcR ch pr) (List.range j)/\ch.rows=ch.rows/\ru.rows=ru.rows/\pr.rows=pr.rows)))/\(decide ((i:Int)<(ch.len:Int))=false->(∃ (i_1:Nat),(i_1<=ru.len/\(bcQ ch ru pr i_1).fst=(0:Int)/\(bcQ ch ru pr i_1).snd.len=ch.len/\∀ (j:Nat),j<ch.len->(bcE ch pr j != (0:Int))=false)/\(0:Int)=(i_1:Int)/\i=ch.len/\ru.rows=ru.rows/\(ru.len:Int)=(ru.len:Int)/\List.map (bcR ch pr) (List.range i)=(bcQ ch ru pr i_1).snd.rows/\ch.rows=ch.rows/\ru.rows=ru.rows/\pr.rows=pr.rows)/\∀ (i:Nat),(i<=ru.len/\(bcQ ch ru pr i).fst=(0:Int)/\(bcQ ch ru pr i).snd.len=ch.len/\∀ (j:Nat),j<ch.len->(bcE ch pr j != (0:Int))=false)->(decide ((i:Int)<(ru.len:Int))=true->((0:Int)<=(i:Int)/\(i:Int)<(ru.len:Int))/\ch.len<=10000000000000/\(decide (ixC ch (E282 i).toS<(0:Int))=true->(bcD ch ru pr).rows=[]/\(8:Int)=bcX ch ru pr)/\(decide (ixC ch (E282 i).toS<(0:Int))=false->((0:Int)<=ixC ch (E282 i).toS/\ixC ch (E282 i).toS<(ch.len:Int))/\(ixC ch (E282 i).toS).toNat<(bcQ ch ru pr i).snd.len/\(decide ((↑((bcQ ch ru pr i).snd.el (ixC ch (E282 i).toS).toNat ((0:Nat)+(5:Nat))).len:Int)>(0:Int))=true->(bcD ch ru pr).rows=[]/\(7:Int)=bcX ch ru pr)/\(decide ((↑((bcQ ch ru pr i).snd.el (ixC ch (E282 i).toS).toNat ((0:Nat)+(5:Nat))).len:Int)>(0:Int))=false->((0:Int)<=ixC ch (E282 i).toS/\ixC ch (E282 i).toS<(ch.len:Int))/\RuS (E286 i) (E285 i)/\((bruE (E286 i) (E285 i) != (0:Int))=true->(bcD ch ru pr).rows=[]/\bruE (E286 i) (E285 i)=bcX ch ru pr)/\((bruE (E286 i) (E285 i) != (0:Int))=false->((0:Int)<=ixC ch (E282 i).toS/\ixC ch (E282 i).toS<(ch.len:Int))/\(ixC ch (E282 i).toS).toNat<(bcQ ch ru pr i).snd.len/\∃ (j:Nat),(j<=ru.len/\(bcQ ch ru pr j).fst=(0:Int)/\(bcQ ch ru pr j).snd.len=ch.len/\∀ (j:Nat),j<ch.len->(bcE ch pr j != (0:Int))=false)/\ru.len+(1:Nat)-j<ru.len+(1:Nat)-i/\IntKind.i64.wrap ((i:Int)+(1:Int))=(j:Int)/\ch.len=ch.len/\ru.rows=ru.rows/\(ru.len:Int)=(ru.len:Int)/\(bcQ ch ru pr i).snd.rows.set (ixC ch (E282 i).toS).toNat (List.map (fun (q:Nat)=>if (((0:Nat)+(5:Nat)).ble q&&q.blt ((0:Nat)+(5:Nat)+[bruD (E286 i) (E285 i)].length))=true then [bruD (E286 i) (E285 i)].getD (q-((0:Nat)+(5:Nat))) (D.i 0) else (bcQ ch ru pr i).snd.el (ixC ch (E282 i).toS).toNat q) (List.range [K.int IntKind.i64,K.int IntKind.i64,K.int IntKind.i64,K.int IntKind.i64,K.int IntKind.i64,K.slice (47:TypeId)].length))=(bcQ ch ru pr j).snd.rows/\ch.rows=ch.rows/\ru.rows=ru.rows/\pr.rows=pr.rows))))/\(decide ((i:Int)<(ru.len:Int))=false->(0:Nat)+ch.len<=(bcQ ch ru pr i).snd.len/\List.drop ((0:Nat)) (List.take ((0:Nat)+ch.len) (bcQ ch ru pr i).snd.rows)=(bcD ch ru pr).rows/\(0:Int)=bcX ch ru pr))) (by kernel_rfl) ?_
  dsimp +instances only [withv]
  intro hb hr;simp only [Nat.reduceAdd,Nat.zero_add,k_n];have b1:=hb.l;have b2:=hb.p;refine ⟨⟨0,⟨Nat.zero_le _,fun j h=>absurd h (Nat.not_lt_zero j)⟩,(by (repeat' (with_reducible apply And.intro))<;>first |exact True.intro |rfl)⟩,fun i hi=>?_⟩;obtain ⟨hi,hp⟩:=hi;refine ⟨fun hc=>?_,fun hc=>?_⟩
  ·have hc:=of_decide_eq_true hc;have hi2:i<ch.len:=by omega
   refine ⟨⟨by omega,by omega⟩,by omega,by omega,fun h=>?_,fun h8=>⟨fun h=>?_,fun h9=>⟨(cpTo_len _ _).symm,(show (i+1)*64<=140737488355328 by omega),Nat.le_refl _,i+1,⟨hi2,fun j hj=>?_⟩,by omega,k_nx (by omega),?_⟩⟩⟩
   ·have e:bcE ch pr i=8:=if_pos h;obtain ⟨x,y⟩:=bc_hit ru hi2 (by rw [e];decide) hp;rw [x,y,e];exact ⟨rfl,rfl⟩
   ·have e:bcE ch pr i=9:=by
     unfold bcE;rw [if_neg (by rw [h8];decide),if_pos h]
    obtain ⟨x,y⟩:=bc_hit ru hi2 (by rw [e];decide) hp;rw [x,y,e];exact ⟨rfl,rfl⟩
   ·rcases Nat.lt_or_ge j i with h |h
    ·exact hp j h
    ·obtain rfl:j=i:=by omega
     have e:bcE ch pr j=0:=by
      unfold bcE;rw [if_neg (by rw [h8];decide),if_neg (by rw [h9];decide)]
     rw [e];rfl
   ·(repeat' (with_reducible apply And.intro))<;>first |exact True.intro |exact (cpTo_succ _ _).symm |rfl
  ·have hc:=of_decide_eq_false hc;have hi3:i=ch.len:=by omega
   subst hi3;refine ⟨⟨0,⟨Nat.zero_le _,rfl,cpTo_len _ _,hp⟩,(by (repeat' (with_reducible apply And.intro))<;>first |exact True.intro |rfl)⟩,fun k hk=>?_⟩;obtain ⟨hk,q1,q2,hp⟩:=hk;have hs:bcQ ch ru pr (k+1)=bcJ ch ru k (bcQ ch ru pr k):=goN_s _ _ _;unfold bcJ at hs;rw [if_pos q1] at hs;refine ⟨fun hc=>?_,fun hc=>?_⟩
   ·have hc:=of_decide_eq_true hc;have hk2:k<ru.len:=by omega
    refine ⟨⟨by omega,by omega⟩,by omega,fun h=>?_,fun h8=>?_⟩
    ·rw [if_pos (of_decide_eq_true h)] at hs;obtain ⟨x,y⟩:=bc_end hp hk2 (by decide) hs;rw [x,y];exact ⟨rfl,rfl⟩
    ·have h8:=of_decide_eq_false h8;rw [if_neg h8] at hs;have hx:ixC ch (ru.el k 0).toS<ch.len:=by
      unfold ixC at h8 ⊢
      rcases ixF_or (fun j=>eqS (ch.el j 0).toS (ru.el k 0).toS) ch.len with ⟨i,h1,_,_,h2⟩ |⟨_,h2⟩
      ·rw [h2];omega
      ·rw [h2] at h8;omega
     have r1:0<=ixC ch (ru.el k 0).toS/\ixC ch (ru.el k 0).toS<ch.len:=⟨by omega,hx⟩;have r2:(ixC ch (ru.el k 0).toS).toNat<(bcQ ch ru pr k).2.len:=by omega
     refine ⟨r1,r2,fun h=>?_,fun h7=>⟨r1,hb.u k hk2 _ (by omega),fun h=>?_,fun h0=>⟨r1,r2,k+1,?_,by omega,k_nx (by omega),?_⟩⟩⟩
     ·rw [if_pos h] at hs;obtain ⟨x,y⟩:=bc_end hp hk2 (by decide) hs;rw [x,y];exact ⟨rfl,rfl⟩
     ·rw [if_neg (by rw [h7];decide),if_neg (bne_iff_ne.mp h)] at hs;obtain ⟨x,y⟩:=bc_end hp hk2 (bne_iff_ne.mp h) hs;rw [x,y];exact ⟨rfl,rfl⟩
     ·rw [if_neg (by rw [h7];decide),if_pos (by simpa using h0)] at hs;rw [hs];exact ⟨hk2,rfl,(seR_len _ _ _).trans q2,hp⟩
     ·rw [if_neg (by rw [h7];decide),if_pos (by simpa using h0)] at hs;rw [hs]
      (repeat' (with_reducible apply And.intro))<;>first |exact True.intro |rfl
   ·have hc:=of_decide_eq_false hc;have hk3:k=ru.len:=by omega
    subst hk3;obtain ⟨x,y⟩:=bc_no (pr:=pr) ru hp;rw [x,y,if_pos q1,q1];have t:=tl_r (bcQ ch ru pr ru.len).2;rw [q2] at t;exact ⟨by omega,t,rfl⟩
 ·trivial
def ckE (ch ru pr:D):Int:=if wdE ch ru pr=5 then 5 else if dcE ch pr≠0 then dcE ch pr else if bcX ch ru pr≠0 then bcX ch ru pr else bpX ch pr
def ckC (ch ru pr:D):D:=if ckE ch ru pr=0 then bcD ch ru pr else .l []
def ckP (ch ru pr:D):D:=if ckE ch ru pr=0 then bpD ch pr else .l []
structure CkS (ch ru pr:D):Prop where
 w1:SyOK ch ru pr
 w2:syB ch ru pr=true->syN pr=true->SyF ch ru pr
 dt:∀ i,i<ch.len->(ch.el i 5).len<=10000000000000
 r:ru.len<=10000000000000
 c:wdE ch ru pr≠5->dcE ch pr=0->BcS ch ru pr
 p:dcE ch pr=0->BpS ch pr
theorem ck_bad {ch ru pr:D} {x:Int} (h:ckE ch ru pr=x) (hx:x≠0):ckC ch ru pr = .l []/\ckP ch ru pr = .l []:=by
 unfold ckC ckP;rw [h,if_neg hx,if_neg hx];exact ⟨rfl,rfl⟩
noncomputable def kchgS:FSpec:=fun ds _=>match ds with
 | [.d ch,.d ru,.d pr]=>some {val:=.tup [.agg [.c (.rows 69 (ckC ch ru pr)),.c (.rows 78 (ckP ch ru pr))],.sc (.int .i64 (.sym (ckE ch ru pr)))],vc:=[CkS ch ru pr]}
 |_=>none
noncomputable def kchgC:Con:=con [lSy] kchgS
theorem kchg_ok (hru:ConOK Tryz.prog 59 bruC):ConOK Tryz.prog 12 kchgC:=by
 refine fn_ob tt_ok mixed Tryz.func12 rfl (fun _ _=>by kernel_rfl) (A:=fun ds=>⟨fun _=>Cons.of [(29,wrdC),(30,dclC),(31,bchgC),(32,bpgC)],fun _=>none,fun _=>none⟩) (fun _ _=>(cons_cons wrd_ok (cons_cons dcl_ok (cons_cons (bchg_ok hru) (cons_cons bpg_ok cons_nil))))) (by kernel_rfl) ?_
 intro ds fr;unfold kchgS;split
 ·rename_i ch ru pr;refine kmp (q:=CkS ch ru pr->SyOK ch ru pr/\(syB ch ru pr=true->syN pr=true->SyF ch ru pr)/\((wdE ch ru pr==(5:Int))=true->(ckC ch ru pr).rows=[]/\(ckP ch ru pr).rows=[]/\wdE ch ru pr=ckE ch ru pr)/\((wdE ch ru pr==(5:Int))=false->(∀ (i:Nat),i<ch.len->(ch.el i 5).len<=10000000000000)/\((dcE ch pr != (0:Int))=true->(ckC ch ru pr).rows=[]/\(ckP ch ru pr).rows=[]/\dcE ch pr=ckE ch ru pr)/\((dcE ch pr != (0:Int))=false->BcS ch ru pr/\ru.len<=10000000000000/\((bcX ch ru pr != (0:Int))=true->(ckC ch ru pr).rows=[]/\(ckP ch ru pr).rows=[]/\bcX ch ru pr=ckE ch ru pr)/\((bcX ch ru pr != (0:Int))=false->BpS ch pr/\((bpX ch pr != (0:Int))=true->(ckC ch ru pr).rows=[]/\(ckP ch ru pr).rows=[]/\bpX ch pr=ckE ch ru pr)/\((bpX ch pr != (0:Int))=false->(bcD ch ru pr).rows=(ckC ch ru pr).rows/\(bpD ch pr).rows=(ckP ch ru pr).rows/\(0:Int)=ckE ch ru pr))))) (by kernel_rfl) ?_
  intro h;refine ⟨h.w1,h.w2,fun q=>?_,fun q5=>⟨h.dt,fun q=>?_,fun qd=>⟨h.c (ne_of_beq_false q5) (by simpa using qd),h.r,fun q=>?_,fun qc=>⟨h.p (by simpa using qd),fun q=>?_,fun qp=>?_⟩⟩⟩⟩
  ·have q:=eq_of_beq q;have e:ckE ch ru pr=5:=if_pos q;obtain ⟨x,y⟩:=ck_bad e (by decide);rw [x,y,e,q];exact ⟨rfl,rfl,rfl⟩
  ·have q:=bne_iff_ne.mp q;have e:ckE ch ru pr=dcE ch pr:=by
    unfold ckE;rw [if_neg (ne_of_beq_false q5),if_pos q]
   obtain ⟨x,y⟩:=ck_bad e q;rw [x,y,e];exact ⟨rfl,rfl,rfl⟩
  ·have q:=bne_iff_ne.mp q;have e:ckE ch ru pr=bcX ch ru pr:=by
    unfold ckE;rw [if_neg (ne_of_beq_false q5),if_neg (by simpa using qd),if_pos q]
   obtain ⟨x,y⟩:=ck_bad e q;rw [x,y,e];exact ⟨rfl,rfl,rfl⟩
  ·have q:=bne_iff_ne.mp q;have e:ckE ch ru pr=bpX ch pr:=by
    unfold ckE;rw [if_neg (ne_of_beq_false q5),if_neg (by simpa using qd),if_neg (by simpa using qc)]
   obtain ⟨x,y⟩:=ck_bad e q;rw [x,y,e];exact ⟨rfl,rfl,rfl⟩
  ·have qp:bpX ch pr=0:=by simpa using qp
   have e:ckE ch ru pr=0:=by
    unfold ckE;rw [if_neg (ne_of_beq_false q5),if_neg (by simpa using qd),if_neg (by simpa using qc)];exact qp
   unfold ckC ckP;rw [e,if_pos rfl,if_pos rfl];exact ⟨rfl,rfl,rfl⟩
 ·trivial
end Go.Proofs.YtplejbgafjpomaaGreatDoor.Sx.Z
namespace Go.Proofs.YtplejbgafjpomaaGreatDoor.Sx
open Go.RowKit Go.WideShapes
inductive DOkB (P:Program):K->D->Prop
 |int (k:IntKind) (d:D):DOkB P (.int k) d
 |bool (d:D):DOkB P .bool d
 |str (d:D):DOkB P .str d
 |slice (e:TypeId) (d:D):d.len*P.bytesOf e<=reachBytes->(∀ i j k,i<d.len->(eks e)[j]? = some k->DOkB P k (d.el i j))->DOkB P (.slice e) d
def CellsInB (P:Program) (fz:Fz) (ks:List K) (cs:List Value):Prop:=cs.length=ks.length/\∀ (j:Nat) k,ks[j]? = some k->∃ u d,cs[j]? = some u/\TRel fz k d u/\DOkB P k d
theorem cellsInB_one {P:Program} {fz:Fz} {k:K} {v:Value} {d:D} (h:TRel fz k d v) (hd:DOkB P k d):CellsInB P fz [k] [v]:=⟨rfl,fun j k' hk=>by
 cases j with
 |zero=>simp only [List.getElem?_cons_zero,Option.some.injEq] at hk;subst hk;exact ⟨v,d,rfl,h,hd⟩
 |succ j=>simp at hk⟩
section
variable {P:Program} {tt:TT} {H:Type} {enc:TypeId × Value->H} {w:World} {base:Nat} {spare:Nat->Bool} {held:Bool}
theorem zero_b {b:Nat}:(D.l []).len*b<=reachBytes:=by show 0*b<=_;rw [Nat.zero_mul];exact Nat.zero_le _
theorem weightsAll_mem {e:TypeId} {l:List (DataW H)} {d:DataW H} {y:Nat} (hd:d∈l) (hy:y∈DataW.weights P e d):y∈DataW.weightsAll P e l:=by
 induction l with
 |nil=>cases hd
 |cons a r ih=>
  rw [DataW.weightsAll]
  rcases List.mem_cons.1 hd with rfl |hd
  ·exact List.mem_append_left _ hy
  ·exact List.mem_append_right _ (ih hd)
theorem weightsEach_mem:∀ {ts:List TypeId} {l:List (DataW H)} {i:Nat} {t:TypeId} {d:DataW H} {y:Nat},ts[i]? = some t->l[i]? = some d->y∈DataW.weights P t d->y∈DataW.weightsEach P ts l
 | [],l,i,t,d,y,ht,_,_=>by cases ht
 |_::_,[],i,t,d,y,_,hl,_=>by cases hl
 |t0::ts,d0::l,0,t,d,y,ht,hl,hy=>by
  cases ht;cases hl
  rw [DataW.weightsEach];exact List.mem_append_left _ hy
 |t0::ts,d0::l,i+1,t,d,y,ht,hl,hy=>by
  rw [DataW.weightsEach];exact List.mem_append_right _ (weightsEach_mem (i:=i) ht hl hy)
theorem kF_inB {n:Nat} {f:Nat} (ih:∀ (t:TypeId) (ks:List K) (cs:List Value) x,kT tt f t=some ks->DataW.trod enc P w base spare held n t cs=some x->(∀ y∈DataW.weights P t x.1,y<=reachBytes)->CellsInB P (cellsAt w) ks cs) {cs:List Value} :
 ∀ (fs:List (TypeId × Nat)) (q:Nat) (ks:List K),kF (kT tt f) fs q=some ks->(∀ p∈fs,∃ x,DataW.trod enc P w base spare held n p.1 ((cs.drop p.2).take (P.cellsOf p.1))=some x/\∀ y∈DataW.weights P p.1 x.1,y<=reachBytes) ->
   ∀ (j:Nat) k,ks[j]? = some k->∃ u d,cs[q+j]? = some u/\TRel (cellsAt w) k d u/\DOkB P k d
 | [],q,ks,h,_,j,k,hk=>by
   simp only [kF,Option.some.injEq] at h;subst h;simp at hk
 |(T,o)::r,q,ks,h,hf,j,k,hk=>by
  simp only [kF] at h
  split at h
  ·rename_i ho;obtain rfl:=Nat.eq_of_beq_eq_true ho
   split at h
   ·rename_i a ha
    split at h
    ·rename_i b hb;obtain rfl:=by simpa using h
     obtain ⟨x,hx,hw⟩:=hf (T,o) (List.mem_cons_self ..);obtain ⟨h1,h2⟩:=ih T a _ x ha hx hw
     by_cases hj:j<a.length
     ·rw [List.getElem?_append_left hj] at hk;obtain ⟨u,d,hu,hr,hd⟩:=h2 j k hk;refine ⟨u,d,?_,hr,hd⟩;have hlt:=lt_of_get hu;rw [List.length_take] at hlt;rw [List.getElem?_take_of_lt (by omega),List.getElem?_drop] at hu;exact hu
     ·rw [List.getElem?_append_right (by omega)] at hk;obtain ⟨u,d,hu,hr,hd⟩:=kF_inB ih r (o+a.length) b hb (fun p hp=>hf p (List.mem_cons_of_mem _ hp)) (j-a.length) k hk;exact ⟨u,d,by rw [<- hu];congr 1;omega,hr,hd⟩
    ·cases h
   ·cases h
  ·cases h
theorem in_cellsB (htt:TTOK P tt) (hka:kAll tt=true):∀ (n f:Nat) (t:TypeId) (ks:List K) (cs:List Value) x,kT tt f t=some ks->DataW.trod enc P w base spare held n t cs=some x->(∀ y∈DataW.weights P t x.1,y<=reachBytes)->CellsInB P (cellsAt w) ks cs
 | 0,f,t,ks,cs,x,_,h,_=>by simp [DataW.trod] at h
 |n+1,0,t,ks,cs,x,hk,h,_=>by simp [kT] at hk
 |n+1,f+1,t,ks,cs,x,hk,h,hz=>by
  unfold kT at hk
  split at hk
  ·rename_i hu;obtain ⟨d,hd,hq⟩:=tt_u htt hu;obtain rfl:d = .bool:=by cases d<;>simp [uOf] at hq<;>rfl
   obtain ⟨b,rfl,_⟩:=DataW.trod_bool hd h;obtain rfl:=by simpa using hk
   exact cellsInB_one (.bool (.b b)) (.bool _)
  ·rename_i k hu;obtain ⟨d,hd,hq⟩:=tt_u htt hu;obtain rfl:d = .int k:=by cases d<;>simp [uOf] at hq<;>rw [hq]
   obtain ⟨b,rfl,_,hw⟩:=DataW.trod_int hd h;obtain rfl:=by simpa using hk
   exact cellsInB_one (.int k (.i b)) (.int _ _)
  ·rename_i hu;obtain ⟨d,hd,hq⟩:=tt_u htt hu;obtain rfl:d = .string:=by cases d<;>simp [uOf] at hq<;>rfl
   obtain ⟨b,rfl,_,hw⟩:=DataW.trod_string hd h;obtain rfl:=by simpa using hk
   exact cellsInB_one (.str (.s b)) (.str _)
  ·rename_i e hu;obtain ⟨d,hd,hq⟩:=tt_u htt hu;obtain rfl:d = .slice e:=by cases d<;>simp [uOf] at hq<;>rw [hq]
   split at hk
   ·rename_i kse hkse;obtain rfl:=by simpa using hk
    obtain ⟨hek,hpos,q,z,hq1,hq2,_⟩:=tt_ks htt hkse;have hce:P.cellsOf e=(eks e).length:=by simp [Program.cellsOf,hq1,hq2,hek]
    rcases DataW.trod_slice hd h with ⟨rfl,_⟩ |⟨a,len,cap,elems,rest,m,hm,rfl,rfl,_,hlc,hcm,hel,hget,_⟩
    ·exact cellsInB_one (.nil e (.l []) rfl) (.slice _ _ zero_b (fun i j k hi=>absurd hi (Nat.not_lt_zero i)))
    ·obtain rfl:n=m:=by omega
     have hb:len*P.bytesOf e<=reachBytes:=by
      have:=hz (((elems.map (·.1)).length+(rest.map (·.1)).length)*P.bytesOf e) (by simp only [DataW.weights,hd];exact List.mem_cons_self ..);rw [List.length_map,hel] at this;exact Nat.le_trans (Nat.mul_le_mul_right _ (Nat.le_add_right _ _)) this
     by_cases h0:len=0
     ·subst h0;exact cellsInB_one (.empty e (.l []) a cap rfl) (.slice _ _ zero_b (fun i j k hi=>absurd hi (Nat.not_lt_zero i)))
     ·have hcell:∀ i,i<len->∀ (j:Nat) k,(eks e)[j]? = some k->∃ u d,w.cell? (a.add (i*(eks e).length+j))=some u/\TRel (cellsAt w) k d u/\DOkB P k d:=fun i hi j k hj=>by
       have h1:=hget i hi;rw [List.getElem?_eq_getElem (by omega)] at h1;obtain ⟨cs',g1,g2⟩:=Option.bind_eq_some_iff.1 h1;obtain ⟨g3,g4⟩:=in_cellsB htt hka n 9 e kse cs' _ (kAll_ks hka hkse) g2 (fun y hy=>hz y (by simp only [DataW.weights,hd];exact List.mem_cons_of_mem _ (List.mem_append_left _ (weightsAll_mem (List.mem_map_of_mem (List.getElem_mem _)) hy))));obtain ⟨u,d,hu,hr⟩:=g4 j k (by rw [<- hek];exact hj);obtain ⟨_,_,hc⟩:=World.cells?_some g1;have:=hc j (by rw [hce];exact lt_of_get hj);rw [hu,hce,addr_add2] at this;exact ⟨u,d,this,hr⟩
      have hsp:a.spot=none:=by
       obtain ⟨k0,hk0⟩:∃ k0,(eks e)[0]? = some k0:=⟨_,List.getElem?_eq_getElem (by rw [hek];exact hpos)⟩;obtain ⟨u,d,hu,_⟩:=hcell 0 (by omega) 0 k0 hk0;have:=(cellsAt_cell hu).1
       simpa [Addr.add] using this
      obtain ⟨ab,ao,asx⟩:=a;obtain rfl:asx=none:=hsp;have each:∀ p:Nat × Nat,∃ q:Value × D,p.1<len->∀ k,(eks e)[p.2]? = some k->w.cell? ((⟨ab,ao,none⟩:Addr).add (p.1*(eks e).length+p.2))=some q.1/\TRel (cellsAt w) k q.2 q.1/\DOkB P k q.2:=fun p=>by
       by_cases hp:p.1<len
       ·cases hk:(eks e)[p.2]? with
        |none=>exact ⟨(undef,.i 0),fun _ k hk'=>by cases hk'⟩
        |some k=>
         obtain ⟨u,d,hh⟩:=hcell p.1 hp p.2 k hk;exact ⟨(u,d),fun _ k' hk'=>by cases hk';exact hh⟩
       ·exact ⟨(undef,.i 0),fun hp'=>absurd hp' hp⟩
      obtain ⟨F,hF⟩:=Classical.skolem.1 each;have hdl:(D.l ((List.range len).map fun i=>(List.range (eks e).length).map fun j=>(F (i,j)).2)).len=len:=by
       show ((List.range len).map _).length=len
       simp
      have hde:∀ i j,i<len->j<(eks e).length->(D.l ((List.range len).map fun i=>(List.range (eks e).length).map fun j=>(F (i,j)).2)).el i j=(F (i,j)).2:=fun i j hi hj=>by
       show (((List.range len).map fun i=>(List.range (eks e).length).map fun j=>(F (i,j)).2).getD i []).getD j (.i 0)=_;rw [List.getD_eq_getElem?_getD,List.getD_eq_getElem?_getD,List.getElem?_map,List.getElem?_range hi];simp only [Option.map_some,Option.getD_some];rw [List.getElem?_map,List.getElem?_range hj];rfl
      generalize hdd:D.l ((List.range len).map fun i=>(List.range (eks e).length).map fun j=>(F (i,j)).2)=dd at hdl hde;refine cellsInB_one (d:=dd) ?_ (.slice _ _ (by rw [hdl];exact hb) fun i j k hi hk=>?_)
      ·rw [<- hdl];refine .slice e dd ab ao cap (fun i j=>(F (i,j)).1) (by omega) (fun i j hi hj=>?_) (fun i j k hi hk=>?_)
       ·obtain ⟨g1,_⟩:=hF (i,j) (by rw [<- hdl];exact hi) _ (List.getElem?_eq_getElem hj);have:=(cellsAt_cell g1).2;rw [Sx.addr_add] at this;rw [Nat.add_assoc];exact this
       ·rw [hde i j (by rw [<- hdl];exact hi) (lt_of_get hk)];exact (hF (i,j) (by rw [<- hdl];exact hi) k hk).2.1
      ·rw [hde i j (by rw [<- hdl];exact hi) (lt_of_get hk)];exact (hF (i,j) (by rw [<- hdl];exact hi) k hk).2.2
   ·cases hk
  ·rename_i m e hu;obtain ⟨d,hd,hq⟩:=tt_u htt hu;obtain rfl:d = .array m e:=by cases d<;>simp [uOf] at hq<;>rw [hq.1,hq.2]
   split at hk
   ·rename_i kse hkse
    split at hk
    ·rename_i kse' hse;obtain ⟨_,hsze⟩:=szOK_some hse;obtain ⟨rfl,hsz⟩:=szOK_some hk;obtain ⟨xs,m',hm,rfl,hl,hxl,hel⟩:=DataW.trod_array hd h;obtain rfl:n=m':=by omega
     have hl':cs.length=(List.replicate m kse).flatten.length:=by rw [hl,szT_cells htt hsz]
     have hce:P.cellsOf e=kse.length:=szT_cells htt hsze;refine ⟨hl',fun j k hj=>?_⟩;rw [flat_get] at hj
     split at hj
     ·rename_i hjl;have hpos:0<kse.length:=by
       rcases Nat.eq_zero_or_pos kse.length with h0 |h0
       ·rw [h0] at hjl;simp at hjl
       ·exact h0
      have hi:j/kse.length<m:=by rw [Nat.div_lt_iff_lt_mul hpos];exact hjl
      have h1:=hel (j/kse.length) hi;rw [List.getElem?_eq_getElem (by rw [hxl];exact hi)] at h1;obtain ⟨g1,g2⟩:=in_cellsB htt hka n f e kse _ _ hkse h1 (fun y hy=>hz y (by simp only [DataW.weights,hd];exact weightsAll_mem (List.mem_map_of_mem (List.getElem_mem _)) hy));obtain ⟨u,d,hu',hr,hd'⟩:=g2 _ k hj;refine ⟨u,d,?_,hr,hd'⟩;rw [hce,List.getElem?_take_of_lt (Nat.mod_lt _ hpos),List.getElem?_drop,Nat.div_add_mod'] at hu';exact hu'
     ·cases hj
    ·cases hk
   ·cases hk
  ·rename_i fs hu;obtain ⟨d,hd,hq⟩:=tt_u htt hu
   split at hk
   ·rename_i kse hkse;obtain ⟨rfl,hsz⟩:=szOK_some hk;obtain ⟨fa,rfl⟩:∃ fa,d = .struct fa:=by cases d<;>simp [uOf] at hq<;>exact ⟨_,rfl⟩
    obtain ⟨xs,m',hm,rfl,hl,hxl,hel⟩:=DataW.trod_struct hd h;obtain rfl:n=m':=by omega
    refine ⟨by rw [hl,szT_cells htt hsz],fun j k hj=>?_⟩;have:=kF_inB (cs:=cs) (fun t ks cs x=>in_cellsB htt hka n f t ks cs x) fs 0 _ hkse (fun p hp=>?_) j k hj
    ·rw [Nat.zero_add] at this;exact this
    ·simp only [uOf,UD.struct.injEq] at hq;rw [<- hq] at hp;obtain ⟨fl,hfl,rfl⟩:=List.mem_map.1 hp;obtain ⟨i,hi,hg⟩:=List.getElem_of_mem hfl;have h1:=hel i fl (by rw [<- Array.getElem?_toList,List.getElem?_eq_getElem hi,hg]);rw [List.getElem?_eq_getElem (by rw [hxl];simpa using hi)] at h1;exact ⟨_,h1,fun y hy=>hz y (by simp only [DataW.weights,hd];exact weightsEach_mem (i:=i) (by rw [List.getElem?_map,List.getElem?_eq_getElem hi,hg];rfl) (by rw [List.getElem?_map,List.getElem?_eq_getElem (by rw [hxl];simpa using hi)];rfl) hy)⟩
   ·cases hk
  ·cases hk
theorem val_in3 (htt:TTOK P tt) (hka:kAll tt=true) {T:TypeId} {v:Value} {dw:DataW H} {ps:List MemPlace} (h:DataW.Trod enc P w base spare held T v dw ps) (hz:∀ y∈DataW.weights P T dw,y<=reachBytes) {ks:List K} (hk:kT tt 9 T=some ks) {w1:World} {r:Reach} {b0:Nat} (hok:Value.okWide P w1 r b0 T v) :
 ∃ d:D,(∀ (j:Nat) k,ks[j]? = some k->DOkB P k (d.el 0 j))/\∀ sv,inV tt T d=some sv->UR (Map.at0 (cellsAt w)) sv v:=by
 obtain ⟨fuel,hf⟩:=h;obtain ⟨h1,h2⟩:=in_cellsB htt hka fuel 9 T ks _ _ hk hf hz;have each:∀ j:Nat,∃ d:D,∀ k,ks[j]? = some k->∃ u,v.cells.toList[j]? = some u/\TRel (cellsAt w) k d u/\DOkB P k d:=fun j=>by
  cases hj:ks[j]? with
  |none=>exact ⟨.i 0,fun k hk'=>by cases hk'⟩
  |some k=>
   obtain ⟨u,d,g1,g2,g3⟩:=h2 j k hj;exact ⟨d,fun k' hk'=>by cases hk';exact ⟨u,g1,g2,g3⟩⟩
 obtain ⟨F,hF⟩:=Classical.skolem.1 each;have hde:∀ j,j<ks.length->(D.l [(List.range ks.length).map F]).el 0 j=F j:=fun j hj=>by
  show ((List.range ks.length).map F).getD j (.i 0)=F j;rw [List.getD_eq_getElem?_getD,List.getElem?_map,List.getElem?_range hj];rfl
 have hE:∀ (j:Nat) k,ks[j]? = some k->∃ u,v.cells.toList[j]? = some u/\TRel (cellsAt w) k ((D.l [(List.range ks.length).map F]).el 0 j) u:=fun j k hj=>by
  obtain ⟨u,g1,g2,_⟩:=hF j k hj;rw [hde j (lt_of_get hj)];exact ⟨u,g1,g2⟩
 refine ⟨.l [(List.range ks.length).map F],?_,fun sv hs=>?_⟩
 ·intro j k hj;obtain ⟨u,_,_,g3⟩:=hF j k hj;rw [hde j (lt_of_get hj)];exact g3
 ·have hE:∀ (j:Nat) k,ks[j]? = some k->∃ u,v.cells.toList[j]? = some u/\TRel (Map.at0 (cellsAt w)).fz k ((D.l [(List.range ks.length).map F]).el 0 j) u:=hE;unfold inV at hs;rw [hk] at hs
  split at hs
  ·rename_i k hks hsh;obtain rfl:=by simpa using hks
   obtain ⟨dd,hd,hda⟩:=shapeOf_none (tt_shape htt hsh);have hc:=not_agg hd hda hok
   split at hs
   ·rename_i c hcc;obtain rfl:=by simpa using hs
    obtain ⟨u,g1,g2⟩:=hE 0 k rfl;rw [hc] at g1;obtain rfl:v=u:=by simpa using g1
    exact cellSC_spec hcc g2
   ·cases hs
  ·rename_i ks' L hks hsh;obtain rfl:=by simpa using hks
   obtain ⟨dd,i,hd,hda,_,_⟩:=shapeOf_some (tt_shape htt hsh);obtain ⟨cs,rfl⟩:=is_agg hd hda hok
   split at hs
   ·rename_i hsz
    split at hs
    ·rename_i s hss;obtain rfl:=by simpa using hs
     obtain ⟨e1,e2⟩:=elSegs_val hE L 0 s hss;refine ⟨cs,rfl,?_,fun i x u hx hu=>?_⟩
     ·rw [e1,Nat.eq_of_beq_eq_true hsz,<- h1];rfl
     ·obtain ⟨u',g1,g2⟩:=e2 i x hx;rw [Nat.zero_add] at g1;have:u=u':=by
       have h3:cs.toList[i]? = some u':=g1;rw [hu] at h3;exact Option.some.inj h3
      rw [this];exact g2
    ·cases hs
   ·cases hs
  ·cases hs
theorem law_in3 (htt:TTOK P tt) (hka:kAll tt=true) {f:FuncId} {c:Con} (hc:ConOK P f c) {T:TypeId} {Ts:List TypeId} {params:Array TypeId} {args:Array Value} {v0:Value} {vs0:List Value} {d0:DataW H} {ds0:List (DataW H)} {p0 q0:List MemPlace} (hp:params.toList=T::Ts) (ha:args.toList=v0::vs0)
 (h0:DataW.Trod enc P w base spare held T v0 d0 p0) (h1:DataW.TrodAll enc P w base spare held Ts vs0 ds0 q0) (hz:∀ y∈DataW.weights P T d0,y<=reachBytes) {ks:List K} (hk:kT tt 9 T=some ks)
 {w1:World} {r:Reach} {b0:Nat} (hok:∀ (j:Nat) t v,params[j]? = some t->args[j]? = some v->Value.okWide P w1 r b0 t v) (hl:∀ d Ds,(∀ (j:Nat) k,ks[j]? = some k->DOkB P k (d.el 0 j))->DsOk tt Ts Ds->lawOb tt c (T::Ts) (d::Ds)) (ht:TabF (cellsAt w)) :
 Calls P f args w fun e w'=>e = .returned (.bool true)/\Below w.heap.size w w':=by
 have ok:∀ (j:Nat) t v,(T::Ts)[j]? = some t->(v0::vs0)[j]? = some v->Value.okWide P w1 r b0 t v:=fun j t v ht hv=>hok j t v (by rw [<- Array.getElem?_toList,hp];exact ht) (by rw [<- Array.getElem?_toList,ha];exact hv)
 obtain ⟨d,a1,a2⟩:=val_in3 htt hka h0 hz hk (ok 0 T v0 rfl rfl);obtain ⟨D0,b1,b2⟩:=args_in htt hka Ts vs0 ds0 q0 h1 (fun j t v ht hv=>ok (j+1) t v (by simpa using ht) (by simpa using hv));have h3:=hl d D0 a1 b1;have h2:∀ svs,inVs tt (T::Ts) (d::D0)=some svs->ArgsRel (Map.at0 (cellsAt w)) svs args.toList:=fun svs hs=>by
  rw [ha];simp only [inVs] at hs
  split at hs
  ·rename_i x r hx hr;obtain rfl:=by simpa using hs
   exact ⟨a2 _ hx,b2 _ hr⟩
  ·cases hs
 unfold lawOb at h3
 split at h3
 ·rename_i svs hs
  split at h3
  ·rename_i e he
   split at h3
   ·rename_i b hv hst;have:=hc.calls [] 0 svs e he h3.2 _ w _ args.toList (wh_nil w ht) (fun _ _ _=>rfl) (h2 svs hs);rw [Array.toArray_toList] at this;refine this.mono ?_
    rintro en w' ⟨ρ',v,rfl,g1,g2⟩;refine ⟨?_,g2.below.1,g2.below.2,g2.below.3,g2.below.size,fun k hk=>g2.keep k hk fun _ _ h=>by rw [hst] at h;simp [look] at h⟩;rw [hv] at g1;have:v = .bool b.v:=g1;rw [this,h3.1]
   ·exact h3.elim
  ·exact h3.elim
 ·exact h3.elim
end
end Go.Proofs.YtplejbgafjpomaaGreatDoor.Sx
namespace Go.Proofs.YtplejbgafjpomaaGreatDoor.Sx.Z
open Go.RowKit
def muS:FSpec:=fun ds _=>match ds with
 | [.i a,.i b]=>some {val:=.tup [.sc (.int .u64 (.lit 0)),.sc (.int .u64 (.sym (a*b)))],vc:=[0<=a/\a<=4294967295,0<=b/\b<=4294967295]}
 |_=>none
def muC:Con:=con [.sc (.int .u64),.sc (.int .u64)] muS
theorem mu_ok:ConOK Tryz.prog 166 muC:=by
 refine ⟨fun _ _=>by kernel_rfl,fun hp fr args e he hv w0 w ρ vs hw _ ha=>?_,fun _ _ _ _ h=>nomatch (con_jf _ _ _ _ _).symm.trans h⟩;unfold muC con at he
 split at he
 ·rename_i ds ps hds
  split at he
  ·rename_i e1 he1;unfold muS at he1
   split at he1
   ·rename_i a b;obtain rfl:=Option.some.inj he1;obtain rfl:=Option.some.inj he;obtain ⟨hp1,hp2⟩:=all_append.1 hv;obtain ⟨svs,h,ρ1,id,hun,_,_,hrel⟩:=unP_spec hw [.sc (.int .u64),.sc (.int .u64)] args _ ps hds hp1 vs ha (ids:=keepOwn hp (idsX hp args)) (fun i hi ho=>keepOwn_mem.2 ⟨hi,ho⟩) 0;obtain rfl:svs=_:=(congrArg Prod.fst (Option.some.inj hun)).symm
    match vs,hrel with
    | [x,y],⟨hx,hy,_⟩=>
      have hx:x = .int .u64 a:=hx;have hy:y = .int .u64 b:=hy;subst hx hy;obtain ⟨⟨ha1,ha2⟩,⟨hb1,hb2⟩,_⟩:=hp2;have e1:a=(a.toNat:Int):=(Int.toNat_of_nonneg ha1).symm;have e2:b=(b.toNat:Int):=(Int.toNat_of_nonneg hb1).symm;have hm:a.toNat*b.toNat<=4294967295*4294967295:=Nat.mul_le_mul (by omega) (by omega);have hlt:a.toNat*b.toNat<18446744073709551616:=by omega
      have hc:=Tryz.bits_Mul a.toNat b.toNat (by omega) (by omega) w;rw [Nat.div_eq_of_lt hlt,Nat.mod_eq_of_lt hlt,<- e1,<- e2] at hc;refine hc.mono ?_
      rintro en w' ⟨rfl,rfl⟩;refine ⟨ρ,_,rfl,?_,fr_none _ _⟩;refine ⟨_,rfl,rfl,?_,trivial⟩;show Value.int .u64 ((a.toNat*b.toNat:Nat):Int) = .int .u64 (a*b);rw [Int.natCast_mul,<- e1,<- e2]
   ·cases he1
  ·cases he
 ·cases he
theorem wrap_u64' (n:Int):IntKind.u64.wrap n=n%18446744073709551616:=rfl
def rpD (v:D) (k n:Nat):D:=.l (List.replicate k [v]++List.replicate (n-k) [D.i 0])
theorem rpD_len {v:D} {k n:Nat} (h:k<=n):(rpD v k n).len=n:=by
 show (List.replicate k [v]++List.replicate (n-k) [D.i 0]).length=n;rw [List.length_append,List.length_replicate,List.length_replicate];omega
theorem rpD_cpy {v:D} {k n:Nat} (h:k<=n):((rpD v k n).cpy k (min k (n-k)) ((rpD v k n).sub 0 k)).rows=(rpD v (k+min k (n-k)) n).rows:=by
 have h1:((rpD v k n).sub 0 k).rows=List.replicate k [v]:=by
  show ((List.replicate k [v]++List.replicate (n-k) [D.i 0]).take k).drop 0=_;rw [List.drop_zero,List.take_append_of_le_length (by simp),List.take_of_length_le (by simp)]
 show (rpD v k n).rows.take k++(((rpD v k n).sub 0 k).rows.take (min k (n-k)))++(rpD v k n).rows.drop (k+min k (n-k))=_;rw [h1];show (List.replicate k [v]++List.replicate (n-k) [D.i 0]).take k++(List.replicate k [v]).take (min k (n-k))++(List.replicate k [v]++List.replicate (n-k) [D.i 0]).drop (k+min k (n-k))=List.replicate (k+min k (n-k)) [v]++List.replicate (n-(k+min k (n-k))) [D.i 0];rw [List.take_append_of_le_length (by simp),List.take_of_length_le (by simp),List.take_replicate,List.drop_append,List.drop_replicate,List.drop_replicate];simp only [List.length_replicate];rw [show k-(k+min k (n-k))=0 from by omega,show min (min k (n-k)) k=min k (n-k) from by omega,show k+min k (n-k)-k=min k (n-k) from by omega,List.replicate_zero,List.nil_append,show n-k-min k (n-k)=n-(k+min k (n-k)) from by omega,List.replicate_append_replicate]
noncomputable def rptS:List Dat->Option Eff:=fun ds=>match ds with
 | [.d x,.i n]=>some {val:=.one (.sc (.osl 3 0 (.lit 0) (.sym n.toNat))),vc:=[x.rows=[[(D.i (x.el 0 0).toI)]],0<=n/\n<=1000000],nw:=[(0,.orow 3 (rpD (D.i (x.el 0 0).toI) n.toNat n.toNat))]}
 |_=>none
noncomputable def rptC:Con:=conS [.sc (.rows 3),lI] rptS
theorem rpt_ok:ConOK Tryz.prog 139 rptC:=by
 refine fn_obS tt_ok mixed Tryz.func139 rfl (fun _ _=>by kernel_rfl) (A:=fun ds=>⟨fun _=>Cons.of [(166,muC)],fun k=>match k,ds with | 8,[.d x,.i n]=>some {ι:=Nat,pre:=fun _ k=>k<=n.toNat/\(k=0->n.toNat=0),μ:=fun k=>n.toNat+1-k,st:=fun s k=>famR s [(8,.one (.sc (.int .i64 (.sym ((k:Nat)))))),(7,.one (.sc (.osl 3 (s.nx-1) (.lit 0) (.sym (n.toNat)))))] [] [(s.nx-1,.orow 3 (rpD (D.i (x.el 0 0).toI) k n.toNat))] []} |_,_=>none,fun _=>none⟩) (fun _ _=>(cons_cons mu_ok cons_nil)) (by kernel_rfl) ?_
 intro ds;unfold rptS;split
 ·rename_i x n
  refine kmp (q:=x.rows=[[D.i (x.el (0:Nat) 0).toI]]->(0:Int)<=n/\n<=(1000000:Int)->(decide (n<(0:Int))=true->False)/\(decide (n<(0:Int))=false->((0:Int)<=IntKind.u64.wrap (x.len:Int)/\IntKind.u64.wrap (x.len:Int)<=(4294967295:Int))/\((0:Int)<=IntKind.u64.wrap n/\IntKind.u64.wrap n<=(4294967295:Int))/\(decide (IntKind.u64.wrap (x.len:Int)*IntKind.u64.wrap n>(9223372036854775807:Int))=true->False)/\(decide (IntKind.u64.wrap (x.len:Int)*IntKind.u64.wrap n>(9223372036854775807:Int))=false->IntKind.i64.wrap (IntKind.u64.wrap (x.len:Int)*IntKind.u64.wrap n)=IntKind.i64.wrap (IntKind.u64.wrap (x.len:Int)*IntKind.u64.wrap n)/\(0:Int)<=IntKind.i64.wrap (IntKind.u64.wrap (x.len:Int)*IntKind.u64.wrap n)/\(↑(8:Nat):Int)*IntKind.i64.wrap (IntKind.u64.wrap (x.len:Int)*IntKind.u64.wrap n)<=(281474976710656:Int)/\IntKind.i64.wrap (IntKind.u64.wrap (x.len:Int)*IntKind.u64.wrap n)<=(9223372036854775807:Int)/\(0:Nat)+(IntKind.i64.wrap (IntKind.u64.wrap (x.len:Int)*IntKind.u64.wrap n)).toNat<=(D.l (List.replicate (IntKind.i64.wrap (IntKind.u64.wrap (x.len:Int)*IntKind.u64.wrap n)).toNat [D.i 0])).len/\(∃ (i:Nat),(i<=n.toNat/\(i=(0:Nat)->n.toNat=(0:Nat)))/\(↑(x.len.min (IntKind.i64.wrap (IntKind.u64.wrap (x.len:Int)*IntKind.u64.wrap n)).toNat):Int)=(i:Int)/\(IntKind.i64.wrap (IntKind.u64.wrap (x.len:Int)*IntKind.u64.wrap n)).toNat=n.toNat/\List.take ((0:Nat)) (List.replicate (IntKind.i64.wrap (IntKind.u64.wrap (x.len:Int)*IntKind.u64.wrap n)).toNat [D.i 0])++List.take (x.len.min (IntKind.i64.wrap (IntKind.u64.wrap (x.len:Int)*IntKind.u64.wrap n)).toNat) x.rows++List.drop ((0:Nat)+x.len.min (IntKind.i64.wrap (IntKind.u64.wrap (x.len:Int)*IntKind.u64.wrap n)).toNat) (List.replicate (IntKind.i64.wrap (IntKind.u64.wrap (x.len:Int)*IntKind.u64.wrap n)).toNat [D.i 0])=List.replicate i [D.i (x.el (0:Nat) 0).toI]++List.replicate (n.toNat-i) [D.i 0])/\∀ (i:Nat),i<=n.toNat/\(i=(0:Nat)->n.toNat=(0:Nat))->(decide ((i:Int)<(n.toNat:Int))=true->((0:Int)<=(i:Int)/\(i:Int)<=(n.toNat:Int))/\((0:Int)<=(i:Int)/\(i:Int)<=(n.toNat:Int))/\(i:Int).toNat+(n.toNat-(i:Int).toNat)<=(rpD (D.i (x.el (0:Nat) 0).toI) i n.toNat).len/\(0:Nat)+(0:Nat)+(i:Int).toNat<=(rpD (D.i (x.el (0:Nat) 0).toI) i n.toNat).len/\∃ (j:Nat),(j<=n.toNat/\(j=(0:Nat)->n.toNat=(0:Nat)))/\n.toNat+(1:Nat)-j<n.toNat+(1:Nat)-i/\IntKind.i64.wrap ((i:Int)+(↑(((rpD (D.i (x.el (0:Nat) 0).toI) i n.toNat).sub ((0:Nat)+(0:Nat)) ((0:Nat)+(0:Nat)+(i:Int).toNat)).len.min (n.toNat-(i:Int).toNat)):Int))=(j:Int)/\n.toNat=n.toNat/\List.take (i:Int).toNat (List.replicate i [D.i (x.el (0:Nat) 0).toI]++List.replicate (n.toNat-i) [D.i 0])++List.take (((rpD (D.i (x.el (0:Nat) 0).toI) i n.toNat).sub ((0:Nat)+(0:Nat)) ((0:Nat)+(0:Nat)+(i:Int).toNat)).len.min (n.toNat-(i:Int).toNat)) (List.drop ((0:Nat)+(0:Nat)) (List.take ((0:Nat)+(0:Nat)+(i:Int).toNat) (List.replicate i [D.i (x.el (0:Nat) 0).toI]++List.replicate (n.toNat-i) [D.i 0])))++List.drop ((i:Int).toNat+((rpD (D.i (x.el (0:Nat) 0).toI) i n.toNat).sub ((0:Nat)+(0:Nat)) ((0:Nat)+(0:Nat)+(i:Int).toNat)).len.min (n.toNat-(i:Int).toNat)) (List.replicate i [D.i (x.el (0:Nat) 0).toI]++List.replicate (n.toNat-i) [D.i 0])=List.replicate j [D.i (x.el (0:Nat) 0).toI]++List.replicate (n.toNat-j) [D.i 0])/\(decide ((i:Int)<(n.toNat:Int))=false->n.toNat=n.toNat/\List.replicate i [D.i (x.el (0:Nat) 0).toI]++List.replicate (n.toNat-i) [D.i 0]=List.replicate n.toNat [D.i (x.el (0:Nat) 0).toI]++List.replicate (n.toNat-n.toNat) [D.i 0])))) (by kernel_rfl) ?_
  intro hx hn;have hl:x.len=1:=by
   show x.rows.length=1;rw [hx];rfl
  have w1:IntKind.u64.wrap ((x.len:Nat):Int)=1:=by rw [hl];rfl
  have w2:IntKind.u64.wrap n=n:=by rw [wrap_u64'];omega
  have w3:IntKind.i64.wrap (1*n)=n:=by rw [IntKind.wrap_i64];omega
  rw [w1,w2,w3];simp only [hl,Int.toNat_natCast,Nat.zero_add];generalize hN:n.toNat=N;have hNn:n=(N:Int):=by omega
  refine ⟨fun h=>absurd (of_decide_eq_true h) (by omega),fun _=>⟨by omega,⟨hn.1,by omega⟩,fun h=>absurd (of_decide_eq_true h) (by omega),fun _=>⟨trivial,hn.1,by omega,by omega,?_,⟨Nat.min 1 N,⟨Nat.min_le_right _ _,fun h=>?_⟩,rfl,trivial,?_⟩,fun i hi=>⟨fun hc=>?_,fun hc=>?_⟩⟩⟩⟩
  ·show N<=(List.replicate N [D.i 0]).length
   simp
  ·have h:min 1 N=0:=h;omega
  ·rw [hx];show List.take 0 _++List.take (min 1 N) _++List.drop (min 1 N) _=List.replicate (min 1 N) _++List.replicate (N-min 1 N) _
   rcases Nat.eq_zero_or_pos N with h |h
   ·subst h;rfl
   ·rw [show min 1 N=1 from by omega]
    simp
  ·have hc:=of_decide_eq_true hc;have hlen:=rpD_len (v:=D.i (x.el 0 0).toI) hi.1;have hs:((rpD (D.i (x.el 0 0).toI) i N).sub 0 i).len=i:=by rw [D.sub_len _ (by rw [hlen];exact hi.1)];omega
   rw [hs];have hi0:i≠0:=fun h=>by have:=hi.2 h;omega
   have hm:Nat.min i (N-i)=min i (N-i):=rfl;refine ⟨by omega,by omega,by rw [hlen];omega,by rw [hlen];exact hi.1,i+min i (N-i),⟨by omega,by omega⟩,by omega,?_,trivial,?_⟩
   ·rw [hm,IntKind.wrap_i64];omega
   ·exact rpD_cpy hi.1
  ·have hc:=of_decide_eq_false hc;have:i=N:=by omega
   subst this;exact ⟨trivial,rfl⟩
 ·trivial
noncomputable def nmvS:List Dat->Option Eff:=fun ds=>match ds with
 | [.i t]=>some {val:=.one (.sc (.osl 3 0 (.lit 0) (.sym t.toNat))),vc:=[0<=t/\t<=1000000],nw:=[(0,.orow 3 (.l (List.replicate t.toNat [D.i (-1)])))]}
 |_=>none
noncomputable def nmvC:Con:=conS [lI] nmvS
theorem nmv_ok:ConOK Tryz.prog 104 nmvC:=by
 refine fn_obS tt_ok mixed Tryz.func104 rfl (fun _ _=>by kernel_rfl) (A:=fun ds=>⟨fun _=>Cons.of [(139,rptC)],fun _=>none,fun _=>none⟩) (fun _ _=>(cons_cons rpt_ok cons_nil)) (by kernel_rfl) ?_
 intro ds;unfold nmvS;split
 ·rename_i t;refine kmp (q:=(0:Int)<=t/\t<=(1000000:Int)->(0:Nat)+(1:Nat)<=(D.l [[D.i (-1:Int)]]).len/\List.drop (0:Nat) (List.take 1 [[D.i (-1:Int)]])=[[D.i (-1:Int)]]/\((0:Int)<=t/\t<=(1000000:Int))/\t.toNat=t.toNat/\List.replicate t.toNat [D.i (-1:Int)]++List.replicate (t.toNat-t.toNat) [D.i 0]=List.replicate t.toNat [D.i (-1:Int)]) (by kernel_rfl) ?_
  intro ht;refine ⟨Nat.le_refl _,rfl,ht,rfl,?_⟩;rw [Nat.sub_self,List.replicate_zero,List.append_nil]
 ·trivial
end Go.Proofs.YtplejbgafjpomaaGreatDoor.Sx.Z
namespace Go.Proofs.YtplejbgafjpomaaGreatDoor.Sx
open Go.RowKit
def cellI (s:St) (t j:Nat):Int:=match look s.hp (idOf s t) with
 |some (.own _ l)=>(match getL l j with |some (.int _ n,_)=>n.v |_=>0)
 |_=>0
end Go.Proofs.YtplejbgafjpomaaGreatDoor.Sx
namespace Go.Proofs.YtplejbgafjpomaaGreatDoor.Sx.Z
open Go.RowKit
def nrCon:Con:=fun _ _ _=>none
theorem nr_ok:ConOK Tryz.prog 8 nrCon:=⟨fun _ _=>by kernel_rfl,fun _ _ _ _ h=>(by cases h),fun _ _ _ _ h=>(by cases h)⟩
def bruK (mv tags:D) (k:Nat):Int × D:=goN (ruJ mv tags) k (0,.l [[noM tags.len]])
def ruT (r:D) (f g:Int) (t:Nat):D:=ruG r (max f g+1).toNat t
def ruI (r:D) (i t:Nat):D:=.l (r.rows++List.replicate i [noM t])
theorem noM_len (t:Nat):(noM t).len=t:=by
 show (List.replicate t [D.i (-1)]).length=t;rw [List.length_replicate]
theorem ruI_len (r:D) (i t:Nat):(ruI r i t).len=r.len+i:=by
 show (r.rows++List.replicate i [noM t]).length=_;rw [List.length_append,List.length_replicate];rfl
theorem ruI_el (r:D) {i t a:Nat} (ha:a<r.len+i):(ruI r i t).el a 0=if a<r.len then r.el a 0 else noM t:=by
 show ((r.rows++List.replicate i [noM t]).getD a []).getD 0 (.i 0)=_;split
 ·rename_i h;rw [List.getD_eq_getElem?_getD (l:=_++_),List.getElem?_append_left h,<- List.getD_eq_getElem?_getD];rfl
 ·rename_i h;have h':r.rows.length<=a:=Nat.le_of_not_lt h;rw [List.getD_eq_getElem?_getD (l:=_++_),List.getElem?_append_right h',List.getElem?_replicate,if_pos (by have:r.rows.length=r.len:=rfl;omega)];rfl
theorem ruG_I (r:D) (n t:Nat):ruG r n t=ruI r (n-r.len) t:=rfl
theorem ruW_len (r:D) (f t:Nat) (x:Int):(ruW r f t x).len=r.len:=by
 show (r.rows.set f _).length=_;rw [List.length_set];rfl
theorem ruW_el (r:D) {f t:Nat} {x:Int} {a:Nat} (hf:f<r.len):((ruW r f t x).el a 0).len=(r.el a 0).len:=by
 show (((r.rows.set f [D.l ((r.el f 0).rows.set t [D.i x])]).getD a []).getD 0 (.i 0)).len=_;have hf':f<r.rows.length:=hf;rw [List.getD_eq_getElem?_getD (l:=List.set _ _ _),List.getElem?_set]
 by_cases h:f=a
 ·subst h;rw [if_pos rfl,if_pos hf'];show ((r.el f 0).rows.set t [D.i x]).length=_;rw [List.length_set];rfl
 ·rw [if_neg h,<- List.getD_eq_getElem?_getD];rfl
theorem bruK_s (mv tags:D) (k:Nat):bruK mv tags (k+1)=ruJ mv tags k (bruK mv tags k):=goN_s _ _ _
theorem ruJ_st (mv tags:D):∀ j q,q.1≠0->ruJ mv tags j q=q:=fun j q h=>by
 unfold ruJ;rw [if_pos h]
theorem ruJ_8 {mv tags:D} {j:Nat} {q:Int × D} (h0:q.1=0) (h:ixN tags (mv.el j 1).toS<0):ruJ mv tags j q=(8,q.2):=by
 unfold ruJ;rw [if_neg (by rw [h0];simp),if_pos h]
theorem ruJ_11 {mv tags:D} {j:Nat} {q:Int × D} (h0:q.1=0) (h:¬ ixN tags (mv.el j 1).toS<0) (h1:8<=(mv.el j 0).toI ∨ 8<=(mv.el j 2).toI):ruJ mv tags j q=(11,q.2):=by
 unfold ruJ;rw [if_neg (by rw [h0];simp),if_neg h,if_pos h1]
theorem ruJ_7 {mv tags:D} {j:Nat} {q:Int × D} (h0:q.1=0) (h:¬ ixN tags (mv.el j 1).toS<0) (h1:¬ (8<=(mv.el j 0).toI ∨ 8<=(mv.el j 2).toI)) (h2:0<=(((ruT q.2 (mv.el j 0).toI (mv.el j 2).toI tags.len).el (mv.el j 0).toI.toNat 0).el (ixN tags (mv.el j 1).toS).toNat 0).toI):ruJ mv tags j q=(7,q.2):=by
 unfold ruJ;rw [if_neg (by rw [h0];simp),if_neg h,if_neg h1];exact if_pos h2
theorem ruJ_0 {mv tags:D} {j:Nat} {q:Int × D} (h0:q.1=0) (h:¬ ixN tags (mv.el j 1).toS<0) (h1:¬ (8<=(mv.el j 0).toI ∨ 8<=(mv.el j 2).toI)) (h2:¬ 0<=(((ruT q.2 (mv.el j 0).toI (mv.el j 2).toI tags.len).el (mv.el j 0).toI.toNat 0).el (ixN tags (mv.el j 1).toS).toNat 0).toI):ruJ mv tags j q=(0,ruW (ruT q.2 (mv.el j 0).toI (mv.el j 2).toI tags.len) (mv.el j 0).toI.toNat (ixN tags (mv.el j 1).toS).toNat (mv.el j 2).toI):=by
 unfold ruJ;rw [if_neg (by rw [h0];simp),if_neg h,if_neg h1];exact if_neg h2
theorem ixN_lt (d:D) (s:ByteArray):ixN d s<d.len ∨ ixN d s<0:=by
 unfold ixN
 rcases ixF_or (fun j=>eqS s (d.el j 0).toS) d.len with ⟨i,h1,_,_,h2⟩ |⟨_,h2⟩
 ·left;rw [h2];omega
 ·right;rw [h2];omega
theorem ifm (a b:Int) [Decidable (b>a)]:(if b>a then b else a)=max a b:=by
 split<;>omega
theorem bru_end {mv tags:D} {k:Nat} {x:Int} {y:D} (hk:k<mv.len) (hx:x≠0) (h:bruK mv tags (k+1)=(x,y)):bruE mv tags=x/\bruD mv tags = .l []:=by
 have e:bruQ mv tags=(x,y):=by
  have:=goN_st (ruJ_st mv tags) (x:=(0,.l [[noM tags.len]])) (i:=k+1) (by rw [show goN (ruJ mv tags) (k+1) (0,.l [[noM tags.len]])=(x,y) from h];exact hx) mv.len (by omega);exact this.trans h
 unfold bruD bruE;rw [e,if_neg hx];exact ⟨rfl,rfl⟩
structure BrI (r:D) (t:Nat):Prop where
 lo:1<=r.len
 hi:r.len<=8
 el:∀ a,a<r.len->(r.el a 0).len=t
theorem brI_G {r:D} {t n:Nat} (h:BrI r t) (hn:n<=8):BrI (ruG r n t) t/\n<=(ruG r n t).len:=by
 rw [ruG_I];have h1:=h.lo;have h2:=h.hi;refine ⟨⟨by rw [ruI_len];omega,by rw [ruI_len];omega,fun a ha=>?_⟩,by rw [ruI_len];omega⟩;rw [ruI_len] at ha;rw [ruI_el r ha];split
 ·rename_i hlt;exact h.el a hlt
 ·exact noM_len t
theorem brI_W {r:D} {t f g:Nat} {x:Int} (h:BrI r t) (hf:f<r.len):BrI (ruW r f g x) t:=
 ⟨by rw [ruW_len];exact h.lo,by rw [ruW_len];exact h.hi,fun a ha=>by rw [ruW_el r hf];rw [ruW_len] at ha;exact h.el a ha⟩
theorem bru_inv {mv tags:D} (hR:RuS mv tags):∀ k,k<=mv.len->(bruK mv tags k).1=0->BrI (bruK mv tags k).2 tags.len
 | 0,_,_=>⟨Nat.le_refl _,(by show 1<=8;omega),fun a ha=>by
    have:a<1:=ha;obtain rfl:a=0:=by omega
    exact noM_len _⟩
 |k+1,hk,h0=>by
  have hs:=bruK_s mv tags k
  by_cases hq:(bruK mv tags k).1=0
  ·have ih:=bru_inv hR k (by omega) hq;have hf:=hR.f k (by omega);unfold ruJ at hs;rw [if_neg (by rw [hq];simp)] at hs
   split at hs
   ·rw [hs] at h0;cases h0
   ·split at hs
    ·rw [hs] at h0;cases h0
    ·rename_i h8
     split at hs
     ·rw [hs] at h0;cases h0
     ·rw [hs];obtain ⟨g1,g2⟩:=brI_G (n:=(max (mv.el k 0).toI (mv.el k 2).toI+1).toNat) ih (by omega);exact brI_W g1 (by omega)
  ·rw [ruJ_st _ _ _ _ hq] at hs;rw [hs] at h0;exact absurd h0 hq
noncomputable def bru2S:FSpec:=fun ds _=>match ds with
 | [.s nm,.d mv,.d tags]=>some {val:=.tup [.sc (.rows 40 (bruD mv tags)),.sc (.int .i64 (.sym (bruE mv tags)))],vc:=[RuS mv tags]}
 |_=>none
noncomputable def bru2C:Con:=con [.agg [.c .str,.c (.rows 122)],.sc (.rows 9)] bru2S
theorem bru2_ok:ConOK Tryz.prog 59 bru2C:=by
 refine fn_ob tt_ok mixed Tryz.func59 rfl (fun _ _=>by kernel_rfl) (A:=fun ds=>⟨fun _=>Cons.of [(104,nmvC),(105,ixsC),(8,nrCon)],fun k=>match k,ds with | 3,[.s nm,.d mv,.d tags]=>some {ι:=Nat,pre:=fun _ k=>k<=mv.len/\(bruK mv tags k).1=0,μ:=fun k=>mv.len+1-k,st:=fun s k=>famR s [(17,.one (.sc (.int .i64 (.sym ((k:Nat)))))),(6,.one (.sc (.osl 40 (s.nx-1) (.lit 0) (.sym ((bruK mv tags k).2.len)))))] [1,4,5,15,16] [(s.nx-1,.nrow 0 40 ((bruK mv tags k).2) (none))] []} | 10,[.s nm,.d mv,.d tags]=>some {ι:=Nat,pre:=fun s i=>i<=(max (cellI s 8 0) (cellI s 8 2)+1).toNat-(dOf s 6).len/\True,μ:=fun i=>1000-i,st:=fun s i=>famR s [(6,.one (.sc (.osl 40 (s.nx-1) (.lit 0) (.sym ((dOf s 6).len+i)))))] [1,4,5,8,9,15,16,17] [(s.nx-1,.nrow 0 40 (ruI (dOf s 6) i tags.len) (none))] [8]} |_,_=>none,fun k=>match k,ds with | 12,[.s nm,.d mv,.d tags]=>some {ι:=Bool,pre:=fun _ _=>True,μ:=fun _=>0,st:=fun s _=>famR s [(6,.one (.sc (.osl 40 (s.nx-1) (.lit 0) (.sym ((ruT (dOf s 6) (cellI s 8 0) (cellI s 8 2) tags.len).len)))))] [1,4,5,8,9,15,16,17] [(s.nx-1,.nrow 0 40 (ruT (dOf s 6) (cellI s 8 0) (cellI s 8 2) tags.len) (some ((cellI s 8 0).toNat,s.nx-2,((ruT (dOf s 6) (cellI s 8 0) (cellI s 8 2) tags.len).el (cellI s 8 0).toNat 0).len))),(s.nx-2,.orow 3 ((ruT (dOf s 6) (cellI s 8 0) (cellI s 8 2) tags.len).el (cellI s 8 0).toNat 0))] [8]} | 16,[.s nm,.d mv,.d tags]=>some {ι:=Bool,pre:=fun _ _=>(bruK mv tags mv.len).1=0,μ:=fun _=>0,st:=fun s _=>famR s [(6,.one (.sc (.osl 40 (s.nx-1) (.lit 0) (.sym ((bruK mv tags mv.len).2.len)))))] [5] [(s.nx-1,.orow 40 ((bruK mv tags mv.len).2))] []} |_,_=>none⟩) (fun _ _=>(cons_cons nmv_ok (cons_cons ixs_ok (cons_cons nr_ok cons_nil)))) (by kernel_rfl) ?_
 intro ds fr;unfold bru2S;split
 ·rename_i nm mv tags
  refine kmp (q:=RuS mv tags->((0:Int)<=(tags.len:Int)/\(tags.len:Int)<=(1000000:Int))/\((∃ (i:Nat),(i<=mv.len/\(bruK mv tags i).fst=(0:Int))/\(0:Nat)<(D.l [[D.l []]]).len/\(D.l (List.replicate (tags.len:Int).toNat [D.i (-1:Int)])).len=(tags.len:Int).toNat/\(0:Int)=(i:Int)/\(1:Nat)=(bruK mv tags i).snd.len/\tags.rows=tags.rows/\(0:Int)=(0:Int)/\mv.rows=mv.rows/\(mv.len:Int)=(mv.len:Int) /\ [[D.l []]].set ((0:Nat)) [D.l (List.replicate (tags.len:Int).toNat [D.i (-1:Int)])]=(bruK mv tags i).snd.rows)/\∀ (i:Nat),i<=mv.len/\(bruK mv tags i).fst=(0:Int)->(decide ((i:Int)<(mv.len:Int))=true->((0:Int)<=(i:Int)/\(i:Int)<(mv.len:Int))/\tags.len<=10000000000000/\(decide (ixN tags (mv.el (i:Int).toNat 1).toS<(0:Int))=true->(bruD mv tags).rows=[]/\(8:Int)=bruE mv tags)/\(decide (ixN tags (mv.el (i:Int).toNat 1).toS<(0:Int))=false->((decide ((mv.el (i:Int).toNat 0).toI>=(8:Int)) ||decide ((mv.el (i:Int).toNat 2).toI>=(8:Int)))=true->(bruD mv tags).rows=[]/\(11:Int)=bruE mv tags)/\((decide ((mv.el (i:Int).toNat 0).toI>=(8:Int)) ||decide ((mv.el (i:Int).toNat 2).toI>=(8:Int)))=false->((∃ (i_1:Nat),(i_1<=(max (mv.el (i:Int).toNat 0).toI (mv.el (i:Int).toNat 2).toI+(1:Int)).toNat-(bruK mv tags i).snd.len/\True)/\(bruK mv tags i).snd.len=(bruK mv tags i).snd.len+i_1/\tags.rows=tags.rows/\(0:Int)=(0:Int)/\ixN tags (mv.el (i:Int).toNat 1).toS=ixN tags (mv.el (i:Int).toNat 1).toS/\mv.rows=mv.rows/\(mv.len:Int)=(mv.len:Int)/\(i:Int)=(i:Int)/\(bruK mv tags i).snd.rows=(bruK mv tags i).snd.rows++List.replicate i_1 [noM tags.len]/\(mv.el (i:Int).toNat 0).toI=(mv.el (i:Int).toNat 0).toI/\Value.string (mv.el (i:Int).toNat 1).toS=Value.string (mv.el (i:Int).toNat 1).toS/\(mv.el (i:Int).toNat 2).toI=(mv.el (i:Int).toNat 2).toI)/\∀ (i_1:Nat),i_1<=(max (mv.el (i:Int).toNat 0).toI (mv.el (i:Int).toNat 2).toI+(1:Int)).toNat-(bruK mv tags i).snd.len/\True->(decide ((↑((bruK mv tags i).snd.len+i_1):Int)<=if (mv.el (i:Int).toNat 2).toI>(mv.el (i:Int).toNat 0).toI then (mv.el (i:Int).toNat 2).toI else (mv.el (i:Int).toNat 0).toI)=true->((0:Int)<=(tags.len:Int)/\(tags.len:Int)<=(1000000:Int))/\(bruK mv tags i).snd.len+i_1=(ruI (bruK mv tags i).snd i_1 tags.len).len/\(D.l [[D.l []]]).len=(1:Nat)/\((bruK mv tags i).snd.len+i_1+(1:Nat))*(24:Nat)<=(140737488355328:Nat)/\∃ (j:Nat),(j<=(max (mv.el (i:Int).toNat 0).toI (mv.el (i:Int).toNat 2).toI+(1:Int)).toNat-(bruK mv tags i).snd.len/\True)/\(1000:Nat)-j<(1000:Nat)-i_1/\(ruI (bruK mv tags i).snd i_1 tags.len).len+(0:Nat)<((ruI (bruK mv tags i).snd i_1 tags.len).app (D.l [[D.l []]])).len/\(D.l (List.replicate (tags.len:Int).toNat [D.i (-1:Int)])).len=(tags.len:Int).toNat/\(bruK mv tags i).snd.len+i_1+(1:Nat)=(bruK mv tags i).snd.len+j/\tags.rows=tags.rows/\(0:Int)=(0:Int)/\ixN tags (mv.el (i:Int).toNat 1).toS=ixN tags (mv.el (i:Int).toNat 1).toS/\mv.rows=mv.rows/\(mv.len:Int)=(mv.len:Int)/\(i:Int)=(i:Int)/\((bruK mv tags i).snd.rows++List.replicate i_1 [noM tags.len]++[[D.l []]]).set ((ruI (bruK mv tags i).snd i_1 tags.len).len+(0:Nat)) [D.l (List.replicate (tags.len:Int).toNat [D.i (-1:Int)])]=(bruK mv tags i).snd.rows++List.replicate j [noM tags.len]/\(mv.el (i:Int).toNat 0).toI=(mv.el (i:Int).toNat 0).toI/\Value.string (mv.el (i:Int).toNat 1).toS=Value.string (mv.el (i:Int).toNat 1).toS/\(mv.el (i:Int).toNat 2).toI=(mv.el (i:Int).toNat 2).toI)/\(decide ((↑((bruK mv tags i).snd.len+i_1):Int)<=if (mv.el (i:Int).toNat 2).toI>(mv.el (i:Int).toNat 0).toI then (mv.el (i:Int).toNat 2).toI else (mv.el (i:Int).toNat 0).toI)=false->∃ (i_2:Bool),True/\(mv.el (i:Int).toNat 0).toI.toNat<(ruI (bruK mv tags i).snd i_1 tags.len).len/\(bruK mv tags i).snd.len+i_1=(ruT (bruK mv tags i).snd (mv.el (i:Int).toNat 0).toI (mv.el (i:Int).toNat 2).toI tags.len).len/\tags.rows=tags.rows/\(0:Int)=(0:Int)/\ixN tags (mv.el (i:Int).toNat 1).toS=ixN tags (mv.el (i:Int).toNat 1).toS/\mv.rows=mv.rows/\(mv.len:Int)=(mv.len:Int)/\(i:Int)=(i:Int)/\(bruK mv tags i).snd.rows++List.replicate i_1 [noM tags.len]=(bruK mv tags i).snd.rows++List.replicate ((max (mv.el (i:Int).toNat 0).toI (mv.el (i:Int).toNat 2).toI+(1:Int)).toNat-(bruK mv tags i).snd.len) [noM tags.len]/\(mv.el (i:Int).toNat 0).toI.toNat=(mv.el (i:Int).toNat 0).toI.toNat/\((ruI (bruK mv tags i).snd i_1 tags.len).el (mv.el (i:Int).toNat 0).toI.toNat ((0:Nat))).len=((ruT (bruK mv tags i).snd (mv.el (i:Int).toNat 0).toI (mv.el (i:Int).toNat 2).toI tags.len).el (mv.el (i:Int).toNat 0).toI.toNat (0:Nat)).len/\((ruI (bruK mv tags i).snd i_1 tags.len).el (mv.el (i:Int).toNat 0).toI.toNat ((0:Nat))).rows=((ruT (bruK mv tags i).snd (mv.el (i:Int).toNat 0).toI (mv.el (i:Int).toNat 2).toI tags.len).el (mv.el (i:Int).toNat 0).toI.toNat (0:Nat)).rows/\(mv.el (i:Int).toNat 0).toI=(mv.el (i:Int).toNat 0).toI/\Value.string (mv.el (i:Int).toNat 1).toS=Value.string (mv.el (i:Int).toNat 1).toS/\(mv.el (i:Int).toNat 2).toI=(mv.el (i:Int).toNat 2).toI))/\∀ (i_1:Bool),True->((0:Int)<=(mv.el (i:Int).toNat 0).toI/\(mv.el (i:Int).toNat 0).toI<(↑(ruT (bruK mv tags i).snd (mv.el (i:Int).toNat 0).toI (mv.el (i:Int).toNat 2).toI tags.len).len:Int))/\(mv.el (i:Int).toNat 0).toI.toNat=(mv.el (i:Int).toNat 0).toI.toNat/\(mv.el (i:Int).toNat 0).toI.toNat<(ruT (bruK mv tags i).snd (mv.el (i:Int).toNat 0).toI (mv.el (i:Int).toNat 2).toI tags.len).len/\((0:Int)<=ixN tags (mv.el (i:Int).toNat 1).toS/\ixN tags (mv.el (i:Int).toNat 1).toS<(↑((ruT (bruK mv tags i).snd (mv.el (i:Int).toNat 0).toI (mv.el (i:Int).toNat 2).toI tags.len).el (mv.el (i:Int).toNat 0).toI.toNat (0:Nat)).len:Int))/\(ixN tags (mv.el (i:Int).toNat 1).toS).toNat<((ruT (bruK mv tags i).snd (mv.el (i:Int).toNat 0).toI (mv.el (i:Int).toNat 2).toI tags.len).el (mv.el (i:Int).toNat 0).toI.toNat (0:Nat)).len/\(decide ((((ruT (bruK mv tags i).snd (mv.el (i:Int).toNat 0).toI (mv.el (i:Int).toNat 2).toI tags.len).el (mv.el (i:Int).toNat 0).toI.toNat (0:Nat)).el (ixN tags (mv.el (i:Int).toNat 1).toS).toNat (0:Nat)).toI>=(0:Int))=true->(bruD mv tags).rows=[]/\(7:Int)=bruE mv tags)/\(decide ((((ruT (bruK mv tags i).snd (mv.el (i:Int).toNat 0).toI (mv.el (i:Int).toNat 2).toI tags.len).el (mv.el (i:Int).toNat 0).toI.toNat (0:Nat)).el (ixN tags (mv.el (i:Int).toNat 1).toS).toNat (0:Nat)).toI>=(0:Int))=false->((0:Int)<=(mv.el (i:Int).toNat 0).toI/\(mv.el (i:Int).toNat 0).toI<(↑(ruT (bruK mv tags i).snd (mv.el (i:Int).toNat 0).toI (mv.el (i:Int).toNat 2).toI tags.len).len:Int))/\(mv.el (i:Int).toNat 0).toI.toNat=(mv.el (i:Int).toNat 0).toI.toNat/\(mv.el (i:Int).toNat 0).toI.toNat<(ruT (bruK mv tags i).snd (mv.el (i:Int).toNat 0).toI (mv.el (i:Int).toNat 2).toI tags.len).len/\((0:Int)<=ixN tags (mv.el (i:Int).toNat 1).toS/\ixN tags (mv.el (i:Int).toNat 1).toS<(↑((ruT (bruK mv tags i).snd (mv.el (i:Int).toNat 0).toI (mv.el (i:Int).toNat 2).toI tags.len).el (mv.el (i:Int).toNat 0).toI.toNat (0:Nat)).len:Int))/\(ixN tags (mv.el (i:Int).toNat 1).toS).toNat<((ruT (bruK mv tags i).snd (mv.el (i:Int).toNat 0).toI (mv.el (i:Int).toNat 2).toI tags.len).el (mv.el (i:Int).toNat 0).toI.toNat (0:Nat)).len/\∃ (j:Nat),(j<=mv.len/\(bruK mv tags j).fst=(0:Int))/\mv.len+(1:Nat)-j<mv.len+(1:Nat)-i/\(mv.el (i:Int).toNat 0).toI.toNat<(ruT (bruK mv tags i).snd (mv.el (i:Int).toNat 0).toI (mv.el (i:Int).toNat 2).toI tags.len).len/\(((ruT (bruK mv tags i).snd (mv.el (i:Int).toNat 0).toI (mv.el (i:Int).toNat 2).toI tags.len).el (mv.el (i:Int).toNat 0).toI.toNat (0:Nat)).setc [K.int IntKind.i64].length (ixN tags (mv.el (i:Int).toNat 1).toS).toNat (0:Nat) [D.i (mv.el (i:Int).toNat 2).toI]).len=((ruT (bruK mv tags i).snd (mv.el (i:Int).toNat 0).toI (mv.el (i:Int).toNat 2).toI tags.len).el (mv.el (i:Int).toNat 0).toI.toNat (0:Nat)).len/\IntKind.i64.wrap ((i:Int)+(1:Int))=(j:Int)/\(ruT (bruK mv tags i).snd (mv.el (i:Int).toNat 0).toI (mv.el (i:Int).toNat 2).toI tags.len).len=(bruK mv tags j).snd.len/\tags.rows=tags.rows/\(0:Int)=(0:Int)/\mv.rows=mv.rows/\(mv.len:Int)=(mv.len:Int)/\((bruK mv tags i).snd.rows++List.replicate ((max (mv.el (i:Int).toNat 0).toI (mv.el (i:Int).toNat 2).toI+(1:Int)).toNat-(bruK mv tags i).snd.len) [noM tags.len]).set (mv.el (i:Int).toNat 0).toI.toNat [((ruT (bruK mv tags i).snd (mv.el (i:Int).toNat 0).toI (mv.el (i:Int).toNat 2).toI tags.len).el (mv.el (i:Int).toNat 0).toI.toNat (0:Nat)).setc [K.int IntKind.i64].length (ixN tags (mv.el (i:Int).toNat 1).toS).toNat (0:Nat) [D.i (mv.el (i:Int).toNat 2).toI]]=(bruK mv tags j).snd.rows))))/\(decide ((i:Int)<(mv.len:Int))=false->∃ (i_1:Bool),(bruK mv tags mv.len).fst=(0:Int)/\(bruK mv tags i).snd.len=(bruK mv tags mv.len).snd.len/\(0:Int)=(0:Int)/\(bruK mv tags i).snd.rows=(bruK mv tags mv.len).snd.rows))/\∀ (i:Bool),(bruK mv tags mv.len).fst=(0:Int)->(0:Nat)+(bruK mv tags mv.len).snd.len<=(bruK mv tags mv.len).snd.len/\List.drop ((0:Nat)) (List.take ((0:Nat)+(bruK mv tags mv.len).snd.len) (bruK mv tags mv.len).snd.rows)=(bruD mv tags).rows/\(0:Int)=bruE mv tags) (by kernel_rfl) ?_
  intro hR;have ht:=hR.t;have hl:=hR.l;simp only [Int.toNat_natCast,Nat.zero_add,Nat.reduceAdd];refine ⟨⟨by omega,by omega⟩,⟨⟨0,⟨Nat.zero_le _,rfl⟩,(by show 0<1;omega),noM_len _,rfl,rfl,trivial,trivial,trivial,trivial,rfl⟩,fun i hi=>⟨fun hc=>?_,fun hc=>?_⟩⟩,fun _ hq=>?_⟩
  ·obtain ⟨hi1,hq⟩:=hi;have hc:=of_decide_eq_true hc;have him:i<mv.len:=by omega
   have hI:=bru_inv hR i hi1 hq;have hf:=hR.f i him;have j8:=fun h=>bru_end him (show (8:Int)≠0 by decide) ((bruK_s mv tags i).trans (ruJ_8 hq h))
   have j11:=fun h h1=>bru_end him (show (11:Int)≠0 by decide) ((bruK_s mv tags i).trans (ruJ_11 hq h h1))
   have j7:=fun h h1 h2=>bru_end him (show (7:Int)≠0 by decide) ((bruK_s mv tags i).trans (ruJ_7 hq h h1 h2))
   have j0:=fun h h1 h2=>(bruK_s mv tags i).trans (ruJ_0 hq h h1 h2)
   have hxl:=ixN_lt tags (mv.el i 1).toS;have hlo:=hI.lo;have hhi:=hI.hi;simp only [ifm];refine ⟨by omega,by omega,fun h=>?_,fun hx=>⟨fun h=>?_,fun h8=>?_⟩⟩
   ·obtain ⟨a,b⟩:=j8 (of_decide_eq_true h);rw [a,b];exact ⟨rfl,rfl⟩
   ·simp only [Bool.or_eq_true,decide_eq_true_eq] at h;obtain ⟨a,b⟩:=j11 (of_decide_eq_false hx) (by omega);rw [a,b];exact ⟨rfl,rfl⟩
   have hx:=of_decide_eq_false hx;simp only [Bool.or_eq_false_iff,decide_eq_false_iff_not] at h8;have hn8:¬ (8<=(mv.el i 0).toI ∨ 8<=(mv.el i 2).toI):=by omega
   obtain ⟨hG,hGn⟩:=brI_G (n:=(max (mv.el i 0).toI (mv.el i 2).toI+1).toNat) hI (by omega);have hGT:BrI (ruT (bruK mv tags i).2 (mv.el i 0).toI (mv.el i 2).toI tags.len) tags.len:=hG;have hGl:(max (mv.el i 0).toI (mv.el i 2).toI+1).toNat<=(ruT (bruK mv tags i).2 (mv.el i 0).toI (mv.el i 2).toI tags.len).len:=hGn;have hTI:ruT (bruK mv tags i).2 (mv.el i 0).toI (mv.el i 2).toI tags.len=ruI (bruK mv tags i).2 ((max (mv.el i 0).toI (mv.el i 2).toI+1).toNat-(bruK mv tags i).2.len) tags.len:=rfl;have hTl:(ruT (bruK mv tags i).2 (mv.el i 0).toI (mv.el i 2).toI tags.len).len=(bruK mv tags i).2.len+((max (mv.el i 0).toI (mv.el i 2).toI+1).toNat-(bruK mv tags i).2.len):=by rw [hTI,ruI_len]
   refine ⟨⟨⟨0,⟨Nat.zero_le _,trivial⟩,rfl,trivial,trivial,trivial,trivial,trivial,trivial,(List.append_nil _).symm,trivial,trivial,trivial⟩,fun j hj=>⟨fun h=>?_,fun h=>?_⟩⟩,fun _ _=>?_⟩
   ·have h:=of_decide_eq_true h;obtain ⟨hj,_⟩:=hj;refine ⟨⟨by omega,by omega⟩,(ruI_len _ _ _).symm,rfl,by omega,j+1,⟨by omega,trivial⟩,by omega,?_,noM_len _,by omega,trivial,trivial,trivial,trivial,trivial,trivial,?_,trivial,trivial,trivial⟩
    ·rw [D.app_len,ruI_len];show (bruK mv tags i).2.len+j+0<(bruK mv tags i).2.len+j+1;omega
    ·rw [ruI_len];have e1:((bruK mv tags i).2.rows++List.replicate j [noM tags.len]).length=(bruK mv tags i).2.len+j:=ruI_len (bruK mv tags i).2 j tags.len;rw [Nat.add_zero,<- e1,List.set_append_right _ _ (Nat.le_refl _),Nat.sub_self,List.append_assoc,List.replicate_succ'];rfl
   ·have h:=of_decide_eq_false h;obtain ⟨hj,_⟩:=hj;have hje:j=(max (mv.el i 0).toI (mv.el i 2).toI+1).toNat-(bruK mv tags i).2.len:=by omega
    subst hje;refine ⟨true,trivial,by rw [ruI_len];omega,by rw [hTl],trivial,trivial,trivial,trivial,trivial,trivial,rfl,trivial,rfl,rfl,trivial,trivial,trivial⟩
   ·have hFl:(mv.el i 0).toI.toNat<(ruT (bruK mv tags i).2 (mv.el i 0).toI (mv.el i 2).toI tags.len).len:=by omega
    have hel:((ruT (bruK mv tags i).2 (mv.el i 0).toI (mv.el i 2).toI tags.len).el (mv.el i 0).toI.toNat 0).len=tags.len:=hGT.el _ hFl;refine ⟨⟨by omega,by omega⟩,trivial,hFl,⟨by omega,by rw [hel];omega⟩,by rw [hel];omega,fun h=>?_,fun h=>?_⟩
    ·obtain ⟨a,b⟩:=j7 hx hn8 (of_decide_eq_true h);rw [a,b];exact ⟨rfl,rfl⟩
    ·have e:=j0 hx hn8 (of_decide_eq_false h);refine ⟨⟨by omega,by omega⟩,trivial,hFl,⟨by omega,by rw [hel];omega⟩,by rw [hel];omega,i+1,⟨by omega,by rw [e]⟩,by omega,hFl,D.setc_len ..,k_nx (by omega),by rw [e,ruW_len],trivial,trivial,trivial,trivial,?_⟩;rw [e];rfl
  ·obtain ⟨hi1,hq⟩:=hi;have hc:=of_decide_eq_false hc;have:i=mv.len:=by omega
   subst this;exact ⟨true,hq,rfl,trivial,rfl⟩
  ·have e:bruD mv tags=(bruK mv tags mv.len).2:=if_pos hq;refine ⟨Nat.le_refl _,?_,hq.symm⟩;rw [e,List.drop_zero];exact List.take_of_length_le (Nat.le_refl _)
 ·trivial
theorem bru_ok:ConOK Tryz.prog 59 bruC:=by
 have e:bruC=bru2C:=by
  unfold bruC bru2C
  congr 1
 rw [e];exact bru2_ok
end Go.Proofs.YtplejbgafjpomaaGreatDoor.Sx.Z
