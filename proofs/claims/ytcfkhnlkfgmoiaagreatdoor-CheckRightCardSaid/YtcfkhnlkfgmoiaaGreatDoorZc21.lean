import Derived.Test.YtcfkhnlkfgmoiaaGreatDoorZc18
set_option linter.unusedVariables false
set_option linter.unusedSimpArgs false
namespace Go.Proofs.YtcfkhnlkfgmoiaaGreatDoor.Sx.Z
open Go.RowKit
def c4E (d:D):D:=.l ((List.finRange d.len).map fun (i:Fin d.len)=>[D.i (d.el i 0).toI,D.i (d.el i 1).toI,D.i (d.el i 2).toI,c4E (d.el i 3)])
 termination_by SizeOf.sizeOf d
 decreasing_by exact lel_lt i.isLt
def x4R (d:D) (i:Nat):List D:=[D.i (d.el i 0).toI,D.i (d.el i 1).toI,D.i (d.el i 2).toI,c4E (d.el i 3)]
theorem c4E_eq (d:D):c4E d=cpTo d.len (x4R d):=by
 rw [c4E,<- cpF_eq];rfl
def k4S (d:D):Prop:=d.len*48<=140737488355328/\∀ i:Fin d.len,k4S (d.el i 3)
 termination_by SizeOf.sizeOf d
 decreasing_by exact lel_lt i.isLt
theorem k4S_iff (d:D):k4S d↔d.len*48<=140737488355328/\∀ i,i<d.len->k4S (d.el i 3):=by
 rw [k4S];exact ⟨fun h=>⟨h.1,fun i hi=>h.2 ⟨i,hi⟩⟩,fun h=>⟨h.1,fun i=>h.2 i.1 i.2⟩⟩
def c4B (d:D):D:=.l ((List.finRange d.len).map fun (i:Fin d.len)=>[D.i (d.el i 0).toI,D.i (d.el i 1).toI,D.i (d.el i 2).toI,D.i (d.el i 3).toI,D.i (d.el i 4).toI,D.i (d.el i 5).toI,D.i (d.el i 6).toI,c4E (d.el i 7),D.i (d.el i 8).toI,D.i (d.el i 9).toI,D.i (d.el i 10).toI,D.i (d.el i 11).toI,c4E (d.el i 12),D.i (d.el i 13).toI,D.i (d.el i 14).toI,D.i (d.el i 15).toI,c4E (d.el i 16),c4B (d.el i 17),c4B (d.el i 18),.l ((List.finRange (d.el i 19).len).map fun (j:Fin (d.el i 19).len)=>[D.i ((d.el i 19).el j 0).toI,D.i ((d.el i 19).el j 1).toI,c4B ((d.el i 19).el j 2)])])
 termination_by SizeOf.sizeOf d
 decreasing_by
  ·exact lel_lt i.isLt
  ·exact lel_lt i.isLt
  ·exact Nat.lt_trans (lel_lt j.isLt) (lel_lt i.isLt)
def a4R (am:D) (j:Nat):List D:=[D.i (am.el j 0).toI,D.i (am.el j 1).toI,c4B (am.el j 2)]
def s4R (d:D) (i:Nat):List D:=[D.i (d.el i 0).toI,D.i (d.el i 1).toI,D.i (d.el i 2).toI,D.i (d.el i 3).toI,D.i (d.el i 4).toI,D.i (d.el i 5).toI,D.i (d.el i 6).toI,c4E (d.el i 7),D.i (d.el i 8).toI,D.i (d.el i 9).toI,D.i (d.el i 10).toI,D.i (d.el i 11).toI,c4E (d.el i 12),D.i (d.el i 13).toI,D.i (d.el i 14).toI,D.i (d.el i 15).toI,c4E (d.el i 16),c4B (d.el i 17),c4B (d.el i 18),cpTo (d.el i 19).len (a4R (d.el i 19))]
theorem c4B_eq (d:D):c4B d=cpTo d.len (s4R d):=by
 rw [c4B,<- cpF_eq]
 congr 2
 funext i
 unfold s4R;rw [<- cpF_eq];rfl
def b4S (d:D):Prop:=d.len*256<=140737488355328/\∀ i:Fin d.len,k4S (d.el i 7)/\k4S (d.el i 12)/\k4S (d.el i 16)/\b4S (d.el i 17)/\b4S (d.el i 18)/\(d.el i 19).len*40<=140737488355328/\∀ j:Fin (d.el i 19).len,b4S ((d.el i 19).el j 2)
 termination_by SizeOf.sizeOf d
 decreasing_by
  ·exact lel_lt i.isLt
  ·exact lel_lt i.isLt
  ·exact Nat.lt_trans (lel_lt j.isLt) (lel_lt i.isLt)
theorem b4S_iff (d:D):b4S d↔d.len*256<=140737488355328/\∀ i,i<d.len->k4S (d.el i 7)/\k4S (d.el i 12)/\k4S (d.el i 16)/\b4S (d.el i 17)/\b4S (d.el i 18)/\(d.el i 19).len*40<=140737488355328/\∀ j,j<(d.el i 19).len->b4S ((d.el i 19).el j 2):=by
 rw [b4S];refine ⟨fun h=>⟨h.1,fun i hi=>?_⟩,fun h=>⟨h.1,fun i=>?_⟩⟩
 ·obtain ⟨a,b,c,e,f,g,k⟩:=h.2 ⟨i,hi⟩;exact ⟨a,b,c,e,f,g,fun j hj=>k ⟨j,hj⟩⟩
 ·obtain ⟨a,b,c,e,f,g,k⟩:=h.2 i.1 i.2;exact ⟨a,b,c,e,f,g,fun j=>k j.1 j.2⟩
def rl4 (ru:D) (k:Nat):List D:=[nD (ru.el k 0)]
def ch4 (ch:D) (i:Nat):List D:=[D.i (ch.el i 0).toI,D.i (ch.el i 1).toI,D.i (ch.el i 2).toI,D.i (ch.el i 3).toI,D.i (ch.el i 4).toI,cpTo (ch.el i 5).len (rl4 (ch.el i 5))]
def pr4 (pr:D) (i:Nat):List D:=[D.i (pr.el i 0).toI,c4B (pr.el i 1)]
def c4C (ch:D):D:=cpTo ch.len (ch4 ch)
def c4P (pr:D):D:=cpTo pr.len (pr4 pr)
structure Sy4 (ch pr:D):Prop where
 c:ch.len*64<=140737488355328
 r:∀ i,i<ch.len->(ch.el i 5).len*24<=140737488355328
 rr:∀ i,i<ch.len->∀ k,k<(ch.el i 5).len->((ch.el i 5).el k 0).len*8<=140737488355328
 p:pr.len*32<=140737488355328
 b:∀ i,i<pr.len->b4S (pr.el i 1)
def qXa:AP:=.agg [.c (.int .i64),.c (.int .i64),.c (.int .i64),.c (.rows 54)]
noncomputable def x4cS:FSpec:=fun ds _=>match ds with
 | [.i k,.i n,.i v,.d d]=>some {val:=.one (.agg [.c (.int .i64 (.sym (k))),.c (.int .i64 (.sym (n))),.c (.int .i64 (.sym (v))),.c (.rows 143 (c4E (d)))]),vc:=[k4S d]}
 |_=>none
noncomputable def x4cC:Con:=con [qXa] x4cS
noncomputable def x4cM:List Dat->Nat:=fun ds=>match ds with
 | [.i k,.i n,.i v,.d d]=>SizeOf.sizeOf d
 |_=>0
noncomputable def x4cSu (m:Nat):FSpec:=fun ds _=>match ds with
 | [.i k,.i n,.i v,.d d]=>some {val:=.one (.agg [.c (.int .i64 (.sym (k))),.c (.int .i64 (.sym (n))),.c (.int .i64 (.sym (v))),.c (.rows 143 (c4E (d)))]),vc:=[SizeOf.sizeOf d<m,k4S d]}
 |_=>none
theorem x4c_under (m:Nat):x4cS.under x4cM m=x4cSu m:=by
 funext ds fr
 unfold FSpec.under x4cS x4cM x4cSu;split
 ·rename_i e h
  split at h
  ·obtain rfl:=Option.some.inj h;rfl
  ·cases h
 ·rename_i h
  split at h
  ·cases h
  ·rfl
theorem x4c_step (m:Nat) (ih:ConOK Tryz.prog 45 (con [qXa] (x4cSu m))):ConOK Tryz.prog 45 (con [qXa] (x4cSu (m+1))):=by
 refine fn_ob tt_ok mixed Tryz.func45 rfl (fun _ _=>by kernel_rfl) (A:=fun ds=>⟨fun _=>Cons.of [(45,con [qXa] (x4cSu m))],fun k=>match k,ds with | 3,[.i k,.i n,.i v,.d d]=>some {ι:=Nat,pre:=fun _ i=>i<=d.len,μ:=fun i=>d.len+1-i,st:=fun s i=>famR s [(4,.one (.sc (.int .i64 (.sym ((i:Nat))))))] [1,2,3] [(idOf s 3,.own 143 ([.c (.int .i64 (.sym (k))),.c (.int .i64 (.sym (n))),.c (.int .i64 (.sym (v))),.c (.osl 143 (s.nx-1) (.lit 0) (.sym i))])),(s.nx-1,.orow 143 (cpTo i (x4R d)))] [1,2]} |_,_=>none,fun _=>none⟩) (fun _ _=>(cons_cons ih cons_nil)) (by kernel_rfl) ?_
 intro ds fr;unfold x4cSu;split
 ·rename_i k n v d;refine @kmp _ (SizeOf.sizeOf d<m+(1:Nat)->k4S d->(∃ (i:Nat),i.le d.len/\(0:Int)=(i:Int)/\k=k/\n=n/\v=v/\i=(0:Nat)/\List.map (x4R d) (List.range i)=[]/\k=k/\n=n/\v=v/\d.rows=d.rows/\(0:Int)=(0:Int)/\(0:Int)=(0:Int)/\(0:Int)=(0:Int))/\∀ (i:Nat),i.le d.len->(decide ((i:Int)<(d.len:Int))=true->((0:Int)<=(i:Int)/\(i:Int)<(d.len:Int))/\SizeOf.sizeOf (d.el (i:Int).toNat 3)<m/\k4S (d.el (i:Int).toNat 3)/\i=(cpTo i (x4R d)).len/\(i+((D.l [[D.i (d.el (i:Int).toNat 0).toI,D.i (d.el (i:Int).toNat 1).toI,D.i (d.el (i:Int).toNat 2).toI,c4E (d.el (i:Int).toNat 3)]]).sub (0:Nat) 1).len)*(48:Nat)<=(140737488355328:Nat)/\(0:Nat)+(1:Nat)<=(D.l [[D.i (d.el (i:Int).toNat 0).toI,D.i (d.el (i:Int).toNat 1).toI,D.i (d.el (i:Int).toNat 2).toI,c4E (d.el (i:Int).toNat 3)]]).len/\∃ (j:Nat),j.le d.len/\d.len+(1:Nat)-j<d.len+(1:Nat)-i/\IntKind.i64.wrap ((i:Int)+(1:Int))=(j:Int)/\k=k/\n=n/\v=v/\i+((D.l [[D.i (d.el (i:Int).toNat 0).toI,D.i (d.el (i:Int).toNat 1).toI,D.i (d.el (i:Int).toNat 2).toI,c4E (d.el (i:Int).toNat 3)]]).sub (0:Nat) 1).len=j/\List.map (x4R d) (List.range i)++List.drop (0:Nat) (List.take 1 [[D.i (d.el (i:Int).toNat 0).toI,D.i (d.el (i:Int).toNat 1).toI,D.i (d.el (i:Int).toNat 2).toI,c4E (d.el (i:Int).toNat 3)]])=List.map (x4R d) (List.range j)/\k=k/\n=n/\v=v/\d.rows=d.rows/\(0:Int)=(0:Int)/\(0:Int)=(0:Int)/\(0:Int)=(0:Int))/\(decide ((i:Int)<(d.len:Int))=false->(0:Nat)+i<=(cpTo i (x4R d)).len/\k=k/\n=n/\v=v/\List.drop ((0:Nat)) (List.take ((0:Nat)+i) (List.map (x4R d) (List.range i)))=(c4E d).rows)) (by kernel_rfl) ?_
  intro hm hs;rw [k4S_iff] at hs;obtain ⟨h1,h2⟩:=hs;refine ⟨⟨0,Nat.zero_le _,(by (repeat' (with_reducible apply And.intro))<;>first |exact True.intro |rfl)⟩,fun i hi=>⟨fun hl=>?_,fun hl=>?_⟩⟩
  ·have hl:=of_decide_eq_true hl;have hi2:i<d.len:=by omega
   have hw2:IntKind.i64.wrap ((i:Int)+1)=((i+1:Nat):Int):=by rw [IntWalk.i64_in _ (by omega)];omega
   have z:=lel_lt (j:=3) hi2;refine ⟨⟨by omega,by omega⟩,(show SizeOf.sizeOf (d.el i 3)<m by omega),h2 i hi2,(cpTo_len _ _).symm,(show (i+1)*48<=140737488355328 by omega),Nat.le_refl _,i+1,hi2,by omega,hw2,?_⟩
   (repeat' apply And.intro)<;>first |exact (cpTo_succ i (x4R d)).symm |rfl
  ·have hl:=of_decide_eq_false hl;have hi3:i=d.len:=by have:i<=d.len:=hi;omega
   subst hi3;refine ⟨by rw [cpTo_len];omega,?_⟩;rw [c4E_eq]
   (repeat' apply And.intro)<;>first |rfl |exact takeAll _ _
 ·trivial
theorem x4c_ok:ConOK Tryz.prog 45 x4cC:=
 con_rec x4cM (fun _ _=>by kernel_rfl) fun m ih=>by
  rw [x4c_under] at ih ⊢;exact x4c_step m ih
noncomputable def s4cS:FSpec:=fun ds _=>match ds with
 | [.d d]=>some {val:=.one (.sc (.rows 148 (c4B d))),vc:=[b4S d]}
 |_=>none
noncomputable def s4cC:Con:=con [.sc (.rows 59)] s4cS
noncomputable def s4cM:List Dat->Nat:=fun ds=>match ds with
 | [.d d]=>SizeOf.sizeOf d
 |_=>0
noncomputable def s4cSu (m:Nat):FSpec:=fun ds _=>match ds with
 | [.d d]=>some {val:=.one (.sc (.rows 148 (c4B d))),vc:=[SizeOf.sizeOf d<m,b4S d]}
 |_=>none
theorem s4c_under (m:Nat):s4cS.under s4cM m=s4cSu m:=by
 funext ds fr
 unfold FSpec.under s4cS s4cM s4cSu;split
 ·rename_i e h
  split at h
  ·obtain rfl:=Option.some.inj h;rfl
  ·cases h
 ·rename_i h
  split at h
  ·cases h
  ·rfl
set_option maxRecDepth 100000 in
theorem s4c_step (m:Nat) (ih:ConOK Tryz.prog 22 (con [.sc (.rows 59)] (s4cSu m))):ConOK Tryz.prog 22 (con [.sc (.rows 59)] (s4cSu (m+1))):=by
 refine fn_ob tt_ok mixed Tryz.func22 rfl (fun _ _=>by kernel_rfl) (A:=fun ds=>⟨fun _=>Cons.of [(45,x4cC),(22,con [.sc (.rows 59)] (s4cSu m))],fun k=>match k,ds with | 3,[.d d]=>some {ι:=Nat,pre:=fun _ i=>i<=d.len,μ:=fun i=>d.len+1-i,st:=fun s i=>famR s [(4,.one (.sc (.int .i64 (.sym ((i:Nat)))))),(3,.one (.sc (.osl 148 (s.nx-1) (.lit 0) (.sym (i)))))] [0] [(s.nx-1,.orow 148 (cpTo i (s4R d)))] []} | 8,[.d d]=>some {ι:=Nat,pre:=fun s q=>q<=(d.el (slotN s 4) 19).len/\True,μ:=fun q=>4000000000000-q,st:=fun s q=>famR s [(7,.one (.sc (.int .i64 (.sym ((q:Nat))))))] [0,3,4,5,6] [(idOf s 6,.own 148 ([.c (.int .i64 (.sym ((d.el (slotN s 4) 0).toI))),.c (.int .i64 (.sym ((d.el (slotN s 4) 1).toI))),.c (.int .i64 (.sym ((d.el (slotN s 4) 2).toI))),.c (.int .i64 (.sym ((d.el (slotN s 4) 3).toI))),.c (.int .i64 (.sym ((d.el (slotN s 4) 4).toI))),.c (.int .i64 (.sym ((d.el (slotN s 4) 5).toI))),.c (.int .i64 (.sym ((d.el (slotN s 4) 6).toI))),.c (.rows 143 (c4E (d.el (slotN s 4) 7))),.c (.int .i64 (.sym ((d.el (slotN s 4) 8).toI))),.c (.int .i64 (.sym ((d.el (slotN s 4) 9).toI))),.c (.int .i64 (.sym ((d.el (slotN s 4) 10).toI))),.c (.int .i64 (.sym ((d.el (slotN s 4) 11).toI))),.c (.rows 143 (c4E (d.el (slotN s 4) 12))),.c (.int .i64 (.sym ((d.el (slotN s 4) 13).toI))),.c (.int .i64 (.sym ((d.el (slotN s 4) 14).toI))),.c (.int .i64 (.sym ((d.el (slotN s 4) 15).toI))),.c (.rows 143 (c4E (d.el (slotN s 4) 16))),.c (.rows 148 (c4B (d.el (slotN s 4) 17))),.c (.rows 148 (c4B (d.el (slotN s 4) 18))),.c (.osl 154 (s.nx-1) (.lit 0) (.sym q))])),(s.nx-1,.orow 154 (cpTo q (a4R (d.el (slotN s 4) 19))))] [3,5]} |_,_=>none,fun _=>none⟩) (fun _ _=>(cons_cons x4c_ok (cons_cons ih cons_nil))) (by kernel_rfl) ?_
 intro ds fr;unfold s4cSu;split
 ·rename_i d
  refine @kmp _ (SizeOf.sizeOf d<m+(1:Nat)->b4S d->(∃ (i:Nat),i.le d.len/\(0:Int)=(i:Int)/\i=(0:Nat)/\d.rows=d.rows/\List.map (s4R d) (List.range i)=[])/\∀ (i:Nat),i.le d.len->(decide ((i:Int)<(d.len:Int))=true->((0:Int)<=(i:Int)/\(i:Int)<(d.len:Int))/\k4S (d.el (i:Int).toNat 7)/\k4S (d.el (i:Int).toNat 12)/\k4S (d.el (i:Int).toNat 16)/\SizeOf.sizeOf (d.el (i:Int).toNat 17)<m/\b4S (d.el (i:Int).toNat 17)/\SizeOf.sizeOf (d.el (i:Int).toNat 18)<m/\b4S (d.el (i:Int).toNat 18)/\(∃ (i_1:Nat),(i_1<=(d.el i 19).len/\True)/\(0:Int)=(i_1:Int)/\d.rows=d.rows/\i=i/\(i:Int)=(i:Int)/\(d.el (i:Int).toNat 0).toI=(d.el i 0).toI/\(d.el (i:Int).toNat 1).toI=(d.el i 1).toI/\(d.el (i:Int).toNat 2).toI=(d.el i 2).toI/\(d.el (i:Int).toNat 3).toI=(d.el i 3).toI/\(d.el (i:Int).toNat 4).toI=(d.el i 4).toI/\(d.el (i:Int).toNat 5).toI=(d.el i 5).toI/\(d.el (i:Int).toNat 6).toI=(d.el i 6).toI/\(c4E (d.el (i:Int).toNat 7)).rows=(c4E (d.el i 7)).rows/\(d.el (i:Int).toNat 8).toI=(d.el i 8).toI/\(d.el (i:Int).toNat 9).toI=(d.el i 9).toI/\(d.el (i:Int).toNat 10).toI=(d.el i 10).toI/\(d.el (i:Int).toNat 11).toI=(d.el i 11).toI/\(c4E (d.el (i:Int).toNat 12)).rows=(c4E (d.el i 12)).rows/\(d.el (i:Int).toNat 13).toI=(d.el i 13).toI/\(d.el (i:Int).toNat 14).toI=(d.el i 14).toI/\(d.el (i:Int).toNat 15).toI=(d.el i 15).toI/\(c4E (d.el (i:Int).toNat 16)).rows=(c4E (d.el i 16)).rows/\(c4B (d.el (i:Int).toNat 17)).rows=(c4B (d.el i 17)).rows/\(c4B (d.el (i:Int).toNat 18)).rows=(c4B (d.el i 18)).rows/\i_1=(0:Nat)/\List.map (a4R (d.el i 19)) (List.range i_1)=[]/\List.map (s4R d) (List.range i)=List.map (s4R d) (List.range i)/\(d.el (i:Int).toNat 0).toI=(d.el (i:Int).toNat 0).toI/\(d.el (i:Int).toNat 1).toI=(d.el (i:Int).toNat 1).toI/\(d.el (i:Int).toNat 2).toI=(d.el (i:Int).toNat 2).toI/\(d.el (i:Int).toNat 3).toI=(d.el (i:Int).toNat 3).toI/\(d.el (i:Int).toNat 4).toI=(d.el (i:Int).toNat 4).toI/\(d.el (i:Int).toNat 5).toI=(d.el (i:Int).toNat 5).toI/\(d.el (i:Int).toNat 6).toI=(d.el (i:Int).toNat 6).toI/\(d.el (i:Int).toNat 7).rows=(d.el (i:Int).toNat 7).rows/\(d.el (i:Int).toNat 8).toI=(d.el (i:Int).toNat 8).toI/\(d.el (i:Int).toNat 9).toI=(d.el (i:Int).toNat 9).toI/\(d.el (i:Int).toNat 10).toI=(d.el (i:Int).toNat 10).toI/\(d.el (i:Int).toNat 11).toI=(d.el (i:Int).toNat 11).toI/\(d.el (i:Int).toNat 12).rows=(d.el (i:Int).toNat 12).rows/\(d.el (i:Int).toNat 13).toI=(d.el (i:Int).toNat 13).toI/\(d.el (i:Int).toNat 14).toI=(d.el (i:Int).toNat 14).toI/\(d.el (i:Int).toNat 15).toI=(d.el (i:Int).toNat 15).toI/\(d.el (i:Int).toNat 16).rows=(d.el (i:Int).toNat 16).rows/\(d.el (i:Int).toNat 17).rows=(d.el (i:Int).toNat 17).rows/\(d.el (i:Int).toNat 18).rows=(d.el (i:Int).toNat 18).rows/\(d.el (i:Int).toNat 19).rows=(d.el (i:Int).toNat 19).rows)/\∀ (i_1:Nat),i_1<=(d.el i 19).len/\True->(decide ((i_1:Int)<(↑(d.el (i:Int).toNat 19).len:Int))=true->((0:Int)<=(i_1:Int)/\(i_1:Int)<(↑(d.el (i:Int).toNat 19).len:Int))/\((0:Int)<=(i_1:Int)/\(i_1:Int)<(↑(d.el (i:Int).toNat 19).len:Int))/\((0:Int)<=(i_1:Int)/\(i_1:Int)<(↑(d.el (i:Int).toNat 19).len:Int))/\SizeOf.sizeOf ((d.el (i:Int).toNat 19).el (i_1:Int).toNat ((0:Nat)+(2:Nat)))<m/\b4S ((d.el (i:Int).toNat 19).el (i_1:Int).toNat ((0:Nat)+(2:Nat)))/\i_1=(cpTo i_1 (a4R (d.el i 19))).len/\(i_1+((D.l [[D.i ((d.el (i:Int).toNat 19).el (i_1:Int).toNat ((0:Nat)+(0:Nat))).toI,D.i ((d.el (i:Int).toNat 19).el (i_1:Int).toNat 1).toI,c4B ((d.el (i:Int).toNat 19).el (i_1:Int).toNat ((0:Nat)+(2:Nat)))]]).sub (0:Nat) 1).len)*(40:Nat)<=(140737488355328:Nat)/\(0:Nat)+(1:Nat)<=(D.l [[D.i ((d.el (i:Int).toNat 19).el (i_1:Int).toNat ((0:Nat)+(0:Nat))).toI,D.i ((d.el (i:Int).toNat 19).el (i_1:Int).toNat 1).toI,c4B ((d.el (i:Int).toNat 19).el (i_1:Int).toNat ((0:Nat)+(2:Nat)))]]).len/\∃ (j:Nat),(j<=(d.el i 19).len/\True)/\(4000000000000:Nat)-j<(4000000000000:Nat)-i_1/\IntKind.i64.wrap ((i_1:Int)+(1:Int))=(j:Int)/\d.rows=d.rows/\i=i/\(i:Int)=(i:Int)/\(d.el i 0).toI=(d.el i 0).toI/\(d.el i 1).toI=(d.el i 1).toI/\(d.el i 2).toI=(d.el i 2).toI/\(d.el i 3).toI=(d.el i 3).toI/\(d.el i 4).toI=(d.el i 4).toI/\(d.el i 5).toI=(d.el i 5).toI/\(d.el i 6).toI=(d.el i 6).toI/\(c4E (d.el i 7)).rows=(c4E (d.el i 7)).rows/\(d.el i 8).toI=(d.el i 8).toI/\(d.el i 9).toI=(d.el i 9).toI/\(d.el i 10).toI=(d.el i 10).toI/\(d.el i 11).toI=(d.el i 11).toI/\(c4E (d.el i 12)).rows=(c4E (d.el i 12)).rows/\(d.el i 13).toI=(d.el i 13).toI/\(d.el i 14).toI=(d.el i 14).toI/\(d.el i 15).toI=(d.el i 15).toI/\(c4E (d.el i 16)).rows=(c4E (d.el i 16)).rows/\(c4B (d.el i 17)).rows=(c4B (d.el i 17)).rows/\(c4B (d.el i 18)).rows=(c4B (d.el i 18)).rows/\i_1+((D.l [[D.i ((d.el (i:Int).toNat 19).el (i_1:Int).toNat ((0:Nat)+(0:Nat))).toI,D.i ((d.el (i:Int).toNat 19).el (i_1:Int).toNat 1).toI,c4B ((d.el (i:Int).toNat 19).el (i_1:Int).toNat ((0:Nat)+(2:Nat)))]]).sub (0:Nat) 1).len=j/\List.map (a4R (d.el i 19)) (List.range i_1)++List.drop (0:Nat) (List.take 1 [[D.i ((d.el (i:Int).toNat 19).el (i_1:Int).toNat ((0:Nat)+(0:Nat))).toI,D.i ((d.el (i:Int).toNat 19).el (i_1:Int).toNat 1).toI,c4B ((d.el (i:Int).toNat 19).el (i_1:Int).toNat ((0:Nat)+(2:Nat)))]])=List.map (a4R (d.el i 19)) (List.range j)/\List.map (s4R d) (List.range i)=List.map (s4R d) (List.range i)/\(d.el (i:Int).toNat 0).toI=(d.el (i:Int).toNat 0).toI/\(d.el (i:Int).toNat 1).toI=(d.el (i:Int).toNat 1).toI/\(d.el (i:Int).toNat 2).toI=(d.el (i:Int).toNat 2).toI/\(d.el (i:Int).toNat 3).toI=(d.el (i:Int).toNat 3).toI/\(d.el (i:Int).toNat 4).toI=(d.el (i:Int).toNat 4).toI/\(d.el (i:Int).toNat 5).toI=(d.el (i:Int).toNat 5).toI/\(d.el (i:Int).toNat 6).toI=(d.el (i:Int).toNat 6).toI/\(d.el (i:Int).toNat 7).rows=(d.el (i:Int).toNat 7).rows/\(d.el (i:Int).toNat 8).toI=(d.el (i:Int).toNat 8).toI/\(d.el (i:Int).toNat 9).toI=(d.el (i:Int).toNat 9).toI/\(d.el (i:Int).toNat 10).toI=(d.el (i:Int).toNat 10).toI/\(d.el (i:Int).toNat 11).toI=(d.el (i:Int).toNat 11).toI/\(d.el (i:Int).toNat 12).rows=(d.el (i:Int).toNat 12).rows/\(d.el (i:Int).toNat 13).toI=(d.el (i:Int).toNat 13).toI/\(d.el (i:Int).toNat 14).toI=(d.el (i:Int).toNat 14).toI/\(d.el (i:Int).toNat 15).toI=(d.el (i:Int).toNat 15).toI/\(d.el (i:Int).toNat 16).rows=(d.el (i:Int).toNat 16).rows/\(d.el (i:Int).toNat 17).rows=(d.el (i:Int).toNat 17).rows/\(d.el (i:Int).toNat 18).rows=(d.el (i:Int).toNat 18).rows/\(d.el (i:Int).toNat 19).rows=(d.el (i:Int).toNat 19).rows)/\(decide ((i_1:Int)<(↑(d.el (i:Int).toNat 19).len:Int))=false->(0:Nat)+i_1<=(cpTo i_1 (a4R (d.el i 19))).len/\i=(cpTo i (s4R d)).len/\(i+((D.l [[D.i (d.el i 0).toI,D.i (d.el i 1).toI,D.i (d.el i 2).toI,D.i (d.el i 3).toI,D.i (d.el i 4).toI,D.i (d.el i 5).toI,D.i (d.el i 6).toI,c4E (d.el i 7),D.i (d.el i 8).toI,D.i (d.el i 9).toI,D.i (d.el i 10).toI,D.i (d.el i 11).toI,c4E (d.el i 12),D.i (d.el i 13).toI,D.i (d.el i 14).toI,D.i (d.el i 15).toI,c4E (d.el i 16),c4B (d.el i 17),c4B (d.el i 18),(cpTo i_1 (a4R (d.el i 19))).sub ((0:Nat)) ((0:Nat)+i_1)]]).sub (0:Nat) 1).len)*(256:Nat)<=(140737488355328:Nat)/\(0:Nat)+(1:Nat)<=(D.l [[D.i (d.el i 0).toI,D.i (d.el i 1).toI,D.i (d.el i 2).toI,D.i (d.el i 3).toI,D.i (d.el i 4).toI,D.i (d.el i 5).toI,D.i (d.el i 6).toI,c4E (d.el i 7),D.i (d.el i 8).toI,D.i (d.el i 9).toI,D.i (d.el i 10).toI,D.i (d.el i 11).toI,c4E (d.el i 12),D.i (d.el i 13).toI,D.i (d.el i 14).toI,D.i (d.el i 15).toI,c4E (d.el i 16),c4B (d.el i 17),c4B (d.el i 18),(cpTo i_1 (a4R (d.el i 19))).sub ((0:Nat)) ((0:Nat)+i_1)]]).len/\∃ (j:Nat),j.le d.len/\d.len+(1:Nat)-j<d.len+(1:Nat)-i/\IntKind.i64.wrap ((i:Int)+(1:Int))=(j:Int)/\i+((D.l [[D.i (d.el i 0).toI,D.i (d.el i 1).toI,D.i (d.el i 2).toI,D.i (d.el i 3).toI,D.i (d.el i 4).toI,D.i (d.el i 5).toI,D.i (d.el i 6).toI,c4E (d.el i 7),D.i (d.el i 8).toI,D.i (d.el i 9).toI,D.i (d.el i 10).toI,D.i (d.el i 11).toI,c4E (d.el i 12),D.i (d.el i 13).toI,D.i (d.el i 14).toI,D.i (d.el i 15).toI,c4E (d.el i 16),c4B (d.el i 17),c4B (d.el i 18),(cpTo i_1 (a4R (d.el i 19))).sub ((0:Nat)) ((0:Nat)+i_1)]]).sub (0:Nat) 1).len=j/\d.rows=d.rows/\List.map (s4R d) (List.range i)++List.drop (0:Nat) (List.take 1 [[D.i (d.el i 0).toI,D.i (d.el i 1).toI,D.i (d.el i 2).toI,D.i (d.el i 3).toI,D.i (d.el i 4).toI,D.i (d.el i 5).toI,D.i (d.el i 6).toI,c4E (d.el i 7),D.i (d.el i 8).toI,D.i (d.el i 9).toI,D.i (d.el i 10).toI,D.i (d.el i 11).toI,c4E (d.el i 12),D.i (d.el i 13).toI,D.i (d.el i 14).toI,D.i (d.el i 15).toI,c4E (d.el i 16),c4B (d.el i 17),c4B (d.el i 18),(cpTo i_1 (a4R (d.el i 19))).sub ((0:Nat)) ((0:Nat)+i_1)]])=List.map (s4R d) (List.range j)))/\(decide ((i:Int)<(d.len:Int))=false->(0:Nat)+i<=(cpTo i (s4R d)).len/\List.drop ((0:Nat)) (List.take ((0:Nat)+i) (List.map (s4R d) (List.range i)))=(c4B d).rows)) (by kernel_rfl) ?_
  intro hm hs;rw [b4S_iff] at hs;obtain ⟨hl,hk⟩:=hs;refine ⟨⟨0,Nat.zero_le _,rfl,rfl,rfl,rfl⟩,fun i hi=>⟨fun hc=>?_,fun hc=>?_⟩⟩
  ·have hc:=of_decide_eq_true hc;have hi2:i<d.len:=by omega
   have hw2:IntKind.i64.wrap ((i:Int)+1)=((i+1:Nat):Int):=by rw [IntWalk.i64_in _ (by omega)];omega
   obtain ⟨a1,a2,a3,b1,b2,am,ab⟩:=hk i hi2;have z1:=lel_lt (j:=17) hi2;have z2:=lel_lt (j:=18) hi2;have z3:=lel_lt (j:=19) hi2;refine ⟨⟨by omega,by omega⟩,a1,a2,a3,(show SizeOf.sizeOf (d.el i 17)<m by omega),b1,(show SizeOf.sizeOf (d.el i 18)<m by omega),b2,⟨0,⟨Nat.zero_le _,trivial⟩,?_⟩,fun q hq=>⟨fun hd=>?_,fun hd=>?_⟩⟩
   ·(repeat' apply And.intro)<;>rfl
   ·have hd:=of_decide_eq_true hd;have hq2:q<(d.el i 19).len:=by have:(q:Int)<((d.el i 19).len:Int):=hd;omega
    have hwq:IntKind.i64.wrap ((q:Int)+1)=((q+1:Nat):Int):=by rw [IntWalk.i64_in _ (by omega)];omega
    have zq:=lel_lt (j:=2) hq2;refine ⟨⟨by omega,hd⟩,⟨by omega,hd⟩,⟨by omega,hd⟩,(show SizeOf.sizeOf ((d.el i 19).el q 2)<m by omega),ab q hq2,(cpTo_len _ _).symm,(show (q+1)*40<=140737488355328 by omega),Nat.le_refl _,q+1,⟨hq2,trivial⟩,by omega,hwq,?_⟩
    (repeat' apply And.intro)<;>first |exact (cpTo_succ q (a4R (d.el i 19))).symm |rfl
   ·have hd:=of_decide_eq_false hd;have hq3:q=(d.el i 19).len:=by have:¬ (q:Int)<((d.el i 19).len:Int):=hd;have:=hq.1;omega
    subst hq3;rw [cpTo_all];exact ⟨by rw [cpTo_len];omega,(cpTo_len _ _).symm,(show (i+1)*256<=140737488355328 by omega),Nat.le_refl _,i+1,hi2,by omega,hw2,rfl,rfl,(cpTo_succ i (s4R d)).symm⟩
  ·have hc:=of_decide_eq_false hc;have hi3:i=d.len:=by have:i<=d.len:=hi;omega
   subst hi3;refine ⟨by rw [cpTo_len];omega,?_⟩;rw [c4B_eq,Nat.zero_add,List.drop_zero,List.take_of_length_le (by simp)];rfl
 ·trivial
theorem s4c_ok:ConOK Tryz.prog 22 s4cC:=
 con_rec s4cM (fun _ _=>by kernel_rfl) fun m ih=>by
  rw [s4c_under] at ih ⊢;exact s4c_step m ih
noncomputable def p4cS:FSpec:=fun ds _=>match ds with
 | [.d ch,.d pr]=>some {val:=.one (.agg [.c (.rows 69 (c4C ch)),.c (.rows 78 (c4P pr))]),vc:=[Sy4 ch pr]}
 |_=>none
noncomputable def p4cC:Con:=con [.agg [.c (.rows 46),.c (.rows 51)]] p4cS
set_option maxRecDepth 100000 in
theorem p4c_ok:ConOK Tryz.prog 10 p4cC:=by
 refine fn_ob tt_ok mixed Tryz.func10 rfl (fun _ _=>by kernel_rfl) (A:=fun ds=>⟨fun _=>Cons.of [(22,s4cC)],fun k=>match k,ds with | 3,[.d ch,.d pr]=>some {ι:=Nat,pre:=fun _ i=>i<=ch.len,μ:=fun i=>ch.len+1-i,st:=fun s i=>famR s [(4,.one (.sc (.int .i64 (.sym ((i:Nat))))))] [1,2,3] [(idOf s 3,.own 31 ([.c (.osl 69 (s.nx-1) (.lit 0) (.sym (i))),.c .nils])),(s.nx-1,.orow 69 (cpTo (i) (ch4 ch)))] [1,2]} | 8,[.d ch,.d pr]=>some {ι:=Nat,pre:=fun s q=>q<=(ch.el (slotN s 4) 5).len/\True,μ:=fun q=>8000000000000-q,st:=fun s q=>famR s [(7,.one (.sc (.int .i64 (.sym ((q:Nat))))))] [1,2,3,4,5,6] [(idOf s 6,.own 69 ([.c (.int .i64 (.sym ((ch.el (slotN s 4) 0).toI))),.c (.int .i64 (.sym ((ch.el (slotN s 4) 1).toI))),.c (.int .i64 (.sym ((ch.el (slotN s 4) 2).toI))),.c (.int .i64 (.sym ((ch.el (slotN s 4) 3).toI))),.c (.int .i64 (.sym ((ch.el (slotN s 4) 4).toI))),.c (.osl 47 (s.nx-1) (.lit 0) (.sym (q)))])),(s.nx-1,.orow 47 (cpTo q (rl4 (ch.el (slotN s 4) 5)))),(cellId s 3 0,.orow 69 (cpTo (slotN s 4) (ch4 ch)))] [1,2,3,5]} | 13,[.d ch,.d pr]=>some {ι:=Nat,pre:=fun _ i=>i<=pr.len,μ:=fun i=>pr.len+1-i,st:=fun s i=>famR s [(8,.one (.sc (.int .i64 (.sym ((i:Nat))))))] [1,2,3] [(idOf s 3,.own 31 ([.c (.osl 69 (cellId s 3 0) (.lit 0) (.sym (ch.len))),.c (.osl 78 (s.nx-1) (.lit 0) (.sym (i)))])),(cellId s 3 0,.orow 69 (cpTo (ch.len) (ch4 ch))),(s.nx-1,.orow 78 (cpTo (i) (pr4 pr)))] [1,2]} |_,_=>none,fun _=>none⟩) (fun _ _=>(cons_cons s4c_ok cons_nil)) (by kernel_rfl) ?_
 intro ds fr;unfold p4cS;split
 ·rename_i ch pr
  refine @kmp _ (Sy4 ch pr->(∃ (i:Nat),i.le ch.len/\(0:Int)=(i:Int)/\i=(0:Nat)/\List.map (ch4 ch) (List.range i)=[]/\ch.rows=ch.rows/\pr.rows=pr.rows)/\∀ (i:Nat),i.le ch.len->(decide ((i:Int)<(ch.len:Int))=true->((0:Int)<=(i:Int)/\(i:Int)<(ch.len:Int))/\(∃ (i_1:Nat),(i_1<=(ch.el i 5).len/\True)/\(0:Int)=(i_1:Int)/\(i:Int)=(i:Int)/\(ch.el (i:Int).toNat 0).toI=(ch.el i 0).toI/\(ch.el (i:Int).toNat 1).toI=(ch.el i 1).toI/\(ch.el (i:Int).toNat 2).toI=(ch.el i 2).toI/\(ch.el (i:Int).toNat 3).toI=(ch.el i 3).toI/\(ch.el (i:Int).toNat 4).toI=(ch.el i 4).toI/\i_1=(0:Nat)/\List.map (rl4 (ch.el i 5)) (List.range i_1)=[]/\List.map (ch4 ch) (List.range i)=List.map (ch4 ch) (List.range i)/\ch.rows=ch.rows/\pr.rows=pr.rows/\i=i/\(ch.el (i:Int).toNat 0).toI=(ch.el (i:Int).toNat 0).toI/\(ch.el (i:Int).toNat 1).toI=(ch.el (i:Int).toNat 1).toI/\(ch.el (i:Int).toNat 2).toI=(ch.el (i:Int).toNat 2).toI/\(ch.el (i:Int).toNat 3).toI=(ch.el (i:Int).toNat 3).toI/\(ch.el (i:Int).toNat 4).toI=(ch.el (i:Int).toNat 4).toI/\(ch.el (i:Int).toNat 5).rows=(ch.el (i:Int).toNat 5).rows)/\∀ (i_1:Nat),i_1<=(ch.el i 5).len/\True->(decide ((i_1:Int)<(↑(ch.el (i:Int).toNat 5).len:Int))=true->((0:Int)<=(i_1:Int)/\(i_1:Int)<(↑(ch.el (i:Int).toNat 5).len:Int))/\(0:Nat)=(D.l []).len/\((0:Nat)+((ch.el (i:Int).toNat 5).el (i_1:Int).toNat 0).len)*(8:Nat)<=(140737488355328:Nat)/\(0:Nat)+((0:Nat)+((ch.el (i:Int).toNat 5).el (i_1:Int).toNat 0).len)<=((D.l []).app ((ch.el (i:Int).toNat 5).el (i_1:Int).toNat 0)).len/\i_1=(cpTo i_1 (rl4 (ch.el i 5))).len/\(i_1+((D.l [[((D.l []).app ((ch.el (i:Int).toNat 5).el (i_1:Int).toNat 0)).sub (0:Nat) ((0:Nat)+((0:Nat)+((ch.el (i:Int).toNat 5).el (i_1:Int).toNat 0).len))]]).sub (0:Nat) 1).len)*(24:Nat)<=(140737488355328:Nat)/\(0:Nat)+(1:Nat)<=(D.l [[((D.l []).app ((ch.el (i:Int).toNat 5).el (i_1:Int).toNat 0)).sub (0:Nat) ((0:Nat)+((0:Nat)+((ch.el (i:Int).toNat 5).el (i_1:Int).toNat 0).len))]]).len/\∃ (j:Nat),(j<=(ch.el i 5).len/\True)/\(8000000000000:Nat)-j<(8000000000000:Nat)-i_1/\IntKind.i64.wrap ((i_1:Int)+(1:Int))=(j:Int)/\(i:Int)=(i:Int)/\(ch.el i 0).toI=(ch.el i 0).toI/\(ch.el i 1).toI=(ch.el i 1).toI/\(ch.el i 2).toI=(ch.el i 2).toI/\(ch.el i 3).toI=(ch.el i 3).toI/\(ch.el i 4).toI=(ch.el i 4).toI/\i_1+((D.l [[((D.l []).app ((ch.el (i:Int).toNat 5).el (i_1:Int).toNat 0)).sub (0:Nat) ((0:Nat)+((0:Nat)+((ch.el (i:Int).toNat 5).el (i_1:Int).toNat 0).len))]]).sub (0:Nat) 1).len=j/\List.map (rl4 (ch.el i 5)) (List.range i_1)++List.drop (0:Nat) (List.take 1 [[((D.l []).app ((ch.el (i:Int).toNat 5).el (i_1:Int).toNat 0)).sub (0:Nat) ((0:Nat)+((0:Nat)+((ch.el (i:Int).toNat 5).el (i_1:Int).toNat 0).len))]])=List.map (rl4 (ch.el i 5)) (List.range j)/\List.map (ch4 ch) (List.range i)=List.map (ch4 ch) (List.range i)/\ch.rows=ch.rows/\pr.rows=pr.rows/\i=i/\(ch.el (i:Int).toNat 0).toI=(ch.el (i:Int).toNat 0).toI/\(ch.el (i:Int).toNat 1).toI=(ch.el (i:Int).toNat 1).toI/\(ch.el (i:Int).toNat 2).toI=(ch.el (i:Int).toNat 2).toI/\(ch.el (i:Int).toNat 3).toI=(ch.el (i:Int).toNat 3).toI/\(ch.el (i:Int).toNat 4).toI=(ch.el (i:Int).toNat 4).toI/\(ch.el (i:Int).toNat 5).rows=(ch.el (i:Int).toNat 5).rows)/\(decide ((i_1:Int)<(↑(ch.el (i:Int).toNat 5).len:Int))=false->(0:Nat)+i_1<=(cpTo i_1 (rl4 (ch.el i 5))).len/\i=(cpTo i (ch4 ch)).len/\(i+((D.l [[D.i (ch.el i 0).toI,D.i (ch.el i 1).toI,D.i (ch.el i 2).toI,D.i (ch.el i 3).toI,D.i (ch.el i 4).toI,(cpTo i_1 (rl4 (ch.el i 5))).sub ((0:Nat)) ((0:Nat)+i_1)]]).sub (0:Nat) 1).len)*(64:Nat)<=(140737488355328:Nat)/\(0:Nat)+(1:Nat)<=(D.l [[D.i (ch.el i 0).toI,D.i (ch.el i 1).toI,D.i (ch.el i 2).toI,D.i (ch.el i 3).toI,D.i (ch.el i 4).toI,(cpTo i_1 (rl4 (ch.el i 5))).sub ((0:Nat)) ((0:Nat)+i_1)]]).len/\∃ (j:Nat),j.le ch.len/\ch.len+(1:Nat)-j<ch.len+(1:Nat)-i/\IntKind.i64.wrap ((i:Int)+(1:Int))=(j:Int)/\i+((D.l [[D.i (ch.el i 0).toI,D.i (ch.el i 1).toI,D.i (ch.el i 2).toI,D.i (ch.el i 3).toI,D.i (ch.el i 4).toI,(cpTo i_1 (rl4 (ch.el i 5))).sub ((0:Nat)) ((0:Nat)+i_1)]]).sub (0:Nat) 1).len=j/\List.map (ch4 ch) (List.range i)++List.drop (0:Nat) (List.take 1 [[D.i (ch.el i 0).toI,D.i (ch.el i 1).toI,D.i (ch.el i 2).toI,D.i (ch.el i 3).toI,D.i (ch.el i 4).toI,(cpTo i_1 (rl4 (ch.el i 5))).sub ((0:Nat)) ((0:Nat)+i_1)]])=List.map (ch4 ch) (List.range j)/\ch.rows=ch.rows/\pr.rows=pr.rows))/\(decide ((i:Int)<(ch.len:Int))=false->(∃ (i_1:Nat),i_1.le pr.len/\(0:Int)=(i_1:Int)/\i=ch.len/\i_1=(0:Nat)/\List.map (ch4 ch) (List.range i)=List.map (ch4 ch) (List.range ch.len)/\List.map (pr4 pr) (List.range i_1)=[]/\ch.rows=ch.rows/\pr.rows=pr.rows)/\∀ (i:Nat),i.le pr.len->(decide ((i:Int)<(pr.len:Int))=true->((0:Int)<=(i:Int)/\(i:Int)<(pr.len:Int))/\((0:Int)<=(i:Int)/\(i:Int)<(pr.len:Int))/\b4S (pr.el (i:Int).toNat 1)/\i=(cpTo i (pr4 pr)).len/\(i+((D.l [[D.i (pr.el (i:Int).toNat ((0:Nat)+(0:Nat))).toI,c4B (pr.el (i:Int).toNat 1)]]).sub (0:Nat) 1).len)*(32:Nat)<=(140737488355328:Nat)/\(0:Nat)+(1:Nat)<=(D.l [[D.i (pr.el (i:Int).toNat ((0:Nat)+(0:Nat))).toI,c4B (pr.el (i:Int).toNat 1)]]).len/\∃ (j:Nat),j.le pr.len/\pr.len+(1:Nat)-j<pr.len+(1:Nat)-i/\IntKind.i64.wrap ((i:Int)+(1:Int))=(j:Int)/\ch.len=ch.len/\i+((D.l [[D.i (pr.el (i:Int).toNat ((0:Nat)+(0:Nat))).toI,c4B (pr.el (i:Int).toNat 1)]]).sub (0:Nat) 1).len=j/\List.map (ch4 ch) (List.range ch.len)=List.map (ch4 ch) (List.range ch.len)/\List.map (pr4 pr) (List.range i)++List.drop (0:Nat) (List.take 1 [[D.i (pr.el (i:Int).toNat ((0:Nat)+(0:Nat))).toI,c4B (pr.el (i:Int).toNat 1)]])=List.map (pr4 pr) (List.range j)/\ch.rows=ch.rows/\pr.rows=pr.rows)/\(decide ((i:Int)<(pr.len:Int))=false->(0:Nat)+ch.len<=(cpTo ch.len (ch4 ch)).len/\(0:Nat)+i<=(cpTo i (pr4 pr)).len/\List.drop ((0:Nat)) (List.take ((0:Nat)+ch.len) (List.map (ch4 ch) (List.range ch.len)))=List.map (ch4 ch) (List.range ch.len)/\List.drop ((0:Nat)) (List.take ((0:Nat)+i) (List.map (pr4 pr) (List.range i)))=List.map (pr4 pr) (List.range pr.len)))) (by kernel_rfl) ?_
  intro hs;refine ⟨⟨0,Nat.zero_le _,by (repeat' apply And.intro)<;>rfl⟩,fun i hi=>⟨fun hc=>?_,fun hc=>?_⟩⟩
  ·have hc:=of_decide_eq_true hc;have hi2:i<ch.len:=by omega
   have b1:=hs.c;have b2:=hs.r i hi2;have hw2:=k_nx (i:=i) (by omega);refine ⟨⟨by omega,by omega⟩,⟨0,⟨Nat.zero_le _,trivial⟩,by (repeat' apply And.intro)<;>rfl⟩,fun q hq=>⟨fun hd=>?_,fun hd=>?_⟩⟩
   ·have hd:=of_decide_eq_true hd;have hq2:q<(ch.el i 5).len:=by have:(q:Int)<((ch.el i 5).len:Int):=hd;omega
    have hwq:=k_nx (i:=q) (by omega);have b3:=hs.rr i hi2 q hq2;rw [nD_app];refine ⟨⟨by omega,hd⟩,rfl,(show (0+((ch.el i 5).el q 0).len)*8<=140737488355328 by omega),app_le _,(cpTo_len _ _).symm,(show (q+1)*24<=140737488355328 by omega),Nat.le_refl _,q+1,⟨hq2,trivial⟩,by omega,hwq,?_⟩
    (repeat' apply And.intro)<;>first |exact (cpTo_succ q (rl4 (ch.el i 5))).symm |rfl
   ·have hd:=of_decide_eq_false hd;have hq3:q=(ch.el i 5).len:=by have:¬ (q:Int)<((ch.el i 5).len:Int):=hd;have:=hq.1;omega
    subst hq3;rw [cpTo_all];refine ⟨by rw [cpTo_len];omega,(cpTo_len _ _).symm,(show (i+1)*64<=140737488355328 by omega),Nat.le_refl _,i+1,hi2,by omega,hw2,?_⟩
    (repeat' apply And.intro)<;>first |exact (cpTo_succ i (ch4 ch)).symm |rfl
  ·have hc:=of_decide_eq_false hc;have hi3:i=ch.len:=by have:i<=ch.len:=hi;omega
   subst hi3;refine ⟨⟨0,Nat.zero_le _,by (repeat' apply And.intro)<;>rfl⟩,fun i hi=>⟨fun hc=>?_,fun hc=>?_⟩⟩
   ·have hc:=of_decide_eq_true hc;have hi2:i<pr.len:=by omega
    have b1:=hs.p;have hw2:=k_nx (i:=i) (by omega);refine ⟨⟨by omega,by omega⟩,⟨by omega,by omega⟩,hs.b i hi2,(cpTo_len _ _).symm,(show (i+1)*32<=140737488355328 by omega),Nat.le_refl _,i+1,hi2,by omega,hw2,?_⟩
    (repeat' apply And.intro)<;>first |exact (cpTo_succ i (pr4 pr)).symm |rfl
   ·have hc:=of_decide_eq_false hc;have hi3:i=pr.len:=by have:i<=pr.len:=hi;omega
    subst hi3;exact ⟨by rw [cpTo_len];omega,by rw [cpTo_len];omega,takeAll _ _,takeAll _ _⟩
 ·trivial
end Go.Proofs.YtcfkhnlkfgmoiaaGreatDoor.Sx.Z
namespace Go.Proofs.YtcfkhnlkfgmoiaaGreatDoor.Sx.Z
open Go.RowKit
def eqS (a b:ByteArray):Bool:=a.toList==b.toList
def ixN (d:D) (s:ByteArray):Int:=ixF (fun j=>eqS s (d.el j 0).toS) d.len
def twK (d:D):Bool:=(List.range d.len).any fun i=>(List.range i).any fun j=>eqS (d.el i 0).toS (d.el j 0).toS
def twI (d:D) (i:Nat):Bool:=(List.range i).any fun j=>eqS (d.el i 0).toS (d.el j 0).toS
theorem any_no {n:Nat} {f:Nat->Bool} (h:∀ j,j<n->f j=false):(List.range n).any f=false:=by
 rw [List.any_eq_false];intro j hj;rw [h j (List.mem_range.1 hj)]
 decide
theorem any_yes {n i:Nat} {f:Nat->Bool} (hi:i<n) (h:f i=true):(List.range n).any f=true:=List.any_eq_true.2 ⟨i,List.mem_range.2 hi,h⟩
theorem any_sub {d:D} {n:Nat} (h:n<=d.len) (f:D->Bool):((List.range (d.sub 0 n).len).any fun j=>f ((d.sub 0 n).el j 0))=(List.range n).any fun j=>f (d.el j 0):=by
 rw [D.sub_len d h,Nat.sub_zero,Bool.eq_iff_iff,List.any_eq_true,List.any_eq_true];constructor
 ·rintro ⟨j,h1,h2⟩;have hj:=List.mem_range.1 h1;rw [D.sub_el d (by omega),Nat.zero_add] at h2;exact ⟨j,h1,h2⟩
 ·rintro ⟨j,h1,h2⟩;have hj:=List.mem_range.1 h1;refine ⟨j,h1,?_⟩;rw [D.sub_el d (by omega),Nat.zero_add];exact h2
def ixC (d:D) (s:ByteArray):Int:=ixF (fun j=>eqS (d.el j 0).toS s) d.len
def cChn (d:D) (i:Nat):List D:=[D.s (d.el i 0).toS,D.i (d.el i 1).toI,D.i (d.el i 2).toI,D.s (d.el i 3).toS,D.s (d.el i 4).toS,d.el i 5]
def cPrn (d:D) (i:Nat):List D:=[D.s (d.el i 0).toS,d.el i 1,d.el i 2]
def nmQ (s:ByteArray) (l:List D):Bool:=eqS (l.getD 0 (.i 0)).toS s
noncomputable def ixsS:FSpec:=fun ds _=>match ds with
 | [.d d,.s s]=>some {val:=.one (.sc (.int .i64 (.sym (ixN d s)))),vc:=[d.len<=4000000000000]}
 |_=>none
noncomputable def ixsC:Con:=con [.sc (.rows 9),.sc .str] ixsS
theorem ixs_ok:ConOK Tryz.prog 106 ixsC:=by
 refine fn_ob tt_ok mixed Tryz.func106 rfl (fun _ _=>by kernel_rfl) (A:=fun ds=>⟨fun _=>Cons.of [],fun k=>match k,ds with | 2,[.d d,.s s]=>some {ι:=Nat,pre:=fun _ i=>i<=d.len/\∀ j,j<i->eqS s (d.el j 0).toS=false,μ:=fun i=>d.len+1-i,st:=fun s i=>famR s [(8,.one (.sc (.int .i64 (.sym ((i:Nat))))))] [0,1,6,7] [] []} |_,_=>none,fun _=>none⟩) (fun _ _=>cons_nil) (by kernel_rfl) ?_
 intro ds fr;unfold ixsS;split
 ·rename_i d s;refine kmp (q:=d.len<=4000000000000->(∃ (i:Nat),(i<=d.len/\∀ (j:Nat),j<i->eqS s (d.el j 0).toS=false)/\(0:Int)=(i:Int)/\d.rows=d.rows/\Value.string s=Value.string s/\d.rows=d.rows/\(d.len:Int)=(d.len:Int))/\∀ (i:Nat),(i<=d.len/\∀ (j:Nat),j<i->eqS s (d.el j 0).toS=false)->(decide ((i:Int)<(d.len:Int))=true->((0:Int)<=(i:Int)/\(i:Int)<(d.len:Int))/\((s.toList==(d.el (i:Int).toNat 0).toS.toList)=true->(i:Int)=ixN d s)/\((s.toList==(d.el (i:Int).toNat 0).toS.toList)=false->∃ (j:Nat),(j<=d.len/\∀ (j_1:Nat),j_1<j->eqS s (d.el j_1 0).toS=false)/\d.len+(1:Nat)-j<d.len+(1:Nat)-i/\IntKind.i64.wrap ((i:Int)+(1:Int))=(j:Int)/\d.rows=d.rows/\Value.string s=Value.string s/\d.rows=d.rows/\(d.len:Int)=(d.len:Int)))/\(decide ((i:Int)<(d.len:Int))=false->(-1:Int)=ixN d s)) (by kernel_rfl) ?_
  intro hl;simp only [Nat.reduceAdd,Nat.zero_add,k_n];refine ⟨⟨0,⟨Nat.zero_le _,fun j hj=>absurd hj (Nat.not_lt_zero j)⟩,rfl,(by (repeat' (with_reducible apply And.intro))<;>first |exact True.intro |rfl)⟩,fun i hp=>⟨fun hc=>?_,fun hc=>?_⟩⟩
  ·have hc:=of_decide_eq_true hc;have hi:i<d.len:=by omega
   refine ⟨⟨by omega,by omega⟩,fun hq=>(ixF_hit hi hq hp.2).symm,fun hq=>⟨i+1,⟨hi,fun j hj=>?_⟩,by omega,k_nx (by omega),(by (repeat' (with_reducible apply And.intro))<;>first |exact True.intro |rfl)⟩⟩
   rcases Nat.lt_or_ge j i with h |h
   ·exact hp.2 j h
   ·obtain rfl:j=i:=by omega
    exact hq
  ·have hc:=of_decide_eq_false hc;exact (ixF_no fun j hj=>hp.2 j (by omega)).symm
 ·trivial
noncomputable def cnsS:FSpec:=fun ds _=>match ds with
 | [.d d,.s s]=>some {val:=.one (.sc (.bool (.sym ((List.range d.len).any fun j=>eqS s (d.el j 0).toS)))),vc:=[d.len<=4000000000000]}
 |_=>none
noncomputable def cnsC:Con:=con [.sc (.rows 9),.sc .str] cnsS
theorem cns_ok:ConOK Tryz.prog 107 cnsC:=by
 refine fn_ob tt_ok mixed Tryz.func107 rfl (fun _ _=>by kernel_rfl) (A:=fun ds=>⟨fun _=>Cons.of [(106,ixsC)],fun _=>none,fun _=>none⟩) (fun _ _=>(cons_cons ixs_ok cons_nil)) (by kernel_rfl) ?_
 intro ds fr;unfold cnsS;split
 ·rename_i d s;refine kmp (q:=d.len<=4000000000000->d.len<=4000000000000/\decide (ixN d s>=(0:Int))=(List.range d.len).any fun (j:Nat)=>eqS s (d.el j 0).toS) (by kernel_rfl) ?_
  intro hl;exact ⟨hl,ixF_any _ _⟩
 ·trivial
noncomputable def atwS:FSpec:=fun ds _=>match ds with
 | [.d d]=>some {val:=.one (.sc (.bool (.sym (twK d)))),vc:=[d.len<=4000000000000]}
 |_=>none
noncomputable def atwC:Con:=con [.sc (.rows 9)] atwS
theorem atw_ok:ConOK Tryz.prog 61 atwC:=by
 refine fn_ob tt_ok mixed Tryz.func61 rfl (fun _ _=>by kernel_rfl) (A:=fun ds=>⟨fun _=>Cons.of [(107,cnsC)],fun k=>match k,ds with | 2,[.d d]=>some {ι:=Nat,pre:=fun _ i=>i<=d.len/\∀ j,j<i->twI d j=false,μ:=fun i=>d.len+1-i,st:=fun s i=>famR s [(7,.one (.sc (.int .i64 (.sym ((i:Nat))))))] [0,5,6] [] []} |_,_=>none,fun _=>none⟩) (fun _ _=>(cons_cons cns_ok cons_nil)) (by kernel_rfl) ?_
 intro ds fr;unfold atwS;split
 ·rename_i d;refine kmp (q:=d.len<=4000000000000->(∃ (i:Nat),(i<=d.len/\∀ (j:Nat),j<i->twI d j=false)/\(0:Int)=(i:Int)/\d.rows=d.rows/\d.rows=d.rows/\(d.len:Int)=(d.len:Int))/\∀ (i:Nat),(i<=d.len/\∀ (j:Nat),j<i->twI d j=false)->(decide ((i:Int)<(d.len:Int))=true->((0:Int)<=(i:Int)/\(i:Int)<(d.len:Int))/\((0:Int)<=(i:Int)/\(i:Int)<=(d.len:Int))/\(d.sub (0:Nat) (i:Int).toNat).len<=4000000000000/\(((List.range (d.sub (0:Nat) (i:Int).toNat).len).any fun (j:Nat)=>eqS (d.el (i:Int).toNat 0).toS ((d.sub (0:Nat) (i:Int).toNat).el j 0).toS)=true->true=twK d)/\(((List.range (d.sub (0:Nat) (i:Int).toNat).len).any fun (j:Nat)=>eqS (d.el (i:Int).toNat 0).toS ((d.sub (0:Nat) (i:Int).toNat).el j 0).toS)=false->∃ (j:Nat),(j<=d.len/\∀ (j_1:Nat),j_1<j->twI d j_1=false)/\d.len+(1:Nat)-j<d.len+(1:Nat)-i/\IntKind.i64.wrap ((i:Int)+(1:Int))=(j:Int)/\d.rows=d.rows/\d.rows=d.rows/\(d.len:Int)=(d.len:Int)))/\(decide ((i:Int)<(d.len:Int))=false->false=twK d)) (by kernel_rfl) ?_
  intro hl;simp only [Nat.reduceAdd,Nat.zero_add,k_n];refine ⟨⟨0,⟨Nat.zero_le _,fun j hj=>absurd hj (Nat.not_lt_zero j)⟩,rfl,(by (repeat' (with_reducible apply And.intro))<;>first |exact True.intro |rfl)⟩,fun i hp=>⟨fun hc=>?_,fun hc=>?_⟩⟩
  ·have hc:=of_decide_eq_true hc;have hi:i<d.len:=by omega
   have e:=any_sub (d:=d) (n:=i) (by omega) (fun x=>eqS (d.el i 0).toS x.toS);have l:=D.sub_len d (l:=0) (h:=i) (by omega);rw [e,l];refine ⟨⟨by omega,by omega⟩,⟨by omega,by omega⟩,by omega,fun hq=>?_,fun hq=>⟨i+1,⟨hi,fun j hj=>?_⟩,by omega,k_nx (by omega),(by (repeat' (with_reducible apply And.intro))<;>first |exact True.intro |rfl)⟩⟩
   ·exact (any_yes (f:=twI d) hi hq).symm
   ·rcases Nat.lt_or_ge j i with h |h
    ·exact hp.2 j h
    ·obtain rfl:j=i:=by omega
     exact hq
  ·have hc:=of_decide_eq_false hc;exact (any_no (f:=twI d) fun j hj=>hp.2 j (by omega)).symm
 ·trivial
noncomputable def ixcS:FSpec:=fun ds _=>match ds with
 | [.d d,.q p ok]=>some {val:=.one (.sc (.int .i64 (.sym (ixF (fun i=>p (cChn d i)) d.len)))),vc:=[d.len<=4000000000000,∀ i,i<d.len->ok (cChn d i)]}
 |_=>none
noncomputable def ixcC:Con:=con [.sc (.rows 118),.sc (.fn true 118)] ixcS
theorem ixc_ok:ConOK Tryz.prog 103 ixcC:=by
 refine fn_ob tt_ok mixed Tryz.func103 rfl (fun _ _=>by kernel_rfl) (A:=fun ds=>⟨fun _=>Cons.of [],fun k=>match k,ds with | 2,[.d d,.q p ok]=>some {ι:=Nat,pre:=fun _ i=>i<=d.len/\∀ j,j<i->p (cChn d j)=false,μ:=fun i=>d.len-i,st:=fun s i=>famR s [(8,.one (.sc (.int .i64 (.sym ((i:Int))))))] [0,1,7] [] []} |_,_=>none,fun _=>none⟩) (fun _ _=>cons_nil) (by kernel_rfl) ?_
 intro ds fr;unfold ixcS;split
 ·rename_i d p ok;refine kmp (q:=d.len<=4000000000000->(∀ (i:Nat),i<d.len->ok (cChn d i))->(∃ (i:Nat),(i<=d.len/\∀ (j:Nat),j<i->p (cChn d j)=false)/\(0:Int)=(i:Int)/\d.rows=d.rows/\p=p/\ok=ok/\(d.len:Int)=(d.len:Int))/\∀ (i:Nat),(i<=d.len/\∀ (j:Nat),j<i->p (cChn d j)=false)->(decide ((i:Int)<(d.len:Int))=true->((0:Int)<=(i:Int)/\(i:Int)<(d.len:Int))/\ok [D.s (d.el (i:Int).toNat 0).toS,D.i (d.el (i:Int).toNat 1).toI,D.i (d.el (i:Int).toNat 2).toI,D.s (d.el (i:Int).toNat 3).toS,D.s (d.el (i:Int).toNat 4).toS,d.el (i:Int).toNat 5]/\(p [D.s (d.el (i:Int).toNat 0).toS,D.i (d.el (i:Int).toNat 1).toI,D.i (d.el (i:Int).toNat 2).toI,D.s (d.el (i:Int).toNat 3).toS,D.s (d.el (i:Int).toNat 4).toS,d.el (i:Int).toNat 5]=true->(i:Int)=ixF (fun (i:Nat)=>p (cChn d i)) d.len)/\(p [D.s (d.el (i:Int).toNat 0).toS,D.i (d.el (i:Int).toNat 1).toI,D.i (d.el (i:Int).toNat 2).toI,D.s (d.el (i:Int).toNat 3).toS,D.s (d.el (i:Int).toNat 4).toS,d.el (i:Int).toNat 5]=false->∃ (j:Nat),(j<=d.len/\∀ (j_1:Nat),j_1<j->p (cChn d j_1)=false)/\d.len-j<d.len-i/\IntKind.i64.wrap ((i:Int)+(1:Int))=(j:Int)/\d.rows=d.rows/\p=p/\ok=ok/\(d.len:Int)=(d.len:Int)))/\(decide ((i:Int)<(d.len:Int))=false->(-1:Int)=ixF (fun (i:Nat)=>p (cChn d i)) d.len)) (by kernel_rfl) ?_
  intro hc ho;have e0:∀ (i:Nat),((i:Int)).toNat=i:=fun i=>Int.toNat_natCast i
  refine ⟨⟨0,⟨Nat.zero_le _,fun j hj=>absurd hj (Nat.not_lt_zero j)⟩,rfl,rfl,rfl,rfl,rfl⟩,fun i hp=>⟨fun hl=>?_,fun hl=>?_⟩⟩
  ·have hi:i<d.len:=by have:=of_decide_eq_true hl;omega
   refine ⟨⟨by omega,by omega⟩,by simp only [e0];exact ho i hi,fun hq=>?_,fun hq=>?_⟩
   ·simp only [e0] at hq;exact (ixF_hit hi hq hp.2).symm
   ·simp only [e0] at hq;have hw:IntKind.i64.wrap ((i:Int)+1)=((i+1:Nat):Int):=by rw [IntWalk.i64_in _ (by omega)];omega
    refine ⟨i+1,⟨by omega,fun j hj=>?_⟩,by omega,hw,rfl,rfl,rfl,rfl⟩
    rcases Nat.lt_or_ge j i with h |h
    ·exact hp.2 j h
    ·obtain rfl:j=i:=by omega
     exact hq
  ·have hi:¬ i<d.len:=by have:=of_decide_eq_false hl;omega
   exact (ixF_no fun j hj=>hp.2 j (by omega)).symm
 ·trivial
noncomputable def chanAt1S:FSpec:=fun ds _=>match ds with
 | [.s nm,.i ck,.i cz,.s cf,.s ct,.d tg,.s s]=>some {val:=.one (.sc (.bool (.sym (eqS nm s)))),vc:=[]}
 |_=>none
noncomputable def chanAt1C:Con:=con [.agg [.c .str,.c (.int .i64),.c (.int .i64),.c .str,.c .str,.c (.rows 9)],.sc (.pt .str)] chanAt1S
theorem chanAt1_ok:ConOK Tryz.prog 104 chanAt1C:=by
 refine fn_ob tt_ok mixed Tryz.func104 rfl (fun _ _=>by kernel_rfl) (A:=fun ds=>⟨fun _=>Cons.of [],fun _=>none,fun _=>none⟩) (fun _ _=>cons_nil) (by kernel_rfl) ?_
 intro ds fr;unfold chanAt1S;split
 ·rename_i nm ck cz cf ct tg s;refine kmp (q:=(nm.toList==s.toList)=eqS nm s) (by kernel_rfl) ?_
  rfl
 ·trivial
def chanAt1F:FC:=⟨.str,true,118,fun d=>match d with | .s a=>some (nmQ a,okK0) |_=>none⟩
noncomputable def chanAt1K:Con:=conF chanAt1F chanAt1C
theorem chanAt1K_ok:ConOK Tryz.prog 104 chanAt1K:=
 conF_ok chanAt1_ok (fc_ok (ks:=eks 118) rfl rfl (fun h=>by cases h) chanAt1_ok rfl fun d q h l _=>by
  cases d with
  |s a=>
   obtain rfl:=Option.some.inj h;exact ⟨_,rfl,trivial⟩
  |_=>cases h)
noncomputable def chanAtS:FSpec:=fun ds _=>match ds with
 | [.d d,.s s]=>some {val:=.one (.sc (.int .i64 (.sym (ixC d s)))),vc:=[d.len<=4000000000000]}
 |_=>none
noncomputable def chanAtC:Con:=con [.sc (.rows 118),.sc .str] chanAtS
theorem chanAt_ok:ConOK Tryz.prog 59 chanAtC:=by
 refine fn_ob tt_ok mixed Tryz.func59 rfl (fun _ _=>by kernel_rfl) (A:=fun ds=>⟨fun _=>Cons.of [(104,chanAt1K),(103,ixcC)],fun _=>none,fun _=>none⟩) (fun _ _=>(cons_cons chanAt1K_ok (cons_cons ixc_ok cons_nil))) (by kernel_rfl) ?_
 intro ds fr;unfold chanAtS;split
 ·rename_i d s;refine kmp (q:=d.len<=4000000000000->d.len<=4000000000000/\(∀ (i:Nat),i<d.len->okK0 (cChn d i))/\ixF (fun (i:Nat)=>nmQ s (cChn d i)) d.len=ixC d s) (by kernel_rfl) ?_
  intro h;exact ⟨h,fun _ _=>trivial,rfl⟩
 ·trivial
noncomputable def ixpS:FSpec:=fun ds _=>match ds with
 | [.d d,.q p ok]=>some {val:=.one (.sc (.int .i64 (.sym (ixF (fun i=>p (cPrn d i)) d.len)))),vc:=[d.len<=4000000000000,∀ i,i<d.len->ok (cPrn d i)]}
 |_=>none
noncomputable def ixpC:Con:=con [.sc (.rows 126),.sc (.fn true 126)] ixpS
theorem ixp_ok:ConOK Tryz.prog 101 ixpC:=by
 refine fn_ob tt_ok mixed Tryz.func101 rfl (fun _ _=>by kernel_rfl) (A:=fun ds=>⟨fun _=>Cons.of [],fun k=>match k,ds with | 2,[.d d,.q p ok]=>some {ι:=Nat,pre:=fun _ i=>i<=d.len/\∀ j,j<i->p (cPrn d j)=false,μ:=fun i=>d.len-i,st:=fun s i=>famR s [(8,.one (.sc (.int .i64 (.sym ((i:Int))))))] [0,1,7] [] []} |_,_=>none,fun _=>none⟩) (fun _ _=>cons_nil) (by kernel_rfl) ?_
 intro ds fr;unfold ixpS;split
 ·rename_i d p ok;refine kmp (q:=d.len<=4000000000000->(∀ (i:Nat),i<d.len->ok (cPrn d i))->(∃ (i:Nat),(i<=d.len/\∀ (j:Nat),j<i->p (cPrn d j)=false)/\(0:Int)=(i:Int)/\d.rows=d.rows/\p=p/\ok=ok/\(d.len:Int)=(d.len:Int))/\∀ (i:Nat),(i<=d.len/\∀ (j:Nat),j<i->p (cPrn d j)=false)->(decide ((i:Int)<(d.len:Int))=true->((0:Int)<=(i:Int)/\(i:Int)<(d.len:Int))/\ok [D.s (d.el (i:Int).toNat 0).toS,d.el (i:Int).toNat 1,d.el (i:Int).toNat 2]/\(p [D.s (d.el (i:Int).toNat 0).toS,d.el (i:Int).toNat 1,d.el (i:Int).toNat 2]=true->(i:Int)=ixF (fun (i:Nat)=>p (cPrn d i)) d.len)/\(p [D.s (d.el (i:Int).toNat 0).toS,d.el (i:Int).toNat 1,d.el (i:Int).toNat 2]=false->∃ (j:Nat),(j<=d.len/\∀ (j_1:Nat),j_1<j->p (cPrn d j_1)=false)/\d.len-j<d.len-i/\IntKind.i64.wrap ((i:Int)+(1:Int))=(j:Int)/\d.rows=d.rows/\p=p/\ok=ok/\(d.len:Int)=(d.len:Int)))/\(decide ((i:Int)<(d.len:Int))=false->(-1:Int)=ixF (fun (i:Nat)=>p (cPrn d i)) d.len)) (by kernel_rfl) ?_
  intro hc ho;have e0:∀ (i:Nat),((i:Int)).toNat=i:=fun i=>Int.toNat_natCast i
  refine ⟨⟨0,⟨Nat.zero_le _,fun j hj=>absurd hj (Nat.not_lt_zero j)⟩,rfl,rfl,rfl,rfl,rfl⟩,fun i hp=>⟨fun hl=>?_,fun hl=>?_⟩⟩
  ·have hi:i<d.len:=by have:=of_decide_eq_true hl;omega
   refine ⟨⟨by omega,by omega⟩,by simp only [e0];exact ho i hi,fun hq=>?_,fun hq=>?_⟩
   ·simp only [e0] at hq;exact (ixF_hit hi hq hp.2).symm
   ·simp only [e0] at hq;have hw:IntKind.i64.wrap ((i:Int)+1)=((i+1:Nat):Int):=by rw [IntWalk.i64_in _ (by omega)];omega
    refine ⟨i+1,⟨by omega,fun j hj=>?_⟩,by omega,hw,rfl,rfl,rfl,rfl⟩
    rcases Nat.lt_or_ge j i with h |h
    ·exact hp.2 j h
    ·obtain rfl:j=i:=by omega
     exact hq
  ·have hi:¬ i<d.len:=by have:=of_decide_eq_false hl;omega
   exact (ixF_no fun j hj=>hp.2 j (by omega)).symm
 ·trivial
noncomputable def procAt1S:FSpec:=fun ds _=>match ds with
 | [.s nm,.d vr,.d bd,.s s]=>some {val:=.one (.sc (.bool (.sym (eqS nm s)))),vc:=[]}
 |_=>none
noncomputable def procAt1C:Con:=con [.agg [.c .str,.c (.rows 9),.c (.rows 193)],.sc (.pt .str)] procAt1S
theorem procAt1_ok:ConOK Tryz.prog 102 procAt1C:=by
 refine fn_ob tt_ok mixed Tryz.func102 rfl (fun _ _=>by kernel_rfl) (A:=fun ds=>⟨fun _=>Cons.of [],fun _=>none,fun _=>none⟩) (fun _ _=>cons_nil) (by kernel_rfl) ?_
 intro ds fr;unfold procAt1S;split
 ·rename_i nm vr bd s;refine kmp (q:=(nm.toList==s.toList)=eqS nm s) (by kernel_rfl) ?_
  rfl
 ·trivial
def procAt1F:FC:=⟨.str,true,126,fun d=>match d with | .s a=>some (nmQ a,okK0) |_=>none⟩
noncomputable def procAt1K:Con:=conF procAt1F procAt1C
theorem procAt1K_ok:ConOK Tryz.prog 102 procAt1K:=
 conF_ok procAt1_ok (fc_ok (ks:=eks 126) rfl rfl (fun h=>by cases h) procAt1_ok rfl fun d q h l _=>by
  cases d with
  |s a=>
   obtain rfl:=Option.some.inj h;exact ⟨_,rfl,trivial⟩
  |_=>cases h)
noncomputable def procAtS:FSpec:=fun ds _=>match ds with
 | [.d d,.s s]=>some {val:=.one (.sc (.int .i64 (.sym (ixC d s)))),vc:=[d.len<=4000000000000]}
 |_=>none
noncomputable def procAtC:Con:=con [.sc (.rows 126),.sc .str] procAtS
theorem procAt_ok:ConOK Tryz.prog 58 procAtC:=by
 refine fn_ob tt_ok mixed Tryz.func58 rfl (fun _ _=>by kernel_rfl) (A:=fun ds=>⟨fun _=>Cons.of [(102,procAt1K),(101,ixpC)],fun _=>none,fun _=>none⟩) (fun _ _=>(cons_cons procAt1K_ok (cons_cons ixp_ok cons_nil))) (by kernel_rfl) ?_
 intro ds fr;unfold procAtS;split
 ·rename_i d s;refine kmp (q:=d.len<=4000000000000->d.len<=4000000000000/\(∀ (i:Nat),i<d.len->okK0 (cPrn d i))/\ixF (fun (i:Nat)=>nmQ s (cPrn d i)) d.len=ixC d s) (by kernel_rfl) ?_
  intro h;exact ⟨h,fun _ _=>trivial,rfl⟩
 ·trivial
def cdE (ah:D) (nm:ByteArray) (cz:Int) (tg:D):Int:=if decide (ixC ah nm>=0)=true then 7 else if (decide (cz<1) ||decide (cz>16) ||decide ((tg.len:Int)>4))=true then 10 else if twK tg=true then 7 else 0
noncomputable def cdlS:FSpec:=fun ds _=>match ds with
 | [.d ah,.s nm,.i ck,.i cz,.s cf,.s ct,.d tg]=>some {val:=.one (.sc (.int .i64 (.sym (cdE ah nm cz tg)))),vc:=[ah.len<=4000000000000,tg.len<=4000000000000]}
 |_=>none
noncomputable def cdlC:Con:=con [.sc (.rows 118),.agg [.c .str,.c (.int .i64),.c (.int .i64),.c .str,.c .str,.c (.rows 9)]] cdlS
theorem cdl_ok:ConOK Tryz.prog 57 cdlC:=by
 refine fn_ob tt_ok mixed Tryz.func57 rfl (fun _ _=>by kernel_rfl) (A:=fun ds=>⟨fun _=>Cons.of [(59,chanAtC),(61,atwC)],fun _=>none,fun _=>none⟩) (fun _ _=>(cons_cons chanAt_ok (cons_cons atw_ok cons_nil))) (by kernel_rfl) ?_
 intro ds fr;unfold cdlS;split
 ·rename_i ah nm ck cz cf ct tg;refine kmp (q:=ah.len<=4000000000000->tg.len<=4000000000000->ah.len<=4000000000000/\(decide (ixC ah nm>=(0:Int))=true->(7:Int)=cdE ah nm cz tg)/\(decide (ixC ah nm>=(0:Int))=false->((decide (cz<(1:Int)) ||decide (cz>(16:Int)) ||decide ((tg.len:Int)>(4:Int)))=true->(10:Int)=cdE ah nm cz tg)/\((decide (cz<(1:Int)) ||decide (cz>(16:Int)) ||decide ((tg.len:Int)>(4:Int)))=false->tg.len<=4000000000000/\(twK tg=true->(7:Int)=cdE ah nm cz tg)/\(twK tg=false->(0:Int)=cdE ah nm cz tg)))) (by kernel_rfl) ?_
  intro h1 h2;refine ⟨h1,fun h=>?_,fun n1=>⟨fun h=>?_,fun n2=>⟨h2,fun h=>?_,fun n3=>?_⟩⟩⟩
  ·unfold cdE;rw [if_pos h]
  ·unfold cdE;rw [if_neg (by rw [n1];decide),if_pos h]
  ·unfold cdE;rw [if_neg (by rw [n1];decide),if_neg (by rw [n2];decide),if_pos h]
  ·unfold cdE;rw [if_neg (by rw [n1];decide),if_neg (by rw [n2];decide),if_neg (by rw [n3];decide)]
 ·trivial
def cdI (ch:D) (i:Nat):Int:=cdE (ch.sub 0 i) (ch.el i 0).toS (ch.el i 2).toI (ch.el i 5)
def pdI (pr:D) (i:Nat):Bool:=decide (ixC (pr.sub 0 i) (pr.el i 0).toS>=0)
def fnz (f:Nat->Int):Nat->Int
 | 0=>0
 |n+1=>if fnz f n=0 then f n else fnz f n
theorem fnz_0 {f:Nat->Int}:∀ {n:Nat},(∀ j,j<n->f j=0)->fnz f n=0
 | 0,_=>rfl
 |n+1,h=>by rw [fnz,if_pos (fnz_0 fun j hj=>h j (by omega))];exact h n (by omega)
theorem fnz_at {f:Nat->Int} {i:Nat} (hi:f i≠0) (h:∀ j,j<i->f j=0):∀ {n:Nat},i<n->fnz f n=f i
 | 0,hn=>absurd hn (Nat.not_lt_zero i)
 |n+1,hn=>by
  rcases Nat.lt_or_ge i n with h1 |h1
  ·rw [fnz,fnz_at hi h h1,if_neg hi]
  ·obtain rfl:i=n:=by omega
   rw [fnz,if_pos (fnz_0 h)]
def dcE (ch pr:D):Int:=if decide ((ch.len:Int)>4)=true then 10 else if fnz (cdI ch) ch.len=0 then (if (decide ((pr.len:Int)<1) ||decide ((pr.len:Int)>4))=true then 10 else if (List.range pr.len).any (pdI pr)=true then 7 else 0) else fnz (cdI ch) ch.len
noncomputable def dclS:FSpec:=fun ds _=>match ds with
 | [.d ch,.d ru,.d pr]=>some {val:=.one (.sc (.int .i64 (.sym (dcE ch pr)))),vc:=[∀ i,i<ch.len->(ch.el i 5).len<=4000000000000]}
 |_=>none
noncomputable def dclC:Con:=con [lSy] dclS
theorem dcl_ok:ConOK Tryz.prog 31 dclC:=by
 refine fn_ob tt_ok mixed Tryz.func31 rfl (fun _ _=>by kernel_rfl) (A:=fun ds=>⟨fun _=>Cons.of [(57,cdlC),(58,procAtC)],fun k=>match k,ds with | 4,[.d ch,.d ru,.d pr]=>some {ι:=Nat,pre:=fun _ i=>i<=ch.len/\∀ j,j<i->cdI ch j=0,μ:=fun i=>ch.len+1-i,st:=fun s i=>famR s [(15,.one (.sc (.int .i64 (.sym ((i:Nat))))))] [1,13,14] [] [1]} | 13,[.d ch,.d ru,.d pr]=>some {ι:=Nat,pre:=fun _ i=>i<=pr.len/\∀ j,j<i->pdI pr j=false,μ:=fun i=>pr.len+1-i,st:=fun s i=>famR s [(43,.one (.sc (.int .i64 (.sym ((i:Nat))))))] [1,41,42] [] [1]} |_,_=>none,fun _=>none⟩) (fun _ _=>(cons_cons cdl_ok (cons_cons procAt_ok cons_nil))) (by kernel_rfl) ?_
 intro ds fr;unfold dclS;split
 ·rename_i ch ru pr;refine kmp (q:=(∀ (i:Nat),i<ch.len->(ch.el i 5).len<=4000000000000)->(decide ((ch.len:Int)>(4:Int))=true->(10:Int)=dcE ch pr)/\(decide ((ch.len:Int)>(4:Int))=false->(∃ (i:Nat),(i<=ch.len/\∀ (j:Nat),j<i->cdI ch j=(0:Int))/\(0:Int)=(i:Int)/\ch.rows=ch.rows/\(ch.len:Int)=(ch.len:Int)/\ch.rows=ch.rows/\ru.rows=ru.rows/\pr.rows=pr.rows)/\∀ (i:Nat),(i<=ch.len/\∀ (j:Nat),j<i->cdI ch j=(0:Int))->(decide ((i:Int)<(ch.len:Int))=true->((0:Int)<=(i:Int)/\(i:Int)<(ch.len:Int))/\((0:Int)<=(i:Int)/\(i:Int)<=(ch.len:Int))/\(ch.sub (0:Nat) (i:Int).toNat).len<=4000000000000/\(ch.el (i:Int).toNat 5).len<=4000000000000/\((cdE (ch.sub (0:Nat) (i:Int).toNat) (ch.el (i:Int).toNat 0).toS (ch.el (i:Int).toNat 2).toI (ch.el (i:Int).toNat 5) != (0:Int))=true->cdE (ch.sub (0:Nat) (i:Int).toNat) (ch.el (i:Int).toNat 0).toS (ch.el (i:Int).toNat 2).toI (ch.el (i:Int).toNat 5)=dcE ch pr)/\((cdE (ch.sub (0:Nat) (i:Int).toNat) (ch.el (i:Int).toNat 0).toS (ch.el (i:Int).toNat 2).toI (ch.el (i:Int).toNat 5) != (0:Int))=false->∃ (j:Nat),(j<=ch.len/\∀ (j_1:Nat),j_1<j->cdI ch j_1=(0:Int))/\ch.len+(1:Nat)-j<ch.len+(1:Nat)-i/\IntKind.i64.wrap ((i:Int)+(1:Int))=(j:Int)/\ch.rows=ch.rows/\(ch.len:Int)=(ch.len:Int)/\ch.rows=ch.rows/\ru.rows=ru.rows/\pr.rows=pr.rows))/\(decide ((i:Int)<(ch.len:Int))=false->((decide ((pr.len:Int)<(1:Int)) ||decide ((pr.len:Int)>(4:Int)))=true->(10:Int)=dcE ch pr)/\((decide ((pr.len:Int)<(1:Int)) ||decide ((pr.len:Int)>(4:Int)))=false->(∃ (i:Nat),(i<=pr.len/\∀ (j:Nat),j<i->pdI pr j=false)/\(0:Int)=(i:Int)/\pr.rows=pr.rows/\(pr.len:Int)=(pr.len:Int)/\ch.rows=ch.rows/\ru.rows=ru.rows/\pr.rows=pr.rows)/\∀ (i:Nat),(i<=pr.len/\∀ (j:Nat),j<i->pdI pr j=false)->(decide ((i:Int)<(pr.len:Int))=true->((0:Int)<=(i:Int)/\(i:Int)<(pr.len:Int))/\((0:Int)<=(i:Int)/\(i:Int)<=(pr.len:Int))/\(pr.sub (0:Nat) (i:Int).toNat).len<=4000000000000/\(decide (ixC (pr.sub (0:Nat) (i:Int).toNat) (pr.el (i:Int).toNat 0).toS>=(0:Int))=true->(7:Int)=dcE ch pr)/\(decide (ixC (pr.sub (0:Nat) (i:Int).toNat) (pr.el (i:Int).toNat 0).toS>=(0:Int))=false->∃ (j:Nat),(j<=pr.len/\∀ (j_1:Nat),j_1<j->pdI pr j_1=false)/\pr.len+(1:Nat)-j<pr.len+(1:Nat)-i/\IntKind.i64.wrap ((i:Int)+(1:Int))=(j:Int)/\pr.rows=pr.rows/\(pr.len:Int)=(pr.len:Int)/\ch.rows=ch.rows/\ru.rows=ru.rows/\pr.rows=pr.rows))/\(decide ((i:Int)<(pr.len:Int))=false->(0:Int)=dcE ch pr))))) (by kernel_rfl) ?_
  intro ht;simp only [Nat.reduceAdd,Nat.zero_add,k_n];refine ⟨fun h=>by unfold dcE;rw [if_pos h],fun h=>?_⟩;have h0:¬ (decide ((ch.len:Int)>4)=true):=by rw [h];decide
  have h:=of_decide_eq_false h;refine ⟨⟨0,⟨Nat.zero_le _,fun j hj=>absurd hj (Nat.not_lt_zero j)⟩,rfl,(by (repeat' (with_reducible apply And.intro))<;>first |exact True.intro |rfl)⟩,fun i hp=>⟨fun hc=>?_,fun hc=>?_⟩⟩
  ·have hc:=of_decide_eq_true hc;have hi:i<ch.len:=by omega
   refine ⟨⟨by omega,by omega⟩,⟨by omega,by omega⟩,by rw [D.sub_len ch (by omega)];omega,ht i hi,fun hq=>?_,fun hq=>?_⟩
   ·have hq:cdI ch i≠0:=by unfold cdI;simpa using hq
    have hz:=fnz_at hq hp.2 hi;unfold dcE;rw [if_neg h0,if_neg (by rw [hz];exact hq),hz];rfl
   ·have hq:cdI ch i=0:=by unfold cdI;simpa using hq
    refine ⟨i+1,⟨hi,fun j hj=>?_⟩,by omega,k_nx (by omega),(by (repeat' (with_reducible apply And.intro))<;>first |exact True.intro |rfl)⟩
    rcases Nat.lt_or_ge j i with h1 |h1
    ·exact hp.2 j h1
    ·obtain rfl:j=i:=by omega
     exact hq
  have hc:=of_decide_eq_false hc;have hz:fnz (cdI ch) ch.len=0:=fnz_0 fun j hj=>hp.2 j (by omega)
  refine ⟨fun hb=>by unfold dcE;rw [if_neg h0,if_pos hz,if_pos hb],fun hb=>?_⟩;have hb0:¬ ((decide ((pr.len:Int)<1) ||decide ((pr.len:Int)>4))=true):=by rw [hb];decide
  simp only [Bool.or_eq_false_iff,decide_eq_false_iff_not] at hb;refine ⟨⟨0,⟨Nat.zero_le _,fun j hj=>absurd hj (Nat.not_lt_zero j)⟩,rfl,(by (repeat' (with_reducible apply And.intro))<;>first |exact True.intro |rfl)⟩,fun i hp=>⟨fun hc=>?_,fun hc=>?_⟩⟩
  ·have hc:=of_decide_eq_true hc;have hi:i<pr.len:=by omega
   refine ⟨⟨by omega,by omega⟩,⟨by omega,by omega⟩,by rw [D.sub_len pr (by omega)];omega,fun hq=>?_,fun hq=>?_⟩
   ·unfold dcE;rw [if_neg h0,if_pos hz,if_neg hb0,if_pos (any_yes (f:=pdI pr) hi hq)]
   ·refine ⟨i+1,⟨hi,fun j hj=>?_⟩,by omega,k_nx (by omega),(by (repeat' (with_reducible apply And.intro))<;>first |exact True.intro |rfl)⟩
    rcases Nat.lt_or_ge j i with h1 |h1
    ·exact hp.2 j h1
    ·obtain rfl:j=i:=by omega
     exact hq
  ·have hc:=of_decide_eq_false hc;unfold dcE;rw [if_neg h0,if_pos hz,if_neg hb0,if_neg (by rw [any_no fun j hj=>hp.2 j (by omega)];decide)]
 ·trivial
end Go.Proofs.YtcfkhnlkfgmoiaaGreatDoor.Sx.Z
