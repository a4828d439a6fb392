import Derived.Test.YthpponmbpoaffaaGreatDoorZ21
import Derived.Test.YthpponmbpoaffaaGreatDoorZ1
namespace Go.Proofs.YthpponmbpoaffaaGreatDoor.Sx.Z
open Go.RowKit
def lBr:AP:=.sc (.rows 105)
theorem cpTo_all (n:Nat) (f:Nat->List D):(cpTo n f).sub 0 (0+n)=cpTo n f:=by
 rw [Nat.zero_add]
 show D.l (List.drop 0 (List.take n ((List.range n).map f)))=_
 rw [List.take_of_length_le (by simp)];rfl
def cpB (d:D):D:=.l ((List.finRange d.len).map fun (i:Fin d.len)=>[D.i (d.el i 0).toI,D.s (d.el i 1).toS,D.s (d.el i 2).toS,D.i (d.el i 3).toI,D.i (d.el i 4).toI,D.s (d.el i 5).toS,cpE (d.el i 6),D.i (d.el i 7).toI,D.i (d.el i 8).toI,D.i (d.el i 9).toI,D.s (d.el i 10).toS,cpE (d.el i 11),D.i (d.el i 12).toI,D.i (d.el i 13).toI,D.s (d.el i 14).toS,cpE (d.el i 15),cpB (d.el i 16),cpB (d.el i 17),.l ((List.finRange (d.el i 18).len).map fun (j:Fin (d.el i 18).len)=>[D.s ((d.el i 18).el j 0).toS,D.s ((d.el i 18).el j 1).toS,cpB ((d.el i 18).el j 2)])])
 termination_by SizeOf.sizeOf d
 decreasing_by
  ·exact lel_lt i.isLt
  ·exact lel_lt i.isLt
  ·exact Nat.lt_trans (lel_lt j.isLt) (lel_lt i.isLt)
def arR (am:D) (j:Nat):List D:=[D.s (am.el j 0).toS,D.s (am.el j 1).toS,cpB (am.el j 2)]
def rSt (d:D) (i:Nat):List D:=[D.i (d.el i 0).toI,D.s (d.el i 1).toS,D.s (d.el i 2).toS,D.i (d.el i 3).toI,D.i (d.el i 4).toI,D.s (d.el i 5).toS,cpE (d.el i 6),D.i (d.el i 7).toI,D.i (d.el i 8).toI,D.i (d.el i 9).toI,D.s (d.el i 10).toS,cpE (d.el i 11),D.i (d.el i 12).toI,D.i (d.el i 13).toI,D.s (d.el i 14).toS,cpE (d.el i 15),cpB (d.el i 16),cpB (d.el i 17),cpTo (d.el i 18).len (arR (d.el i 18))]
theorem cpB_eq (d:D):cpB d=cpTo d.len (rSt d):=by
 rw [cpB,<- cpF_eq]
 congr 2
 funext i
 unfold rSt
 rw [<- cpF_eq]
 rfl
def bS (d:D):Prop:=d.len*288<=140737488355328/\∀ i:Fin d.len,kS (d.el i 6)/\kS (d.el i 11)/\kS (d.el i 15)/\bS (d.el i 16)/\bS (d.el i 17)/\(d.el i 18).len*56<=140737488355328/\∀ j:Fin (d.el i 18).len,bS ((d.el i 18).el j 2)
 termination_by SizeOf.sizeOf d
 decreasing_by
  ·exact lel_lt i.isLt
  ·exact lel_lt i.isLt
  ·exact Nat.lt_trans (lel_lt j.isLt) (lel_lt i.isLt)
theorem bS_iff (d:D):bS d↔d.len*288<=140737488355328/\∀ i,i<d.len->kS (d.el i 6)/\kS (d.el i 11)/\kS (d.el i 15)/\bS (d.el i 16)/\bS (d.el i 17)/\(d.el i 18).len*56<=140737488355328/\∀ j,j<(d.el i 18).len->bS ((d.el i 18).el j 2):=by
 rw [bS]
 refine ⟨fun h=>⟨h.1,fun i hi=>?_⟩,fun h=>⟨h.1,fun i=>?_⟩⟩
 ·obtain ⟨a,b,c,e,f,g,k⟩:=h.2 ⟨i,hi⟩
  exact ⟨a,b,c,e,f,g,fun j hj=>k ⟨j,hj⟩⟩
 ·obtain ⟨a,b,c,e,f,g,k⟩:=h.2 i.1 i.2
  exact ⟨a,b,c,e,f,g,fun j=>k j.1 j.2⟩
noncomputable def scpS:FSpec:=fun ds _=>match ds with
 | [.d d]=>some {val:=.one (.sc (.rows 81 (cpB d))),vc:=[bS d]}
 |_=>none
noncomputable def scpC:Con:=con [lBr] scpS
noncomputable def scpM:List Dat->Nat:=fun ds=>match ds with
 | [.d d]=>SizeOf.sizeOf d
 |_=>0
noncomputable def scpSu (m:Nat):FSpec:=fun ds _=>match ds with
 | [.d d]=>some {val:=.one (.sc (.rows 81 (cpB d))),vc:=[SizeOf.sizeOf d<m,bS d]}
 |_=>none
theorem scp_under (m:Nat):scpS.under scpM m=scpSu m:=by
 funext ds fr
 unfold FSpec.under scpS scpM scpSu
 split
 ·rename_i e h
  split at h
  ·obtain rfl:=Option.some.inj h;rfl
  ·cases h
 ·rename_i h
  split at h
  ·cases h
  ·rfl
theorem scp_step (m:Nat) (ih:ConOK Tryz.prog 11 (con [lBr] (scpSu m))):ConOK Tryz.prog 11 (con [lBr] (scpSu (m+1))):=by
 refine fn_ob tt_ok mixed Tryz.func11 rfl (fun _ _=>by kernel_rfl) (A:=fun ds=>⟨fun _=>Cons.of [(27,xcpC),(28,ccpC),(11,con [lBr] (scpSu m))],fun k=>match k,ds with | 3,[.d d]=>some {ι:=Nat,pre:=fun _ i=>i<=d.len,μ:=fun i=>d.len+1-i,st:=fun s i=>famR s [(4,.one (.sc (.int .i64 (.sym ((i:Nat)))))),(3,.one (.sc (.osl 81 (s.nx-1) (.lit 0) (.sym (i)))))] [0] [(s.nx-1,.orow 81 (cpTo i (rSt d)))] []} | 8,[.d d]=>some {ι:=Nat,pre:=fun s q=>q<=(d.el (slotN s 4) 18).len/\True,μ:=fun q=>3000000000001-q,st:=fun s q=>famR s [(7,.one (.sc (.int .i64 (.sym ((q:Nat))))))] [0,3,4,5,6] [(idOf s 6,.own 81 ([.c (.int .i64 (.sym ((d.el (slotN s 4) 0).toI))),.c (.raw (.string ((d.el (slotN s 4) 1).toS))),.c (.raw (.string ((d.el (slotN s 4) 2).toS))),.c (.int .i64 (.sym ((d.el (slotN s 4) 3).toI))),.c (.int .i64 (.sym ((d.el (slotN s 4) 4).toI))),.c (.raw (.string ((d.el (slotN s 4) 5).toS))),.c (.rows 76 (cpE (d.el (slotN s 4) 6))),.c (.int .i64 (.sym ((d.el (slotN s 4) 7).toI))),.c (.int .i64 (.sym ((d.el (slotN s 4) 8).toI))),.c (.int .i64 (.sym ((d.el (slotN s 4) 9).toI))),.c (.raw (.string ((d.el (slotN s 4) 10).toS))),.c (.rows 76 (cpE (d.el (slotN s 4) 11))),.c (.int .i64 (.sym ((d.el (slotN s 4) 12).toI))),.c (.int .i64 (.sym ((d.el (slotN s 4) 13).toI))),.c (.raw (.string ((d.el (slotN s 4) 14).toS))),.c (.rows 76 (cpE (d.el (slotN s 4) 15))),.c (.rows 81 (cpB (d.el (slotN s 4) 16))),.c (.rows 81 (cpB (d.el (slotN s 4) 17))),.c (.osl 111 (s.nx-1) (.lit 0) (.sym q))])),(s.nx-1,.orow 111 (cpTo q (arR (d.el (slotN s 4) 18))))] [3,5]} |_,_=>none,fun _=>none⟩) (fun _ _=>(cons_cons xcp_ok (cons_cons ccp_ok (cons_cons ih cons_nil)))) (by kernel_rfl) ?_
 intro ds fr
 unfold scpSu
 split
 ·rename_i d
  refine kmp (q:=SizeOf.sizeOf d<m+(1:Nat)->bS d->(∃ (i:Nat),i.le d.len/\(0:Int)=(↑i:Int)/\i=(0:Nat)/\d.rows=d.rows/\List.map (rSt d) (List.range i)=[])/\∀ (i:Nat),i.le d.len->(decide ((↑i:Int)<(↑d.len:Int))=true->((0:Int)<=(↑i:Int)/\(↑i:Int)<(↑d.len:Int))/\kS (d.el (↑i:Int).toNat 6)/\kS (d.el (↑i:Int).toNat 11)/\kS (d.el (↑i:Int).toNat 15)/\SizeOf.sizeOf (d.el (↑i:Int).toNat 16)<m/\bS (d.el (↑i:Int).toNat 16)/\SizeOf.sizeOf (d.el (↑i:Int).toNat 17)<m/\bS (d.el (↑i:Int).toNat 17)/\(∃ (i_1:Nat),(i_1<=(d.el i (18:Nat)).len/\True)/\(0:Int)=(↑i_1:Int)/\d.rows=d.rows/\i=i/\(↑i:Int)=(↑i:Int)/\(d.el (↑i:Int).toNat (0:Nat)).toI=(d.el i (0:Nat)).toI/\Value.string (d.el (↑i:Int).toNat 1).toS=Value.string (d.el i (1:Nat)).toS/\Value.string (d.el (↑i:Int).toNat 2).toS=Value.string (d.el i (2:Nat)).toS/\(d.el (↑i:Int).toNat 3).toI=(d.el i (3:Nat)).toI/\(d.el (↑i:Int).toNat 4).toI=(d.el i (4:Nat)).toI/\Value.string (d.el (↑i:Int).toNat 5).toS=Value.string (d.el i (5:Nat)).toS/\(cpE (d.el (↑i:Int).toNat 6)).rows=(cpE (d.el i (6:Nat))).rows/\(d.el (↑i:Int).toNat 7).toI=(d.el i (7:Nat)).toI/\(d.el (↑i:Int).toNat 8).toI=(d.el i (8:Nat)).toI/\(d.el (↑i:Int).toNat 9).toI=(d.el i (9:Nat)).toI/\Value.string (d.el (↑i:Int).toNat 10).toS=Value.string (d.el i (10:Nat)).toS/\(cpE (d.el (↑i:Int).toNat 11)).rows=(cpE (d.el i (11:Nat))).rows/\(d.el (↑i:Int).toNat 12).toI=(d.el i (12:Nat)).toI/\(d.el (↑i:Int).toNat 13).toI=(d.el i (13:Nat)).toI/\Value.string (d.el (↑i:Int).toNat 14).toS=Value.string (d.el i (14:Nat)).toS/\(cpE (d.el (↑i:Int).toNat 15)).rows=(cpE (d.el i (15:Nat))).rows/\(cpB (d.el (↑i:Int).toNat 16)).rows=(cpB (d.el i (16:Nat))).rows/\(cpB (d.el (↑i:Int).toNat 17)).rows=(cpB (d.el i (17:Nat))).rows/\i_1=(0:Nat)/\List.map (arR (d.el i (18:Nat))) (List.range i_1)=[]/\List.map (rSt d) (List.range i)=List.map (rSt d) (List.range i)/\(d.el (↑i:Int).toNat (0:Nat)).toI=(d.el (↑i:Int).toNat (0:Nat)).toI/\Value.string (d.el (↑i:Int).toNat 1).toS=Value.string (d.el (↑i:Int).toNat 1).toS/\Value.string (d.el (↑i:Int).toNat 2).toS=Value.string (d.el (↑i:Int).toNat 2).toS/\(d.el (↑i:Int).toNat 3).toI=(d.el (↑i:Int).toNat 3).toI/\(d.el (↑i:Int).toNat 4).toI=(d.el (↑i:Int).toNat 4).toI/\Value.string (d.el (↑i:Int).toNat 5).toS=Value.string (d.el (↑i:Int).toNat 5).toS/\(d.el (↑i:Int).toNat 6).rows=(d.el (↑i:Int).toNat 6).rows/\(d.el (↑i:Int).toNat 7).toI=(d.el (↑i:Int).toNat 7).toI/\(d.el (↑i:Int).toNat 8).toI=(d.el (↑i:Int).toNat 8).toI/\(d.el (↑i:Int).toNat 9).toI=(d.el (↑i:Int).toNat 9).toI/\Value.string (d.el (↑i:Int).toNat 10).toS=Value.string (d.el (↑i:Int).toNat 10).toS/\(d.el (↑i:Int).toNat 11).rows=(d.el (↑i:Int).toNat 11).rows/\(d.el (↑i:Int).toNat 12).toI=(d.el (↑i:Int).toNat 12).toI/\(d.el (↑i:Int).toNat 13).toI=(d.el (↑i:Int).toNat 13).toI/\Value.string (d.el (↑i:Int).toNat 14).toS=Value.string (d.el (↑i:Int).toNat 14).toS/\(d.el (↑i:Int).toNat 15).rows=(d.el (↑i:Int).toNat 15).rows/\(d.el (↑i:Int).toNat 16).rows=(d.el (↑i:Int).toNat 16).rows/\(d.el (↑i:Int).toNat 17).rows=(d.el (↑i:Int).toNat 17).rows/\(d.el (↑i:Int).toNat 18).rows=(d.el (↑i:Int).toNat 18).rows)/\∀ (i_1:Nat),i_1<=(d.el i (18:Nat)).len/\True->(decide ((↑i_1:Int)<(↑(d.el (↑i:Int).toNat 18).len:Int))=true->((0:Int)<=(↑i_1:Int)/\(↑i_1:Int)<(↑(d.el (↑i:Int).toNat 18).len:Int))/\((0:Int)<=(↑i_1:Int)/\(↑i_1:Int)<(↑(d.el (↑i:Int).toNat 18).len:Int))/\((0:Int)<=(↑i_1:Int)/\(↑i_1:Int)<(↑(d.el (↑i:Int).toNat 18).len:Int))/\SizeOf.sizeOf ((d.el (↑i:Int).toNat 18).el (↑i_1:Int).toNat ((0:Nat)+(2:Nat)))<m/\bS ((d.el (↑i:Int).toNat 18).el (↑i_1:Int).toNat ((0:Nat)+(2:Nat)))/\i_1=(cpTo i_1 (arR (d.el i (18:Nat)))).len/\(i_1+((D.l [[D.s ((d.el (↑i:Int).toNat 18).el (↑i_1:Int).toNat ((0:Nat)+(0:Nat))).toS,D.s ((d.el (↑i:Int).toNat 18).el (↑i_1:Int).toNat 1).toS,cpB ((d.el (↑i:Int).toNat 18).el (↑i_1:Int).toNat ((0:Nat)+(2:Nat)))]]).sub (0:Nat) 1).len)*(56:Nat)<=(140737488355328:Nat)/\(0:Nat)+(1:Nat)<=(D.l [[D.s ((d.el (↑i:Int).toNat 18).el (↑i_1:Int).toNat ((0:Nat)+(0:Nat))).toS,D.s ((d.el (↑i:Int).toNat 18).el (↑i_1:Int).toNat 1).toS,cpB ((d.el (↑i:Int).toNat 18).el (↑i_1:Int).toNat ((0:Nat)+(2:Nat)))]]).len/\∃ (j:Nat),(j<=(d.el i (18:Nat)).len/\True)/\(3000000000001:Nat)-j<(3000000000001:Nat)-i_1/\IntKind.i64.wrap ((↑i_1:Int)+(1:Int))=(↑j:Int)/\d.rows=d.rows/\i=i/\(↑i:Int)=(↑i:Int)/\(d.el i (0:Nat)).toI=(d.el i (0:Nat)).toI/\Value.string (d.el i (1:Nat)).toS=Value.string (d.el i (1:Nat)).toS/\Value.string (d.el i (2:Nat)).toS=Value.string (d.el i (2:Nat)).toS/\(d.el i (3:Nat)).toI=(d.el i (3:Nat)).toI/\(d.el i (4:Nat)).toI=(d.el i (4:Nat)).toI/\Value.string (d.el i (5:Nat)).toS=Value.string (d.el i (5:Nat)).toS/\(cpE (d.el i (6:Nat))).rows=(cpE (d.el i (6:Nat))).rows/\(d.el i (7:Nat)).toI=(d.el i (7:Nat)).toI/\(d.el i (8:Nat)).toI=(d.el i (8:Nat)).toI/\(d.el i (9:Nat)).toI=(d.el i (9:Nat)).toI/\Value.string (d.el i (10:Nat)).toS=Value.string (d.el i (10:Nat)).toS/\(cpE (d.el i (11:Nat))).rows=(cpE (d.el i (11:Nat))).rows/\(d.el i (12:Nat)).toI=(d.el i (12:Nat)).toI/\(d.el i (13:Nat)).toI=(d.el i (13:Nat)).toI/\Value.string (d.el i (14:Nat)).toS=Value.string (d.el i (14:Nat)).toS/\(cpE (d.el i (15:Nat))).rows=(cpE (d.el i (15:Nat))).rows/\(cpB (d.el i (16:Nat))).rows=(cpB (d.el i (16:Nat))).rows/\(cpB (d.el i (17:Nat))).rows=(cpB (d.el i (17:Nat))).rows/\i_1+((D.l [[D.s ((d.el (↑i:Int).toNat 18).el (↑i_1:Int).toNat ((0:Nat)+(0:Nat))).toS,D.s ((d.el (↑i:Int).toNat 18).el (↑i_1:Int).toNat 1).toS,cpB ((d.el (↑i:Int).toNat 18).el (↑i_1:Int).toNat ((0:Nat)+(2:Nat)))]]).sub (0:Nat) 1).len=j/\List.map (arR (d.el i (18:Nat))) (List.range i_1)++List.drop (0:Nat) (List.take 1 [[D.s ((d.el (↑i:Int).toNat 18).el (↑i_1:Int).toNat ((0:Nat)+(0:Nat))).toS,D.s ((d.el (↑i:Int).toNat 18).el (↑i_1:Int).toNat 1).toS,cpB ((d.el (↑i:Int).toNat 18).el (↑i_1:Int).toNat ((0:Nat)+(2:Nat)))]])=List.map (arR (d.el i (18:Nat))) (List.range j)/\List.map (rSt d) (List.range i)=List.map (rSt d) (List.range i)/\(d.el (↑i:Int).toNat (0:Nat)).toI=(d.el (↑i:Int).toNat (0:Nat)).toI/\Value.string (d.el (↑i:Int).toNat 1).toS=Value.string (d.el (↑i:Int).toNat 1).toS/\Value.string (d.el (↑i:Int).toNat 2).toS=Value.string (d.el (↑i:Int).toNat 2).toS/\(d.el (↑i:Int).toNat 3).toI=(d.el (↑i:Int).toNat 3).toI/\(d.el (↑i:Int).toNat 4).toI=(d.el (↑i:Int).toNat 4).toI/\Value.string (d.el (↑i:Int).toNat 5).toS=Value.string (d.el (↑i:Int).toNat 5).toS/\(d.el (↑i:Int).toNat 6).rows=(d.el (↑i:Int).toNat 6).rows/\(d.el (↑i:Int).toNat 7).toI=(d.el (↑i:Int).toNat 7).toI/\(d.el (↑i:Int).toNat 8).toI=(d.el (↑i:Int).toNat 8).toI/\(d.el (↑i:Int).toNat 9).toI=(d.el (↑i:Int).toNat 9).toI/\Value.string (d.el (↑i:Int).toNat 10).toS=Value.string (d.el (↑i:Int).toNat 10).toS/\(d.el (↑i:Int).toNat 11).rows=(d.el (↑i:Int).toNat 11).rows/\(d.el (↑i:Int).toNat 12).toI=(d.el (↑i:Int).toNat 12).toI/\(d.el (↑i:Int).toNat 13).toI=(d.el (↑i:Int).toNat 13).toI/\Value.string (d.el (↑i:Int).toNat 14).toS=Value.string (d.el (↑i:Int).toNat 14).toS/\(d.el (↑i:Int).toNat 15).rows=(d.el (↑i:Int).toNat 15).rows/\(d.el (↑i:Int).toNat 16).rows=(d.el (↑i:Int).toNat 16).rows/\(d.el (↑i:Int).toNat 17).rows=(d.el (↑i:Int).toNat 17).rows/\(d.el (↑i:Int).toNat 18).rows=(d.el (↑i:Int).toNat 18).rows)/\(decide ((↑i_1:Int)<(↑(d.el (↑i:Int).toNat 18).len:Int))=false->(0:Nat)+i_1<=(cpTo i_1 (arR (d.el i (18:Nat)))).len/\i=(cpTo i (rSt d)).len/\(i+((D.l [[D.i (d.el i (0:Nat)).toI,D.s (d.el i (1:Nat)).toS,D.s (d.el i (2:Nat)).toS,D.i (d.el i (3:Nat)).toI,D.i (d.el i (4:Nat)).toI,D.s (d.el i (5:Nat)).toS,cpE (d.el i (6:Nat)),D.i (d.el i (7:Nat)).toI,D.i (d.el i (8:Nat)).toI,D.i (d.el i (9:Nat)).toI,D.s (d.el i (10:Nat)).toS,cpE (d.el i (11:Nat)),D.i (d.el i (12:Nat)).toI,D.i (d.el i (13:Nat)).toI,D.s (d.el i (14:Nat)).toS,cpE (d.el i (15:Nat)),cpB (d.el i (16:Nat)),cpB (d.el i (17:Nat)),(cpTo i_1 (arR (d.el i (18:Nat)))).sub ((0:Nat)) ((0:Nat)+i_1)]]).sub (0:Nat) 1).len)*(288:Nat)<=(140737488355328:Nat)/\(0:Nat)+(1:Nat)<=(D.l [[D.i (d.el i (0:Nat)).toI,D.s (d.el i (1:Nat)).toS,D.s (d.el i (2:Nat)).toS,D.i (d.el i (3:Nat)).toI,D.i (d.el i (4:Nat)).toI,D.s (d.el i (5:Nat)).toS,cpE (d.el i (6:Nat)),D.i (d.el i (7:Nat)).toI,D.i (d.el i (8:Nat)).toI,D.i (d.el i (9:Nat)).toI,D.s (d.el i (10:Nat)).toS,cpE (d.el i (11:Nat)),D.i (d.el i (12:Nat)).toI,D.i (d.el i (13:Nat)).toI,D.s (d.el i (14:Nat)).toS,cpE (d.el i (15:Nat)),cpB (d.el i (16:Nat)),cpB (d.el i (17:Nat)),(cpTo i_1 (arR (d.el i (18:Nat)))).sub ((0:Nat)) ((0:Nat)+i_1)]]).len/\∃ (j:Nat),j.le d.len/\d.len+(1:Nat)-j<d.len+(1:Nat)-i/\IntKind.i64.wrap ((↑i:Int)+(1:Int))=(↑j:Int)/\i+((D.l [[D.i (d.el i (0:Nat)).toI,D.s (d.el i (1:Nat)).toS,D.s (d.el i (2:Nat)).toS,D.i (d.el i (3:Nat)).toI,D.i (d.el i (4:Nat)).toI,D.s (d.el i (5:Nat)).toS,cpE (d.el i (6:Nat)),D.i (d.el i (7:Nat)).toI,D.i (d.el i (8:Nat)).toI,D.i (d.el i (9:Nat)).toI,D.s (d.el i (10:Nat)).toS,cpE (d.el i (11:Nat)),D.i (d.el i (12:Nat)).toI,D.i (d.el i (13:Nat)).toI,D.s (d.el i (14:Nat)).toS,cpE (d.el i (15:Nat)),cpB (d.el i (16:Nat)),cpB (d.el i (17:Nat)),(cpTo i_1 (arR (d.el i (18:Nat)))).sub ((0:Nat)) ((0:Nat)+i_1)]]).sub (0:Nat) 1).len=j/\d.rows=d.rows/\List.map (rSt d) (List.range i)++List.drop (0:Nat) (List.take 1 [[D.i (d.el i (0:Nat)).toI,D.s (d.el i (1:Nat)).toS,D.s (d.el i (2:Nat)).toS,D.i (d.el i (3:Nat)).toI,D.i (d.el i (4:Nat)).toI,D.s (d.el i (5:Nat)).toS,cpE (d.el i (6:Nat)),D.i (d.el i (7:Nat)).toI,D.i (d.el i (8:Nat)).toI,D.i (d.el i (9:Nat)).toI,D.s (d.el i (10:Nat)).toS,cpE (d.el i (11:Nat)),D.i (d.el i (12:Nat)).toI,D.i (d.el i (13:Nat)).toI,D.s (d.el i (14:Nat)).toS,cpE (d.el i (15:Nat)),cpB (d.el i (16:Nat)),cpB (d.el i (17:Nat)),(cpTo i_1 (arR (d.el i (18:Nat)))).sub ((0:Nat)) ((0:Nat)+i_1)]])=List.map (rSt d) (List.range j)))/\(decide ((↑i:Int)<(↑d.len:Int))=false->(0:Nat)+i<=(cpTo i (rSt d)).len/\List.drop ((0:Nat)) (List.take ((0:Nat)+i) (List.map (rSt d) (List.range i)))=(cpB d).rows)) (by kernel_rfl) ?_
  intro hm hs
  rw [bS_iff] at hs
  obtain ⟨hl,hk⟩:=hs
  refine ⟨⟨0,Nat.zero_le _,rfl,rfl,rfl,rfl⟩,fun i hi=>⟨fun hc=>?_,fun hc=>?_⟩⟩
  ·have hc:=of_decide_eq_true hc
   have hi2:i<d.len:=by omega
   have hw2:IntKind.i64.wrap ((i:Int)+1)=((i+1:Nat):Int):=by rw [IntWalk.i64_in _ (by omega)];omega
   have hb2:(i+1)*288<=140737488355328:=Nat.le_trans (Nat.mul_le_mul_right 288 hi2) hl
   obtain ⟨a1,a2,a3,b1,b2,am,ab⟩:=hk i hi2
   have z1:=lel_lt (j:=16) hi2
   have z2:=lel_lt (j:=17) hi2
   have z3:=lel_lt (j:=18) hi2
   refine ⟨⟨by omega,by omega⟩,a1,a2,a3,(show SizeOf.sizeOf (d.el i 16)<m by omega),b1,(show SizeOf.sizeOf (d.el i 17)<m by omega),b2,⟨0,⟨Nat.zero_le _,trivial⟩,?_⟩,fun q hq=>⟨fun hd=>?_,fun hd=>?_⟩⟩
   ·(repeat' apply And.intro)<;>rfl
   ·have hd:=of_decide_eq_true hd
    have hq2:q<(d.el i 18).len:=by have:(q:Int)<((d.el i 18).len:Int):=hd;omega
    have hwq:IntKind.i64.wrap ((q:Int)+1)=((q+1:Nat):Int):=by rw [IntWalk.i64_in _ (by omega)];omega
    have zq:=lel_lt (j:=2) hq2
    refine ⟨⟨by omega,hd⟩,⟨by omega,hd⟩,⟨by omega,hd⟩,(show SizeOf.sizeOf ((d.el i 18).el q 2)<m by omega),ab q hq2,(cpTo_len _ _).symm,(show (q+1)*56<=140737488355328 by omega),Nat.le_refl _,q+1,⟨hq2,trivial⟩,by omega,hwq,?_⟩
    (repeat' apply And.intro)<;>first |exact (cpTo_succ q (arR (d.el i 18))).symm |rfl
   ·have hd:=of_decide_eq_false hd
    have hq3:q=(d.el i 18).len:=by have:¬ (q:Int)<((d.el i 18).len:Int):=hd;have:=hq.1;omega
    subst hq3
    rw [cpTo_all]
    exact ⟨by rw [cpTo_len];omega,(cpTo_len _ _).symm,hb2,Nat.le_refl _,i+1,hi2,by omega,hw2,rfl,rfl,(cpTo_succ i (rSt d)).symm⟩
  ·have hc:=of_decide_eq_false hc
   have hi3:i=d.len:=by have:i<=d.len:=hi;omega
   subst hi3
   refine ⟨by rw [cpTo_len];omega,?_⟩
   rw [cpB_eq,Nat.zero_add,List.drop_zero,List.take_of_length_le (by simp)];rfl
 ·trivial
theorem scp_ok:ConOK Tryz.prog 11 scpC:=
 con_rec scpM (fun _ _=>by kernel_rfl) fun m ih=>by
  rw [scp_under] at ih ⊢
  exact scp_step m ih
end Go.Proofs.YthpponmbpoaffaaGreatDoor.Sx.Z
namespace Go.Proofs.YthpponmbpoaffaaGreatDoor.Sx
def cellId (s:St) (t j:Nat):Nat:=match look s.hp (idOf s t) with |some (.own _ l)=>(match l[j]? with |some (.c (.osl _ id _ _))=>id |_=>0) |_=>0
end Go.Proofs.YthpponmbpoaffaaGreatDoor.Sx
namespace Go.Proofs.YthpponmbpoaffaaGreatDoor.Sx.Z
open Go.RowKit
def lSyr:AP:=.agg [.c (.rows 46),.c (.rows 50),.c (.rows 59)]
def nD (d:D):D:=.l d.rows
theorem nD_app (d:D):((D.l []).app d).sub 0 (0+(0+d.len))=nD d:=by
 rw [Nat.zero_add,Nat.zero_add]
 show D.l (List.drop 0 (List.take d.rows.length ([]++d.rows)))=D.l d.rows
 rw [List.nil_append,List.take_length];rfl
theorem app_le (d:D):0+(0+d.len)<=((D.l []).app d).len:=by
 rw [D.app_len]
 show 0+(0+d.len)<=0+d.len
 omega
theorem takeAll (n:Nat) (f:Nat->List D):List.drop 0 (List.take (0+n) ((List.range n).map f))=(List.range n).map f:=by
 rw [Nat.zero_add,List.drop_zero,List.take_of_length_le (by simp)]
def chRq (ch:D) (i:Nat):List D:=[D.s (ch.el i 0).toS,D.i (ch.el i 1).toI,D.i (ch.el i 2).toI,D.s (ch.el i 3).toS,D.s (ch.el i 4).toS,nD (ch.el i 5)]
def mvR (mv:D) (i:Nat):List D:=[D.i (mv.el i 0).toI,D.s (mv.el i 1).toS,D.i (mv.el i 2).toI]
def ruRq (ru:D) (i:Nat):List D:=[D.s (ru.el i 0).toS,cpTo (ru.el i 1).len (mvR (ru.el i 1))]
def prR (pr:D) (i:Nat):List D:=[D.s (pr.el i 0).toS,nD (pr.el i 1),cpB (pr.el i 2)]
def cpC (ch:D):D:=cpTo ch.len (chRq ch)
def cpU (ru:D):D:=cpTo ru.len (ruRq ru)
def cpP (pr:D):D:=cpTo pr.len (prR pr)
structure SyS (ch ru pr:D):Prop where
 c:ch.len*88<=140737488355328
 ct:∀ i,i<ch.len->(ch.el i 5).len*16<=140737488355328
 r:ru.len*40<=140737488355328
 rm:∀ i,i<ru.len->(ru.el i 1).len*32<=140737488355328
 p:pr.len*64<=140737488355328
 pv:∀ i,i<pr.len->(pr.el i 1).len*16<=140737488355328
 pb:∀ i,i<pr.len->bS (pr.el i 2)
noncomputable def ycpS:FSpec:=fun ds _=>match ds with
 | [.d ch,.d ru,.d pr]=>some {val:=.one (.agg [.c (.rows 47 (cpC ch)),.c (.rows 53 (cpU ru)),.c (.rows 63 (cpP pr))]),vc:=[SyS ch ru pr]}
 |_=>none
noncomputable def ycpC:Con:=con [lSyr] ycpS
theorem ycp_ok:ConOK Tryz.prog 4 ycpC:=by
 refine fn_ob tt_ok mixed Tryz.func4 rfl (fun _ _=>by kernel_rfl) (A:=fun ds=>⟨fun _=>Cons.of [(11,scpC)],fun k=>match k,ds with | 3,[.d ch,.d ru,.d pr]=>some {ι:=Nat,pre:=fun _ i=>i<=ch.len,μ:=fun i=>ch.len+1-i,st:=fun s i=>famR s [(4,.one (.sc (.int .i64 (.sym ((i:Nat))))))] [1,2,3] [(idOf s 3,.own 31 ([.c (.osl 47 (s.nx-1) (.lit 0) (.sym (i))),.c .nils,.c .nils])),(s.nx-1,.orow 47 (cpTo (i) (chRq ch)))] [1,2]} | 8,[.d ch,.d ru,.d pr]=>some {ι:=Nat,pre:=fun _ i=>i<=ru.len,μ:=fun i=>ru.len+1-i,st:=fun s i=>famR s [(6,.one (.sc (.int .i64 (.sym ((i:Nat))))))] [1,2,3] [(idOf s 3,.own 31 ([.c (.osl 47 (cellId s 3 0) (.lit 0) (.sym (ch.len))),.c (.osl 53 (s.nx-1) (.lit 0) (.sym (i))),.c .nils])),(cellId s 3 0,.orow 47 (cpTo (ch.len) (chRq ch))),(s.nx-1,.orow 53 (cpTo (i) (ruRq ru)))] [1,2]} | 12,[.d ch,.d ru,.d pr]=>some {ι:=Nat,pre:=fun s q=>q<=(ru.el (slotN s 6) 1).len/\True,μ:=fun q=>140737488355329-q,st:=fun s q=>famR s [(8,.one (.sc (.int .i64 (.sym ((q:Nat))))))] [1,2,3,6,7] [(idOf s 7,.own 53 ([.c (.raw (.string ((ru.el (slotN s 6) 0).toS))),.c (.osl 56 (s.nx-1) (.lit 0) (.sym (q)))])),(s.nx-1,.orow 56 (cpTo q (mvR (ru.el (slotN s 6) 1)))),(cellId s 3 0,.orow 47 (cpTo (ch.len) (chRq ch))),(cellId s 3 1,.orow 53 (cpTo (slotN s 6) (ruRq ru)))] [1,2,3]} | 18,[.d ch,.d ru,.d pr]=>some {ι:=Nat,pre:=fun _ i=>i<=pr.len,μ:=fun i=>pr.len+1-i,st:=fun s i=>famR s [(10,.one (.sc (.int .i64 (.sym ((i:Nat))))))] [1,2,3] [(idOf s 3,.own 31 ([.c (.osl 47 (cellId s 3 0) (.lit 0) (.sym (ch.len))),.c (.osl 53 (cellId s 3 1) (.lit 0) (.sym (ru.len))),.c (.osl 63 (s.nx-1) (.lit 0) (.sym (i)))])),(cellId s 3 0,.orow 47 (cpTo (ch.len) (chRq ch))),(cellId s 3 1,.orow 53 (cpTo (ru.len) (ruRq ru))),(s.nx-1,.orow 63 (cpTo (i) (prR pr)))] [1,2]} |_,_=>none,fun _=>none⟩) (fun _ _=>(cons_cons scp_ok cons_nil)) (by kernel_rfl) ?_
 intro ds fr
 unfold ycpS
 split
 ·rename_i ch ru pr
  refine kmp (q:=SyS ch ru pr->(∃ (i:Nat),i.le ch.len/\(0:Int)=(↑i:Int)/\i=(0:Nat)/\List.map (chRq ch) (List.range i)=[]/\ch.rows=ch.rows/\ru.rows=ru.rows/\pr.rows=pr.rows)/\∀ (i:Nat),i.le ch.len->(decide ((↑i:Int)<(↑ch.len:Int))=true->((0:Int)<=(↑i:Int)/\(↑i:Int)<(↑ch.len:Int))/\(0:Nat)=(D.l []).len/\((0:Nat)+(ch.el (↑i:Int).toNat 5).len)*(16:Nat)<=(140737488355328:Nat)/\(0:Nat)+((0:Nat)+(ch.el (↑i:Int).toNat 5).len)<=((D.l []).app (ch.el (↑i:Int).toNat 5)).len/\i=(cpTo i (chRq ch)).len/\(i+((D.l [[D.s (ch.el (↑i:Int).toNat (0:Nat)).toS,D.i (ch.el (↑i:Int).toNat 1).toI,D.i (ch.el (↑i:Int).toNat 2).toI,D.s (ch.el (↑i:Int).toNat 3).toS,D.s (ch.el (↑i:Int).toNat 4).toS,((D.l []).app (ch.el (↑i:Int).toNat 5)).sub (0:Nat) ((0:Nat)+((0:Nat)+(ch.el (↑i:Int).toNat 5).len))]]).sub (0:Nat) 1).len)*(88:Nat)<=(140737488355328:Nat)/\(0:Nat)+(1:Nat)<=(D.l [[D.s (ch.el (↑i:Int).toNat (0:Nat)).toS,D.i (ch.el (↑i:Int).toNat 1).toI,D.i (ch.el (↑i:Int).toNat 2).toI,D.s (ch.el (↑i:Int).toNat 3).toS,D.s (ch.el (↑i:Int).toNat 4).toS,((D.l []).app (ch.el (↑i:Int).toNat 5)).sub (0:Nat) ((0:Nat)+((0:Nat)+(ch.el (↑i:Int).toNat 5).len))]]).len/\∃ (j:Nat),j.le ch.len/\ch.len+(1:Nat)-j<ch.len+(1:Nat)-i/\IntKind.i64.wrap ((↑i:Int)+(1:Int))=(↑j:Int)/\i+((D.l [[D.s (ch.el (↑i:Int).toNat (0:Nat)).toS,D.i (ch.el (↑i:Int).toNat 1).toI,D.i (ch.el (↑i:Int).toNat 2).toI,D.s (ch.el (↑i:Int).toNat 3).toS,D.s (ch.el (↑i:Int).toNat 4).toS,((D.l []).app (ch.el (↑i:Int).toNat 5)).sub (0:Nat) ((0:Nat)+((0:Nat)+(ch.el (↑i:Int).toNat 5).len))]]).sub (0:Nat) 1).len=j/\List.map (chRq ch) (List.range i)++List.drop (0:Nat) (List.take 1 [[D.s (ch.el (↑i:Int).toNat (0:Nat)).toS,D.i (ch.el (↑i:Int).toNat 1).toI,D.i (ch.el (↑i:Int).toNat 2).toI,D.s (ch.el (↑i:Int).toNat 3).toS,D.s (ch.el (↑i:Int).toNat 4).toS,((D.l []).app (ch.el (↑i:Int).toNat 5)).sub (0:Nat) ((0:Nat)+((0:Nat)+(ch.el (↑i:Int).toNat 5).len))]])=List.map (chRq ch) (List.range j)/\ch.rows=ch.rows/\ru.rows=ru.rows/\pr.rows=pr.rows)/\(decide ((↑i:Int)<(↑ch.len:Int))=false->(∃ (i_1:Nat),i_1.le ru.len/\(0:Int)=(↑i_1:Int)/\i=ch.len/\i_1=(0:Nat)/\List.map (chRq ch) (List.range i)=List.map (chRq ch) (List.range ch.len)/\List.map (ruRq ru) (List.range i_1)=[]/\ch.rows=ch.rows/\ru.rows=ru.rows/\pr.rows=pr.rows)/\∀ (i:Nat),i.le ru.len->(decide ((↑i:Int)<(↑ru.len:Int))=true->((0:Int)<=(↑i:Int)/\(↑i:Int)<(↑ru.len:Int))/\(∃ (i_1:Nat),(i_1<=(ru.el i (1:Nat)).len/\True)/\(0:Int)=(↑i_1:Int)/\(↑i:Int)=(↑i:Int)/\Value.string (ru.el (↑i:Int).toNat ((0:Nat)+(0:Nat))).toS=Value.string (ru.el i (0:Nat)).toS/\i_1=(0:Nat)/\List.map (mvR (ru.el i (1:Nat))) (List.range i_1)=[]/\List.map (chRq ch) (List.range ch.len)=List.map (chRq ch) (List.range ch.len)/\List.map (ruRq ru) (List.range i)=List.map (ruRq ru) (List.range i)/\ch.rows=ch.rows/\ru.rows=ru.rows/\pr.rows=pr.rows/\ch.len=ch.len/\i=i)/\∀ (i_1:Nat),i_1<=(ru.el i (1:Nat)).len/\True->((0:Int)<=(↑i:Int)/\(↑i:Int)<(↑ru.len:Int))/\(decide ((↑i_1:Int)<(↑(ru.el (↑i:Int).toNat 1).len:Int))=true->((0:Int)<=(↑i:Int)/\(↑i:Int)<(↑ru.len:Int))/\((0:Int)<=(↑i_1:Int)/\(↑i_1:Int)<(↑(ru.el (↑i:Int).toNat 1).len:Int))/\i_1=(cpTo i_1 (mvR (ru.el i (1:Nat)))).len/\(i_1+((D.l [[D.i ((ru.el (↑i:Int).toNat 1).el (↑i_1:Int).toNat (0:Nat)).toI,D.s ((ru.el (↑i:Int).toNat 1).el (↑i_1:Int).toNat 1).toS,D.i ((ru.el (↑i:Int).toNat 1).el (↑i_1:Int).toNat 2).toI]]).sub (0:Nat) 1).len)*(32:Nat)<=(140737488355328:Nat)/\(0:Nat)+(1:Nat)<=(D.l [[D.i ((ru.el (↑i:Int).toNat 1).el (↑i_1:Int).toNat (0:Nat)).toI,D.s ((ru.el (↑i:Int).toNat 1).el (↑i_1:Int).toNat 1).toS,D.i ((ru.el (↑i:Int).toNat 1).el (↑i_1:Int).toNat 2).toI]]).len/\∃ (j:Nat),(j<=(ru.el i (1:Nat)).len/\True)/\(140737488355329:Nat)-j<(140737488355329:Nat)-i_1/\IntKind.i64.wrap ((↑i_1:Int)+(1:Int))=(↑j:Int)/\(↑i:Int)=(↑i:Int)/\Value.string (ru.el i (0:Nat)).toS=Value.string (ru.el i (0:Nat)).toS/\i_1+((D.l [[D.i ((ru.el (↑i:Int).toNat 1).el (↑i_1:Int).toNat (0:Nat)).toI,D.s ((ru.el (↑i:Int).toNat 1).el (↑i_1:Int).toNat 1).toS,D.i ((ru.el (↑i:Int).toNat 1).el (↑i_1:Int).toNat 2).toI]]).sub (0:Nat) 1).len=j/\List.map (mvR (ru.el i (1:Nat))) (List.range i_1)++List.drop (0:Nat) (List.take 1 [[D.i ((ru.el (↑i:Int).toNat 1).el (↑i_1:Int).toNat (0:Nat)).toI,D.s ((ru.el (↑i:Int).toNat 1).el (↑i_1:Int).toNat 1).toS,D.i ((ru.el (↑i:Int).toNat 1).el (↑i_1:Int).toNat 2).toI]])=List.map (mvR (ru.el i (1:Nat))) (List.range j)/\List.map (chRq ch) (List.range ch.len)=List.map (chRq ch) (List.range ch.len)/\List.map (ruRq ru) (List.range i)=List.map (ruRq ru) (List.range i)/\ch.rows=ch.rows/\ru.rows=ru.rows/\pr.rows=pr.rows/\ch.len=ch.len/\i=i)/\(decide ((↑i_1:Int)<(↑(ru.el (↑i:Int).toNat 1).len:Int))=false->(0:Nat)+i_1<=(cpTo i_1 (mvR (ru.el i (1:Nat)))).len/\i=(cpTo i (ruRq ru)).len/\(i+((D.l [[D.s (ru.el i (0:Nat)).toS,(cpTo i_1 (mvR (ru.el i (1:Nat)))).sub ((0:Nat)) ((0:Nat)+i_1)]]).sub (0:Nat) 1).len)*(40:Nat)<=(140737488355328:Nat)/\(0:Nat)+(1:Nat)<=(D.l [[D.s (ru.el i (0:Nat)).toS,(cpTo i_1 (mvR (ru.el i (1:Nat)))).sub ((0:Nat)) ((0:Nat)+i_1)]]).len/\∃ (j:Nat),j.le ru.len/\ru.len+(1:Nat)-j<ru.len+(1:Nat)-i/\IntKind.i64.wrap ((↑i:Int)+(1:Int))=(↑j:Int)/\ch.len=ch.len/\i+((D.l [[D.s (ru.el i (0:Nat)).toS,(cpTo i_1 (mvR (ru.el i (1:Nat)))).sub ((0:Nat)) ((0:Nat)+i_1)]]).sub (0:Nat) 1).len=j/\List.map (chRq ch) (List.range ch.len)=List.map (chRq ch) (List.range ch.len)/\List.map (ruRq ru) (List.range i)++List.drop (0:Nat) (List.take 1 [[D.s (ru.el i (0:Nat)).toS,(cpTo i_1 (mvR (ru.el i (1:Nat)))).sub ((0:Nat)) ((0:Nat)+i_1)]])=List.map (ruRq ru) (List.range j)/\ch.rows=ch.rows/\ru.rows=ru.rows/\pr.rows=pr.rows))/\(decide ((↑i:Int)<(↑ru.len:Int))=false->(∃ (i_1:Nat),i_1.le pr.len/\(0:Int)=(↑i_1:Int)/\ch.len=ch.len/\i=ru.len/\i_1=(0:Nat)/\List.map (chRq ch) (List.range ch.len)=List.map (chRq ch) (List.range ch.len)/\List.map (ruRq ru) (List.range i)=List.map (ruRq ru) (List.range ru.len)/\List.map (prR pr) (List.range i_1)=[]/\ch.rows=ch.rows/\ru.rows=ru.rows/\pr.rows=pr.rows)/\∀ (i:Nat),i.le pr.len->(decide ((↑i:Int)<(↑pr.len:Int))=true->((0:Int)<=(↑i:Int)/\(↑i:Int)<(↑pr.len:Int))/\(0:Nat)=(D.l []).len/\((0:Nat)+(pr.el (↑i:Int).toNat 1).len)*(16:Nat)<=(140737488355328:Nat)/\bS (pr.el (↑i:Int).toNat 2)/\(0:Nat)+((0:Nat)+(pr.el (↑i:Int).toNat 1).len)<=((D.l []).app (pr.el (↑i:Int).toNat 1)).len/\i=(cpTo i (prR pr)).len/\(i+((D.l [[D.s (pr.el (↑i:Int).toNat (0:Nat)).toS,((D.l []).app (pr.el (↑i:Int).toNat 1)).sub (0:Nat) ((0:Nat)+((0:Nat)+(pr.el (↑i:Int).toNat 1).len)),cpB (pr.el (↑i:Int).toNat 2)]]).sub (0:Nat) 1).len)*(64:Nat)<=(140737488355328:Nat)/\(0:Nat)+(1:Nat)<=(D.l [[D.s (pr.el (↑i:Int).toNat (0:Nat)).toS,((D.l []).app (pr.el (↑i:Int).toNat 1)).sub (0:Nat) ((0:Nat)+((0:Nat)+(pr.el (↑i:Int).toNat 1).len)),cpB (pr.el (↑i:Int).toNat 2)]]).len/\∃ (j:Nat),j.le pr.len/\pr.len+(1:Nat)-j<pr.len+(1:Nat)-i/\IntKind.i64.wrap ((↑i:Int)+(1:Int))=(↑j:Int)/\ch.len=ch.len/\ru.len=ru.len/\i+((D.l [[D.s (pr.el (↑i:Int).toNat (0:Nat)).toS,((D.l []).app (pr.el (↑i:Int).toNat 1)).sub (0:Nat) ((0:Nat)+((0:Nat)+(pr.el (↑i:Int).toNat 1).len)),cpB (pr.el (↑i:Int).toNat 2)]]).sub (0:Nat) 1).len=j/\List.map (chRq ch) (List.range ch.len)=List.map (chRq ch) (List.range ch.len)/\List.map (ruRq ru) (List.range ru.len)=List.map (ruRq ru) (List.range ru.len)/\List.map (prR pr) (List.range i)++List.drop (0:Nat) (List.take 1 [[D.s (pr.el (↑i:Int).toNat (0:Nat)).toS,((D.l []).app (pr.el (↑i:Int).toNat 1)).sub (0:Nat) ((0:Nat)+((0:Nat)+(pr.el (↑i:Int).toNat 1).len)),cpB (pr.el (↑i:Int).toNat 2)]])=List.map (prR pr) (List.range j)/\ch.rows=ch.rows/\ru.rows=ru.rows/\pr.rows=pr.rows)/\(decide ((↑i:Int)<(↑pr.len:Int))=false->(0:Nat)+ch.len<=(cpTo ch.len (chRq ch)).len/\(0:Nat)+ru.len<=(cpTo ru.len (ruRq ru)).len/\(0:Nat)+i<=(cpTo i (prR pr)).len/\List.drop ((0:Nat)) (List.take ((0:Nat)+ch.len) (List.map (chRq ch) (List.range ch.len)))=List.map (chRq ch) (List.range ch.len)/\List.drop ((0:Nat)) (List.take ((0:Nat)+ru.len) (List.map (ruRq ru) (List.range ru.len)))=List.map (ruRq ru) (List.range ru.len)/\List.drop ((0:Nat)) (List.take ((0:Nat)+i) (List.map (prR pr) (List.range i)))=List.map (prR pr) (List.range pr.len))))) (by kernel_rfl) ?_
  intro hs
  refine ⟨⟨0,Nat.zero_le _,by (repeat' apply And.intro)<;>rfl⟩,fun i hi=>⟨fun hc=>?_,fun hc=>?_⟩⟩
  ·have hc:=of_decide_eq_true hc
   have hi2:i<ch.len:=by omega
   have b1:=hs.c
   have b2:=hs.ct i hi2
   have hw2:IntKind.i64.wrap ((i:Int)+1)=((i+1:Nat):Int):=by rw [IntWalk.i64_in _ (by omega)];omega
   rw [nD_app]
   refine ⟨⟨by omega,by omega⟩,rfl,(show (0+(ch.el i 5).len)*16<=140737488355328 by omega),app_le _,(cpTo_len _ _).symm,(show (i+1)*88<=140737488355328 by omega),Nat.le_refl _,i+1,hi2,by omega,hw2,?_⟩
   (repeat' apply And.intro)<;>first |exact (cpTo_succ i (chRq ch)).symm |rfl
  ·have hc:=of_decide_eq_false hc
   have hi3:i=ch.len:=by have:i<=ch.len:=hi;omega
   subst hi3
   refine ⟨⟨0,Nat.zero_le _,by (repeat' apply And.intro)<;>rfl⟩,fun i hi=>⟨fun hc=>?_,fun hc=>?_⟩⟩
   ·have hc:=of_decide_eq_true hc
    have hi2:i<ru.len:=by omega
    have b1:=hs.r
    have b2:=hs.rm i hi2
    have hw2:IntKind.i64.wrap ((i:Int)+1)=((i+1:Nat):Int):=by rw [IntWalk.i64_in _ (by omega)];omega
    refine ⟨⟨by omega,by omega⟩,⟨0,⟨Nat.zero_le _,trivial⟩,by (repeat' apply And.intro)<;>rfl⟩,fun q hq=>⟨⟨by omega,by omega⟩,fun hd=>?_,fun hd=>?_⟩⟩
    ·have hd:=of_decide_eq_true hd
     have hq2:q<(ru.el i 1).len:=by have:(q:Int)<((ru.el i 1).len:Int):=hd;omega
     have hwq:IntKind.i64.wrap ((q:Int)+1)=((q+1:Nat):Int):=by rw [IntWalk.i64_in _ (by omega)];omega
     refine ⟨⟨by omega,by omega⟩,⟨by omega,hd⟩,(cpTo_len _ _).symm,(show (q+1)*32<=140737488355328 by omega),Nat.le_refl _,q+1,⟨hq2,trivial⟩,by omega,hwq,?_⟩
     (repeat' apply And.intro)<;>first |exact (cpTo_succ q (mvR (ru.el i 1))).symm |rfl
    ·have hd:=of_decide_eq_false hd
     have hq3:q=(ru.el i 1).len:=by have:¬ (q:Int)<((ru.el i 1).len:Int):=hd;have:=hq.1;omega
     subst hq3
     rw [cpTo_all]
     refine ⟨by rw [cpTo_len];omega,(cpTo_len _ _).symm,(show (i+1)*40<=140737488355328 by omega),Nat.le_refl _,i+1,hi2,by omega,hw2,?_⟩
     (repeat' apply And.intro)<;>first |exact (cpTo_succ i (ruRq ru)).symm |rfl
   ·have hc:=of_decide_eq_false hc
    have hi3:i=ru.len:=by have:i<=ru.len:=hi;omega
    subst hi3
    refine ⟨⟨0,Nat.zero_le _,by (repeat' apply And.intro)<;>rfl⟩,fun i hi=>⟨fun hc=>?_,fun hc=>?_⟩⟩
    ·have hc:=of_decide_eq_true hc
     have hi2:i<pr.len:=by omega
     have b1:=hs.p
     have b2:=hs.pv i hi2
     have hw2:IntKind.i64.wrap ((i:Int)+1)=((i+1:Nat):Int):=by rw [IntWalk.i64_in _ (by omega)];omega
     rw [nD_app]
     refine ⟨⟨by omega,by omega⟩,rfl,(show (0+(pr.el i 1).len)*16<=140737488355328 by omega),hs.pb i hi2,app_le _,(cpTo_len _ _).symm,(show (i+1)*64<=140737488355328 by omega),Nat.le_refl _,i+1,hi2,by omega,hw2,?_⟩
     (repeat' apply And.intro)<;>first |exact (cpTo_succ i (prR pr)).symm |rfl
    ·have hc:=of_decide_eq_false hc
     have hi3:i=pr.len:=by have:i<=pr.len:=hi;omega
     subst hi3
     exact ⟨by rw [cpTo_len];omega,by rw [cpTo_len];omega,by rw [cpTo_len];omega,takeAll _ _,takeAll _ _,takeAll _ _⟩
 ·trivial
end Go.Proofs.YthpponmbpoaffaaGreatDoor.Sx.Z
namespace Go.Proofs.YthpponmbpoaffaaGreatDoor.Sx.Z
open Go.RowKit
theorem fr_text {B:Nat} {ρ ρ':Map} {w w1 w2 w':World} {e f:Eff} (h:Fr B ρ ρ' w1 w2 e) (hnw:e.nw=[]) (hk:∀ id x,look e.st id=some x->x = .gone) (ha:Below w.heap.size w w1) (hb:Below w2.heap.size w2 w') (hf:f.st=e.st) (hfn:f.nw=[]):Fr B ρ ρ' w w' f:=by
 have s1:=ha.size
 have s2:=h.below.size
 refine ⟨h.ext,fun id _=>h.only id (by rw [hnw];rfl),(ha.mono (Nat.zero_le _)).trans (h.below.trans (hb.mono (Nat.zero_le _))),fun b hb1 hk1=>?_,fun id x hx=>?_,fun id x hx=>?_,fun i j x y hx=>?_,fun b cs hc=>?_⟩
 ·rw [hb.block b (by omega),h.keep b (by omega) (by rw [<- hf];exact hk1),ha.block b hb1]
 ·rw [hf] at hx
  rw [hk id x hx];trivial
 ·rw [hfn] at hx;cases hx
 ·rw [hfn] at hx;cases hx
 ·rcases h.fz b cs hc with h1 |⟨h1,⟨T,z,h2⟩,_⟩
  ·exact .inl h1
  ·refine .inr ⟨?_,⟨T,z,by rw [hb.block b (heap_lt h2)];exact h2⟩,fun id x hx=>by rw [hfn] at hx;cases hx⟩
   rw [hf]
   exact h1.imp (fun x=>Nat.le_trans s1 x) id
theorem wh_below {w0:W0} {w w':World} {ρ:Map} {hp:Heap} (h:WH w0 ρ hp w) (hb:Below w.heap.size w w'):WH w0 ρ hp w':=
 wh_step (e:={val:=.junk,vc:=[]}) h ⟨⟨fun _ _ h=>h,fun _ _=>rfl,fun _ _ h=>h,rfl,rfl⟩,fun _ _=>rfl,hb.mono (Nat.zero_le _),fun b hlt _=>hb.block b hlt,fun i x hx=>(by cases hx),fun i x hx=>(by cases hx),fun i j x y hx=>(by cases hx),fun b cs hcs=>.inl hcs⟩ (fun id x hx=>(by cases hx)) (fun id x hx=>(by cases hx))
theorem trel_str {f:Fz} {d:D} {v:Value} (h:TRel f .str d v):v = .string d.toS:=by cases h;rfl
def txS (ch ru pr:D):ByteArray:=if wdE ch ru pr=0 then ⟨(txB (wsL (wdA ch ru pr) (wdA ch ru pr).len)).toArray⟩ else ⟨#[]⟩
theorem wdA_len (ch ru pr:D):(wdA ch ru pr).len<=2000:=by
 unfold wdA
 split
 ·rename_i h
  rcases Nat.lt_or_ge 2000 (wdD ch ru pr).len with h2 |h2
  ·exfalso
   unfold wdE at h
   split at h
   ·split at h
    ·rw [if_pos (by omega)] at h;cases h
    ·cases h
   ·cases h
  ·exact h2
 ·exact Nat.zero_le _
noncomputable def txC:Con:=fun hp _ args=>match flP hp [lSy] args with
 |some ([.d ch,.d ru,.d pr],ps)=>some {val:=.tup [.sc (.raw (.string (txS ch ru pr))),.sc (.int .i64 (.sym (wdE ch ru pr)))],vc:=ps++[SyOK ch ru pr,(syB ch ru pr=true->syN pr=true->SyF ch ru pr),∀ i,i<(wdA ch ru pr).len->((wdA ch ru pr).el i 0).toS.size<=1000000000],st:=kills (keepOwn hp (idsX hp args))}
 |_=>none
theorem tx_ok:ConOK Tryz.prog 5 txC:=by
 refine ⟨fun _ _=>by kernel_rfl,fun hp fr args e he hv w0 w ρ vs hw hfr ha=>?_,fun _ _ _ e h=>nomatch (show (none:Option Eff)=some e from h)⟩
 unfold txC at he
 split at he
 ·rename_i ch ru pr ps hds
  obtain rfl:=Option.some.inj he
  obtain ⟨hp1,hp2⟩:=all_append.1 hv
  obtain ⟨q1,q2,q3,_⟩:=hp2
  obtain ⟨svs,h,ρ1,id,hun,_,_,hrel⟩:=unP_spec hw [lSy] args _ ps hds hp1 vs ha (ids:=keepOwn hp (idsX hp args)) (fun i hi ho=>keepOwn_mem.2 ⟨hi,ho⟩) 0
  obtain rfl:svs=_:=(congrArg Prod.fst (Option.some.inj hun)).symm
  match vs,hrel with
  | [x],⟨hx,_⟩=>
    obtain ⟨cs,rfl,hcs⟩:=hx
    obtain ⟨a,b,c,rfl⟩:∃ a b c,cs=#[a,b,c]:=by
     rcases cs with ⟨l⟩
     have hl:3=l.length:=hcs.1
     rcases l with _ |⟨a,_ |⟨b,_ |⟨c,_ |⟨d,l⟩⟩⟩⟩<;>first |exact ⟨_,_,_,rfl⟩ |(simp at hl;done)
    have hal:Below w.heap.size w (w.alloc (.cells #[a,b,c] 31)):=(Below.refl _ _).alloc (Nat.le_refl _) _
    have hw1:=wh_below hw hal
    have hcall:=wrd_ok.calls hp fr args {val:=.tup [.sc (.rows 9 (wdA ch ru pr)),.sc (.int .i64 (.sym (wdE ch ru pr)))],vc:=ps++[SyOK ch ru pr,(syB ch ru pr=true->syN pr=true->SyF ch ru pr)],st:=kills (keepOwn hp (idsX hp args))} (by unfold wrdC con;rw [hds];rfl) (all_append.2 ⟨hp1,q1,q2,trivial⟩) w0 _ ρ [.agg #[a,b,c]] hw1 (fun _ _ h=>by cases h) ha
    refine text_walk a b c w _ (hcall.mono ?_)
    rintro en w2 ⟨ρ2,v,rfl,⟨vs2,rfl,hur⟩,hF⟩
    have hw2:=wh_step hw1 hF stOK_kills (fun _ _ h=>by cases h)
    have hFr:∀ w',Below w2.heap.size w2 w'->∀ sv vc,Fr w0.heap.size ρ ρ2 w w' {val:=sv,vc:=vc,st:=kills (keepOwn hp (idsX hp args))}:=fun w' hb sv vc=>fr_text hF rfl (fun id x hx=>(kills_look hx).1) hal hb rfl rfl
    obtain ⟨x1,x2,rfl,h1,h2⟩:∃ x1 x2,vs2=#[x1,x2]/\TRel ρ2.fz (.slice 9) (wdA ch ru pr) x1/\x2 = .int .i64 (wdE ch ru pr):=by
     rcases vs2 with ⟨l⟩
     rcases l with _ |⟨x1,_ |⟨x2,_ |⟨x3,l⟩⟩⟩
     ·exact hur.elim
     ·exact hur.2.elim
     ·exact ⟨x1,x2,rfl,hur.1,hur.2.1⟩
     ·exact hur.2.2.elim
    subst h2
    obtain ⟨A,k,hx1,hcell⟩:∃ A k,x1 = .slice A (wdA ch ru pr).len k/\∀ i,i<(wdA ch ru pr).len->∃ p,A=some p/\w2.cell? (p.add i)=some (.string ((wdA ch ru pr).el i 0).toS):=by
     cases h1 with
     |nil _ _ h=>exact ⟨none,0,by rw [h],fun i hi=>by omega⟩
     |empty _ _ a c h=>exact ⟨some a,c,by rw [h],fun i hi=>by omega⟩
     |slice _ _ b o c u hc hu hr=>
      refine ⟨some ⟨b,o,none⟩,c,rfl,fun i hi=>⟨_,rfl,?_⟩⟩
      have e1:=hu i 0 hi (by decide)
      have e2:=hr i 0 .str hi rfl
      have e3:u i 0 = .string ((wdA ch ru pr).el i 0).toS:=trel_str e2
      rw [e3] at e1
      have e4:=Frozen.cell hw2.froz e1
      rw [show (eks 9).length=1 from rfl,Nat.mul_one,Nat.add_zero] at e4
      have ea:(⟨b,o,none⟩:Addr).add i=⟨b,o+i,none⟩:=by
       by_cases h:i=0
       ·subst h;simp [Addr.add]
       ·simp [Addr.add,h]
      rw [ea];exact e4
    subst hx1
    have hL:(wsL (wdA ch ru pr) (wdA ch ru pr).len).length=(wdA ch ru pr).len:=by unfold wsL;simp
    have hg:∀ i (h:i<(wsL (wdA ch ru pr) (wdA ch ru pr).len).length),(wsL (wdA ch ru pr) (wdA ch ru pr).len)[i]=((wdA ch ru pr).el i 0).toS:=fun i h=>by
     simp [wsL]
    refine ⟨A,(wdA ch ru pr).len,k,wdE ch ru pr,wsL (wdA ch ru pr) (wdA ch ru pr).len,rfl,hL,wdA_len _ _ _,fun i h=>?_,fun h0 w' hb=>?_,fun h0 w' hb=>?_⟩
    ·rw [hg i h]
     exact ⟨q3 i (by omega),hcell i (by omega)⟩
    ·refine ⟨ρ2,_,rfl,⟨_,rfl,?_,rfl,trivial⟩,hFr w' hb _ _⟩
     show Value.string _ = .string (txS ch ru pr)
     unfold txS
     rw [if_neg h0]
    ·refine ⟨ρ2,_,rfl,⟨_,rfl,?_,?_,trivial⟩,hFr w' hb _ _⟩
     ·show Value.string _ = .string (txS ch ru pr)
      unfold txS
      rw [if_pos h0]
     ·show Value.int .i64 0 = .int .i64 (wdE ch ru pr)
      rw [h0]
 ·cases he
end Go.Proofs.YthpponmbpoaffaaGreatDoor.Sx.Z
namespace Go.Proofs.YthpponmbpoaffaaGreatDoor
def valFrom (a:Nat) (ds:List UInt8):Nat:=ds.foldl (fun n d=>10*n+(d.toNat-48)) a
theorem valFrom_lt (ds:List UInt8):∀ a,(∀ d∈ds,digU d=true)->valFrom a ds<(a+1)*10 ^ ds.length:=by
 induction ds with
 |nil=>intro a _;simp [valFrom]
 |cons d t ih=>
  intro a hall
  have h:=ih (10*a+(d.toNat-48)) (fun x hx=>hall x (by simp [hx]))
  have hd:digU d=true:=hall d (by simp)
  simp only [digU,digB,Bool.and_eq_true,decide_eq_true_eq] at hd
  have e:valFrom a (d::t)=valFrom (10*a+(d.toNat-48)) t:=rfl
  rw [e,List.length_cons,Nat.pow_succ]
  have h2:(10*a+(d.toNat-48)+1)*10 ^ t.length<=(a+1)*(10 ^ t.length*10):=by
   rw [Nat.mul_comm (10 ^ t.length) 10,<- Nat.mul_assoc]
   exact Nat.mul_le_mul_right _ (by omega)
  omega
theorem val_few (l:List UInt8) (h:∀ b∈l,digU b=true) (hl:l.length<=10):val l<10000000000:=by
 have h1:=valFrom_lt l 0 h
 have h2:10 ^ l.length<=10 ^ 10:=Nat.pow_le_pow_right (by decide) hl
 have h3:(10:Nat) ^ 10=10000000000:=by decide
 have e:valFrom 0 l=val l:=rfl
 omega
theorem Run.take {T:ByteArray} {k:Nat} (h:Run digU T 0 k):∀ b∈T.data.toList.take k,digU b=true:=by
 intro b hb
 obtain ⟨j,hj,rfl⟩:=List.getElem_of_mem hb
 rw [List.length_take] at hj
 have:=h.2.2 j (by omega) (by omega)
 rw [List.getD_eq_getElem?_getD,List.getElem?_eq_getElem (by omega)] at this
 rw [List.getElem_take]
 exact this
theorem Run.few {T:ByteArray} {k:Nat} (h:Run digU T 0 k) (hk:k<=10):vl T 0 k<10000000000:=by
 unfold vl
 rw [List.drop_zero]
 exact val_few _ (by have:=h.take;rw [Nat.sub_zero];exact this) (by rw [List.length_take];omega)
theorem Run.whole {T:ByteArray} {k:Nat} (h:Run digU T 0 k) (hk:T.size<=k):lenOf digU T.data.toList=k:=by
 have:=h.len (fun hx=>absurd hx (by omega))
 rw [List.drop_zero,Nat.sub_zero] at this
 exact this
theorem Run.part {T:ByteArray} {k d:Nat} (h:Run digU T 0 k) (hk:k<T.size) (hb:digU T[k]=false) (hd:lenOf digU T.data.toList=d):d=k:=by
 have:=h.len (fun hx=>by rw [getD_eq T k hx];exact hb)
 rw [List.drop_zero,Nat.sub_zero] at this
 omega
end Go.Proofs.YthpponmbpoaffaaGreatDoor
namespace Go.Proofs.YthpponmbpoaffaaGreatDoor
def ofL (l:List UInt8):ByteArray:=⟨l.toArray⟩
def lexL:Nat->List UInt8->Nat->List Tok->Except (Nat × Int) (List Tok)
 | 0,_,_,acc=>.ok acc
 |f+1,r,p,acc=>
  if 0<r.length then
   if gapU (r.headD 0) then lexL f (r.drop 1) (p+1) acc
   else match wordE r with
    | .error e=>.error (p,e)
    | .ok (k,n,m)=>lexL f (r.drop n) (p+n) (acc++[⟨k,ofL (r.take n),m,p⟩])
  else .ok acc
def lexW (r:List UInt8) (p:Nat) (acc:List Tok):Except (Nat × Int) (List Tok):=lexL r.length r p acc
theorem lexL_fuel:∀ (f g:Nat) (r:List UInt8) (p:Nat) (acc:List Tok),r.length<=f->r.length<=g->lexL f r p acc=lexL g r p acc:=by
 intro f
 induction f with
 |zero=>
  intro g r p acc hf hg
  have h0:¬ 0<r.length:=by omega
  match g with
  | 0=>rfl
  |g+1=>rw [lexL,lexL,if_neg h0]
 |succ f ih=>
  intro g r p acc hf hg
  by_cases h0:0<r.length
  ·match g with
   | 0=>omega
   |g+1=>
    rw [lexL,lexL,if_pos h0,if_pos h0]
    by_cases hgp:gapU (r.headD 0)=true
    ·rw [if_pos hgp,if_pos hgp]
     exact ih g _ _ _ (by rw [List.length_drop];omega) (by rw [List.length_drop];omega)
    ·rw [if_neg hgp,if_neg hgp]
     rcases hE:wordE r with x |⟨k,n,m⟩
     ·rfl
     ·have:=(wordE_ok h0 hE).1
      exact ih g _ _ _ (by rw [List.length_drop];omega) (by rw [List.length_drop];omega)
  ·match g with
   | 0=>rw [lexL,lexL,if_neg h0]
   |g+1=>rw [lexL,lexL,if_neg h0,if_neg h0]
theorem lexW_gap {r:List UInt8} (h0:0<r.length) (hg:gapU (r.headD 0)=true) (p:Nat) (acc:List Tok):lexW r p acc=lexW (r.drop 1) (p+1) acc:=by
 unfold lexW
 obtain ⟨n,hn⟩:∃ n,r.length=n+1:=⟨r.length-1,by omega⟩
 rw [hn,lexL,if_pos (by omega),if_pos hg]
 exact lexL_fuel _ _ _ _ _ (by rw [List.length_drop];omega) (Nat.le_refl _)
theorem lexW_word {r:List UInt8} (h0:0<r.length) (hg:gapU (r.headD 0)=false) {k m:Int} {n:Nat} (hE:wordE r = .ok (k,n,m)) (p:Nat) (acc:List Tok) :
 lexW r p acc=lexW (r.drop n) (p+n) (acc++[⟨k,ofL (r.take n),m,p⟩]):=by
 unfold lexW
 obtain ⟨l,hl⟩:∃ l,r.length=l+1:=⟨r.length-1,by omega⟩
 have:=(wordE_ok h0 hE).1
 rw [hl,lexL,if_pos (by omega),if_neg (by rw [hg];decide),hE]
 exact lexL_fuel _ _ _ _ _ (by rw [List.length_drop];omega) (Nat.le_refl _)
theorem ofL_extract (s:ByteArray) (p n:Nat):s.extract p (p+n)=ofL ((s.data.toList.drop p).take n):=by
 have h:=Lib.extract_data s p (p+n)
 rw [show p+n-p=n from by omega] at h
 unfold ofL
 rw [<- h]
theorem lexGo_lexL (s:ByteArray):∀ (f p:Nat) (acc:List Tok),p<=s.size->lexGo s f p acc=lexL f (s.data.toList.drop p) p acc:=by
 intro f
 have hl:s.data.toList.length=s.size:=by simp
 induction f with
 |zero=>intro p acc _;rfl
 |succ f ih=>
  intro p acc hp
  rw [lexGo,lexL]
  have hlen:(s.data.toList.drop p).length=s.size-p:=by rw [List.length_drop,hl]
  by_cases hlt:p<s.size
  ·have hl2:0<(s.data.toList.drop p).length:=by omega
   rw [if_pos hlt,if_pos hl2,head_drop]
   by_cases hg:gapU (s.data.toList.getD p 0)=true
   ·rw [if_pos hg,if_pos hg,List.drop_drop]
    exact ih (p+1) acc (by omega)
   ·rw [if_neg hg,if_neg hg]
    rcases hE:wordE (s.data.toList.drop p) with x |⟨k,n,m⟩
    ·rfl
    ·have h2:=(wordE_ok (by omega) hE).2.1
     show lexGo s f (p+n) _=lexL f ((s.data.toList.drop p).drop n) (p+n) _
     rw [List.drop_drop,ofL_extract]
     exact ih (p+n) _ (by omega)
  ·have hl2:¬ 0<(s.data.toList.drop p).length:=by omega
   rw [if_neg hlt,if_neg hl2]
def lexF (l:List UInt8):List Tok × Nat × Int:=match lexW l 0 [] with
 | .error (p,e)=>([],p,e)
 | .ok acc=>if 2000<acc.length then ([],l.length,4) else (acc,0,0)
theorem lexR_lexF (s:ByteArray):lexR s=lexF s.data.toList:=by
 have hl:s.data.toList.length=s.size:=by simp
 unfold lexR lexF lexW
 rw [lexGo_lexL s s.size 0 [] (by omega),hl]
 rfl
theorem gap_cases {b:UInt8} (h:gapU b=true):b=32 ∨ b=10:=by
 simp only [gapU,gapB,Bool.or_eq_true,beq_iff_eq] at h
 rcases h with h |h
 ·exact .inl (UInt8.toNat_inj.1 (by show b.toNat=32;omega))
 ·exact .inr (UInt8.toNat_inj.1 (by show b.toNat=10;omega))
theorem lenOf_app (pr:UInt8->Bool) (t:List UInt8) (ht:t=[] ∨ pr (t.headD 0)=false):∀ r:List UInt8,lenOf pr (r++t)=lenOf pr r:=by
 intro r
 induction r with
 |nil=>
  rcases ht with rfl |h
  ·rfl
  ·match t with
   | []=>rfl
   |b::t=>
    have h:pr b=false:=h
    simp [lenOf,h]
 |cons a r ih=>
  have e1:a::r++t=a::(r++t):=rfl
  rw [e1]
  unfold lenOf at *
  rw [List.takeWhile_cons,List.takeWhile_cons]
  by_cases ha:pr a=true
  ·rw [if_pos ha,if_pos ha,List.length_cons,List.length_cons,ih]
  ·rw [if_neg ha,if_neg ha]
theorem headD_app {r t:List UInt8} (h0:0<r.length):(r++t).headD 0=r.headD 0:=by
 match r,h0 with
 |a::r,_=>rfl
end Go.Proofs.YthpponmbpoaffaaGreatDoor
