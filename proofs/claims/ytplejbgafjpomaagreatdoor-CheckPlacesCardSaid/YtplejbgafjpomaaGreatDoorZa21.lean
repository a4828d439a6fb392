import Derived.Test.YtplejbgafjpomaaGreatDoorZa20
import Derived.Test.YtplejbgafjpomaaGreatDoorZa15
set_option linter.unusedVariables false
set_option linter.unusedSimpArgs false
namespace Go.Proofs.YtplejbgafjpomaaGreatDoor.Sx
def cellId (s:St) (t j:Nat):Nat:=match look s.hp (idOf s t) with |some (.own _ l)=>(match l[j]? with |some (.c (.osl _ id _ _))=>id |_=>0) |_=>0
end Go.Proofs.YtplejbgafjpomaaGreatDoor.Sx
namespace Go.Proofs.YtplejbgafjpomaaGreatDoor.Sx.Z
open Go.RowKit
def lSyr:AP:=.agg [.c (.rows 72),.c (.rows 86),.c (.rows 75)]
def nD (d:D):D:=.l d.rows
theorem nD_app (d:D):((D.l []).app d).sub 0 (0+(0+d.len))=nD d:=by
 rw [Nat.zero_add,Nat.zero_add];show D.l (List.drop 0 (List.take d.rows.length ([]++d.rows)))=D.l d.rows;rw [List.nil_append,List.take_length];rfl
theorem app_le (d:D):0+(0+d.len)<=((D.l []).app d).len:=by
 rw [D.app_len];show 0+(0+d.len)<=0+d.len;omega
theorem takeAll (n:Nat) (f:Nat->List D):List.drop 0 (List.take (0+n) ((List.range n).map f))=(List.range n).map f:=by
 rw [Nat.zero_add,List.drop_zero,List.take_of_length_le (by simp)]
def chRq (ch:D) (i:Nat):List D:=[D.s (ch.el i 0).toS,D.i (ch.el i 1).toI,D.i (ch.el i 2).toI,D.s (ch.el i 3).toS,D.s (ch.el i 4).toS,nD (ch.el i 5)]
def mvR (mv:D) (i:Nat):List D:=[D.i (mv.el i 0).toI,D.s (mv.el i 1).toS,D.i (mv.el i 2).toI]
def ruRq (ru:D) (i:Nat):List D:=[D.s (ru.el i 0).toS,cpTo (ru.el i 1).len (mvR (ru.el i 1))]
def prR (pr:D) (i:Nat):List D:=[D.s (pr.el i 0).toS,nD (pr.el i 1),cpB (pr.el i 2)]
def cpC (ch:D):D:=cpTo ch.len (chRq ch)
def cpU (ru:D):D:=cpTo ru.len (ruRq ru)
def cpP (pr:D):D:=cpTo pr.len (prR pr)
structure SyS (ch ru pr:D):Prop where
 c:ch.len*88<=140737488355328
 ct:∀ i,i<ch.len->(ch.el i 5).len*16<=140737488355328
 r:ru.len*40<=140737488355328
 rm:∀ i,i<ru.len->(ru.el i 1).len*32<=140737488355328
 p:pr.len*64<=140737488355328
 pv:∀ i,i<pr.len->(pr.el i 1).len*16<=140737488355328
 pb:∀ i,i<pr.len->bS (pr.el i 2)
noncomputable def ycpS:FSpec:=fun ds _=>match ds with
 | [.d ch,.d ru,.d pr]=>some {val:=.one (.agg [.c (.rows 118 (cpC ch)),.c (.rows 121 (cpU ru)),.c (.rows 126 (cpP pr))]),vc:=[SyS ch ru pr]}
 |_=>none
noncomputable def ycpC:Con:=con [lSyr] ycpS
theorem ycp_ok:ConOK Tryz.prog 13 ycpC:=by
 refine fn_ob tt_ok mixed Tryz.func13 rfl (fun _ _=>by kernel_rfl) (A:=fun ds=>⟨fun _=>Cons.of [(33,scpC)],fun k=>match k,ds with | 3,[.d ch,.d ru,.d pr]=>some {ι:=Nat,pre:=fun _ i=>i<=ch.len,μ:=fun i=>ch.len+1-i,st:=fun s i=>famR s [(4,.one (.sc (.int .i64 (.sym ((i:Nat))))))] [1,2,3] [(idOf s 3,.own 67 ([.c (.osl 118 (s.nx-1) (.lit 0) (.sym (i))),.c .nils,.c .nils])),(s.nx-1,.orow 118 (cpTo (i) (chRq ch)))] [1,2]} | 8,[.d ch,.d ru,.d pr]=>some {ι:=Nat,pre:=fun _ i=>i<=ru.len,μ:=fun i=>ru.len+1-i,st:=fun s i=>famR s [(6,.one (.sc (.int .i64 (.sym ((i:Nat))))))] [1,2,3] [(idOf s 3,.own 67 ([.c (.osl 118 (cellId s 3 0) (.lit 0) (.sym (ch.len))),.c (.osl 121 (s.nx-1) (.lit 0) (.sym (i))),.c .nils])),(cellId s 3 0,.orow 118 (cpTo (ch.len) (chRq ch))),(s.nx-1,.orow 121 (cpTo (i) (ruRq ru)))] [1,2]} | 12,[.d ch,.d ru,.d pr]=>some {ι:=Nat,pre:=fun s q=>q<=(ru.el (slotN s 6) 1).len/\True,μ:=fun q=>140737488355329-q,st:=fun s q=>famR s [(8,.one (.sc (.int .i64 (.sym ((q:Nat))))))] [1,2,3,6,7] [(idOf s 7,.own 121 ([.c (.raw (.string ((ru.el (slotN s 6) 0).toS))),.c (.osl 122 (s.nx-1) (.lit 0) (.sym (q)))])),(s.nx-1,.orow 122 (cpTo q (mvR (ru.el (slotN s 6) 1)))),(cellId s 3 0,.orow 118 (cpTo (ch.len) (chRq ch))),(cellId s 3 1,.orow 121 (cpTo (slotN s 6) (ruRq ru)))] [1,2,3]} | 18,[.d ch,.d ru,.d pr]=>some {ι:=Nat,pre:=fun _ i=>i<=pr.len,μ:=fun i=>pr.len+1-i,st:=fun s i=>famR s [(10,.one (.sc (.int .i64 (.sym ((i:Nat))))))] [1,2,3] [(idOf s 3,.own 67 ([.c (.osl 118 (cellId s 3 0) (.lit 0) (.sym (ch.len))),.c (.osl 121 (cellId s 3 1) (.lit 0) (.sym (ru.len))),.c (.osl 126 (s.nx-1) (.lit 0) (.sym (i)))])),(cellId s 3 0,.orow 118 (cpTo (ch.len) (chRq ch))),(cellId s 3 1,.orow 121 (cpTo (ru.len) (ruRq ru))),(s.nx-1,.orow 126 (cpTo (i) (prR pr)))] [1,2]} |_,_=>none,fun _=>none⟩) (fun _ _=>(cons_cons scp_ok cons_nil)) (by kernel_rfl) ?_
 intro ds fr;unfold ycpS;split
 ·rename_i ch ru pr
  refine kmp (q:=withv (fun (i:Nat)=>D.l [[D.s (ch.el (i:Int).toNat 0).toS,D.i (ch.el (i:Int).toNat 1).toI,D.i (ch.el (i:Int).toNat 2).toI,D.s (ch.el (i:Int).toNat 3).toS,D.s (ch.el (i:Int).toNat 4).toS,((D.l []).app (ch.el (i:Int).toNat 5)).sub (0:Nat) ((0:Nat)+((0:Nat)+(ch.el (i:Int).toNat 5).len))]]) fun E138=>withv (fun (i:Nat) (i_1:Nat)=>D.l [[D.i ((ru.el (i:Int).toNat 1).el (i_1:Int).toNat 0).toI,D.s ((ru.el (i:Int).toNat 1).el (i_1:Int).toNat 1).toS,D.i ((ru.el (i:Int).toNat 1).el (i_1:Int).toNat 2).toI]]) fun E139=>withv (fun (i:Nat)=>D.l [[D.s (pr.el (i:Int).toNat 0).toS,((D.l []).app (pr.el (i:Int).toNat 1)).sub (0:Nat) ((0:Nat)+((0:Nat)+(pr.el (i:Int).toNat 1).len)),cpB (pr.el (i:Int).toNat 2)]]) fun E140=>withv (fun (i:Nat)=>ch.el (i:Int).toNat 5) fun E141=>withv (fun (i:Nat)=>ru.el (i:Int).toNat 1) fun E142=>withv (fun (i:Nat) (i_1:Nat)=>D.l [[D.s (ru.el i 0).toS,(cpTo i_1 (mvR (ru.el i 1))).sub ((0:Nat)) ((0:Nat)+i_1)]]) fun E143=>withv (fun (i:Nat)=>pr.el (i:Int).toNat 1) fun E144=>SyS ch ru pr->(∃ (i:Nat),i.le ch.len/\(0:Int)=(i:Int)/\i=(0:Nat)/\List.map (chRq ch) (List.range i)=[]/\ch.rows=ch.rows/\ru.rows=ru.rows/\pr.rows=pr.rows)/\∀ (i:Nat),i.le ch.len->(decide ((i:Int)<(ch.len:Int))=true->((0:Int)<=(i:Int)/\(i:Int)<(ch.len:Int))/\(0:Nat)=(D.l []).len/\((0:Nat)+(E141 i).len)*(16:Nat)<=(140737488355328:Nat)/\(0:Nat)+((0:Nat)+(E141 i).len)<=((D.l []).app (E141 i)).len/\i=(cpTo i (chRq ch)).len/\(i+((E138 i).sub (0:Nat) 1).len)*(88:Nat)<=(140737488355328:Nat)/\(0:Nat)+(1:Nat)<=(E138 i).len/\∃ (j:Nat),j.le ch.len/\ch.len+(1:Nat)-j<ch.len+(1:Nat)-i/\IntKind.i64.wrap ((i:Int)+(1:Int))=(j:Int)/\i+((E138 i).sub (0:Nat) 1).len=j/\List.map (chRq ch) (List.range i)++List.drop (0:Nat) (List.take 1 [[D.s (ch.el (i:Int).toNat 0).toS,D.i (ch.el (i:Int).toNat 1).toI,D.i (ch.el (i:Int).toNat 2).toI,D.s (ch.el (i:Int).toNat 3).toS,D.s (ch.el (i:Int).toNat 4).toS,((D.l []).app (E141 i)).sub (0:Nat) ((0:Nat)+((0:Nat)+(E141 i).len))]])=List.map (chRq ch) (List.range j)/\ch.rows=ch.rows/\ru.rows=ru.rows/\pr.rows=pr.rows)/\(decide ((i:Int)<(ch.len:Int))=false->(∃ (i_1:Nat),i_1.le ru.len/\(0:Int)=(i_1:Int)/\i=ch.len/\i_1=(0:Nat)/\List.map (chRq ch) (List.range i)=List.map (chRq ch) (List.range ch.len)/\List.map (ruRq ru) (List.range i_1)=[]/\ch.rows=ch.rows/\ru.rows=ru.rows/\pr.rows=pr.rows)/\∀ (i:Nat),i.le ru.len->(decide ((i:Int)<(ru.len:Int))=true->((0:Int)<=(i:Int)/\(i:Int)<(ru.len:Int))/\(∃ (i_1:Nat),(i_1<=(ru.el i 1).len/\True)/\(0:Int)=(i_1:Int)/\(i:Int)=(i:Int)/\Value.string (ru.el (i:Int).toNat ((0:Nat)+(0:Nat))).toS=Value.string (ru.el i 0).toS/\i_1=(0:Nat)/\List.map (mvR (ru.el i 1)) (List.range i_1)=[]/\List.map (chRq ch) (List.range ch.len)=List.map (chRq ch) (List.range ch.len)/\List.map (ruRq ru) (List.range i)=List.map (ruRq ru) (List.range i)/\ch.rows=ch.rows/\ru.rows=ru.rows/\pr.rows=pr.rows/\ch.len=ch.len/\i=i)/\∀ (i_1:Nat),i_1<=(ru.el i 1).len/\True->((0:Int)<=(i:Int)/\(i:Int)<(ru.len:Int))/\(decide ((i_1:Int)<(↑(E142 i).len:Int))=true->((0:Int)<=(i:Int)/\(i:Int)<(ru.len:Int))/\((0:Int)<=(i_1:Int)/\(i_1:Int)<(↑(E142 i).len:Int))/\i_1=(cpTo i_1 (mvR (ru.el i 1))).len/\(i_1+((E139 i i_1).sub (0:Nat) 1).len)*(32:Nat)<=(140737488355328:Nat)/\(0:Nat)+(1:Nat)<=(E139 i i_1).len/\∃ (j:Nat),(j<=(ru.el i 1).len/\True)/\(140737488355329:Nat)-j<(140737488355329:Nat)-i_1/\IntKind.i64.wrap ((i_1:Int)+(1:Int))=(j:Int)/\(i:Int)=(i:Int)/\Value.string (ru.el i 0).toS=Value.string (ru.el i 0).toS/\i_1+((E139 i i_1).sub (0:Nat) 1).len=j/\List.map (mvR (ru.el i 1)) (List.range i_1)++List.drop (0:Nat) (List.take 1 [[D.i ((E142 i).el (i_1:Int).toNat 0).toI,D.s ((E142 i).el (i_1:Int).toNat 1).toS,D.i ((E142 i).el (i_1:Int).toNat 2).toI]])=List.map (mvR (ru.el i 1)) (List.range j)/\List.map (chRq ch) (List.range ch.len)=List.map (chRq ch) (List.range ch.len)/\List.map (ruRq ru) (List.range i)=List.map (ruRq ru) (List.range i)/\ch.rows=ch.rows/\ru.rows=ru.rows/\pr.rows=pr.rows/\ch.len=ch.len/\i=i)/\(decide ((i_1:Int)<(↑(E142 i).len:Int))=false->(0:Nat)+i_1<=(cpTo i_1 (mvR (ru.el i 1))).len/\i=(cpTo i (ruRq ru)).len/\(i+((E143 i i_1).sub (0:Nat) 1).len)*(40:Nat)<=(140737488355328:Nat)/\(0:Nat)+(1:Nat)<=(E143 i i_1).len/\∃ (j:Nat),j.le ru.len/\ru.len+(1:Nat)-j<ru.len+(1:Nat)-i/\IntKind.i64.wrap ((i:Int)+(1:Int))=(j:Int)/\ch.len=ch.len/\i+((E143 i i_1).sub (0:Nat) 1).len=j/\List.map (chRq ch) (List.range ch.len)=List.map (chRq ch) (List.range ch.len)/\List.map (ruRq ru) (List.range i)++List.drop (0:Nat) (List.take 1 [[D.s (ru.el i 0).toS,(cpTo i_1 (mvR (ru.el i 1))).sub ((0:Nat)) ((0:Nat)+i_1)]])=List.map (ruRq ru) (List.range j)/\ch.rows=ch.rows/\ru.rows=ru.rows/\pr.rows=pr.rows))/\(decide ((i:Int)<(ru.len:Int))=false->(∃ (i_1:Nat),i_1.le pr.len/\(0:Int)=(i_1:Int)/\ch.len=ch.len/\i=ru.len/\i_1=(0:Nat)/\List.map (chRq ch) (List.range ch.len)=List.map (chRq ch) (List.range ch.len)/\List.map (ruRq ru) (List.range i)=List.map (ruRq ru) (List.range ru.len)/\List.map (prR pr) (List.range i_1)=[]/\ch.rows=ch.rows/\ru.rows=ru.rows/\pr.rows=pr.rows)/\∀ (i:Nat),i.le pr.len->(decide ((i:Int)<(pr.len:Int))=true->((0:Int)<=(i:Int)/\(i:Int)<(pr.len:Int))/\(0:Nat)=(D.l []).len/\((0:Nat)+(E144 i).len)*(16:Nat)<=(140737488355328:Nat)/\bS (pr.el (i:Int).toNat 2)/\(0:Nat)+((0:Nat)+(E144 i).len)<=((D.l []).app (E144 i)).len/\i=(cpTo i (prR pr)).len/\(i+((E140 i).sub (0:Nat) 1).len)*(64:Nat)<=(140737488355328:Nat)/\(0:Nat)+(1:Nat)<=(E140 i).len/\∃ (j:Nat),j.le pr.len/\pr.len+(1:Nat)-j<pr.len+(1:Nat)-i/\IntKind.i64.wrap ((i:Int)+(1:Int))=(j:Int)/\ch.len=ch.len/\ru.len=ru.len/\i+((E140 i).sub (0:Nat) 1).len=j/\List.map (chRq ch) (List.range ch.len)=List.map (chRq ch) (List.range ch.len)/\List.map (ruRq ru) (List.range ru.len)=List.map (ruRq ru) (List.range ru.len)/\List.map (prR pr) (List.range i)++List.drop (0:Nat) (List.take 1 [[D.s (pr.el (i:Int).toNat 0).toS,((D.l []).app (E144 i)).sub (0:Nat) ((0:Nat)+((0:Nat)+(E144 i).len)),cpB (pr.el (i:Int).toNat 2)]])=List.map (prR pr) (List.range j)/\ch.rows=ch.rows/\ru.rows=ru.rows/\pr.rows=pr.rows)/\(decide ((i:Int)<(pr.len:Int))=false->(0:Nat)+ch.len<=(cpTo ch.len (chRq ch)).len/\(0:Nat)+ru.len<=(cpTo ru.len (ruRq ru)).len/\(0:Nat)+i<=(cpTo i (prR pr)).len/\List.drop ((0:Nat)) (List.take ((0:Nat)+ch.len) (List.map (chRq ch) (List.range ch.len)))=List.map (chRq ch) (List.range ch.len)/\List.drop ((0:Nat)) (List.take ((0:Nat)+ru.len) (List.map (ruRq ru) (List.range ru.len)))=List.map (ruRq ru) (List.range ru.len)/\List.drop ((0:Nat)) (List.take ((0:Nat)+i) (List.map (prR pr) (List.range i)))=List.map (prR pr) (List.range pr.len))))) (by kernel_rfl) ?_
  dsimp +instances only [withv]
  intro hs;refine ⟨⟨0,Nat.zero_le _,by (repeat' apply And.intro)<;>rfl⟩,fun i hi=>⟨fun hc=>?_,fun hc=>?_⟩⟩
  ·have hc:=of_decide_eq_true hc;have hi2:i<ch.len:=by omega
   have b1:=hs.c;have b2:=hs.ct i hi2;have hw2:IntKind.i64.wrap ((i:Int)+1)=((i+1:Nat):Int):=by rw [IntWalk.i64_in _ (by omega)];omega
   rw [nD_app];refine ⟨⟨by omega,by omega⟩,rfl,(show (0+(ch.el i 5).len)*16<=140737488355328 by omega),app_le _,(cpTo_len _ _).symm,(show (i+1)*88<=140737488355328 by omega),Nat.le_refl _,i+1,hi2,by omega,hw2,?_⟩
   (repeat' apply And.intro)<;>first |exact (cpTo_succ i (chRq ch)).symm |rfl
  ·have hc:=of_decide_eq_false hc;have hi3:i=ch.len:=by have:i<=ch.len:=hi;omega
   subst hi3;refine ⟨⟨0,Nat.zero_le _,by (repeat' apply And.intro)<;>rfl⟩,fun i hi=>⟨fun hc=>?_,fun hc=>?_⟩⟩
   ·have hc:=of_decide_eq_true hc;have hi2:i<ru.len:=by omega
    have b1:=hs.r;have b2:=hs.rm i hi2;have hw2:IntKind.i64.wrap ((i:Int)+1)=((i+1:Nat):Int):=by rw [IntWalk.i64_in _ (by omega)];omega
    refine ⟨⟨by omega,by omega⟩,⟨0,⟨Nat.zero_le _,trivial⟩,by (repeat' apply And.intro)<;>rfl⟩,fun q hq=>⟨⟨by omega,by omega⟩,fun hd=>?_,fun hd=>?_⟩⟩
    ·have hd:=of_decide_eq_true hd;have hq2:q<(ru.el i 1).len:=by have:(q:Int)<((ru.el i 1).len:Int):=hd;omega
     have hwq:IntKind.i64.wrap ((q:Int)+1)=((q+1:Nat):Int):=by rw [IntWalk.i64_in _ (by omega)];omega
     refine ⟨⟨by omega,by omega⟩,⟨by omega,hd⟩,(cpTo_len _ _).symm,(show (q+1)*32<=140737488355328 by omega),Nat.le_refl _,q+1,⟨hq2,trivial⟩,by omega,hwq,?_⟩
     (repeat' apply And.intro)<;>first |exact (cpTo_succ q (mvR (ru.el i 1))).symm |rfl
    ·have hd:=of_decide_eq_false hd;have hq3:q=(ru.el i 1).len:=by have:¬ (q:Int)<((ru.el i 1).len:Int):=hd;have:=hq.1;omega
     subst hq3;rw [cpTo_all];refine ⟨by rw [cpTo_len];omega,(cpTo_len _ _).symm,(show (i+1)*40<=140737488355328 by omega),Nat.le_refl _,i+1,hi2,by omega,hw2,?_⟩
     (repeat' apply And.intro)<;>first |exact (cpTo_succ i (ruRq ru)).symm |rfl
   ·have hc:=of_decide_eq_false hc;have hi3:i=ru.len:=by have:i<=ru.len:=hi;omega
    subst hi3;refine ⟨⟨0,Nat.zero_le _,by (repeat' apply And.intro)<;>rfl⟩,fun i hi=>⟨fun hc=>?_,fun hc=>?_⟩⟩
    ·have hc:=of_decide_eq_true hc;have hi2:i<pr.len:=by omega
     have b1:=hs.p;have b2:=hs.pv i hi2;have hw2:IntKind.i64.wrap ((i:Int)+1)=((i+1:Nat):Int):=by rw [IntWalk.i64_in _ (by omega)];omega
     rw [nD_app];refine ⟨⟨by omega,by omega⟩,rfl,(show (0+(pr.el i 1).len)*16<=140737488355328 by omega),hs.pb i hi2,app_le _,(cpTo_len _ _).symm,(show (i+1)*64<=140737488355328 by omega),Nat.le_refl _,i+1,hi2,by omega,hw2,?_⟩
     (repeat' apply And.intro)<;>first |exact (cpTo_succ i (prR pr)).symm |rfl
    ·have hc:=of_decide_eq_false hc;have hi3:i=pr.len:=by have:i<=pr.len:=hi;omega
     subst hi3;exact ⟨by rw [cpTo_len];omega,by rw [cpTo_len];omega,by rw [cpTo_len];omega,takeAll _ _,takeAll _ _,takeAll _ _⟩
 ·trivial
end Go.Proofs.YtplejbgafjpomaaGreatDoor.Sx.Z
namespace Go.Proofs.YtplejbgafjpomaaGreatDoor.Sx.Z
open Go.RowKit
def kX:AP:=.agg [.c (.int .i64),.c (.int .i64),.c (.int .i64),.c (.rows 161)]
def kCo:AP:=.agg [.c (.int .i64),.c (.int .i64),.c (.int .i64),.c (.int .i64),.c (.rows 161),.c (.int .i64),.c (.int .i64),.c (.int .i64),.c (.rows 161)]
def kSt:AP:=.agg [.c (.int .i64),.c (.int .i64),.c (.int .i64),.c (.int .i64),.c (.int .i64),.c (.int .i64),.c (.int .i64),.c (.rows 161),.c (.int .i64),.c (.int .i64),.c (.int .i64),.c (.int .i64),.c (.rows 161),.c (.int .i64),.c (.int .i64),.c (.int .i64),.c (.rows 161),.c (.rows 166),.c (.rows 166),.c (.rows 170)]
def kIn:AP:=.agg [.c (.rows 69),.c (.int .i64),.c (.int .i64)]
def plK (a n:Int):Bool:=decide (a>=0)&&decide (a<n)
theorem plK_iff {a n:Int}:plK a n=true↔0<=a/\a<n:=by
 unfold plK;rw [Bool.and_eq_true,decide_eq_true_iff,decide_eq_true_iff]
def xkB (vs k n v len:Int) (f:Nat->Bool):Bool:=
 if k=1 then decide (n>=0)&&decide (n<=2147483647)&&v==0&&len==0 else if k=2 then plK v vs&&n==0&&len==0 else if k=3 then len==1&&(f 0&&(n==0&&v==0)) else if biB k=true then len==2&&(f 0&&f 1&&(n==0&&v==0)) else false
def xkE (vs:Int) (d:D) (i:Nat):Bool:=if _h:i<d.len then xkB vs (d.el i 0).toI (d.el i 1).toI (d.el i 2).toI (d.el i 3).len (fun j=>xkE vs (d.el i 3) j) else false
 termination_by SizeOf.sizeOf d
 decreasing_by exact lel_lt (by assumption)
def xkX (vs k n v:Int) (d:D):Bool:=xkB vs k n v d.len (xkE vs d)
theorem xkE_eq {vs:Int} {d:D} {i:Nat} (h:i<d.len):xkE vs d i=xkX vs (d.el i 0).toI (d.el i 1).toI (d.el i 2).toI (d.el i 3):=by
 rw [xkE,dif_pos h];rfl
theorem xkX_bin {vs k n v:Int} {d:D} (h:biB k=true):xkX vs k n v d=((d.len:Int)==2&&(xkE vs d 0&&xkE vs d 1&&(n==0&&v==0))):=by
 have hb:=bi_in h;unfold xkX xkB;rw [if_neg (by omega),if_neg (by omega),if_neg (by omega),if_pos h]
theorem xkX_no {vs k n v:Int} {d:D} (h1:k≠1) (h2:k≠2) (h3:k≠3) (h:biB k=false):xkX vs k n v d=false:=by
 unfold xkX xkB;rw [if_neg h1,if_neg h2,if_neg h3,if_neg (by rw [h];decide)]
def xkC (vs op lk ln lv:Int) (ld:D) (rk rn rv:Int) (rd:D):Bool:=decide (op>=1)&&decide (op<=6)&&xkX vs lk ln lv ld&&xkX vs rk rn rv rd
def xkN (k n v len:Int):Bool:=k==0&&n==0&&v==0&&len==0
def skF (vs k v c t:Int) (e ne cr nc sd b el ar:Bool) (bl ell al:Int):Bool:=
 if k=1 then plK v vs&&e&&c==0&&t==0&&nc&&bl==0&&ell==0&&al==0
 else if k=2 then cr&&b&&el&&v==0&&c==0&&t==0&&ne&&al==0
 else if k=3 then cr&&b&&v==0&&c==0&&t==0&&ne&&ell==0&&al==0
 else if k=4 then sd&&e&&v==0&&nc&&bl==0&&ell==0&&al==0
 else if k=5 then ar&&v==0&&t==0&&ne&&nc&&bl==0&&ell==0
 else if k=6 then cr&&v==0&&c==0&&t==0&&ne&&bl==0&&ell==0&&al==0
 else if k=7 then plK v vs&&c==0&&t==0&&ne&&nc&&bl==0&&ell==0&&al==0 else false
def nkS (k v c t ek en ev el op lk ln lv ll rk rn rv rl bl ell al:Int):Bool:=k==0&&v==0&&c==0&&t==0&&xkN ek en ev el&&op==0&&xkN lk ln lv ll&&xkN rk rn rv rl&&bl==0&&ell==0&&al==0
def skD (ch:D) (pc c t:Int):Bool:=plK c ch.len&&(ch.el c.toNat 2).toI==pc&&plK t (ch.el c.toNat 4).toI
def tgU (am:D) (n:Nat) (t:Int):Bool:=(List.range n).any fun j=>(am.el j 0).toI==t
def bkR (ch:D) (pc vs:Int) (d:D):Bool:=(List.finRange d.len).all fun (i:Fin d.len)=>
 skF vs (d.el i 0).toI (d.el i 1).toI (d.el i 2).toI (d.el i 3).toI (xkX vs (d.el i 4).toI (d.el i 5).toI (d.el i 6).toI (d.el i 7)) (xkN (d.el i 4).toI (d.el i 5).toI (d.el i 6).toI (d.el i 7).len)
  (xkC vs (d.el i 8).toI (d.el i 9).toI (d.el i 10).toI (d.el i 11).toI (d.el i 12) (d.el i 13).toI (d.el i 14).toI (d.el i 15).toI (d.el i 16))
  ((d.el i 8).toI==0&&xkN (d.el i 9).toI (d.el i 10).toI (d.el i 11).toI (d.el i 12).len&&xkN (d.el i 13).toI (d.el i 14).toI (d.el i 15).toI (d.el i 16).len)
  (skD ch pc (d.el i 2).toI (d.el i 3).toI) (bkR ch pc vs (d.el i 17)) (bkR ch pc vs (d.el i 18))
  (plK (d.el i 2).toI ch.len&&(ch.el (d.el i 2).toI.toNat 3).toI==pc && !(((d.el i 19).len:Int)==0)&&(List.finRange (d.el i 19).len).all fun (j:Fin (d.el i 19).len)=>
    plK ((d.el i 19).el j 0).toI (ch.el (d.el i 2).toI.toNat 4).toI && !tgU (d.el i 19) j ((d.el i 19).el j 0).toI&&plK ((d.el i 19).el j 1).toI vs&&bkR ch pc vs ((d.el i 19).el j 2))
  (d.el i 17).len (d.el i 18).len (d.el i 19).len
 termination_by SizeOf.sizeOf d
 decreasing_by
  ·exact lel_lt i.isLt
  ·exact lel_lt i.isLt
  ·exact Nat.lt_trans (lel_lt j.isLt) (lel_lt i.isLt)
def arK (ch:D) (pc vs ts:Int) (am:D) (j:Nat):Bool:=plK (am.el j 0).toI ts && !tgU am j (am.el j 0).toI&&plK (am.el j 1).toI vs&&bkR ch pc vs (am.el j 2)
def rvK (ch:D) (pc vs c:Int) (am:D):Bool:=plK c ch.len&&(ch.el c.toNat 3).toI==pc && !((am.len:Int)==0)&&allB am.len (arK ch pc vs (ch.el c.toNat 4).toI am)
def skS (ch:D) (pc vs k v c t ek en ev:Int) (ed:D) (op lk ln lv:Int) (ld:D) (rk rn rv:Int) (rd bd eb am:D):Bool:=
 skF vs k v c t (xkX vs ek en ev ed) (xkN ek en ev ed.len) (xkC vs op lk ln lv ld rk rn rv rd) (op==0&&xkN lk ln lv ld.len&&xkN rk rn rv rd.len) (skD ch pc c t) (bkR ch pc vs bd) (bkR ch pc vs eb) (rvK ch pc vs c am) bd.len eb.len am.len
def skE (ch:D) (pc vs:Int) (d:D) (i:Nat):Bool:=skS ch pc vs (d.el i 0).toI (d.el i 1).toI (d.el i 2).toI (d.el i 3).toI (d.el i 4).toI (d.el i 5).toI (d.el i 6).toI (d.el i 7) (d.el i 8).toI (d.el i 9).toI (d.el i 10).toI (d.el i 11).toI (d.el i 12) (d.el i 13).toI (d.el i 14).toI (d.el i 15).toI (d.el i 16) (d.el i 17) (d.el i 18) (d.el i 19)
theorem bkR_eq (ch:D) (pc vs:Int) (d:D):bkR ch pc vs d=allB d.len (skE ch pc vs d):=by
 rw [bkR,<- allF_eq]
 congr 1
 funext i
 unfold skE skS rvK arK;rw [<- allF_eq]
def kOK (d:D):Prop:=d.len<=10000000000000/\∀ i:Fin d.len,kOK (d.el i 17)/\kOK (d.el i 18)/\(d.el i 19).len<=10000000000000/\∀ j:Fin (d.el i 19).len,kOK ((d.el i 19).el j 2)
 termination_by SizeOf.sizeOf d
 decreasing_by
  ·exact lel_lt i.isLt
  ·exact lel_lt i.isLt
  ·exact Nat.lt_trans (lel_lt j.isLt) (lel_lt i.isLt)
def amK (am:D):Prop:=am.len<=10000000000000/\∀ j,j<am.len->kOK (am.el j 2)
theorem kOK_iff (d:D):kOK d↔d.len<=10000000000000/\∀ i,i<d.len->kOK (d.el i 17)/\kOK (d.el i 18)/\amK (d.el i 19):=by
 rw [kOK];constructor
 ·rintro ⟨h,k⟩;refine ⟨h,fun i hi=>?_⟩;obtain ⟨a,b,c,e⟩:=k ⟨i,hi⟩;exact ⟨a,b,c,fun j hj=>e ⟨j,hj⟩⟩
 ·rintro ⟨h,k⟩;refine ⟨h,fun i=>?_⟩;obtain ⟨a,b,c,e⟩:=k i.1 i.2;exact ⟨a,b,c,fun j=>e j.1 j.2⟩
theorem k_ext {f:Nat->Bool} {i:Nat} (h:∀ j,j<i->f j=true) (g:f i=true):∀ j,j<i+1->f j=true:=fun j hj=>by
 rcases Nat.lt_or_ge j i with h1 |h1
 ·exact h j h1
 ·obtain rfl:j=i:=by omega
  exact g
theorem k_nx {i:Nat} (h:i<=1000000000000000):IntKind.i64.wrap ((i:Int)+1)=((i+1:Nat):Int):=by rw [IntWalk.i64_in _ (by omega)];omega
theorem k_n (i:Nat):(i:Int).toNat=i:=Int.toNat_natCast i
theorem allB_1 (f:Nat->Bool):allB 1 f=f 0:=by simp [allB]
theorem allB_2 (f:Nat->Bool):allB 2 f=(f 0&&f 1):=by simp [allB,List.range_succ]
theorem xk_1 {vs k n v:Int} {d:D} (h:k=3):((d.len:Int)==1&&(allB d.len (xkE vs d)&&(n==0&&v==0)))=xkX vs k n v d:=by
 subst h;show _=((d.len:Int)==1&&(xkE vs d 0&&(n==0&&v==0)))
 by_cases hl:d.len=1
 ·rw [hl,allB_1]
 ·have q:((d.len:Int)==1)=false:=by simpa using (by omega:¬ (d.len:Int)=1)
  rw [q];rfl
theorem xk_2 {vs k n v:Int} {d:D} (h:biB k=true):((d.len:Int)==2&&(allB d.len (xkE vs d)&&(n==0&&v==0)))=xkX vs k n v d:=by
 rw [xkX_bin h]
 by_cases hl:d.len=2
 ·rw [hl,allB_2]
 ·have q:((d.len:Int)==2)=false:=by simpa using (by omega:¬ (d.len:Int)=2)
  rw [q];rfl
noncomputable def kplS:FSpec:=fun ds _=>match ds with
 | [.i a,.i n]=>some {val:=.one (.sc (.bool (.sym (plK a n)))),vc:=[]}
 |_=>none
noncomputable def kplC:Con:=con [lI,lI] kplS
theorem kpl_ok:ConOK Tryz.prog 47 kplC:=by
 refine fn_ob tt_ok mixed Tryz.func47 rfl (fun _ _=>by kernel_rfl) (A:=fun ds=>⟨fun _=>Cons.of [],fun _=>none,fun _=>none⟩) (fun _ _=>cons_nil) (by kernel_rfl) ?_
 intro ds fr;unfold kplS;split
 ·rename_i a n;refine kmp (q:=(decide (a>=(0:Int))&&decide (a<n))=plK a n) (by kernel_rfl) ?_
  rfl
 ·trivial
noncomputable def kvrS:FSpec:=fun ds _=>match ds with
 | [.d ch,.i pc,.i vs,.i a]=>some {val:=.one (.sc (.bool (.sym (plK a vs)))),vc:=[]}
 |_=>none
noncomputable def kvrC:Con:=con [kIn,lI] kvrS
theorem kvr_ok:ConOK Tryz.prog 81 kvrC:=by
 refine fn_ob tt_ok mixed Tryz.func81 rfl (fun _ _=>by kernel_rfl) (A:=fun ds=>⟨fun _=>Cons.of [(47,kplC)],fun _=>none,fun _=>none⟩) (fun _ _=>(cons_cons kpl_ok cons_nil)) (by kernel_rfl) ?_
 intro ds fr;unfold kvrS;split
 ·rename_i ch pc vs a;refine kmp (q:=plK a vs=plK a vs) (by kernel_rfl) ?_
  exact rfl
 ·trivial
noncomputable def kenS:FSpec:=fun ds _=>match ds with
 | [.i k,.i n,.i v,.d d]=>some {val:=.one (.sc (.bool (.sym (xkN k n v d.len)))),vc:=[]}
 |_=>none
noncomputable def kenC:Con:=con [kX] kenS
theorem ken_ok:ConOK Tryz.prog 130 kenC:=by
 refine fn_ob tt_ok mixed Tryz.func130 rfl (fun _ _=>by kernel_rfl) (A:=fun ds=>⟨fun _=>Cons.of [],fun _=>none,fun _=>none⟩) (fun _ _=>cons_nil) (by kernel_rfl) ?_
 intro ds fr;unfold kenS;split
 ·rename_i k n v d;refine kmp (q:=(k==(0:Int)&&n==(0:Int)&&v==(0:Int)&&(d.len:Int)==(0:Int))=xkN k n v (d.len:Int)) (by kernel_rfl) ?_
  rfl
 ·trivial
noncomputable def ksnS:FSpec:=fun ds _=>match ds with
 | [.i k,.i v,.i c,.i t,.i ek,.i en,.i ev,.d ed,.i op,.i lk,.i ln,.i lv,.d ld,.i rk,.i rn,.i rv,.d rd,.d bd,.d eb,.d am]=>some {val:=.one (.sc (.bool (.sym (nkS k v c t ek en ev ed.len op lk ln lv ld.len rk rn rv rd.len bd.len eb.len am.len)))),vc:=[]}
 |_=>none
noncomputable def ksnC:Con:=con [kSt] ksnS
set_option maxRecDepth 100000 in
theorem ksn_ok:ConOK Tryz.prog 83 ksnC:=by
 refine fn_ob tt_ok mixed Tryz.func83 rfl (fun _ _=>by kernel_rfl) (A:=fun ds=>⟨fun _=>Cons.of [(130,kenC)],fun _=>none,fun _=>none⟩) (fun _ _=>(cons_cons ken_ok cons_nil)) (by kernel_rfl) ?_
 intro ds fr;unfold ksnS;split
 ·rename_i k v c t ek en ev ed op lk ln lv ld rk rn rv rd bd eb am;refine kmp (q:=(k==(0:Int)&&v==(0:Int)&&c==(0:Int)&&t==(0:Int)&&xkN ek en ev (ed.len:Int)&&op==(0:Int)&&xkN lk ln lv (ld.len:Int)&&xkN rk rn rv (rd.len:Int)&&(bd.len:Int)==(0:Int)&&(eb.len:Int)==(0:Int)&&(am.len:Int)==(0:Int))=nkS k v c t ek en ev (ed.len:Int) op lk ln lv (ld.len:Int) rk rn rv (rd.len:Int) (bd.len:Int) (eb.len:Int) (am.len:Int)) (by kernel_rfl) ?_
  rfl
 ·trivial
noncomputable def kxrS:FSpec:=fun ds _=>match ds with
 | [.d ch,.i pc,.i vs,.i k,.i n,.i v,.d d]=>some {val:=.one (.sc (.bool (.sym (xkX vs k n v d)))),vc:=[]}
 |_=>none
noncomputable def kxrC:Con:=con [kIn,kX] kxrS
noncomputable def kxrM:List Dat->Nat:=fun ds=>match ds with
 | [.d ch,.i pc,.i vs,.i k,.i n,.i v,.d d]=>SizeOf.sizeOf d
 |_=>0
noncomputable def kxrSu (m:Nat):FSpec:=fun ds _=>match ds with
 | [.d ch,.i pc,.i vs,.i k,.i n,.i v,.d d]=>some {val:=.one (.sc (.bool (.sym (xkX vs k n v d)))),vc:=[SizeOf.sizeOf d<m]}
 |_=>none
theorem kxr_under (m:Nat):kxrS.under kxrM m=kxrSu m:=by
 funext ds fr
 unfold FSpec.under kxrS kxrM kxrSu;split
 ·rename_i e h
  split at h
  ·obtain rfl:=Option.some.inj h;rfl
  ·cases h
 ·rename_i h
  split at h
  ·cases h
  ·rfl
noncomputable def kkrS (m:Nat):FSpec:=fun ds _=>match ds with
 | [.d ch,.i pc,.i vs,.i k,.i n,.i v,.d d]=>some {val:=.one (.sc (.bool (.sym (allB d.len (xkE vs d)&&(n==0&&v==0))))),vc:=[SizeOf.sizeOf d<=m,d.len<=10000000000000]}
 |_=>none
noncomputable def kkrC (m:Nat):Con:=con [kIn,kX] (kkrS m)
theorem kkr_ok {m:Nat} (ih:ConOK Tryz.prog 82 (con [kIn,kX] (kxrSu m))):ConOK Tryz.prog 129 (kkrC m):=by
 refine fn_ob tt_ok mixed Tryz.func129 rfl (fun _ _=>by kernel_rfl) (A:=fun ds=>⟨fun _=>Cons.of [(82,con [kIn,kX] (kxrSu m))],fun k=>match k,ds with | 2,[.d ch,.i pc,.i vs,.i k,.i n,.i v,.d d]=>some {ι:=Nat,pre:=fun _ i=>i<=d.len/\∀ j,j<i->xkE vs d j=true,μ:=fun i=>d.len-i,st:=fun s i=>famR s [(10,.one (.sc (.int .i64 (.sym ((i:Int))))))] [2,3,8,9] [] [2,3]} |_,_=>none,fun _=>none⟩) (fun _ _=>(cons_cons ih cons_nil)) (by kernel_rfl) ?_
 intro ds fr;unfold kkrS;split
 ·rename_i ch pc vs k n v d;refine kmp (q:=SizeOf.sizeOf d<=m->d.len<=10000000000000->(∃ (i:Nat),(i<=d.len/\∀ (j:Nat),j<i->xkE vs d j=true)/\(0:Int)=(i:Int)/\d.rows=d.rows/\(d.len:Int)=(d.len:Int)/\ch.rows=ch.rows/\pc=pc/\vs=vs/\k=k/\n=n/\v=v/\d.rows=d.rows)/\∀ (i:Nat),(i<=d.len/\∀ (j:Nat),j<i->xkE vs d j=true)->(decide ((i:Int)<(d.len:Int))=true->((0:Int)<=(i:Int)/\(i:Int)<(d.len:Int))/\SizeOf.sizeOf (d.el (i:Int).toNat 3)<m/\((!xkX vs (d.el (i:Int).toNat 0).toI (d.el (i:Int).toNat 1).toI (d.el (i:Int).toNat 2).toI (d.el (i:Int).toNat 3))=true->false=(allB d.len (xkE vs d)&&(n==(0:Int)&&v==(0:Int))))/\((!xkX vs (d.el (i:Int).toNat 0).toI (d.el (i:Int).toNat 1).toI (d.el (i:Int).toNat 2).toI (d.el (i:Int).toNat 3))=false->∃ (j:Nat),(j<=d.len/\∀ (j_1:Nat),j_1<j->xkE vs d j_1=true)/\d.len-j<d.len-i/\IntKind.i64.wrap ((i:Int)+(1:Int))=(j:Int)/\d.rows=d.rows/\(d.len:Int)=(d.len:Int)/\ch.rows=ch.rows/\pc=pc/\vs=vs/\k=k/\n=n/\v=v/\d.rows=d.rows))/\(decide ((i:Int)<(d.len:Int))=false->(n==(0:Int)&&v==(0:Int))=(allB d.len (xkE vs d)&&(n==(0:Int)&&v==(0:Int))))) (by kernel_rfl) ?_
  intro hm hl;simp only [Nat.reduceAdd,Nat.zero_add,k_n];refine ⟨⟨0,⟨Nat.zero_le _,fun j hj=>absurd hj (Nat.not_lt_zero j)⟩,rfl,(by (repeat' (with_reducible apply And.intro))<;>first |exact True.intro |rfl)⟩,fun i hp=>⟨fun hc=>?_,fun hc=>?_⟩⟩
  ·have hc:=of_decide_eq_true hc;have hi:i<d.len:=by omega
   have z:=lel_lt (j:=3) hi;rw [<- xkE_eq hi];refine ⟨⟨by omega,by omega⟩,by omega,fun hq=>?_,fun hq=>?_⟩
   ·rw [allB_no hi (by simpa using hq)];rfl
   ·exact ⟨i+1,⟨hi,k_ext hp.2 (by simpa using hq)⟩,by omega,k_nx (by omega),(by (repeat' (with_reducible apply And.intro))<;>first |exact True.intro |rfl)⟩
  ·have hc:=of_decide_eq_false hc;rw [allB_yes fun j hj=>hp.2 j (by omega)];rfl
 ·trivial
theorem kxr_step (m:Nat) (ih:ConOK Tryz.prog 82 (con [kIn,kX] (kxrSu m))):ConOK Tryz.prog 82 (con [kIn,kX] (kxrSu (m+1))):=by
 refine fn_ob tt_ok mixed Tryz.func82 rfl (fun _ _=>by kernel_rfl) (A:=fun ds=>⟨fun _=>Cons.of [(81,kvrC),(129,(kkrC m))],fun _=>none,fun _=>none⟩) (fun _ _=>(cons_cons kvr_ok (cons_cons (kkr_ok ih) cons_nil))) (by kernel_rfl) ?_
 intro ds fr;unfold kxrSu;split
 ·rename_i ch pc vs k n v d;refine kmp (q:=SizeOf.sizeOf d<m+(1:Nat)->((k==(1:Int))=true->(decide (n>=(0:Int))&&decide (n<=(2147483647:Int))&&v==(0:Int)&&(d.len:Int)==(0:Int))=xkX vs k n v d)/\((k==(1:Int))=false->((k==(2:Int))=true->(plK v vs&&n==(0:Int)&&(d.len:Int)==(0:Int))=xkX vs k n v d)/\((k==(2:Int))=false->((k==(3:Int))=true->(((d.len:Int)==(1:Int))=true/\True->SizeOf.sizeOf d<=m)/\(((d.len:Int)==(1:Int))=true/\True->d.len<=10000000000000)/\((d.len:Int)==(1:Int)&&(allB d.len (xkE vs d)&&(n==(0:Int)&&v==(0:Int))))=xkX vs k n v d)/\((k==(3:Int))=false->((k==(4:Int))=true->((k==(4:Int))=true->(((d.len:Int)==(2:Int))=true/\True->SizeOf.sizeOf d<=m)/\(((d.len:Int)==(2:Int))=true/\True->d.len<=10000000000000)/\((d.len:Int)==(2:Int)&&(allB d.len (xkE vs d)&&(n==(0:Int)&&v==(0:Int))))=xkX vs k n v d)/\((k==(4:Int))=false->false=xkX vs k n v d))/\((k==(4:Int))=false->((k==(5:Int))=true->((k==(5:Int))=true->(((d.len:Int)==(2:Int))=true/\True->SizeOf.sizeOf d<=m)/\(((d.len:Int)==(2:Int))=true/\True->d.len<=10000000000000)/\((d.len:Int)==(2:Int)&&(allB d.len (xkE vs d)&&(n==(0:Int)&&v==(0:Int))))=xkX vs k n v d)/\((k==(5:Int))=false->false=xkX vs k n v d))/\((k==(5:Int))=false->((k==(6:Int))=true->((k==(6:Int))=true->(((d.len:Int)==(2:Int))=true/\True->SizeOf.sizeOf d<=m)/\(((d.len:Int)==(2:Int))=true/\True->d.len<=10000000000000)/\((d.len:Int)==(2:Int)&&(allB d.len (xkE vs d)&&(n==(0:Int)&&v==(0:Int))))=xkX vs k n v d)/\((k==(6:Int))=false->false=xkX vs k n v d))/\((k==(6:Int))=false->((k==(7:Int))=true->((k==(7:Int))=true->(((d.len:Int)==(2:Int))=true/\True->SizeOf.sizeOf d<=m)/\(((d.len:Int)==(2:Int))=true/\True->d.len<=10000000000000)/\((d.len:Int)==(2:Int)&&(allB d.len (xkE vs d)&&(n==(0:Int)&&v==(0:Int))))=xkX vs k n v d)/\((k==(7:Int))=false->false=xkX vs k n v d))/\((k==(7:Int))=false->((k==(8:Int))=true->(((d.len:Int)==(2:Int))=true/\True->SizeOf.sizeOf d<=m)/\(((d.len:Int)==(2:Int))=true/\True->d.len<=10000000000000)/\((d.len:Int)==(2:Int)&&(allB d.len (xkE vs d)&&(n==(0:Int)&&v==(0:Int))))=xkX vs k n v d)/\((k==(8:Int))=false->false=xkX vs k n v d))))))))) (by kernel_rfl) ?_
  intro hm;have ob:((d.len:Int)==2)=true/\True->d.len<=10000000000000:=fun h=>by have:=h.1;simp only [beq_iff_eq] at this;omega
  have oa:((d.len:Int)==1)=true/\True->d.len<=10000000000000:=fun h=>by have:=h.1;simp only [beq_iff_eq] at this;omega
  have om:SizeOf.sizeOf d<=m:=by omega
  have b4:∀ {k:Int} (j:Int),4<=j->j<=8->(k==j)=true->biB k=true:=fun j h1 h2 h=>by
   rw [eq_of_beq h];unfold biB;rw [decide_eq_true h1,decide_eq_true h2];rfl
  refine ⟨fun h=>?_,fun h1=>⟨fun h=>?_,fun h2=>⟨fun h=>⟨fun _=>om,oa,xk_1 (eq_of_beq h)⟩,fun h3=>?_⟩⟩⟩
  ·obtain rfl:=eq_of_beq h;rfl
  ·obtain rfl:=eq_of_beq h;rfl
  refine ⟨fun h=>⟨fun _=>⟨fun _=>om,ob,xk_2 (b4 4 (by decide) (by decide) h)⟩,fun q=>by rw [h] at q;cases q⟩,fun h4=>?_⟩;refine ⟨fun h=>⟨fun _=>⟨fun _=>om,ob,xk_2 (b4 5 (by decide) (by decide) h)⟩,fun q=>by rw [h] at q;cases q⟩,fun h5=>?_⟩;refine ⟨fun h=>⟨fun _=>⟨fun _=>om,ob,xk_2 (b4 6 (by decide) (by decide) h)⟩,fun q=>by rw [h] at q;cases q⟩,fun h6=>?_⟩;refine ⟨fun h=>⟨fun _=>⟨fun _=>om,ob,xk_2 (b4 7 (by decide) (by decide) h)⟩,fun q=>by rw [h] at q;cases q⟩,fun h7=>?_⟩;refine ⟨fun h=>⟨fun _=>om,ob,xk_2 (b4 8 (by decide) (by decide) h)⟩,fun h8=>?_⟩;refine (xkX_no (ne_of_beq_false h1) (ne_of_beq_false h2) (ne_of_beq_false h3) ?_).symm;have n4:=ne_of_beq_false h4;have n5:=ne_of_beq_false h5;have n6:=ne_of_beq_false h6;have n7:=ne_of_beq_false h7;have n8:=ne_of_beq_false h8;unfold biB;simp only [Bool.and_eq_false_iff,decide_eq_false_iff_not];omega
 ·trivial
theorem kxr_ok:ConOK Tryz.prog 82 kxrC:=
 con_rec kxrM (fun _ _=>by kernel_rfl) fun m ih=>by
  rw [kxr_under] at ih ⊢;exact kxr_step m ih
noncomputable def kcrS:FSpec:=fun ds _=>match ds with
 | [.d ch,.i pc,.i vs,.i op,.i lk,.i ln,.i lv,.d ld,.i rk,.i rn,.i rv,.d rd]=>some {val:=.one (.sc (.bool (.sym (xkC vs op lk ln lv ld rk rn rv rd)))),vc:=[]}
 |_=>none
noncomputable def kcrC:Con:=con [kIn,kCo] kcrS
theorem kcr_ok:ConOK Tryz.prog 84 kcrC:=by
 refine fn_ob tt_ok mixed Tryz.func84 rfl (fun _ _=>by kernel_rfl) (A:=fun ds=>⟨fun _=>Cons.of [(82,kxrC)],fun _=>none,fun _=>none⟩) (fun _ _=>(cons_cons kxr_ok cons_nil)) (by kernel_rfl) ?_
 intro ds fr;unfold kcrS;split
 ·rename_i ch pc vs op lk ln lv ld rk rn rv rd;refine kmp (q:=(decide (op>=(1:Int))&&decide (op<=(6:Int))&&xkX vs lk ln lv ld&&xkX vs rk rn rv rd)=xkC vs op lk ln lv ld rk rn rv rd) (by kernel_rfl) ?_
  exact rfl
 ·trivial
end Go.Proofs.YtplejbgafjpomaaGreatDoor.Sx.Z
namespace Go.Proofs.YtplejbgafjpomaaGreatDoor.Sx.Z
open Go.RowKit
def ixF (q:Nat->Bool) (n:Nat):Int:=match (List.range n).find? q with |some i=>(i:Int) |none=>-1
theorem ixF_hit {q:Nat->Bool} {n i:Nat} (hi:i<n) (hq:q i=true) (hb:∀ j,j<i->q j=false):ixF q n=(i:Int):=by
 have:(List.range n).find? q=some i:=by
  rw [List.find?_range_eq_some];exact ⟨hq,by simpa using hi,fun j hj=>by simpa using hb j hj⟩
 unfold ixF;rw [this]
theorem ixF_no {q:Nat->Bool} {n:Nat} (h:∀ j,j<n->q j=false):ixF q n = -1:=by
 have:(List.range n).find? q=none:=by
  rw [List.find?_eq_none];intro j hj
  simpa using h j (List.mem_range.1 hj)
 unfold ixF;rw [this]
theorem ixF_or (q:Nat->Bool) (n:Nat):(∃ i,i<n/\q i=true/\(∀ j,j<i->q j=false)/\ixF q n=(i:Int)) ∨ ((∀ j,j<n->q j=false)/\ixF q n = -1):=by
 unfold ixF
 cases hf:(List.range n).find? q with
 |none=>
  rw [List.find?_eq_none] at hf;exact .inr ⟨fun j hj=>by simpa using hf j (List.mem_range.2 hj),rfl⟩
 |some i=>
  rw [List.find?_range_eq_some] at hf;exact .inl ⟨i,by simpa using hf.2.1,hf.1,fun j hj=>by simpa using hf.2.2 j hj,rfl⟩
theorem ixF_any (q:Nat->Bool) (n:Nat):decide (ixF q n>=0)=(List.range n).any q:=by
 rcases ixF_or q n with ⟨i,h1,h2,_,h3⟩ |⟨h1,h2⟩
 ·rw [h3,decide_eq_true (by omega)];exact (List.any_eq_true.2 ⟨i,List.mem_range.2 h1,h2⟩).symm
 ·rw [h2,show decide ((-1:Int)>=0)=false from rfl]
  symm
  rw [List.any_eq_false];intro j hj;rw [h1 j (List.mem_range.1 hj)]
  decide
def cAr (d:D) (i:Nat):List D:=[D.i (d.el i 0).toI,D.i (d.el i 1).toI,d.el i 2]
def arA:AP:=.agg [.c (.int .i64),.c (.int .i64),.c (.rows 166)]
def tgQ (t:Int) (l:List D):Bool:=(l.getD 0 (.i 0)).toI==t
def okK0:List D->Prop:=fun _=>True
noncomputable def ixrS:FSpec:=fun ds _=>match ds with
 | [.d d,.q p ok]=>some {val:=.one (.sc (.int .i64 (.sym (ixF (fun i=>p (cAr d i)) d.len)))),vc:=[d.len<=10000000000000,∀ i,i<d.len->ok (cAr d i)]}
 |_=>none
noncomputable def ixrC:Con:=con [.sc (.rows 170),.sc (.fn true 170)] ixrS
theorem ixr_ok:ConOK Tryz.prog 172 ixrC:=by
 refine fn_ob tt_ok mixed Tryz.func172 rfl (fun _ _=>by kernel_rfl) (A:=fun ds=>⟨fun _=>Cons.of [],fun k=>match k,ds with | 2,[.d d,.q p ok]=>some {ι:=Nat,pre:=fun _ i=>i<=d.len/\∀ j,j<i->p (cAr d j)=false,μ:=fun i=>d.len-i,st:=fun s i=>famR s [(8,.one (.sc (.int .i64 (.sym ((i:Int))))))] [0,1,7] [] []} |_,_=>none,fun _=>none⟩) (fun _ _=>cons_nil) (by kernel_rfl) ?_
 intro ds fr;unfold ixrS;split
 ·rename_i d p ok;refine kmp (q:=d.len<=10000000000000->(∀ (i:Nat),i<d.len->ok (cAr d i))->(∃ (i:Nat),(i<=d.len/\∀ (j:Nat),j<i->p (cAr d j)=false)/\(0:Int)=(i:Int)/\d.rows=d.rows/\p=p/\ok=ok/\(d.len:Int)=(d.len:Int))/\∀ (i:Nat),(i<=d.len/\∀ (j:Nat),j<i->p (cAr d j)=false)->(decide ((i:Int)<(d.len:Int))=true->((0:Int)<=(i:Int)/\(i:Int)<(d.len:Int))/\ok [D.i (d.el (i:Int).toNat 0).toI,D.i (d.el (i:Int).toNat 1).toI,d.el (i:Int).toNat 2]/\(p [D.i (d.el (i:Int).toNat 0).toI,D.i (d.el (i:Int).toNat 1).toI,d.el (i:Int).toNat 2]=true->(i:Int)=ixF (fun (i:Nat)=>p (cAr d i)) d.len)/\(p [D.i (d.el (i:Int).toNat 0).toI,D.i (d.el (i:Int).toNat 1).toI,d.el (i:Int).toNat 2]=false->∃ (j:Nat),(j<=d.len/\∀ (j_1:Nat),j_1<j->p (cAr d j_1)=false)/\d.len-j<d.len-i/\IntKind.i64.wrap ((i:Int)+(1:Int))=(j:Int)/\d.rows=d.rows/\p=p/\ok=ok/\(d.len:Int)=(d.len:Int)))/\(decide ((i:Int)<(d.len:Int))=false->(-1:Int)=ixF (fun (i:Nat)=>p (cAr d i)) d.len)) (by kernel_rfl) ?_
  intro hc ho;have e0:∀ (i:Nat),((i:Int)).toNat=i:=fun i=>Int.toNat_natCast i
  refine ⟨⟨0,⟨Nat.zero_le _,fun j hj=>absurd hj (Nat.not_lt_zero j)⟩,rfl,rfl,rfl,rfl,rfl⟩,fun i hp=>⟨fun hl=>?_,fun hl=>?_⟩⟩
  ·have hi:i<d.len:=by have:=of_decide_eq_true hl;omega
   refine ⟨⟨by omega,by omega⟩,by simp only [e0];exact ho i hi,fun hq=>?_,fun hq=>?_⟩
   ·simp only [e0] at hq;exact (ixF_hit hi hq hp.2).symm
   ·simp only [e0] at hq;have hw:IntKind.i64.wrap ((i:Int)+1)=((i+1:Nat):Int):=by rw [IntWalk.i64_in _ (by omega)];omega
    refine ⟨i+1,⟨by omega,fun j hj=>?_⟩,by omega,hw,rfl,rfl,rfl,rfl⟩
    rcases Nat.lt_or_ge j i with h |h
    ·exact hp.2 j h
    ·obtain rfl:j=i:=by omega
     exact hq
  ·have hi:¬ i<d.len:=by have:=of_decide_eq_false hl;omega
   exact (ixF_no fun j hj=>hp.2 j (by omega)).symm
 ·trivial
noncomputable def cfrS:FSpec:=fun ds _=>match ds with
 | [.d d,.q p ok]=>some {val:=.one (.sc (.bool (.sym ((List.range d.len).any fun i=>p (cAr d i))))),vc:=[d.len<=10000000000000,∀ i,i<d.len->ok (cAr d i)]}
 |_=>none
noncomputable def cfrC:Con:=con [.sc (.rows 170),.sc (.fn true 170)] cfrS
theorem cfr_ok:ConOK Tryz.prog 156 cfrC:=by
 refine fn_ob tt_ok mixed Tryz.func156 rfl (fun _ _=>by kernel_rfl) (A:=fun ds=>⟨fun _=>Cons.of [(172,ixrC)],fun _=>none,fun _=>none⟩) (fun _ _=>(cons_cons ixr_ok cons_nil)) (by kernel_rfl) ?_
 intro ds fr;unfold cfrS;split
 ·rename_i d p ok;refine kmp (q:=d.len<=10000000000000->(∀ (i:Nat),i<d.len->ok (cAr d i))->d.len<=10000000000000/\(∀ (i:Nat),i<d.len->ok (cAr d i))/\decide (ixF (fun (i:Nat)=>p (cAr d i)) d.len>=(0:Int))=(List.range d.len).any fun (i:Nat)=>p (cAr d i)) (by kernel_rfl) ?_
  intro hc ho;exact ⟨hc,ho,(ixF_any _ _)⟩
 ·trivial
noncomputable def tu1S:FSpec:=fun ds _=>match ds with
 | [.i g,.i w,.d b,.i t]=>some {val:=.one (.sc (.bool (.sym (g==t)))),vc:=[]}
 |_=>none
noncomputable def tu1C:Con:=con [arA,.sc (.pt (.int .i64))] tu1S
theorem tu1_ok:ConOK Tryz.prog 157 tu1C:=by
 refine fn_ob tt_ok mixed Tryz.func157 rfl (fun _ _=>by kernel_rfl) (A:=fun ds=>⟨fun _=>Cons.of [],fun _=>none,fun _=>none⟩) (fun _ _=>cons_nil) (by kernel_rfl) ?_
 intro ds fr;unfold tu1S;split
 ·rename_i g w b t;refine kmp (q:=(g==t)=(g==t)) (by kernel_rfl) ?_
  rfl
 ·trivial
def tu1F:FC:=⟨.int .i64,true,170,fun d=>match d with | .i a=>some (tgQ a,okK0) |_=>none⟩
noncomputable def tu1K:Con:=conF tu1F tu1C
theorem tu1K_ok:ConOK Tryz.prog 157 tu1K:=
 conF_ok tu1_ok (fc_ok (ks:=eks 170) rfl rfl (fun h=>by cases h) tu1_ok rfl fun d q h l _=>by
  cases d with
  |i a=>
   obtain rfl:=Option.some.inj h;exact ⟨_,rfl,trivial⟩
  |_=>cases h)
noncomputable def ktuS:FSpec:=fun ds _=>match ds with
 | [.d d,.i t]=>some {val:=.one (.sc (.bool (.sym (tgU d d.len t)))),vc:=[d.len<=10000000000000]}
 |_=>none
noncomputable def ktuC:Con:=con [.sc (.rows 170),lI] ktuS
theorem ktu_ok:ConOK Tryz.prog 131 ktuC:=by
 refine fn_ob tt_ok mixed Tryz.func131 rfl (fun _ _=>by kernel_rfl) (A:=fun ds=>⟨fun _=>Cons.of [(157,tu1K),(156,cfrC)],fun _=>none,fun _=>none⟩) (fun _ _=>(cons_cons tu1K_ok (cons_cons cfr_ok cons_nil))) (by kernel_rfl) ?_
 intro ds fr;unfold ktuS;split
 ·rename_i d t;refine kmp (q:=d.len<=10000000000000->d.len<=10000000000000/\(∀ (i:Nat),i<d.len->okK0 (cAr d i))/\((List.range d.len).any fun (i:Nat)=>tgQ t (cAr d i))=tgU d d.len t) (by kernel_rfl) ?_
  intro h;exact ⟨h,fun _ _=>trivial,rfl⟩
 ·trivial
theorem tgU_sub {am:D} {n:Nat} (h:n<=am.len) (t:Int):tgU (am.sub 0 n) (am.sub 0 n).len t=tgU am n t:=by
 rw [D.sub_len am h,Nat.sub_zero];unfold tgU;rw [Bool.eq_iff_iff,List.any_eq_true,List.any_eq_true];constructor
 ·rintro ⟨j,h1,h2⟩;refine ⟨j,h1,?_⟩;have hj:=List.mem_range.1 h1;rw [D.sub_el am (by omega),Nat.zero_add] at h2;exact h2
 ·rintro ⟨j,h1,h2⟩;refine ⟨j,h1,?_⟩;have hj:=List.mem_range.1 h1;rw [D.sub_el am (by omega),Nat.zero_add];exact h2
end Go.Proofs.YtplejbgafjpomaaGreatDoor.Sx.Z
namespace Go.Proofs.YtplejbgafjpomaaGreatDoor.Sx.Z
open Go.RowKit
def eqS (a b:ByteArray):Bool:=a.toList==b.toList
def ixN (d:D) (s:ByteArray):Int:=ixF (fun j=>eqS s (d.el j 0).toS) d.len
def twK (d:D):Bool:=(List.range d.len).any fun i=>(List.range i).any fun j=>eqS (d.el i 0).toS (d.el j 0).toS
def twI (d:D) (i:Nat):Bool:=(List.range i).any fun j=>eqS (d.el i 0).toS (d.el j 0).toS
theorem any_no {n:Nat} {f:Nat->Bool} (h:∀ j,j<n->f j=false):(List.range n).any f=false:=by
 rw [List.any_eq_false];intro j hj;rw [h j (List.mem_range.1 hj)]
 decide
theorem any_yes {n i:Nat} {f:Nat->Bool} (hi:i<n) (h:f i=true):(List.range n).any f=true:=List.any_eq_true.2 ⟨i,List.mem_range.2 hi,h⟩
theorem any_sub {d:D} {n:Nat} (h:n<=d.len) (f:D->Bool):((List.range (d.sub 0 n).len).any fun j=>f ((d.sub 0 n).el j 0))=(List.range n).any fun j=>f (d.el j 0):=by
 rw [D.sub_len d h,Nat.sub_zero,Bool.eq_iff_iff,List.any_eq_true,List.any_eq_true];constructor
 ·rintro ⟨j,h1,h2⟩;have hj:=List.mem_range.1 h1;rw [D.sub_el d (by omega),Nat.zero_add] at h2;exact ⟨j,h1,h2⟩
 ·rintro ⟨j,h1,h2⟩;have hj:=List.mem_range.1 h1;refine ⟨j,h1,?_⟩;rw [D.sub_el d (by omega),Nat.zero_add];exact h2
def ixC (d:D) (s:ByteArray):Int:=ixF (fun j=>eqS (d.el j 0).toS s) d.len
def cChn (d:D) (i:Nat):List D:=[D.s (d.el i 0).toS,D.i (d.el i 1).toI,D.i (d.el i 2).toI,D.s (d.el i 3).toS,D.s (d.el i 4).toS,d.el i 5]
def cPrn (d:D) (i:Nat):List D:=[D.s (d.el i 0).toS,d.el i 1,d.el i 2]
def nmQ (s:ByteArray) (l:List D):Bool:=eqS (l.getD 0 (.i 0)).toS s
noncomputable def ixsS:FSpec:=fun ds _=>match ds with
 | [.d d,.s s]=>some {val:=.one (.sc (.int .i64 (.sym (ixN d s)))),vc:=[d.len<=10000000000000]}
 |_=>none
noncomputable def ixsC:Con:=con [.sc (.rows 9),.sc .str] ixsS
theorem ixs_ok:ConOK Tryz.prog 105 ixsC:=by
 refine fn_ob tt_ok mixed Tryz.func105 rfl (fun _ _=>by kernel_rfl) (A:=fun ds=>⟨fun _=>Cons.of [],fun k=>match k,ds with | 2,[.d d,.s s]=>some {ι:=Nat,pre:=fun _ i=>i<=d.len/\∀ j,j<i->eqS s (d.el j 0).toS=false,μ:=fun i=>d.len+1-i,st:=fun s i=>famR s [(8,.one (.sc (.int .i64 (.sym ((i:Nat))))))] [0,1,6,7] [] []} |_,_=>none,fun _=>none⟩) (fun _ _=>cons_nil) (by kernel_rfl) ?_
 intro ds fr;unfold ixsS;split
 ·rename_i d s;refine kmp (q:=d.len<=10000000000000->(∃ (i:Nat),(i<=d.len/\∀ (j:Nat),j<i->eqS s (d.el j 0).toS=false)/\(0:Int)=(i:Int)/\d.rows=d.rows/\Value.string s=Value.string s/\d.rows=d.rows/\(d.len:Int)=(d.len:Int))/\∀ (i:Nat),(i<=d.len/\∀ (j:Nat),j<i->eqS s (d.el j 0).toS=false)->(decide ((i:Int)<(d.len:Int))=true->((0:Int)<=(i:Int)/\(i:Int)<(d.len:Int))/\((s.toList==(d.el (i:Int).toNat 0).toS.toList)=true->(i:Int)=ixN d s)/\((s.toList==(d.el (i:Int).toNat 0).toS.toList)=false->∃ (j:Nat),(j<=d.len/\∀ (j_1:Nat),j_1<j->eqS s (d.el j_1 0).toS=false)/\d.len+(1:Nat)-j<d.len+(1:Nat)-i/\IntKind.i64.wrap ((i:Int)+(1:Int))=(j:Int)/\d.rows=d.rows/\Value.string s=Value.string s/\d.rows=d.rows/\(d.len:Int)=(d.len:Int)))/\(decide ((i:Int)<(d.len:Int))=false->(-1:Int)=ixN d s)) (by kernel_rfl) ?_
  intro hl;simp only [Nat.reduceAdd,Nat.zero_add,k_n];refine ⟨⟨0,⟨Nat.zero_le _,fun j hj=>absurd hj (Nat.not_lt_zero j)⟩,rfl,(by (repeat' (with_reducible apply And.intro))<;>first |exact True.intro |rfl)⟩,fun i hp=>⟨fun hc=>?_,fun hc=>?_⟩⟩
  ·have hc:=of_decide_eq_true hc;have hi:i<d.len:=by omega
   refine ⟨⟨by omega,by omega⟩,fun hq=>(ixF_hit hi hq hp.2).symm,fun hq=>⟨i+1,⟨hi,fun j hj=>?_⟩,by omega,k_nx (by omega),(by (repeat' (with_reducible apply And.intro))<;>first |exact True.intro |rfl)⟩⟩
   rcases Nat.lt_or_ge j i with h |h
   ·exact hp.2 j h
   ·obtain rfl:j=i:=by omega
    exact hq
  ·have hc:=of_decide_eq_false hc;exact (ixF_no fun j hj=>hp.2 j (by omega)).symm
 ·trivial
noncomputable def cnsS:FSpec:=fun ds _=>match ds with
 | [.d d,.s s]=>some {val:=.one (.sc (.bool (.sym ((List.range d.len).any fun j=>eqS s (d.el j 0).toS)))),vc:=[d.len<=10000000000000]}
 |_=>none
noncomputable def cnsC:Con:=con [.sc (.rows 9),.sc .str] cnsS
theorem cns_ok:ConOK Tryz.prog 106 cnsC:=by
 refine fn_ob tt_ok mixed Tryz.func106 rfl (fun _ _=>by kernel_rfl) (A:=fun ds=>⟨fun _=>Cons.of [(105,ixsC)],fun _=>none,fun _=>none⟩) (fun _ _=>(cons_cons ixs_ok cons_nil)) (by kernel_rfl) ?_
 intro ds fr;unfold cnsS;split
 ·rename_i d s;refine kmp (q:=d.len<=10000000000000->d.len<=10000000000000/\decide (ixN d s>=(0:Int))=(List.range d.len).any fun (j:Nat)=>eqS s (d.el j 0).toS) (by kernel_rfl) ?_
  intro hl;exact ⟨hl,ixF_any _ _⟩
 ·trivial
noncomputable def atwS:FSpec:=fun ds _=>match ds with
 | [.d d]=>some {val:=.one (.sc (.bool (.sym (twK d)))),vc:=[d.len<=10000000000000]}
 |_=>none
noncomputable def atwC:Con:=con [.sc (.rows 9)] atwS
theorem atw_ok:ConOK Tryz.prog 60 atwC:=by
 refine fn_ob tt_ok mixed Tryz.func60 rfl (fun _ _=>by kernel_rfl) (A:=fun ds=>⟨fun _=>Cons.of [(106,cnsC)],fun k=>match k,ds with | 2,[.d d]=>some {ι:=Nat,pre:=fun _ i=>i<=d.len/\∀ j,j<i->twI d j=false,μ:=fun i=>d.len+1-i,st:=fun s i=>famR s [(7,.one (.sc (.int .i64 (.sym ((i:Nat))))))] [0,5,6] [] []} |_,_=>none,fun _=>none⟩) (fun _ _=>(cons_cons cns_ok cons_nil)) (by kernel_rfl) ?_
 intro ds fr;unfold atwS;split
 ·rename_i d;refine kmp (q:=d.len<=10000000000000->(∃ (i:Nat),(i<=d.len/\∀ (j:Nat),j<i->twI d j=false)/\(0:Int)=(i:Int)/\d.rows=d.rows/\d.rows=d.rows/\(d.len:Int)=(d.len:Int))/\∀ (i:Nat),(i<=d.len/\∀ (j:Nat),j<i->twI d j=false)->(decide ((i:Int)<(d.len:Int))=true->((0:Int)<=(i:Int)/\(i:Int)<(d.len:Int))/\((0:Int)<=(i:Int)/\(i:Int)<=(d.len:Int))/\(d.sub (0:Nat) (i:Int).toNat).len<=10000000000000/\(((List.range (d.sub (0:Nat) (i:Int).toNat).len).any fun (j:Nat)=>eqS (d.el (i:Int).toNat 0).toS ((d.sub (0:Nat) (i:Int).toNat).el j 0).toS)=true->true=twK d)/\(((List.range (d.sub (0:Nat) (i:Int).toNat).len).any fun (j:Nat)=>eqS (d.el (i:Int).toNat 0).toS ((d.sub (0:Nat) (i:Int).toNat).el j 0).toS)=false->∃ (j:Nat),(j<=d.len/\∀ (j_1:Nat),j_1<j->twI d j_1=false)/\d.len+(1:Nat)-j<d.len+(1:Nat)-i/\IntKind.i64.wrap ((i:Int)+(1:Int))=(j:Int)/\d.rows=d.rows/\d.rows=d.rows/\(d.len:Int)=(d.len:Int)))/\(decide ((i:Int)<(d.len:Int))=false->false=twK d)) (by kernel_rfl) ?_
  intro hl;simp only [Nat.reduceAdd,Nat.zero_add,k_n];refine ⟨⟨0,⟨Nat.zero_le _,fun j hj=>absurd hj (Nat.not_lt_zero j)⟩,rfl,(by (repeat' (with_reducible apply And.intro))<;>first |exact True.intro |rfl)⟩,fun i hp=>⟨fun hc=>?_,fun hc=>?_⟩⟩
  ·have hc:=of_decide_eq_true hc;have hi:i<d.len:=by omega
   have e:=any_sub (d:=d) (n:=i) (by omega) (fun x=>eqS (d.el i 0).toS x.toS);have l:=D.sub_len d (l:=0) (h:=i) (by omega);rw [e,l];refine ⟨⟨by omega,by omega⟩,⟨by omega,by omega⟩,by omega,fun hq=>?_,fun hq=>⟨i+1,⟨hi,fun j hj=>?_⟩,by omega,k_nx (by omega),(by (repeat' (with_reducible apply And.intro))<;>first |exact True.intro |rfl)⟩⟩
   ·exact (any_yes (f:=twI d) hi hq).symm
   ·rcases Nat.lt_or_ge j i with h |h
    ·exact hp.2 j h
    ·obtain rfl:j=i:=by omega
     exact hq
  ·have hc:=of_decide_eq_false hc;exact (any_no (f:=twI d) fun j hj=>hp.2 j (by omega)).symm
 ·trivial
noncomputable def ixcS:FSpec:=fun ds _=>match ds with
 | [.d d,.q p ok]=>some {val:=.one (.sc (.int .i64 (.sym (ixF (fun i=>p (cChn d i)) d.len)))),vc:=[d.len<=10000000000000,∀ i,i<d.len->ok (cChn d i)]}
 |_=>none
noncomputable def ixcC:Con:=con [.sc (.rows 118),.sc (.fn true 118)] ixcS
theorem ixc_ok:ConOK Tryz.prog 102 ixcC:=by
 refine fn_ob tt_ok mixed Tryz.func102 rfl (fun _ _=>by kernel_rfl) (A:=fun ds=>⟨fun _=>Cons.of [],fun k=>match k,ds with | 2,[.d d,.q p ok]=>some {ι:=Nat,pre:=fun _ i=>i<=d.len/\∀ j,j<i->p (cChn d j)=false,μ:=fun i=>d.len-i,st:=fun s i=>famR s [(8,.one (.sc (.int .i64 (.sym ((i:Int))))))] [0,1,7] [] []} |_,_=>none,fun _=>none⟩) (fun _ _=>cons_nil) (by kernel_rfl) ?_
 intro ds fr;unfold ixcS;split
 ·rename_i d p ok;refine kmp (q:=d.len<=10000000000000->(∀ (i:Nat),i<d.len->ok (cChn d i))->(∃ (i:Nat),(i<=d.len/\∀ (j:Nat),j<i->p (cChn d j)=false)/\(0:Int)=(i:Int)/\d.rows=d.rows/\p=p/\ok=ok/\(d.len:Int)=(d.len:Int))/\∀ (i:Nat),(i<=d.len/\∀ (j:Nat),j<i->p (cChn d j)=false)->(decide ((i:Int)<(d.len:Int))=true->((0:Int)<=(i:Int)/\(i:Int)<(d.len:Int))/\ok [D.s (d.el (i:Int).toNat 0).toS,D.i (d.el (i:Int).toNat 1).toI,D.i (d.el (i:Int).toNat 2).toI,D.s (d.el (i:Int).toNat 3).toS,D.s (d.el (i:Int).toNat 4).toS,d.el (i:Int).toNat 5]/\(p [D.s (d.el (i:Int).toNat 0).toS,D.i (d.el (i:Int).toNat 1).toI,D.i (d.el (i:Int).toNat 2).toI,D.s (d.el (i:Int).toNat 3).toS,D.s (d.el (i:Int).toNat 4).toS,d.el (i:Int).toNat 5]=true->(i:Int)=ixF (fun (i:Nat)=>p (cChn d i)) d.len)/\(p [D.s (d.el (i:Int).toNat 0).toS,D.i (d.el (i:Int).toNat 1).toI,D.i (d.el (i:Int).toNat 2).toI,D.s (d.el (i:Int).toNat 3).toS,D.s (d.el (i:Int).toNat 4).toS,d.el (i:Int).toNat 5]=false->∃ (j:Nat),(j<=d.len/\∀ (j_1:Nat),j_1<j->p (cChn d j_1)=false)/\d.len-j<d.len-i/\IntKind.i64.wrap ((i:Int)+(1:Int))=(j:Int)/\d.rows=d.rows/\p=p/\ok=ok/\(d.len:Int)=(d.len:Int)))/\(decide ((i:Int)<(d.len:Int))=false->(-1:Int)=ixF (fun (i:Nat)=>p (cChn d i)) d.len)) (by kernel_rfl) ?_
  intro hc ho;have e0:∀ (i:Nat),((i:Int)).toNat=i:=fun i=>Int.toNat_natCast i
  refine ⟨⟨0,⟨Nat.zero_le _,fun j hj=>absurd hj (Nat.not_lt_zero j)⟩,rfl,rfl,rfl,rfl,rfl⟩,fun i hp=>⟨fun hl=>?_,fun hl=>?_⟩⟩
  ·have hi:i<d.len:=by have:=of_decide_eq_true hl;omega
   refine ⟨⟨by omega,by omega⟩,by simp only [e0];exact ho i hi,fun hq=>?_,fun hq=>?_⟩
   ·simp only [e0] at hq;exact (ixF_hit hi hq hp.2).symm
   ·simp only [e0] at hq;have hw:IntKind.i64.wrap ((i:Int)+1)=((i+1:Nat):Int):=by rw [IntWalk.i64_in _ (by omega)];omega
    refine ⟨i+1,⟨by omega,fun j hj=>?_⟩,by omega,hw,rfl,rfl,rfl,rfl⟩
    rcases Nat.lt_or_ge j i with h |h
    ·exact hp.2 j h
    ·obtain rfl:j=i:=by omega
     exact hq
  ·have hi:¬ i<d.len:=by have:=of_decide_eq_false hl;omega
   exact (ixF_no fun j hj=>hp.2 j (by omega)).symm
 ·trivial
noncomputable def chanAt1S:FSpec:=fun ds _=>match ds with
 | [.s nm,.i ck,.i cz,.s cf,.s ct,.d tg,.s s]=>some {val:=.one (.sc (.bool (.sym (eqS nm s)))),vc:=[]}
 |_=>none
noncomputable def chanAt1C:Con:=con [.agg [.c .str,.c (.int .i64),.c (.int .i64),.c .str,.c .str,.c (.rows 9)],.sc (.pt .str)] chanAt1S
theorem chanAt1_ok:ConOK Tryz.prog 103 chanAt1C:=by
 refine fn_ob tt_ok mixed Tryz.func103 rfl (fun _ _=>by kernel_rfl) (A:=fun ds=>⟨fun _=>Cons.of [],fun _=>none,fun _=>none⟩) (fun _ _=>cons_nil) (by kernel_rfl) ?_
 intro ds fr;unfold chanAt1S;split
 ·rename_i nm ck cz cf ct tg s;refine kmp (q:=(nm.toList==s.toList)=eqS nm s) (by kernel_rfl) ?_
  rfl
 ·trivial
def chanAt1F:FC:=⟨.str,true,118,fun d=>match d with | .s a=>some (nmQ a,okK0) |_=>none⟩
noncomputable def chanAt1K:Con:=conF chanAt1F chanAt1C
theorem chanAt1K_ok:ConOK Tryz.prog 103 chanAt1K:=
 conF_ok chanAt1_ok (fc_ok (ks:=eks 118) rfl rfl (fun h=>by cases h) chanAt1_ok rfl fun d q h l _=>by
  cases d with
  |s a=>
   obtain rfl:=Option.some.inj h;exact ⟨_,rfl,trivial⟩
  |_=>cases h)
noncomputable def chanAtS:FSpec:=fun ds _=>match ds with
 | [.d d,.s s]=>some {val:=.one (.sc (.int .i64 (.sym (ixC d s)))),vc:=[d.len<=10000000000000]}
 |_=>none
noncomputable def chanAtC:Con:=con [.sc (.rows 118),.sc .str] chanAtS
theorem chanAt_ok:ConOK Tryz.prog 58 chanAtC:=by
 refine fn_ob tt_ok mixed Tryz.func58 rfl (fun _ _=>by kernel_rfl) (A:=fun ds=>⟨fun _=>Cons.of [(103,chanAt1K),(102,ixcC)],fun _=>none,fun _=>none⟩) (fun _ _=>(cons_cons chanAt1K_ok (cons_cons ixc_ok cons_nil))) (by kernel_rfl) ?_
 intro ds fr;unfold chanAtS;split
 ·rename_i d s;refine kmp (q:=d.len<=10000000000000->d.len<=10000000000000/\(∀ (i:Nat),i<d.len->okK0 (cChn d i))/\ixF (fun (i:Nat)=>nmQ s (cChn d i)) d.len=ixC d s) (by kernel_rfl) ?_
  intro h;exact ⟨h,fun _ _=>trivial,rfl⟩
 ·trivial
noncomputable def ixpS:FSpec:=fun ds _=>match ds with
 | [.d d,.q p ok]=>some {val:=.one (.sc (.int .i64 (.sym (ixF (fun i=>p (cPrn d i)) d.len)))),vc:=[d.len<=10000000000000,∀ i,i<d.len->ok (cPrn d i)]}
 |_=>none
noncomputable def ixpC:Con:=con [.sc (.rows 126),.sc (.fn true 126)] ixpS
theorem ixp_ok:ConOK Tryz.prog 100 ixpC:=by
 refine fn_ob tt_ok mixed Tryz.func100 rfl (fun _ _=>by kernel_rfl) (A:=fun ds=>⟨fun _=>Cons.of [],fun k=>match k,ds with | 2,[.d d,.q p ok]=>some {ι:=Nat,pre:=fun _ i=>i<=d.len/\∀ j,j<i->p (cPrn d j)=false,μ:=fun i=>d.len-i,st:=fun s i=>famR s [(8,.one (.sc (.int .i64 (.sym ((i:Int))))))] [0,1,7] [] []} |_,_=>none,fun _=>none⟩) (fun _ _=>cons_nil) (by kernel_rfl) ?_
 intro ds fr;unfold ixpS;split
 ·rename_i d p ok;refine kmp (q:=d.len<=10000000000000->(∀ (i:Nat),i<d.len->ok (cPrn d i))->(∃ (i:Nat),(i<=d.len/\∀ (j:Nat),j<i->p (cPrn d j)=false)/\(0:Int)=(i:Int)/\d.rows=d.rows/\p=p/\ok=ok/\(d.len:Int)=(d.len:Int))/\∀ (i:Nat),(i<=d.len/\∀ (j:Nat),j<i->p (cPrn d j)=false)->(decide ((i:Int)<(d.len:Int))=true->((0:Int)<=(i:Int)/\(i:Int)<(d.len:Int))/\ok [D.s (d.el (i:Int).toNat 0).toS,d.el (i:Int).toNat 1,d.el (i:Int).toNat 2]/\(p [D.s (d.el (i:Int).toNat 0).toS,d.el (i:Int).toNat 1,d.el (i:Int).toNat 2]=true->(i:Int)=ixF (fun (i:Nat)=>p (cPrn d i)) d.len)/\(p [D.s (d.el (i:Int).toNat 0).toS,d.el (i:Int).toNat 1,d.el (i:Int).toNat 2]=false->∃ (j:Nat),(j<=d.len/\∀ (j_1:Nat),j_1<j->p (cPrn d j_1)=false)/\d.len-j<d.len-i/\IntKind.i64.wrap ((i:Int)+(1:Int))=(j:Int)/\d.rows=d.rows/\p=p/\ok=ok/\(d.len:Int)=(d.len:Int)))/\(decide ((i:Int)<(d.len:Int))=false->(-1:Int)=ixF (fun (i:Nat)=>p (cPrn d i)) d.len)) (by kernel_rfl) ?_
  intro hc ho;have e0:∀ (i:Nat),((i:Int)).toNat=i:=fun i=>Int.toNat_natCast i
  refine ⟨⟨0,⟨Nat.zero_le _,fun j hj=>absurd hj (Nat.not_lt_zero j)⟩,rfl,rfl,rfl,rfl,rfl⟩,fun i hp=>⟨fun hl=>?_,fun hl=>?_⟩⟩
  ·have hi:i<d.len:=by have:=of_decide_eq_true hl;omega
   refine ⟨⟨by omega,by omega⟩,by simp only [e0];exact ho i hi,fun hq=>?_,fun hq=>?_⟩
   ·simp only [e0] at hq;exact (ixF_hit hi hq hp.2).symm
   ·simp only [e0] at hq;have hw:IntKind.i64.wrap ((i:Int)+1)=((i+1:Nat):Int):=by rw [IntWalk.i64_in _ (by omega)];omega
    refine ⟨i+1,⟨by omega,fun j hj=>?_⟩,by omega,hw,rfl,rfl,rfl,rfl⟩
    rcases Nat.lt_or_ge j i with h |h
    ·exact hp.2 j h
    ·obtain rfl:j=i:=by omega
     exact hq
  ·have hi:¬ i<d.len:=by have:=of_decide_eq_false hl;omega
   exact (ixF_no fun j hj=>hp.2 j (by omega)).symm
 ·trivial
noncomputable def procAt1S:FSpec:=fun ds _=>match ds with
 | [.s nm,.d vr,.d bd,.s s]=>some {val:=.one (.sc (.bool (.sym (eqS nm s)))),vc:=[]}
 |_=>none
noncomputable def procAt1C:Con:=con [.agg [.c .str,.c (.rows 9),.c (.rows 193)],.sc (.pt .str)] procAt1S
theorem procAt1_ok:ConOK Tryz.prog 101 procAt1C:=by
 refine fn_ob tt_ok mixed Tryz.func101 rfl (fun _ _=>by kernel_rfl) (A:=fun ds=>⟨fun _=>Cons.of [],fun _=>none,fun _=>none⟩) (fun _ _=>cons_nil) (by kernel_rfl) ?_
 intro ds fr;unfold procAt1S;split
 ·rename_i nm vr bd s;refine kmp (q:=(nm.toList==s.toList)=eqS nm s) (by kernel_rfl) ?_
  rfl
 ·trivial
def procAt1F:FC:=⟨.str,true,126,fun d=>match d with | .s a=>some (nmQ a,okK0) |_=>none⟩
noncomputable def procAt1K:Con:=conF procAt1F procAt1C
theorem procAt1K_ok:ConOK Tryz.prog 101 procAt1K:=
 conF_ok procAt1_ok (fc_ok (ks:=eks 126) rfl rfl (fun h=>by cases h) procAt1_ok rfl fun d q h l _=>by
  cases d with
  |s a=>
   obtain rfl:=Option.some.inj h;exact ⟨_,rfl,trivial⟩
  |_=>cases h)
noncomputable def procAtS:FSpec:=fun ds _=>match ds with
 | [.d d,.s s]=>some {val:=.one (.sc (.int .i64 (.sym (ixC d s)))),vc:=[d.len<=10000000000000]}
 |_=>none
noncomputable def procAtC:Con:=con [.sc (.rows 126),.sc .str] procAtS
theorem procAt_ok:ConOK Tryz.prog 57 procAtC:=by
 refine fn_ob tt_ok mixed Tryz.func57 rfl (fun _ _=>by kernel_rfl) (A:=fun ds=>⟨fun _=>Cons.of [(101,procAt1K),(100,ixpC)],fun _=>none,fun _=>none⟩) (fun _ _=>(cons_cons procAt1K_ok (cons_cons ixp_ok cons_nil))) (by kernel_rfl) ?_
 intro ds fr;unfold procAtS;split
 ·rename_i d s;refine kmp (q:=d.len<=10000000000000->d.len<=10000000000000/\(∀ (i:Nat),i<d.len->okK0 (cPrn d i))/\ixF (fun (i:Nat)=>nmQ s (cPrn d i)) d.len=ixC d s) (by kernel_rfl) ?_
  intro h;exact ⟨h,fun _ _=>trivial,rfl⟩
 ·trivial
def cdE (ah:D) (nm:ByteArray) (cz:Int) (tg:D):Int:=if decide (ixC ah nm>=0)=true then 7 else if (decide (cz<1) ||decide (cz>16) ||decide ((tg.len:Int)>4))=true then 10 else if twK tg=true then 7 else 0
noncomputable def cdlS:FSpec:=fun ds _=>match ds with
 | [.d ah,.s nm,.i ck,.i cz,.s cf,.s ct,.d tg]=>some {val:=.one (.sc (.int .i64 (.sym (cdE ah nm cz tg)))),vc:=[ah.len<=10000000000000,tg.len<=10000000000000]}
 |_=>none
noncomputable def cdlC:Con:=con [.sc (.rows 118),.agg [.c .str,.c (.int .i64),.c (.int .i64),.c .str,.c .str,.c (.rows 9)]] cdlS
theorem cdl_ok:ConOK Tryz.prog 56 cdlC:=by
 refine fn_ob tt_ok mixed Tryz.func56 rfl (fun _ _=>by kernel_rfl) (A:=fun ds=>⟨fun _=>Cons.of [(58,chanAtC),(60,atwC)],fun _=>none,fun _=>none⟩) (fun _ _=>(cons_cons chanAt_ok (cons_cons atw_ok cons_nil))) (by kernel_rfl) ?_
 intro ds fr;unfold cdlS;split
 ·rename_i ah nm ck cz cf ct tg;refine kmp (q:=ah.len<=10000000000000->tg.len<=10000000000000->ah.len<=10000000000000/\(decide (ixC ah nm>=(0:Int))=true->(7:Int)=cdE ah nm cz tg)/\(decide (ixC ah nm>=(0:Int))=false->((decide (cz<(1:Int)) ||decide (cz>(16:Int)) ||decide ((tg.len:Int)>(4:Int)))=true->(10:Int)=cdE ah nm cz tg)/\((decide (cz<(1:Int)) ||decide (cz>(16:Int)) ||decide ((tg.len:Int)>(4:Int)))=false->tg.len<=10000000000000/\(twK tg=true->(7:Int)=cdE ah nm cz tg)/\(twK tg=false->(0:Int)=cdE ah nm cz tg)))) (by kernel_rfl) ?_
  intro h1 h2;refine ⟨h1,fun h=>?_,fun n1=>⟨fun h=>?_,fun n2=>⟨h2,fun h=>?_,fun n3=>?_⟩⟩⟩
  ·unfold cdE;rw [if_pos h]
  ·unfold cdE;rw [if_neg (by rw [n1];decide),if_pos h]
  ·unfold cdE;rw [if_neg (by rw [n1];decide),if_neg (by rw [n2];decide),if_pos h]
  ·unfold cdE;rw [if_neg (by rw [n1];decide),if_neg (by rw [n2];decide),if_neg (by rw [n3];decide)]
 ·trivial
def cdI (ch:D) (i:Nat):Int:=cdE (ch.sub 0 i) (ch.el i 0).toS (ch.el i 2).toI (ch.el i 5)
def pdI (pr:D) (i:Nat):Bool:=decide (ixC (pr.sub 0 i) (pr.el i 0).toS>=0)
def fnz (f:Nat->Int):Nat->Int
 | 0=>0
 |n+1=>if fnz f n=0 then f n else fnz f n
theorem fnz_0 {f:Nat->Int}:∀ {n:Nat},(∀ j,j<n->f j=0)->fnz f n=0
 | 0,_=>rfl
 |n+1,h=>by rw [fnz,if_pos (fnz_0 fun j hj=>h j (by omega))];exact h n (by omega)
theorem fnz_at {f:Nat->Int} {i:Nat} (hi:f i≠0) (h:∀ j,j<i->f j=0):∀ {n:Nat},i<n->fnz f n=f i
 | 0,hn=>absurd hn (Nat.not_lt_zero i)
 |n+1,hn=>by
  rcases Nat.lt_or_ge i n with h1 |h1
  ·rw [fnz,fnz_at hi h h1,if_neg hi]
  ·obtain rfl:i=n:=by omega
   rw [fnz,if_pos (fnz_0 h)]
def dcE (ch pr:D):Int:=if decide ((ch.len:Int)>4)=true then 10 else if fnz (cdI ch) ch.len=0 then (if (decide ((pr.len:Int)<1) ||decide ((pr.len:Int)>4))=true then 10 else if (List.range pr.len).any (pdI pr)=true then 7 else 0) else fnz (cdI ch) ch.len
noncomputable def dclS:FSpec:=fun ds _=>match ds with
 | [.d ch,.d ru,.d pr]=>some {val:=.one (.sc (.int .i64 (.sym (dcE ch pr)))),vc:=[∀ i,i<ch.len->(ch.el i 5).len<=10000000000000]}
 |_=>none
noncomputable def dclC:Con:=con [lSy] dclS
theorem dcl_ok:ConOK Tryz.prog 30 dclC:=by
 refine fn_ob tt_ok mixed Tryz.func30 rfl (fun _ _=>by kernel_rfl) (A:=fun ds=>⟨fun _=>Cons.of [(56,cdlC),(57,procAtC)],fun k=>match k,ds with | 4,[.d ch,.d ru,.d pr]=>some {ι:=Nat,pre:=fun _ i=>i<=ch.len/\∀ j,j<i->cdI ch j=0,μ:=fun i=>ch.len+1-i,st:=fun s i=>famR s [(15,.one (.sc (.int .i64 (.sym ((i:Nat))))))] [1,13,14] [] [1]} | 13,[.d ch,.d ru,.d pr]=>some {ι:=Nat,pre:=fun _ i=>i<=pr.len/\∀ j,j<i->pdI pr j=false,μ:=fun i=>pr.len+1-i,st:=fun s i=>famR s [(43,.one (.sc (.int .i64 (.sym ((i:Nat))))))] [1,41,42] [] [1]} |_,_=>none,fun _=>none⟩) (fun _ _=>(cons_cons cdl_ok (cons_cons procAt_ok cons_nil))) (by kernel_rfl) ?_
 intro ds fr;unfold dclS;split
 ·rename_i ch ru pr;refine kmp (q:=(∀ (i:Nat),i<ch.len->(ch.el i 5).len<=10000000000000)->(decide ((ch.len:Int)>(4:Int))=true->(10:Int)=dcE ch pr)/\(decide ((ch.len:Int)>(4:Int))=false->(∃ (i:Nat),(i<=ch.len/\∀ (j:Nat),j<i->cdI ch j=(0:Int))/\(0:Int)=(i:Int)/\ch.rows=ch.rows/\(ch.len:Int)=(ch.len:Int)/\ch.rows=ch.rows/\ru.rows=ru.rows/\pr.rows=pr.rows)/\∀ (i:Nat),(i<=ch.len/\∀ (j:Nat),j<i->cdI ch j=(0:Int))->(decide ((i:Int)<(ch.len:Int))=true->((0:Int)<=(i:Int)/\(i:Int)<(ch.len:Int))/\((0:Int)<=(i:Int)/\(i:Int)<=(ch.len:Int))/\(ch.sub (0:Nat) (i:Int).toNat).len<=10000000000000/\(ch.el (i:Int).toNat 5).len<=10000000000000/\((cdE (ch.sub (0:Nat) (i:Int).toNat) (ch.el (i:Int).toNat 0).toS (ch.el (i:Int).toNat 2).toI (ch.el (i:Int).toNat 5) != (0:Int))=true->cdE (ch.sub (0:Nat) (i:Int).toNat) (ch.el (i:Int).toNat 0).toS (ch.el (i:Int).toNat 2).toI (ch.el (i:Int).toNat 5)=dcE ch pr)/\((cdE (ch.sub (0:Nat) (i:Int).toNat) (ch.el (i:Int).toNat 0).toS (ch.el (i:Int).toNat 2).toI (ch.el (i:Int).toNat 5) != (0:Int))=false->∃ (j:Nat),(j<=ch.len/\∀ (j_1:Nat),j_1<j->cdI ch j_1=(0:Int))/\ch.len+(1:Nat)-j<ch.len+(1:Nat)-i/\IntKind.i64.wrap ((i:Int)+(1:Int))=(j:Int)/\ch.rows=ch.rows/\(ch.len:Int)=(ch.len:Int)/\ch.rows=ch.rows/\ru.rows=ru.rows/\pr.rows=pr.rows))/\(decide ((i:Int)<(ch.len:Int))=false->((decide ((pr.len:Int)<(1:Int)) ||decide ((pr.len:Int)>(4:Int)))=true->(10:Int)=dcE ch pr)/\((decide ((pr.len:Int)<(1:Int)) ||decide ((pr.len:Int)>(4:Int)))=false->(∃ (i:Nat),(i<=pr.len/\∀ (j:Nat),j<i->pdI pr j=false)/\(0:Int)=(i:Int)/\pr.rows=pr.rows/\(pr.len:Int)=(pr.len:Int)/\ch.rows=ch.rows/\ru.rows=ru.rows/\pr.rows=pr.rows)/\∀ (i:Nat),(i<=pr.len/\∀ (j:Nat),j<i->pdI pr j=false)->(decide ((i:Int)<(pr.len:Int))=true->((0:Int)<=(i:Int)/\(i:Int)<(pr.len:Int))/\((0:Int)<=(i:Int)/\(i:Int)<=(pr.len:Int))/\(pr.sub (0:Nat) (i:Int).toNat).len<=10000000000000/\(decide (ixC (pr.sub (0:Nat) (i:Int).toNat) (pr.el (i:Int).toNat 0).toS>=(0:Int))=true->(7:Int)=dcE ch pr)/\(decide (ixC (pr.sub (0:Nat) (i:Int).toNat) (pr.el (i:Int).toNat 0).toS>=(0:Int))=false->∃ (j:Nat),(j<=pr.len/\∀ (j_1:Nat),j_1<j->pdI pr j_1=false)/\pr.len+(1:Nat)-j<pr.len+(1:Nat)-i/\IntKind.i64.wrap ((i:Int)+(1:Int))=(j:Int)/\pr.rows=pr.rows/\(pr.len:Int)=(pr.len:Int)/\ch.rows=ch.rows/\ru.rows=ru.rows/\pr.rows=pr.rows))/\(decide ((i:Int)<(pr.len:Int))=false->(0:Int)=dcE ch pr))))) (by kernel_rfl) ?_
  intro ht;simp only [Nat.reduceAdd,Nat.zero_add,k_n];refine ⟨fun h=>by unfold dcE;rw [if_pos h],fun h=>?_⟩;have h0:¬ (decide ((ch.len:Int)>4)=true):=by rw [h];decide
  have h:=of_decide_eq_false h;refine ⟨⟨0,⟨Nat.zero_le _,fun j hj=>absurd hj (Nat.not_lt_zero j)⟩,rfl,(by (repeat' (with_reducible apply And.intro))<;>first |exact True.intro |rfl)⟩,fun i hp=>⟨fun hc=>?_,fun hc=>?_⟩⟩
  ·have hc:=of_decide_eq_true hc;have hi:i<ch.len:=by omega
   refine ⟨⟨by omega,by omega⟩,⟨by omega,by omega⟩,by rw [D.sub_len ch (by omega)];omega,ht i hi,fun hq=>?_,fun hq=>?_⟩
   ·have hq:cdI ch i≠0:=by unfold cdI;simpa using hq
    have hz:=fnz_at hq hp.2 hi;unfold dcE;rw [if_neg h0,if_neg (by rw [hz];exact hq),hz];rfl
   ·have hq:cdI ch i=0:=by unfold cdI;simpa using hq
    refine ⟨i+1,⟨hi,fun j hj=>?_⟩,by omega,k_nx (by omega),(by (repeat' (with_reducible apply And.intro))<;>first |exact True.intro |rfl)⟩
    rcases Nat.lt_or_ge j i with h1 |h1
    ·exact hp.2 j h1
    ·obtain rfl:j=i:=by omega
     exact hq
  have hc:=of_decide_eq_false hc;have hz:fnz (cdI ch) ch.len=0:=fnz_0 fun j hj=>hp.2 j (by omega)
  refine ⟨fun hb=>by unfold dcE;rw [if_neg h0,if_pos hz,if_pos hb],fun hb=>?_⟩;have hb0:¬ ((decide ((pr.len:Int)<1) ||decide ((pr.len:Int)>4))=true):=by rw [hb];decide
  simp only [Bool.or_eq_false_iff,decide_eq_false_iff_not] at hb;refine ⟨⟨0,⟨Nat.zero_le _,fun j hj=>absurd hj (Nat.not_lt_zero j)⟩,rfl,(by (repeat' (with_reducible apply And.intro))<;>first |exact True.intro |rfl)⟩,fun i hp=>⟨fun hc=>?_,fun hc=>?_⟩⟩
  ·have hc:=of_decide_eq_true hc;have hi:i<pr.len:=by omega
   refine ⟨⟨by omega,by omega⟩,⟨by omega,by omega⟩,by rw [D.sub_len pr (by omega)];omega,fun hq=>?_,fun hq=>?_⟩
   ·unfold dcE;rw [if_neg h0,if_pos hz,if_neg hb0,if_pos (any_yes (f:=pdI pr) hi hq)]
   ·refine ⟨i+1,⟨hi,fun j hj=>?_⟩,by omega,k_nx (by omega),(by (repeat' (with_reducible apply And.intro))<;>first |exact True.intro |rfl)⟩
    rcases Nat.lt_or_ge j i with h1 |h1
    ·exact hp.2 j h1
    ·obtain rfl:j=i:=by omega
     exact hq
  ·have hc:=of_decide_eq_false hc;unfold dcE;rw [if_neg h0,if_pos hz,if_neg hb0,if_neg (by rw [any_no fun j hj=>hp.2 j (by omega)];decide)]
 ·trivial
end Go.Proofs.YtplejbgafjpomaaGreatDoor.Sx.Z
