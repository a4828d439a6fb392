import Derived.Test.YtbhbjhejkamlnaaGreatZx34
import Derived.Test.YtbhbjhejkamlnaaGreatZx26
set_option linter.all false
namespace Go.Proofs.YtbhbjhejkamlnaaGreat.Sx
def iS (s:St) (t j:Nat):Nat:=match ad s.hp (bj s t) with |some (.own _ l)=>(match l[j]? with |some (.c (.osl _ id _ _))=>id |_=>0) |_=>0
end Go.Proofs.YtbhbjhejkamlnaaGreat.Sx
namespace Go.Proofs.YtbhbjhejkamlnaaGreat.Sx.Z
open Go.RowKit
def Li:AP:=.agg [.c (.rows 62),.c (.rows 66),.c (.rows 34)]
def nD (d:D):D:=.l d.rows
theorem CQ (d:D):((D.l []).app d).sub 0 (0+(0+d.len))=nD d:=by
 rw[Nat.zero_add,Nat.zero_add];show D.l (List.drop 0 (List.take d.rows.length ([]++d.rows)))=D.l d.rows;rw[List.nil_append,List.take_length];rfl
theorem CR (d:D):0+(0+d.len)<=((D.l []).app d).len:=by
 rw[D.app_len];show 0+(0+d.len)<=0+d.len;omega
theorem uT (n:Nat) (f:Nat->List D):List.drop 0 (List.take (0+n) ((List.range n).map f))=(List.range n).map f:=by
 rw[Nat.zero_add,List.drop_zero,List.take_of_length_le (by simp)]
def cc (ch:D) (i:Nat):List D:=[D.s (ch.el i 0).toS,D.i (ch.el i 1).toI,D.i (ch.el i 2).toI,D.s (ch.el i 3).toS,D.s (ch.el i 4).toS,nD (ch.el i 5)]
def mvR (mv:D) (i:Nat):List D:=[D.i (mv.el i 0).toI,D.s (mv.el i 1).toS,D.i (mv.el i 2).toI]
def cO (ru:D) (i:Nat):List D:=[D.s (ru.el i 0).toS,aO (ru.el i 1).len (mvR (ru.el i 1))]
def prR (pr:D) (i:Nat):List D:=[D.s (pr.el i 0).toS,nD (pr.el i 1),cpB (pr.el i 2)]
def cpC (ch:D):D:=aO ch.len (cc ch)
def cpU (ru:D):D:=aO ru.len (cO ru)
def cpP (pr:D):D:=aO pr.len (prR pr)
structure SyS (ch ru pr:D):Prop where
 c:ch.len<=3000000
 ct:∀ i,i<ch.len->(ch.el i 5).len<=3000000
 r:ru.len<=3000000
 rm:∀ i,i<ru.len->(ru.el i 1).len<=3000000
 p:pr.len<=3000000
 pv:∀ i,i<pr.len->(pr.el i 1).len<=3000000
 pb:∀ i,i<pr.len->bS (pr.el i 2)
noncomputable def CS:FSpec:=fun ds _=>match ds with
 | [.d ch,.d ru,.d pr]=>some {val:=.one (.agg [.c (.rows 101 (cpC ch)),.c (.rows 106 (cpU ru)),.c (.rows 72 (cpP pr))]),vc:=[SyS ch ru pr]}
 |_=>none
noncomputable def CT:Con:=con [Li] CS
theorem Lj:ConOK Tryz.prog 10 CT:=by
 refine bg tt_ok au Tryz.func10 rfl (fun _ _=>by kernel_rfl) (A:=fun ds=>⟨fun _=>Cons.of [(32,CP)],fun k=>match k,ds with | 3,[.d ch,.d ru,.d pr]=>some {ι:=Nat,pre:=fun _ i=>i<=ch.len,μ:=fun i=>ch.len+1-i,st:=fun s i=>aV s [(4,.one (.sc (.int .i64 (.sym ((i:Nat))))))] [1,2,3] [(bj s 3,.own 48 ([.c (.osl 101 (s.nx-1) (.lit 0) (.sym (i))),.c .nils,.c .nils])),(s.nx-1,.orow 101 (aO (i) (cc ch)))] [1,2]} | 8,[.d ch,.d ru,.d pr]=>some {ι:=Nat,pre:=fun _ i=>i<=ru.len,μ:=fun i=>ru.len+1-i,st:=fun s i=>aV s [(6,.one (.sc (.int .i64 (.sym ((i:Nat))))))] [1,2,3] [(bj s 3,.own 48 ([.c (.osl 101 (iS s 3 0) (.lit 0) (.sym (ch.len))),.c (.osl 106 (s.nx-1) (.lit 0) (.sym (i))),.c .nils])),(iS s 3 0,.orow 101 (aO (ch.len) (cc ch))),(s.nx-1,.orow 106 (aO (i) (cO ru)))] [1,2]} | 12,[.d ch,.d ru,.d pr]=>some {ι:=Nat,pre:=fun s q=>q<=(ru.el (aN s 6) 1).len/\True,μ:=fun q=>3000001-q,st:=fun s q=>aV s [(8,.one (.sc (.int .i64 (.sym ((q:Nat))))))] [1,2,3,6,7] [(bj s 7,.own 106 ([.c (.raw (.string ((ru.el (aN s 6) 0).toS))),.c (.osl 110 (s.nx-1) (.lit 0) (.sym (q)))])),(s.nx-1,.orow 110 (aO q (mvR (ru.el (aN s 6) 1)))),(iS s 3 0,.orow 101 (aO (ch.len) (cc ch))),(iS s 3 1,.orow 106 (aO (aN s 6) (cO ru)))] [1,2,3]} | 18,[.d ch,.d ru,.d pr]=>some {ι:=Nat,pre:=fun _ i=>i<=pr.len,μ:=fun i=>pr.len+1-i,st:=fun s i=>aV s [(10,.one (.sc (.int .i64 (.sym ((i:Nat))))))] [1,2,3] [(bj s 3,.own 48 ([.c (.osl 101 (iS s 3 0) (.lit 0) (.sym (ch.len))),.c (.osl 106 (iS s 3 1) (.lit 0) (.sym (ru.len))),.c (.osl 72 (s.nx-1) (.lit 0) (.sym (i)))])),(iS s 3 0,.orow 101 (aO (ch.len) (cc ch))),(iS s 3 1,.orow 106 (aO (ru.len) (cO ru))),(s.nx-1,.orow 72 (aO (i) (prR pr)))] [1,2]} |_,_=>none,fun _=>none⟩) (fun _ _=>(af Lh aq)) (by kernel_rfl) ?_
 intro ds fr;unfold CS;split
 ·rename_i ch ru pr
  refine kmp (q:=ac (fun (i:Nat)=>D.l [[D.s (ch.el (i:Int).toNat 0).toS,D.i (ch.el (i:Int).toNat 1).toI,D.i (ch.el (i:Int).toNat 2).toI,D.s (ch.el (i:Int).toNat 3).toS,D.s (ch.el (i:Int).toNat 4).toS,((D.l []).app (ch.el (i:Int).toNat 5)).sub 0 ((0:Nat)+((0:Nat)+(ch.el (i:Int).toNat 5).len))]]) fun Ea=>ac (fun (i:Nat) (i_1:Nat)=>D.l [[D.i ((ru.el (i:Int).toNat 1).el (i_1:Int).toNat 0).toI,D.s ((ru.el (i:Int).toNat 1).el (i_1:Int).toNat 1).toS,D.i ((ru.el (i:Int).toNat 1).el (i_1:Int).toNat 2).toI]]) fun Eb=>ac (fun (i:Nat)=>D.l [[D.s (pr.el (i:Int).toNat 0).toS,((D.l []).app (pr.el (i:Int).toNat 1)).sub 0 ((0:Nat)+((0:Nat)+(pr.el (i:Int).toNat 1).len)),cpB (pr.el (i:Int).toNat 2)]]) fun Ec=>ac (fun (i:Nat)=>ch.el (i:Int).toNat 5) fun Ed=>ac (fun (i:Nat)=>ru.el (i:Int).toNat 1) fun Ee=>ac (fun (i:Nat)=>pr.el (i:Int).toNat 1) fun Ef=>ac (fun (i:Nat) (i_1:Nat)=>D.l [[D.s (ru.el i 0).toS,(aO i_1 (mvR (ru.el i 1))).sub 0 ((0:Nat)+i_1)]]) fun Eg=>ac (fun (i:Nat)=>mvR (ru.el i 1)) fun Eh=>SyS ch ru pr->(∃ (i:Nat),i.le ch.len/\0=(i:Int)/\i=0/\List.map (cc ch) (List.range i)=[]/\ch.rows=ch.rows/\ru.rows=ru.rows/\pr.rows=pr.rows)/\∀ (i:Nat),i.le ch.len->(decide ((i:Int)<(ch.len:Int))=true->(0<=(i:Int)/\(i:Int)<(ch.len:Int))/\0=(D.l []).len/\((0:Nat)+(Ed i).len)*16<=140737488355328/\0+((0:Nat)+(Ed i).len)<=((D.l []).app (Ed i)).len/\i=(aO i (cc ch)).len/\(i+((Ea i).sub 0 1).len)*88<=140737488355328/\0+1<=(Ea i).len/\∃ (j:Nat),j.le ch.len/\ch.len+1-j<ch.len+1-i/\IntKind.i64.wrap ((i:Int)+1)=(j:Int)/\i+((Ea i).sub 0 1).len=j/\List.map (cc ch) (List.range i)++List.drop 0 (List.take 1 [[D.s (ch.el (i:Int).toNat 0).toS,D.i (ch.el (i:Int).toNat 1).toI,D.i (ch.el (i:Int).toNat 2).toI,D.s (ch.el (i:Int).toNat 3).toS,D.s (ch.el (i:Int).toNat 4).toS,((D.l []).app (Ed i)).sub 0 ((0:Nat)+((0:Nat)+(Ed i).len))]])=List.map (cc ch) (List.range j)/\ch.rows=ch.rows/\ru.rows=ru.rows/\pr.rows=pr.rows)/\(decide ((i:Int)<(ch.len:Int))=false->(∃ (i_1:Nat),i_1.le ru.len/\0=(i_1:Int)/\i=ch.len/\i_1=0/\List.map (cc ch) (List.range i)=List.map (cc ch) (List.range ch.len)/\List.map (cO ru) (List.range i_1)=[]/\ch.rows=ch.rows/\ru.rows=ru.rows/\pr.rows=pr.rows)/\∀ (i:Nat),i.le ru.len->(decide ((i:Int)<(ru.len:Int))=true->(0<=(i:Int)/\(i:Int)<(ru.len:Int))/\(∃ (i_1:Nat),(i_1<=(ru.el i 1).len/\True)/\0=(i_1:Int)/\(i:Int)=(i:Int)/\Value.string (ru.el (i:Int).toNat (0+0:Nat)).toS=Value.string (ru.el i 0).toS/\i_1=0/\List.map (Eh i) (List.range i_1)=[]/\List.map (cc ch) (List.range ch.len)=List.map (cc ch) (List.range ch.len)/\List.map (cO ru) (List.range i)=List.map (cO ru) (List.range i)/\ch.rows=ch.rows/\ru.rows=ru.rows/\pr.rows=pr.rows/\ch.len=ch.len/\i=i)/\∀ (i_1:Nat),i_1<=(ru.el i 1).len/\True->(0<=(i:Int)/\(i:Int)<(ru.len:Int))/\(decide ((i_1:Int)<((Ee i).len:Int))=true->(0<=(i:Int)/\(i:Int)<(ru.len:Int))/\(0<=(i_1:Int)/\(i_1:Int)<((Ee i).len:Int))/\i_1=(aO i_1 (Eh i)).len/\(i_1+((Eb i i_1).sub 0 1).len)*32<=140737488355328/\0+1<=(Eb i i_1).len/\∃ (j:Nat),(j<=(ru.el i 1).len/\True)/\3000001-j<3000001-i_1/\IntKind.i64.wrap ((i_1:Int)+1)=(j:Int)/\(i:Int)=(i:Int)/\Value.string (ru.el i 0).toS=Value.string (ru.el i 0).toS/\i_1+((Eb i i_1).sub 0 1).len=j/\List.map (Eh i) (List.range i_1)++List.drop 0 (List.take 1 [[D.i ((Ee i).el (i_1:Int).toNat 0).toI,D.s ((Ee i).el (i_1:Int).toNat 1).toS,D.i ((Ee i).el (i_1:Int).toNat 2).toI]])=List.map (Eh i) (List.range j)/\List.map (cc ch) (List.range ch.len)=List.map (cc ch) (List.range ch.len)/\List.map (cO ru) (List.range i)=List.map (cO ru) (List.range i)/\ch.rows=ch.rows/\ru.rows=ru.rows/\pr.rows=pr.rows/\ch.len=ch.len/\i=i)/\(decide ((i_1:Int)<((Ee i).len:Int))=false->0+i_1<=(aO i_1 (Eh i)).len/\i=(aO i (cO ru)).len/\(i+((Eg i i_1).sub 0 1).len)*40<=140737488355328/\0+1<=(Eg i i_1).len/\∃ (j:Nat),j.le ru.len/\ru.len+1-j<ru.len+1-i/\IntKind.i64.wrap ((i:Int)+1)=(j:Int)/\ch.len=ch.len/\i+((Eg i i_1).sub 0 1).len=j/\List.map (cc ch) (List.range ch.len)=List.map (cc ch) (List.range ch.len)/\List.map (cO ru) (List.range i)++List.drop 0 (List.take 1 [[D.s (ru.el i 0).toS,(aO i_1 (Eh i)).sub 0 ((0:Nat)+i_1)]])=List.map (cO ru) (List.range j)/\ch.rows=ch.rows/\ru.rows=ru.rows/\pr.rows=pr.rows))/\(decide ((i:Int)<(ru.len:Int))=false->(∃ (i_1:Nat),i_1.le pr.len/\0=(i_1:Int)/\ch.len=ch.len/\i=ru.len/\i_1=0/\List.map (cc ch) (List.range ch.len)=List.map (cc ch) (List.range ch.len)/\List.map (cO ru) (List.range i)=List.map (cO ru) (List.range ru.len)/\List.map (prR pr) (List.range i_1)=[]/\ch.rows=ch.rows/\ru.rows=ru.rows/\pr.rows=pr.rows)/\∀ (i:Nat),i.le pr.len->(decide ((i:Int)<(pr.len:Int))=true->(0<=(i:Int)/\(i:Int)<(pr.len:Int))/\0=(D.l []).len/\((0:Nat)+(Ef i).len)*16<=140737488355328/\bS (pr.el (i:Int).toNat 2)/\0+((0:Nat)+(Ef i).len)<=((D.l []).app (Ef i)).len/\i=(aO i (prR pr)).len/\(i+((Ec i).sub 0 1).len)*64<=140737488355328/\0+1<=(Ec i).len/\∃ (j:Nat),j.le pr.len/\pr.len+1-j<pr.len+1-i/\IntKind.i64.wrap ((i:Int)+1)=(j:Int)/\ch.len=ch.len/\ru.len=ru.len/\i+((Ec i).sub 0 1).len=j/\List.map (cc ch) (List.range ch.len)=List.map (cc ch) (List.range ch.len)/\List.map (cO ru) (List.range ru.len)=List.map (cO ru) (List.range ru.len)/\List.map (prR pr) (List.range i)++List.drop 0 (List.take 1 [[D.s (pr.el (i:Int).toNat 0).toS,((D.l []).app (Ef i)).sub 0 ((0:Nat)+((0:Nat)+(Ef i).len)),cpB (pr.el (i:Int).toNat 2)]])=List.map (prR pr) (List.range j)/\ch.rows=ch.rows/\ru.rows=ru.rows/\pr.rows=pr.rows)/\(decide ((i:Int)<(pr.len:Int))=false->0+ch.len<=(aO ch.len (cc ch)).len/\0+ru.len<=(aO ru.len (cO ru)).len/\0+i<=(aO i (prR pr)).len/\List.drop 0 (List.take ((0:Nat)+ch.len) (List.map (cc ch) (List.range ch.len)))=List.map (cc ch) (List.range ch.len)/\List.drop 0 (List.take ((0:Nat)+ru.len) (List.map (cO ru) (List.range ru.len)))=List.map (cO ru) (List.range ru.len)/\List.drop 0 (List.take ((0:Nat)+i) (List.map (prR pr) (List.range i)))=List.map (prR pr) (List.range pr.len))))) (by kernel_rfl) ?_
  dsimp +instances only [ac]
  intro hs;refine ⟨⟨0,Nat.zero_le _,by (repeat' apply And.intro)<;>rfl⟩,fun i hi=>⟨fun hc=>?_,fun hc=>?_⟩⟩
  ·have hc:=of_decide_eq_true hc;have hi2:i<ch.len:=by omega
   have b1:=hs.c;have b2:=hs.ct i hi2;have hw2:IntKind.i64.wrap ((i:Int)+1)=((i+1:Nat):Int):=by rw[IntWalk.i64_in _ (by omega)];omega
   rw[CQ];refine ⟨⟨by omega,by omega⟩,rfl,(show (0+(ch.el i 5).len)*16<=140737488355328 by omega),CR _,(ca _ _).symm,(show (i+1)*88<=140737488355328 by omega),Nat.le_refl _,i+1,hi2,by omega,hw2,?_⟩
   (repeat' apply And.intro)<;>first |exact (jP i (cc ch)).symm |rfl
  ·have hc:=of_decide_eq_false hc;have hi3:i=ch.len:=by have:i<=ch.len:=hi;omega
   subst hi3;refine ⟨⟨0,Nat.zero_le _,by (repeat' apply And.intro)<;>rfl⟩,fun i hi=>⟨fun hc=>?_,fun hc=>?_⟩⟩
   ·have hc:=of_decide_eq_true hc;have hi2:i<ru.len:=by omega
    have b1:=hs.r;have b2:=hs.rm i hi2;have hw2:IntKind.i64.wrap ((i:Int)+1)=((i+1:Nat):Int):=by rw[IntWalk.i64_in _ (by omega)];omega
    refine ⟨⟨by omega,by omega⟩,⟨0,⟨Nat.zero_le _,trivial⟩,by (repeat' apply And.intro)<;>rfl⟩,fun q hq=>⟨⟨by omega,by omega⟩,fun hd=>?_,fun hd=>?_⟩⟩
    ·have hd:=of_decide_eq_true hd;have hq2:q<(ru.el i 1).len:=by have:(q:Int)<((ru.el i 1).len:Int):=hd;omega
     have hwq:IntKind.i64.wrap ((q:Int)+1)=((q+1:Nat):Int):=by rw[IntWalk.i64_in _ (by omega)];omega
     refine ⟨⟨by omega,by omega⟩,⟨by omega,hd⟩,(ca _ _).symm,(show (q+1)*32<=140737488355328 by omega),Nat.le_refl _,q+1,⟨hq2,trivial⟩,by omega,hwq,?_⟩
     (repeat' apply And.intro)<;>first |exact (jP q (mvR (ru.el i 1))).symm |rfl
    ·have hd:=of_decide_eq_false hd;have hq3:q=(ru.el i 1).len:=by have:¬ (q:Int)<((ru.el i 1).len:Int):=hd;have:=hq.1;omega
     subst hq3;rw[CO];refine ⟨by rw[ca];omega,(ca _ _).symm,(show (i+1)*40<=140737488355328 by omega),Nat.le_refl _,i+1,hi2,by omega,hw2,?_⟩
     (repeat' apply And.intro)<;>first |exact (jP i (cO ru)).symm |rfl
   ·have hc:=of_decide_eq_false hc;have hi3:i=ru.len:=by have:i<=ru.len:=hi;omega
    subst hi3;refine ⟨⟨0,Nat.zero_le _,by (repeat' apply And.intro)<;>rfl⟩,fun i hi=>⟨fun hc=>?_,fun hc=>?_⟩⟩
    ·have hc:=of_decide_eq_true hc;have hi2:i<pr.len:=by omega
     have b1:=hs.p;have b2:=hs.pv i hi2;have hw2:IntKind.i64.wrap ((i:Int)+1)=((i+1:Nat):Int):=by rw[IntWalk.i64_in _ (by omega)];omega
     rw[CQ];refine ⟨⟨by omega,by omega⟩,rfl,(show (0+(pr.el i 1).len)*16<=140737488355328 by omega),hs.pb i hi2,CR _,(ca _ _).symm,(show (i+1)*64<=140737488355328 by omega),Nat.le_refl _,i+1,hi2,by omega,hw2,?_⟩
     (repeat' apply And.intro)<;>first |exact (jP i (prR pr)).symm |rfl
    ·have hc:=of_decide_eq_false hc;have hi3:i=pr.len:=by have:i<=pr.len:=hi;omega
     subst hi3;exact ⟨by rw[ca];omega,by rw[ca];omega,by rw[ca];omega,uT _ _,uT _ _,uT _ _⟩
 ·trivial
theorem jU {rows:List (List D)} {f:Nat->List D} (h:∀ (i:Nat) (hi:i<rows.length),f i=rows[i]):aO rows.length f = .l rows:=by
 unfold aO
 congr 1
 apply List.ext_getElem
 ·simp
 ·intro i h1 h2;rw[List.getElem_map,List.getElem_range];exact h i h2
theorem eq {rows:List (List D)} {i:Nat} (hi:i<rows.length) (j:Nat):(D.l rows).el i j=(rows[i]).getD j (.i 0):=by
 show (rows.getD i []).getD j (.i 0)=_;rw[List.getD_eq_getElem?_getD (l:=rows),List.getElem?_eq_getElem hi,Option.getD_some]
def gX (d:D):Prop:=cpE d=d/\kS d
def gB (d:D):Prop:=cpB d=d/\bS d
theorem nM {d e:D} (h:e=d) (he:∃ r,e = .l r):D.l d.rows=d:=by
 obtain ⟨r,rfl⟩:=he;rw[<- h];rfl
theorem ff {d:D} (h:gX d):D.l d.rows=d:=nM h.1 ⟨_,by rw[nH];rfl⟩
theorem gk {d:D} (h:gB d):D.l d.rows=d:=nM h.1 ⟨_,by rw[nL];rfl⟩
theorem uU {rows:List (List D)} (hl:rows.length<=3000000) (h:∀ row∈rows,∃ x:Xp,row=x.row/\gX x.d):gX (.l rows):=by
 constructor
 ·rw[nH];refine jU (rows:=rows) fun i hi=>?_
  obtain ⟨x,hx,g⟩:=h _ (List.getElem_mem hi);have e:=fun j=>eq hi j
  unfold rX;rw[e 0,e 1,e 2,e 3,hx];show [D.i x.k,D.i x.n,D.s x.s,cpE (.l x.d.rows)]=x.row;rw[ff g,g.1];show _=[D.i x.k,D.i x.n,D.s x.s,.l x.d.rows];rw[ff g]
 ·rw[jQ];refine ⟨hl,fun i hi=>?_⟩;have hi:i<rows.length:=hi;obtain ⟨x,hx,g⟩:=h _ (List.getElem_mem hi);rw[eq hi 3,hx];show kS (.l x.d.rows);rw[ff g];exact g.2
theorem dS:gX (.l []):=uU (Nat.zero_le _) fun _ h=>absurd h List.not_mem_nil
theorem Lk {x:Xp} (h:gX x.d):gX (.l [x.row]):=uU (show 1<=3000000 by decide) fun row hr=>by
 obtain rfl:=List.mem_singleton.1 hr;exact ⟨x,rfl,h⟩
theorem Ll {x y:Xp} (h:gX x.d) (h2:gX y.d):gX (.l [x.row,y.row]):=uU (show 2<=3000000 by decide) fun row hr=>by
 rcases List.mem_cons.1 hr with rfl |hr
 ·exact ⟨x,rfl,h⟩
 ·obtain rfl:=List.mem_singleton.1 hr;exact ⟨y,rfl,h2⟩
theorem CU {P:Rd->Xp × Rd} {K:ByteArray->Int} {ws:D} (hP:∀ r,gX (P r).1.d):∀ (n:Nat) (x:Xp) (r:Rd),gX x.d->gX (chL P K ws n x r).1.d
 | 0,x,r,h=>h
 |n+1,x,r,h=>by
  unfold chL;split
  ·exact h
  ·exact CU hP n _ _ (Ll h (hP _))
theorem CV {P:Rd->Xp × Rd} {K:ByteArray->Int} {ws:D} (hP:∀ r,gX (P r).1.d) (r:Rd):gX (chA P K ws r).1.d:=CU hP _ _ _ (hP r)
theorem CW {P:PF} {en:Int} {ws:D} (hP:∀ dp r,gX (P en ws dp r).1.d) (dp:Int) (r:Rd):gX (smF P en ws dp r).1.d:=CV (fun r=>CV (hP dp) r) r
theorem uV {en:Int} {ws:D}:∀ (m:Nat) (dp:Int) (r:Rd),gX (fcR m en ws dp r).1.d
 | 0,_,_=>dS
 |m+1,dp,r=>by
  show gX (fcB (fcR m) en ws dp r).1.d;unfold fcB;split
  ·exact dS
  ·split
   ·exact Lk (uV m _ _)
   ·split
    ·exact CW (uV m) _ _
    ·exact dS
theorem qy (en:Int) (ws:D) (dp:Int) (r:Rd):gX (smX en ws dp r).1.d:=by
 unfold smX;exact CW (uV 1000001) dp r
theorem CX {go:Rd->Bool} {F:Rd->List D × Rd}:∀ (n:Nat) (d:D) (r:Rd),(cj go F n d r).1.len<=d.len+n
 | 0,d,r=>Nat.le_refl _
 |n+1,d,r=>by
  unfold cj;split
  ·have:=CX (go:=go) (F:=F) n (.l (d.rows++[(F r).1])) (F r).2;rw[bf] at this;omega
  ·exact Nat.le_add_right _ _
theorem CY {go:Rd->Bool} {F:Rd->List D × Rd} {p:List D->Prop} (hF:∀ r,p (F r).1):∀ (n:Nat) (d:D) (r:Rd),(∃ rows,d = .l rows/\∀ row∈rows,p row)->∃ rows,(cj go F n d r).1 = .l rows/\∀ row∈rows,p row
 | 0,d,r,h=>h
 |n+1,d,r,h=>by
  unfold cj;split
  ·obtain ⟨rows,rfl,hr⟩:=h;refine CY hF n _ _ ⟨rows++[(F r).1],rfl,fun row hm=>?_⟩
   rcases List.mem_append.1 hm with hm |hm
   ·exact hr row hm
   ·obtain rfl:=List.mem_singleton.1 hm;exact hF r
  ·exact h
theorem iT {go:Rd->Bool} {F:Rd->List D × Rd} {p:List D->Prop} {ws d:D} (hw:ws.len<=2000) (hd:d.len<=1) (hF:∀ r,p (F r).1) (r:Rd) (h:∃ rows,d = .l rows/\∀ row∈rows,p row):∃ rows,(aj go F ws d r).1 = .l rows/\rows.length<=3000000/\∀ row∈rows,p row:=by
 obtain ⟨rows,e,hr⟩:=CY (go:=go) hF (left ws r) d r h;refine ⟨rows,e,?_,hr⟩;have:=CX (go:=go) (F:=F) (left ws r) d r;rw[e] at this;have l:left ws r<=ws.len:=Nat.sub_le _ _;have:rows.length<=d.len+left ws r:=this;omega
theorem lM {p:List D->Prop}:∃ rows,D.l [] = .l rows/\∀ row∈rows,p row:=⟨[],rfl,fun _ h=>absurd h List.not_mem_nil⟩
theorem CZ {p:List D->Prop} {row:List D} (h:p row):∃ rows,D.l [row] = .l rows/\∀ row∈rows,p row:=⟨[row],rfl,fun q hq=>by obtain rfl:=List.mem_singleton.1 hq;exact h⟩
def gA (d:D):Prop:=∃ rows,d = .l rows/\rows.length<=3000000/\∀ row∈rows,∃ a:Am,row=a.row/\gB a.b
theorem lN:gA (.l []):=⟨[],rfl,Nat.zero_le _,fun _ h=>absurd h List.not_mem_nil⟩
theorem uW {d:D} (h:gA d):D.l d.rows=d:=by
 obtain ⟨rows,rfl,_⟩:=h;rfl
theorem Lm {d:D} (h:gA d):aO d.len (arR d)=d:=by
 obtain ⟨rows,rfl,_,hr⟩:=h;refine jU (rows:=rows) fun i hi=>?_
 obtain ⟨a,hx,g⟩:=hr _ (List.getElem_mem hi);have e:=fun j=>eq hi j
 unfold arR;rw[e 0,e 1,e 2,hx];show [D.s a.tg,D.s a.vr,cpB (.l a.b.rows)]=[D.s a.tg,D.s a.vr,.l a.b.rows];rw[gk g,g.1]
theorem Ln {d:D} (h:gA d):d.len<=3000000/\∀ j,j<d.len->bS (d.el j 2):=by
 obtain ⟨rows,rfl,hl,hr⟩:=h;refine ⟨hl,fun i hi=>?_⟩;have hi:i<rows.length:=hi;obtain ⟨a,hx,g⟩:=hr _ (List.getElem_mem hi);rw[eq hi 2,hx];show bS (.l a.b.rows);rw[gk g];exact g.2
structure gS (s:St):Prop where
 e:gX s.e.d
 l:gX s.c.l.d
 r:gX s.c.r.d
 b:gB s.b
 el:gB s.el
 ar:gA s.ar
theorem C0 {rows:List (List D)} (hl:rows.length<=3000000) (h:∀ row∈rows,∃ s:St,row=s.row/\gS s):gB (.l rows):=by
 constructor
 ·rw[nL];refine jU (rows:=rows) fun i hi=>?_
  obtain ⟨s,hx,g⟩:=h _ (List.getElem_mem hi);have e:=fun j=>(eq hi j).trans (congrArg (fun q:List D=>q.getD j (.i 0)) hx)
  have e6:(D.l rows).el i 6=s.e.d:=(e 6).trans (ff g.e);have e11:(D.l rows).el i 11=s.c.l.d:=(e 11).trans (ff g.l);have e15:(D.l rows).el i 15=s.c.r.d:=(e 15).trans (ff g.r);have e16:(D.l rows).el i 16=s.b:=(e 16).trans (gk g.b);have e17:(D.l rows).el i 17=s.el:=(e 17).trans (gk g.el);have e18:(D.l rows).el i 18=s.ar:=(e 18).trans (uW g.ar);unfold rSt;rw[e6,e11,e15,e16,e17,e18,Lm g.ar,g.e.1,g.l.1,g.r.1,g.b.1,g.el.1,e 0,e 1,e 2,e 3,e 4,e 5,e 7,e 8,e 9,e 10,e 12,e 13,e 14,hx];show [D.i s.k,D.s s.nm,D.s s.tg,D.i s.e.k,D.i s.e.n,D.s s.e.s,s.e.d,D.i s.c.op,D.i s.c.l.k,D.i s.c.l.n,D.s s.c.l.s,s.c.l.d,D.i s.c.r.k,D.i s.c.r.n,D.s s.c.r.s,s.c.r.d,s.b,s.el,s.ar]=[D.i s.k,D.s s.nm,D.s s.tg,D.i s.e.k,D.i s.e.n,D.s s.e.s,D.l s.e.d.rows,D.i s.c.op,D.i s.c.l.k,D.i s.c.l.n,D.s s.c.l.s,D.l s.c.l.d.rows,D.i s.c.r.k,D.i s.c.r.n,D.s s.c.r.s,D.l s.c.r.d.rows,D.l s.b.rows,D.l s.el.rows,D.l s.ar.rows];rw[ff g.e,ff g.l,ff g.r,gk g.b,gk g.el,uW g.ar]
 ·rw[lK];refine ⟨hl,fun i hi=>?_⟩;have hi:i<rows.length:=hi;obtain ⟨s,hx,g⟩:=h _ (List.getElem_mem hi);have e:=fun j=>(eq hi j).trans (congrArg (fun q:List D=>q.getD j (.i 0)) hx)
  have e6:(D.l rows).el i 6=s.e.d:=(e 6).trans (ff g.e);have e11:(D.l rows).el i 11=s.c.l.d:=(e 11).trans (ff g.l);have e15:(D.l rows).el i 15=s.c.r.d:=(e 15).trans (ff g.r);have e16:(D.l rows).el i 16=s.b:=(e 16).trans (gk g.b);have e17:(D.l rows).el i 17=s.el:=(e 17).trans (gk g.el);have e18:(D.l rows).el i 18=s.ar:=(e 18).trans (uW g.ar);rw[e6,e11,e15,e16,e17,e18];exact ⟨g.e.2,g.l.2,g.r.2,g.b.2,g.el.2,Ln g.ar⟩
theorem eH:gB (.l []):=C0 (Nat.zero_le _) fun _ h=>absurd h List.not_mem_nil
theorem nN {P:PB} {en:Int} {ws:D} (hP:∀ dp r,gB (P en ws dp r).1) (dp:Int) (r:Rd):gB (blF P en ws dp r).1:=hP _ _
theorem lO (ws:D) (en:Int) (r:Rd):gX (cdC ws en r).l.d/\gX (cdC ws en r).r.d:=⟨qy _ _ _ _,qy _ _ _ _⟩
theorem Lo {P:PB} {en:Int} {ws:D} (hw:ws.len<=2000) (hP:∀ dp r,gB (P en ws dp r).1) (dp:Int) (r:Rd):gS (stF P en ws dp r).1:=by
 unfold stF;split
 ·refine ⟨dS,(lO _ _ _).1,(lO _ _ _).2,nN hP _ _,?_,lN⟩;show gB (cfB P en ws dp r).1;unfold cfB;split
  ·exact nN hP _ _
  ·exact eH
 ·split
  ·exact ⟨dS,(lO _ _ _).1,(lO _ _ _).2,nN hP _ _,eH,lN⟩
  ·split
   ·exact ⟨qy _ _ _ _,dS,dS,eH,eH,lN⟩
   ·split
    ·exact ⟨dS,dS,dS,eH,eH,iT hw (show D.len (.l [(amS P en ws dp (rvX en ws r)).row])<=1 from Nat.le_refl 1) (p:=fun row=>∃ a:Am,row=a.row/\gB a.b) (fun r=>⟨_,rfl,nN hP _ _⟩) _ (CZ ⟨_,rfl,nN hP _ _⟩)⟩
    ·split
     ·exact ⟨dS,(lO _ _ _).1,(lO _ _ _).2,eH,eH,lN⟩
     ·split
      ·exact ⟨dS,dS,dS,eH,eH,lN⟩
      ·exact ⟨qy _ _ _ _,dS,dS,eH,eH,lN⟩
theorem C1 {en:Int} {ws:D} (hw:ws.len<=2000):∀ (m:Nat) (dp:Int) (r:Rd),gB (stR m en ws dp r).1
 | 0,_,_=>eH
 |m+1,dp,r=>by
  obtain ⟨rows,e,hl,hr⟩:=iT (go:=stG ws) (F:=stH (stR m) en ws dp) (d:=.l []) (p:=fun row=>∃ s:St,row=s.row/\gS s) hw (Nat.zero_le _) (fun r=>⟨_,rfl,Lo hw (C1 hw m) dp r⟩) r lM;show gB (aj (stG ws) (stH (stR m) en ws dp) ws (.l []) r).1;rw[e];exact C0 hl hr
theorem Lp {ws:D} (hw:ws.len<=2000) (en:Int) (dp:Int) (r:Rd):gB (stX en ws dp r).1:=by
 unfold stX;exact C1 hw 1000001 dp r
structure gY (c u p:D):Prop where
 kc:cpC c=c
 ku:cpU u=u
 kp:cpP p=p
 s:SyS c u p
theorem C2 {d:D} (h:∃ rows,d = .l rows/\rows.length<=3000000/\∀ row∈rows,∃ n:ByteArray,row=[.s n]):D.l d.rows=d/\d.len<=3000000:=by
 obtain ⟨rows,rfl,hl,_⟩:=h;exact ⟨rfl,hl⟩
theorem C3 {d:D} (h:∃ rows,d = .l rows/\rows.length<=3000000/\∀ row∈rows,∃ (a:Int) (n:ByteArray) (b:Int),row=[.i a,.s n,.i b]):aO d.len (mvR d)=d/\D.l d.rows=d/\d.len<=3000000:=by
 obtain ⟨rows,rfl,hl,hr⟩:=h;refine ⟨jU (rows:=rows) fun i hi=>?_,rfl,hl⟩;obtain ⟨a,n,b,hx⟩:=hr _ (List.getElem_mem hi);have e:=fun j=>eq hi j
 unfold mvR;rw[e 0,e 1,e 2,hx];rfl
theorem Lq {ws:D} (hw:ws.len<=2000) (en:Int) (r:Rd):gY (syC ws en r).1 (syU ws en r).1 (syP ws en r).1:=by
 obtain ⟨R0,e0,l0,h0⟩:=iT (go:=acG kwC ws) (F:=csF ws en) (d:=.l []) (p:=fun row=>∃ c:Ch,row=c.row/\∃ rows,c.tg = .l rows/\rows.length<=3000000/\∀ row∈rows,∃ n:ByteArray,row=[.s n]) hw (Nat.zero_le _) (fun r=>⟨_,rfl,iT hw (show D.len (.l [[.s (nmS ws (gJ ws en (acR ws kwC r)))]])<=1 from Nat.le_refl 1) (fun r=>⟨_,rfl⟩) _ (CZ ⟨_,rfl⟩)⟩) r lM;obtain ⟨R1,e1,l1,h1⟩:=iT (go:=acG kwU ws) (F:=usF ws en) (d:=.l []) (p:=fun row=>∃ c:Ru,row=c.row/\∃ rows,c.mv = .l rows/\rows.length<=3000000/\∀ row∈rows,∃ (a:Int) (n:ByteArray) (b:Int),row=[.i a,.s n,.i b]) hw (Nat.zero_le _) (fun r=>⟨_,rfl,iT hw (Nat.zero_le _) (fun r=>⟨_,_,_,rfl⟩) _ lM⟩) (syC ws en r).2 lM;obtain ⟨R2,e2,l2,h2⟩:=iT (go:=acG kwP ws) (F:=psF ws en) (d:=.l []) (p:=fun row=>∃ c:Po,row=c.row/\(∃ rows,c.vs = .l rows/\rows.length<=3000000/\∀ row∈rows,∃ n:ByteArray,row=[.s n])/\gB c.b) hw (Nat.zero_le _) (fun r=>⟨_,rfl,iT hw (Nat.zero_le _) (fun r=>⟨_,rfl⟩) _ lM,Lp hw _ _ _⟩) (syU ws en r).2 lM;have e0:(syC ws en r).1 = .l R0:=e0;have e1:(syU ws en r).1 = .l R1:=e1;have e2:(syP ws en r).1 = .l R2:=e2;rw[e0,e1,e2];refine ⟨jU (rows:=R0) fun i hi=>?_,jU (rows:=R1) fun i hi=>?_,jU (rows:=R2) fun i hi=>?_,l0,fun i hi=>?_,l1,fun i hi=>?_,l2,fun i hi=>?_,fun i hi=>?_⟩
 ·obtain ⟨c,hx,g⟩:=h0 _ (List.getElem_mem hi);have e:=fun j=>eq hi j
  unfold cc;rw[e 0,e 1,e 2,e 3,e 4,e 5,hx];rfl
 ·obtain ⟨c,hx,g⟩:=h1 _ (List.getElem_mem hi);have e:=fun j=>eq hi j
  have q:=C3 g;unfold cO;rw[e 0,e 1,hx];show [D.s c.ch,aO (D.l c.mv.rows).len (mvR (D.l c.mv.rows))]=[D.s c.ch,D.l c.mv.rows];rw[q.2.1,q.1]
 ·obtain ⟨c,hx,g⟩:=h2 _ (List.getElem_mem hi);have e:=fun j=>eq hi j
  unfold prR;rw[e 0,e 1,e 2,hx];show [D.s c.nm,nD (D.l c.vs.rows),cpB (D.l c.b.rows)]=[D.s c.nm,D.l c.vs.rows,D.l c.b.rows];rw[gk g.2,g.2.1];rfl
 ·have hi:i<R0.length:=hi;obtain ⟨c,hx,g⟩:=h0 _ (List.getElem_mem hi);rw[eq hi 5,hx];exact (C2 g).2
 ·have hi:i<R1.length:=hi;obtain ⟨c,hx,g⟩:=h1 _ (List.getElem_mem hi);rw[eq hi 1,hx];exact (C3 g).2.2
 ·have hi:i<R2.length:=hi;obtain ⟨c,hx,g⟩:=h2 _ (List.getElem_mem hi);rw[eq hi 1,hx];exact (C2 g.1).2
 ·have hi:i<R2.length:=hi;obtain ⟨c,hx,g⟩:=h2 _ (List.getElem_mem hi);rw[eq hi 2,hx];show bS (D.l c.b.rows);rw[gk g.2];exact g.2.2
theorem Lr:gY (.l []) (.l []) (.l []):=⟨rfl,rfl,rfl,Nat.zero_le _,fun i hi=>absurd hi (Nat.not_lt_zero i),Nat.zero_le _,fun i hi=>absurd hi (Nat.not_lt_zero i),Nat.zero_le _,fun i hi=>absurd hi (Nat.not_lt_zero i),fun i hi=>absurd hi (Nat.not_lt_zero i)⟩
theorem Ls (s:ByteArray):(paW s).len<=2000:=by
 have e:(paW s).len=(ai s).1.length:=cV _;rw[e];exact sT s
theorem Lt (s:ByteArray):gY (paC s) (paU s) (paP s):=by
 have g:=Lq (Ls s) ((s.size:Nat):Int) (mR 0 0 0)
 cases h:paO s with
 |true=>
  simp only[paC,paU,paP,h,if_true];exact g
 |false=>
  simp only[paC,paU,paP,h,Bool.false_eq_true,if_false];exact Lr
def qX:AP:=.agg [.c (.int .i64),.c (.int .i64),.c .str,.c (.rows 75)]
def qC:AP:=.agg [.c (.int .i64),.c (.int .i64),.c (.int .i64),.c .str,.c (.rows 75),.c (.int .i64),.c (.int .i64),.c .str,.c (.rows 75)]
inductive XR:Int->Int->ByteArray->D->Int->Int->ByteArray->D->Prop
 |mk {k n:Int} {s:ByteArray} {d:D} {k2 n2:Int} {s2:ByteArray} {d2:D} (h0:k=k2) (h1:k=1->n=n2) (h2:k=2->s=s2) (h3:k=3 ∨ biB k=true->d.len=d2.len) (h4:k=3 ∨ biB k=true->∀ i,i<d.len->XR (d.el i 0).toI (d.el i 1).toI (d.el i 2).toS (d.el i 3) (d2.el i 0).toI (d2.el i 1).toI (d2.el i 2).toS (d2.el i 3)):XR k n s d k2 n2 s2 d2
def kR (a b:D) (i:Nat):Prop:=XR (a.el i 0).toI (a.el i 1).toI (a.el i 2).toS (a.el i 3) (b.el i 0).toI (b.el i 1).toI (b.el i 2).toS (b.el i 3)
def kRs (a b:D):Prop:=a.len=b.len/\∀ i,i<a.len->kR a b i
noncomputable def C4:FSpec:=fun ds _=>match ds with
 | [.i k]=>some {val:=.one (.sc (.bool (.sym (decide (k>=4)&&decide (k<=8))))),vc:=[]}
 |_=>none
noncomputable def C5:Con:=con [.sc (.int .i64)] C4
theorem Lu:ConOK Tryz.prog 104 C5:=by
 refine bg tt_ok au Tryz.func104 rfl (fun _ _=>by kernel_rfl) (A:=fun ds=>⟨fun _=>Cons.of [],fun _=>none,fun _=>none⟩) (fun _ _=>aq) (by kernel_rfl) ?_
 intro ds fr;unfold C4;split
 ·rename_i k;refine kmp (q:=(decide (k>=(4:Int))&&decide (k<=(8:Int)))=(decide (k>=(4:Int))&&decide (k<=(8:Int)))) (by kernel_rfl) ?_
  (repeat' with_reducible constructor)<;>first |assumption |decide |rfl
 ·trivial
noncomputable def uX:FSpec:=fun ds _=>match ds with
 | [.i k,.i n,.s s,.d d,.i k2,.i n2,.s s2,.d d2]=>some {val:=.one (.sc (.bool (.lit true))),vc:=[XR k n s d k2 n2 s2 d2,kS d]}
 |_=>none
noncomputable def uY:Con:=con [qX,qX] uX
noncomputable def uZ:List Dat->Nat:=fun ds=>match ds with
 | [.i k,.i n,.s s,.d d,.i k2,.i n2,.s s2,.d d2]=>SizeOf.sizeOf d
 |_=>0
noncomputable def jV (m:Nat):FSpec:=fun ds _=>match ds with
 | [.i k,.i n,.s s,.d d,.i k2,.i n2,.s s2,.d d2]=>some {val:=.one (.sc (.bool (.lit true))),vc:=[SizeOf.sizeOf d<m,XR k n s d k2 n2 s2 d2,kS d]}
 |_=>none
theorem Lv (m:Nat):uX.under uZ m=jV m:=by
 funext ds fr
 unfold FSpec.under uX uZ jV;split
 ·rename_i e h
  split at h
  ·obtain rfl:=Option.some.inj h;rfl
  ·cases h
 ·rename_i h
  split at h
  ·cases h
  ·rfl
noncomputable def C6 (m:Nat):FSpec:=fun ds _=>match ds with
 | [.d a,.d b,.v kf]=>(match ga 96 kf with |true=>some {val:=.one (.sc (.bool (.lit true))),vc:=[kRs a b,kS a,SizeOf.sizeOf a<m+1]} |false=>none)
 |_=>none
noncomputable def C7 (m:Nat):Con:=con [.sc (.rows 75),.sc (.rows 75),.sc .any] (C6 m)
theorem Lw {m:Nat} (hP:ConOK Tryz.prog 96 (con [qX,qX] (jV m))):ConOK Tryz.prog 105 (C7 m):=by
 refine bg tt_ok au Tryz.func105 rfl (fun _ _=>by kernel_rfl) (A:=fun ds=>⟨fun _=>Cons.of [(96,(con [qX,qX] (jV m)))],fun k=>match k,ds with | 4,[.d a,.d b,.v _]=>some {ι:=Nat,pre:=fun _ i=>i<=a.len/\True,μ:=fun i=>a.len+1-i,st:=fun s i=>aV s [(17,.one (.sc (.int .i64 (.sym ((i:Nat)))))),(16,.one (.sc (.int .i64 (.sym ((a.len:Nat))))))] [0,1,2,15] [] []} |_,_=>none,fun _=>none⟩) (fun _ _=>(af hP aq)) (by kernel_rfl) ?_
 intro ds fr;unfold C6;split
 ·rename_i a b kf;split
  ·rename_i hg;obtain rfl:=ip hg;refine kmp (q:=kRs a b->kS a->SizeOf.sizeOf a<m+1->(((a.len:Int) != (b.len:Int))=true->false=true)/\(((a.len:Int) != (b.len:Int))=false->(∃ (i:Nat),(i<=a.len/\True)/\0=(i:Int)/\(a.len:Int)=(a.len:Int)/\a.rows=a.rows/\b.rows=b.rows/\Value.func (Fn.func (96:Nat)) #[] #[]=Value.func (Fn.func (96:Nat)) #[] #[]/\a.rows=a.rows)/\∀ (i:Nat),i<=a.len/\True->(decide ((i:Int)<(a.len:Int))=true->(0<=(i:Int)/\(i:Int)<(a.len:Int))/\(0<=(i:Int)/\(i:Int)<(b.len:Int))/\SizeOf.sizeOf (a.el (i:Int).toNat 3)<m/\XR (a.el (i:Int).toNat 0).toI (a.el (i:Int).toNat 1).toI (a.el (i:Int).toNat 2).toS (a.el (i:Int).toNat 3) (b.el (i:Int).toNat 0).toI (b.el (i:Int).toNat 1).toI (b.el (i:Int).toNat 2).toS (b.el (i:Int).toNat 3)/\kS (a.el (i:Int).toNat 3)/\∃ (j:Nat),(j<=a.len/\True)/\a.len+1-j<a.len+1-i/\IntKind.i64.wrap ((i:Int)+1)=(j:Int)/\(a.len:Int)=(a.len:Int)/\a.rows=a.rows/\b.rows=b.rows/\Value.func (Fn.func (96:Nat)) #[] #[]=Value.func (Fn.func (96:Nat)) #[] #[]/\a.rows=a.rows)/\(decide ((i:Int)<(a.len:Int))=false->true=true))) (by kernel_rfl) ?_
   intro he hk hm;obtain ⟨hl,hR⟩:=he;have hz1:a.len<=3000000:=((jQ a).1 hk).1;refine ⟨fun hc=>by rw[hl] at hc;simp at hc,fun _=>⟨⟨0,⟨Nat.zero_le _,trivial⟩,(by (repeat' (with_reducible apply And.intro))<;>first |with_reducible rfl |exact True.intro |assumption |(symm;assumption) |rfl)⟩,fun i hi=>⟨fun hc=>?_,fun _=>rfl⟩⟩⟩;have hc:=of_decide_eq_true hc;have hi2:i<a.len:=by omega
   have en:(i:Int).toNat=i:=Int.toNat_natCast i;have hw:IntKind.i64.wrap ((i:Int)+1)=((i+1:Nat):Int):=by rw[IntWalk.i64_in _ (by omega)];omega
   simp only[en];have z:=ap (j:=3) hi2;exact ⟨⟨by omega,hc⟩,⟨by omega,by omega⟩,Nat.lt_of_lt_of_le z (Nat.le_of_lt_succ hm),hR i hi2,((jQ a).1 hk).2 i hi2,i+1,⟨hi2,trivial⟩,by omega,hw,(by (repeat' (with_reducible apply And.intro))<;>first |with_reducible rfl |exact True.intro |assumption |(symm;assumption) |rfl)⟩
  ·trivial
 ·trivial
theorem Lx (m:Nat) (ih:ConOK Tryz.prog 96 (con [qX,qX] (jV m))):ConOK Tryz.prog 96 (con [qX,qX] (jV (m+1))):=by
 refine bg tt_ok au Tryz.func96 rfl (fun _ _=>by kernel_rfl) (A:=fun ds=>⟨fun _=>Cons.of [(105,(C7 m)),(104,C5)],fun _=>none,fun _=>none⟩) (fun _ _=>(af (Lw ih) (af Lu aq))) (by kernel_rfl) ?_
 intro ds fr;unfold jV;split
 ·rename_i k n s d k2 n2 s2 d2;refine kmp (q:=SizeOf.sizeOf d<m+1->XR k n s d k2 n2 s2 d2->kS d->((k != k2)=true->false=true)/\((k != k2)=false->((k==(1:Int))=true->(n==n2)=true)/\((k==(1:Int))=false->((k==(2:Int))=true->(s.toList==s2.toList)=true)/\((k==(2:Int))=false->((k==(3:Int))=true->((k==(3:Int))=true->kRs d d2/\kS d/\SizeOf.sizeOf d<m+1/\true=true)/\((k==(3:Int))=false->true=true))/\((k==(3:Int))=false->((decide (k>=(4:Int))&&decide (k<=(8:Int)))=true->kRs d d2/\kS d/\SizeOf.sizeOf d<m+1/\true=true)/\((decide (k>=(4:Int))&&decide (k<=(8:Int)))=false->true=true)))))) (by kernel_rfl) ?_
  intro hm hX hk
  cases hX with
  |mk e1 e2 e3 e4 e5=>
  subst e1;exact ⟨fun h=>by simp at h,fun _=>⟨fun h=>by rw[e2 (eq_of_beq h)];simp,fun _=>⟨fun h=>by rw[e3 (eq_of_beq h)];simp,fun _=>⟨fun h=>⟨fun _=>⟨⟨e4 (.inl (eq_of_beq h)),e5 (.inl (eq_of_beq h))⟩,hk,hm,rfl⟩,fun _=>rfl⟩,fun _=>⟨fun h=>⟨⟨e4 (.inr h),e5 (.inr h)⟩,hk,hm,rfl⟩,fun _=>rfl⟩⟩⟩⟩⟩
 ·trivial
theorem C8:ConOK Tryz.prog 96 uY:=
 fY uZ (fun _ _=>by kernel_rfl) fun m ih=>by
  rw[Lv] at ih ⊢;exact Lx m ih
noncomputable def C9:FSpec:=fun ds _=>match ds with
 | [.i o,.i k,.i n,.s s,.d d,.i l,.i p,.s t,.d g,.i o2,.i k2,.i n2,.s s2,.d d2,.i l2,.i p2,.s t2,.d g2]=>some {val:=.one (.sc (.bool (.lit true))),vc:=[(o=o2/\XR k n s d k2 n2 s2 d2/\XR l p t g l2 p2 t2 g2),kS d,kS g]}
 |_=>none
noncomputable def Da:Con:=con [qC,qC] C9
theorem Ly:ConOK Tryz.prog 97 Da:=by
 refine bg tt_ok au Tryz.func97 rfl (fun _ _=>by kernel_rfl) (A:=fun ds=>⟨fun _=>Cons.of [(96,uY)],fun _=>none,fun _=>none⟩) (fun _ _=>(af C8 aq)) (by kernel_rfl) ?_
 intro ds fr;unfold C9;split
 ·rename_i o k n s d l p t g o2 k2 n2 s2 d2 l2 p2 t2 g2;refine kmp (q:=o=o2/\XR k n s d k2 n2 s2 d2/\XR l p t g l2 p2 t2 g2->kS d->kS g->((o==o2)=true/\True->XR k n s d k2 n2 s2 d2)/\((o==o2)=true/\True->kS d)/\((o==o2 ||false)=true/\True->XR l p t g l2 p2 t2 g2)/\((o==o2 ||false)=true/\True->kS g)/\(o==o2 ||false ||false)=true) (by kernel_rfl) ?_
  rintro ⟨rfl,h1,h2⟩ hk hk2;exact ⟨fun _=>h1,fun _=>hk,fun _=>h2,fun _=>hk2,by simp⟩
 ·trivial
def qS:AP:=.agg [.c (.int .i64),.c .str,.c .str,.c (.int .i64),.c (.int .i64),.c .str,.c (.rows 75),.c (.int .i64),.c (.int .i64),.c (.int .i64),.c .str,.c (.rows 75),.c (.int .i64),.c (.int .i64),.c .str,.c (.rows 75),.c (.rows 80),.c (.rows 80),.c (.rows 141)]
def qA:AP:=.agg [.c .str,.c .str,.c (.rows 80)]
def qB:AP:=.sc (.rows 80)
inductive BR:D->D->Prop
 |mk {d d2:D} (hl:d.len=d2.len) (hk:∀ i,i<d.len->(d.el i 0).toI=(d2.el i 0).toI) (hn:∀ i,i<d.len->(d.el i 0).toI=1 ∨ (d.el i 0).toI=4 ∨ (d.el i 0).toI=5 ∨ (d.el i 0).toI=7->(d.el i 1).toS=(d2.el i 1).toS) (ht:∀ i,i<d.len->(d.el i 0).toI=4->(d.el i 2).toS=(d2.el i 2).toS)
  (he:∀ i,i<d.len->(d.el i 0).toI=1 ∨ (d.el i 0).toI=4->XR (d.el i 3).toI (d.el i 4).toI (d.el i 5).toS (d.el i 6) (d2.el i 3).toI (d2.el i 4).toI (d2.el i 5).toS (d2.el i 6))
  (hc:∀ i,i<d.len->(d.el i 0).toI=2 ∨ (d.el i 0).toI=3 ∨ (d.el i 0).toI=6->(d.el i 7).toI=(d2.el i 7).toI/\XR (d.el i 8).toI (d.el i 9).toI (d.el i 10).toS (d.el i 11) (d2.el i 8).toI (d2.el i 9).toI (d2.el i 10).toS (d2.el i 11)/\XR (d.el i 12).toI (d.el i 13).toI (d.el i 14).toS (d.el i 15) (d2.el i 12).toI (d2.el i 13).toI (d2.el i 14).toS (d2.el i 15))
  (hb:∀ i,i<d.len->(d.el i 0).toI=2 ∨ (d.el i 0).toI=3->BR (d.el i 16) (d2.el i 16)) (hs:∀ i,i<d.len->(d.el i 0).toI=2->BR (d.el i 17) (d2.el i 17))
  (ha:∀ i,i<d.len->(d.el i 0).toI=5->(d.el i 18).len=(d2.el i 18).len) (hr:∀ i,i<d.len->(d.el i 0).toI=5->∀ j,j<(d.el i 18).len->((d.el i 18).el j 0).toS=((d2.el i 18).el j 0).toS/\((d.el i 18).el j 1).toS=((d2.el i 18).el j 1).toS)
  (hq:∀ i,i<d.len->(d.el i 0).toI=5->∀ j,j<(d.el i 18).len->BR ((d.el i 18).el j 2) ((d2.el i 18).el j 2)):BR d d2
def Db (a b:D) (j:Nat):Prop:=(a.el j 0).toS=(b.el j 0).toS/\(a.el j 1).toS=(b.el j 1).toS/\BR (a.el j 2) (b.el j 2)
def qz (a b:D):Prop:=a.len=b.len/\∀ j,j<a.len->Db a b j
structure stAl (k:Int) (nm:ByteArray) (tg:ByteArray) (ek:Int) (en:Int) (es:ByteArray) (ed:D) (op:Int) (lk:Int) (ln:Int) (ls:ByteArray) (ld:D) (rk:Int) (rn:Int) (rs:ByteArray) (rd:D) (b:D) (el:D) (ar:D) (k2:Int) (nm2:ByteArray) (tg2:ByteArray) (ek2:Int) (en2:Int) (es2:ByteArray) (ed2:D) (op2:Int) (lk2:Int) (ln2:Int) (ls2:ByteArray) (ld2:D) (rk2:Int) (rn2:Int) (rs2:ByteArray) (rd2:D) (b2:D) (el2:D) (ar2:D):Prop where
 a0:k=k2
 a1:k=1 ∨ k=4 ∨ k=5 ∨ k=7->nm=nm2
 a2:k=4->tg=tg2
 a3:k=1 ∨ k=4->XR ek en es ed ek2 en2 es2 ed2
 a4:k=2 ∨ k=3 ∨ k=6->op=op2/\XR lk ln ls ld lk2 ln2 ls2 ld2/\XR rk rn rs rd rk2 rn2 rs2 rd2
 a5:k=2 ∨ k=3->BR b b2
 a6:k=2->BR el el2
 a7:k=5->qz ar ar2
def Dc (d d2:D) (i:Nat):Prop:=stAl (d.el i 0).toI (d.el i 1).toS (d.el i 2).toS (d.el i 3).toI (d.el i 4).toI (d.el i 5).toS (d.el i 6) (d.el i 7).toI (d.el i 8).toI (d.el i 9).toI (d.el i 10).toS (d.el i 11) (d.el i 12).toI (d.el i 13).toI (d.el i 14).toS (d.el i 15) (d.el i 16) (d.el i 17) (d.el i 18) (d2.el i 0).toI (d2.el i 1).toS (d2.el i 2).toS (d2.el i 3).toI (d2.el i 4).toI (d2.el i 5).toS (d2.el i 6) (d2.el i 7).toI (d2.el i 8).toI (d2.el i 9).toI (d2.el i 10).toS (d2.el i 11) (d2.el i 12).toI (d2.el i 13).toI (d2.el i 14).toS (d2.el i 15) (d2.el i 16) (d2.el i 17) (d2.el i 18)
def Lz (d d2:D):Prop:=d.len=d2.len/\∀ i,i<d.len->Dc d d2 i
theorem Dd {d d2:D}:BR d d2↔Lz d d2:=by
 constructor
 ·intro h
  cases h with
  |mk hl hk hn ht he hc hb hs ha hr hq=>exact ⟨hl,fun i hi=>⟨hk i hi,hn i hi,ht i hi,he i hi,hc i hi,hb i hi,hs i hi,fun h5=>⟨ha i hi h5,fun j hj=>⟨(hr i hi h5 j hj).1,(hr i hi h5 j hj).2,hq i hi h5 j hj⟩⟩⟩⟩
 ·rintro ⟨hl,h⟩;exact .mk hl (fun i hi=>(h i hi).a0) (fun i hi=>(h i hi).a1) (fun i hi=>(h i hi).a2) (fun i hi=>(h i hi).a3) (fun i hi=>(h i hi).a4) (fun i hi=>(h i hi).a5) (fun i hi=>(h i hi).a6) (fun i hi h5=>((h i hi).a7 h5).1) (fun i hi h5 j hj=>⟨(((h i hi).a7 h5).2 j hj).1,(((h i hi).a7 h5).2 j hj).2.1⟩) (fun i hi h5 j hj=>(((h i hi).a7 h5).2 j hj).2.2)
noncomputable def u5:FSpec:=fun ds _=>match ds with
 | [.d d,.d d2]=>some {val:=.one (.sc (.bool (.lit true))),vc:=[BR d d2,bS d]}
 |_=>none
noncomputable def De:Con:=con [qB,qB] u5
noncomputable def u6:List Dat->Nat:=fun ds=>match ds with
 | [.d d,.d d2]=>SizeOf.sizeOf d
 |_=>0
noncomputable def fN (m:Nat):FSpec:=fun ds _=>match ds with
 | [.d d,.d d2]=>some {val:=.one (.sc (.bool (.lit true))),vc:=[SizeOf.sizeOf d<m,BR d d2,bS d]}
 |_=>none
theorem LA (m:Nat):u5.under u6 m=fN m:=by
 funext ds fr
 unfold FSpec.under u5 u6 fN;split
 ·rename_i e h
  split at h
  ·obtain rfl:=Option.some.inj h;rfl
  ·cases h
 ·rename_i h
  split at h
  ·cases h
  ·rfl
noncomputable def Df (m:Nat):FSpec:=fun ds _=>match ds with
 | [.s t,.s v,.d d,.s t2,.s v2,.d d2]=>some {val:=.one (.sc (.bool (.lit true))),vc:=[(t=t2/\v=v2/\BR d d2),bS d,SizeOf.sizeOf d<m]}
 |_=>none
noncomputable def Dg (m:Nat):Con:=con [qA,qA] (Df m)
theorem LB {m:Nat} (hP:ConOK Tryz.prog 59 (con [qB,qB] (fN m))):ConOK Tryz.prog 99 (Dg m):=by
 refine bg tt_ok au Tryz.func99 rfl (fun _ _=>by kernel_rfl) (A:=fun ds=>⟨fun _=>Cons.of [(59,(con [qB,qB] (fN m)))],fun _=>none,fun _=>none⟩) (fun _ _=>(af hP aq)) (by kernel_rfl) ?_
 intro ds fr;unfold Df;split
 ·rename_i t v d t2 v2 d2;refine kmp (q:=t=t2/\v=v2/\BR d d2->bS d->SizeOf.sizeOf d<m->((t.toList==t2.toList&&v.toList==v2.toList)=true/\True->SizeOf.sizeOf d<m)/\((t.toList==t2.toList&&v.toList==v2.toList)=true/\True->BR d d2)/\((t.toList==t2.toList&&v.toList==v2.toList)=true/\True->bS d)/\(t.toList==t2.toList&&v.toList==v2.toList ||false)=true) (by kernel_rfl) ?_
  rintro ⟨rfl,rfl,hd⟩ hb hm;exact ⟨fun _=>hm,fun _=>hd,fun _=>hb,by simp⟩
 ·trivial
noncomputable def Dh (m:Nat):FSpec:=fun ds _=>match ds with
 | [.d a,.d b,.v kf]=>(match ga 99 kf with |true=>some {val:=.one (.sc (.bool (.lit true))),vc:=[qz a b,(a.len<=3000000/\∀ j,j<a.len->bS (a.el j 2)),SizeOf.sizeOf a<m+1]} |false=>none)
 |_=>none
noncomputable def Di (m:Nat):Con:=con [.sc (.rows 141),.sc (.rows 141),.sc .any] (Dh m)
theorem LC {m:Nat} (hP:ConOK Tryz.prog 59 (con [qB,qB] (fN m))):ConOK Tryz.prog 98 (Di m):=by
 refine bg tt_ok au Tryz.func98 rfl (fun _ _=>by kernel_rfl) (A:=fun ds=>⟨fun _=>Cons.of [(99,(Dg m))],fun k=>match k,ds with | 4,[.d a,.d b,.v _]=>some {ι:=Nat,pre:=fun _ i=>i<=a.len/\True,μ:=fun i=>a.len+1-i,st:=fun s i=>aV s [(17,.one (.sc (.int .i64 (.sym ((i:Nat)))))),(16,.one (.sc (.int .i64 (.sym ((a.len:Nat))))))] [0,1,2,15] [] []} |_,_=>none,fun _=>none⟩) (fun _ _=>(af (LB hP) aq)) (by kernel_rfl) ?_
 intro ds fr;unfold Dh;split
 ·rename_i a b kf;split
  ·rename_i hg;obtain rfl:=ip hg;refine kmp (q:=qz a b->(a.len<=3000000/\∀ (j:Nat),j<a.len->bS (a.el j 2))->SizeOf.sizeOf a<m+1->(((a.len:Int) != (b.len:Int))=true->false=true)/\(((a.len:Int) != (b.len:Int))=false->(∃ (i:Nat),(i<=a.len/\True)/\0=(i:Int)/\(a.len:Int)=(a.len:Int)/\a.rows=a.rows/\b.rows=b.rows/\Value.func (Fn.func (99:Nat)) #[] #[]=Value.func (Fn.func (99:Nat)) #[] #[]/\a.rows=a.rows)/\∀ (i:Nat),i<=a.len/\True->(decide ((i:Int)<(a.len:Int))=true->(0<=(i:Int)/\(i:Int)<(a.len:Int))/\(0<=(i:Int)/\(i:Int)<(b.len:Int))/\((a.el (i:Int).toNat 0).toS=(b.el (i:Int).toNat 0).toS/\(a.el (i:Int).toNat 1).toS=(b.el (i:Int).toNat 1).toS/\BR (a.el (i:Int).toNat 2) (b.el (i:Int).toNat 2))/\bS (a.el (i:Int).toNat 2)/\SizeOf.sizeOf (a.el (i:Int).toNat 2)<m/\∃ (j:Nat),(j<=a.len/\True)/\a.len+1-j<a.len+1-i/\IntKind.i64.wrap ((i:Int)+1)=(j:Int)/\(a.len:Int)=(a.len:Int)/\a.rows=a.rows/\b.rows=b.rows/\Value.func (Fn.func (99:Nat)) #[] #[]=Value.func (Fn.func (99:Nat)) #[] #[]/\a.rows=a.rows)/\(decide ((i:Int)<(a.len:Int))=false->true=true))) (by kernel_rfl) ?_
   intro he hk hm;obtain ⟨hl,hR⟩:=he;have hz1:a.len<=3000000:=hk.1;refine ⟨fun hc=>by rw[hl] at hc;simp at hc,fun _=>⟨⟨0,⟨Nat.zero_le _,trivial⟩,(by (repeat' (with_reducible apply And.intro))<;>first |with_reducible rfl |exact True.intro |assumption |(symm;assumption) |rfl)⟩,fun i hi=>⟨fun hc=>?_,fun _=>rfl⟩⟩⟩;have hc:=of_decide_eq_true hc;have hi2:i<a.len:=by omega
   have en:(i:Int).toNat=i:=Int.toNat_natCast i;have hw:IntKind.i64.wrap ((i:Int)+1)=((i+1:Nat):Int):=by rw[IntWalk.i64_in _ (by omega)];omega
   simp only[en];have z:=ap (j:=2) hi2;exact ⟨⟨by omega,hc⟩,⟨by omega,by omega⟩,hR i hi2,hk.2 i hi2,Nat.lt_of_lt_of_le z (Nat.le_of_lt_succ hm),i+1,⟨hi2,trivial⟩,by omega,hw,(by (repeat' (with_reducible apply And.intro))<;>first |with_reducible rfl |exact True.intro |assumption |(symm;assumption) |rfl)⟩
  ·trivial
 ·trivial
noncomputable def Dj (m:Nat):FSpec:=fun ds _=>match ds with
 | .i k :: .s nm :: .s tg :: .i ek :: .i en :: .s es :: .d ed :: .i op :: .i lk :: .i ln :: .s ls :: .d ld :: .i rk :: .i rn :: .s rs :: .d rd :: .d b :: .d el :: .d ar :: .i k2 :: .s nm2 :: .s tg2 :: .i ek2 :: .i en2 :: .s es2 :: .d ed2 :: .i op2 :: .i lk2 :: .i ln2 :: .s ls2::[.d ld2,.i rk2,.i rn2,.s rs2,.d rd2,.d b2,.d el2,.d ar2]=>some {val:=.one (.sc (.bool (.lit true))),vc:=[stAl k nm tg ek en es ed op lk ln ls ld rk rn rs rd b el ar k2 nm2 tg2 ek2 en2 es2 ed2 op2 lk2 ln2 ls2 ld2 rk2 rn2 rs2 rd2 b2 el2 ar2,kS ed/\kS ld/\kS rd/\bS b/\bS el/\ar.len<=3000000/\(∀ j,j<ar.len->bS (ar.el j 2)),SizeOf.sizeOf b<m/\SizeOf.sizeOf el<m/\SizeOf.sizeOf ar<m+1]}
 |_=>none
noncomputable def Dk (m:Nat):Con:=con [qS,qS] (Dj m)
theorem LD {m:Nat} (hP:ConOK Tryz.prog 59 (con [qB,qB] (fN m))):ConOK Tryz.prog 86 (Dk m):=by
 refine bg tt_ok au Tryz.func86 rfl (fun _ _=>by kernel_rfl) (A:=fun ds=>⟨fun _=>Cons.of [(59,(con [qB,qB] (fN m))),(96,uY),(97,Da),(98,(Di m))],fun _=>none,fun _=>none⟩) (fun _ _=>(af hP (af C8 (af Ly (af (LC hP) aq))))) (by kernel_rfl) ?_
 intro ds fr;unfold Dj;split
 ·rename_i k nm tg ek en es ed op lk ln ls ld rk rn rs rd b el ar k2 nm2 tg2 ek2 en2 es2 ed2 op2 lk2 ln2 ls2 ld2 rk2 rn2 rs2 rd2 b2 el2 ar2;refine kmp (q:=ac (nm.toList==nm2.toList) fun Ea=>ac (nm.toList==nm2.toList&&tg.toList==tg2.toList) fun Eb=>stAl k nm tg ek en es ed op lk ln ls ld rk rn rs rd b el ar k2 nm2 tg2 ek2 en2 es2 ed2 op2 lk2 ln2 ls2 ld2 rk2 rn2 rs2 rd2 b2 el2 ar2->(kS ed/\kS ld/\kS rd/\bS b/\bS el/\ar.len<=3000000/\∀ (j:Nat),j<ar.len->bS (ar.el j 2))->SizeOf.sizeOf b<m/\SizeOf.sizeOf el<m/\SizeOf.sizeOf ar<m+1->((k != k2)=true->false=true)/\((k != k2)=false->((k==(1:Int))=true->(Ea=true/\True->XR ek en es ed ek2 en2 es2 ed2)/\(Ea=true/\True->kS ed)/\(nm.toList==nm2.toList ||false)=true)/\((k==(1:Int))=false->((k==(2:Int))=true->(op=op2/\XR lk ln ls ld lk2 ln2 ls2 ld2/\XR rk rn rs rd rk2 rn2 rs2 rd2)/\kS ld/\kS rd/\SizeOf.sizeOf b<m/\BR b b2/\bS b/\SizeOf.sizeOf el<m/\BR el el2/\bS el/\true=true)/\((k==(2:Int))=false->((k==(3:Int))=true->(op=op2/\XR lk ln ls ld lk2 ln2 ls2 ld2/\XR rk rn rs rd rk2 rn2 rs2 rd2)/\kS ld/\kS rd/\SizeOf.sizeOf b<m/\BR b b2/\bS b/\true=true)/\((k==(3:Int))=false->((k==(4:Int))=true->(Eb=true/\True->XR ek en es ed ek2 en2 es2 ed2)/\(Eb=true/\True->kS ed)/\(nm.toList==nm2.toList&&tg.toList==tg2.toList ||false)=true)/\((k==(4:Int))=false->((k==(5:Int))=true->(Ea=true/\True->qz ar ar2)/\(Ea=true/\True->ar.len<=3000000/\∀ (j:Nat),j<ar.len->bS (ar.el j 2))/\(Ea=true/\True->SizeOf.sizeOf ar<m+1)/\(nm.toList==nm2.toList ||false)=true)/\((k==(5:Int))=false->((k==(6:Int))=true->(op=op2/\XR lk ln ls ld lk2 ln2 ls2 ld2/\XR rk rn rs rd rk2 rn2 rs2 rd2)/\kS ld/\kS rd/\true=true)/\((k==(6:Int))=false->((k==(7:Int))=true->Ea=true)/\((k==(7:Int))=false->true=true))))))))) (by kernel_rfl) ?_
  dsimp +instances only [ac]
  rintro ⟨e0,hn,ht,he,hc,hb,hs,ha⟩ ⟨k1,k2,k3,k4,k5,k6⟩ ⟨m1,m2,m3⟩;subst e0;exact ⟨fun h=>by simp at h,fun _=>⟨fun h=>⟨fun _=>he (.inl (eq_of_beq h)),fun _=>k1,by rw[hn (.inl (eq_of_beq h))];simp⟩,fun _=>⟨fun h=>⟨hc (.inl (eq_of_beq h)),k2,k3,m1,hb (.inl (eq_of_beq h)),k4,m2,hs (eq_of_beq h),k5,rfl⟩,fun _=>⟨fun h=>⟨hc (.inr (.inl (eq_of_beq h))),k2,k3,m1,hb (.inr (eq_of_beq h)),k4,rfl⟩,fun _=>⟨fun h=>⟨fun _=>he (.inr (eq_of_beq h)),fun _=>k1,by rw[hn (.inr (.inl (eq_of_beq h))),ht (eq_of_beq h)];simp⟩,fun _=>⟨fun h=>⟨fun _=>ha (eq_of_beq h),fun _=>k6,fun _=>m3,by rw[hn (.inr (.inr (.inl (eq_of_beq h))))];simp⟩,fun _=>⟨fun h=>⟨hc (.inr (.inr (eq_of_beq h))),k2,k3,rfl⟩,fun _=>⟨fun h=>by rw[hn (.inr (.inr (.inr (eq_of_beq h))))];simp,fun _=>rfl⟩⟩⟩⟩⟩⟩⟩⟩
 ·trivial
noncomputable def Dl (m:Nat):FSpec:=fun ds _=>match ds with
 | [.d a,.d b,.v kf]=>(match ga 86 kf with |true=>some {val:=.one (.sc (.bool (.lit true))),vc:=[BR a b,bS a,SizeOf.sizeOf a<m+1]} |false=>none)
 |_=>none
noncomputable def Dm (m:Nat):Con:=con [.sc (.rows 80),.sc (.rows 80),.sc .any] (Dl m)
theorem LE {m:Nat} (hP:ConOK Tryz.prog 59 (con [qB,qB] (fN m))):ConOK Tryz.prog 85 (Dm m):=by
 refine bg tt_ok au Tryz.func85 rfl (fun _ _=>by kernel_rfl) (A:=fun ds=>⟨fun _=>Cons.of [(86,(Dk m))],fun k=>match k,ds with | 4,[.d a,.d b,.v _]=>some {ι:=Nat,pre:=fun _ i=>i<=a.len/\True,μ:=fun i=>a.len+1-i,st:=fun s i=>aV s [(17,.one (.sc (.int .i64 (.sym ((i:Nat)))))),(16,.one (.sc (.int .i64 (.sym ((a.len:Nat))))))] [0,1,2,15] [] []} |_,_=>none,fun _=>none⟩) (fun _ _=>(af (LD hP) aq)) (by kernel_rfl) ?_
 intro ds fr;unfold Dl;split
 ·rename_i a b kf;split
  ·rename_i hg;obtain rfl:=ip hg;refine kmp (q:=ac (fun (i:Nat)=>a.el (i:Int).toNat 18) fun Ea=>ac (fun (i:Nat)=>a.el (i:Int).toNat 17) fun Eb=>ac (fun (i:Nat)=>a.el (i:Int).toNat 16) fun Ec=>ac (fun (i:Nat)=>a.el (i:Int).toNat 15) fun Ed=>ac (fun (i:Nat)=>a.el (i:Int).toNat 11) fun Ee=>ac (fun (i:Nat)=>a.el (i:Int).toNat 6) fun Ef=>BR a b->bS a->SizeOf.sizeOf a<m+1->(((a.len:Int) != (b.len:Int))=true->false=true)/\(((a.len:Int) != (b.len:Int))=false->(∃ (i:Nat),(i<=a.len/\True)/\0=(i:Int)/\(a.len:Int)=(a.len:Int)/\a.rows=a.rows/\b.rows=b.rows/\Value.func (Fn.func (86:Nat)) #[] #[]=Value.func (Fn.func (86:Nat)) #[] #[]/\a.rows=a.rows)/\∀ (i:Nat),i<=a.len/\True->(decide ((i:Int)<(a.len:Int))=true->(0<=(i:Int)/\(i:Int)<(a.len:Int))/\(0<=(i:Int)/\(i:Int)<(b.len:Int))/\stAl (a.el (i:Int).toNat 0).toI (a.el (i:Int).toNat 1).toS (a.el (i:Int).toNat 2).toS (a.el (i:Int).toNat 3).toI (a.el (i:Int).toNat 4).toI (a.el (i:Int).toNat 5).toS (Ef i) (a.el (i:Int).toNat 7).toI (a.el (i:Int).toNat 8).toI (a.el (i:Int).toNat 9).toI (a.el (i:Int).toNat 10).toS (Ee i) (a.el (i:Int).toNat 12).toI (a.el (i:Int).toNat 13).toI (a.el (i:Int).toNat 14).toS (Ed i) (Ec i) (Eb i) (Ea i) (b.el (i:Int).toNat 0).toI (b.el (i:Int).toNat 1).toS (b.el (i:Int).toNat 2).toS (b.el (i:Int).toNat 3).toI (b.el (i:Int).toNat 4).toI (b.el (i:Int).toNat 5).toS (b.el (i:Int).toNat 6) (b.el (i:Int).toNat 7).toI (b.el (i:Int).toNat 8).toI (b.el (i:Int).toNat 9).toI (b.el (i:Int).toNat 10).toS (b.el (i:Int).toNat 11) (b.el (i:Int).toNat 12).toI (b.el (i:Int).toNat 13).toI (b.el (i:Int).toNat 14).toS (b.el (i:Int).toNat 15) (b.el (i:Int).toNat 16) (b.el (i:Int).toNat 17) (b.el (i:Int).toNat 18)/\(kS (Ef i)/\kS (Ee i)/\kS (Ed i)/\bS (Ec i)/\bS (Eb i)/\(Ea i).len<=3000000/\∀ (j:Nat),j<(Ea i).len->bS ((Ea i).el j 2))/\(SizeOf.sizeOf (Ec i)<m/\SizeOf.sizeOf (Eb i)<m/\SizeOf.sizeOf (Ea i)<m+(1:Nat))/\∃ (j:Nat),(j<=a.len/\True)/\a.len+1-j<a.len+1-i/\IntKind.i64.wrap ((i:Int)+1)=(j:Int)/\(a.len:Int)=(a.len:Int)/\a.rows=a.rows/\b.rows=b.rows/\Value.func (Fn.func (86:Nat)) #[] #[]=Value.func (Fn.func (86:Nat)) #[] #[]/\a.rows=a.rows)/\(decide ((i:Int)<(a.len:Int))=false->true=true))) (by kernel_rfl) ?_
   dsimp +instances only [ac]
   intro he hk hm;obtain ⟨hl,hR⟩:=Dd.1 he;have hz1:a.len<=3000000:=((lK a).1 hk).1;refine ⟨fun hc=>by rw[hl] at hc;simp at hc,fun _=>⟨⟨0,⟨Nat.zero_le _,trivial⟩,(by (repeat' (with_reducible apply And.intro))<;>first |with_reducible rfl |exact True.intro |assumption |(symm;assumption) |rfl)⟩,fun i hi=>⟨fun hc=>?_,fun _=>rfl⟩⟩⟩;have hc:=of_decide_eq_true hc;have hi2:i<a.len:=by omega
   have en:(i:Int).toNat=i:=Int.toNat_natCast i;have hw:IntKind.i64.wrap ((i:Int)+1)=((i+1:Nat):Int):=by rw[IntWalk.i64_in _ (by omega)];omega
   simp only[en];obtain ⟨b1,b2,b3,b4,b5,b6⟩:=((lK a).1 hk).2 i hi2;have z1:=ap (j:=16) hi2;have z2:=ap (j:=17) hi2;have z3:=ap (j:=18) hi2;have hm2:=Nat.le_of_lt_succ hm;exact ⟨⟨by omega,hc⟩,⟨by omega,by omega⟩,hR i hi2,⟨b1,b2,b3,b4,b5,b6⟩,⟨Nat.lt_of_lt_of_le z1 hm2,Nat.lt_of_lt_of_le z2 hm2,Nat.lt_of_lt_of_le z3 (Nat.le_succ_of_le hm2)⟩,i+1,⟨hi2,trivial⟩,by omega,hw,(by (repeat' (with_reducible apply And.intro))<;>first |with_reducible rfl |exact True.intro |assumption |(symm;assumption) |rfl)⟩
  ·trivial
 ·trivial
theorem LG (m:Nat) (ih:ConOK Tryz.prog 59 (con [qB,qB] (fN m))):ConOK Tryz.prog 59 (con [qB,qB] (fN (m+1))):=by
 refine bg tt_ok au Tryz.func59 rfl (fun _ _=>by kernel_rfl) (A:=fun ds=>⟨fun _=>Cons.of [(85,(Dm m))],fun _=>none,fun _=>none⟩) (fun _ _=>(af (LE ih) aq)) (by kernel_rfl) ?_
 intro ds fr;unfold fN;split
 ·rename_i d d2;refine kmp (q:=SizeOf.sizeOf d<m+1->BR d d2->bS d->BR d d2/\bS d/\SizeOf.sizeOf d<m+1/\true=true) (by kernel_rfl) ?_
  intro hm he hb;exact ⟨he,hb,hm,rfl⟩
 ·trivial
theorem LH:ConOK Tryz.prog 59 De:=
 fY u6 (fun _ _=>by kernel_rfl) fun m ih=>by
  rw[LA] at ih ⊢;exact LG m ih
end Go.Proofs.YtbhbjhejkamlnaaGreat.Sx.Z
