import Derived.Test.YtbhbjhejkamlnaaGreatZx35
import Derived.Test.YtbhbjhejkamlnaaGreatZx34
import Derived.Test.YtbhbjhejkamlnaaGreatZx26
import Derived.Test.YtbhbjhejkamlnaaGreatZx33
set_option linter.all false
namespace Go.Proofs.YtbhbjhejkamlnaaGreat.Sx.Z
open Go.RowKit
def qCh:AP:=.agg [.c .str,.c (.int .i64),.c (.int .i64),.c .str,.c .str,.c (.rows 9)]
def qRu:AP:=.agg [.c .str,.c (.rows 110)]
def qPo:AP:=.agg [.c .str,.c (.rows 9),.c (.rows 80)]
def qSy:AP:=.agg [.c (.rows 101),.c (.rows 106),.c (.rows 72)]
def cY (a b:D):Prop:=a.len=b.len/\∀ i,i<a.len->(a.el i 0).toS=(b.el i 0).toS
def iU (a b:D):Prop:=a.len=b.len/\∀ i,i<a.len->(a.el i 0).toI=(b.el i 0).toI/\(a.el i 1).toS=(b.el i 1).toS/\(a.el i 2).toI=(b.el i 2).toI
def u7 (a b:D) (i:Nat):Prop:=(a.el i 0).toS=(b.el i 0).toS/\(a.el i 1).toI=(b.el i 1).toI/\(a.el i 2).toI=(b.el i 2).toI/\(a.el i 3).toS=(b.el i 3).toS/\(a.el i 4).toS=(b.el i 4).toS/\cY (a.el i 5) (b.el i 5)
def u9 (a b:D) (i:Nat):Prop:=(a.el i 0).toS=(b.el i 0).toS/\iU (a.el i 1) (b.el i 1)
def va (a b:D) (i:Nat):Prop:=(a.el i 0).toS=(b.el i 0).toS/\cY (a.el i 1) (b.el i 1)/\BR (a.el i 2) (b.el i 2)
def gl (a b:D):Prop:=a.len=b.len/\∀ i,i<a.len->u7 a b i
def gm (a b:D):Prop:=a.len=b.len/\∀ i,i<a.len->u9 a b i
def gn (a b:D):Prop:=a.len=b.len/\∀ i,i<a.len->va a b i
noncomputable def Do:FSpec:=fun ds _=>match ds with
 | [.d a,.d b]=>some {val:=.one (.sc (.bool (.lit true))),vc:=[cY a b,a.len<=3000000]}
 |_=>none
noncomputable def vd:Con:=con [.sc (.rows 9),.sc (.rows 9)] Do
theorem Dp:ConOK Tryz.prog 57 vd:=by
 refine bg tt_ok au Tryz.func57 rfl (fun _ _=>by kernel_rfl) (A:=fun ds=>⟨fun _=>Cons.of [],fun k=>match k,ds with | 4,[.d a,.d b]=>some {ι:=Nat,pre:=fun _ i=>i<=a.len/\True,μ:=fun i=>a.len+1-i,st:=fun s i=>aV s [(13,.one (.sc (.int .i64 (.sym ((i:Nat)))))),(12,.one (.sc (.int .i64 (.sym ((a.len:Nat))))))] [0,1,11] [] []} |_,_=>none,fun _=>none⟩) (fun _ _=>aq) (by kernel_rfl) ?_
 intro ds fr;unfold Do;split
 ·rename_i a b;refine kmp (q:=cY a b->a.len<=3000000->(((a.len:Int) != (b.len:Int))=true->false=true)/\(((a.len:Int) != (b.len:Int))=false->(∃ (i:Nat),(i<=a.len/\True)/\0=(i:Int)/\(a.len:Int)=(a.len:Int)/\a.rows=a.rows/\b.rows=b.rows/\a.rows=a.rows)/\∀ (i:Nat),i<=a.len/\True->(decide ((i:Int)<(a.len:Int))=true->(0<=(i:Int)/\(i:Int)<(a.len:Int))/\(0<=(i:Int)/\(i:Int)<(b.len:Int))/\((!(a.el (i:Int).toNat 0).toS.toList==(b.el (i:Int).toNat 0).toS.toList)=true->false=true)/\((!(a.el (i:Int).toNat 0).toS.toList==(b.el (i:Int).toNat 0).toS.toList)=false->∃ (j:Nat),(j<=a.len/\True)/\a.len+1-j<a.len+1-i/\IntKind.i64.wrap ((i:Int)+1)=(j:Int)/\(a.len:Int)=(a.len:Int)/\a.rows=a.rows/\b.rows=b.rows/\a.rows=a.rows))/\(decide ((i:Int)<(a.len:Int))=false->true=true))) (by kernel_rfl) ?_
  rintro ⟨hl,hR⟩ hz1;refine ⟨fun hc=>by rw[hl] at hc;simp at hc,fun _=>⟨⟨0,⟨Nat.zero_le _,trivial⟩,(by (repeat' (with_reducible apply And.intro))<;>first |with_reducible rfl |exact True.intro |assumption |(symm;assumption) |rfl)⟩,fun i hi=>⟨fun hc=>?_,fun _=>rfl⟩⟩⟩;have hc:=of_decide_eq_true hc;have hi2:i<a.len:=by omega
  have en:(i:Int).toNat=i:=Int.toNat_natCast i;have hw:IntKind.i64.wrap ((i:Int)+1)=((i+1:Nat):Int):=by rw[IntWalk.i64_in _ (by omega)];omega
  simp only[en];exact ⟨⟨by omega,hc⟩,⟨by omega,by omega⟩,fun hx=>by rw[hR i hi2] at hx;simp at hx,fun _=>⟨i+1,⟨hi2,trivial⟩,by omega,hw,(by (repeat' (with_reducible apply And.intro))<;>first |with_reducible rfl |exact True.intro |assumption |(symm;assumption) |rfl)⟩⟩
 ·trivial
noncomputable def Dq:FSpec:=fun ds _=>match ds with
 | [.d a,.d b]=>some {val:=.one (.sc (.bool (.lit true))),vc:=[iU a b,a.len<=3000000]}
 |_=>none
noncomputable def Dr:Con:=con [.sc (.rows 110),.sc (.rows 110)] Dq
theorem LI:ConOK Tryz.prog 58 Dr:=by
 refine bg tt_ok au Tryz.func58 rfl (fun _ _=>by kernel_rfl) (A:=fun ds=>⟨fun _=>Cons.of [],fun k=>match k,ds with | 4,[.d a,.d b]=>some {ι:=Nat,pre:=fun _ i=>i<=a.len/\True,μ:=fun i=>a.len+1-i,st:=fun s i=>aV s [(13,.one (.sc (.int .i64 (.sym ((i:Nat)))))),(12,.one (.sc (.int .i64 (.sym ((a.len:Nat))))))] [0,1,11] [] []} |_,_=>none,fun _=>none⟩) (fun _ _=>aq) (by kernel_rfl) ?_
 intro ds fr;unfold Dq;split
 ·rename_i a b;refine kmp (q:=ac (fun (i:Nat)=>(a.el (i:Int).toNat 0).toI==(b.el (i:Int).toNat 0).toI&&((a.el (i:Int).toNat 1).toS.toList==(b.el (i:Int).toNat 1).toS.toList&&((a.el (i:Int).toNat 2).toI==(b.el (i:Int).toNat 2).toI&&true))) fun Ea=>iU a b->a.len<=3000000->(((a.len:Int) != (b.len:Int))=true->false=true)/\(((a.len:Int) != (b.len:Int))=false->(∃ (i:Nat),(i<=a.len/\True)/\0=(i:Int)/\(a.len:Int)=(a.len:Int)/\a.rows=a.rows/\b.rows=b.rows/\a.rows=a.rows)/\∀ (i:Nat),i<=a.len/\True->(decide ((i:Int)<(a.len:Int))=true->(0<=(i:Int)/\(i:Int)<(a.len:Int))/\(0<=(i:Int)/\(i:Int)<(b.len:Int))/\((!(Ea i))=true->false=true)/\((!(Ea i))=false->∃ (j:Nat),(j<=a.len/\True)/\a.len+1-j<a.len+1-i/\IntKind.i64.wrap ((i:Int)+1)=(j:Int)/\(a.len:Int)=(a.len:Int)/\a.rows=a.rows/\b.rows=b.rows/\a.rows=a.rows))/\(decide ((i:Int)<(a.len:Int))=false->true=true))) (by kernel_rfl) ?_
  dsimp +instances only [ac]
  rintro ⟨hl,hR⟩ hz1;refine ⟨fun hc=>by rw[hl] at hc;simp at hc,fun _=>⟨⟨0,⟨Nat.zero_le _,trivial⟩,(by (repeat' (with_reducible apply And.intro))<;>first |with_reducible rfl |exact True.intro |assumption |(symm;assumption) |rfl)⟩,fun i hi=>⟨fun hc=>?_,fun _=>rfl⟩⟩⟩;have hc:=of_decide_eq_true hc;have hi2:i<a.len:=by omega
  have en:(i:Int).toNat=i:=Int.toNat_natCast i;have hw:IntKind.i64.wrap ((i:Int)+1)=((i+1:Nat):Int):=by rw[IntWalk.i64_in _ (by omega)];omega
  simp only[en];exact ⟨⟨by omega,hc⟩,⟨by omega,by omega⟩,fun hx=>by obtain ⟨r1,r2,r3⟩:=hR i hi2;rw[r1,r2,r3] at hx;simp at hx,fun _=>⟨i+1,⟨hi2,trivial⟩,by omega,hw,(by (repeat' (with_reducible apply And.intro))<;>first |with_reducible rfl |exact True.intro |assumption |(symm;assumption) |rfl)⟩⟩
 ·trivial
noncomputable def Dt:FSpec:=fun ds _=>match ds with
 | [.s n,.i k,.i z,.s f,.s t,.d d,.s n2,.i k2,.i z2,.s f2,.s t2,.d d2]=>some {val:=.one (.sc (.bool (.lit true))),vc:=[(n=n2/\k=k2/\z=z2/\f=f2/\t=t2/\cY d d2),d.len<=3000000]}
 |_=>none
noncomputable def Du:Con:=con [qCh,qCh] Dt
theorem LJ:ConOK Tryz.prog 27 Du:=by
 refine bg tt_ok au Tryz.func27 rfl (fun _ _=>by kernel_rfl) (A:=fun ds=>⟨fun _=>Cons.of [(57,vd)],fun _=>none,fun _=>none⟩) (fun _ _=>(af Dp aq)) (by kernel_rfl) ?_
 intro ds fr;unfold Dt;split
 ·rename_i n k z f t d n2 k2 z2 f2 t2 d2;refine kmp (q:=n=n2/\k=k2/\z=z2/\f=f2/\t=t2/\cY d d2->d.len<=3000000->((n.toList==n2.toList&&k==k2&&z==z2&&f.toList==f2.toList&&t.toList==t2.toList)=true/\True->cY d d2)/\((n.toList==n2.toList&&k==k2&&z==z2&&f.toList==f2.toList&&t.toList==t2.toList)=true/\True->d.len<=3000000)/\(n.toList==n2.toList&&k==k2&&z==z2&&f.toList==f2.toList&&t.toList==t2.toList ||false)=true) (by kernel_rfl) ?_
  rintro ⟨rfl,rfl,rfl,rfl,rfl,hd⟩ hl;exact ⟨fun _=>hd,fun _=>hl,by simp⟩
 ·trivial
noncomputable def Dv:FSpec:=fun ds _=>match ds with
 | [.s n,.d d,.s n2,.d d2]=>some {val:=.one (.sc (.bool (.lit true))),vc:=[(n=n2/\iU d d2),d.len<=3000000]}
 |_=>none
noncomputable def Dw:Con:=con [qRu,qRu] Dv
theorem LK:ConOK Tryz.prog 29 Dw:=by
 refine bg tt_ok au Tryz.func29 rfl (fun _ _=>by kernel_rfl) (A:=fun ds=>⟨fun _=>Cons.of [(58,Dr)],fun _=>none,fun _=>none⟩) (fun _ _=>(af LI aq)) (by kernel_rfl) ?_
 intro ds fr;unfold Dv;split
 ·rename_i n d n2 d2;refine kmp (q:=n=n2/\iU d d2->d.len<=3000000->((n.toList==n2.toList)=true/\True->iU d d2)/\((n.toList==n2.toList)=true/\True->d.len<=3000000)/\(n.toList==n2.toList ||false)=true) (by kernel_rfl) ?_
  rintro ⟨rfl,hd⟩ hl;exact ⟨fun _=>hd,fun _=>hl,by simp⟩
 ·trivial
noncomputable def Dx:FSpec:=fun ds _=>match ds with
 | [.s n,.d d,.d b,.s n2,.d d2,.d b2]=>some {val:=.one (.sc (.bool (.lit true))),vc:=[(n=n2/\cY d d2/\BR b b2),d.len<=3000000,bS b]}
 |_=>none
noncomputable def Dy:Con:=con [qPo,qPo] Dx
theorem LM:ConOK Tryz.prog 31 Dy:=by
 refine bg tt_ok au Tryz.func31 rfl (fun _ _=>by kernel_rfl) (A:=fun ds=>⟨fun _=>Cons.of [(57,vd),(59,De)],fun _=>none,fun _=>none⟩) (fun _ _=>(af Dp (af LH aq))) (by kernel_rfl) ?_
 intro ds fr;unfold Dx;split
 ·rename_i n d b n2 d2 b2;refine kmp (q:=n=n2/\cY d d2/\BR b b2->d.len<=3000000->bS b->((n.toList==n2.toList)=true/\True->cY d d2)/\((n.toList==n2.toList)=true/\True->d.len<=3000000)/\((n.toList==n2.toList ||false)=true/\True->BR b b2)/\((n.toList==n2.toList ||false)=true/\True->bS b)/\(n.toList==n2.toList ||false ||false)=true) (by kernel_rfl) ?_
  rintro ⟨rfl,hd,hb⟩ hl hs;exact ⟨fun _=>hd,fun _=>hl,fun _=>hb,fun _=>hs,by simp⟩
 ·trivial
noncomputable def Dz:FSpec:=fun ds _=>match ds with
 | [.d a,.d b,.v kf]=>(match ga 27 kf with |true=>some {val:=.one (.sc (.bool (.lit true))),vc:=[gl a b,a.len<=3000000,(∀ i,i<a.len->(a.el i 5).len<=3000000)]} |false=>none)
 |_=>none
noncomputable def DA:Con:=con [.sc (.rows 101),.sc (.rows 101),.sc .any] Dz
theorem LN:ConOK Tryz.prog 26 DA:=by
 refine bg tt_ok au Tryz.func26 rfl (fun _ _=>by kernel_rfl) (A:=fun ds=>⟨fun _=>Cons.of [(27,Du)],fun k=>match k,ds with | 4,[.d a,.d b,.v _]=>some {ι:=Nat,pre:=fun _ i=>i<=a.len/\True,μ:=fun i=>a.len+1-i,st:=fun s i=>aV s [(17,.one (.sc (.int .i64 (.sym ((i:Nat)))))),(16,.one (.sc (.int .i64 (.sym ((a.len:Nat))))))] [0,1,2,15] [] []} |_,_=>none,fun _=>none⟩) (fun _ _=>(af LJ aq)) (by kernel_rfl) ?_
 intro ds fr;unfold Dz;split
 ·rename_i a b kf;split
  ·rename_i hg;obtain rfl:=ip hg;refine kmp (q:=gl a b->a.len<=3000000->(∀ (i:Nat),i<a.len->(a.el i 5).len<=3000000)->(((a.len:Int) != (b.len:Int))=true->false=true)/\(((a.len:Int) != (b.len:Int))=false->(∃ (i:Nat),(i<=a.len/\True)/\0=(i:Int)/\(a.len:Int)=(a.len:Int)/\a.rows=a.rows/\b.rows=b.rows/\Value.func (Fn.func (27:Nat)) #[] #[]=Value.func (Fn.func (27:Nat)) #[] #[]/\a.rows=a.rows)/\∀ (i:Nat),i<=a.len/\True->(decide ((i:Int)<(a.len:Int))=true->(0<=(i:Int)/\(i:Int)<(a.len:Int))/\(0<=(i:Int)/\(i:Int)<(b.len:Int))/\((a.el (i:Int).toNat 0).toS=(b.el (i:Int).toNat 0).toS/\(a.el (i:Int).toNat 1).toI=(b.el (i:Int).toNat 1).toI/\(a.el (i:Int).toNat 2).toI=(b.el (i:Int).toNat 2).toI/\(a.el (i:Int).toNat 3).toS=(b.el (i:Int).toNat 3).toS/\(a.el (i:Int).toNat 4).toS=(b.el (i:Int).toNat 4).toS/\cY (a.el (i:Int).toNat 5) (b.el (i:Int).toNat 5))/\(a.el (i:Int).toNat 5).len<=3000000/\∃ (j:Nat),(j<=a.len/\True)/\a.len+1-j<a.len+1-i/\IntKind.i64.wrap ((i:Int)+1)=(j:Int)/\(a.len:Int)=(a.len:Int)/\a.rows=a.rows/\b.rows=b.rows/\Value.func (Fn.func (27:Nat)) #[] #[]=Value.func (Fn.func (27:Nat)) #[] #[]/\a.rows=a.rows)/\(decide ((i:Int)<(a.len:Int))=false->true=true))) (by kernel_rfl) ?_
   intro he hk hm;obtain ⟨hl,hR⟩:=he;have hz1:a.len<=3000000:=hk;refine ⟨fun hc=>by rw[hl] at hc;simp at hc,fun _=>⟨⟨0,⟨Nat.zero_le _,trivial⟩,(by (repeat' (with_reducible apply And.intro))<;>first |with_reducible rfl |exact True.intro |assumption |(symm;assumption) |rfl)⟩,fun i hi=>⟨fun hc=>?_,fun _=>rfl⟩⟩⟩;have hc:=of_decide_eq_true hc;have hi2:i<a.len:=by omega
   have en:(i:Int).toNat=i:=Int.toNat_natCast i;have hw:IntKind.i64.wrap ((i:Int)+1)=((i+1:Nat):Int):=by rw[IntWalk.i64_in _ (by omega)];omega
   simp only[en];exact ⟨⟨by omega,hc⟩,⟨by omega,by omega⟩,hR i hi2,hm i hi2,i+1,⟨hi2,trivial⟩,by omega,hw,(by (repeat' (with_reducible apply And.intro))<;>first |with_reducible rfl |exact True.intro |assumption |(symm;assumption) |rfl)⟩
  ·trivial
 ·trivial
noncomputable def DB:FSpec:=fun ds _=>match ds with
 | [.d a,.d b,.v kf]=>(match ga 29 kf with |true=>some {val:=.one (.sc (.bool (.lit true))),vc:=[gm a b,a.len<=3000000,(∀ i,i<a.len->(a.el i 1).len<=3000000)]} |false=>none)
 |_=>none
noncomputable def DC:Con:=con [.sc (.rows 106),.sc (.rows 106),.sc .any] DB
theorem LO:ConOK Tryz.prog 28 DC:=by
 refine bg tt_ok au Tryz.func28 rfl (fun _ _=>by kernel_rfl) (A:=fun ds=>⟨fun _=>Cons.of [(29,Dw)],fun k=>match k,ds with | 4,[.d a,.d b,.v _]=>some {ι:=Nat,pre:=fun _ i=>i<=a.len/\True,μ:=fun i=>a.len+1-i,st:=fun s i=>aV s [(17,.one (.sc (.int .i64 (.sym ((i:Nat)))))),(16,.one (.sc (.int .i64 (.sym ((a.len:Nat))))))] [0,1,2,15] [] []} |_,_=>none,fun _=>none⟩) (fun _ _=>(af LK aq)) (by kernel_rfl) ?_
 intro ds fr;unfold DB;split
 ·rename_i a b kf;split
  ·rename_i hg;obtain rfl:=ip hg;refine kmp (q:=gm a b->a.len<=3000000->(∀ (i:Nat),i<a.len->(a.el i 1).len<=3000000)->(((a.len:Int) != (b.len:Int))=true->false=true)/\(((a.len:Int) != (b.len:Int))=false->(∃ (i:Nat),(i<=a.len/\True)/\0=(i:Int)/\(a.len:Int)=(a.len:Int)/\a.rows=a.rows/\b.rows=b.rows/\Value.func (Fn.func (29:Nat)) #[] #[]=Value.func (Fn.func (29:Nat)) #[] #[]/\a.rows=a.rows)/\∀ (i:Nat),i<=a.len/\True->(decide ((i:Int)<(a.len:Int))=true->(0<=(i:Int)/\(i:Int)<(a.len:Int))/\(0<=(i:Int)/\(i:Int)<(b.len:Int))/\((a.el (i:Int).toNat 0).toS=(b.el (i:Int).toNat 0).toS/\iU (a.el (i:Int).toNat 1) (b.el (i:Int).toNat 1))/\(a.el (i:Int).toNat 1).len<=3000000/\∃ (j:Nat),(j<=a.len/\True)/\a.len+1-j<a.len+1-i/\IntKind.i64.wrap ((i:Int)+1)=(j:Int)/\(a.len:Int)=(a.len:Int)/\a.rows=a.rows/\b.rows=b.rows/\Value.func (Fn.func (29:Nat)) #[] #[]=Value.func (Fn.func (29:Nat)) #[] #[]/\a.rows=a.rows)/\(decide ((i:Int)<(a.len:Int))=false->true=true))) (by kernel_rfl) ?_
   intro he hk hm;obtain ⟨hl,hR⟩:=he;have hz1:a.len<=3000000:=hk;refine ⟨fun hc=>by rw[hl] at hc;simp at hc,fun _=>⟨⟨0,⟨Nat.zero_le _,trivial⟩,(by (repeat' (with_reducible apply And.intro))<;>first |with_reducible rfl |exact True.intro |assumption |(symm;assumption) |rfl)⟩,fun i hi=>⟨fun hc=>?_,fun _=>rfl⟩⟩⟩;have hc:=of_decide_eq_true hc;have hi2:i<a.len:=by omega
   have en:(i:Int).toNat=i:=Int.toNat_natCast i;have hw:IntKind.i64.wrap ((i:Int)+1)=((i+1:Nat):Int):=by rw[IntWalk.i64_in _ (by omega)];omega
   simp only[en];exact ⟨⟨by omega,hc⟩,⟨by omega,by omega⟩,hR i hi2,hm i hi2,i+1,⟨hi2,trivial⟩,by omega,hw,(by (repeat' (with_reducible apply And.intro))<;>first |with_reducible rfl |exact True.intro |assumption |(symm;assumption) |rfl)⟩
  ·trivial
 ·trivial
noncomputable def DD:FSpec:=fun ds _=>match ds with
 | [.d a,.d b,.v kf]=>(match ga 31 kf with |true=>some {val:=.one (.sc (.bool (.lit true))),vc:=[gn a b,a.len<=3000000,(∀ i,i<a.len->(a.el i 1).len<=3000000/\bS (a.el i 2))]} |false=>none)
 |_=>none
noncomputable def DE:Con:=con [.sc (.rows 72),.sc (.rows 72),.sc .any] DD
theorem LP:ConOK Tryz.prog 30 DE:=by
 refine bg tt_ok au Tryz.func30 rfl (fun _ _=>by kernel_rfl) (A:=fun ds=>⟨fun _=>Cons.of [(31,Dy)],fun k=>match k,ds with | 4,[.d a,.d b,.v _]=>some {ι:=Nat,pre:=fun _ i=>i<=a.len/\True,μ:=fun i=>a.len+1-i,st:=fun s i=>aV s [(17,.one (.sc (.int .i64 (.sym ((i:Nat)))))),(16,.one (.sc (.int .i64 (.sym ((a.len:Nat))))))] [0,1,2,15] [] []} |_,_=>none,fun _=>none⟩) (fun _ _=>(af LM aq)) (by kernel_rfl) ?_
 intro ds fr;unfold DD;split
 ·rename_i a b kf;split
  ·rename_i hg;obtain rfl:=ip hg;refine kmp (q:=gn a b->a.len<=3000000->(∀ (i:Nat),i<a.len->(a.el i 1).len<=3000000/\bS (a.el i 2))->(((a.len:Int) != (b.len:Int))=true->false=true)/\(((a.len:Int) != (b.len:Int))=false->(∃ (i:Nat),(i<=a.len/\True)/\0=(i:Int)/\(a.len:Int)=(a.len:Int)/\a.rows=a.rows/\b.rows=b.rows/\Value.func (Fn.func (31:Nat)) #[] #[]=Value.func (Fn.func (31:Nat)) #[] #[]/\a.rows=a.rows)/\∀ (i:Nat),i<=a.len/\True->(decide ((i:Int)<(a.len:Int))=true->(0<=(i:Int)/\(i:Int)<(a.len:Int))/\(0<=(i:Int)/\(i:Int)<(b.len:Int))/\((a.el (i:Int).toNat 0).toS=(b.el (i:Int).toNat 0).toS/\cY (a.el (i:Int).toNat 1) (b.el (i:Int).toNat 1)/\BR (a.el (i:Int).toNat 2) (b.el (i:Int).toNat 2))/\(a.el (i:Int).toNat 1).len<=3000000/\bS (a.el (i:Int).toNat 2)/\∃ (j:Nat),(j<=a.len/\True)/\a.len+1-j<a.len+1-i/\IntKind.i64.wrap ((i:Int)+1)=(j:Int)/\(a.len:Int)=(a.len:Int)/\a.rows=a.rows/\b.rows=b.rows/\Value.func (Fn.func (31:Nat)) #[] #[]=Value.func (Fn.func (31:Nat)) #[] #[]/\a.rows=a.rows)/\(decide ((i:Int)<(a.len:Int))=false->true=true))) (by kernel_rfl) ?_
   intro he hk hm;obtain ⟨hl,hR⟩:=he;have hz1:a.len<=3000000:=hk;refine ⟨fun hc=>by rw[hl] at hc;simp at hc,fun _=>⟨⟨0,⟨Nat.zero_le _,trivial⟩,(by (repeat' (with_reducible apply And.intro))<;>first |with_reducible rfl |exact True.intro |assumption |(symm;assumption) |rfl)⟩,fun i hi=>⟨fun hc=>?_,fun _=>rfl⟩⟩⟩;have hc:=of_decide_eq_true hc;have hi2:i<a.len:=by omega
   have en:(i:Int).toNat=i:=Int.toNat_natCast i;have hw:IntKind.i64.wrap ((i:Int)+1)=((i+1:Nat):Int):=by rw[IntWalk.i64_in _ (by omega)];omega
   simp only[en];exact ⟨⟨by omega,hc⟩,⟨by omega,by omega⟩,hR i hi2,(hm i hi2).1,(hm i hi2).2,i+1,⟨hi2,trivial⟩,by omega,hw,(by (repeat' (with_reducible apply And.intro))<;>first |with_reducible rfl |exact True.intro |assumption |(symm;assumption) |rfl)⟩
  ·trivial
 ·trivial
noncomputable def DF:FSpec:=fun ds _=>match ds with
 | [.d c,.d u,.d p,.d c2,.d u2,.d p2]=>some {val:=.one (.sc (.bool (.lit true))),vc:=[(gl c c2/\gm u u2/\gn p p2),SyS c u p]}
 |_=>none
noncomputable def DG:Con:=con [qSy,qSy] DF
theorem LQ:ConOK Tryz.prog 9 DG:=by
 refine bg tt_ok au Tryz.func9 rfl (fun _ _=>by kernel_rfl) (A:=fun ds=>⟨fun _=>Cons.of [(26,DA),(28,DC),(30,DE)],fun _=>none,fun _=>none⟩) (fun _ _=>(af LN (af LO (af LP aq)))) (by kernel_rfl) ?_
 intro ds fr;unfold DF;split
 ·rename_i c u p c2 u2 p2;refine kmp (q:=gl c c2/\gm u u2/\gn p p2->SyS c u p->gl c c2/\c.len<=3000000/\(∀ (i:Nat),i<c.len->(c.el i 5).len<=3000000)/\gm u u2/\u.len<=3000000/\(∀ (i:Nat),i<u.len->(u.el i 1).len<=3000000)/\gn p p2/\p.len<=3000000/\(∀ (i:Nat),i<p.len->(p.el i 1).len<=3000000/\bS (p.el i 2))/\true=true) (by kernel_rfl) ?_
  rintro ⟨h1,h2,h3⟩ hs;exact ⟨h1,hs.c,hs.ct,h2,hs.r,hs.rm,h3,hs.p,fun i hi=>⟨hs.pv i hi,hs.pb i hi⟩,rfl⟩
 ·trivial
theorem jW {k n:Int} {s:ByteArray} {d:D} {k2 n2:Int} {s2:ByteArray} {d2:D} (h:XR k n s d k2 n2 s2 d2):XR k n s d k2 n2 s2 (.l d2.rows):=by
 cases h with
 |mk h0 h1 h2 h3 h4=>exact .mk h0 h1 h2 h3 h4
theorem nO {a b:D} (h:BR a b):BR a (.l b.rows):=by
 cases h with
 |mk hl hk hn ht he hc hb hs ha hr hq=>exact .mk hl hk hn ht he hc hb hs ha hr hq
theorem jX (g:Nat->List D) (n:Nat):(D.l (cD g n)).len=n:=by
 show (cD g n).length=n;unfold cD;rw[List.length_map,List.length_range]
theorem fO (g:Nat->List D) {n i:Nat} (h:i<n) (j:Nat):(D.l (cD g n)).el i j=(g i).getD j (.i 0):=by
 show ((cD g n).getD i []).getD j (.i 0)=_;have e:(cD g n)[i]? = some (g i):=by
  unfold cD;rw[List.getElem?_map,List.getElem?_range h];rfl
 rw[List.getD_eq_getElem?_getD (l:=cD g n),e];rfl
theorem qD {k n:Int} {s:ByteArray} {d:D} (h:aX k n s d=true):XR k n s d (xC k n s d).k (xC k n s d).n (xC k n s d).s (xC k n s d).d:=by
 refine ns (P:=fun k n s d=>XR k n s d (xC k n s d).k (xC k n s d).n (xC k n s d).s (xC k n s d).d) ?_ ?_ ?_ ?_ h
 ·intro n s d _;exact .mk rfl (fun _=>rfl) (fun h=>absurd h (by decide)) (fun h=>absurd h (by decide)) (fun h=>absurd h (by decide))
 ·intro n s d _;exact .mk rfl (fun h=>absurd h (by decide)) (fun _=>rfl) (fun h=>absurd h (by decide)) (fun h=>absurd h (by decide))
 ·intro n s d hl ih;rw[tJ n s (by omega)];refine .mk rfl (fun h=>absurd h (by decide)) (fun h=>absurd h (by decide)) (fun _=>hl) (fun _ i hi=>?_);obtain rfl:i=0:=by omega
  exact jW ih
 ·intro k n s d hb hl ih0 ih1;have hk:=ei hb;rw[qd n s hb (by omega)];refine .mk rfl (fun h=>by omega) (fun h=>by omega) (fun _=>hl) (fun _ i hi=>?_);have:i=0 ∨ i=1:=by omega
  rcases this with rfl |rfl
  ·exact jW ih0
  ·exact jW ih1
theorem ve {op lk ln:Int} {ls:ByteArray} {ld:D} {rk rn:Int} {rs:ByteArray} {rd:D} (h:aC op lk ln ls ld rk rn rs rd=true):op=(cC op lk ln ls ld rk rn rs rd).op/\XR lk ln ls ld (cC op lk ln ls ld rk rn rs rd).l.k (cC op lk ln ls ld rk rn rs rd).l.n (cC op lk ln ls ld rk rn rs rd).l.s (.l (cC op lk ln ls ld rk rn rs rd).l.d.rows)/\XR rk rn rs rd (cC op lk ln ls ld rk rn rs rd).r.k (cC op lk ln ls ld rk rn rs rd).r.n (cC op lk ln ls ld rk rn rs rd).r.s (.l (cC op lk ln ls ld rk rn rs rd).r.d.rows):=by
 have:=Bc h;exact ⟨rfl,jW (qD this.1),jW (qD this.2)⟩
theorem LR {k:Int} {nm tg:ByteArray} {ek en:Int} {es:ByteArray} {ed:D} {op lk ln:Int} {ls:ByteArray} {ld:D} {rk rn:Int} {rs:ByteArray} {rd bd eb am:D}
 (Hb:bA bd=true->BR bd (bC bd)) (He:bA eb=true->BR eb (bC eb)) (Ha:∀ j,j<am.len->bA (am.el j 2)=true->BR (am.el j 2) (bC (am.el j 2))) (hA:stA k nm tg ek en es ed op lk ln ls ld rk rn rs rd bd eb am=true) {x:St} (hx:x=stC k nm tg ek en es ed op lk ln ls ld rk rn rs rd bd eb am) :
 stAl k nm tg ek en es ed op lk ln ls ld rk rn rs rd bd eb am x.k x.nm x.tg x.e.k x.e.n x.e.s (.l x.e.d.rows) x.c.op x.c.l.k x.c.l.n x.c.l.s (.l x.c.l.d.rows) x.c.r.k x.c.r.n x.c.r.s (.l x.c.r.d.rows) (.l x.b.rows) (.l x.el.rows) (.l x.ar.rows):=by
 have hA:bz k nm tg (aX ek en es ed) (aC op lk ln ls ld rk rn rs rd) (bA bd) (bA eb) am.len (lh am)=true:=hA;subst hx
 rcases Bp hA with rfl |rfl |rfl |rfl |rfl |rfl |rfl
 ·have hA:(nmB nm&&aX ek en es ed)=true:=hA;simp only[Bool.and_eq_true] at hA;exact ⟨rfl,fun _=>rfl,fun h=>absurd h (by decide),fun _=>jW (qD hA.2),fun h=>absurd h (by decide),fun h=>absurd h (by decide),fun h=>absurd h (by decide),fun h=>absurd h (by decide)⟩
 ·have hA:(aC op lk ln ls ld rk rn rs rd&&bA bd&&bA eb)=true:=hA;simp only[Bool.and_eq_true] at hA;exact ⟨rfl,fun h=>absurd h (by decide),fun h=>absurd h (by decide),fun h=>absurd h (by decide),fun _=>ve hA.1.1,fun _=>nO (Hb hA.1.2),fun _=>nO (He hA.2),fun h=>absurd h (by decide)⟩
 ·have hA:(aC op lk ln ls ld rk rn rs rd&&bA bd)=true:=hA;simp only[Bool.and_eq_true] at hA;exact ⟨rfl,fun h=>absurd h (by decide),fun h=>absurd h (by decide),fun h=>absurd h (by decide),fun _=>ve hA.1,fun _=>nO (Hb hA.2),fun h=>absurd h (by decide),fun h=>absurd h (by decide)⟩
 ·have hA:(nmB nm&&nmB tg&&aX ek en es ed)=true:=hA;simp only[Bool.and_eq_true] at hA;exact ⟨rfl,fun _=>rfl,fun _=>rfl,fun _=>jW (qD hA.2),fun h=>absurd h (by decide),fun h=>absurd h (by decide),fun h=>absurd h (by decide),fun h=>absurd h (by decide)⟩
 ·have hA:(nmB nm&&decide ((am.len:Int)>0)&&lh am)=true:=hA;simp only[Bool.and_eq_true] at hA;have hq:=bP.1 hA.2;refine ⟨rfl,fun _=>rfl,fun h=>absurd h (by decide),fun h=>absurd h (by decide),fun h=>absurd h (by decide),fun h=>absurd h (by decide),fun h=>absurd h (by decide),fun _=>⟨(jX (arC am) am.len).symm,fun j hj=>?_⟩⟩;have h1:=hq j hj;unfold arE at h1;simp only[Bool.and_eq_true] at h1;unfold Db;show _=((D.l (cD (arC am) am.len)).el j 0).toS/\_=((D.l (cD (arC am) am.len)).el j 1).toS/\BR _ ((D.l (cD (arC am) am.len)).el j 2);rw[fO _ hj,fO _ hj,fO _ hj];exact ⟨rfl,rfl,nO (Ha j hj h1.2)⟩
 ·have hA:aC op lk ln ls ld rk rn rs rd=true:=hA;exact ⟨rfl,fun h=>absurd h (by decide),fun h=>absurd h (by decide),fun h=>absurd h (by decide),fun _=>ve hA,fun h=>absurd h (by decide),fun h=>absurd h (by decide),fun h=>absurd h (by decide)⟩
 ·exact ⟨rfl,fun _=>rfl,fun h=>absurd h (by decide),fun h=>absurd h (by decide),fun h=>absurd h (by decide),fun h=>absurd h (by decide),fun h=>absurd h (by decide),fun h=>absurd h (by decide)⟩
theorem LS:∀ (z:Nat) (d:D),SizeOf.sizeOf d<=z->bA d=true->BR d (bC d):=by
 intro z
 induction z with
 |zero=>intro d hz;cases d<;>simp at hz
 |succ z ih=>
  intro d hz hA;rw[qa] at hA;have hA:=bP.1 hA;rw[Bo];refine Dd.2 ⟨(jX _ _).symm,fun i hi=>?_⟩;have kid:∀ j,bA (d.el i j)=true->BR (d.el i j) (bC (d.el i j)):=fun j h=>by
   have:=ap (j:=j) hi;exact ih _ (by omega) h
  have kid2:∀ j,j<(d.el i 18).len->bA ((d.el i 18).el j 2)=true->BR ((d.el i 18).el j 2) (bC ((d.el i 18).el j 2)):=fun j hj h=>by
   have h1:=ap (j:=18) hi;have h2:=ap (j:=2) hj;exact ih _ (by omega) h
  have:=LR (kid 16) (kid 17) kid2 (hA i hi) rfl;unfold Dc;simp only[fO _ hi];exact this
theorem DH (d:D):cY d (.l (nsC d).rows):=⟨(jX _ _).symm,fun i hi=>by
 show _=((D.l (cD (nmC d) d.len)).el i 0).toS;rw[fO _ hi];rfl⟩
theorem LT (d:D):iU d (.l (cD (mvC d) d.len)):=⟨(jX _ _).symm,fun i hi=>by
 rw[fO _ hi,fO _ hi,fO _ hi];exact ⟨rfl,rfl,rfl⟩⟩
theorem LU {ch ru pr:D} (hA:syB ch ru pr=true):gl ch (Bq ch)/\gm ru (Br ru)/\gn pr (tM pr):=by
 unfold syB at hA;simp only[Bool.and_eq_true] at hA;have h3:=bP.1 hA.2.2;refine ⟨⟨(jX _ _).symm,fun i hi=>?_⟩,⟨(jX _ _).symm,fun i hi=>?_⟩,⟨(jX _ _).symm,fun i hi=>?_⟩⟩
 ·unfold u7 Bq;simp only[fO _ hi];exact ⟨rfl,rfl,rfl,rfl,rfl,DH _⟩
 ·unfold u9 Br;simp only[fO _ hi];exact ⟨rfl,LT _⟩
 ·have hx:=h3 i hi;unfold prE at hx;simp only[Bool.and_eq_true] at hx;unfold va tM;simp only[fO _ hi];exact ⟨rfl,DH _,nO (LS _ _ (Nat.le_refl _) hx.2)⟩
theorem fP {n i j:Nat} {f:Nat->List D} (h:i<n):(aO n f).el i j=(f i).getD j (.i 0):=by
 show (((List.range n).map f).getD i []).getD j (.i 0)=_;rw[List.getD_eq_getElem?_getD (l:=(List.range n).map f),List.getElem?_map,List.getElem?_range h];rfl
theorem max2 {a b c:Nat} (h:max a b<=c):a<=c/\b<=c:=by omega
theorem LV {d:D} {i:Nat} (h:i<d.len):((cpE d).el i 0).toI=(d.el i 0).toI/\((cpE d).el i 1).toI=(d.el i 1).toI/\((cpE d).el i 2).toS=(d.el i 2).toS/\(cpE d).el i 3=cpE (d.el i 3):=by
 rw[nH];refine ⟨?_,?_,?_,?_⟩<;>rw[fP h]<;>rfl
theorem vf {k n:Int} {s:ByteArray} {d:D} {k2 n2:Int} {s2:ByteArray} {d2:D} (h:XR k n s d k2 n2 s2 d2):XR k2 n2 s2 d2 k n s (cpE d):=by
 induction h with
 | @mk k n s d k2 n2 s2 d2 h0 h1 h2 h3 h4 ih=>
   subst h0;refine .mk rfl (fun h=>(h1 h).symm) (fun h=>(h2 h).symm) (fun h=>?_) (fun h i hi=>?_)
   ·rw[nH,ca];exact (h3 h).symm
   ·have hi2:i<d.len:=by have:=h3 h;omega
    obtain ⟨e0,e1,e2,e3⟩:=LV hi2;rw[e0,e1,e2,e3];exact ih h i hi2
theorem LW {d:D} {i:Nat} (h:i<d.len) (j:Nat):(cpB d).el i j=(rSt d i).getD j (.i 0):=by
 rw[nL,fP h]
theorem LX {d d2:D} (h:BR d d2):BR d2 (cpB d):=by
 induction h with
 | @mk d d2 hl hk hn ht he hc hb hs ha hr hq ib is iq=>
   have len:(cpB d).len=d.len:=by rw[nL,ca]
   refine .mk (by rw[len];exact hl.symm) (fun i hi=>?_) (fun i hi h=>?_) (fun i hi h=>?_) (fun i hi h=>?_) (fun i hi h=>?_) (fun i hi h=>?_) (fun i hi h=>?_) (fun i hi h=>?_) (fun i hi h j hj=>?_) (fun i hi h j hj=>?_)
   all_goals have hi2:i<d.len:=by omega
   all_goals have hk2:=hk i hi2
   all_goals simp only[LW hi2]
   ·exact hk2.symm
   ·exact (hn i hi2 (by rw[hk2];exact h)).symm
   ·exact (ht i hi2 (by rw[hk2];exact h)).symm
   ·exact vf (he i hi2 (by rw[hk2];exact h))
   ·obtain ⟨q1,q2,q3⟩:=hc i hi2 (by rw[hk2];exact h);exact ⟨q1.symm,vf q2,vf q3⟩
   ·exact ib i hi2 (by rw[hk2];exact h)
   ·exact is i hi2 (by rw[hk2];exact h)
   ·show _=(aO (d.el i 18).len (arR (d.el i 18))).len;rw[ca];exact (ha i hi2 (by rw[hk2];exact h)).symm
   ·have h5:(d.el i 0).toI=5:=by rw[hk2];exact h
    have hj2:j<(d.el i 18).len:=by rw[ha i hi2 h5];exact hj
    obtain ⟨r1,r2⟩:=hr i hi2 h5 j hj2;show _=((aO (d.el i 18).len (arR (d.el i 18))).el j 0).toS/\_=((aO (d.el i 18).len (arR (d.el i 18))).el j 1).toS;rw[fP hj2,fP hj2];exact ⟨r1.symm,r2.symm⟩
   ·have h5:(d.el i 0).toI=5:=by rw[hk2];exact h
    have hj2:j<(d.el i 18).len:=by rw[ha i hi2 h5];exact hj
    show BR _ ((aO (d.el i 18).len (arR (d.el i 18))).el j 2);rw[fP hj2];exact iq i hi2 h5 j hj2
theorem DI {a b:D} (h:cY a b):cY b (nD a):=⟨h.1.symm,fun i hi=>(h.2 i (by have:=h.1;omega)).symm⟩
theorem LY {ch ru pr c u p:D} (h1:gl ch c) (h2:gm ru u) (h3:gn pr p):gl c (cpC ch)/\gm u (cpU ru)/\gn p (cpP pr):=by
 refine ⟨⟨by unfold cpC;rw[ca];exact h1.1.symm,fun i hi=>?_⟩,⟨by unfold cpU;rw[ca];exact h2.1.symm,fun i hi=>?_⟩,⟨by unfold cpP;rw[ca];exact h3.1.symm,fun i hi=>?_⟩⟩
 ·have hi2:i<ch.len:=by have:=h1.1;omega
  obtain ⟨q0,q1,q2,q3,q4,q5⟩:=h1.2 i hi2;unfold u7 cpC;simp only[fP hi2];exact ⟨q0.symm,q1.symm,q2.symm,q3.symm,q4.symm,DI q5⟩
 ·have hi2:i<ru.len:=by have:=h2.1;omega
  obtain ⟨q0,q1,q2⟩:=h2.2 i hi2;unfold u9 cpU;simp only[fP hi2];refine ⟨q0.symm,?_,fun j hj=>?_⟩
  ·show _=(aO (ru.el i 1).len (mvR (ru.el i 1))).len;rw[ca];exact q1.symm
  ·have hj2:j<(ru.el i 1).len:=by omega
   obtain ⟨r1,r2,r3⟩:=q2 j hj2;show _=((aO (ru.el i 1).len (mvR (ru.el i 1))).el j 0).toI/\_=((aO (ru.el i 1).len (mvR (ru.el i 1))).el j 1).toS/\_=((aO (ru.el i 1).len (mvR (ru.el i 1))).el j 2).toI;rw[fP hj2,fP hj2,fP hj2];exact ⟨r1.symm,r2.symm,r3.symm⟩
 ·have hi2:i<pr.len:=by have:=h3.1;omega
  obtain ⟨q0,q1,q2⟩:=h3.2 i hi2;unfold va cpP;simp only[fP hi2];exact ⟨q0.symm,DI q1,LX q2⟩
theorem vg:∀ (m:Nat) (d:D),SizeOf.sizeOf d<=m->sW d->kS d:=by
 intro m
 induction m with
 |zero=>intro d hz;cases d<;>simp at hz
 |succ m ih=>
  intro d hz h;refine (jQ d).2 ⟨Nat.le_trans (bZ h) (by decide),fun i hi=>?_⟩;have:=ap (j:=3) hi;exact ih _ (by omega) (aK h hi 3)
theorem LZ:∀ (m:Nat) (d:D),SizeOf.sizeOf d<=m->sW d->bS d:=by
 intro m
 induction m with
 |zero=>intro d hz;cases d<;>simp at hz
 |succ m ih=>
  intro d hz h;refine (lK d).2 ⟨Nat.le_trans (bZ h) (by decide),fun i hi=>?_⟩;have z1:=ap (j:=16) hi;have z2:=ap (j:=17) hi;have z3:=ap (j:=18) hi;exact ⟨vg _ _ (Nat.le_refl _) (aK h hi 6),vg _ _ (Nat.le_refl _) (aK h hi 11),vg _ _ (Nat.le_refl _) (aK h hi 15),ih _ (by omega) (aK h hi 16),ih _ (by omega) (aK h hi 17),Nat.le_trans (bZ (aK h hi 18)) (by decide),fun j hj=>by
   have z4:=ap (j:=2) hj;exact ih _ (by omega) (aK (aK h hi 18) hj 2)⟩
theorem L1 {ch ru pr:D} (h1:sW ch) (h2:sW ru) (h3:sW pr):SyS ch ru pr where
 c:=Nat.le_trans (bZ h1) (by decide)
 ct:=fun i hi=>Nat.le_trans (bZ (aK h1 hi 5)) (by decide)
 r:=Nat.le_trans (bZ h2) (by decide)
 rm:=fun i hi=>Nat.le_trans (bZ (aK h2 hi 1)) (by decide)
 p:=Nat.le_trans (bZ h3) (by decide)
 pv:=fun i hi=>Nat.le_trans (bZ (aK h3 hi 1)) (by decide)
 pb:=fun i hi=>LZ _ _ (Nat.le_refl _) (aK h3 hi 2)
theorem DJ {l:List ByteArray} {i:Nat} (h:i<l.length):((wsR l).el i 0).toS=l[i]:=by
 show (((l.map fun s=>[D.s s]).getD i []).getD 0 (.i 0)).toS=_;rw[List.getD_eq_getElem?_getD (l:=l.map _),List.getElem?_map,List.getElem?_eq_getElem h];rfl
inductive XQ:Int->Int->ByteArray->D->Int->Int->ByteArray->D->Prop
 |mk {k n:Int} {s:ByteArray} {d:D} {k2 n2:Int} {s2:ByteArray} {d2:D} (h0:k=k2) (h1:k=1->n=n2) (h2:k=2->s=s2) (h3:d.len=d2.len) (h4:∀ i,i<d.len->XQ (d.el i 0).toI (d.el i 1).toI (d.el i 2).toS (d.el i 3) (d2.el i 0).toI (d2.el i 1).toI (d2.el i 2).toS (d2.el i 3)):XQ k n s d k2 n2 s2 d2
def qE (a b:D):Prop:=a.len=b.len/\∀ i,i<a.len->(a.el i 0).toI=1/\(b.el i 0).toI=1/\(a.el i 1).toS=(b.el i 1).toS/\XQ (a.el i 3).toI (a.el i 4).toI (a.el i 5).toS (a.el i 6) (b.el i 3).toI (b.el i 4).toI (b.el i 5).toS (b.el i 6)
def qF (c u p c2 u2 p2:D):Prop:=c.len=0/\c2.len=0/\u.len=0/\u2.len=0/\p.len=p2.len/\∀ i,i<p.len->(p.el i 0).toS=(p2.el i 0).toS/\cY (p.el i 1) (p2.el i 1)/\qE (p.el i 2) (p2.el i 2)
noncomputable def vh:FSpec:=fun ds _=>match ds with
 | [.i k,.i n,.s s,.d d,.i k2,.i n2,.s s2,.d d2]=>some {val:=.one (.sc (.bool (.lit true))),vc:=[XQ k n s d k2 n2 s2 d2,kS d]}
 |_=>none
noncomputable def DK:Con:=con [gX0,gX0] vh
noncomputable def vi:List Dat->Nat:=fun ds=>match ds with
 | [.i k,.i n,.s s,.d d,.i k2,.i n2,.s s2,.d d2]=>SizeOf.sizeOf d
 |_=>0
noncomputable def lP (m:Nat):FSpec:=fun ds _=>match ds with
 | [.i k,.i n,.s s,.d d,.i k2,.i n2,.s s2,.d d2]=>some {val:=.one (.sc (.bool (.lit true))),vc:=[SizeOf.sizeOf d<m,XQ k n s d k2 n2 s2 d2,kS d]}
 |_=>none
theorem L2 (m:Nat):vh.under vi m=lP m:=by
 funext ds fr
 unfold FSpec.under vh vi lP;split
 ·rename_i e h
  split at h
  ·obtain rfl:=Option.some.inj h;rfl
  ·cases h
 ·rename_i h
  split at h
  ·cases h
  ·rfl
theorem L3 (m:Nat) (ih:ConOK Tryz.prog 62 (con [gX0,gX0] (lP m))):ConOK Tryz.prog 62 (con [gX0,gX0] (lP (m+1))):=by
 refine bg tt_ok au Tryz.func62 rfl (fun _ _=>by kernel_rfl) (A:=fun ds=>⟨fun _=>Cons.of [(62,con [gX0,gX0] (lP m))],fun k=>match k,ds with | 4,[.i k,.i n,.s s,.d d,.i k2,.i n2,.s s2,.d d2]=>some {ι:=Nat,pre:=fun _ i=>i<=d.len/\True,μ:=fun i=>d.len+1-i,st:=fun s i=>aV s [(5,.one (.sc (.int .i64 (.sym (i:Nat)))))] [2,3] [] [2,3]} |_,_=>none,fun _=>none⟩) (fun _ _=>(af ih aq)) (by kernel_rfl) ?_
 intro ds fr;unfold lP;split
 ·rename_i k n s d k2 n2 s2 d2;refine kmp (q:=ac (k != k2 ||k==(1:Int)&&n != n2 ||k==(2:Int) && !s.toList==s2.toList ||(d.len:Int) != (d2.len:Int)) fun Ea=>ac (fun (i:Nat)=>d.el (i:Int).toNat 3) fun Eb=>SizeOf.sizeOf d<m+1->XQ k n s d k2 n2 s2 d2->kS d->(Ea=true->false=true)/\(Ea=false->(∃ (i:Nat),(i<=d.len/\True)/\0=(i:Int)/\k=k/\n=n/\Value.string s=Value.string s/\d.rows=d.rows/\k2=k2/\n2=n2/\Value.string s2=Value.string s2/\d2.rows=d2.rows)/\∀ (i:Nat),i<=d.len/\True->(decide ((i:Int)<(d.len:Int))=true->(0<=(i:Int)/\(i:Int)<(d.len:Int))/\(0<=(i:Int)/\(i:Int)<(d2.len:Int))/\SizeOf.sizeOf (Eb i)<m/\XQ (d.el (i:Int).toNat 0).toI (d.el (i:Int).toNat 1).toI (d.el (i:Int).toNat 2).toS (Eb i) (d2.el (i:Int).toNat 0).toI (d2.el (i:Int).toNat 1).toI (d2.el (i:Int).toNat 2).toS (d2.el (i:Int).toNat 3)/\kS (Eb i)/\∃ (j:Nat),(j<=d.len/\True)/\d.len+1-j<d.len+1-i/\IntKind.i64.wrap ((i:Int)+1)=(j:Int)/\k=k/\n=n/\Value.string s=Value.string s/\d.rows=d.rows/\k2=k2/\n2=n2/\Value.string s2=Value.string s2/\d2.rows=d2.rows)/\(decide ((i:Int)<(d.len:Int))=false->true=true))) (by kernel_rfl) ?_
  dsimp +instances only [ac]
  intro hm hX hk
  cases hX with
  |mk e0 e1 e2 e3 e4=>
  subst e0;have hz:=((jQ d).1 hk).1;have en:∀ i:Nat,(i:Int).toNat=i:=fun i=>Int.toNat_natCast i
  simp only[Nat.reduceAdd,Nat.zero_add,en];refine ⟨fun hb=>?_,fun _=>⟨⟨0,⟨Nat.zero_le _,trivial⟩,rfl,(by (repeat' with_reducible constructor)<;>rfl)⟩,fun i hi=>⟨fun hc=>?_,fun _=>(by first |exact True.intro |rfl)⟩⟩⟩
  ·have h1:(k==1&&n != n2)=false:=by
    cases h:(k==1) with
    |false=>rfl
    |true=>rw[e1 (eq_of_beq h)];simp
   have h2:(k==2 && !s.toList==s2.toList)=false:=by
    cases h:(k==2) with
    |false=>rfl
    |true=>rw[e2 (eq_of_beq h)];simp
   rw[h1,h2,e3] at hb;simp at hb
  ·have hc:=of_decide_eq_true hc;have hi2:i<d.len:=by omega
   have hw:IntKind.i64.wrap ((i:Int)+1)=((i+1:Nat):Int):=by rw[IntWalk.i64_in _ (by omega)];omega
   have z:=ap (j:=3) hi2;exact ⟨⟨by omega,hc⟩,⟨by omega,by omega⟩,by omega,e4 i hi2,((jQ d).1 hk).2 i hi2,i+1,⟨hi2,trivial⟩,by omega,hw,(by (repeat' with_reducible constructor)<;>rfl)⟩
 ·trivial
theorem L4:ConOK Tryz.prog 62 DK:=
 fY vi (fun _ _=>by kernel_rfl) fun m ih=>by
  rw[L2] at ih ⊢;exact L3 m ih
noncomputable def DL:FSpec:=fun ds _=>match ds with
 | [.d a,.d b]=>some {val:=.one (.sc (.bool (.lit true))),vc:=[cY a b,a.len<=3000000]}
 |_=>none
noncomputable def DM:Con:=con [.sc (.rows 9),.sc (.rows 9)] DL
theorem L5:ConOK Tryz.prog 33 DM:=by
 refine bg tt_ok au Tryz.func33 rfl (fun _ _=>by kernel_rfl) (A:=fun ds=>⟨fun _=>Cons.of [],fun k=>match k,ds with | 4,[.d a,.d b]=>some {ι:=Nat,pre:=fun _ i=>i<=a.len/\True,μ:=fun i=>a.len+1-i,st:=fun s i=>aV s [(5,.one (.sc (.int .i64 (.sym (i:Nat)))))] [0,1] [] []} |_,_=>none,fun _=>none⟩) (fun _ _=>aq) (by kernel_rfl) ?_
 intro ds fr;unfold DL;split
 ·rename_i a b;refine kmp (q:=cY a b->a.len<=3000000->(((a.len:Int) != (b.len:Int))=true->false=true)/\(((a.len:Int) != (b.len:Int))=false->(∃ (i:Nat),(i<=a.len/\True)/\0=(i:Int)/\a.rows=a.rows/\b.rows=b.rows)/\∀ (i:Nat),i<=a.len/\True->(decide ((i:Int)<(a.len:Int))=true->(0<=(i:Int)/\(i:Int)<(a.len:Int))/\(0<=(i:Int)/\(i:Int)<(b.len:Int))/\((!(a.el (i:Int).toNat 0).toS.toList==(b.el (i:Int).toNat 0).toS.toList)=true->false=true)/\((!(a.el (i:Int).toNat 0).toS.toList==(b.el (i:Int).toNat 0).toS.toList)=false->∃ (j:Nat),(j<=a.len/\True)/\a.len+1-j<a.len+1-i/\IntKind.i64.wrap ((i:Int)+1)=(j:Int)/\a.rows=a.rows/\b.rows=b.rows))/\(decide ((i:Int)<(a.len:Int))=false->true=true))) (by kernel_rfl) ?_
  rintro ⟨hl,hR⟩ hz;have en:∀ i:Nat,(i:Int).toNat=i:=fun i=>Int.toNat_natCast i
  simp only[Nat.reduceAdd,Nat.zero_add,en];refine ⟨fun hb=>by rw[hl] at hb;simp at hb,fun _=>⟨⟨0,⟨Nat.zero_le _,trivial⟩,rfl,(by (repeat' with_reducible constructor)<;>rfl)⟩,fun i hi=>⟨fun hc=>?_,fun _=>(by first |exact True.intro |rfl)⟩⟩⟩;have hc:=of_decide_eq_true hc;have hi2:i<a.len:=by omega
  have hw:IntKind.i64.wrap ((i:Int)+1)=((i+1:Nat):Int):=by rw[IntWalk.i64_in _ (by omega)];omega
  exact ⟨⟨by omega,hc⟩,⟨by omega,by omega⟩,fun hb=>by rw[hR i hi2] at hb;simp at hb,fun _=>⟨i+1,⟨hi2,trivial⟩,by omega,hw,(by (repeat' with_reducible constructor)<;>rfl)⟩⟩
 ·trivial
noncomputable def DN:FSpec:=fun ds _=>match ds with
 | [.d a,.d b]=>some {val:=.one (.sc (.bool (.lit true))),vc:=[qE a b,bS a]}
 |_=>none
noncomputable def DO:Con:=con [gB0,gB0] DN
theorem L6:ConOK Tryz.prog 34 DO:=by
 refine bg tt_ok au Tryz.func34 rfl (fun _ _=>by kernel_rfl) (A:=fun ds=>⟨fun _=>Cons.of [(62,DK)],fun k=>match k,ds with | 4,[.d a,.d b]=>some {ι:=Nat,pre:=fun _ i=>i<=a.len/\True,μ:=fun i=>a.len+1-i,st:=fun s i=>aV s [(5,.one (.sc (.int .i64 (.sym (i:Nat)))))] [0,1] [] []} |_,_=>none,fun _=>none⟩) (fun _ _=>(af L4 aq)) (by kernel_rfl) ?_
 intro ds fr;unfold DN;split
 ·rename_i a b;refine kmp (q:=ac (fun (i:Nat)=>a.el (i:Int).toNat 0) fun Ea=>ac (fun (i:Nat)=>a.el (i:Int).toNat 1) fun Eb=>ac (fun (i:Nat)=>b.el (i:Int).toNat 1) fun Ec=>ac (fun (i:Nat)=>a.el (i:Int).toNat 6) fun Ed=>ac (fun (i:Nat)=>(Eb i).toS.toList==(Ec i).toS.toList&&(a.el (i:Int).toNat 2).toS.toList==(b.el (i:Int).toNat 2).toS.toList ||false) fun Ee=>ac (fun (i:Nat)=>(Eb i).toS.toList==(Ec i).toS.toList&&(a.el (i:Int).toNat 2).toS.toList==(b.el (i:Int).toNat 2).toS.toList) fun Ef=>ac (fun (i:Nat)=>b.el (i:Int).toNat 6) fun Eg=>ac (fun (i:Nat)=>a.el (i:Int).toNat 5) fun Eh=>ac (fun (i:Nat)=>b.el (i:Int).toNat 5) fun Ei=>ac (fun (i:Nat)=>a.el (i:Int).toNat 4) fun Ej=>ac (fun (i:Nat)=>b.el (i:Int).toNat 4) fun Ek=>ac (fun (i:Nat)=>a.el (i:Int).toNat 3) fun El=>ac (fun (i:Nat)=>b.el (i:Int).toNat 3) fun Em=>qE a b->bS a->(((a.len:Int) != (b.len:Int))=true->false=true)/\(((a.len:Int) != (b.len:Int))=false->(∃ (i:Nat),(i<=a.len/\True)/\0=(i:Int)/\a.rows=a.rows/\b.rows=b.rows)/\∀ (i:Nat),i<=a.len/\True->(decide ((i:Int)<(a.len:Int))=true->(0<=(i:Int)/\(i:Int)<(a.len:Int))/\(0<=(i:Int)/\(i:Int)<(b.len:Int))/\(((Ea i).toI != (b.el (i:Int).toNat 0).toI)=true->false=true)/\(((Ea i).toI != (b.el (i:Int).toNat 0).toI)=false->(((Ea i).toI==1)=true->(((Eb i).toS.toList==(Ec i).toS.toList)=true/\True->XQ (El i).toI (Ej i).toI (Eh i).toS (Ed i) (Em i).toI (Ek i).toI (Ei i).toS (Eg i))/\(((Eb i).toS.toList==(Ec i).toS.toList)=true/\True->kS (Ed i))/\((!((Eb i).toS.toList==(Ec i).toS.toList ||false))=true->false=true)/\((!((Eb i).toS.toList==(Ec i).toS.toList ||false))=false->∃ (j:Nat),(j<=a.len/\True)/\a.len+1-j<a.len+1-i/\IntKind.i64.wrap ((i:Int)+1)=(j:Int)/\a.rows=a.rows/\b.rows=b.rows))/\(((Ea i).toI==1)=false->(((Ea i).toI==2)=true->False)/\(((Ea i).toI==2)=false->(((Ea i).toI==3)=true->False)/\(((Ea i).toI==3)=false->(((Ea i).toI==4)=true->((Ef i)=true/\True->XQ (El i).toI (Ej i).toI (Eh i).toS (Ed i) (Em i).toI (Ek i).toI (Ei i).toS (Eg i))/\((Ef i)=true/\True->kS (Ed i))/\((!(Ee i))=true->false=true)/\((!(Ee i))=false->∃ (j:Nat),(j<=a.len/\True)/\a.len+1-j<a.len+1-i/\IntKind.i64.wrap ((i:Int)+1)=(j:Int)/\a.rows=a.rows/\b.rows=b.rows))/\(((Ea i).toI==4)=false->(((Ea i).toI==5)=true->False)/\(((Ea i).toI==5)=false->(((Ea i).toI==6)=true->False)/\(((Ea i).toI==6)=false->(((Ea i).toI==7)=true->((!(Eb i).toS.toList==(Ec i).toS.toList)=true->false=true)/\((!(Eb i).toS.toList==(Ec i).toS.toList)=false->∃ (j:Nat),(j<=a.len/\True)/\a.len+1-j<a.len+1-i/\IntKind.i64.wrap ((i:Int)+1)=(j:Int)/\a.rows=a.rows/\b.rows=b.rows))/\(((Ea i).toI==7)=false->∃ (j:Nat),(j<=a.len/\True)/\a.len+1-j<a.len+1-i/\IntKind.i64.wrap ((i:Int)+1)=(j:Int)/\a.rows=a.rows/\b.rows=b.rows)))))))))/\(decide ((i:Int)<(a.len:Int))=false->true=true))) (by kernel_rfl) ?_
  dsimp +instances only [ac]
  rintro ⟨hl,hR⟩ hs;have hs2:=(lK a).1 hs;have hz:=hs2.1;have en:∀ i:Nat,(i:Int).toNat=i:=fun i=>Int.toNat_natCast i
  simp only[Nat.reduceAdd,Nat.zero_add,en];refine ⟨fun hb=>by rw[hl] at hb;simp at hb,fun _=>⟨⟨0,⟨Nat.zero_le _,trivial⟩,rfl,(by (repeat' with_reducible constructor)<;>rfl)⟩,fun i hi=>⟨fun hc=>?_,fun _=>(by first |exact True.intro |rfl)⟩⟩⟩;have hc:=of_decide_eq_true hc;have hi2:i<a.len:=by omega
  have hw:IntKind.i64.wrap ((i:Int)+1)=((i+1:Nat):Int):=by rw[IntWalk.i64_in _ (by omega)];omega
  obtain ⟨r1,r2,r3,r4⟩:=hR i hi2;exact ⟨⟨by omega,hc⟩,⟨by omega,by omega⟩,fun hb=>by rw[r1,r2] at hb;simp at hb,fun _=>⟨fun _=>⟨fun _=>r4,fun _=>(hs2.2 i hi2).1,fun hb=>by rw[r3] at hb;simp at hb,fun _=>⟨i+1,⟨hi2,trivial⟩,by omega,hw,(by (repeat' with_reducible constructor)<;>rfl)⟩⟩,fun hb=>by rw[r1] at hb;simp at hb⟩⟩
 ·trivial
noncomputable def DP:FSpec:=fun ds _=>match ds with
 | [.d c,.d u,.d p,.d c2,.d u2,.d p2]=>some {val:=.one (.sc (.bool (.lit true))),vc:=[qF c u p c2 u2 p2,SyS c u p]}
 |_=>none
noncomputable def DQ:Con:=con [gS0,gS0] DP
theorem L7:ConOK Tryz.prog 11 DQ:=by
 refine bg tt_ok au Tryz.func11 rfl (fun _ _=>by kernel_rfl) (A:=fun ds=>⟨fun _=>Cons.of [(34,DO),(33,DM)],fun k=>match k,ds with | 4,[.d c,.d u,.d p,.d c2,.d u2,.d p2]=>some {ι:=Nat,pre:=fun _ i=>i<=c.len/\True,μ:=fun i=>c.len+1-i,st:=fun s i=>aV s [(5,.one (.sc (.int .i64 (.sym (i:Nat)))))] [2,3] [] [2,3]} | 10,[.d c,.d u,.d p,.d c2,.d u2,.d p2]=>some {ι:=Nat,pre:=fun _ i=>i<=u.len/\True,μ:=fun i=>u.len+1-i,st:=fun s i=>aV s [(8,.one (.sc (.int .i64 (.sym (i:Nat)))))] [2,3] [] [2,3]} | 21,[.d c,.d u,.d p,.d c2,.d u2,.d p2]=>some {ι:=Nat,pre:=fun _ i=>i<=p.len/\True,μ:=fun i=>p.len+1-i,st:=fun s i=>aV s [(12,.one (.sc (.int .i64 (.sym (i:Nat)))))] [2,3] [] [2,3]} |_,_=>none,fun _=>none⟩) (fun _ _=>(af L6 (af L5 aq))) (by kernel_rfl) ?_
 intro ds fr;unfold DP;split
 ·rename_i c u p c2 u2 p2
  refine kmp (q:=ac (fun (i:Nat)=>c2.el (i:Int).toNat 4) fun Ea=>ac (fun (i:Nat)=>c.el (i:Int).toNat 4) fun Eb=>ac (fun (i:Nat)=>c2.el (i:Int).toNat 3) fun Ec=>ac (fun (i:Nat)=>c.el (i:Int).toNat 3) fun Ed=>ac (fun (i:Nat)=>c2.el (i:Int).toNat 2) fun Ee=>ac (fun (i:Nat)=>c.el (i:Int).toNat 2) fun Ef=>ac (fun (i:Nat)=>p2.el (i:Int).toNat 0) fun Eg=>ac (fun (i:Nat)=>p.el (i:Int).toNat 0) fun Eh=>ac (fun (i:Nat)=>c2.el (i:Int).toNat 1) fun Ei=>ac (fun (i:Nat)=>c.el (i:Int).toNat 1) fun Ej=>ac (fun (i:Nat)=>c.el (i:Int).toNat 5) fun Ek=>ac (fun (i:Nat)=>c2.el (i:Int).toNat 0) fun El=>ac (fun (i:Nat)=>c.el (i:Int).toNat 0) fun Em=>qF c u p c2 u2 p2->SyS c u p->(((c.len:Int) != (c2.len:Int) ||(u.len:Int) != (u2.len:Int) ||(p.len:Int) != (p2.len:Int))=true->false=true)/\(((c.len:Int) != (c2.len:Int) ||(u.len:Int) != (u2.len:Int) ||(p.len:Int) != (p2.len:Int))=false->(∃ (i:Nat),(i<=c.len/\True)/\0=(i:Int)/\c.rows=c.rows/\u.rows=u.rows/\p.rows=p.rows/\c2.rows=c2.rows/\u2.rows=u2.rows/\p2.rows=p2.rows)/\∀ (i:Nat),i<=c.len/\True->(decide ((i:Int)<(c.len:Int))=true->(0<=(i:Int)/\(i:Int)<(c.len:Int))/\(0<=(i:Int)/\(i:Int)<(c2.len:Int))/\((!(Em i).toS.toList==(El i).toS.toList ||(Ej i).toI != (Ei i).toI ||(Ef i).toI != (Ee i).toI || !(Ed i).toS.toList==(Ec i).toS.toList || !(Eb i).toS.toList==(Ea i).toS.toList)=false/\True->cY (Ek i) (c2.el (i:Int).toNat 5))/\((!(Em i).toS.toList==(El i).toS.toList ||(Ej i).toI != (Ei i).toI ||(Ef i).toI != (Ee i).toI || !(Ed i).toS.toList==(Ec i).toS.toList || !(Eb i).toS.toList==(Ea i).toS.toList)=false/\True->(Ek i).len<=3000000)/\((!(Em i).toS.toList==(El i).toS.toList ||(Ej i).toI != (Ei i).toI ||(Ef i).toI != (Ee i).toI || !(Ed i).toS.toList==(Ec i).toS.toList || !(Eb i).toS.toList==(Ea i).toS.toList || !true)=true->false=true)/\((!(Em i).toS.toList==(El i).toS.toList ||(Ej i).toI != (Ei i).toI ||(Ef i).toI != (Ee i).toI || !(Ed i).toS.toList==(Ec i).toS.toList || !(Eb i).toS.toList==(Ea i).toS.toList || !true)=false->∃ (j:Nat),(j<=c.len/\True)/\c.len+1-j<c.len+1-i/\IntKind.i64.wrap ((i:Int)+1)=(j:Int)/\c.rows=c.rows/\u.rows=u.rows/\p.rows=p.rows/\c2.rows=c2.rows/\u2.rows=u2.rows/\p2.rows=p2.rows))/\(decide ((i:Int)<(c.len:Int))=false->(∃ (i:Nat),(i<=u.len/\True)/\0=(i:Int)/\c.rows=c.rows/\u.rows=u.rows/\p.rows=p.rows/\c2.rows=c2.rows/\u2.rows=u2.rows/\p2.rows=p2.rows)/\∀ (i:Nat),i<=u.len/\True->(decide ((i:Int)<(u.len:Int))=true->(0<=(i:Int)/\(i:Int)<(u.len:Int))/\(0<=(i:Int)/\(i:Int)<(u2.len:Int))/\((!(u.el (i:Int).toNat 0).toS.toList==(u2.el (i:Int).toNat 0).toS.toList ||((u.el (i:Int).toNat 1).len:Int) != ((u2.el (i:Int).toNat 1).len:Int))=true->false=true)/\((!(u.el (i:Int).toNat 0).toS.toList==(u2.el (i:Int).toNat 0).toS.toList ||((u.el (i:Int).toNat 1).len:Int) != ((u2.el (i:Int).toNat 1).len:Int))=false->False))/\(decide ((i:Int)<(u.len:Int))=false->(∃ (i:Nat),(i<=p.len/\True)/\0=(i:Int)/\c.rows=c.rows/\u.rows=u.rows/\p.rows=p.rows/\c2.rows=c2.rows/\u2.rows=u2.rows/\p2.rows=p2.rows)/\∀ (i:Nat),i<=p.len/\True->(decide ((i:Int)<(p.len:Int))=true->(0<=(i:Int)/\(i:Int)<(p.len:Int))/\(0<=(i:Int)/\(i:Int)<(p2.len:Int))/\((!(Eh i).toS.toList==(Eg i).toS.toList)=false/\True->cY (p.el (i:Int).toNat 1) (p2.el (i:Int).toNat 1))/\((!(Eh i).toS.toList==(Eg i).toS.toList)=false/\True->(p.el (i:Int).toNat 1).len<=3000000)/\((!(Eh i).toS.toList==(Eg i).toS.toList || !true)=false/\True->qE (p.el (i:Int).toNat 2) (p2.el (i:Int).toNat 2))/\((!(Eh i).toS.toList==(Eg i).toS.toList || !true)=false/\True->bS (p.el (i:Int).toNat 2))/\((!(Eh i).toS.toList==(Eg i).toS.toList || !true || !true)=true->false=true)/\((!(Eh i).toS.toList==(Eg i).toS.toList || !true || !true)=false->∃ (j:Nat),(j<=p.len/\True)/\p.len+1-j<p.len+1-i/\IntKind.i64.wrap ((i:Int)+1)=(j:Int)/\c.rows=c.rows/\u.rows=u.rows/\p.rows=p.rows/\c2.rows=c2.rows/\u2.rows=u2.rows/\p2.rows=p2.rows))/\(decide ((i:Int)<(p.len:Int))=false->true=true))))) (by kernel_rfl) ?_
  dsimp +instances only [ac]
  rintro ⟨c0,c1,u0,u1,hl,hR⟩ hs;have hz:=hs.p;have en:∀ i:Nat,(i:Int).toNat=i:=fun i=>Int.toNat_natCast i
  simp only[Nat.reduceAdd,Nat.zero_add,en];refine ⟨fun hb=>by rw[c0,c1,u0,u1,hl] at hb;simp at hb,fun _=>⟨⟨0,⟨Nat.zero_le _,trivial⟩,rfl,(by (repeat' with_reducible constructor)<;>rfl)⟩,fun i hi=>⟨fun hc=>absurd (of_decide_eq_true hc) (by omega),fun _=>⟨⟨0,⟨Nat.zero_le _,trivial⟩,rfl,(by (repeat' with_reducible constructor)<;>rfl)⟩,fun i hi=>⟨fun hc=>absurd (of_decide_eq_true hc) (by omega),fun _=>⟨⟨0,⟨Nat.zero_le _,trivial⟩,rfl,(by (repeat' with_reducible constructor)<;>rfl)⟩,fun i hi=>⟨fun hc=>?_,fun _=>(by first |exact True.intro |rfl)⟩⟩⟩⟩⟩⟩⟩;have hc:=of_decide_eq_true hc;have hi2:i<p.len:=by omega
  have hw:IntKind.i64.wrap ((i:Int)+1)=((i+1:Nat):Int):=by rw[IntWalk.i64_in _ (by omega)];omega
  obtain ⟨r1,r2,r3⟩:=hR i hi2;exact ⟨⟨by omega,hc⟩,⟨by omega,by omega⟩,fun _=>r2,fun _=>hs.pv i hi2,fun _=>r3,fun _=>hs.pb i hi2,fun hb=>by rw[r1] at hb;simp at hb,fun _=>⟨i+1,⟨hi2,trivial⟩,by omega,hw,(by (repeat' with_reducible constructor)<;>rfl)⟩⟩
 ·trivial
structure ExDp (ws:D) (en:Int) (k n:Int) (s:ByteArray) (d:D):Prop where
 fac:∀ (m:Nat) (dp:Int) (p:Nat) (pa:Int),biB k=false->xN k d dp=false->dp<=24->25<=(m:Int)+dp->p<=ws.len->At ws p (xW k n s d)->(wfR m en ws dp (rp p pa)).2.er=6
 pro:∀ (m:Nat) (dp:Int) (p:Nat) (pa:Int),suB k=false->xN k d dp=false->dp<=24->25<=(m:Int)+dp->p<=ws.len->At ws p (xW k n s d)->(cQA (wfR m en ws dp) (kQ ws sgM 6) ws (rp p pa)).2.er=6
 sum:∀ (m:Nat) (dp:Int) (p:Nat) (pa:Int),xN k d dp=false->dp<=24->25<=(m:Int)+dp->p<=ws.len->At ws p (xW k n s d)->(cQA (wpr (wfR m) en ws dp) (kQ ws sgA 4) ws (rp p pa)).2.er=6
theorem vj {ws sg:D} {fi:Int} {r:Rd} (h:r.er=6):kQ ws sg fi r=0:=if_neg (by rw[h];rintro ⟨h,_⟩;cases h)
theorem iV {P:Rd->Xp × Rd} {ws sg:D} {fi:Int} {r:Rd} (h:(P r).2.er=6):(cQA P (kQ ws sg fi) ws r).2.er=6:=by
 unfold cQA;rw[dk (vj h)];exact h
theorem qG {ws:D} {en:Int} {t:ByteArray} {r:Rd} (h:r.er=6):(muR ws en t r).er=6:=by
 unfold muR;have e:isB ws t r=false:=by unfold isB;rw[h];rfl
 rw[e];unfold ffR;rw[if_neg (by decide),if_neg (by rw[h];decide)];exact h
theorem vk {ws:D} {en:Int} {p:Nat} {pa:Int}:(ffR ws en 6 (rp p pa)).er=6:=by
 unfold ffR;rw[if_pos (show (rp p pa).er=0 from rfl)]
theorem ExDp.opd {ws:D} {en k n:Int} {s:ByteArray} {d:D} (H:ExDp ws en k n s d) {b:Bool} (hb:b=false->biB k=false) {m:Nat} {dp:Int} {p:Nat} {pa:Int} (hN:xN k d (dp+inB b)=false) (hd:dp<=24) (hm:25<=(m:Int)+dp) (hp:p<=ws.len) (hA:At ws p (par b (xW k n s d))) :
 (wfR m en ws dp (rp p pa)).2.er=6:=by
 cases b with
 |false=>exact H.fac m dp p pa (hb rfl) (by simpa [inB] using hN) hd hm hp hA
 |true=>
  have hN:xN k d (dp+1)=false:=hN;have hA:At ws p (⟨#[40]⟩::(xW k n s d++[⟨#[41]⟩])):=hA;obtain ⟨a1,a2⟩:=hA.cons;obtain ⟨a3,a4⟩:=a2.app
  cases m with
  |zero=>exfalso;simp at hm;omega
  |succ m=>
   show (rfB (wfR m) en ws dp (rp p pa)).2.er=_;unfold rfB;rw[if_pos (.inr (by rw[bK a1];decide))]
   by_cases h24:24<=dp
   ·rw[if_pos h24];exact vk
   ·rw[if_neg h24,if_neg (by rw[bK a1];decide),em];exact qG (H.sum m (dp+1) (p+1) pa hN (by omega) (by omega) a1.lt a3)
theorem DR {k:Int} {d:D} {dp:Int} (h:k=1 ∨ k=2) (hN:xN k d dp=false) (hd:dp<=24):False:=by
 unfold xN xNb at hN;rw[if_neg (by omega),if_neg (by omega)] at hN
 rcases h with rfl |rfl
 ·rw[if_neg (by decide)] at hN;cases hN
 ·rw[if_neg (by decide)] at hN;cases hN
theorem L8 {d:D} (h:0<d.len) {dp:Int} (hd:dp<=24) (hN:xN 3 d dp=false):xN (d.el 0 0).toI (d.el 0 3) (dp+1+inB (biB (d.el 0 0).toI))=false:=by
 rw[<- lj h];unfold xN xNb at hN;rw[if_neg (by omega),if_pos rfl] at hN;exact hN
theorem DS {k:Int} {d:D} (hb:biB k=true) (h:1<d.len) {dp:Int} (hd:dp<=24) (hN:xN k d dp=false):xN (d.el 0 0).toI (d.el 0 3) (dp+inB (brB k 0 (d.el 0 0).toI))=false ∨ xN (d.el 0 0).toI (d.el 0 3) (dp+inB (brB k 0 (d.el 0 0).toI))=true/\xN (d.el 1 0).toI (d.el 1 3) (dp+inB (brB k 1 (d.el 1 0).toI))=false:=by
 have hk:=ei hb;rw[<- lj (show 0<d.len by omega),<- lj h];unfold xN xNb at hN;rw[if_neg (by omega),if_neg (by omega),if_pos hb] at hN
 cases h0:kN d 0 (dp+inB (brB k 0 (d.el 0 0).toI)) with
 |false=>exact .inl rfl
 |true=>rw[h0] at hN;exact .inr ⟨rfl,by simpa using hN⟩
theorem ExDp.of_fac {ws:D} {en k n:Int} {s:ByteArray} {d:D} (H:∀ (m:Nat) (dp:Int) (p:Nat) (pa:Int),xN k d dp=false->dp<=24->25<=(m:Int)+dp->p<=ws.len->At ws p (xW k n s d)->(wfR m en ws dp (rp p pa)).2.er=6):ExDp ws en k n s d:=
 ⟨fun m dp p pa _=>H m dp p pa,fun m dp p pa _ hN hd hm hp hA=>iV (H m dp p pa hN hd hm hp hA),fun m dp p pa hN hd hm hp hA=>iV (iV (H m dp p pa hN hd hm hp hA))⟩
theorem L9 {ws:D} (hw:ws.len<=1000000) (en:Int) {k n:Int} {s:ByteArray} {d:D} (h:aX k n s d=true):ExDp ws en k n s d:=by
 refine (ns (P:=fun k n s d=>aX k n s d=true/\ExDp ws en k n s d) ?_ ?_ ?_ ?_ h).2
 ·intro n s d hn;exact ⟨hn,.of_fac fun m dp p pa hN hd=>(DR (.inl rfl) hN hd).elim⟩
 ·intro n s d hn;exact ⟨hn,.of_fac fun m dp p pa hN hd=>(DR (.inr rfl) hN hd).elim⟩
 ·intro n s d hl1 ih;have hl:0<d.len:=by omega
  refine ⟨?_,.of_fac fun m dp p pa hN hd hm hp hA=>?_⟩
  ·have e:aX 3 n s d=((d.len:Int)==1&&aE d 0):=rfl;rw[e,nq hl,ih.1,hl1];rfl
  ·have hK:=L8 hl hd hN;rw[lq n s hl] at hA;obtain ⟨a1,a2⟩:=hA.cons
   cases m with
   |zero=>exfalso;simp at hm;omega
   |succ m=>
    show (rfB (wfR m) en ws dp (rp p pa)).2.er=_;unfold rfB;rw[if_pos (.inl (by rw[bK a1];decide))]
    by_cases h24:24<=dp
    ·rw[if_pos h24];exact vk
    ·rw[if_neg h24,if_pos (by rw[bK a1];decide),em];exact ih.2.opd (b:=biB (d.el 0 0).toI) (fun hx=>hx) hK (by omega) (by omega) a1.lt a2
 ·intro k n s d hb hl2 ih0 ih1;have hl:1<d.len:=by omega
  have hk:=ei hb;have r0:=tK hw en ih0.1;have r1:=tK hw en ih1.1;refine ⟨by rw[Bb hb,nq (show 0<d.len by omega),nq hl,ih0.1,ih1.1,hl2];rfl,?_⟩
  by_cases hsu:suB k=true
  ·have hk:k=4 ∨ k=5:=by unfold suB at hsu;simpa using hsu
   have b0:brB k 0 (d.el 0 0).toI=false:=by unfold brB;rw[if_neg (by omega),if_pos hk];rfl
   have b1:brB k 1 (d.el 1 0).toI=suB (d.el 1 0).toI:=by unfold brB;rw[if_neg (by omega),if_pos hk];simp
   refine ⟨fun _ _ _ _ hx=>(by rw[hb] at hx;cases hx),fun _ _ _ _ hx=>(by rw[hsu] at hx;cases hx),fun m dp p pa hN hd hm hp hA=>?_⟩;have hN:=DS hb hl hd hN;rw[iH n s hb hl] at hA;rw[b0,b1] at hN;rw[b0,b1] at hA;rw[show ∀ l,par false l=l from fun _=>rfl] at hA;have e0:dp+inB false=dp:=Int.add_zero dp;rw[e0] at hN;obtain ⟨a1,a2⟩:=hA.app;obtain ⟨a3,a4⟩:=a2.cons
   rcases hN with hN |⟨n0,n1⟩
   ·exact ih0.2.sum m dp p pa hN hd hm hp a1
   ·have hp1:=a3.lt;have h0:=r0.sum m dp p pa n0 hm hp a1 (Bk a3 hk);generalize hL0:(xW (d.el 0 0).toI (d.el 0 1).toI (d.el 0 2).toS (d.el 0 3)).length=L0 at *;have hr:(wpr (wfR m) en ws dp (rp (p+L0+1) pa)).2.er=6:=by
     cases hs1:suB (d.el 1 0).toI with
     |true=>
      rw[hs1] at n1 a4;exact iV (ih1.2.opd (b:=true) (fun hx=>by cases hx) n1 hd hm hp1 a4)
     |false=>
      rw[hs1] at n1 a4;exact ih1.2.pro m dp (p+L0+1) pa hs1 (by simpa [inB] using n1) hd hm hp1 a4
    have hK:=Bj (pa:=pa) a3 hk;have st:=jE (P:=wpr (wfR m) en ws dp) (K:=kQ ws sgA 4) (pL (gi m) en ws dp) fF (r:=rp (p+L0) pa) (xC (d.el 0 0).toI (d.el 0 1).toI (d.el 0 2).toS (d.el 0 3)) (iF (by omega) hw) (by rw[hK];omega);rw[h0,<- st,em,dk (vj hr)];exact hr
  ·have hsu:suB k=false:=by simpa using hsu
   have hk:k=6 ∨ k=7 ∨ k=8:=by
    unfold suB at hsu;simp only[Bool.or_eq_false_iff,beq_eq_false_iff_ne] at hsu;omega
   have b0:brB k 0 (d.el 0 0).toI=suB (d.el 0 0).toI:=by unfold brB;rw[if_neg (by omega),if_neg (by omega),if_pos hk];simp
   have b1:brB k 1 (d.el 1 0).toI=(suB (d.el 1 0).toI ||biB (d.el 1 0).toI):=by unfold brB;rw[if_neg (by omega),if_neg (by omega),if_pos hk];simp
   have H:∀ (m:Nat) (dp:Int) (p:Nat) (pa:Int),xN k d dp=false->dp<=24->25<=(m:Int)+dp->p<=ws.len->At ws p (xW k n s d)->(cQA (wfR m en ws dp) (kQ ws sgM 6) ws (rp p pa)).2.er=6:=by
    intro m dp p pa hN hd hm hp hA;have hN:=DS hb hl hd hN;rw[iH n s hb hl] at hA;rw[b0,b1] at hN;rw[b0,b1] at hA;obtain ⟨a1,a2⟩:=hA.app;obtain ⟨a3,a4⟩:=a2.cons
    rcases hN with hN |⟨n0,n1⟩
    ·cases hs0:suB (d.el 0 0).toI with
     |true=>
      rw[hs0] at hN a1;exact iV (ih0.2.opd (b:=true) (fun hx=>by cases hx) hN hd hm hp a1)
     |false=>
      rw[hs0] at hN a1;exact ih0.2.pro m dp p pa hs0 (by simpa [inB] using hN) hd hm hp a1
    ·have hp1:=a3.lt;have h0:cQA (wfR m en ws dp) (kQ ws sgM 6) ws (rp p pa)=cQL (wfR m en ws dp) (kQ ws sgM 6) (left ws (rp (p+(par (suB (d.el 0 0).toI) (xW (d.el 0 0).toI (d.el 0 1).toI (d.el 0 2).toS (d.el 0 3))).length) pa)) (xC (d.el 0 0).toI (d.el 0 1).toI (d.el 0 2).toS (d.el 0 3)) (rp (p+(par (suB (d.el 0 0).toI) (xW (d.el 0 0).toI (d.el 0 1).toI (d.el 0 2).toS (d.el 0 3))).length) pa):=by
      cases hs0:suB (d.el 0 0).toI with
      |true=>
       rw[hs0] at n0 a1;exact nv (r0.opd (b:=true) (fun hx=>by cases hx) n0 hm hp a1)
      |false=>
       rw[hs0] at n0 a1;exact r0.pro m dp p pa hs0 (by simpa [inB] using n0) hm hp a1
     generalize hL0:(par (suB (d.el 0 0).toI) (xW (d.el 0 0).toI (d.el 0 1).toI (d.el 0 2).toS (d.el 0 3))).length=L0 at *;have hr:=ih1.2.opd (b:=suB (d.el 1 0).toI ||biB (d.el 1 0).toI) (fun hx=>(Bool.or_eq_false_iff.1 hx).2) (pa:=pa) n1 hd hm hp1 a4;have hK:=Bi (pa:=pa) a3 hk;have st:=jE (P:=wfR m en ws dp) (K:=kQ ws sgM 6) (gi m en ws dp) fF (r:=rp (p+L0) pa) (xC (d.el 0 0).toI (d.el 0 1).toI (d.el 0 2).toS (d.el 0 3)) (iF (by omega) hw) (by rw[hK];omega);rw[h0,<- st,em,dk (vj hr)];exact hr
   exact ⟨fun _ _ _ _ hx=>(by rw[hb] at hx;cases hx),fun m dp p pa _=>H m dp p pa,fun m dp p pa hN hd hm hp hA=>iV (H m dp p pa hN hd hm hp hA)⟩
def pk:Nat->List ByteArray->List ByteArray
 | 0,l=>l
 |j+1,l=>⟨#[40]⟩::(pk j l++[⟨#[41]⟩])
theorem nP:∀ (j:Nat) (l:List ByteArray),(pk j l).length=l.length+2*j
 | 0,l=>rfl
 |j+1,l=>by
  show (_::(pk j l++[_])).length=_;rw[List.length_cons,List.length_append,nP j l,List.length_singleton];omega
theorem Ma {ws:D} {en:Int} {m:Nat} {dp:Int} {p q:Nat} {pa:Int} {x:Xp} (h:wfR m en ws dp (rp p pa)=(x,rp q pa)) (hq:noX ws q dV) (ha:noX ws q fc):wsm (wfR m) en ws dp (rp p pa)=(x,rp q pa):=by
 have h1:wpr (wfR m) en ws dp (rp p pa)=(x,rp q pa):=by
  show cQA _ _ _ _=_;unfold cQA;rw[h,dk (Bg hq)]
 show cQA _ _ _ _=_;unfold cQA;rw[h1,dk (Bh ha)]
theorem DT {ws:D} {en k n:Int} {s:ByteArray} {d:D} (H:ExRd ws en k n s d):∀ (j m:Nat) (dp:Int) (p:Nat) (pa:Int),xN k d (dp+j)=true->25<=(m:Int)+dp->p<=ws.len->At ws p (pk j (xW k n s d))->noX ws (p+(pk j (xW k n s d)).length) dV->noX ws (p+(pk j (xW k n s d)).length) fc->wsm (wfR m) en ws dp (rp p pa)=(xC k n s d,rp (p+(pk j (xW k n s d)).length) pa)
 | 0,m,dp,p,pa,hN,hm,hp,hA,hq,ha=>H.all (by simpa using hN) hm hp hA hq ha
 |j+1,m,dp,p,pa,hN,hm,hp,hA,hq,ha=>by
  have hA:At ws p (⟨#[40]⟩::(pk j (xW k n s d)++[⟨#[41]⟩])):=hA;obtain ⟨a1,a2⟩:=hA.cons;obtain ⟨a3,a4⟩:=a2.app;obtain ⟨a5,_⟩:=a4.cons;have hd:=iG hN;have hl:(pk (j+1) (xW k n s d)).length=1+(pk j (xW k n s d)).length+1:=by rw[nP,nP];omega
  refine Ma ?_ hq ha
  cases m with
  |zero=>exfalso;simp at hm;omega
  |succ m=>
   have hs:=DT H j m (dp+1) (p+1) pa (by rw[show dp+1+(j:Int)=dp+((j+1:Nat):Int) by omega];exact hN) (by omega) a1.lt a3 (jJ a5 (by simp [dV])) (jJ a5 (by simp [fc]));show rfB (wfR m) en ws dp (rp p pa)=_;unfold rfB;rw[if_pos (.inr (by rw[bK a1];decide)),if_neg (by omega),if_neg (by rw[bK a1];decide),em,hs,hl];show (_,muR ws en clB (rp _ pa))=_;rw[jI (w:=clB) a5 (by decide)];simp only[Nat.add_assoc]
theorem DU {ws:D} {en k n:Int} {s:ByteArray} {d:D} (H:ExDp ws en k n s d):∀ (j m:Nat) (dp:Int) (p:Nat) (pa:Int),xN k d (dp+j)=false->dp<=24->25<=(m:Int)+dp->p<=ws.len->At ws p (pk j (xW k n s d))->(wsm (wfR m) en ws dp (rp p pa)).2.er=6
 | 0,m,dp,p,pa,hN,hd,hm,hp,hA=>H.sum m dp p pa (by simpa using hN) hd hm hp hA
 |j+1,m,dp,p,pa,hN,hd,hm,hp,hA=>by
  have hA:At ws p (⟨#[40]⟩::(pk j (xW k n s d)++[⟨#[41]⟩])):=hA;obtain ⟨a1,a2⟩:=hA.cons;obtain ⟨a3,a4⟩:=a2.app;refine iV (P:=wpr (wfR m) en ws dp) (iV (P:=wfR m en ws dp) ?_)
  cases m with
  |zero=>exfalso;simp at hm;omega
  |succ m=>
   show (rfB (wfR m) en ws dp (rp p pa)).2.er=_;unfold rfB;rw[if_pos (.inr (by rw[bK a1];decide))]
   by_cases h24:24<=dp
   ·rw[if_pos h24];exact vk
   ·rw[if_neg h24,if_neg (by rw[bK a1];decide),em];exact qG (DU H j m (dp+1) (p+1) pa (by rw[show dp+1+(j:Int)=dp+((j+1:Nat):Int) by omega];exact hN) (by omega) (by omega) a1.lt a3)
end Go.Proofs.YtbhbjhejkamlnaaGreat.Sx.Z
