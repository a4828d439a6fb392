import Derived.Test.YtbhbjhejkamlnaaZ25
import Derived.Test.YtbhbjhejkamlnaaZ21
import Derived.Test.YtbhbjhejkamlnaaZ13
namespace Go.Proofs.Ytbhbjhejkamlnaa.Sx.Z
open Go.RowKit
def qCh:AP:=.agg [.c .str,.c (.int .i64),.c (.int .i64),.c .str,.c .str,.c (.rows 9)]
def qRu:AP:=.agg [.c .str,.c (.rows 106)]
def qPo:AP:=.agg [.c .str,.c (.rows 9),.c (.rows 95)]
def qSy:AP:=.agg [.c (.rows 97),.c (.rows 102),.c (.rows 87)]
def nsAl (a b:D):Prop:=a.len=b.len/\∀ i,i<a.len->(a.el i 0).toS=(b.el i 0).toS
def mvAl (a b:D):Prop:=a.len=b.len/\∀ i,i<a.len->(a.el i 0).toI=(b.el i 0).toI/\(a.el i 1).toS=(b.el i 1).toS/\(a.el i 2).toI=(b.el i 2).toI
def chAl (a b:D) (i:Nat):Prop:=(a.el i 0).toS=(b.el i 0).toS/\(a.el i 1).toI=(b.el i 1).toI/\(a.el i 2).toI=(b.el i 2).toI/\(a.el i 3).toS=(b.el i 3).toS/\(a.el i 4).toS=(b.el i 4).toS/\nsAl (a.el i 5) (b.el i 5)
def ruAl (a b:D) (i:Nat):Prop:=(a.el i 0).toS=(b.el i 0).toS/\mvAl (a.el i 1) (b.el i 1)
def prAl (a b:D) (i:Nat):Prop:=(a.el i 0).toS=(b.el i 0).toS/\nsAl (a.el i 1) (b.el i 1)/\BR (a.el i 2) (b.el i 2)
def chAls (a b:D):Prop:=a.len=b.len/\∀ i,i<a.len->chAl a b i
def ruAls (a b:D):Prop:=a.len=b.len/\∀ i,i<a.len->ruAl a b i
def prAls (a b:D):Prop:=a.len=b.len/\∀ i,i<a.len->prAl a b i
noncomputable def eqzS:FSpec:=fun ds _=>match ds with
 | [.d a,.d b]=>some {val:=.one (.sc (.bool (.lit true))),vc:=[nsAl a b,a.len<=1000000]}
 |_=>none
noncomputable def eqzC:Con:=con [.sc (.rows 9),.sc (.rows 9)] eqzS
theorem eqz_ok:ConOK Try.prog 49 eqzC:=by
 refine fn_ob tt_ok mixed Try.func49 rfl (fun _ _=>by kernel_rfl) (A:=fun ds=>⟨fun _=>Cons.of [],fun k=>match k,ds with | 4,[.d a,.d b]=>some {ι:=Nat,pre:=fun _ i=>i<=a.len/\True,μ:=fun i=>a.len+1-i,st:=fun s i=>famR s [(13,.one (.sc (.int .i64 (.sym ((i:Nat)))))),(12,.one (.sc (.int .i64 (.sym ((a.len:Nat))))))] [0,1,11] [] []} |_,_=>none,fun _=>none⟩) (fun _ _=>cons_nil) (by kernel_rfl) ?_
 intro ds fr
 unfold eqzS
 split
 ·rename_i a b
  refine kmp (q:=nsAl a b->a.len<=(1000000:Nat)->(((↑a.len:Int) != (↑b.len:Int))=true->false=true)/\(((↑a.len:Int) != (↑b.len:Int))=false->(∃ (i:Nat),(i<=a.len/\True)/\(0:Int)=(↑i:Int)/\(↑a.len:Int)=(↑a.len:Int)/\a.rows=a.rows/\b.rows=b.rows/\a.rows=a.rows)/\∀ (i:Nat),i<=a.len/\True->(decide ((↑i:Int)<(↑a.len:Int))=true->((0:Int)<=(↑i:Int)/\(↑i:Int)<(↑a.len:Int))/\((0:Int)<=(↑i:Int)/\(↑i:Int)<(↑b.len:Int))/\((!(a.el (↑i:Int).toNat (0:Nat)).toS.toList==(b.el (↑i:Int).toNat (0:Nat)).toS.toList)=true->false=true)/\((!(a.el (↑i:Int).toNat (0:Nat)).toS.toList==(b.el (↑i:Int).toNat (0:Nat)).toS.toList)=false->∃ (j:Nat),(j<=a.len/\True)/\a.len+(1:Nat)-j<a.len+(1:Nat)-i/\IntKind.i64.wrap ((↑i:Int)+(1:Int))=(↑j:Int)/\(↑a.len:Int)=(↑a.len:Int)/\a.rows=a.rows/\b.rows=b.rows/\a.rows=a.rows))/\(decide ((↑i:Int)<(↑a.len:Int))=false->true=true))) (by kernel_rfl) ?_
  rintro ⟨hl,hR⟩ hz1
  refine ⟨fun hc=>by rw [hl] at hc;simp at hc,fun _=>⟨⟨0,⟨Nat.zero_le _,trivial⟩,(by (repeat' (with_reducible apply And.intro))<;>first |with_reducible rfl |exact True.intro |assumption |(symm;assumption) |rfl)⟩,fun i hi=>⟨fun hc=>?_,fun _=>rfl⟩⟩⟩
  have hc:=of_decide_eq_true hc
  have hi2:i<a.len:=by omega
  have en:(i:Int).toNat=i:=Int.toNat_natCast i
  have hw:IntKind.i64.wrap ((i:Int)+1)=((i+1:Nat):Int):=by rw [IntWalk.i64_in _ (by omega)];omega
  simp only [en]
  exact ⟨⟨by omega,hc⟩,⟨by omega,by omega⟩,fun hx=>by rw [hR i hi2] at hx;simp at hx,fun _=>⟨i+1,⟨hi2,trivial⟩,by omega,hw,(by (repeat' (with_reducible apply And.intro))<;>first |with_reducible rfl |exact True.intro |assumption |(symm;assumption) |rfl)⟩⟩
 ·trivial
noncomputable def eqmS:FSpec:=fun ds _=>match ds with
 | [.d a,.d b]=>some {val:=.one (.sc (.bool (.lit true))),vc:=[mvAl a b,a.len<=1000000]}
 |_=>none
noncomputable def eqmC:Con:=con [.sc (.rows 106),.sc (.rows 106)] eqmS
theorem eqm_ok:ConOK Try.prog 50 eqmC:=by
 refine fn_ob tt_ok mixed Try.func50 rfl (fun _ _=>by kernel_rfl) (A:=fun ds=>⟨fun _=>Cons.of [],fun k=>match k,ds with | 4,[.d a,.d b]=>some {ι:=Nat,pre:=fun _ i=>i<=a.len/\True,μ:=fun i=>a.len+1-i,st:=fun s i=>famR s [(13,.one (.sc (.int .i64 (.sym ((i:Nat)))))),(12,.one (.sc (.int .i64 (.sym ((a.len:Nat))))))] [0,1,11] [] []} |_,_=>none,fun _=>none⟩) (fun _ _=>cons_nil) (by kernel_rfl) ?_
 intro ds fr
 unfold eqmS
 split
 ·rename_i a b
  refine kmp (q:=mvAl a b->a.len<=(1000000:Nat)->(((↑a.len:Int) != (↑b.len:Int))=true->false=true)/\(((↑a.len:Int) != (↑b.len:Int))=false->(∃ (i:Nat),(i<=a.len/\True)/\(0:Int)=(↑i:Int)/\(↑a.len:Int)=(↑a.len:Int)/\a.rows=a.rows/\b.rows=b.rows/\a.rows=a.rows)/\∀ (i:Nat),i<=a.len/\True->(decide ((↑i:Int)<(↑a.len:Int))=true->((0:Int)<=(↑i:Int)/\(↑i:Int)<(↑a.len:Int))/\((0:Int)<=(↑i:Int)/\(↑i:Int)<(↑b.len:Int))/\((!((a.el (↑i:Int).toNat (0:Nat)).toI==(b.el (↑i:Int).toNat (0:Nat)).toI&&((a.el (↑i:Int).toNat 1).toS.toList==(b.el (↑i:Int).toNat 1).toS.toList&&((a.el (↑i:Int).toNat 2).toI==(b.el (↑i:Int).toNat 2).toI&&true))))=true->false=true)/\((!((a.el (↑i:Int).toNat (0:Nat)).toI==(b.el (↑i:Int).toNat (0:Nat)).toI&&((a.el (↑i:Int).toNat 1).toS.toList==(b.el (↑i:Int).toNat 1).toS.toList&&((a.el (↑i:Int).toNat 2).toI==(b.el (↑i:Int).toNat 2).toI&&true))))=false->∃ (j:Nat),(j<=a.len/\True)/\a.len+(1:Nat)-j<a.len+(1:Nat)-i/\IntKind.i64.wrap ((↑i:Int)+(1:Int))=(↑j:Int)/\(↑a.len:Int)=(↑a.len:Int)/\a.rows=a.rows/\b.rows=b.rows/\a.rows=a.rows))/\(decide ((↑i:Int)<(↑a.len:Int))=false->true=true))) (by kernel_rfl) ?_
  rintro ⟨hl,hR⟩ hz1
  refine ⟨fun hc=>by rw [hl] at hc;simp at hc,fun _=>⟨⟨0,⟨Nat.zero_le _,trivial⟩,(by (repeat' (with_reducible apply And.intro))<;>first |with_reducible rfl |exact True.intro |assumption |(symm;assumption) |rfl)⟩,fun i hi=>⟨fun hc=>?_,fun _=>rfl⟩⟩⟩
  have hc:=of_decide_eq_true hc
  have hi2:i<a.len:=by omega
  have en:(i:Int).toNat=i:=Int.toNat_natCast i
  have hw:IntKind.i64.wrap ((i:Int)+1)=((i+1:Nat):Int):=by rw [IntWalk.i64_in _ (by omega)];omega
  simp only [en]
  exact ⟨⟨by omega,hc⟩,⟨by omega,by omega⟩,fun hx=>by obtain ⟨r1,r2,r3⟩:=hR i hi2;rw [r1,r2,r3] at hx;simp at hx,fun _=>⟨i+1,⟨hi2,trivial⟩,by omega,hw,(by (repeat' (with_reducible apply And.intro))<;>first |with_reducible rfl |exact True.intro |assumption |(symm;assumption) |rfl)⟩⟩
 ·trivial
noncomputable def schS:FSpec:=fun ds _=>match ds with
 | [.s n,.i k,.i z,.s f,.s t,.d d,.s n2,.i k2,.i z2,.s f2,.s t2,.d d2]=>some {val:=.one (.sc (.bool (.lit true))),vc:=[(n=n2/\k=k2/\z=z2/\f=f2/\t=t2/\nsAl d d2),d.len<=1000000]}
 |_=>none
noncomputable def schC:Con:=con [qCh,qCh] schS
theorem sch_ok:ConOK Try.prog 24 schC:=by
 refine fn_ob tt_ok mixed Try.func24 rfl (fun _ _=>by kernel_rfl) (A:=fun ds=>⟨fun _=>Cons.of [(49,eqzC)],fun _=>none,fun _=>none⟩) (fun _ _=>(cons_cons eqz_ok cons_nil)) (by kernel_rfl) ?_
 intro ds fr
 unfold schS
 split
 ·rename_i n k z f t d n2 k2 z2 f2 t2 d2
  refine kmp (q:=n=n2/\k=k2/\z=z2/\f=f2/\t=t2/\nsAl d d2->d.len<=(1000000:Nat)->((n.toList==n2.toList&&k==k2&&z==z2&&f.toList==f2.toList&&t.toList==t2.toList)=true/\True->nsAl d d2)/\((n.toList==n2.toList&&k==k2&&z==z2&&f.toList==f2.toList&&t.toList==t2.toList)=true/\True->d.len<=(1000000:Nat))/\(n.toList==n2.toList&&k==k2&&z==z2&&f.toList==f2.toList&&t.toList==t2.toList ||false)=true) (by kernel_rfl) ?_
  rintro ⟨rfl,rfl,rfl,rfl,rfl,hd⟩ hl
  exact ⟨fun _=>hd,fun _=>hl,by simp⟩
 ·trivial
noncomputable def sruS:FSpec:=fun ds _=>match ds with
 | [.s n,.d d,.s n2,.d d2]=>some {val:=.one (.sc (.bool (.lit true))),vc:=[(n=n2/\mvAl d d2),d.len<=1000000]}
 |_=>none
noncomputable def sruC:Con:=con [qRu,qRu] sruS
theorem sru_ok:ConOK Try.prog 26 sruC:=by
 refine fn_ob tt_ok mixed Try.func26 rfl (fun _ _=>by kernel_rfl) (A:=fun ds=>⟨fun _=>Cons.of [(50,eqmC)],fun _=>none,fun _=>none⟩) (fun _ _=>(cons_cons eqm_ok cons_nil)) (by kernel_rfl) ?_
 intro ds fr
 unfold sruS
 split
 ·rename_i n d n2 d2
  refine kmp (q:=n=n2/\mvAl d d2->d.len<=(1000000:Nat)->((n.toList==n2.toList)=true/\True->mvAl d d2)/\((n.toList==n2.toList)=true/\True->d.len<=(1000000:Nat))/\(n.toList==n2.toList ||false)=true) (by kernel_rfl) ?_
  rintro ⟨rfl,hd⟩ hl
  exact ⟨fun _=>hd,fun _=>hl,by simp⟩
 ·trivial
noncomputable def spoS:FSpec:=fun ds _=>match ds with
 | [.s n,.d d,.d b,.s n2,.d d2,.d b2]=>some {val:=.one (.sc (.bool (.lit true))),vc:=[(n=n2/\nsAl d d2/\BR b b2),d.len<=1000000,bS b]}
 |_=>none
noncomputable def spoC:Con:=con [qPo,qPo] spoS
theorem spo_ok:ConOK Try.prog 28 spoC:=by
 refine fn_ob tt_ok mixed Try.func28 rfl (fun _ _=>by kernel_rfl) (A:=fun ds=>⟨fun _=>Cons.of [(49,eqzC),(51,sbyC)],fun _=>none,fun _=>none⟩) (fun _ _=>(cons_cons eqz_ok (cons_cons sby_ok cons_nil))) (by kernel_rfl) ?_
 intro ds fr
 unfold spoS
 split
 ·rename_i n d b n2 d2 b2
  refine kmp (q:=n=n2/\nsAl d d2/\BR b b2->d.len<=(1000000:Nat)->bS b->((n.toList==n2.toList)=true/\True->nsAl d d2)/\((n.toList==n2.toList)=true/\True->d.len<=(1000000:Nat))/\((n.toList==n2.toList ||false)=true/\True->BR b b2)/\((n.toList==n2.toList ||false)=true/\True->bS b)/\(n.toList==n2.toList ||false ||false)=true) (by kernel_rfl) ?_
  rintro ⟨rfl,hd,hb⟩ hl hs
  exact ⟨fun _=>hd,fun _=>hl,fun _=>hb,fun _=>hs,by simp⟩
 ·trivial
noncomputable def eqcS:FSpec:=fun ds _=>match ds with
 | [.d a,.d b,.v kf]=>(match isFn 24 kf with |true=>some {val:=.one (.sc (.bool (.lit true))),vc:=[chAls a b,a.len<=1000000,(∀ i,i<a.len->(a.el i 5).len<=1000000)]} |false=>none)
 |_=>none
noncomputable def eqcC:Con:=con [.sc (.rows 97),.sc (.rows 97),.sc .any] eqcS
theorem eqc_ok:ConOK Try.prog 23 eqcC:=by
 refine fn_ob tt_ok mixed Try.func23 rfl (fun _ _=>by kernel_rfl) (A:=fun ds=>⟨fun _=>Cons.of [(24,schC)],fun k=>match k,ds with | 4,[.d a,.d b,.v _]=>some {ι:=Nat,pre:=fun _ i=>i<=a.len/\True,μ:=fun i=>a.len+1-i,st:=fun s i=>famR s [(17,.one (.sc (.int .i64 (.sym ((i:Nat)))))),(16,.one (.sc (.int .i64 (.sym ((a.len:Nat))))))] [0,1,2,15] [] []} |_,_=>none,fun _=>none⟩) (fun _ _=>(cons_cons sch_ok cons_nil)) (by kernel_rfl) ?_
 intro ds fr
 unfold eqcS
 split
 ·rename_i a b kf
  split
  ·rename_i hg
   obtain rfl:=isFn_eq hg
   refine kmp (q:=chAls a b->a.len<=(1000000:Nat)->(∀ (i:Nat),i<a.len->(a.el i (5:Nat)).len<=(1000000:Nat))->(((↑a.len:Int) != (↑b.len:Int))=true->false=true)/\(((↑a.len:Int) != (↑b.len:Int))=false->(∃ (i:Nat),(i<=a.len/\True)/\(0:Int)=(↑i:Int)/\(↑a.len:Int)=(↑a.len:Int)/\a.rows=a.rows/\b.rows=b.rows/\Value.func (Fn.func (24:Nat)) #[] #[]=Value.func (Fn.func (24:Nat)) #[] #[]/\a.rows=a.rows)/\∀ (i:Nat),i<=a.len/\True->(decide ((↑i:Int)<(↑a.len:Int))=true->((0:Int)<=(↑i:Int)/\(↑i:Int)<(↑a.len:Int))/\((0:Int)<=(↑i:Int)/\(↑i:Int)<(↑b.len:Int))/\((a.el (↑i:Int).toNat (0:Nat)).toS=(b.el (↑i:Int).toNat (0:Nat)).toS/\(a.el (↑i:Int).toNat 1).toI=(b.el (↑i:Int).toNat 1).toI/\(a.el (↑i:Int).toNat 2).toI=(b.el (↑i:Int).toNat 2).toI/\(a.el (↑i:Int).toNat 3).toS=(b.el (↑i:Int).toNat 3).toS/\(a.el (↑i:Int).toNat 4).toS=(b.el (↑i:Int).toNat 4).toS/\nsAl (a.el (↑i:Int).toNat 5) (b.el (↑i:Int).toNat 5))/\(a.el (↑i:Int).toNat 5).len<=(1000000:Nat)/\∃ (j:Nat),(j<=a.len/\True)/\a.len+(1:Nat)-j<a.len+(1:Nat)-i/\IntKind.i64.wrap ((↑i:Int)+(1:Int))=(↑j:Int)/\(↑a.len:Int)=(↑a.len:Int)/\a.rows=a.rows/\b.rows=b.rows/\Value.func (Fn.func (24:Nat)) #[] #[]=Value.func (Fn.func (24:Nat)) #[] #[]/\a.rows=a.rows)/\(decide ((↑i:Int)<(↑a.len:Int))=false->true=true))) (by kernel_rfl) ?_
   intro he hk hm
   obtain ⟨hl,hR⟩:=he
   have hz1:a.len<=1000000:=hk
   refine ⟨fun hc=>by rw [hl] at hc;simp at hc,fun _=>⟨⟨0,⟨Nat.zero_le _,trivial⟩,(by (repeat' (with_reducible apply And.intro))<;>first |with_reducible rfl |exact True.intro |assumption |(symm;assumption) |rfl)⟩,fun i hi=>⟨fun hc=>?_,fun _=>rfl⟩⟩⟩
   have hc:=of_decide_eq_true hc
   have hi2:i<a.len:=by omega
   have en:(i:Int).toNat=i:=Int.toNat_natCast i
   have hw:IntKind.i64.wrap ((i:Int)+1)=((i+1:Nat):Int):=by rw [IntWalk.i64_in _ (by omega)];omega
   simp only [en]
   exact ⟨⟨by omega,hc⟩,⟨by omega,by omega⟩,hR i hi2,hm i hi2,i+1,⟨hi2,trivial⟩,by omega,hw,(by (repeat' (with_reducible apply And.intro))<;>first |with_reducible rfl |exact True.intro |assumption |(symm;assumption) |rfl)⟩
  ·trivial
 ·trivial
noncomputable def equS:FSpec:=fun ds _=>match ds with
 | [.d a,.d b,.v kf]=>(match isFn 26 kf with |true=>some {val:=.one (.sc (.bool (.lit true))),vc:=[ruAls a b,a.len<=1000000,(∀ i,i<a.len->(a.el i 1).len<=1000000)]} |false=>none)
 |_=>none
noncomputable def equC:Con:=con [.sc (.rows 102),.sc (.rows 102),.sc .any] equS
theorem equ_ok:ConOK Try.prog 25 equC:=by
 refine fn_ob tt_ok mixed Try.func25 rfl (fun _ _=>by kernel_rfl) (A:=fun ds=>⟨fun _=>Cons.of [(26,sruC)],fun k=>match k,ds with | 4,[.d a,.d b,.v _]=>some {ι:=Nat,pre:=fun _ i=>i<=a.len/\True,μ:=fun i=>a.len+1-i,st:=fun s i=>famR s [(17,.one (.sc (.int .i64 (.sym ((i:Nat)))))),(16,.one (.sc (.int .i64 (.sym ((a.len:Nat))))))] [0,1,2,15] [] []} |_,_=>none,fun _=>none⟩) (fun _ _=>(cons_cons sru_ok cons_nil)) (by kernel_rfl) ?_
 intro ds fr
 unfold equS
 split
 ·rename_i a b kf
  split
  ·rename_i hg
   obtain rfl:=isFn_eq hg
   refine kmp (q:=ruAls a b->a.len<=(1000000:Nat)->(∀ (i:Nat),i<a.len->(a.el i (1:Nat)).len<=(1000000:Nat))->(((↑a.len:Int) != (↑b.len:Int))=true->false=true)/\(((↑a.len:Int) != (↑b.len:Int))=false->(∃ (i:Nat),(i<=a.len/\True)/\(0:Int)=(↑i:Int)/\(↑a.len:Int)=(↑a.len:Int)/\a.rows=a.rows/\b.rows=b.rows/\Value.func (Fn.func (26:Nat)) #[] #[]=Value.func (Fn.func (26:Nat)) #[] #[]/\a.rows=a.rows)/\∀ (i:Nat),i<=a.len/\True->(decide ((↑i:Int)<(↑a.len:Int))=true->((0:Int)<=(↑i:Int)/\(↑i:Int)<(↑a.len:Int))/\((0:Int)<=(↑i:Int)/\(↑i:Int)<(↑b.len:Int))/\((a.el (↑i:Int).toNat (0:Nat)).toS=(b.el (↑i:Int).toNat (0:Nat)).toS/\mvAl (a.el (↑i:Int).toNat 1) (b.el (↑i:Int).toNat 1))/\(a.el (↑i:Int).toNat 1).len<=(1000000:Nat)/\∃ (j:Nat),(j<=a.len/\True)/\a.len+(1:Nat)-j<a.len+(1:Nat)-i/\IntKind.i64.wrap ((↑i:Int)+(1:Int))=(↑j:Int)/\(↑a.len:Int)=(↑a.len:Int)/\a.rows=a.rows/\b.rows=b.rows/\Value.func (Fn.func (26:Nat)) #[] #[]=Value.func (Fn.func (26:Nat)) #[] #[]/\a.rows=a.rows)/\(decide ((↑i:Int)<(↑a.len:Int))=false->true=true))) (by kernel_rfl) ?_
   intro he hk hm
   obtain ⟨hl,hR⟩:=he
   have hz1:a.len<=1000000:=hk
   refine ⟨fun hc=>by rw [hl] at hc;simp at hc,fun _=>⟨⟨0,⟨Nat.zero_le _,trivial⟩,(by (repeat' (with_reducible apply And.intro))<;>first |with_reducible rfl |exact True.intro |assumption |(symm;assumption) |rfl)⟩,fun i hi=>⟨fun hc=>?_,fun _=>rfl⟩⟩⟩
   have hc:=of_decide_eq_true hc
   have hi2:i<a.len:=by omega
   have en:(i:Int).toNat=i:=Int.toNat_natCast i
   have hw:IntKind.i64.wrap ((i:Int)+1)=((i+1:Nat):Int):=by rw [IntWalk.i64_in _ (by omega)];omega
   simp only [en]
   exact ⟨⟨by omega,hc⟩,⟨by omega,by omega⟩,hR i hi2,hm i hi2,i+1,⟨hi2,trivial⟩,by omega,hw,(by (repeat' (with_reducible apply And.intro))<;>first |with_reducible rfl |exact True.intro |assumption |(symm;assumption) |rfl)⟩
  ·trivial
 ·trivial
noncomputable def eqpS:FSpec:=fun ds _=>match ds with
 | [.d a,.d b,.v kf]=>(match isFn 28 kf with |true=>some {val:=.one (.sc (.bool (.lit true))),vc:=[prAls a b,a.len<=1000000,(∀ i,i<a.len->(a.el i 1).len<=1000000/\bS (a.el i 2))]} |false=>none)
 |_=>none
noncomputable def eqpC:Con:=con [.sc (.rows 87),.sc (.rows 87),.sc .any] eqpS
theorem eqp_ok:ConOK Try.prog 27 eqpC:=by
 refine fn_ob tt_ok mixed Try.func27 rfl (fun _ _=>by kernel_rfl) (A:=fun ds=>⟨fun _=>Cons.of [(28,spoC)],fun k=>match k,ds with | 4,[.d a,.d b,.v _]=>some {ι:=Nat,pre:=fun _ i=>i<=a.len/\True,μ:=fun i=>a.len+1-i,st:=fun s i=>famR s [(17,.one (.sc (.int .i64 (.sym ((i:Nat)))))),(16,.one (.sc (.int .i64 (.sym ((a.len:Nat))))))] [0,1,2,15] [] []} |_,_=>none,fun _=>none⟩) (fun _ _=>(cons_cons spo_ok cons_nil)) (by kernel_rfl) ?_
 intro ds fr
 unfold eqpS
 split
 ·rename_i a b kf
  split
  ·rename_i hg
   obtain rfl:=isFn_eq hg
   refine kmp (q:=prAls a b->a.len<=(1000000:Nat)->(∀ (i:Nat),i<a.len->(a.el i (1:Nat)).len<=(1000000:Nat)/\bS (a.el i (2:Nat)))->(((↑a.len:Int) != (↑b.len:Int))=true->false=true)/\(((↑a.len:Int) != (↑b.len:Int))=false->(∃ (i:Nat),(i<=a.len/\True)/\(0:Int)=(↑i:Int)/\(↑a.len:Int)=(↑a.len:Int)/\a.rows=a.rows/\b.rows=b.rows/\Value.func (Fn.func (28:Nat)) #[] #[]=Value.func (Fn.func (28:Nat)) #[] #[]/\a.rows=a.rows)/\∀ (i:Nat),i<=a.len/\True->(decide ((↑i:Int)<(↑a.len:Int))=true->((0:Int)<=(↑i:Int)/\(↑i:Int)<(↑a.len:Int))/\((0:Int)<=(↑i:Int)/\(↑i:Int)<(↑b.len:Int))/\((a.el (↑i:Int).toNat (0:Nat)).toS=(b.el (↑i:Int).toNat (0:Nat)).toS/\nsAl (a.el (↑i:Int).toNat 1) (b.el (↑i:Int).toNat 1)/\BR (a.el (↑i:Int).toNat 2) (b.el (↑i:Int).toNat 2))/\(a.el (↑i:Int).toNat 1).len<=(1000000:Nat)/\bS (a.el (↑i:Int).toNat 2)/\∃ (j:Nat),(j<=a.len/\True)/\a.len+(1:Nat)-j<a.len+(1:Nat)-i/\IntKind.i64.wrap ((↑i:Int)+(1:Int))=(↑j:Int)/\(↑a.len:Int)=(↑a.len:Int)/\a.rows=a.rows/\b.rows=b.rows/\Value.func (Fn.func (28:Nat)) #[] #[]=Value.func (Fn.func (28:Nat)) #[] #[]/\a.rows=a.rows)/\(decide ((↑i:Int)<(↑a.len:Int))=false->true=true))) (by kernel_rfl) ?_
   intro he hk hm
   obtain ⟨hl,hR⟩:=he
   have hz1:a.len<=1000000:=hk
   refine ⟨fun hc=>by rw [hl] at hc;simp at hc,fun _=>⟨⟨0,⟨Nat.zero_le _,trivial⟩,(by (repeat' (with_reducible apply And.intro))<;>first |with_reducible rfl |exact True.intro |assumption |(symm;assumption) |rfl)⟩,fun i hi=>⟨fun hc=>?_,fun _=>rfl⟩⟩⟩
   have hc:=of_decide_eq_true hc
   have hi2:i<a.len:=by omega
   have en:(i:Int).toNat=i:=Int.toNat_natCast i
   have hw:IntKind.i64.wrap ((i:Int)+1)=((i+1:Nat):Int):=by rw [IntWalk.i64_in _ (by omega)];omega
   simp only [en]
   exact ⟨⟨by omega,hc⟩,⟨by omega,by omega⟩,hR i hi2,(hm i hi2).1,(hm i hi2).2,i+1,⟨hi2,trivial⟩,by omega,hw,(by (repeat' (with_reducible apply And.intro))<;>first |with_reducible rfl |exact True.intro |assumption |(symm;assumption) |rfl)⟩
  ·trivial
 ·trivial
noncomputable def samS:FSpec:=fun ds _=>match ds with
 | [.d c,.d u,.d p,.d c2,.d u2,.d p2]=>some {val:=.one (.sc (.bool (.lit true))),vc:=[(chAls c c2/\ruAls u u2/\prAls p p2),SyS c u p]}
 |_=>none
noncomputable def samC:Con:=con [qSy,qSy] samS
theorem sam_ok:ConOK Try.prog 10 samC:=by
 refine fn_ob tt_ok mixed Try.func10 rfl (fun _ _=>by kernel_rfl) (A:=fun ds=>⟨fun _=>Cons.of [(23,eqcC),(25,equC),(27,eqpC)],fun _=>none,fun _=>none⟩) (fun _ _=>(cons_cons eqc_ok (cons_cons equ_ok (cons_cons eqp_ok cons_nil)))) (by kernel_rfl) ?_
 intro ds fr
 unfold samS
 split
 ·rename_i c u p c2 u2 p2
  refine kmp (q:=chAls c c2/\ruAls u u2/\prAls p p2->SyS c u p->chAls c c2/\c.len<=(1000000:Nat)/\(∀ (i:Nat),i<c.len->(c.el i (5:Nat)).len<=(1000000:Nat))/\ruAls u u2/\u.len<=(1000000:Nat)/\(∀ (i:Nat),i<u.len->(u.el i (1:Nat)).len<=(1000000:Nat))/\prAls p p2/\p.len<=(1000000:Nat)/\(∀ (i:Nat),i<p.len->(p.el i (1:Nat)).len<=(1000000:Nat)/\bS (p.el i (2:Nat)))/\true=true) (by kernel_rfl) ?_
  rintro ⟨h1,h2,h3⟩ hs
  exact ⟨h1,hs.c,hs.ct,h2,hs.r,hs.rm,h3,hs.p,fun i hi=>⟨hs.pv i hi,hs.pb i hi⟩,rfl⟩
 ·trivial
end Go.Proofs.Ytbhbjhejkamlnaa.Sx.Z
namespace Go.Proofs.Ytbhbjhejkamlnaa.Sx.Z
open Go.RowKit
theorem XR_rows {k n:Int} {s:ByteArray} {d:D} {k2 n2:Int} {s2:ByteArray} {d2:D} (h:XR k n s d k2 n2 s2 d2):XR k n s d k2 n2 s2 (.l d2.rows):=by
 cases h with
 |mk h0 h1 h2 h3 h4=>exact .mk h0 h1 h2 h3 h4
theorem BR_rows {a b:D} (h:BR a b):BR a (.l b.rows):=by
 cases h with
 |mk hl hk hn ht he hc hb hs ha hr hq=>exact .mk hl hk hn ht he hc hb hs ha hr hq
theorem rows_len (g:Nat->List D) (n:Nat):(D.l (rowsTo g n)).len=n:=by
 show (rowsTo g n).length=n
 unfold rowsTo
 rw [List.length_map,List.length_range]
theorem rows_el (g:Nat->List D) {n i:Nat} (h:i<n) (j:Nat):(D.l (rowsTo g n)).el i j=(g i).getD j (.i 0):=by
 show ((rowsTo g n).getD i []).getD j (.i 0)=_
 have e:(rowsTo g n)[i]? = some (g i):=by
  unfold rowsTo
  rw [List.getElem?_map,List.getElem?_range h];rfl
 rw [List.getD_eq_getElem?_getD (l:=rowsTo g n),e];rfl
theorem xR_self {k n:Int} {s:ByteArray} {d:D} (h:aX k n s d=true):XR k n s d (xC k n s d).k (xC k n s d).n (xC k n s d).s (xC k n s d).d:=by
 refine ex_ind (P:=fun k n s d=>XR k n s d (xC k n s d).k (xC k n s d).n (xC k n s d).s (xC k n s d).d) ?_ ?_ ?_ ?_ h
 ·intro n s d _
  exact .mk rfl (fun _=>rfl) (fun h=>absurd h (by decide)) (fun h=>absurd h (by decide)) (fun h=>absurd h (by decide))
 ·intro n s d _
  exact .mk rfl (fun h=>absurd h (by decide)) (fun _=>rfl) (fun h=>absurd h (by decide)) (fun h=>absurd h (by decide))
 ·intro n s d hl ih
  rw [xC_3 n s (by omega)]
  refine .mk rfl (fun h=>absurd h (by decide)) (fun h=>absurd h (by decide)) (fun _=>hl) (fun _ i hi=>?_)
  obtain rfl:i=0:=by omega
  exact XR_rows ih
 ·intro k n s d hb hl ih0 ih1
  have hk:=bi_in hb
  rw [xC_4 n s hb (by omega)]
  refine .mk rfl (fun h=>by omega) (fun h=>by omega) (fun _=>hl) (fun _ i hi=>?_)
  have:i=0 ∨ i=1:=by omega
  rcases this with rfl |rfl
  ·exact XR_rows ih0
  ·exact XR_rows ih1
theorem cR_self {op lk ln:Int} {ls:ByteArray} {ld:D} {rk rn:Int} {rs:ByteArray} {rd:D} (h:aC op lk ln ls ld rk rn rs rd=true):op=(cC op lk ln ls ld rk rn rs rd).op/\XR lk ln ls ld (cC op lk ln ls ld rk rn rs rd).l.k (cC op lk ln ls ld rk rn rs rd).l.n (cC op lk ln ls ld rk rn rs rd).l.s (.l (cC op lk ln ls ld rk rn rs rd).l.d.rows)/\XR rk rn rs rd (cC op lk ln ls ld rk rn rs rd).r.k (cC op lk ln ls ld rk rn rs rd).r.n (cC op lk ln ls ld rk rn rs rd).r.s (.l (cC op lk ln ls ld rk rn rs rd).r.d.rows):=by
 have:=aC_two h
 exact ⟨rfl,XR_rows (xR_self this.1),XR_rows (xR_self this.2)⟩
theorem st_self {k:Int} {nm tg:ByteArray} {ek en:Int} {es:ByteArray} {ed:D} {op lk ln:Int} {ls:ByteArray} {ld:D} {rk rn:Int} {rs:ByteArray} {rd bd eb am:D}
 (Hb:bA bd=true->BR bd (bC bd)) (He:bA eb=true->BR eb (bC eb)) (Ha:∀ j,j<am.len->bA (am.el j 2)=true->BR (am.el j 2) (bC (am.el j 2))) (hA:stA k nm tg ek en es ed op lk ln ls ld rk rn rs rd bd eb am=true) {x:St} (hx:x=stC k nm tg ek en es ed op lk ln ls ld rk rn rs rd bd eb am) :
 stAl k nm tg ek en es ed op lk ln ls ld rk rn rs rd bd eb am x.k x.nm x.tg x.e.k x.e.n x.e.s (.l x.e.d.rows) x.c.op x.c.l.k x.c.l.n x.c.l.s (.l x.c.l.d.rows) x.c.r.k x.c.r.n x.c.r.s (.l x.c.r.d.rows) (.l x.b.rows) (.l x.el.rows) (.l x.ar.rows):=by
 have hA:aStF k nm tg (aX ek en es ed) (aC op lk ln ls ld rk rn rs rd) (bA bd) (bA eb) am.len (amsA am)=true:=hA
 subst hx
 rcases stA_k hA with rfl |rfl |rfl |rfl |rfl |rfl |rfl
 ·have hA:(nmB nm&&aX ek en es ed)=true:=hA
  simp only [Bool.and_eq_true] at hA
  exact ⟨rfl,fun _=>rfl,fun h=>absurd h (by decide),fun _=>XR_rows (xR_self hA.2),fun h=>absurd h (by decide),fun h=>absurd h (by decide),fun h=>absurd h (by decide),fun h=>absurd h (by decide)⟩
 ·have hA:(aC op lk ln ls ld rk rn rs rd&&bA bd&&bA eb)=true:=hA
  simp only [Bool.and_eq_true] at hA
  exact ⟨rfl,fun h=>absurd h (by decide),fun h=>absurd h (by decide),fun h=>absurd h (by decide),fun _=>cR_self hA.1.1,fun _=>BR_rows (Hb hA.1.2),fun _=>BR_rows (He hA.2),fun h=>absurd h (by decide)⟩
 ·have hA:(aC op lk ln ls ld rk rn rs rd&&bA bd)=true:=hA
  simp only [Bool.and_eq_true] at hA
  exact ⟨rfl,fun h=>absurd h (by decide),fun h=>absurd h (by decide),fun h=>absurd h (by decide),fun _=>cR_self hA.1,fun _=>BR_rows (Hb hA.2),fun h=>absurd h (by decide),fun h=>absurd h (by decide)⟩
 ·have hA:(nmB nm&&nmB tg&&aX ek en es ed)=true:=hA
  simp only [Bool.and_eq_true] at hA
  exact ⟨rfl,fun _=>rfl,fun _=>rfl,fun _=>XR_rows (xR_self hA.2),fun h=>absurd h (by decide),fun h=>absurd h (by decide),fun h=>absurd h (by decide),fun h=>absurd h (by decide)⟩
 ·have hA:(nmB nm&&decide ((am.len:Int)>0)&&amsA am)=true:=hA
  simp only [Bool.and_eq_true] at hA
  have hq:=allB_iff.1 hA.2
  refine ⟨rfl,fun _=>rfl,fun h=>absurd h (by decide),fun h=>absurd h (by decide),fun h=>absurd h (by decide),fun h=>absurd h (by decide),fun h=>absurd h (by decide),fun _=>⟨(rows_len (arC am) am.len).symm,fun j hj=>?_⟩⟩
  have h1:=hq j hj
  unfold arE at h1
  simp only [Bool.and_eq_true] at h1
  unfold arAl
  show _=((D.l (rowsTo (arC am) am.len)).el j 0).toS/\_=((D.l (rowsTo (arC am) am.len)).el j 1).toS/\BR _ ((D.l (rowsTo (arC am) am.len)).el j 2)
  rw [rows_el _ hj,rows_el _ hj,rows_el _ hj]
  exact ⟨rfl,rfl,BR_rows (Ha j hj h1.2)⟩
 ·have hA:aC op lk ln ls ld rk rn rs rd=true:=hA
  exact ⟨rfl,fun h=>absurd h (by decide),fun h=>absurd h (by decide),fun h=>absurd h (by decide),fun _=>cR_self hA,fun h=>absurd h (by decide),fun h=>absurd h (by decide),fun h=>absurd h (by decide)⟩
 ·exact ⟨rfl,fun _=>rfl,fun h=>absurd h (by decide),fun h=>absurd h (by decide),fun h=>absurd h (by decide),fun h=>absurd h (by decide),fun h=>absurd h (by decide),fun h=>absurd h (by decide)⟩
theorem bR_self:∀ (z:Nat) (d:D),SizeOf.sizeOf d<=z->bA d=true->BR d (bC d):=by
 intro z
 induction z with
 |zero=>intro d hz;cases d<;>simp at hz
 |succ z ih=>
  intro d hz hA
  rw [bA_eq] at hA
  have hA:=allB_iff.1 hA
  rw [bC_eq]
  refine BR_al.2 ⟨(rows_len _ _).symm,fun i hi=>?_⟩
  have kid:∀ j,bA (d.el i j)=true->BR (d.el i j) (bC (d.el i j)):=fun j h=>by
   have:=lel_lt (j:=j) hi
   exact ih _ (by omega) h
  have kid2:∀ j,j<(d.el i 18).len->bA ((d.el i 18).el j 2)=true->BR ((d.el i 18).el j 2) (bC ((d.el i 18).el j 2)):=fun j hj h=>by
   have h1:=lel_lt (j:=18) hi
   have h2:=lel_lt (j:=2) hj
   exact ih _ (by omega) h
  have:=st_self (kid 16) (kid 17) kid2 (hA i hi) rfl
  unfold stAlE
  simp only [rows_el _ hi]
  exact this
theorem ns_self (d:D):nsAl d (.l (nsC d).rows):=⟨(rows_len _ _).symm,fun i hi=>by
 show _=((D.l (rowsTo (nmC d) d.len)).el i 0).toS
 rw [rows_el _ hi];rfl⟩
theorem mv_self (d:D):mvAl d (.l (rowsTo (mvC d) d.len)):=⟨(rows_len _ _).symm,fun i hi=>by
 rw [rows_el _ hi,rows_el _ hi,rows_el _ hi];exact ⟨rfl,rfl,rfl⟩⟩
theorem sy_self {ch ru pr:D} (hA:syB ch ru pr=true):chAls ch (chCd ch)/\ruAls ru (ruCd ru)/\prAls pr (prCd pr):=by
 unfold syB at hA
 simp only [Bool.and_eq_true] at hA
 have h3:=allB_iff.1 hA.2.2
 refine ⟨⟨(rows_len _ _).symm,fun i hi=>?_⟩,⟨(rows_len _ _).symm,fun i hi=>?_⟩,⟨(rows_len _ _).symm,fun i hi=>?_⟩⟩
 ·unfold chAl chCd
  simp only [rows_el _ hi]
  exact ⟨rfl,rfl,rfl,rfl,rfl,ns_self _⟩
 ·unfold ruAl ruCd
  simp only [rows_el _ hi]
  exact ⟨rfl,mv_self _⟩
 ·have hx:=h3 i hi
  unfold prE at hx
  simp only [Bool.and_eq_true] at hx
  unfold prAl prCd
  simp only [rows_el _ hi]
  exact ⟨rfl,ns_self _,BR_rows (bR_self _ _ (Nat.le_refl _) hx.2)⟩
end Go.Proofs.Ytbhbjhejkamlnaa.Sx.Z
namespace Go.Proofs.Ytbhbjhejkamlnaa
theorem Run.take {T:ByteArray} {k:Nat} (h:Run digU T 0 k):∀ b∈T.data.toList.take k,digU b=true:=by
 intro b hb
 obtain ⟨j,hj,rfl⟩:=List.getElem_of_mem hb
 rw [List.length_take] at hj
 have:=h.2.2 j (by omega) (by omega)
 rw [List.getD_eq_getElem?_getD,List.getElem?_eq_getElem (by omega)] at this
 rw [List.getElem_take]
 exact this
theorem Run.whole {T:ByteArray} {k:Nat} (h:Run digU T 0 k) (hk:T.size<=k):lenOf digU T.data.toList=k:=by
 have:=h.len (fun hx=>absurd hx (by omega))
 rw [List.drop_zero,Nat.sub_zero] at this
 exact this
theorem Run.part {T:ByteArray} {k d:Nat} (h:Run digU T 0 k) (hk:k<T.size) (hb:digU T[k]=false) (hd:lenOf digU T.data.toList=d):d=k:=by
 have:=h.len (fun hx=>by rw [getD_eq T k hx];exact hb)
 rw [List.drop_zero,Nat.sub_zero] at this
 omega
end Go.Proofs.Ytbhbjhejkamlnaa
namespace Go.Proofs.Ytbhbjhejkamlnaa
def ofL (l:List UInt8):ByteArray:=⟨l.toArray⟩
def lexL:Nat->List UInt8->Nat->List Tok->Except (Nat × Int) (List Tok)
 | 0,_,_,acc=>.ok acc
 |f+1,r,p,acc=>
  if 0<r.length then
   if gapU (r.headD 0) then lexL f (r.drop 1) (p+1) acc
   else match wordE r with
    | .error e=>.error (p,e)
    | .ok (k,n,m)=>lexL f (r.drop n) (p+n) (acc++[⟨k,ofL (r.take n),m,p⟩])
  else .ok acc
def lexW (r:List UInt8) (p:Nat) (acc:List Tok):Except (Nat × Int) (List Tok):=lexL r.length r p acc
theorem lexL_fuel:∀ (f g:Nat) (r:List UInt8) (p:Nat) (acc:List Tok),r.length<=f->r.length<=g->lexL f r p acc=lexL g r p acc:=by
 intro f
 induction f with
 |zero=>
  intro g r p acc hf hg
  have h0:¬ 0<r.length:=by omega
  match g with
  | 0=>rfl
  |g+1=>rw [lexL,lexL,if_neg h0]
 |succ f ih=>
  intro g r p acc hf hg
  by_cases h0:0<r.length
  ·match g with
   | 0=>omega
   |g+1=>
    rw [lexL,lexL,if_pos h0,if_pos h0]
    by_cases hgp:gapU (r.headD 0)=true
    ·rw [if_pos hgp,if_pos hgp]
     exact ih g _ _ _ (by rw [List.length_drop];omega) (by rw [List.length_drop];omega)
    ·rw [if_neg hgp,if_neg hgp]
     rcases hE:wordE r with x |⟨k,n,m⟩
     ·rfl
     ·have:=(wordE_ok h0 hE).1
      exact ih g _ _ _ (by rw [List.length_drop];omega) (by rw [List.length_drop];omega)
  ·match g with
   | 0=>rw [lexL,lexL,if_neg h0]
   |g+1=>rw [lexL,lexL,if_neg h0,if_neg h0]
theorem lexW_gap {r:List UInt8} (h0:0<r.length) (hg:gapU (r.headD 0)=true) (p:Nat) (acc:List Tok):lexW r p acc=lexW (r.drop 1) (p+1) acc:=by
 unfold lexW
 obtain ⟨n,hn⟩:∃ n,r.length=n+1:=⟨r.length-1,by omega⟩
 rw [hn,lexL,if_pos (by omega),if_pos hg]
 exact lexL_fuel _ _ _ _ _ (by rw [List.length_drop];omega) (Nat.le_refl _)
theorem lexW_word {r:List UInt8} (h0:0<r.length) (hg:gapU (r.headD 0)=false) {k m:Int} {n:Nat} (hE:wordE r = .ok (k,n,m)) (p:Nat) (acc:List Tok) :
 lexW r p acc=lexW (r.drop n) (p+n) (acc++[⟨k,ofL (r.take n),m,p⟩]):=by
 unfold lexW
 obtain ⟨l,hl⟩:∃ l,r.length=l+1:=⟨r.length-1,by omega⟩
 have:=(wordE_ok h0 hE).1
 rw [hl,lexL,if_pos (by omega),if_neg (by rw [hg];decide),hE]
 exact lexL_fuel _ _ _ _ _ (by rw [List.length_drop];omega) (Nat.le_refl _)
theorem ofL_extract (s:ByteArray) (p n:Nat):s.extract p (p+n)=ofL ((s.data.toList.drop p).take n):=by
 have h:=Lib.extract_data s p (p+n)
 rw [show p+n-p=n from by omega] at h
 unfold ofL
 rw [<- h]
theorem lexGo_lexL (s:ByteArray):∀ (f p:Nat) (acc:List Tok),p<=s.size->lexGo s f p acc=lexL f (s.data.toList.drop p) p acc:=by
 intro f
 have hl:s.data.toList.length=s.size:=by simp
 induction f with
 |zero=>intro p acc _;rfl
 |succ f ih=>
  intro p acc hp
  rw [lexGo,lexL]
  have hlen:(s.data.toList.drop p).length=s.size-p:=by rw [List.length_drop,hl]
  by_cases hlt:p<s.size
  ·have hl2:0<(s.data.toList.drop p).length:=by omega
   rw [if_pos hlt,if_pos hl2,head_drop]
   by_cases hg:gapU (s.data.toList.getD p 0)=true
   ·rw [if_pos hg,if_pos hg,List.drop_drop]
    exact ih (p+1) acc (by omega)
   ·rw [if_neg hg,if_neg hg]
    rcases hE:wordE (s.data.toList.drop p) with x |⟨k,n,m⟩
    ·rfl
    ·have h2:=(wordE_ok (by omega) hE).2.1
     show lexGo s f (p+n) _=lexL f ((s.data.toList.drop p).drop n) (p+n) _
     rw [List.drop_drop,ofL_extract]
     exact ih (p+n) _ (by omega)
  ·have hl2:¬ 0<(s.data.toList.drop p).length:=by omega
   rw [if_neg hlt,if_neg hl2]
def lexF (l:List UInt8):List Tok × Nat × Int:=match lexW l 0 [] with
 | .error (p,e)=>([],p,e)
 | .ok acc=>if 2000<acc.length then ([],l.length,4) else (acc,0,0)
theorem lexR_lexF (s:ByteArray):lexR s=lexF s.data.toList:=by
 have hl:s.data.toList.length=s.size:=by simp
 unfold lexR lexF lexW
 rw [lexGo_lexL s s.size 0 [] (by omega),hl]
 rfl
theorem gap_cases {b:UInt8} (h:gapU b=true):b=32 ∨ b=10:=by
 simp only [gapU,gapB,Bool.or_eq_true,beq_iff_eq] at h
 rcases h with h |h
 ·exact .inl (UInt8.toNat_inj.1 (by show b.toNat=32;omega))
 ·exact .inr (UInt8.toNat_inj.1 (by show b.toNat=10;omega))
theorem lenOf_app (pr:UInt8->Bool) (t:List UInt8) (ht:t=[] ∨ pr (t.headD 0)=false):∀ r:List UInt8,lenOf pr (r++t)=lenOf pr r:=by
 intro r
 induction r with
 |nil=>
  rcases ht with rfl |h
  ·rfl
  ·match t with
   | []=>rfl
   |b::t=>
    have h:pr b=false:=h
    simp [lenOf,h]
 |cons a r ih=>
  have e1:a::r++t=a::(r++t):=rfl
  rw [e1]
  unfold lenOf at *
  rw [List.takeWhile_cons,List.takeWhile_cons]
  by_cases ha:pr a=true
  ·rw [if_pos ha,if_pos ha,List.length_cons,List.length_cons,ih]
  ·rw [if_neg ha,if_neg ha]
theorem headD_app {r t:List UInt8} (h0:0<r.length):(r++t).headD 0=r.headD 0:=by
 match r,h0 with
 |a::r,_=>rfl
end Go.Proofs.Ytbhbjhejkamlnaa
namespace Go.Proofs.Ytbhbjhejkamlnaa.Sx.Z
open Go.RowKit
def Bd (r t:List UInt8):Prop:=t=[] ∨ (if alnU (r.headD 0)=true then alnU (t.headD 0)=false else t.headD 0≠61)
theorem aln_dig {b:UInt8} (h:alnU b=false):digU b=false/\letU b=false:=by
 unfold alnU at h
 simp only [Bool.or_eq_false_iff] at h
 exact ⟨h.2,h.1⟩
theorem getD_app {r t:List UInt8} {n:Nat} (hn:n<=r.length) (ht:t=[] ∨ alnU (t.headD 0)=false):letU ((r++t).getD n 0)=letU (r.getD n 0):=by
 rw [List.getD_eq_getElem?_getD,List.getD_eq_getElem?_getD]
 rcases Nat.lt_or_ge n r.length with hlt |hge
 ·rw [List.getElem?_append_left hlt]
 ·rw [List.getElem?_append_right hge,List.getElem?_eq_none hge,show n-r.length=0 from by omega]
  rcases ht with rfl |h
  ·rfl
  ·match t,h with
   | [],_=>rfl
   |b::t,h=>
    show letU b=letU 0
    rw [show letU b=false from (aln_dig h).2];decide
theorem wordE_ext {r t:List UInt8} (h0:0<r.length) (h:Bd r t):wordE (r++t)=wordE r:=by
 unfold wordE
 rw [headD_app h0]
 by_cases ha:alnU (r.headD 0)=true
 ·have ht:t=[] ∨ alnU (t.headD 0)=false:=by
   rcases h with h |h
   ·exact .inl h
   ·rw [if_pos ha] at h;exact .inr h
  have hA:=lenOf_app alnU t ht r
  have hD:=lenOf_app digU t (by rcases ht with h |h;exact .inl h;exact .inr (aln_dig h).1) r
  by_cases hl:letU (r.headD 0)=true
  ·rw [if_pos hl,if_pos hl]
   unfold nameE
   rw [hA,List.take_append_of_le_length (lenOf_le _ _)]
  ·rw [if_neg hl,if_neg hl]
   have hd:digU (r.headD 0)=true:=by
    unfold alnU at ha
    simp only [Bool.or_eq_true] at ha
    exact ha.resolve_left hl
   rw [if_pos hd,if_pos hd]
   unfold numE
   rw [hD,headD_app h0,getD_app (lenOf_le _ _) ht,List.take_append_of_le_length (lenOf_le _ _)]
 ·have hf:alnU (r.headD 0)=false:=by simpa using ha
  obtain ⟨hd,hl⟩:=aln_dig hf
  rw [hd,hl]
  simp only [Bool.false_eq_true,if_false]
  unfold sgnE sgnLen
  have he:eqNext (r++t)=eqNext r:=by
   match r,h0 with
   |a::b::r,_=>rfl
   | [a],_=>
     rcases h with rfl |h
     ·rfl
     ·rw [if_neg ha] at h
      match t,h with
      | [],_=>rfl
      |b::t,h=>
       show (b==61)=false
       exact beq_false_of_ne h
  rw [headD_app h0,he]
structure wOk (w:ByteArray):Prop where
 pos:0<w.data.toList.length
 gap:gapU (w.data.toList.headD 0)=false
 wrd:wordE w.data.toList = .ok (kOf w,w.data.toList.length,nOf w)
 len:w.data.toList.length<=30
theorem lexW_gaps':∀ (g r:List UInt8) (p:Nat) (acc:List Tok),(∀ b∈g,gapU b=true)->lexW (g++r) p acc=lexW r (p+g.length) acc
 | [],r,p,acc,_=>rfl
 |b::g,r,p,acc,h=>by
  rw [List.cons_append,lexW_gap (by simp) (show gapU ((b::(g++r)).headD 0)=true from h b (List.mem_cons_self ..)),List.drop_one,List.tail_cons,lexW_gaps' g r (p+1) acc (fun c hc=>h c (List.mem_cons_of_mem _ hc)),List.length_cons]
  congr 1;omega
structure Tks (ts:List Tok) (l:List ByteArray):Prop where
 tx:ts.map Tok.text=l
 kd:∀ t∈ts,t.kind=kOf t.text/\t.num=nOf t.text
theorem Tks.at {ts:List Tok} {l:List ByteArray} (h:Tks ts l):At (tokD ts) 0 l/\(tokD ts).len=l.length:=by
 have hn:ts.length=l.length:=by
  have:=congrArg List.length h.tx
  simpa using this
 refine ⟨fun j hj=>?_,by rw [tokD_len,hn]⟩
 have hj2:j<ts.length:=by omega
 have ht:ts[j]? = some ts[j]:=List.getElem?_eq_getElem hj2
 have hx:(ts[j]).text=l[j]:=by
  have:=h.tx
  subst this
  simp
 obtain ⟨k1,k2⟩:=h.kd ts[j] (List.getElem_mem hj2)
 rw [Nat.zero_add]
 refine ⟨by rw [tokD_len];exact hj2,?_,?_,?_⟩
 ·rw [tokD_el ht];exact hx
 ·rw [tokD_el ht,<- hx];exact k1
 ·rw [tokD_el ht,<- hx];exact k2
theorem toks_rd {s:ByteArray} {ts:List Tok} (t1:lexR s=(ts,0,0)) {ch ru pr:D} (t2:Tks ts (syW ch ru pr)) (hl:(syW ch ru pr).length<=2000) (hA:syB ch ru pr=true) (hN:syN pr=true) :
 rpC s=chCd ch/\rpU s=ruCd ru/\rpP s=prCd pr/\rpA s=0/\rpE s=0:=by
 obtain ⟨a1,a2⟩:=t2.at
 have hw:(tokD ts).len<=1000000:=by rw [a2];omega
 have eW:paW s=tokD ts:=by unfold paW;rw [t1]
 obtain ⟨r1,r2,r3,r4⟩:=sy_rd hw (s.size:Nat) hA hN (pa:=0) a1 a2
 have hl0:(lexR s).2.2=0:=by rw [t1]
 have hY:rpY s=rp (tokD ts).len 0:=by
  unfold rpY
  rw [eW];exact r4
 obtain ⟨g1,g2,g3,g4,g5⟩:=rp_good hl0 hY rfl
 rw [eW] at g1 g2 g3
 refine ⟨?_,?_,?_,g4,g5⟩
 ·rw [g1];exact congrArg Prod.fst r1
 ·rw [g2];exact congrArg Prod.fst r2
 ·rw [g3];exact congrArg Prod.fst r3
end Go.Proofs.Ytbhbjhejkamlnaa.Sx.Z
namespace Go.Proofs.Ytbhbjhejkamlnaa.Sx.Z
open Go.RowKit
def alW (l:List ByteArray):Prop:=∀ w∈l,wOk w
theorem alW.nil:alW []:=fun _ h=>by cases h
theorem alW.cons {a:ByteArray} {l:List ByteArray} (h:wOk a) (hl:alW l):alW (a::l):=fun w hw=>by
 rcases List.mem_cons.1 hw with rfl |hw
 ·exact h
 ·exact hl w hw
theorem alW.app {l m:List ByteArray} (h:alW l) (hm:alW m):alW (l++m):=fun w hw=>by
 rcases List.mem_append.1 hw with hw |hw
 ·exact h w hw
 ·exact hm w hw
theorem word_gap {r:List UInt8} {k m:Int} {n:Nat} (h:wordE r = .ok (k,n,m)) (_h0:0<r.length):gapU (r.headD 0)=false:=by
 cases hg:gapU (r.headD 0) with
 |false=>rfl
 |true=>
  exfalso
  unfold wordE at h
  rcases gap_cases hg with e |e<;>rw [e] at h
  ·rw [if_neg (by decide),if_neg (by decide)] at h
   unfold sgnE sgnLen at h
   rw [e,show sgnB ((32:UInt8).toNat:Int) (eqNext r)=0 from rfl] at h
   cases h
  ·rw [if_neg (by decide),if_neg (by decide)] at h
   unfold sgnE sgnLen at h
   rw [e,show sgnB ((10:UInt8).toNat:Int) (eqNext r)=0 from rfl] at h
   cases h
theorem nm_full {s:ByteArray} (h:nmB s=true):∃ m,wordE s.data.toList = .ok (1,s.data.toList.length,m)/\0<s.data.toList.length:=by
 unfold nmB at h
 simp only [Bool.and_eq_true,beq_iff_eq] at h
 obtain ⟨_,⟨⟨h1,h2⟩,h3⟩,h4⟩:=h
 have h2:((lexR s).1.length:Int)=1:=by rw [tokD_len] at h2;exact h2
 obtain ⟨t,ht⟩:∃ t,(lexR s).1=[t]:=List.length_eq_one_iff.1 (by omega)
 rw [ht] at h3 h4
 have h3:t.kind=1:=h3
 have h4:t.text.toList=s.toList:=h4
 have h4:t.text=s:=by
  rw [ByteArray.toList_eq,ByteArray.toList_eq] at h4
  exact ByteArray.ext (Array.toList_inj.1 h4)
 cases hg:lexGo s s.size 0 [] with
 |error x=>
  obtain ⟨p,e⟩:=x
  rw [lexR_err hg rfl] at ht
  cases ht
 |ok acc=>
  by_cases hl:2000<acc.length
  ·rw [lexR_long hg rfl hl] at ht
   cases ht
  ·rw [lexR_ok hg rfl (by omega)] at ht
   have ht:acc=[t]:=ht
   have h0:0<s.size:=by
    rcases Nat.eq_zero_or_pos s.size with hz |hz
    ·rw [hz] at hg
     have:acc=[]:=by cases hg;rfl
     rw [this] at ht;cases ht
    ·exact hz
   obtain ⟨q,q1,q2⟩:=tok_nx s s.size 0 [] acc (Nat.zero_le _) (fun _ h=>by cases h) hg t (by rw [ht];exact List.mem_singleton.2 rfl)
   rw [h4] at q1
   have q0:q=0:=by omega
   rw [q0,List.drop_zero,h3,h4] at q2
   exact ⟨t.num,q2,h0⟩
theorem wOk_of {w:ByteArray} {k m:Int} (h:wordE w.data.toList = .ok (k,w.data.toList.length,m)) (h0:0<w.data.toList.length) (hl:w.data.toList.length<=30):wOk w:=by
 obtain ⟨e1,e2⟩:=kOf_eq h
 exact ⟨h0,word_gap h h0,(by rw [e1,e2];exact h),hl⟩
theorem nm_ok {s:ByteArray} (h:nmB s=true):wOk s:=by
 obtain ⟨m,h1,h2⟩:=nm_full h
 refine wOk_of h1 h2 ?_
 unfold nmB at h
 simp only [Bool.and_eq_true,Bool.not_eq_true',decide_eq_false_iff_not] at h
 have:=h.1
 have e:s.data.toList.length=s.size:=rfl
 omega
theorem nu_ok {n:Int} (h:nuB n=true):wOk (itW n):=by
 have hx:=nu_full h
 refine wOk_of hx.1 hx.2 ?_
 unfold nuB at h
 simp only [Bool.and_eq_true,decide_eq_true_eq] at h
 have:(itW n).size<=21:=Lib.itoa_length_le n (by omega) (by omega)
 have e:(itW n).data.toList.length=(itW n).size:=rfl
 omega
theorem li {w:ByteArray} {k m:Int} (h:wordE w.data.toList = .ok (k,w.data.toList.length,m)) (h0:0<w.data.toList.length) (hl:w.data.toList.length<=30:=by decide):wOk w:=wOk_of h h0 hl
theorem li_ob:wOk ⟨#[123]⟩:=li (k:=3) (m:=0) rfl (by decide)
theorem li_cb:wOk ⟨#[125]⟩:=li (k:=3) (m:=0) rfl (by decide)
theorem li_se:wOk ⟨#[59]⟩:=li (k:=3) (m:=0) rfl (by decide)
theorem li_eq:wOk ⟨#[61]⟩:=li (k:=3) (m:=0) rfl (by decide)
theorem li_bi (k:Int):wOk (biW k):=by
 unfold biW
 split
 ·exact li (k:=3) (m:=0) rfl (by decide)
 ·split
  ·exact li (k:=3) (m:=0) rfl (by decide)
  ·split
   ·exact li (k:=3) (m:=0) rfl (by decide)
   ·split
    ·exact li (k:=3) (m:=0) rfl (by decide)
    ·exact li (k:=3) (m:=0) rfl (by decide)
theorem kw_proc:wOk ⟨#[112,114,111,99]⟩:=li (k:=4) (m:=0) rfl (by decide)
end Go.Proofs.Ytbhbjhejkamlnaa.Sx.Z
namespace Go.Proofs.Ytbhbjhejkamlnaa.Sx.Z
open Go.RowKit
def jp:List (List UInt8 × ByteArray)->List UInt8
 | []=>[]
 |x::l=>x.1++(x.2.data.toList++jp l)
def fitp:List (List UInt8 × ByteArray)->Prop
 | []=>True
 |x::l=>wOk x.2/\(∀ b∈x.1,gapU b=true)/\Bd x.2.data.toList (jp l)/\fitp l
theorem lex_jp:∀ (l:List (List UInt8 × ByteArray)) (p:Nat) (acc:List Tok),fitp l->∃ ts,lexW (jp l) p acc = .ok (acc++ts)/\Tks ts (l.map Prod.snd)
 | [],p,acc,_=>⟨[],by rw [List.append_nil];rfl,rfl,fun _ h=>by cases h⟩
 |x::l,p,acc,h=>by
  obtain ⟨h1,h2,h3,h4⟩:=h
  have e:wordE (x.2.data.toList++jp l) = .ok (kOf x.2,x.2.data.toList.length,nOf x.2):=by rw [wordE_ext h1.pos h3];exact h1.wrd
  obtain ⟨ts,t1,t2⟩:=lex_jp l (p+x.1.length+x.2.data.toList.length) (acc++[⟨kOf x.2,x.2,nOf x.2,p+x.1.length⟩]) h4
  refine ⟨⟨kOf x.2,x.2,nOf x.2,p+x.1.length⟩::ts,?_,?_,fun t ht=>?_⟩
  ·show lexW (x.1++(x.2.data.toList++jp l)) p acc=_
   rw [lexW_gaps' _ _ _ _ h2,lexW_word (by rw [List.length_append];have:=h1.pos;omega) (by rw [headD_app h1.pos];exact h1.gap) e,List.drop_left',List.take_left']
   ·rw [show (ofL x.2.data.toList)=x.2 from rfl,t1,List.append_assoc];rfl
   ·rfl
   ·rfl
  ·rw [List.map_cons,List.map_cons,t2.tx]
  ·rcases List.mem_cons.1 ht with rfl |ht
   ·exact ⟨rfl,rfl⟩
   ·exact t2.kd t ht
theorem lexR_jp {s:ByteArray} {l:List (List UInt8 × ByteArray)} (hs:s.data.toList=jp l) (hf:fitp l) (hl:l.length<=2000):∃ ts,lexR s=(ts,0,0)/\Tks ts (l.map Prod.snd):=by
 obtain ⟨ts,t1,t2⟩:=lex_jp l 0 [] hf
 rw [List.nil_append] at t1
 refine ⟨ts,?_,t2⟩
 have hn:ts.length=l.length:=by
  have:=congrArg List.length t2.tx
  simpa using this
 rw [lexR_lexF,hs]
 unfold Go.Proofs.Ytbhbjhejkamlnaa.lexF
 rw [t1]
 show (if 2000<ts.length then _ else _)=_
 rw [if_neg (by omega)]
end Go.Proofs.Ytbhbjhejkamlnaa.Sx.Z
namespace Go.Proofs.Ytbhbjhejkamlnaa.Sx.Z
open Go.RowKit
structure Can (x:Xp) (l:List ByteArray):Prop where
 a:aX x.k x.n x.s x.d=true
 n:xN x.k x.d 0=true
 w:xW x.k x.n x.s x.d=l
 c:xC x.k x.n x.s x.d=x
 d:D.l x.d.rows=x.d
def xp1:Xp:=⟨1,1,ByteArray.empty,.l []⟩
def xp2:Xp:=⟨1,2,ByteArray.empty,.l []⟩
theorem can1:Can xp1 [⟨#[49]⟩]:=⟨by decide,by decide,by decide +kernel,by rfl,rfl⟩
theorem can2:Can xp2 [⟨#[50]⟩]:=⟨by decide,by decide,by decide +kernel,by rfl,rfl⟩
theorem X2_el0 (k:Int) (a b:Xp):((X2 k a b).d.el 0 0).toI=a.k/\((X2 k a b).d.el 0 1).toI=a.n/\((X2 k a b).d.el 0 2).toS=a.s/\(X2 k a b).d.el 0 3 = .l a.d.rows:=⟨rfl,rfl,rfl,rfl⟩
theorem X2_el1 (k:Int) (a b:Xp):((X2 k a b).d.el 1 0).toI=b.k/\((X2 k a b).d.el 1 1).toI=b.n/\((X2 k a b).d.el 1 2).toS=b.s/\(X2 k a b).d.el 1 3 = .l b.d.rows:=⟨rfl,rfl,rfl,rfl⟩
theorem Can.two {k:Int} {a b:Xp} {la lb:List ByteArray} (ha:Can a la) (hb:Can b lb) (hk:biB k=true) (h0:brB k 0 a.k=false) (h1:brB k 1 b.k=false):Can (X2 k a b) (la++biW k::lb):=by
 obtain ⟨p0,p1,p2,p3⟩:=X2_el0 k a b
 obtain ⟨q0,q1,q2,q3⟩:=X2_el1 k a b
 have hl:(X2 k a b).d.len=2:=rfl
 have e0:aE (X2 k a b).d 0=true:=by rw [aE_eq (by rw [hl];decide),p0,p1,p2,p3,ha.d];exact ha.a
 have e1:aE (X2 k a b).d 1=true:=by rw [aE_eq (by rw [hl];decide),q0,q1,q2,q3,hb.d];exact hb.a
 have hbi:=bi_in hk
 refine ⟨?_,?_,?_,?_,rfl⟩
 ·show aX k _ _ _=true
  rw [aX_bin hk,e0,e1,hl];decide
 ·show xN k (X2 k a b).d 0=true
  unfold xN xNb
  rw [if_neg (by decide),if_neg (by omega),if_pos hk,kN_eq (by rw [hl];decide),kN_eq (by rw [hl];decide)]
  dsimp only
  rw [p0,p3,q0,q3,h0,h1,ha.d,hb.d]
  simp only [inB,Bool.false_eq_true,if_false,Int.add_zero,Int.zero_add,ha.n,hb.n,Bool.and_self]
 ·show xW k _ _ _=_
  rw [xW_4 _ _ hk (by rw [hl];decide),p0,p1,p2,p3,q0,q1,q2,q3,h0,h1,ha.d,hb.d,ha.w,hb.w]
  rfl
 ·show xC k _ _ _=_
  rw [xC_4 _ _ hk (by rw [hl];decide),p0,p1,p2,p3,q0,q1,q2,q3,ha.d,hb.d,ha.c,hb.c]
structure LSt where
 t:ByteArray
 w:Xp
 s:Xp
 h:Bool
 o:Int
def sgB (c:Nat):ByteArray:=if c=0 then ⟨#[43]⟩ else if c=1 then ⟨#[45]⟩ else if c=2 then ⟨#[42]⟩ else if c=3 then ⟨#[47]⟩ else ⟨#[37]⟩
def twB:ByteArray:=⟨#[50]⟩
def lq (q:LSt):Xp:=if q.h=true then X2 q.o q.s q.w else q.w
def lstep (c:Nat) (q:LSt):LSt:=
 if 2<=c then ⟨q.t++sgB c++twB,X2 (4+c) q.w xp2,q.s,q.h,q.o⟩ else ⟨q.t++sgB c++twB,xp2,lq q,true,4+c⟩
def lst0:LSt:=⟨⟨#[112,114,111,99,32,112,32,123,32,120,32,61,32,49]⟩,xp1,⟨0,0,ByteArray.empty,.l []⟩,false,0⟩
def lst (sg:Nat->Nat):Nat->LSt
 | 0=>lst0
 |i+1=>lstep (sg i) (lst sg i)
def csW (l:List Nat):List ByteArray:=(l.map fun c=>[sgB c,twB]).flatten
structure LOk (q:LSt) (l:List ByteArray):Prop where
 su:suB q.w.k=false
 ho:q.h=true->suB q.o=true
 w:∃ la lb,Can q.w lb/\(if q.h=true then Can q.s la/\l=la++biW q.o::lb else l=lb)
theorem sgB_bi {c:Nat} (h:c<5):sgB c=biW (4+c):=by
 have:c=0 ∨ c=1 ∨ c=2 ∨ c=3 ∨ c=4:=by omega
 rcases this with rfl |rfl |rfl |rfl |rfl<;>rfl
theorem su_cases {k:Int} (h:suB k=true):k=4 ∨ k=5:=by unfold suB at h;simpa using h
theorem br_su {k:Int} (hk:k=4 ∨ k=5) {a b:Int} (hb:suB b=false):biB k=true/\brB k 0 a=false/\brB k 1 b=false:=by
 rcases hk with rfl |rfl
 ·exact ⟨by decide,by unfold brB;rw [if_neg (by decide),if_pos (by decide)];rfl,by unfold brB;rw [if_neg (by decide),if_pos (by decide),hb];rfl⟩
 ·exact ⟨by decide,by unfold brB;rw [if_neg (by decide),if_pos (by decide)];rfl,by unfold brB;rw [if_neg (by decide),if_pos (by decide),hb];rfl⟩
theorem br_pr {k:Int} (hk:k=6 ∨ k=7 ∨ k=8) {a:Int} (ha:suB a=false):biB k=true/\brB k 0 a=false/\brB k 1 1=false/\suB k=false:=by
 rcases hk with rfl |rfl |rfl
 ·exact ⟨by decide,by unfold brB;rw [if_neg (by decide),if_neg (by decide),if_pos (by decide),ha];rfl,by decide,by decide⟩
 ·exact ⟨by decide,by unfold brB;rw [if_neg (by decide),if_neg (by decide),if_pos (by decide),ha];rfl,by decide,by decide⟩
 ·exact ⟨by decide,by unfold brB;rw [if_neg (by decide),if_neg (by decide),if_pos (by decide),ha];rfl,by decide,by decide⟩
theorem LOk.fin {q:LSt} {l:List ByteArray} (h:LOk q l):Can (lq q) l:=by
 obtain ⟨la,lb,h1,h2⟩:=h.w
 unfold lq
 split at h2
 ·rename_i hc
  rw [if_pos hc,h2.2]
  obtain ⟨b1,b2,b3⟩:=br_su (su_cases (h.ho hc)) (a:=q.s.k) h.su
  exact h2.1.two h1 b1 b2 b3
 ·rename_i hc
  rw [if_neg hc,h2];exact h1
theorem LOk.step {q:LSt} {l:List ByteArray} (h:LOk q l) {c:Nat} (hc:c<5):LOk (lstep c q) (l++[sgB c,twB]):=by
 have hf:=h.fin
 unfold lstep
 split
 ·rename_i h2
  have hk:(4+c:Int)=6 ∨ (4+c:Int)=7 ∨ (4+c:Int)=8:=by omega
  obtain ⟨b1,b2,b3,b4⟩:=br_pr hk h.su
  obtain ⟨la,lb,h3,h4⟩:=h.w
  refine ⟨b4,h.ho,la,lb++biW (4+c)::[twB],h3.two can2 b1 b2 b3,?_⟩
  rw [sgB_bi hc]
  dsimp only
  split at h4
  ·rename_i hh
   rw [if_pos hh]
   exact ⟨h4.1,by rw [h4.2];simp⟩
  ·rename_i hh
   rw [if_neg hh,h4]
 ·rename_i h2
  have hk:(4+c:Int)=4 ∨ (4+c:Int)=5:=by omega
  refine ⟨by rfl,fun _=>?_,l,[twB],can2,?_⟩
  ·rcases hk with e |e<;>(dsimp only;rw [e];decide)
  ·dsimp only
   rw [if_pos rfl]
   exact ⟨hf,by rw [sgB_bi hc]⟩
theorem lst_ok {sg:Nat->Nat} (h:∀ i,sg i<5):∀ i,LOk (lst sg i) (⟨#[49]⟩::csW ((List.range i).map sg))
 | 0=>⟨by rfl,fun h=>(by cases h),[],[⟨#[49]⟩],can1,by show (if false=true then _ else _);rw [if_neg (by decide)];rfl⟩
 |i+1=>by
  have:=(lst_ok h i).step (h i)
  have e:csW ((List.range (i+1)).map sg)=csW ((List.range i).map sg)++[sgB (sg i),twB]:=by
   unfold csW
   rw [List.range_succ,List.map_append,List.map_append,List.flatten_append]
   simp
  rw [e]
  exact this
def tlw:List Nat->List (List UInt8 × ByteArray)
 | []=>[([],⟨#[59]⟩),([32],⟨#[125]⟩)]
 |c::cs=>([],sgB c)::([],twB)::tlw cs
def tlp (cs:List Nat):List (List UInt8 × ByteArray):=([],⟨#[112,114,111,99]⟩)::([32],⟨#[112]⟩)::([32],⟨#[123]⟩)::([32],⟨#[120]⟩)::([32],⟨#[61]⟩)::([32],⟨#[49]⟩)::tlw cs
def csB (l:List Nat):List UInt8:=(l.map fun c=>(sgB c).data.toList++[50]).flatten
theorem jp_tlw:∀ cs,jp (tlw cs)=csB cs++[59,32,125]
 | []=>rfl
 |c::cs=>by
  show []++((sgB c).data.toList++([]++(twB.data.toList++jp (tlw cs))))=_
  rw [jp_tlw cs]
  unfold csB
  rw [List.map_cons,List.flatten_cons]
  show []++((sgB c).data.toList++([]++([50]++_)))=_
  simp
theorem lstep_t (c:Nat) (q:LSt):(lstep c q).t=q.t++sgB c++twB:=by unfold lstep;split<;>rfl
theorem lst_t (sg:Nat->Nat):∀ i,(lst sg i).t.data.toList=[112,114,111,99,32,112,32,123,32,120,32,61,32,49]++csB ((List.range i).map sg)
 | 0=>by rfl
 |i+1=>by
  show (lstep (sg i) (lst sg i)).t.data.toList=_
  rw [lstep_t]
  show ((lst sg i).t++sgB (sg i)++twB).data.toList=_
  rw [ByteArray.data_append,ByteArray.data_append,Array.toList_append,Array.toList_append,lst_t sg i]
  unfold csB
  rw [List.range_succ,List.map_append,List.map_append,List.flatten_append]
  simp only [List.map_cons,List.map_nil,List.flatten_cons,List.flatten_nil,List.append_nil,List.append_assoc]
  rfl
theorem sg_head {c:Nat} (l:List UInt8):alnU (((sgB c).data.toList++l).headD 0)=false/\((sgB c).data.toList++l).headD 0≠61/\wOk (sgB c):=by
 unfold sgB
 repeat' split
 ·exact ⟨by rfl,(show (43:UInt8)≠61 by decide),li_bi 4⟩
 ·exact ⟨by rfl,(show (45:UInt8)≠61 by decide),li_bi 5⟩
 ·exact ⟨by rfl,(show (42:UInt8)≠61 by decide),li_bi 6⟩
 ·exact ⟨by rfl,(show (47:UInt8)≠61 by decide),li_bi 7⟩
 ·exact ⟨by rfl,(show (37:UInt8)≠61 by decide),li_bi 8⟩
theorem tl_head:∀ cs,alnU ((jp (tlw cs)).headD 0)=false/\jp (tlw cs)≠[]
 | []=>⟨by decide,by decide⟩
 |c::cs=>by
  constructor
  ·exact (sg_head (c:=c) _).1
  ·intro h
   have h1:([]:List UInt8)++((sgB c).data.toList++([]++(twB.data.toList++jp (tlw cs))))=[]:=h
   have h2:twB.data.toList=[50]:=rfl
   rw [h2] at h1
   simp at h1
theorem it2:itW 2=twB:=by decide +kernel
theorem it1:itW 1=⟨#[49]⟩:=by decide +kernel
theorem wOk_two:wOk twB:=it2 ▸ nu_ok (n:=2) (by decide)
theorem wOk_one:wOk ⟨#[49]⟩:=it1 ▸ nu_ok (n:=1) (by decide)
theorem fitp_tlw:∀ cs,fitp (tlw cs)
 | []=>⟨li_se,fun _ h=>(by cases h),.inr (by decide),li_cb,fun b hb=>(by rw [List.mem_singleton.1 hb];decide),.inl rfl,trivial⟩
 |c::cs=>by
  obtain ⟨h1,h2,h3⟩:=sg_head (c:=c) []
  rw [List.append_nil] at h1
  obtain ⟨t1,t2⟩:=tl_head cs
  refine ⟨h3,fun _ h=>(by cases h),.inr ?_,wOk_two,fun _ h=>(by cases h),.inr ?_,fitp_tlw cs⟩
  ·rw [if_neg (by rw [h1];decide)]
   show (50:UInt8)≠61
   decide
  ·rw [if_pos (by decide)];exact t1
theorem fitp_tlp (cs:List Nat):fitp (tlp cs):=by
 have g32:∀ b∈([32]:List UInt8),gapU b=true:=fun b hb=>by rw [List.mem_singleton.1 hb];decide
 refine ⟨kw_proc,fun _ h=>(by cases h),.inr (by rw [if_pos (by decide)];rfl),nm_ok (by decide +kernel),g32,.inr (by rw [if_pos (by decide)];rfl),li_ob,g32,.inr (by rw [if_neg (by decide)];show (32:UInt8)≠61;decide),nm_ok (by decide +kernel),g32,.inr (by rw [if_pos (by decide)];rfl),li_eq,g32,.inr (by rw [if_neg (by decide)];show (32:UInt8)≠61;decide),wOk_one,g32,.inr ?_,fitp_tlw cs⟩
 rw [if_pos (by decide)]
 exact (tl_head cs).1
theorem tlw_snd:∀ cs,(tlw cs).map Prod.snd=csW cs++[⟨#[59]⟩,⟨#[125]⟩]
 | []=>rfl
 |c::cs=>by
  show sgB c::twB::(tlw cs).map Prod.snd=_
  rw [tlw_snd cs]
  unfold csW
  rw [List.map_cons,List.flatten_cons]
  rfl
theorem tlw_len:∀ cs,(tlw cs).length=2*cs.length+2
 | []=>rfl
 |c::cs=>by
  show (tlw cs).length+1+1=_
  rw [tlw_len cs,List.length_cons];omega
def stR1 (x:Xp):List D:=[.i 1,.s ⟨#[120]⟩,.s ByteArray.empty,.i x.k,.i x.n,.s x.s,x.d,.i 0,.i 0,.i 0,.s ByteArray.empty,.l [],.i 0,.i 0,.s ByteArray.empty,.l [],.l [],.l [],.l []]
def sy1 (x:Xp):D:=.l [[.s ⟨#[112]⟩,.l [],.l [stR1 x]]]
theorem bW1 {x:Xp} {l:List ByteArray} (h:Can x l):bW (.l [stR1 x])=⟨#[120]⟩::⟨#[61]⟩::(l++[⟨#[59]⟩]):=by
 rw [bW_eq]
 have e:catTo (D.l [stR1 x]).len (stWE (.l [stR1 x]))=stWE (.l [stR1 x]) 0:=by
  show catTo 1 _=_
  unfold catTo
  simp
 rw [e]
 unfold stWE stW stWF
 rw [if_pos (show ((D.l [stR1 x]).el 0 0).toI=1 from rfl)]
 show _::_::(xW x.k x.n x.s x.d++_)=_
 rw [h.w]
 rfl
theorem sy1_W {x:Xp} {l:List ByteArray} (h:Can x l):syW (.l []) (.l []) (sy1 x)=[⟨#[112,114,111,99]⟩,⟨#[112]⟩,⟨#[123]⟩,⟨#[120]⟩,⟨#[61]⟩]++(l++[⟨#[59]⟩,⟨#[125]⟩]):=by
 have e:catTo (sy1 x).len (prWE (sy1 x))=prWE (sy1 x) 0:=by
  show catTo 1 _=_
  unfold catTo
  simp
 show []++([]++catTo (sy1 x).len (prWE (sy1 x)))=_
 rw [e]
 show []++([]++([⟨#[112,114,111,99]⟩,⟨#[112]⟩,⟨#[123]⟩]++([]++(bW (.l [stR1 x])++[⟨#[125]⟩]))))=_
 rw [bW1 h]
 simp
theorem sy1_B {x:Xp} {l:List ByteArray} (h:Can x l):syB (.l []) (.l []) (sy1 x)=true:=by
 have hb:bA (.l [stR1 x])=true:=by
  rw [bA_eq]
  refine allB_yes fun i hi=>?_
  obtain rfl:i=0:=Nat.lt_one_iff.1 hi
  unfold stE stA aStF
  rw [if_pos (show ((D.l [stR1 x]).el 0 0).toI=1 from rfl)]
  show (nmB ⟨#[120]⟩&&aX x.k x.n x.s x.d)=true
  rw [h.a,Bool.and_true]
  decide +kernel
 have hp:allB (sy1 x).len (prE (sy1 x))=true:=allB_yes fun i hi=>by
  obtain rfl:i=0:=Nat.lt_one_iff.1 hi
  show (nmB ⟨#[112]⟩&&nsA (.l [])&&bA (.l [stR1 x]))=true
  rw [hb,Bool.and_true]
  decide +kernel
 show (true&&(true&&allB (sy1 x).len (prE (sy1 x))))=true
 rw [hp];rfl
theorem sy1_N {x:Xp} {l:List ByteArray} (h:Can x l):syN (sy1 x)=true:=by
 refine allB_yes fun i hi=>?_
 obtain rfl:i=0:=Nat.lt_one_iff.1 hi
 show bN (.l [stR1 x]) 0=true
 rw [bN_eq]
 refine allB_yes fun i hi=>?_
 obtain rfl:i=0:=Nat.lt_one_iff.1 hi
 unfold stNE stN stNF
 rw [if_pos (.inl (show ((D.l [stR1 x]).el 0 0).toI=1 from rfl))]
 exact h.n
theorem sy1_C {x:Xp} {l:List ByteArray} (h:Can x l):prCd (sy1 x)=sy1 x:=by
 have hb:bC (.l [stR1 x]) = .l [stR1 x]:=by
  rw [bC_eq]
  show D.l [stCE (.l [stR1 x]) 0]=_
  have:stCE (.l [stR1 x]) 0=stR1 x:=by
   unfold stCE stC stCF
   rw [if_pos (show ((D.l [stR1 x]).el 0 0).toI=1 from rfl)]
   have hc:xC ((D.l [stR1 x]).el 0 3).toI ((D.l [stR1 x]).el 0 4).toI ((D.l [stR1 x]).el 0 5).toS ((D.l [stR1 x]).el 0 6)=x:=h.c
   rw [hc]
   unfold St.row stR1
   dsimp only
   rw [h.d]
   rfl
  rw [this]
 show D.l [[.s ⟨#[112]⟩,.l [],.l (bC (.l [stR1 x])).rows]]=_
 rw [hb];rfl
theorem plf_rd {x:Xp} {cs:List Nat} (h:Can x (⟨#[49]⟩::csW cs)) {t:ByteArray} (ht:t.data.toList=jp (tlp cs)) (hl:cs.length<=12):paC t = .l []/\paU t = .l []/\paP t=sy1 x/\paE t=0:=by
 have e2:(tlp cs).length=2*cs.length+8:=by
  show (tlw cs).length+1+1+1+1+1+1=_
  rw [tlw_len]
 obtain ⟨ts,t1,t2⟩:=lexR_jp ht (fitp_tlp cs) (by omega)
 have e:(tlp cs).map Prod.snd=syW (.l []) (.l []) (sy1 x):=by
  rw [sy1_W h]
  show _::_::_::_::_::_::(tlw cs).map Prod.snd=_
  rw [tlw_snd]
  simp
 rw [e] at t2
 obtain ⟨h1,h2,h3,_,h5⟩:=toks_rd t1 t2 (by rw [<- e,List.length_map,e2];omega) (sy1_B h) (sy1_N h)
 obtain ⟨e1,e2,e3,_,e5⟩:=parse_eq t
 rw [sy1_C h] at h3
 exact ⟨e1.trans h1,e2.trans h2,e3.trans h3,e5.trans h5⟩
theorem sy1_al {x:Xp} {l:List ByteArray} (h:Can x l):chAls (.l []) (.l [])/\ruAls (.l []) (.l [])/\prAls (sy1 x) (sy1 x):=by
 obtain ⟨h1,h2,h3⟩:=sy_self (sy1_B h)
 rw [sy1_C h] at h3
 exact ⟨h1,h2,h3⟩
end Go.Proofs.Ytbhbjhejkamlnaa.Sx.Z
namespace Go.Proofs.Ytbhbjhejkamlnaa.Sx
open Go.RowKit
def deepS (g:SC->SC × List Prop × List Nat):List Seg->List Seg × List Prop × List Nat
 | []=>([],[],[])
 | .c x::r=>(match g x,deepS g r with |(x',ps,is),(r',qs,js)=>(.c x'::r',ps++qs,is++js))
 | .ints k n f::r=>(match deepS g r with |(r',qs,js)=>(.ints k n f::r',qs,js))
def deepR (hp:Heap) (g:SC->SC × List Prop × List Nat) (id n:Nat):SC × List Prop × List Nat:=match look hp id with
 |some (.own e l)=>(match rowsDs (eks e) n (deepS g l).1 with
  |some r=>(.rows e (.l r),(deepS g l).2.1,id::(deepS g l).2.2)
  |none=>(.slice id (.lit 0) (.lit n),[],[]))
 |_=>(.slice id (.lit 0) (.lit n),[],[])
def deepX (hp:Heap):Nat->SC->SC × List Prop × List Nat
 | 0,x=>(x,[],[])
 |f+1,.slice id (.lit 0) (.lit n)=>deepR hp (deepX hp f) id n
 |_+1,x=>fzC hp x
theorem deepX_alt (hp:Heap) (f:Nat) (x:SC):(∃ id n,x = .slice id (.lit 0) (.lit n)/\deepX hp (f+1) x=deepR hp (deepX hp f) id n) ∨ deepX hp (f+1) x=fzC hp x:=by
 unfold deepX
 split
 ·rename_i h;cases h
 ·rename_i f' id n h
  cases h
  exact .inl ⟨id,n,rfl,rfl⟩
 ·exact .inr rfl
def deepV (hp:Heap):SV->SV × List Prop × List Nat
 | .one (.sc x)=>(match deepX hp 6 x with |(x',r)=>(.one (.sc x'),r))
 | .one (.agg a)=>(match deepS (deepX hp 6) a with |(a',r)=>(.one (.agg a'),r))
 |x=>(x,[],[])
def deepA (hp:Heap):List SV->List SV × List Prop × List Nat
 | []=>([],[],[])
 |x::r=>(match deepV hp x,deepA hp r with |(x',ps,is),(r',qs,js)=>(x'::r',ps++qs,is++js))
section
variable {hp:Heap} {w0:W0} {w:World} {ρ:Map} {all:List Nat}
theorem deepS_spec {g:SC->SC × List Prop × List Nat} (ext:Ext ρ (ρ.frz w all)) (hg:∀ x,All (g x).2.1->(∀ id∈(g x).2.2,ownId hp id=true->id∈all)->∀ {v:Value},CRel ρ x v->CRel (ρ.frz w all) (g x).1 v) :
 ∀ (x:List Seg),All (deepS g x).2.1->(∀ id∈(deepS g x).2.2,ownId hp id=true->id∈all)->∀ {vs:List Value},CsRel ρ (cellsOf x) vs->CsRel (ρ.frz w all) (cellsOf (deepS g x).1) vs
 | [],_,_,vs,hv=>csrel_ext ext hv
 | .c x::r,hp',hall,vs,hv=>by
   obtain ⟨hp1,hp2⟩:=all_append.1 (show All ((g x).2.1++(deepS g r).2.1) from hp')
   have hall':∀ id∈(g x).2.2++(deepS g r).2.2,ownId hp id=true->id∈all:=hall
   show CsRel (ρ.frz w all) (cellsOf (.c (g x).1::(deepS g r).1)) vs
   rw [cellsOf_cons] at hv ⊢
   obtain ⟨u,v,rfl,g1,g2⟩:=csrel_cons.1 hv
   refine csrel_append ⟨g1.1,fun i a b ha hb=>?_⟩ (deepS_spec ext hg r hp2 (fun id hi=>hall' id (List.mem_append_right _ hi)) g2)
   cases i with
   |zero=>
    simp only [Seg.cells,List.getElem?_cons_zero,Option.some.injEq] at ha
    subst ha
    exact hg x hp1 (fun id hi=>hall' id (List.mem_append_left _ hi)) (g1.2 0 x b (by simp [Seg.cells]) hb)
   |succ i=>simp [Seg.cells] at ha
 | .ints k n f::r,hp',hall,vs,hv=>by
   show CsRel (ρ.frz w all) (cellsOf (.ints k n f::(deepS g r).1)) vs
   rw [cellsOf_cons] at hv ⊢
   obtain ⟨u,v,rfl,g1,g2⟩:=csrel_cons.1 hv
   exact csrel_append (csrel_ext ext g1) (deepS_spec ext hg r hp' hall g2)
theorem deepR_spec (hw:WH w0 ρ hp w) {g:SC->SC × List Prop × List Nat} (hg:∀ x,All (g x).2.1->(∀ id∈(g x).2.2,ownId hp id=true->id∈all)->∀ {v:Value},CRel ρ x v->CRel (ρ.frz w all) (g x).1 v) (id n:Nat) (hp':All (deepR hp g id n).2.1) (hall:∀ i∈(deepR hp g id n).2.2,ownId hp i=true->i∈all) {v:Value} (hv:CRel ρ (.slice id (.lit 0) (.lit n)) v):CRel (ρ.frz w all) (deepR hp g id n).1 v:=by
 have ext:Ext ρ (ρ.frz w all):=(fr_freeze (B:=0) hw.froz all .junk []).ext
 unfold deepR at hp' hall ⊢
 cases hl:look hp id with
 |none=>exact crel_ext ext hv
 |some en=>
  rw [hl] at hp' hall
  cases en with
  |own e l=>
   dsimp only at hp' hall ⊢
   cases hr:rowsDs (eks e) n (deepS g l).1 with
   |none=>exact crel_ext ext hv
   |some r=>
    rw [hr] at hp' hall
    dsimp only at hp' hall ⊢
    obtain ⟨A,c,rfl,hc,hA⟩:=hv
    obtain ⟨h1,h2,_,vs,hcs,hh⟩:=hw.ents id _ hl
    have hcs':=deepS_spec (hp:=hp) ext hg l hp' (fun i hi ho=>hall i (List.mem_cons_of_mem _ hi) ho) hcs
    obtain ⟨k1,k2,k3⟩:=rowsDs_spec n _ r hr _ hcs'
    have hlen:(D.l r).len=n:=k1
    rcases hA with ⟨hid,rfl⟩ |⟨hn,hc0⟩
    ·have hF:=passF_at hw.froz (hall id (List.mem_cons_self ..) (by simp [ownId,hl,Ent.isOwn])) hid hh
     have e0:ρ.at id (SO.lit 0).v=⟨ρ.blk id,0,none⟩:=by simp [Map.at,h2,SO.v]
     rw [e0]
     have hn:(SN.lit n).v=(D.l r).len:=hlen.symm
     rw [hn]
     refine .slice e (.l r) (ρ.blk id) 0 c (fun i j=>(vs[i*(eks e).length+j]?).getD undef) (by rw [<- hn];exact hc) (fun i j hi hj=>?_) (fun i j k hi hk=>?_)
     ·obtain ⟨u,hu,_⟩:=k3 i j _ (by omega) (List.getElem?_eq_getElem hj)
      show Fz.cell (passF ρ w all) _ _=_
      simp only [Fz.cell,hF,Nat.zero_add]
      simp [hu]
     ·obtain ⟨u,hu,ht⟩:=k3 i j k (by omega) hk
      simp only [hu,Option.getD_some]
      exact ht
    ·have hn0:n=0:=hn
     subst hn0
     subst hc0
     cases A with
     |none=>exact .nil e (.l r) hlen
     |some a=>exact .empty e (.l r) a 0 hlen
  |_=>exact crel_ext ext hv
theorem deepX_spec (hw:WH w0 ρ hp w):∀ (f:Nat) (x:SC),All (deepX hp f x).2.1->(∀ id∈(deepX hp f x).2.2,ownId hp id=true->id∈all)->∀ {v:Value},CRel ρ x v->CRel (ρ.frz w all) (deepX hp f x).1 v
 | 0,x,_,_,v,hv=>crel_ext (fr_freeze (B:=0) hw.froz all .junk []).ext hv
 |f+1,x,hp',hall,v,hv=>by
  rcases deepX_alt hp f x with ⟨id,n,rfl,e⟩ |e
  ·rw [e] at hp' hall ⊢
   exact deepR_spec hw (fun x=>deepX_spec hw f x) id n hp' hall hv
  ·rw [e] at hp' hall ⊢
   exact fzC_spec hw x hp' hall hv
theorem deepV_spec (hw:WH w0 ρ hp w) (x:SV) (hp':All (deepV hp x).2.1) (hall:∀ id∈(deepV hp x).2.2,ownId hp id=true->id∈all) {v:Value} (hv:UR ρ x v):UR (ρ.frz w all) (deepV hp x).1 v:=by
 have ext:Ext ρ (ρ.frz w all):=(fr_freeze (B:=0) hw.froz all .junk []).ext
 cases x with
 |one x=>
  cases x with
  |sc c=>exact deepX_spec hw 6 c hp' hall hv
  |agg l=>obtain ⟨cs,rfl,hc⟩:=hv;exact ⟨cs,rfl,deepS_spec (hp:=hp) ext (fun x=>deepX_spec hw 6 x) l hp' hall hc⟩
 |tup l=>exact ur_ext ext hv
 |cond=>exact hv.elim
 |junk=>exact hv.elim
theorem deepA_spec (hw:WH w0 ρ hp w):∀ (l:List SV) (vs:List Value),All (deepA hp l).2.1->(∀ id∈(deepA hp l).2.2,ownId hp id=true->id∈all)->ArgsRel ρ l vs->ArgsRel (ρ.frz w all) (deepA hp l).1 vs
 | [],[],_,_,_=>trivial
 | [],_::_,_,_,h=>h.elim
 |_::_,[],_,_,h=>h.elim
 |x::r,v::vs,hp',hall,h=>by
  obtain ⟨hp1,hp2⟩:=all_append.1 (show All ((deepV hp x).2.1++(deepA hp r).2.1) from hp')
  have hall':∀ id∈(deepV hp x).2.2++(deepA hp r).2.2,ownId hp id=true->id∈all:=hall
  exact ⟨deepV_spec hw x hp1 (fun id hi=>hall' id (List.mem_append_left _ hi)) h.1,deepA_spec hw r vs hp2 (fun id hi=>hall' id (List.mem_append_right _ hi)) h.2⟩
end
def stOwn (hp:Heap):Heap->Bool
 | []=>true
 |(id,_)::r=>ownId hp id&&stOwn hp r
theorem stOwn_look {hp:Heap}:∀ {st:Heap},stOwn hp st=true->∀ {id:Nat} {x:Ent},look st id=some x->ownId hp id=true
 | [],_,id,x,h=>by simp [look] at h
 |(j,y)::r,hs,id,x,h=>by
  simp only [stOwn,Bool.and_eq_true] at hs
  simp only [look] at h
  split at h
  ·rename_i hj
   obtain rfl:j=id:=by simpa using hj
   exact hs.1
  ·exact stOwn_look hs.2 h
def conZ (c:Con):Con:=fun hp fr args=>match args with
 | .junk::r=>c hp fr (.junk::r)
 |args=>match c hp fr args with
  |some e=>some e
  |none=>(match deepA hp args with
   |(bs,ps,ids)=>(match c (kills (keepOwn hp ids)++hp) fr bs with
    |some e=>if stOwn (kills (keepOwn hp ids)++hp) e.st then some {e with vc:=ps++e.vc,st:=kills (keepOwn hp ids)++e.st} else none
    |none=>none))
theorem conZ_ok {P:Program} {f:FuncId} {c:Con} (h:ConOK P f c):ConOK P f (conZ c):=by
 refine ⟨h.enters,fun hp fr args e he hv w0 w ρ vs hw hn ha=>?_,fun hp fr caps e he=>h.clo hp fr caps e he⟩
 unfold conZ at he
 split at he
 ·exact h.calls hp fr _ e he hv w0 w ρ vs hw hn ha
 ·split at he
  ·rename_i e' he'
   obtain rfl:=Option.some.inj he
   exact h.calls hp fr _ _ he' hv w0 w ρ vs hw hn ha
  ·dsimp only at he
   split at he
   ·rename_i e' he'
    split at he
    ·rename_i hso
     obtain rfl:=Option.some.inj he
     obtain ⟨hp1,hp2⟩:=all_append.1 hv
     have hw1:=wh_frz hw (deepA hp args).2.2
     have ha1:=deepA_spec hw args vs hp1 (all:=keepOwn hp (deepA hp args).2.2) (fun id hi ho=>keepOwn_mem.2 ⟨hi,ho⟩) ha
     refine (h.calls _ fr _ e' he' hp2 w0 w _ vs hw1 hn ha1).mono ?_
     rintro en w' ⟨ρ',v,rfl,g1,g2⟩
     refine ⟨ρ',v,rfl,g1,fr_comp hw.froz g2 (fun id x hx hs=>?_) _⟩
     have ho:=stOwn_look hso hx
     unfold ownId at ho
     split at ho
     ·rename_i y hy
      exact (erel_some (hw1.ents id y hy) ho hs).1.2
     ·cases ho
    ·cases he
   ·cases he
end Go.Proofs.Ytbhbjhejkamlnaa.Sx
