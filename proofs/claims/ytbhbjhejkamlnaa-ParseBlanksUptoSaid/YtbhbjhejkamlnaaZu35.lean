import Derived.Test.YtbhbjhejkamlnaaZu34
import Derived.Test.YtbhbjhejkamlnaaZu33
import Derived.Test.YtbhbjhejkamlnaaZu25
import Derived.Test.YtbhbjhejkamlnaaZu13
import Derived.Test.YtbhbjhejkamlnaaZu22
set_option linter.unusedVariables false
set_option linter.unusedSimpArgs false
namespace Go.Proofs.Ytbhbjhejkamlnaa.Sx.Z
open Go.RowKit
def qCh:AP:=.agg [.c .str,.c (.int .i64),.c (.int .i64),.c .str,.c .str,.c (.rows 9)]
def qRu:AP:=.agg [.c .str,.c (.rows 106)]
def qPo:AP:=.agg [.c .str,.c (.rows 9),.c (.rows 95)]
def qSy:AP:=.agg [.c (.rows 97),.c (.rows 102),.c (.rows 87)]
def nsAl (a b:D):Prop:=a.len=b.len/\∀ i,i<a.len->(a.el i 0).toS=(b.el i 0).toS
def mvAl (a b:D):Prop:=a.len=b.len/\∀ i,i<a.len->(a.el i 0).toI=(b.el i 0).toI/\(a.el i 1).toS=(b.el i 1).toS/\(a.el i 2).toI=(b.el i 2).toI
def chAl (a b:D) (i:Nat):Prop:=(a.el i 0).toS=(b.el i 0).toS/\(a.el i 1).toI=(b.el i 1).toI/\(a.el i 2).toI=(b.el i 2).toI/\(a.el i 3).toS=(b.el i 3).toS/\(a.el i 4).toS=(b.el i 4).toS/\nsAl (a.el i 5) (b.el i 5)
def ruAl (a b:D) (i:Nat):Prop:=(a.el i 0).toS=(b.el i 0).toS/\mvAl (a.el i 1) (b.el i 1)
def prAl (a b:D) (i:Nat):Prop:=(a.el i 0).toS=(b.el i 0).toS/\nsAl (a.el i 1) (b.el i 1)/\BR (a.el i 2) (b.el i 2)
def chAls (a b:D):Prop:=a.len=b.len/\∀ i,i<a.len->chAl a b i
def ruAls (a b:D):Prop:=a.len=b.len/\∀ i,i<a.len->ruAl a b i
def prAls (a b:D):Prop:=a.len=b.len/\∀ i,i<a.len->prAl a b i
noncomputable def eqzS:FSpec:=fun ds _=>match ds with
 | [.d a,.d b]=>some {val:=.one (.sc (.bool (.lit true))),vc:=[nsAl a b,a.len<=3000000]}
 |_=>none
noncomputable def eqzC:Con:=con [.sc (.rows 9),.sc (.rows 9)] eqzS
theorem eqz_ok:ConOK Try.prog 49 eqzC:=by
 refine fn_ob tt_ok mixed Try.func49 rfl (fun _ _=>by kernel_rfl) (A:=fun ds=>⟨fun _=>Cons.of [],fun k=>match k,ds with | 4,[.d a,.d b]=>some {ι:=Nat,pre:=fun _ i=>i<=a.len/\True,μ:=fun i=>a.len+1-i,st:=fun s i=>famR s [(13,.one (.sc (.int .i64 (.sym ((i:Nat)))))),(12,.one (.sc (.int .i64 (.sym ((a.len:Nat))))))] [0,1,11] [] []} |_,_=>none,fun _=>none⟩) (fun _ _=>cons_nil) (by kernel_rfl) ?_
 intro ds fr
 unfold eqzS
 split
 ·rename_i a b
  refine kmp (q:=nsAl a b->a.len<=(3000000:Nat)->(((↑a.len:Int) != (↑b.len:Int))=true->false=true)/\(((↑a.len:Int) != (↑b.len:Int))=false->(∃ (i:Nat),(i<=a.len/\True)/\(0:Int)=(↑i:Int)/\(↑a.len:Int)=(↑a.len:Int)/\a.rows=a.rows/\b.rows=b.rows/\a.rows=a.rows)/\∀ (i:Nat),i<=a.len/\True->(decide ((↑i:Int)<(↑a.len:Int))=true->((0:Int)<=(↑i:Int)/\(↑i:Int)<(↑a.len:Int))/\((0:Int)<=(↑i:Int)/\(↑i:Int)<(↑b.len:Int))/\((!(a.el (↑i:Int).toNat (0:Nat)).toS.toList==(b.el (↑i:Int).toNat (0:Nat)).toS.toList)=true->false=true)/\((!(a.el (↑i:Int).toNat (0:Nat)).toS.toList==(b.el (↑i:Int).toNat (0:Nat)).toS.toList)=false->∃ (j:Nat),(j<=a.len/\True)/\a.len+(1:Nat)-j<a.len+(1:Nat)-i/\IntKind.i64.wrap ((↑i:Int)+(1:Int))=(↑j:Int)/\(↑a.len:Int)=(↑a.len:Int)/\a.rows=a.rows/\b.rows=b.rows/\a.rows=a.rows))/\(decide ((↑i:Int)<(↑a.len:Int))=false->true=true))) (by kernel_rfl) ?_
  rintro ⟨hl,hR⟩ hz1
  refine ⟨fun hc=>by rw [hl] at hc;simp at hc,fun _=>⟨⟨0,⟨Nat.zero_le _,trivial⟩,(by (repeat' (with_reducible apply And.intro))<;>first |with_reducible rfl |exact True.intro |assumption |(symm;assumption) |rfl)⟩,fun i hi=>⟨fun hc=>?_,fun _=>rfl⟩⟩⟩
  have hc:=of_decide_eq_true hc
  have hi2:i<a.len:=by omega
  have en:(i:Int).toNat=i:=Int.toNat_natCast i
  have hw:IntKind.i64.wrap ((i:Int)+1)=((i+1:Nat):Int):=by rw [IntWalk.i64_in _ (by omega)];omega
  simp only [en]
  exact ⟨⟨by omega,hc⟩,⟨by omega,by omega⟩,fun hx=>by rw [hR i hi2] at hx;simp at hx,fun _=>⟨i+1,⟨hi2,trivial⟩,by omega,hw,(by (repeat' (with_reducible apply And.intro))<;>first |with_reducible rfl |exact True.intro |assumption |(symm;assumption) |rfl)⟩⟩
 ·trivial
noncomputable def eqmS:FSpec:=fun ds _=>match ds with
 | [.d a,.d b]=>some {val:=.one (.sc (.bool (.lit true))),vc:=[mvAl a b,a.len<=3000000]}
 |_=>none
noncomputable def eqmC:Con:=con [.sc (.rows 106),.sc (.rows 106)] eqmS
theorem eqm_ok:ConOK Try.prog 50 eqmC:=by
 refine fn_ob tt_ok mixed Try.func50 rfl (fun _ _=>by kernel_rfl) (A:=fun ds=>⟨fun _=>Cons.of [],fun k=>match k,ds with | 4,[.d a,.d b]=>some {ι:=Nat,pre:=fun _ i=>i<=a.len/\True,μ:=fun i=>a.len+1-i,st:=fun s i=>famR s [(13,.one (.sc (.int .i64 (.sym ((i:Nat)))))),(12,.one (.sc (.int .i64 (.sym ((a.len:Nat))))))] [0,1,11] [] []} |_,_=>none,fun _=>none⟩) (fun _ _=>cons_nil) (by kernel_rfl) ?_
 intro ds fr
 unfold eqmS
 split
 ·rename_i a b
  refine kmp (q:=mvAl a b->a.len<=(3000000:Nat)->(((↑a.len:Int) != (↑b.len:Int))=true->false=true)/\(((↑a.len:Int) != (↑b.len:Int))=false->(∃ (i:Nat),(i<=a.len/\True)/\(0:Int)=(↑i:Int)/\(↑a.len:Int)=(↑a.len:Int)/\a.rows=a.rows/\b.rows=b.rows/\a.rows=a.rows)/\∀ (i:Nat),i<=a.len/\True->(decide ((↑i:Int)<(↑a.len:Int))=true->((0:Int)<=(↑i:Int)/\(↑i:Int)<(↑a.len:Int))/\((0:Int)<=(↑i:Int)/\(↑i:Int)<(↑b.len:Int))/\((!((a.el (↑i:Int).toNat (0:Nat)).toI==(b.el (↑i:Int).toNat (0:Nat)).toI&&((a.el (↑i:Int).toNat 1).toS.toList==(b.el (↑i:Int).toNat 1).toS.toList&&((a.el (↑i:Int).toNat 2).toI==(b.el (↑i:Int).toNat 2).toI&&true))))=true->false=true)/\((!((a.el (↑i:Int).toNat (0:Nat)).toI==(b.el (↑i:Int).toNat (0:Nat)).toI&&((a.el (↑i:Int).toNat 1).toS.toList==(b.el (↑i:Int).toNat 1).toS.toList&&((a.el (↑i:Int).toNat 2).toI==(b.el (↑i:Int).toNat 2).toI&&true))))=false->∃ (j:Nat),(j<=a.len/\True)/\a.len+(1:Nat)-j<a.len+(1:Nat)-i/\IntKind.i64.wrap ((↑i:Int)+(1:Int))=(↑j:Int)/\(↑a.len:Int)=(↑a.len:Int)/\a.rows=a.rows/\b.rows=b.rows/\a.rows=a.rows))/\(decide ((↑i:Int)<(↑a.len:Int))=false->true=true))) (by kernel_rfl) ?_
  rintro ⟨hl,hR⟩ hz1
  refine ⟨fun hc=>by rw [hl] at hc;simp at hc,fun _=>⟨⟨0,⟨Nat.zero_le _,trivial⟩,(by (repeat' (with_reducible apply And.intro))<;>first |with_reducible rfl |exact True.intro |assumption |(symm;assumption) |rfl)⟩,fun i hi=>⟨fun hc=>?_,fun _=>rfl⟩⟩⟩
  have hc:=of_decide_eq_true hc
  have hi2:i<a.len:=by omega
  have en:(i:Int).toNat=i:=Int.toNat_natCast i
  have hw:IntKind.i64.wrap ((i:Int)+1)=((i+1:Nat):Int):=by rw [IntWalk.i64_in _ (by omega)];omega
  simp only [en]
  exact ⟨⟨by omega,hc⟩,⟨by omega,by omega⟩,fun hx=>by obtain ⟨r1,r2,r3⟩:=hR i hi2;rw [r1,r2,r3] at hx;simp at hx,fun _=>⟨i+1,⟨hi2,trivial⟩,by omega,hw,(by (repeat' (with_reducible apply And.intro))<;>first |with_reducible rfl |exact True.intro |assumption |(symm;assumption) |rfl)⟩⟩
 ·trivial
noncomputable def schS:FSpec:=fun ds _=>match ds with
 | [.s n,.i k,.i z,.s f,.s t,.d d,.s n2,.i k2,.i z2,.s f2,.s t2,.d d2]=>some {val:=.one (.sc (.bool (.lit true))),vc:=[(n=n2/\k=k2/\z=z2/\f=f2/\t=t2/\nsAl d d2),d.len<=3000000]}
 |_=>none
noncomputable def schC:Con:=con [qCh,qCh] schS
theorem sch_ok:ConOK Try.prog 24 schC:=by
 refine fn_ob tt_ok mixed Try.func24 rfl (fun _ _=>by kernel_rfl) (A:=fun ds=>⟨fun _=>Cons.of [(49,eqzC)],fun _=>none,fun _=>none⟩) (fun _ _=>(cons_cons eqz_ok cons_nil)) (by kernel_rfl) ?_
 intro ds fr
 unfold schS
 split
 ·rename_i n k z f t d n2 k2 z2 f2 t2 d2
  refine kmp (q:=n=n2/\k=k2/\z=z2/\f=f2/\t=t2/\nsAl d d2->d.len<=(3000000:Nat)->((n.toList==n2.toList&&k==k2&&z==z2&&f.toList==f2.toList&&t.toList==t2.toList)=true/\True->nsAl d d2)/\((n.toList==n2.toList&&k==k2&&z==z2&&f.toList==f2.toList&&t.toList==t2.toList)=true/\True->d.len<=(3000000:Nat))/\(n.toList==n2.toList&&k==k2&&z==z2&&f.toList==f2.toList&&t.toList==t2.toList ||false)=true) (by kernel_rfl) ?_
  rintro ⟨rfl,rfl,rfl,rfl,rfl,hd⟩ hl
  exact ⟨fun _=>hd,fun _=>hl,by simp⟩
 ·trivial
noncomputable def sruS:FSpec:=fun ds _=>match ds with
 | [.s n,.d d,.s n2,.d d2]=>some {val:=.one (.sc (.bool (.lit true))),vc:=[(n=n2/\mvAl d d2),d.len<=3000000]}
 |_=>none
noncomputable def sruC:Con:=con [qRu,qRu] sruS
theorem sru_ok:ConOK Try.prog 26 sruC:=by
 refine fn_ob tt_ok mixed Try.func26 rfl (fun _ _=>by kernel_rfl) (A:=fun ds=>⟨fun _=>Cons.of [(50,eqmC)],fun _=>none,fun _=>none⟩) (fun _ _=>(cons_cons eqm_ok cons_nil)) (by kernel_rfl) ?_
 intro ds fr
 unfold sruS
 split
 ·rename_i n d n2 d2
  refine kmp (q:=n=n2/\mvAl d d2->d.len<=(3000000:Nat)->((n.toList==n2.toList)=true/\True->mvAl d d2)/\((n.toList==n2.toList)=true/\True->d.len<=(3000000:Nat))/\(n.toList==n2.toList ||false)=true) (by kernel_rfl) ?_
  rintro ⟨rfl,hd⟩ hl
  exact ⟨fun _=>hd,fun _=>hl,by simp⟩
 ·trivial
noncomputable def spoS:FSpec:=fun ds _=>match ds with
 | [.s n,.d d,.d b,.s n2,.d d2,.d b2]=>some {val:=.one (.sc (.bool (.lit true))),vc:=[(n=n2/\nsAl d d2/\BR b b2),d.len<=3000000,bS b]}
 |_=>none
noncomputable def spoC:Con:=con [qPo,qPo] spoS
theorem spo_ok:ConOK Try.prog 28 spoC:=by
 refine fn_ob tt_ok mixed Try.func28 rfl (fun _ _=>by kernel_rfl) (A:=fun ds=>⟨fun _=>Cons.of [(49,eqzC),(51,sbyC)],fun _=>none,fun _=>none⟩) (fun _ _=>(cons_cons eqz_ok (cons_cons sby_ok cons_nil))) (by kernel_rfl) ?_
 intro ds fr
 unfold spoS
 split
 ·rename_i n d b n2 d2 b2
  refine kmp (q:=n=n2/\nsAl d d2/\BR b b2->d.len<=(3000000:Nat)->bS b->((n.toList==n2.toList)=true/\True->nsAl d d2)/\((n.toList==n2.toList)=true/\True->d.len<=(3000000:Nat))/\((n.toList==n2.toList ||false)=true/\True->BR b b2)/\((n.toList==n2.toList ||false)=true/\True->bS b)/\(n.toList==n2.toList ||false ||false)=true) (by kernel_rfl) ?_
  rintro ⟨rfl,hd,hb⟩ hl hs
  exact ⟨fun _=>hd,fun _=>hl,fun _=>hb,fun _=>hs,by simp⟩
 ·trivial
noncomputable def eqcS:FSpec:=fun ds _=>match ds with
 | [.d a,.d b,.v kf]=>(match isFn 24 kf with |true=>some {val:=.one (.sc (.bool (.lit true))),vc:=[chAls a b,a.len<=3000000,(∀ i,i<a.len->(a.el i 5).len<=3000000)]} |false=>none)
 |_=>none
noncomputable def eqcC:Con:=con [.sc (.rows 97),.sc (.rows 97),.sc .any] eqcS
theorem eqc_ok:ConOK Try.prog 23 eqcC:=by
 refine fn_ob tt_ok mixed Try.func23 rfl (fun _ _=>by kernel_rfl) (A:=fun ds=>⟨fun _=>Cons.of [(24,schC)],fun k=>match k,ds with | 4,[.d a,.d b,.v _]=>some {ι:=Nat,pre:=fun _ i=>i<=a.len/\True,μ:=fun i=>a.len+1-i,st:=fun s i=>famR s [(17,.one (.sc (.int .i64 (.sym ((i:Nat)))))),(16,.one (.sc (.int .i64 (.sym ((a.len:Nat))))))] [0,1,2,15] [] []} |_,_=>none,fun _=>none⟩) (fun _ _=>(cons_cons sch_ok cons_nil)) (by kernel_rfl) ?_
 intro ds fr
 unfold eqcS
 split
 ·rename_i a b kf
  split
  ·rename_i hg
   obtain rfl:=isFn_eq hg
   refine kmp (q:=chAls a b->a.len<=(3000000:Nat)->(∀ (i:Nat),i<a.len->(a.el i (5:Nat)).len<=(3000000:Nat))->(((↑a.len:Int) != (↑b.len:Int))=true->false=true)/\(((↑a.len:Int) != (↑b.len:Int))=false->(∃ (i:Nat),(i<=a.len/\True)/\(0:Int)=(↑i:Int)/\(↑a.len:Int)=(↑a.len:Int)/\a.rows=a.rows/\b.rows=b.rows/\Value.func (Fn.func (24:Nat)) #[] #[]=Value.func (Fn.func (24:Nat)) #[] #[]/\a.rows=a.rows)/\∀ (i:Nat),i<=a.len/\True->(decide ((↑i:Int)<(↑a.len:Int))=true->((0:Int)<=(↑i:Int)/\(↑i:Int)<(↑a.len:Int))/\((0:Int)<=(↑i:Int)/\(↑i:Int)<(↑b.len:Int))/\((a.el (↑i:Int).toNat (0:Nat)).toS=(b.el (↑i:Int).toNat (0:Nat)).toS/\(a.el (↑i:Int).toNat 1).toI=(b.el (↑i:Int).toNat 1).toI/\(a.el (↑i:Int).toNat 2).toI=(b.el (↑i:Int).toNat 2).toI/\(a.el (↑i:Int).toNat 3).toS=(b.el (↑i:Int).toNat 3).toS/\(a.el (↑i:Int).toNat 4).toS=(b.el (↑i:Int).toNat 4).toS/\nsAl (a.el (↑i:Int).toNat 5) (b.el (↑i:Int).toNat 5))/\(a.el (↑i:Int).toNat 5).len<=(3000000:Nat)/\∃ (j:Nat),(j<=a.len/\True)/\a.len+(1:Nat)-j<a.len+(1:Nat)-i/\IntKind.i64.wrap ((↑i:Int)+(1:Int))=(↑j:Int)/\(↑a.len:Int)=(↑a.len:Int)/\a.rows=a.rows/\b.rows=b.rows/\Value.func (Fn.func (24:Nat)) #[] #[]=Value.func (Fn.func (24:Nat)) #[] #[]/\a.rows=a.rows)/\(decide ((↑i:Int)<(↑a.len:Int))=false->true=true))) (by kernel_rfl) ?_
   intro he hk hm
   obtain ⟨hl,hR⟩:=he
   have hz1:a.len<=3000000:=hk
   refine ⟨fun hc=>by rw [hl] at hc;simp at hc,fun _=>⟨⟨0,⟨Nat.zero_le _,trivial⟩,(by (repeat' (with_reducible apply And.intro))<;>first |with_reducible rfl |exact True.intro |assumption |(symm;assumption) |rfl)⟩,fun i hi=>⟨fun hc=>?_,fun _=>rfl⟩⟩⟩
   have hc:=of_decide_eq_true hc
   have hi2:i<a.len:=by omega
   have en:(i:Int).toNat=i:=Int.toNat_natCast i
   have hw:IntKind.i64.wrap ((i:Int)+1)=((i+1:Nat):Int):=by rw [IntWalk.i64_in _ (by omega)];omega
   simp only [en]
   exact ⟨⟨by omega,hc⟩,⟨by omega,by omega⟩,hR i hi2,hm i hi2,i+1,⟨hi2,trivial⟩,by omega,hw,(by (repeat' (with_reducible apply And.intro))<;>first |with_reducible rfl |exact True.intro |assumption |(symm;assumption) |rfl)⟩
  ·trivial
 ·trivial
noncomputable def equS:FSpec:=fun ds _=>match ds with
 | [.d a,.d b,.v kf]=>(match isFn 26 kf with |true=>some {val:=.one (.sc (.bool (.lit true))),vc:=[ruAls a b,a.len<=3000000,(∀ i,i<a.len->(a.el i 1).len<=3000000)]} |false=>none)
 |_=>none
noncomputable def equC:Con:=con [.sc (.rows 102),.sc (.rows 102),.sc .any] equS
theorem equ_ok:ConOK Try.prog 25 equC:=by
 refine fn_ob tt_ok mixed Try.func25 rfl (fun _ _=>by kernel_rfl) (A:=fun ds=>⟨fun _=>Cons.of [(26,sruC)],fun k=>match k,ds with | 4,[.d a,.d b,.v _]=>some {ι:=Nat,pre:=fun _ i=>i<=a.len/\True,μ:=fun i=>a.len+1-i,st:=fun s i=>famR s [(17,.one (.sc (.int .i64 (.sym ((i:Nat)))))),(16,.one (.sc (.int .i64 (.sym ((a.len:Nat))))))] [0,1,2,15] [] []} |_,_=>none,fun _=>none⟩) (fun _ _=>(cons_cons sru_ok cons_nil)) (by kernel_rfl) ?_
 intro ds fr
 unfold equS
 split
 ·rename_i a b kf
  split
  ·rename_i hg
   obtain rfl:=isFn_eq hg
   refine kmp (q:=ruAls a b->a.len<=(3000000:Nat)->(∀ (i:Nat),i<a.len->(a.el i (1:Nat)).len<=(3000000:Nat))->(((↑a.len:Int) != (↑b.len:Int))=true->false=true)/\(((↑a.len:Int) != (↑b.len:Int))=false->(∃ (i:Nat),(i<=a.len/\True)/\(0:Int)=(↑i:Int)/\(↑a.len:Int)=(↑a.len:Int)/\a.rows=a.rows/\b.rows=b.rows/\Value.func (Fn.func (26:Nat)) #[] #[]=Value.func (Fn.func (26:Nat)) #[] #[]/\a.rows=a.rows)/\∀ (i:Nat),i<=a.len/\True->(decide ((↑i:Int)<(↑a.len:Int))=true->((0:Int)<=(↑i:Int)/\(↑i:Int)<(↑a.len:Int))/\((0:Int)<=(↑i:Int)/\(↑i:Int)<(↑b.len:Int))/\((a.el (↑i:Int).toNat (0:Nat)).toS=(b.el (↑i:Int).toNat (0:Nat)).toS/\mvAl (a.el (↑i:Int).toNat 1) (b.el (↑i:Int).toNat 1))/\(a.el (↑i:Int).toNat 1).len<=(3000000:Nat)/\∃ (j:Nat),(j<=a.len/\True)/\a.len+(1:Nat)-j<a.len+(1:Nat)-i/\IntKind.i64.wrap ((↑i:Int)+(1:Int))=(↑j:Int)/\(↑a.len:Int)=(↑a.len:Int)/\a.rows=a.rows/\b.rows=b.rows/\Value.func (Fn.func (26:Nat)) #[] #[]=Value.func (Fn.func (26:Nat)) #[] #[]/\a.rows=a.rows)/\(decide ((↑i:Int)<(↑a.len:Int))=false->true=true))) (by kernel_rfl) ?_
   intro he hk hm
   obtain ⟨hl,hR⟩:=he
   have hz1:a.len<=3000000:=hk
   refine ⟨fun hc=>by rw [hl] at hc;simp at hc,fun _=>⟨⟨0,⟨Nat.zero_le _,trivial⟩,(by (repeat' (with_reducible apply And.intro))<;>first |with_reducible rfl |exact True.intro |assumption |(symm;assumption) |rfl)⟩,fun i hi=>⟨fun hc=>?_,fun _=>rfl⟩⟩⟩
   have hc:=of_decide_eq_true hc
   have hi2:i<a.len:=by omega
   have en:(i:Int).toNat=i:=Int.toNat_natCast i
   have hw:IntKind.i64.wrap ((i:Int)+1)=((i+1:Nat):Int):=by rw [IntWalk.i64_in _ (by omega)];omega
   simp only [en]
   exact ⟨⟨by omega,hc⟩,⟨by omega,by omega⟩,hR i hi2,hm i hi2,i+1,⟨hi2,trivial⟩,by omega,hw,(by (repeat' (with_reducible apply And.intro))<;>first |with_reducible rfl |exact True.intro |assumption |(symm;assumption) |rfl)⟩
  ·trivial
 ·trivial
noncomputable def eqpS:FSpec:=fun ds _=>match ds with
 | [.d a,.d b,.v kf]=>(match isFn 28 kf with |true=>some {val:=.one (.sc (.bool (.lit true))),vc:=[prAls a b,a.len<=3000000,(∀ i,i<a.len->(a.el i 1).len<=3000000/\bS (a.el i 2))]} |false=>none)
 |_=>none
noncomputable def eqpC:Con:=con [.sc (.rows 87),.sc (.rows 87),.sc .any] eqpS
theorem eqp_ok:ConOK Try.prog 27 eqpC:=by
 refine fn_ob tt_ok mixed Try.func27 rfl (fun _ _=>by kernel_rfl) (A:=fun ds=>⟨fun _=>Cons.of [(28,spoC)],fun k=>match k,ds with | 4,[.d a,.d b,.v _]=>some {ι:=Nat,pre:=fun _ i=>i<=a.len/\True,μ:=fun i=>a.len+1-i,st:=fun s i=>famR s [(17,.one (.sc (.int .i64 (.sym ((i:Nat)))))),(16,.one (.sc (.int .i64 (.sym ((a.len:Nat))))))] [0,1,2,15] [] []} |_,_=>none,fun _=>none⟩) (fun _ _=>(cons_cons spo_ok cons_nil)) (by kernel_rfl) ?_
 intro ds fr
 unfold eqpS
 split
 ·rename_i a b kf
  split
  ·rename_i hg
   obtain rfl:=isFn_eq hg
   refine kmp (q:=prAls a b->a.len<=(3000000:Nat)->(∀ (i:Nat),i<a.len->(a.el i (1:Nat)).len<=(3000000:Nat)/\bS (a.el i (2:Nat)))->(((↑a.len:Int) != (↑b.len:Int))=true->false=true)/\(((↑a.len:Int) != (↑b.len:Int))=false->(∃ (i:Nat),(i<=a.len/\True)/\(0:Int)=(↑i:Int)/\(↑a.len:Int)=(↑a.len:Int)/\a.rows=a.rows/\b.rows=b.rows/\Value.func (Fn.func (28:Nat)) #[] #[]=Value.func (Fn.func (28:Nat)) #[] #[]/\a.rows=a.rows)/\∀ (i:Nat),i<=a.len/\True->(decide ((↑i:Int)<(↑a.len:Int))=true->((0:Int)<=(↑i:Int)/\(↑i:Int)<(↑a.len:Int))/\((0:Int)<=(↑i:Int)/\(↑i:Int)<(↑b.len:Int))/\((a.el (↑i:Int).toNat (0:Nat)).toS=(b.el (↑i:Int).toNat (0:Nat)).toS/\nsAl (a.el (↑i:Int).toNat 1) (b.el (↑i:Int).toNat 1)/\BR (a.el (↑i:Int).toNat 2) (b.el (↑i:Int).toNat 2))/\(a.el (↑i:Int).toNat 1).len<=(3000000:Nat)/\bS (a.el (↑i:Int).toNat 2)/\∃ (j:Nat),(j<=a.len/\True)/\a.len+(1:Nat)-j<a.len+(1:Nat)-i/\IntKind.i64.wrap ((↑i:Int)+(1:Int))=(↑j:Int)/\(↑a.len:Int)=(↑a.len:Int)/\a.rows=a.rows/\b.rows=b.rows/\Value.func (Fn.func (28:Nat)) #[] #[]=Value.func (Fn.func (28:Nat)) #[] #[]/\a.rows=a.rows)/\(decide ((↑i:Int)<(↑a.len:Int))=false->true=true))) (by kernel_rfl) ?_
   intro he hk hm
   obtain ⟨hl,hR⟩:=he
   have hz1:a.len<=3000000:=hk
   refine ⟨fun hc=>by rw [hl] at hc;simp at hc,fun _=>⟨⟨0,⟨Nat.zero_le _,trivial⟩,(by (repeat' (with_reducible apply And.intro))<;>first |with_reducible rfl |exact True.intro |assumption |(symm;assumption) |rfl)⟩,fun i hi=>⟨fun hc=>?_,fun _=>rfl⟩⟩⟩
   have hc:=of_decide_eq_true hc
   have hi2:i<a.len:=by omega
   have en:(i:Int).toNat=i:=Int.toNat_natCast i
   have hw:IntKind.i64.wrap ((i:Int)+1)=((i+1:Nat):Int):=by rw [IntWalk.i64_in _ (by omega)];omega
   simp only [en]
   exact ⟨⟨by omega,hc⟩,⟨by omega,by omega⟩,hR i hi2,(hm i hi2).1,(hm i hi2).2,i+1,⟨hi2,trivial⟩,by omega,hw,(by (repeat' (with_reducible apply And.intro))<;>first |with_reducible rfl |exact True.intro |assumption |(symm;assumption) |rfl)⟩
  ·trivial
 ·trivial
noncomputable def samS:FSpec:=fun ds _=>match ds with
 | [.d c,.d u,.d p,.d c2,.d u2,.d p2]=>some {val:=.one (.sc (.bool (.lit true))),vc:=[(chAls c c2/\ruAls u u2/\prAls p p2),SyS c u p]}
 |_=>none
noncomputable def samC:Con:=con [qSy,qSy] samS
theorem sam_ok:ConOK Try.prog 10 samC:=by
 refine fn_ob tt_ok mixed Try.func10 rfl (fun _ _=>by kernel_rfl) (A:=fun ds=>⟨fun _=>Cons.of [(23,eqcC),(25,equC),(27,eqpC)],fun _=>none,fun _=>none⟩) (fun _ _=>(cons_cons eqc_ok (cons_cons equ_ok (cons_cons eqp_ok cons_nil)))) (by kernel_rfl) ?_
 intro ds fr
 unfold samS
 split
 ·rename_i c u p c2 u2 p2
  refine kmp (q:=chAls c c2/\ruAls u u2/\prAls p p2->SyS c u p->chAls c c2/\c.len<=(3000000:Nat)/\(∀ (i:Nat),i<c.len->(c.el i (5:Nat)).len<=(3000000:Nat))/\ruAls u u2/\u.len<=(3000000:Nat)/\(∀ (i:Nat),i<u.len->(u.el i (1:Nat)).len<=(3000000:Nat))/\prAls p p2/\p.len<=(3000000:Nat)/\(∀ (i:Nat),i<p.len->(p.el i (1:Nat)).len<=(3000000:Nat)/\bS (p.el i (2:Nat)))/\true=true) (by kernel_rfl) ?_
  rintro ⟨h1,h2,h3⟩ hs
  exact ⟨h1,hs.c,hs.ct,h2,hs.r,hs.rm,h3,hs.p,fun i hi=>⟨hs.pv i hi,hs.pb i hi⟩,rfl⟩
 ·trivial
end Go.Proofs.Ytbhbjhejkamlnaa.Sx.Z
namespace Go.Proofs.Ytbhbjhejkamlnaa.Sx.Z
open Go.RowKit
theorem XR_rows {k n:Int} {s:ByteArray} {d:D} {k2 n2:Int} {s2:ByteArray} {d2:D} (h:XR k n s d k2 n2 s2 d2):XR k n s d k2 n2 s2 (.l d2.rows):=by
 cases h with
 |mk h0 h1 h2 h3 h4=>exact .mk h0 h1 h2 h3 h4
theorem BR_rows {a b:D} (h:BR a b):BR a (.l b.rows):=by
 cases h with
 |mk hl hk hn ht he hc hb hs ha hr hq=>exact .mk hl hk hn ht he hc hb hs ha hr hq
theorem rows_len (g:Nat->List D) (n:Nat):(D.l (rowsTo g n)).len=n:=by
 show (rowsTo g n).length=n
 unfold rowsTo
 rw [List.length_map,List.length_range]
theorem rows_el (g:Nat->List D) {n i:Nat} (h:i<n) (j:Nat):(D.l (rowsTo g n)).el i j=(g i).getD j (.i 0):=by
 show ((rowsTo g n).getD i []).getD j (.i 0)=_
 have e:(rowsTo g n)[i]? = some (g i):=by
  unfold rowsTo
  rw [List.getElem?_map,List.getElem?_range h];rfl
 rw [List.getD_eq_getElem?_getD (l:=rowsTo g n),e];rfl
theorem xR_self {k n:Int} {s:ByteArray} {d:D} (h:aX k n s d=true):XR k n s d (xC k n s d).k (xC k n s d).n (xC k n s d).s (xC k n s d).d:=by
 refine ex_ind (P:=fun k n s d=>XR k n s d (xC k n s d).k (xC k n s d).n (xC k n s d).s (xC k n s d).d) ?_ ?_ ?_ ?_ h
 ·intro n s d _
  exact .mk rfl (fun _=>rfl) (fun h=>absurd h (by decide)) (fun h=>absurd h (by decide)) (fun h=>absurd h (by decide))
 ·intro n s d _
  exact .mk rfl (fun h=>absurd h (by decide)) (fun _=>rfl) (fun h=>absurd h (by decide)) (fun h=>absurd h (by decide))
 ·intro n s d hl ih
  rw [xC_3 n s (by omega)]
  refine .mk rfl (fun h=>absurd h (by decide)) (fun h=>absurd h (by decide)) (fun _=>hl) (fun _ i hi=>?_)
  obtain rfl:i=0:=by omega
  exact XR_rows ih
 ·intro k n s d hb hl ih0 ih1
  have hk:=bi_in hb
  rw [xC_4 n s hb (by omega)]
  refine .mk rfl (fun h=>by omega) (fun h=>by omega) (fun _=>hl) (fun _ i hi=>?_)
  have:i=0 ∨ i=1:=by omega
  rcases this with rfl |rfl
  ·exact XR_rows ih0
  ·exact XR_rows ih1
theorem cR_self {op lk ln:Int} {ls:ByteArray} {ld:D} {rk rn:Int} {rs:ByteArray} {rd:D} (h:aC op lk ln ls ld rk rn rs rd=true):op=(cC op lk ln ls ld rk rn rs rd).op/\XR lk ln ls ld (cC op lk ln ls ld rk rn rs rd).l.k (cC op lk ln ls ld rk rn rs rd).l.n (cC op lk ln ls ld rk rn rs rd).l.s (.l (cC op lk ln ls ld rk rn rs rd).l.d.rows)/\XR rk rn rs rd (cC op lk ln ls ld rk rn rs rd).r.k (cC op lk ln ls ld rk rn rs rd).r.n (cC op lk ln ls ld rk rn rs rd).r.s (.l (cC op lk ln ls ld rk rn rs rd).r.d.rows):=by
 have:=aC_two h
 exact ⟨rfl,XR_rows (xR_self this.1),XR_rows (xR_self this.2)⟩
theorem st_self {k:Int} {nm tg:ByteArray} {ek en:Int} {es:ByteArray} {ed:D} {op lk ln:Int} {ls:ByteArray} {ld:D} {rk rn:Int} {rs:ByteArray} {rd bd eb am:D}
 (Hb:bA bd=true->BR bd (bC bd)) (He:bA eb=true->BR eb (bC eb)) (Ha:∀ j,j<am.len->bA (am.el j 2)=true->BR (am.el j 2) (bC (am.el j 2))) (hA:stA k nm tg ek en es ed op lk ln ls ld rk rn rs rd bd eb am=true) {x:St} (hx:x=stC k nm tg ek en es ed op lk ln ls ld rk rn rs rd bd eb am) :
 stAl k nm tg ek en es ed op lk ln ls ld rk rn rs rd bd eb am x.k x.nm x.tg x.e.k x.e.n x.e.s (.l x.e.d.rows) x.c.op x.c.l.k x.c.l.n x.c.l.s (.l x.c.l.d.rows) x.c.r.k x.c.r.n x.c.r.s (.l x.c.r.d.rows) (.l x.b.rows) (.l x.el.rows) (.l x.ar.rows):=by
 have hA:aStF k nm tg (aX ek en es ed) (aC op lk ln ls ld rk rn rs rd) (bA bd) (bA eb) am.len (amsA am)=true:=hA
 subst hx
 rcases stA_k hA with rfl |rfl |rfl |rfl |rfl |rfl |rfl
 ·have hA:(nmB nm&&aX ek en es ed)=true:=hA
  simp only [Bool.and_eq_true] at hA
  exact ⟨rfl,fun _=>rfl,fun h=>absurd h (by decide),fun _=>XR_rows (xR_self hA.2),fun h=>absurd h (by decide),fun h=>absurd h (by decide),fun h=>absurd h (by decide),fun h=>absurd h (by decide)⟩
 ·have hA:(aC op lk ln ls ld rk rn rs rd&&bA bd&&bA eb)=true:=hA
  simp only [Bool.and_eq_true] at hA
  exact ⟨rfl,fun h=>absurd h (by decide),fun h=>absurd h (by decide),fun h=>absurd h (by decide),fun _=>cR_self hA.1.1,fun _=>BR_rows (Hb hA.1.2),fun _=>BR_rows (He hA.2),fun h=>absurd h (by decide)⟩
 ·have hA:(aC op lk ln ls ld rk rn rs rd&&bA bd)=true:=hA
  simp only [Bool.and_eq_true] at hA
  exact ⟨rfl,fun h=>absurd h (by decide),fun h=>absurd h (by decide),fun h=>absurd h (by decide),fun _=>cR_self hA.1,fun _=>BR_rows (Hb hA.2),fun h=>absurd h (by decide),fun h=>absurd h (by decide)⟩
 ·have hA:(nmB nm&&nmB tg&&aX ek en es ed)=true:=hA
  simp only [Bool.and_eq_true] at hA
  exact ⟨rfl,fun _=>rfl,fun _=>rfl,fun _=>XR_rows (xR_self hA.2),fun h=>absurd h (by decide),fun h=>absurd h (by decide),fun h=>absurd h (by decide),fun h=>absurd h (by decide)⟩
 ·have hA:(nmB nm&&decide ((am.len:Int)>0)&&amsA am)=true:=hA
  simp only [Bool.and_eq_true] at hA
  have hq:=allB_iff.1 hA.2
  refine ⟨rfl,fun _=>rfl,fun h=>absurd h (by decide),fun h=>absurd h (by decide),fun h=>absurd h (by decide),fun h=>absurd h (by decide),fun h=>absurd h (by decide),fun _=>⟨(rows_len (arC am) am.len).symm,fun j hj=>?_⟩⟩
  have h1:=hq j hj
  unfold arE at h1
  simp only [Bool.and_eq_true] at h1
  unfold arAl
  show _=((D.l (rowsTo (arC am) am.len)).el j 0).toS/\_=((D.l (rowsTo (arC am) am.len)).el j 1).toS/\BR _ ((D.l (rowsTo (arC am) am.len)).el j 2)
  rw [rows_el _ hj,rows_el _ hj,rows_el _ hj]
  exact ⟨rfl,rfl,BR_rows (Ha j hj h1.2)⟩
 ·have hA:aC op lk ln ls ld rk rn rs rd=true:=hA
  exact ⟨rfl,fun h=>absurd h (by decide),fun h=>absurd h (by decide),fun h=>absurd h (by decide),fun _=>cR_self hA,fun h=>absurd h (by decide),fun h=>absurd h (by decide),fun h=>absurd h (by decide)⟩
 ·exact ⟨rfl,fun _=>rfl,fun h=>absurd h (by decide),fun h=>absurd h (by decide),fun h=>absurd h (by decide),fun h=>absurd h (by decide),fun h=>absurd h (by decide),fun h=>absurd h (by decide)⟩
theorem bR_self:∀ (z:Nat) (d:D),SizeOf.sizeOf d<=z->bA d=true->BR d (bC d):=by
 intro z
 induction z with
 |zero=>intro d hz;cases d<;>simp at hz
 |succ z ih=>
  intro d hz hA
  rw [bA_eq] at hA
  have hA:=allB_iff.1 hA
  rw [bC_eq]
  refine BR_al.2 ⟨(rows_len _ _).symm,fun i hi=>?_⟩
  have kid:∀ j,bA (d.el i j)=true->BR (d.el i j) (bC (d.el i j)):=fun j h=>by
   have:=lel_lt (j:=j) hi
   exact ih _ (by omega) h
  have kid2:∀ j,j<(d.el i 18).len->bA ((d.el i 18).el j 2)=true->BR ((d.el i 18).el j 2) (bC ((d.el i 18).el j 2)):=fun j hj h=>by
   have h1:=lel_lt (j:=18) hi
   have h2:=lel_lt (j:=2) hj
   exact ih _ (by omega) h
  have:=st_self (kid 16) (kid 17) kid2 (hA i hi) rfl
  unfold stAlE
  simp only [rows_el _ hi]
  exact this
theorem ns_self (d:D):nsAl d (.l (nsC d).rows):=⟨(rows_len _ _).symm,fun i hi=>by
 show _=((D.l (rowsTo (nmC d) d.len)).el i 0).toS
 rw [rows_el _ hi];rfl⟩
theorem mv_self (d:D):mvAl d (.l (rowsTo (mvC d) d.len)):=⟨(rows_len _ _).symm,fun i hi=>by
 rw [rows_el _ hi,rows_el _ hi,rows_el _ hi];exact ⟨rfl,rfl,rfl⟩⟩
theorem sy_self {ch ru pr:D} (hA:syB ch ru pr=true):chAls ch (chCd ch)/\ruAls ru (ruCd ru)/\prAls pr (prCd pr):=by
 unfold syB at hA
 simp only [Bool.and_eq_true] at hA
 have h3:=allB_iff.1 hA.2.2
 refine ⟨⟨(rows_len _ _).symm,fun i hi=>?_⟩,⟨(rows_len _ _).symm,fun i hi=>?_⟩,⟨(rows_len _ _).symm,fun i hi=>?_⟩⟩
 ·unfold chAl chCd
  simp only [rows_el _ hi]
  exact ⟨rfl,rfl,rfl,rfl,rfl,ns_self _⟩
 ·unfold ruAl ruCd
  simp only [rows_el _ hi]
  exact ⟨rfl,mv_self _⟩
 ·have hx:=h3 i hi
  unfold prE at hx
  simp only [Bool.and_eq_true] at hx
  unfold prAl prCd
  simp only [rows_el _ hi]
  exact ⟨rfl,ns_self _,BR_rows (bR_self _ _ (Nat.le_refl _) hx.2)⟩
end Go.Proofs.Ytbhbjhejkamlnaa.Sx.Z
namespace Go.Proofs.Ytbhbjhejkamlnaa.Sx.Z
open Go.RowKit
theorem cp_elj {n i j:Nat} {f:Nat->List D} (h:i<n):(cpTo n f).el i j=(f i).getD j (.i 0):=by
 show (((List.range n).map f).getD i []).getD j (.i 0)=_
 rw [List.getD_eq_getElem?_getD (l:=(List.range n).map f),List.getElem?_map,List.getElem?_range h]
 rfl
theorem max2 {a b c:Nat} (h:max a b<=c):a<=c/\b<=c:=by omega
theorem vB_bN:∀ (m:Nat) (d:D),SizeOf.sizeOf d<=m->vB d=true->∀ b:Int,0<=b->b+(bD d:Int)<=24->bX d<=24->bN d b=true:=by
 intro m
 induction m with
 |zero=>intro d hz;cases d<;>simp at hz
 |succ m ih=>
  intro d hz hv b hb0 hb hx
  rw [vB_eq] at hv
  have hv:=allB_iff.1 hv
  rw [bN_eq]
  refine allB_yes fun i hi=>?_
  have h:=hv i hi
  have d1:sD d i<=bD d:=by rw [bD_eq];exact mxT_le hi
  have x1:sX d i<=bX d:=by rw [bX_eq];exact mxT_le hi
  have kid:∀ j,vB (d.el i j)=true->b+1+(bD (d.el i j):Int)<=24->bX (d.el i j)<=24->bN (d.el i j) (b+1)=true:=fun j h1 h2 h3=>by
   have:=lel_lt (j:=j) hi
   exact ih _ (by omega) h1 (b+1) (by omega) h2 h3
  have bl:∀ j,vB (d.el i j)=true->b+1+(bD (d.el i j):Int)<=24->bX (d.el i j)<=24->blN (d.el i j) b=true:=fun j h1 h2 h3=>by
   unfold blN
   rw [kid j h1 h2 h3,decide_eq_false (by omega)];rfl
  have cx:vC (d.el i 7).toI (d.el i 8).toI (d.el i 9).toI (d.el i 10).toS (d.el i 11) (d.el i 12).toI (d.el i 13).toI (d.el i 14).toS (d.el i 15)=true->cX d i<=24->cN (d.el i 8).toI (d.el i 11) (d.el i 12).toI (d.el i 15)=true:=fun h1 h2=>by
   obtain ⟨_,c1,c2⟩:=vC_in h1
   obtain ⟨q1,q2⟩:=max2 h2
   unfold cN
   rw [dX_xN c1 0 (by omega) (by omega),dX_xN c2 0 (by omega) (by omega)];rfl
  unfold sD stDF at d1
  unfold sX stXF at x1
  unfold vSt vA aStF at h
  unfold stNE stN stNF
  by_cases k1:(d.el i 0).toI=1
  ·rw [if_pos k1] at h
   rw [if_pos (.inl k1)] at x1 ⊢
   simp only [Bool.and_eq_true] at h
   exact dX_xN h.2 0 (by omega) (by omega)
  rw [if_neg k1] at h
  by_cases k2:(d.el i 0).toI=2
  ·rw [if_pos k2] at h d1
   rw [if_neg (by omega),if_pos k2] at x1
   rw [if_neg (by omega),if_neg (by omega),if_pos k2]
   simp only [Bool.and_eq_true] at h
   rw [cx h.1.1 (by omega),bl 16 h.1.2 (by omega) (by omega),kid 17 h.2 (by omega) (by omega)];rfl
  rw [if_neg k2] at h d1
  by_cases k3:(d.el i 0).toI=3
  ·rw [if_pos k3] at h d1
   rw [if_neg (by omega),if_neg k2,if_pos k3] at x1
   rw [if_neg (by omega),if_neg (by omega),if_neg k2,if_pos k3]
   simp only [Bool.and_eq_true] at h
   rw [cx h.1 (by omega),bl 16 h.2 (by omega) (by omega)];rfl
  rw [if_neg k3] at h d1
  by_cases k4:(d.el i 0).toI=4
  ·rw [if_pos k4] at h
   rw [if_pos (.inr k4)] at x1 ⊢
   simp only [Bool.and_eq_true] at h
   exact dX_xN h.2 0 (by omega) (by omega)
  rw [if_neg k4] at h
  by_cases k5:(d.el i 0).toI=5
  ·rw [if_pos k5] at h d1
   rw [if_neg (by omega),if_neg k2,if_neg k3,if_pos k5] at x1
   rw [if_neg (by omega),if_neg (by omega),if_neg k2,if_neg k3,if_pos k5]
   simp only [Bool.and_eq_true] at h
   have ha:=allB_iff.1 h.2
   refine allB_yes fun j hj=>?_
   have hr:=ha j hj
   unfold vAr at hr
   simp only [Bool.and_eq_true] at hr
   have e1:aD (d.el i 18) j<=_:=mxT_le (f:=aD (d.el i 18)) hj
   have e2:aXm (d.el i 18) j<=_:=mxT_le (f:=aXm (d.el i 18)) hj
   have e1:bD ((d.el i 18).el j 2)+1<=_:=e1
   have e2:bX ((d.el i 18).el j 2)<=_:=e2
   have z1:=lel_lt (j:=18) hi
   have z2:=lel_lt (j:=2) hj
   unfold amNE blN
   rw [ih _ (by omega) hr.2 (b+1) (by omega) (by omega) (by omega),decide_eq_false (by omega)];rfl
  rw [if_neg k5] at h
  by_cases k6:(d.el i 0).toI=6
  ·rw [if_pos k6] at h
   rw [if_neg (by omega),if_neg k2,if_neg k3,if_neg k5,if_pos k6] at x1
   rw [if_neg (by omega),if_pos k6]
   exact cx h (by omega)
  rw [if_neg (by omega),if_neg k6,if_neg k2,if_neg k3,if_neg k5]
theorem rw_syN {ch ru pr:D} (h:vSy ch ru pr=true) (h2:allB pr.len (pdq pr)=true):syN pr=true:=by
 unfold vSy at h
 simp only [Bool.and_eq_true] at h
 refine allB_yes fun i hi=>?_
 have h3:=allB_iff.1 h.2.2 i hi
 unfold rpq at h3
 simp only [Bool.and_eq_true] at h3
 have h4:=allB_iff.1 h2 i hi
 unfold pdq at h4
 simp only [Bool.and_eq_true,decide_eq_true_eq] at h4
 exact vB_bN _ _ (Nat.le_refl _) h3.2 0 (Int.le_refl _) (by omega) h4.2
theorem cpE_el {d:D} {i:Nat} (h:i<d.len):((cpE d).el i 0).toI=(d.el i 0).toI/\((cpE d).el i 1).toI=(d.el i 1).toI/\((cpE d).el i 2).toS=(d.el i 2).toS/\(cpE d).el i 3=cpE (d.el i 3):=by
 rw [cpE_eq]
 refine ⟨?_,?_,?_,?_⟩<;>rw [cp_elj h]<;>rfl
theorem XR_cp {k n:Int} {s:ByteArray} {d:D} {k2 n2:Int} {s2:ByteArray} {d2:D} (h:XR k n s d k2 n2 s2 d2):XR k2 n2 s2 d2 k n s (cpE d):=by
 induction h with
 | @mk k n s d k2 n2 s2 d2 h0 h1 h2 h3 h4 ih=>
   subst h0
   refine .mk rfl (fun h=>(h1 h).symm) (fun h=>(h2 h).symm) (fun h=>?_) (fun h i hi=>?_)
   ·rw [cpE_eq,cpTo_len];exact (h3 h).symm
   ·have hi2:i<d.len:=by have:=h3 h;omega
    obtain ⟨e0,e1,e2,e3⟩:=cpE_el hi2
    rw [e0,e1,e2,e3]
    exact ih h i hi2
theorem cpB_el {d:D} {i:Nat} (h:i<d.len) (j:Nat):(cpB d).el i j=(rSt d i).getD j (.i 0):=by
 rw [cpB_eq,cp_elj h]
theorem BR_cp {d d2:D} (h:BR d d2):BR d2 (cpB d):=by
 induction h with
 | @mk d d2 hl hk hn ht he hc hb hs ha hr hq ib is iq=>
   have len:(cpB d).len=d.len:=by rw [cpB_eq,cpTo_len]
   refine .mk (by rw [len];exact hl.symm) (fun i hi=>?_) (fun i hi h=>?_) (fun i hi h=>?_) (fun i hi h=>?_) (fun i hi h=>?_) (fun i hi h=>?_) (fun i hi h=>?_) (fun i hi h=>?_) (fun i hi h j hj=>?_) (fun i hi h j hj=>?_)
   all_goals have hi2:i<d.len:=by omega
   all_goals have hk2:=hk i hi2
   all_goals simp only [cpB_el hi2]
   ·exact hk2.symm
   ·exact (hn i hi2 (by rw [hk2];exact h)).symm
   ·exact (ht i hi2 (by rw [hk2];exact h)).symm
   ·exact XR_cp (he i hi2 (by rw [hk2];exact h))
   ·obtain ⟨q1,q2,q3⟩:=hc i hi2 (by rw [hk2];exact h)
    exact ⟨q1.symm,XR_cp q2,XR_cp q3⟩
   ·exact ib i hi2 (by rw [hk2];exact h)
   ·exact is i hi2 (by rw [hk2];exact h)
   ·show _=(cpTo (d.el i 18).len (arR (d.el i 18))).len
    rw [cpTo_len]
    exact (ha i hi2 (by rw [hk2];exact h)).symm
   ·have h5:(d.el i 0).toI=5:=by rw [hk2];exact h
    have hj2:j<(d.el i 18).len:=by rw [ha i hi2 h5];exact hj
    obtain ⟨r1,r2⟩:=hr i hi2 h5 j hj2
    show _=((cpTo (d.el i 18).len (arR (d.el i 18))).el j 0).toS/\_=((cpTo (d.el i 18).len (arR (d.el i 18))).el j 1).toS
    rw [cp_elj hj2,cp_elj hj2]
    exact ⟨r1.symm,r2.symm⟩
   ·have h5:(d.el i 0).toI=5:=by rw [hk2];exact h
    have hj2:j<(d.el i 18).len:=by rw [ha i hi2 h5];exact hj
    show BR _ ((cpTo (d.el i 18).len (arR (d.el i 18))).el j 2)
    rw [cp_elj hj2]
    exact iq i hi2 h5 j hj2
theorem ns_cp {a b:D} (h:nsAl a b):nsAl b (nD a):=⟨h.1.symm,fun i hi=>(h.2 i (by have:=h.1;omega)).symm⟩
theorem sy_cp {ch ru pr c u p:D} (h1:chAls ch c) (h2:ruAls ru u) (h3:prAls pr p):chAls c (cpC ch)/\ruAls u (cpU ru)/\prAls p (cpP pr):=by
 refine ⟨⟨by unfold cpC;rw [cpTo_len];exact h1.1.symm,fun i hi=>?_⟩,⟨by unfold cpU;rw [cpTo_len];exact h2.1.symm,fun i hi=>?_⟩,⟨by unfold cpP;rw [cpTo_len];exact h3.1.symm,fun i hi=>?_⟩⟩
 ·have hi2:i<ch.len:=by have:=h1.1;omega
  obtain ⟨q0,q1,q2,q3,q4,q5⟩:=h1.2 i hi2
  unfold chAl cpC
  simp only [cp_elj hi2]
  exact ⟨q0.symm,q1.symm,q2.symm,q3.symm,q4.symm,ns_cp q5⟩
 ·have hi2:i<ru.len:=by have:=h2.1;omega
  obtain ⟨q0,q1,q2⟩:=h2.2 i hi2
  unfold ruAl cpU
  simp only [cp_elj hi2]
  refine ⟨q0.symm,?_,fun j hj=>?_⟩
  ·show _=(cpTo (ru.el i 1).len (mvR (ru.el i 1))).len
   rw [cpTo_len];exact q1.symm
  ·have hj2:j<(ru.el i 1).len:=by omega
   obtain ⟨r1,r2,r3⟩:=q2 j hj2
   show _=((cpTo (ru.el i 1).len (mvR (ru.el i 1))).el j 0).toI/\_=((cpTo (ru.el i 1).len (mvR (ru.el i 1))).el j 1).toS/\_=((cpTo (ru.el i 1).len (mvR (ru.el i 1))).el j 2).toI
   rw [cp_elj hj2,cp_elj hj2,cp_elj hj2]
   exact ⟨r1.symm,r2.symm,r3.symm⟩
 ·have hi2:i<pr.len:=by have:=h3.1;omega
  obtain ⟨q0,q1,q2⟩:=h3.2 i hi2
  unfold prAl cpP
  simp only [cp_elj hi2]
  exact ⟨q0.symm,ns_cp q1,BR_cp q2⟩
theorem kS_w:∀ (m:Nat) (d:D),SizeOf.sizeOf d<=m->sW d->kS d:=by
 intro m
 induction m with
 |zero=>intro d hz;cases d<;>simp at hz
 |succ m ih=>
  intro d hz h
  refine (kS_iff d).2 ⟨Nat.le_trans (sW_len h) (by decide),fun i hi=>?_⟩
  have:=lel_lt (j:=3) hi
  exact ih _ (by omega) (sW_el h hi 3)
theorem bS_w:∀ (m:Nat) (d:D),SizeOf.sizeOf d<=m->sW d->bS d:=by
 intro m
 induction m with
 |zero=>intro d hz;cases d<;>simp at hz
 |succ m ih=>
  intro d hz h
  refine (bS_iff d).2 ⟨Nat.le_trans (sW_len h) (by decide),fun i hi=>?_⟩
  have z1:=lel_lt (j:=16) hi
  have z2:=lel_lt (j:=17) hi
  have z3:=lel_lt (j:=18) hi
  exact ⟨kS_w _ _ (Nat.le_refl _) (sW_el h hi 6),kS_w _ _ (Nat.le_refl _) (sW_el h hi 11),kS_w _ _ (Nat.le_refl _) (sW_el h hi 15),ih _ (by omega) (sW_el h hi 16),ih _ (by omega) (sW_el h hi 17),Nat.le_trans (sW_len (sW_el h hi 18)) (by decide),fun j hj=>by
   have z4:=lel_lt (j:=2) hj
   exact ih _ (by omega) (sW_el (sW_el h hi 18) hj 2)⟩
theorem SyS_w {ch ru pr:D} (h1:sW ch) (h2:sW ru) (h3:sW pr):SyS ch ru pr where
 c:=Nat.le_trans (sW_len h1) (by decide)
 ct:=fun i hi=>Nat.le_trans (sW_len (sW_el h1 hi 5)) (by decide)
 r:=Nat.le_trans (sW_len h2) (by decide)
 rm:=fun i hi=>Nat.le_trans (sW_len (sW_el h2 hi 1)) (by decide)
 p:=Nat.le_trans (sW_len h3) (by decide)
 pv:=fun i hi=>Nat.le_trans (sW_len (sW_el h3 hi 1)) (by decide)
 pb:=fun i hi=>bS_w _ _ (Nat.le_refl _) (sW_el h3 hi 2)
def gpC (g:D) (i:Nat):Nat:=if i<g.len then (g.el i 0).toI.toNat%4 else 0
def gpT (c:Nat):ByteArray:=if c=0 then ⟨#[32]⟩ else if c=1 then ⟨#[10]⟩ else if c=2 then ⟨#[32,32]⟩ else ⟨#[32,10,32]⟩
def btx (l g:D):Nat->ByteArray
 | 0=>ByteArray.empty
 |i+1=>btx l g i++(l.el i 0).toS++gpT (gpC g i)
def bls (l g:D) (n:Nat):List (ByteArray × List UInt8):=(List.range n).map fun i=>((l.el i 0).toS,(gpT (gpC g i)).data.toList)
theorem bls_succ (l g:D) (n:Nat):bls l g (n+1)=bls l g n++[((l.el n 0).toS,(gpT (gpC g n)).data.toList)]:=by
 unfold bls
 rw [List.range_succ,List.map_append];rfl
theorem jn_two:∀ a b:List (ByteArray × List UInt8),jn (a++b)=jn a++jn b
 | [],_=>rfl
 |x::a,b=>by
  show x.1.data.toList++(x.2++jn (a++b))=(x.1.data.toList++(x.2++jn a))++jn b
  rw [jn_two a b];simp only [List.append_assoc]
theorem btx_jn (l g:D):∀ n,(btx l g n).data.toList=jn (bls l g n)
 | 0=>rfl
 |n+1=>by
  rw [bls_succ,jn_two,<- btx_jn l g n,btx,ByteArray.data_append,Array.toList_append,ByteArray.data_append,Array.toList_append,List.append_assoc]
  show _=_++(_++(_++[]))
  rw [List.append_nil]
theorem gpT_gap (c:Nat):(∀ b∈(gpT c).data.toList,gapU b=true)/\(gpT c).data.toList≠[]/\(gpT c).size<=3:=by
 unfold gpT
 repeat' split
 ·exact ⟨by decide,by decide,by decide⟩
 ·exact ⟨by decide,by decide,by decide⟩
 ·exact ⟨by decide,by decide,by decide⟩
 ·exact ⟨by decide,by decide,by decide⟩
theorem wsR_el {l:List ByteArray} {i:Nat} (h:i<l.length):((wsR l).el i 0).toS=l[i]:=by
 show (((l.map fun s=>[D.s s]).getD i []).getD 0 (.i 0)).toS=_
 rw [List.getD_eq_getElem?_getD (l:=l.map _),List.getElem?_map,List.getElem?_eq_getElem h]
 rfl
theorem bls_fst (l:List ByteArray) (g:D):(bls (wsR l) g l.length).map Prod.fst=l:=by
 unfold bls
 rw [List.map_map]
 apply List.ext_getElem
 ·simp
 ·intro i h1 h2
  simp only [List.getElem_map,List.getElem_range,Function.comp]
  exact wsR_el h2
theorem bls_fit {l:List ByteArray} (g:D) (h:alW l):fit (bls (wsR l) g l.length):=fit_gaps _ fun x hx=>by
 unfold bls at hx
 obtain ⟨i,h1,rfl⟩:=List.mem_map.1 hx
 have hi:=List.mem_range.1 h1
 refine ⟨?_,(gpT_gap _).1,(gpT_gap _).2.1⟩
 show wOk ((wsR l).el i 0).toS
 rw [wsR_el hi]
 exact h _ (List.getElem_mem hi)
theorem btx_sz {l:List ByteArray} (g:D) (h:alW l):∀ n,n<=l.length->(btx (wsR l) g n).size<=n*33
 | 0,_=>Nat.le_refl 0
 |n+1,hn=>by
  have h1:=btx_sz g h n (by omega)
  have h2:=(gpT_gap (gpC g n)).2.2
  have h3:=(h _ (List.getElem_mem (show n<l.length by omega))).len
  have e:((wsR l).el n 0).toS.size=(l[n]'(show n<l.length by omega)).data.toList.length:=(congrArg ByteArray.size (wsR_el (show n<l.length by omega))).trans (Array.length_toList ..).symm
  rw [btx,ByteArray.size_append,ByteArray.size_append]
  omega
theorem btx_rd {ch ru pr:D} (g:D) (h:rwE ch ru pr=0):paC (btx (rwA ch ru pr) g (rwA ch ru pr).len)=chCd ch/\paU (btx (rwA ch ru pr) g (rwA ch ru pr).len)=ruCd ru/\paP (btx (rwA ch ru pr) g (rwA ch ru pr).len)=prCd pr/\paE (btx (rwA ch ru pr) g (rwA ch ru pr).len)=0:=by
 obtain ⟨h1,h2,h3⟩:=rw0_in h
 have hA:=vSy_syB h1
 rw [rwA_yes h,<- wsl]
 obtain ⟨r1,r2,r3,_,r5⟩:=text_rd (btx_jn _ g _) (bls_fit g (syW_al hA)) (by unfold bls;rw [List.length_map,List.length_range];exact h3) hA (rw_syN h1 h2) (bls_fst _ g)
 obtain ⟨e1,e2,e3,_,e5⟩:=parse_eq (btx (wsR (syW ch ru pr)) g (syW ch ru pr).length)
 exact ⟨e1.trans r1,e2.trans r2,e3.trans r3,e5.trans r5⟩
end Go.Proofs.Ytbhbjhejkamlnaa.Sx.Z
namespace Go.Proofs.Ytbhbjhejkamlnaa.Sx
open Go.RowKit
def deepS (g:SC->SC × List Prop × List Nat):List Seg->List Seg × List Prop × List Nat
 | []=>([],[],[])
 | .c x::r=>(match g x,deepS g r with |(x',ps,is),(r',qs,js)=>(.c x'::r',ps++qs,is++js))
 | .ints k n f::r=>(match deepS g r with |(r',qs,js)=>(.ints k n f::r',qs,js))
def deepR (hp:Heap) (g:SC->SC × List Prop × List Nat) (id n:Nat):SC × List Prop × List Nat:=match look hp id with
 |some (.own e l)=>(match rowsDs (eks e) n (deepS g l).1 with
  |some r=>(.rows e (.l r),(deepS g l).2.1,id::(deepS g l).2.2)
  |none=>(.slice id (.lit 0) (.lit n),[],[]))
 |_=>(.slice id (.lit 0) (.lit n),[],[])
def deepX (hp:Heap):Nat->SC->SC × List Prop × List Nat
 | 0,x=>(x,[],[])
 |f+1,.slice id (.lit 0) (.lit n)=>deepR hp (deepX hp f) id n
 |_+1,x=>fzC hp x
theorem deepX_alt (hp:Heap) (f:Nat) (x:SC):(∃ id n,x = .slice id (.lit 0) (.lit n)/\deepX hp (f+1) x=deepR hp (deepX hp f) id n) ∨ deepX hp (f+1) x=fzC hp x:=by
 unfold deepX
 split
 ·rename_i h;cases h
 ·rename_i f' id n h
  cases h
  exact .inl ⟨id,n,rfl,rfl⟩
 ·exact .inr rfl
def deepV (hp:Heap):SV->SV × List Prop × List Nat
 | .one (.sc x)=>(match deepX hp 6 x with |(x',r)=>(.one (.sc x'),r))
 | .one (.agg a)=>(match deepS (deepX hp 6) a with |(a',r)=>(.one (.agg a'),r))
 |x=>(x,[],[])
def deepA (hp:Heap):List SV->List SV × List Prop × List Nat
 | []=>([],[],[])
 |x::r=>(match deepV hp x,deepA hp r with |(x',ps,is),(r',qs,js)=>(x'::r',ps++qs,is++js))
section
variable {hp:Heap} {w0:W0} {w:World} {ρ:Map} {all:List Nat}
theorem deepS_spec {g:SC->SC × List Prop × List Nat} (ext:Ext ρ (ρ.frz w all)) (hg:∀ x,All (g x).2.1->(∀ id∈(g x).2.2,ownId hp id=true->id∈all)->∀ {v:Value},CRel ρ x v->CRel (ρ.frz w all) (g x).1 v) :
 ∀ (x:List Seg),All (deepS g x).2.1->(∀ id∈(deepS g x).2.2,ownId hp id=true->id∈all)->∀ {vs:List Value},CsRel ρ (cellsOf x) vs->CsRel (ρ.frz w all) (cellsOf (deepS g x).1) vs
 | [],_,_,vs,hv=>csrel_ext ext hv
 | .c x::r,hp',hall,vs,hv=>by
   obtain ⟨hp1,hp2⟩:=all_append.1 (show All ((g x).2.1++(deepS g r).2.1) from hp')
   have hall':∀ id∈(g x).2.2++(deepS g r).2.2,ownId hp id=true->id∈all:=hall
   show CsRel (ρ.frz w all) (cellsOf (.c (g x).1::(deepS g r).1)) vs
   rw [cellsOf_cons] at hv ⊢
   obtain ⟨u,v,rfl,g1,g2⟩:=csrel_cons.1 hv
   refine csrel_append ⟨g1.1,fun i a b ha hb=>?_⟩ (deepS_spec ext hg r hp2 (fun id hi=>hall' id (List.mem_append_right _ hi)) g2)
   cases i with
   |zero=>
    simp only [Seg.cells,List.getElem?_cons_zero,Option.some.injEq] at ha
    subst ha
    exact hg x hp1 (fun id hi=>hall' id (List.mem_append_left _ hi)) (g1.2 0 x b (by simp [Seg.cells]) hb)
   |succ i=>simp [Seg.cells] at ha
 | .ints k n f::r,hp',hall,vs,hv=>by
   show CsRel (ρ.frz w all) (cellsOf (.ints k n f::(deepS g r).1)) vs
   rw [cellsOf_cons] at hv ⊢
   obtain ⟨u,v,rfl,g1,g2⟩:=csrel_cons.1 hv
   exact csrel_append (csrel_ext ext g1) (deepS_spec ext hg r hp' hall g2)
theorem deepR_spec (hw:WH w0 ρ hp w) {g:SC->SC × List Prop × List Nat} (hg:∀ x,All (g x).2.1->(∀ id∈(g x).2.2,ownId hp id=true->id∈all)->∀ {v:Value},CRel ρ x v->CRel (ρ.frz w all) (g x).1 v) (id n:Nat) (hp':All (deepR hp g id n).2.1) (hall:∀ i∈(deepR hp g id n).2.2,ownId hp i=true->i∈all) {v:Value} (hv:CRel ρ (.slice id (.lit 0) (.lit n)) v):CRel (ρ.frz w all) (deepR hp g id n).1 v:=by
 have ext:Ext ρ (ρ.frz w all):=(fr_freeze (B:=0) hw.froz all .junk []).ext
 unfold deepR at hp' hall ⊢
 cases hl:look hp id with
 |none=>exact crel_ext ext hv
 |some en=>
  rw [hl] at hp' hall
  cases en with
  |own e l=>
   dsimp only at hp' hall ⊢
   cases hr:rowsDs (eks e) n (deepS g l).1 with
   |none=>exact crel_ext ext hv
   |some r=>
    rw [hr] at hp' hall
    dsimp only at hp' hall ⊢
    obtain ⟨A,c,rfl,hc,hA⟩:=hv
    obtain ⟨h1,h2,_,vs,hcs,hh⟩:=hw.ents id _ hl
    have hcs':=deepS_spec (hp:=hp) ext hg l hp' (fun i hi ho=>hall i (List.mem_cons_of_mem _ hi) ho) hcs
    obtain ⟨k1,k2,k3⟩:=rowsDs_spec n _ r hr _ hcs'
    have hlen:(D.l r).len=n:=k1
    rcases hA with ⟨hid,rfl⟩ |⟨hn,hc0⟩
    ·have hF:=passF_at hw.froz (hall id (List.mem_cons_self ..) (by simp [ownId,hl,Ent.isOwn])) hid hh
     have e0:ρ.at id (SO.lit 0).v=⟨ρ.blk id,0,none⟩:=by simp [Map.at,h2,SO.v]
     rw [e0]
     have hn:(SN.lit n).v=(D.l r).len:=hlen.symm
     rw [hn]
     refine .slice e (.l r) (ρ.blk id) 0 c (fun i j=>(vs[i*(eks e).length+j]?).getD undef) (by rw [<- hn];exact hc) (fun i j hi hj=>?_) (fun i j k hi hk=>?_)
     ·obtain ⟨u,hu,_⟩:=k3 i j _ (by omega) (List.getElem?_eq_getElem hj)
      show Fz.cell (passF ρ w all) _ _=_
      simp only [Fz.cell,hF,Nat.zero_add]
      simp [hu]
     ·obtain ⟨u,hu,ht⟩:=k3 i j k (by omega) hk
      simp only [hu,Option.getD_some]
      exact ht
    ·have hn0:n=0:=hn
     subst hn0
     subst hc0
     cases A with
     |none=>exact .nil e (.l r) hlen
     |some a=>exact .empty e (.l r) a 0 hlen
  |_=>exact crel_ext ext hv
theorem deepX_spec (hw:WH w0 ρ hp w):∀ (f:Nat) (x:SC),All (deepX hp f x).2.1->(∀ id∈(deepX hp f x).2.2,ownId hp id=true->id∈all)->∀ {v:Value},CRel ρ x v->CRel (ρ.frz w all) (deepX hp f x).1 v
 | 0,x,_,_,v,hv=>crel_ext (fr_freeze (B:=0) hw.froz all .junk []).ext hv
 |f+1,x,hp',hall,v,hv=>by
  rcases deepX_alt hp f x with ⟨id,n,rfl,e⟩ |e
  ·rw [e] at hp' hall ⊢
   exact deepR_spec hw (fun x=>deepX_spec hw f x) id n hp' hall hv
  ·rw [e] at hp' hall ⊢
   exact fzC_spec hw x hp' hall hv
theorem deepV_spec (hw:WH w0 ρ hp w) (x:SV) (hp':All (deepV hp x).2.1) (hall:∀ id∈(deepV hp x).2.2,ownId hp id=true->id∈all) {v:Value} (hv:UR ρ x v):UR (ρ.frz w all) (deepV hp x).1 v:=by
 have ext:Ext ρ (ρ.frz w all):=(fr_freeze (B:=0) hw.froz all .junk []).ext
 cases x with
 |one x=>
  cases x with
  |sc c=>exact deepX_spec hw 6 c hp' hall hv
  |agg l=>obtain ⟨cs,rfl,hc⟩:=hv;exact ⟨cs,rfl,deepS_spec (hp:=hp) ext (fun x=>deepX_spec hw 6 x) l hp' hall hc⟩
 |tup l=>exact ur_ext ext hv
 |cond=>exact hv.elim
 |junk=>exact hv.elim
theorem deepA_spec (hw:WH w0 ρ hp w):∀ (l:List SV) (vs:List Value),All (deepA hp l).2.1->(∀ id∈(deepA hp l).2.2,ownId hp id=true->id∈all)->ArgsRel ρ l vs->ArgsRel (ρ.frz w all) (deepA hp l).1 vs
 | [],[],_,_,_=>trivial
 | [],_::_,_,_,h=>h.elim
 |_::_,[],_,_,h=>h.elim
 |x::r,v::vs,hp',hall,h=>by
  obtain ⟨hp1,hp2⟩:=all_append.1 (show All ((deepV hp x).2.1++(deepA hp r).2.1) from hp')
  have hall':∀ id∈(deepV hp x).2.2++(deepA hp r).2.2,ownId hp id=true->id∈all:=hall
  exact ⟨deepV_spec hw x hp1 (fun id hi=>hall' id (List.mem_append_left _ hi)) h.1,deepA_spec hw r vs hp2 (fun id hi=>hall' id (List.mem_append_right _ hi)) h.2⟩
end
def stOwn (hp:Heap):Heap->Bool
 | []=>true
 |(id,_)::r=>ownId hp id&&stOwn hp r
theorem stOwn_look {hp:Heap}:∀ {st:Heap},stOwn hp st=true->∀ {id:Nat} {x:Ent},look st id=some x->ownId hp id=true
 | [],_,id,x,h=>by simp [look] at h
 |(j,y)::r,hs,id,x,h=>by
  simp only [stOwn,Bool.and_eq_true] at hs
  simp only [look] at h
  split at h
  ·rename_i hj
   obtain rfl:j=id:=by simpa using hj
   exact hs.1
  ·exact stOwn_look hs.2 h
def conZ (c:Con):Con:=fun hp fr args=>match args with
 | .junk::r=>c hp fr (.junk::r)
 |args=>match c hp fr args with
  |some e=>some e
  |none=>(match deepA hp args with
   |(bs,ps,ids)=>(match c (kills (keepOwn hp ids)++hp) fr bs with
    |some e=>if stOwn (kills (keepOwn hp ids)++hp) e.st then some {e with vc:=ps++e.vc,st:=kills (keepOwn hp ids)++e.st} else none
    |none=>none))
theorem conZ_ok {P:Program} {f:FuncId} {c:Con} (h:ConOK P f c):ConOK P f (conZ c):=by
 refine ⟨h.enters,fun hp fr args e he hv w0 w ρ vs hw hn ha=>?_,fun hp fr caps e he=>h.clo hp fr caps e he⟩
 unfold conZ at he
 split at he
 ·exact h.calls hp fr _ e he hv w0 w ρ vs hw hn ha
 ·split at he
  ·rename_i e' he'
   obtain rfl:=Option.some.inj he
   exact h.calls hp fr _ _ he' hv w0 w ρ vs hw hn ha
  ·dsimp only at he
   split at he
   ·rename_i e' he'
    split at he
    ·rename_i hso
     obtain rfl:=Option.some.inj he
     obtain ⟨hp1,hp2⟩:=all_append.1 hv
     have hw1:=wh_frz hw (deepA hp args).2.2
     have ha1:=deepA_spec hw args vs hp1 (all:=keepOwn hp (deepA hp args).2.2) (fun id hi ho=>keepOwn_mem.2 ⟨hi,ho⟩) ha
     refine (h.calls _ fr _ e' he' hp2 w0 w _ vs hw1 hn ha1).mono ?_
     rintro en w' ⟨ρ',v,rfl,g1,g2⟩
     refine ⟨ρ',v,rfl,g1,fr_comp hw.froz g2 (fun id x hx hs=>?_) _⟩
     have ho:=stOwn_look hso hx
     unfold ownId at ho
     split at ho
     ·rename_i y hy
      exact (erel_some (hw1.ents id y hy) ho hs).1.2
     ·cases ho
    ·cases he
   ·cases he
end Go.Proofs.Ytbhbjhejkamlnaa.Sx
namespace Go.Proofs.Ytbhbjhejkamlnaa.Sx.Z
open Go.RowKit
def u8g (d:D):Prop:=∀ i,i<d.len->0<=(d.el i 0).toI/\(d.el i 0).toI<=255
theorem gp_tab (c:Nat) (h:c<4):((D.l [[D.s ⟨#[32]⟩],[D.s ⟨#[10]⟩],[D.s ⟨#[32,32]⟩],[D.s ⟨#[32,10,32]⟩]]).el c 0).toS=gpT c:=by
 have:c=0 ∨ c=1 ∨ c=2 ∨ c=3:=by omega
 rcases this with rfl |rfl |rfl |rfl<;>rfl
theorem pbl_rd {ch ru pr:D} (g:D) (h:rwE ch ru pr=0) (t:ByteArray) (ht:t=btx (rwA ch ru pr) g (rwA ch ru pr).len):t.size<=140737488351232/\paE t=0/\chAls ((paC t).sub 0 (0+(paC t).len)) (cpC ch)/\ruAls ((paU t).sub 0 (0+(paU t).len)) (cpU ru)/\prAls ((paP t).sub 0 (0+(paP t).len)) (cpP pr)/\SyS ((paC t).sub 0 (0+(paC t).len)) ((paU t).sub 0 (0+(paU t).len)) ((paP t).sub 0 (0+(paP t).len)):=by
 obtain ⟨h1,h2,h3⟩:=rw0_in h
 obtain ⟨r1,r2,r3,r4⟩:=btx_rd g h
 rw [<- ht] at r1 r2 r3 r4
 have hA:=vSy_syB h1
 obtain ⟨a1,a2,a3⟩:=sy_self hA
 obtain ⟨b1,b2,b3⟩:=sy_cp a1 a2 a3
 have gg:=(pa_good t).s
 have s1:(paC t).sub 0 (0+(paC t).len)=paC t:=by rw [subAll,r1];rfl
 have s2:(paU t).sub 0 (0+(paU t).len)=paU t:=by rw [subAll,r2];rfl
 have s3:(paP t).sub 0 (0+(paP t).len)=paP t:=by rw [subAll,r3];rfl
 rw [s1,s2,s3]
 refine ⟨?_,r4,by rw [r1];exact b1,by rw [r2];exact b2,by rw [r3];exact b3,gg⟩
 rw [ht,rwA_yes h,<- wsl]
 have:=btx_sz g (syW_al hA) (syW ch ru pr).length (Nat.le_refl _)
 omega
noncomputable def pblS:FSpec:=fun ds _=>match ds with
 | [.d ch,.d ru,.d pr,.d g]=>some {val:=.one (.sc (.bool (.lit true))),vc:=[sW ch,sW ru,sW pr,u8g g]}
 |_=>none
noncomputable def pblC:Con:=con [gS0,.sc (.rows 5)] pblS
theorem pbl_ok:ConOK Try.prog 6 pblC:=by
 refine fn_ob tt_ok mixed Try.func6 rfl (fun _ _=>by kernel_rfl) (A:=fun ds=>⟨fun _=>Cons.of [(12,rwqC),(7,parC),(9,prsC),(10,samC),(11,(conZ ycpC))],fun k=>match k,ds with | 6,[.d ch,.d ru,.d pr,.d g]=>some {ι:=Nat,pre:=fun _ i=>i<=(rwA ch ru pr).len/\rwE ch ru pr=0,μ:=fun i=>(rwA ch ru pr).len+1-i,st:=fun s i=>famR s [(8,.one (.sc (.int .i64 (.sym (i:Nat))))),(7,.one (.sc (.raw (.string (btx (rwA ch ru pr) g i)))))] [1,2,5,6] [] [2]} |_,_=>none,fun _=>none⟩) (fun _ _=>(cons_cons rwq_ok (cons_cons par_ok (cons_cons prs_ok (cons_cons sam_ok (cons_cons (conZ_ok ycp_ok) cons_nil)))))) (by kernel_rfl) ?_
 intro ds fr
 unfold pblS
 split
 ·rename_i ch ru pr g
  refine kmp (q:=sW ch->sW ru->sW pr->u8g g->sW ch/\sW ru/\sW pr/\((!true ||rwE ch ru pr != (0:Int))=true->true=true)/\((!true ||rwE ch ru pr != (0:Int))=false->(∃ (i:Nat),(i<=(rwA ch ru pr).len/\rwE ch ru pr=(0:Int))/\(0:Int)=(↑i:Int)/\Value.string (ByteArray.mk #[])=Value.string (btx (rwA ch ru pr) g i)/\g.rows=g.rows/\(rwA ch ru pr).rows=(rwA ch ru pr).rows/\rwE ch ru pr=rwE ch ru pr/\ch.rows=ch.rows/\ru.rows=ru.rows/\pr.rows=pr.rows)/\∀ (i:Nat),i<=(rwA ch ru pr).len/\rwE ch ru pr=(0:Int)->(decide ((↑i:Int)<(↑(rwA ch ru pr).len:Int))=true->(decide ((↑i:Int)<(↑g.len:Int))=true->((0:Int)<=(↑i:Int)/\(↑i:Int)<(↑g.len:Int))/\((0:Int)<=(↑i:Int)/\(↑i:Int)<(↑(rwA ch ru pr).len:Int))/\(↑((btx (rwA ch ru pr) g i).size+((rwA ch ru pr).el (↑i:Int).toNat (0:Nat)).toS.size):Int)<=IntKind.i64.max/\((0:Int)<=(g.el (↑i:Int).toNat (0:Nat)).toI.tmod (4:Int)/\(g.el (↑i:Int).toNat (0:Nat)).toI.tmod (4:Int)<(↑(4:Nat):Int))/\((g.el (↑i:Int).toNat (0:Nat)).toI.tmod (4:Int)).toNat<(D.l [[D.s (ByteArray.mk #[32])],[D.s (ByteArray.mk #[10])],[D.s (ByteArray.mk #[32,32])],[D.s (ByteArray.mk #[32,10,32])]]).len/\(↑((btx (rwA ch ru pr) g i++((rwA ch ru pr).el (↑i:Int).toNat (0:Nat)).toS).size+((D.l [[D.s (ByteArray.mk #[32])],[D.s (ByteArray.mk #[10])],[D.s (ByteArray.mk #[32,32])],[D.s (ByteArray.mk #[32,10,32])]]).el ((g.el (↑i:Int).toNat (0:Nat)).toI.tmod (4:Int)).toNat (0:Nat)).toS.size):Int)<=IntKind.i64.max/\∃ (j:Nat),(j<=(rwA ch ru pr).len/\rwE ch ru pr=(0:Int))/\(rwA ch ru pr).len+(1:Nat)-j<(rwA ch ru pr).len+(1:Nat)-i/\IntKind.i64.wrap ((↑i:Int)+(1:Int))=(↑j:Int)/\Value.string (btx (rwA ch ru pr) g i++((rwA ch ru pr).el (↑i:Int).toNat (0:Nat)).toS++((D.l [[D.s (ByteArray.mk #[32])],[D.s (ByteArray.mk #[10])],[D.s (ByteArray.mk #[32,32])],[D.s (ByteArray.mk #[32,10,32])]]).el ((g.el (↑i:Int).toNat (0:Nat)).toI.tmod (4:Int)).toNat (0:Nat)).toS)=Value.string (btx (rwA ch ru pr) g j)/\g.rows=g.rows/\(rwA ch ru pr).rows=(rwA ch ru pr).rows/\rwE ch ru pr=rwE ch ru pr/\ch.rows=ch.rows/\ru.rows=ru.rows/\pr.rows=pr.rows)/\(decide ((↑i:Int)<(↑g.len:Int))=false->((0:Int)<=(↑i:Int)/\(↑i:Int)<(↑(rwA ch ru pr).len:Int))/\(↑((btx (rwA ch ru pr) g i).size+((rwA ch ru pr).el (↑i:Int).toNat (0:Nat)).toS.size):Int)<=IntKind.i64.max/\(0:Nat)%(4:Nat)<(D.l [[D.s (ByteArray.mk #[32])],[D.s (ByteArray.mk #[10])],[D.s (ByteArray.mk #[32,32])],[D.s (ByteArray.mk #[32,10,32])]]).len/\(↑((btx (rwA ch ru pr) g i++((rwA ch ru pr).el (↑i:Int).toNat (0:Nat)).toS).size+(ByteArray.mk #[32]).size):Int)<=IntKind.i64.max/\∃ (j:Nat),(j<=(rwA ch ru pr).len/\rwE ch ru pr=(0:Int))/\(rwA ch ru pr).len+(1:Nat)-j<(rwA ch ru pr).len+(1:Nat)-i/\IntKind.i64.wrap ((↑i:Int)+(1:Int))=(↑j:Int)/\Value.string (btx (rwA ch ru pr) g i++((rwA ch ru pr).el (↑i:Int).toNat (0:Nat)).toS++(ByteArray.mk #[32]))=Value.string (btx (rwA ch ru pr) g j)/\g.rows=g.rows/\(rwA ch ru pr).rows=(rwA ch ru pr).rows/\rwE ch ru pr=rwE ch ru pr/\ch.rows=ch.rows/\ru.rows=ru.rows/\pr.rows=pr.rows))/\(decide ((↑i:Int)<(↑(rwA ch ru pr).len:Int))=false->(btx (rwA ch ru pr) g i).size<=(140737488351232:Nat)/\((paE (btx (rwA ch ru pr) g i)==(0:Int))=true/\True->SyS ch ru pr)/\((paE (btx (rwA ch ru pr) g i)==(0:Int))=true/\True->(0:Nat)+(paC (btx (rwA ch ru pr) g i)).len<=(paC (btx (rwA ch ru pr) g i)).len)/\((paE (btx (rwA ch ru pr) g i)==(0:Int))=true/\True->(0:Nat)+(paU (btx (rwA ch ru pr) g i)).len<=(paU (btx (rwA ch ru pr) g i)).len)/\((paE (btx (rwA ch ru pr) g i)==(0:Int))=true/\True->(0:Nat)+(paP (btx (rwA ch ru pr) g i)).len<=(paP (btx (rwA ch ru pr) g i)).len)/\((paE (btx (rwA ch ru pr) g i)==(0:Int))=true/\True->chAls ((paC (btx (rwA ch ru pr) g i)).sub ((0:Nat)) ((0:Nat)+(paC (btx (rwA ch ru pr) g i)).len)) (cpC ch)/\ruAls ((paU (btx (rwA ch ru pr) g i)).sub ((0:Nat)) ((0:Nat)+(paU (btx (rwA ch ru pr) g i)).len)) (cpU ru)/\prAls ((paP (btx (rwA ch ru pr) g i)).sub ((0:Nat)) ((0:Nat)+(paP (btx (rwA ch ru pr) g i)).len)) (cpP pr))/\((paE (btx (rwA ch ru pr) g i)==(0:Int))=true/\True->SyS ((paC (btx (rwA ch ru pr) g i)).sub ((0:Nat)) ((0:Nat)+(paC (btx (rwA ch ru pr) g i)).len)) ((paU (btx (rwA ch ru pr) g i)).sub ((0:Nat)) ((0:Nat)+(paU (btx (rwA ch ru pr) g i)).len)) ((paP (btx (rwA ch ru pr) g i)).sub ((0:Nat)) ((0:Nat)+(paP (btx (rwA ch ru pr) g i)).len)))/\(paE (btx (rwA ch ru pr) g i)==(0:Int) ||false)=true))) (by kernel_rfl) ?_
  intro h1 h2 h3 hu
  have en:∀ i:Nat,(i:Int).toNat=i:=fun i=>Int.toNat_natCast i
  simp only [Nat.reduceAdd,Nat.zero_add,en]
  have hmx:(IntKind.i64.max:Int)=9223372036854775807:=rfl
  refine ⟨h1,h2,h3,fun _=>trivial,fun he=>?_⟩
  have he0:rwE ch ru pr=0:=by simpa using he
  obtain ⟨q1,q2,q3⟩:=rw0_in he0
  have hal:=syW_al (vSy_syB q1)
  have el:rwA ch ru pr=wsR (syW ch ru pr):=rwA_yes he0
  have ll:(rwA ch ru pr).len<=2000:=by rw [el,<- wsl];exact q3
  have bz:∀ i,i<=(rwA ch ru pr).len->(btx (rwA ch ru pr) g i).size<=i*33:=fun i hi=>by
   rw [el] at hi ⊢
   rw [<- wsl] at hi
   exact btx_sz g hal i hi
  refine ⟨⟨0,⟨Nat.zero_le _,he0⟩,rfl,rfl,(by (repeat' (with_reducible apply And.intro))<;>first |exact True.intro |rfl)⟩,fun i hi=>⟨fun hc=>?_,fun hc=>?_⟩⟩
  ·have hc:=of_decide_eq_true hc
   have hi2:i<(rwA ch ru pr).len:=by omega
   have b1:=bz i hi.1
   have b2:=bz (i+1) hi2
   have hb:btx (rwA ch ru pr) g (i+1)=btx (rwA ch ru pr) g i++((rwA ch ru pr).el i 0).toS++gpT (gpC g i):=rfl
   have hz:(btx (rwA ch ru pr) g (i+1)).size=(btx (rwA ch ru pr) g i).size+((rwA ch ru pr).el i 0).toS.size+(gpT (gpC g i)).size:=by rw [hb,ByteArray.size_append,ByteArray.size_append]
   have hnx:IntKind.i64.wrap ((i:Int)+1)=((i+1:Nat):Int):=by rw [IntWalk.i64_in _ (by omega)];omega
   refine ⟨fun hd=>?_,fun hd=>?_⟩
   ·have hd:=of_decide_eq_true hd
    have hd2:i<g.len:=by omega
    have h8:=hu i hd2
    have e4:(g.el i 0).toI.tmod 4=(gpC g i:Nat):=by
     rw [Int.tmod_eq_emod_of_nonneg h8.1]
     unfold gpC
     rw [if_pos hd2]
     omega
    have g4:gpC g i<4:=by unfold gpC;rw [if_pos hd2];omega
    simp only [e4,en,gp_tab _ g4]
    refine ⟨⟨by omega,hd⟩,⟨by omega,hc⟩,by rw [hmx];omega,⟨by omega,by omega⟩,g4,by rw [hmx,ByteArray.size_append];omega,i+1,⟨hi2,he0⟩,by omega,hnx,(by (repeat' (with_reducible apply And.intro))<;>first |exact True.intro |rfl)⟩
   ·have hd:=of_decide_eq_false hd
    have e0:gpT (gpC g i)=⟨#[32]⟩:=by
     unfold gpC
     rw [if_neg (by omega)];rfl
    rw [e0] at hb hz
    refine ⟨⟨by omega,hc⟩,by rw [hmx];omega,(show 0<4 by decide),by rw [hmx,ByteArray.size_append];omega,i+1,⟨hi2,he0⟩,by omega,hnx,by rw [hb],(by (repeat' (with_reducible apply And.intro))<;>first |exact True.intro |rfl)⟩
  ·have hc:=of_decide_eq_false hc
   obtain rfl:i=(rwA ch ru pr).len:=by have:=hi.1;omega
   obtain ⟨p1,p2,p3,p4,p5,p6⟩:=pbl_rd g he0 _ rfl
   simp only [Nat.zero_add] at p3 p4 p5 p6
   exact ⟨p1,fun _=>SyS_w h1 h2 h3,fun _=>Nat.le_refl _,fun _=>Nat.le_refl _,fun _=>Nat.le_refl _,fun _=>⟨p3,p4,p5⟩,fun _=>p6,by rw [p2];rfl⟩
 ·trivial
end Go.Proofs.Ytbhbjhejkamlnaa.Sx.Z
