import Derived.Test.YthpponmbpoaffaaGreatDoorZ30
import Derived.Test.YthpponmbpoaffaaGreatDoorZ22
namespace Go.Proofs.YthpponmbpoaffaaGreatDoor.Sx.Z
open Go.RowKit
def qCh:AP:=.agg [.c .str,.c (.int .i64),.c (.int .i64),.c .str,.c .str,.c (.rows 9)]
def qRu:AP:=.agg [.c .str,.c (.rows 56)]
def qPo:AP:=.agg [.c .str,.c (.rows 9),.c (.rows 81)]
def qSy:AP:=.agg [.c (.rows 47),.c (.rows 53),.c (.rows 63)]
def nsAl (a b:D):Prop:=a.len=b.len/\∀ i,i<a.len->(a.el i 0).toS=(b.el i 0).toS
def mvAl (a b:D):Prop:=a.len=b.len/\∀ i,i<a.len->(a.el i 0).toI=(b.el i 0).toI/\(a.el i 1).toS=(b.el i 1).toS/\(a.el i 2).toI=(b.el i 2).toI
def chAl (a b:D) (i:Nat):Prop:=(a.el i 0).toS=(b.el i 0).toS/\(a.el i 1).toI=(b.el i 1).toI/\(a.el i 2).toI=(b.el i 2).toI/\(a.el i 3).toS=(b.el i 3).toS/\(a.el i 4).toS=(b.el i 4).toS/\nsAl (a.el i 5) (b.el i 5)
def ruAl (a b:D) (i:Nat):Prop:=(a.el i 0).toS=(b.el i 0).toS/\mvAl (a.el i 1) (b.el i 1)
def prAl (a b:D) (i:Nat):Prop:=(a.el i 0).toS=(b.el i 0).toS/\nsAl (a.el i 1) (b.el i 1)/\BR (a.el i 2) (b.el i 2)
def chAls (a b:D):Prop:=a.len=b.len/\∀ i,i<a.len->chAl a b i
def ruAls (a b:D):Prop:=a.len=b.len/\∀ i,i<a.len->ruAl a b i
def prAls (a b:D):Prop:=a.len=b.len/\∀ i,i<a.len->prAl a b i
noncomputable def eqzS:FSpec:=fun ds _=>match ds with
 | [.d a,.d b]=>some {val:=.one (.sc (.bool (.lit true))),vc:=[nsAl a b,a.len*16<=140737488355328]}
 |_=>none
noncomputable def eqzC:Con:=con [.sc (.rows 9),.sc (.rows 9)] eqzS
theorem eqz_ok:ConOK Tryz.prog 38 eqzC:=by
 refine fn_ob tt_ok mixed Tryz.func38 rfl (fun _ _=>by kernel_rfl) (A:=fun ds=>⟨fun _=>Cons.of [],fun k=>match k,ds with | 4,[.d a,.d b]=>some {ι:=Nat,pre:=fun _ i=>i<=a.len/\True,μ:=fun i=>a.len+1-i,st:=fun s i=>famR s [(13,.one (.sc (.int .i64 (.sym ((i:Nat)))))),(12,.one (.sc (.int .i64 (.sym ((a.len:Nat))))))] [0,1,11] [] []} |_,_=>none,fun _=>none⟩) (fun _ _=>cons_nil) (by kernel_rfl) ?_
 intro ds fr
 unfold eqzS
 split
 ·rename_i a b
  refine kmp (q:=nsAl a b->a.len*(16:Nat)<=(140737488355328:Nat)->(((↑a.len:Int) != (↑b.len:Int))=true->false=true)/\(((↑a.len:Int) != (↑b.len:Int))=false->(∃ (i:Nat),(i<=a.len/\True)/\(0:Int)=(↑i:Int)/\(↑a.len:Int)=(↑a.len:Int)/\a.rows=a.rows/\b.rows=b.rows/\a.rows=a.rows)/\∀ (i:Nat),i<=a.len/\True->(decide ((↑i:Int)<(↑a.len:Int))=true->((0:Int)<=(↑i:Int)/\(↑i:Int)<(↑a.len:Int))/\((0:Int)<=(↑i:Int)/\(↑i:Int)<(↑b.len:Int))/\((!(a.el (↑i:Int).toNat (0:Nat)).toS.toList==(b.el (↑i:Int).toNat (0:Nat)).toS.toList)=true->false=true)/\((!(a.el (↑i:Int).toNat (0:Nat)).toS.toList==(b.el (↑i:Int).toNat (0:Nat)).toS.toList)=false->∃ (j:Nat),(j<=a.len/\True)/\a.len+(1:Nat)-j<a.len+(1:Nat)-i/\IntKind.i64.wrap ((↑i:Int)+(1:Int))=(↑j:Int)/\(↑a.len:Int)=(↑a.len:Int)/\a.rows=a.rows/\b.rows=b.rows/\a.rows=a.rows))/\(decide ((↑i:Int)<(↑a.len:Int))=false->true=true))) (by kernel_rfl) ?_
  rintro ⟨hl,hR⟩ hz1
  refine ⟨fun hc=>by rw [hl] at hc;simp at hc,fun _=>⟨⟨0,⟨Nat.zero_le _,trivial⟩,(by (repeat' (with_reducible apply And.intro))<;>first |with_reducible rfl |exact True.intro |assumption |(symm;assumption) |rfl)⟩,fun i hi=>⟨fun hc=>?_,fun _=>rfl⟩⟩⟩
  have hc:=of_decide_eq_true hc
  have hi2:i<a.len:=by omega
  have en:(i:Int).toNat=i:=Int.toNat_natCast i
  have hw:IntKind.i64.wrap ((i:Int)+1)=((i+1:Nat):Int):=by rw [IntWalk.i64_in _ (by omega)];omega
  simp only [en]
  exact ⟨⟨by omega,hc⟩,⟨by omega,by omega⟩,fun hx=>by rw [hR i hi2] at hx;simp at hx,fun _=>⟨i+1,⟨hi2,trivial⟩,by omega,hw,(by (repeat' (with_reducible apply And.intro))<;>first |with_reducible rfl |exact True.intro |assumption |(symm;assumption) |rfl)⟩⟩
 ·trivial
noncomputable def eqmS:FSpec:=fun ds _=>match ds with
 | [.d a,.d b]=>some {val:=.one (.sc (.bool (.lit true))),vc:=[mvAl a b,a.len*32<=140737488355328]}
 |_=>none
noncomputable def eqmC:Con:=con [.sc (.rows 56),.sc (.rows 56)] eqmS
theorem eqm_ok:ConOK Tryz.prog 39 eqmC:=by
 refine fn_ob tt_ok mixed Tryz.func39 rfl (fun _ _=>by kernel_rfl) (A:=fun ds=>⟨fun _=>Cons.of [],fun k=>match k,ds with | 4,[.d a,.d b]=>some {ι:=Nat,pre:=fun _ i=>i<=a.len/\True,μ:=fun i=>a.len+1-i,st:=fun s i=>famR s [(13,.one (.sc (.int .i64 (.sym ((i:Nat)))))),(12,.one (.sc (.int .i64 (.sym ((a.len:Nat))))))] [0,1,11] [] []} |_,_=>none,fun _=>none⟩) (fun _ _=>cons_nil) (by kernel_rfl) ?_
 intro ds fr
 unfold eqmS
 split
 ·rename_i a b
  refine kmp (q:=mvAl a b->a.len*(32:Nat)<=(140737488355328:Nat)->(((↑a.len:Int) != (↑b.len:Int))=true->false=true)/\(((↑a.len:Int) != (↑b.len:Int))=false->(∃ (i:Nat),(i<=a.len/\True)/\(0:Int)=(↑i:Int)/\(↑a.len:Int)=(↑a.len:Int)/\a.rows=a.rows/\b.rows=b.rows/\a.rows=a.rows)/\∀ (i:Nat),i<=a.len/\True->(decide ((↑i:Int)<(↑a.len:Int))=true->((0:Int)<=(↑i:Int)/\(↑i:Int)<(↑a.len:Int))/\((0:Int)<=(↑i:Int)/\(↑i:Int)<(↑b.len:Int))/\((!((a.el (↑i:Int).toNat (0:Nat)).toI==(b.el (↑i:Int).toNat (0:Nat)).toI&&((a.el (↑i:Int).toNat 1).toS.toList==(b.el (↑i:Int).toNat 1).toS.toList&&((a.el (↑i:Int).toNat 2).toI==(b.el (↑i:Int).toNat 2).toI&&true))))=true->false=true)/\((!((a.el (↑i:Int).toNat (0:Nat)).toI==(b.el (↑i:Int).toNat (0:Nat)).toI&&((a.el (↑i:Int).toNat 1).toS.toList==(b.el (↑i:Int).toNat 1).toS.toList&&((a.el (↑i:Int).toNat 2).toI==(b.el (↑i:Int).toNat 2).toI&&true))))=false->∃ (j:Nat),(j<=a.len/\True)/\a.len+(1:Nat)-j<a.len+(1:Nat)-i/\IntKind.i64.wrap ((↑i:Int)+(1:Int))=(↑j:Int)/\(↑a.len:Int)=(↑a.len:Int)/\a.rows=a.rows/\b.rows=b.rows/\a.rows=a.rows))/\(decide ((↑i:Int)<(↑a.len:Int))=false->true=true))) (by kernel_rfl) ?_
  rintro ⟨hl,hR⟩ hz1
  refine ⟨fun hc=>by rw [hl] at hc;simp at hc,fun _=>⟨⟨0,⟨Nat.zero_le _,trivial⟩,(by (repeat' (with_reducible apply And.intro))<;>first |with_reducible rfl |exact True.intro |assumption |(symm;assumption) |rfl)⟩,fun i hi=>⟨fun hc=>?_,fun _=>rfl⟩⟩⟩
  have hc:=of_decide_eq_true hc
  have hi2:i<a.len:=by omega
  have en:(i:Int).toNat=i:=Int.toNat_natCast i
  have hw:IntKind.i64.wrap ((i:Int)+1)=((i+1:Nat):Int):=by rw [IntWalk.i64_in _ (by omega)];omega
  simp only [en]
  exact ⟨⟨by omega,hc⟩,⟨by omega,by omega⟩,fun hx=>by obtain ⟨r1,r2,r3⟩:=hR i hi2;rw [r1,r2,r3] at hx;simp at hx,fun _=>⟨i+1,⟨hi2,trivial⟩,by omega,hw,(by (repeat' (with_reducible apply And.intro))<;>first |with_reducible rfl |exact True.intro |assumption |(symm;assumption) |rfl)⟩⟩
 ·trivial
noncomputable def schS:FSpec:=fun ds _=>match ds with
 | [.s n,.i k,.i z,.s f,.s t,.d d,.s n2,.i k2,.i z2,.s f2,.s t2,.d d2]=>some {val:=.one (.sc (.bool (.lit true))),vc:=[(n=n2/\k=k2/\z=z2/\f=f2/\t=t2/\nsAl d d2),d.len*16<=140737488355328]}
 |_=>none
noncomputable def schC:Con:=con [qCh,qCh] schS
theorem sch_ok:ConOK Tryz.prog 18 schC:=by
 refine fn_ob tt_ok mixed Tryz.func18 rfl (fun _ _=>by kernel_rfl) (A:=fun ds=>⟨fun _=>Cons.of [(38,eqzC)],fun _=>none,fun _=>none⟩) (fun _ _=>(cons_cons eqz_ok cons_nil)) (by kernel_rfl) ?_
 intro ds fr
 unfold schS
 split
 ·rename_i n k z f t d n2 k2 z2 f2 t2 d2
  refine kmp (q:=n=n2/\k=k2/\z=z2/\f=f2/\t=t2/\nsAl d d2->d.len*(16:Nat)<=(140737488355328:Nat)->((n.toList==n2.toList&&k==k2&&z==z2&&f.toList==f2.toList&&t.toList==t2.toList)=true/\True->nsAl d d2)/\((n.toList==n2.toList&&k==k2&&z==z2&&f.toList==f2.toList&&t.toList==t2.toList)=true/\True->d.len*(16:Nat)<=(140737488355328:Nat))/\(n.toList==n2.toList&&k==k2&&z==z2&&f.toList==f2.toList&&t.toList==t2.toList ||false)=true) (by kernel_rfl) ?_
  rintro ⟨rfl,rfl,rfl,rfl,rfl,hd⟩ hl
  exact ⟨fun _=>hd,fun _=>hl,by simp⟩
 ·trivial
noncomputable def sruS:FSpec:=fun ds _=>match ds with
 | [.s n,.d d,.s n2,.d d2]=>some {val:=.one (.sc (.bool (.lit true))),vc:=[(n=n2/\mvAl d d2),d.len*32<=140737488355328]}
 |_=>none
noncomputable def sruC:Con:=con [qRu,qRu] sruS
theorem sru_ok:ConOK Tryz.prog 20 sruC:=by
 refine fn_ob tt_ok mixed Tryz.func20 rfl (fun _ _=>by kernel_rfl) (A:=fun ds=>⟨fun _=>Cons.of [(39,eqmC)],fun _=>none,fun _=>none⟩) (fun _ _=>(cons_cons eqm_ok cons_nil)) (by kernel_rfl) ?_
 intro ds fr
 unfold sruS
 split
 ·rename_i n d n2 d2
  refine kmp (q:=n=n2/\mvAl d d2->d.len*(32:Nat)<=(140737488355328:Nat)->((n.toList==n2.toList)=true/\True->mvAl d d2)/\((n.toList==n2.toList)=true/\True->d.len*(32:Nat)<=(140737488355328:Nat))/\(n.toList==n2.toList ||false)=true) (by kernel_rfl) ?_
  rintro ⟨rfl,hd⟩ hl
  exact ⟨fun _=>hd,fun _=>hl,by simp⟩
 ·trivial
noncomputable def spoS:FSpec:=fun ds _=>match ds with
 | [.s n,.d d,.d b,.s n2,.d d2,.d b2]=>some {val:=.one (.sc (.bool (.lit true))),vc:=[(n=n2/\nsAl d d2/\BR b b2),d.len*16<=140737488355328,bS b]}
 |_=>none
noncomputable def spoC:Con:=con [qPo,qPo] spoS
theorem spo_ok:ConOK Tryz.prog 22 spoC:=by
 refine fn_ob tt_ok mixed Tryz.func22 rfl (fun _ _=>by kernel_rfl) (A:=fun ds=>⟨fun _=>Cons.of [(38,eqzC),(40,sbyC)],fun _=>none,fun _=>none⟩) (fun _ _=>(cons_cons eqz_ok (cons_cons sby_ok cons_nil))) (by kernel_rfl) ?_
 intro ds fr
 unfold spoS
 split
 ·rename_i n d b n2 d2 b2
  refine kmp (q:=n=n2/\nsAl d d2/\BR b b2->d.len*(16:Nat)<=(140737488355328:Nat)->bS b->((n.toList==n2.toList)=true/\True->nsAl d d2)/\((n.toList==n2.toList)=true/\True->d.len*(16:Nat)<=(140737488355328:Nat))/\((n.toList==n2.toList ||false)=true/\True->BR b b2)/\((n.toList==n2.toList ||false)=true/\True->bS b)/\(n.toList==n2.toList ||false ||false)=true) (by kernel_rfl) ?_
  rintro ⟨rfl,hd,hb⟩ hl hs
  exact ⟨fun _=>hd,fun _=>hl,fun _=>hb,fun _=>hs,by simp⟩
 ·trivial
noncomputable def eqcS:FSpec:=fun ds _=>match ds with
 | [.d a,.d b,.v kf]=>(match isFn 18 kf with |true=>some {val:=.one (.sc (.bool (.lit true))),vc:=[chAls a b,a.len*88<=140737488355328,(∀ i,i<a.len->(a.el i 5).len*16<=140737488355328)]} |false=>none)
 |_=>none
noncomputable def eqcC:Con:=con [.sc (.rows 47),.sc (.rows 47),.sc .any] eqcS
theorem eqc_ok:ConOK Tryz.prog 17 eqcC:=by
 refine fn_ob tt_ok mixed Tryz.func17 rfl (fun _ _=>by kernel_rfl) (A:=fun ds=>⟨fun _=>Cons.of [(18,schC)],fun k=>match k,ds with | 4,[.d a,.d b,.v _]=>some {ι:=Nat,pre:=fun _ i=>i<=a.len/\True,μ:=fun i=>a.len+1-i,st:=fun s i=>famR s [(17,.one (.sc (.int .i64 (.sym ((i:Nat)))))),(16,.one (.sc (.int .i64 (.sym ((a.len:Nat))))))] [0,1,2,15] [] []} |_,_=>none,fun _=>none⟩) (fun _ _=>(cons_cons sch_ok cons_nil)) (by kernel_rfl) ?_
 intro ds fr
 unfold eqcS
 split
 ·rename_i a b kf
  split
  ·rename_i hg
   obtain rfl:=isFn_eq hg
   refine kmp (q:=chAls a b->a.len*(88:Nat)<=(140737488355328:Nat)->(∀ (i:Nat),i<a.len->(a.el i (5:Nat)).len*(16:Nat)<=(140737488355328:Nat))->(((↑a.len:Int) != (↑b.len:Int))=true->false=true)/\(((↑a.len:Int) != (↑b.len:Int))=false->(∃ (i:Nat),(i<=a.len/\True)/\(0:Int)=(↑i:Int)/\(↑a.len:Int)=(↑a.len:Int)/\a.rows=a.rows/\b.rows=b.rows/\Value.func (Fn.func (18:Nat)) #[] #[]=Value.func (Fn.func (18:Nat)) #[] #[]/\a.rows=a.rows)/\∀ (i:Nat),i<=a.len/\True->(decide ((↑i:Int)<(↑a.len:Int))=true->((0:Int)<=(↑i:Int)/\(↑i:Int)<(↑a.len:Int))/\((0:Int)<=(↑i:Int)/\(↑i:Int)<(↑b.len:Int))/\((a.el (↑i:Int).toNat (0:Nat)).toS=(b.el (↑i:Int).toNat (0:Nat)).toS/\(a.el (↑i:Int).toNat 1).toI=(b.el (↑i:Int).toNat 1).toI/\(a.el (↑i:Int).toNat 2).toI=(b.el (↑i:Int).toNat 2).toI/\(a.el (↑i:Int).toNat 3).toS=(b.el (↑i:Int).toNat 3).toS/\(a.el (↑i:Int).toNat 4).toS=(b.el (↑i:Int).toNat 4).toS/\nsAl (a.el (↑i:Int).toNat 5) (b.el (↑i:Int).toNat 5))/\(a.el (↑i:Int).toNat 5).len*(16:Nat)<=(140737488355328:Nat)/\∃ (j:Nat),(j<=a.len/\True)/\a.len+(1:Nat)-j<a.len+(1:Nat)-i/\IntKind.i64.wrap ((↑i:Int)+(1:Int))=(↑j:Int)/\(↑a.len:Int)=(↑a.len:Int)/\a.rows=a.rows/\b.rows=b.rows/\Value.func (Fn.func (18:Nat)) #[] #[]=Value.func (Fn.func (18:Nat)) #[] #[]/\a.rows=a.rows)/\(decide ((↑i:Int)<(↑a.len:Int))=false->true=true))) (by kernel_rfl) ?_
   intro he hk hm
   obtain ⟨hl,hR⟩:=he
   have hz1:a.len<=140737488355328:=by have:=hk;omega
   refine ⟨fun hc=>by rw [hl] at hc;simp at hc,fun _=>⟨⟨0,⟨Nat.zero_le _,trivial⟩,(by (repeat' (with_reducible apply And.intro))<;>first |with_reducible rfl |exact True.intro |assumption |(symm;assumption) |rfl)⟩,fun i hi=>⟨fun hc=>?_,fun _=>rfl⟩⟩⟩
   have hc:=of_decide_eq_true hc
   have hi2:i<a.len:=by omega
   have en:(i:Int).toNat=i:=Int.toNat_natCast i
   have hw:IntKind.i64.wrap ((i:Int)+1)=((i+1:Nat):Int):=by rw [IntWalk.i64_in _ (by omega)];omega
   simp only [en]
   exact ⟨⟨by omega,hc⟩,⟨by omega,by omega⟩,hR i hi2,hm i hi2,i+1,⟨hi2,trivial⟩,by omega,hw,(by (repeat' (with_reducible apply And.intro))<;>first |with_reducible rfl |exact True.intro |assumption |(symm;assumption) |rfl)⟩
  ·trivial
 ·trivial
noncomputable def equS:FSpec:=fun ds _=>match ds with
 | [.d a,.d b,.v kf]=>(match isFn 20 kf with |true=>some {val:=.one (.sc (.bool (.lit true))),vc:=[ruAls a b,a.len*40<=140737488355328,(∀ i,i<a.len->(a.el i 1).len*32<=140737488355328)]} |false=>none)
 |_=>none
noncomputable def equC:Con:=con [.sc (.rows 53),.sc (.rows 53),.sc .any] equS
theorem equ_ok:ConOK Tryz.prog 19 equC:=by
 refine fn_ob tt_ok mixed Tryz.func19 rfl (fun _ _=>by kernel_rfl) (A:=fun ds=>⟨fun _=>Cons.of [(20,sruC)],fun k=>match k,ds with | 4,[.d a,.d b,.v _]=>some {ι:=Nat,pre:=fun _ i=>i<=a.len/\True,μ:=fun i=>a.len+1-i,st:=fun s i=>famR s [(17,.one (.sc (.int .i64 (.sym ((i:Nat)))))),(16,.one (.sc (.int .i64 (.sym ((a.len:Nat))))))] [0,1,2,15] [] []} |_,_=>none,fun _=>none⟩) (fun _ _=>(cons_cons sru_ok cons_nil)) (by kernel_rfl) ?_
 intro ds fr
 unfold equS
 split
 ·rename_i a b kf
  split
  ·rename_i hg
   obtain rfl:=isFn_eq hg
   refine kmp (q:=ruAls a b->a.len*(40:Nat)<=(140737488355328:Nat)->(∀ (i:Nat),i<a.len->(a.el i (1:Nat)).len*(32:Nat)<=(140737488355328:Nat))->(((↑a.len:Int) != (↑b.len:Int))=true->false=true)/\(((↑a.len:Int) != (↑b.len:Int))=false->(∃ (i:Nat),(i<=a.len/\True)/\(0:Int)=(↑i:Int)/\(↑a.len:Int)=(↑a.len:Int)/\a.rows=a.rows/\b.rows=b.rows/\Value.func (Fn.func (20:Nat)) #[] #[]=Value.func (Fn.func (20:Nat)) #[] #[]/\a.rows=a.rows)/\∀ (i:Nat),i<=a.len/\True->(decide ((↑i:Int)<(↑a.len:Int))=true->((0:Int)<=(↑i:Int)/\(↑i:Int)<(↑a.len:Int))/\((0:Int)<=(↑i:Int)/\(↑i:Int)<(↑b.len:Int))/\((a.el (↑i:Int).toNat (0:Nat)).toS=(b.el (↑i:Int).toNat (0:Nat)).toS/\mvAl (a.el (↑i:Int).toNat 1) (b.el (↑i:Int).toNat 1))/\(a.el (↑i:Int).toNat 1).len*(32:Nat)<=(140737488355328:Nat)/\∃ (j:Nat),(j<=a.len/\True)/\a.len+(1:Nat)-j<a.len+(1:Nat)-i/\IntKind.i64.wrap ((↑i:Int)+(1:Int))=(↑j:Int)/\(↑a.len:Int)=(↑a.len:Int)/\a.rows=a.rows/\b.rows=b.rows/\Value.func (Fn.func (20:Nat)) #[] #[]=Value.func (Fn.func (20:Nat)) #[] #[]/\a.rows=a.rows)/\(decide ((↑i:Int)<(↑a.len:Int))=false->true=true))) (by kernel_rfl) ?_
   intro he hk hm
   obtain ⟨hl,hR⟩:=he
   have hz1:a.len<=140737488355328:=by have:=hk;omega
   refine ⟨fun hc=>by rw [hl] at hc;simp at hc,fun _=>⟨⟨0,⟨Nat.zero_le _,trivial⟩,(by (repeat' (with_reducible apply And.intro))<;>first |with_reducible rfl |exact True.intro |assumption |(symm;assumption) |rfl)⟩,fun i hi=>⟨fun hc=>?_,fun _=>rfl⟩⟩⟩
   have hc:=of_decide_eq_true hc
   have hi2:i<a.len:=by omega
   have en:(i:Int).toNat=i:=Int.toNat_natCast i
   have hw:IntKind.i64.wrap ((i:Int)+1)=((i+1:Nat):Int):=by rw [IntWalk.i64_in _ (by omega)];omega
   simp only [en]
   exact ⟨⟨by omega,hc⟩,⟨by omega,by omega⟩,hR i hi2,hm i hi2,i+1,⟨hi2,trivial⟩,by omega,hw,(by (repeat' (with_reducible apply And.intro))<;>first |with_reducible rfl |exact True.intro |assumption |(symm;assumption) |rfl)⟩
  ·trivial
 ·trivial
noncomputable def eqpS:FSpec:=fun ds _=>match ds with
 | [.d a,.d b,.v kf]=>(match isFn 22 kf with |true=>some {val:=.one (.sc (.bool (.lit true))),vc:=[prAls a b,a.len*64<=140737488355328,(∀ i,i<a.len->(a.el i 1).len*16<=140737488355328/\bS (a.el i 2))]} |false=>none)
 |_=>none
noncomputable def eqpC:Con:=con [.sc (.rows 63),.sc (.rows 63),.sc .any] eqpS
theorem eqp_ok:ConOK Tryz.prog 21 eqpC:=by
 refine fn_ob tt_ok mixed Tryz.func21 rfl (fun _ _=>by kernel_rfl) (A:=fun ds=>⟨fun _=>Cons.of [(22,spoC)],fun k=>match k,ds with | 4,[.d a,.d b,.v _]=>some {ι:=Nat,pre:=fun _ i=>i<=a.len/\True,μ:=fun i=>a.len+1-i,st:=fun s i=>famR s [(17,.one (.sc (.int .i64 (.sym ((i:Nat)))))),(16,.one (.sc (.int .i64 (.sym ((a.len:Nat))))))] [0,1,2,15] [] []} |_,_=>none,fun _=>none⟩) (fun _ _=>(cons_cons spo_ok cons_nil)) (by kernel_rfl) ?_
 intro ds fr
 unfold eqpS
 split
 ·rename_i a b kf
  split
  ·rename_i hg
   obtain rfl:=isFn_eq hg
   refine kmp (q:=prAls a b->a.len*(64:Nat)<=(140737488355328:Nat)->(∀ (i:Nat),i<a.len->(a.el i (1:Nat)).len*(16:Nat)<=(140737488355328:Nat)/\bS (a.el i (2:Nat)))->(((↑a.len:Int) != (↑b.len:Int))=true->false=true)/\(((↑a.len:Int) != (↑b.len:Int))=false->(∃ (i:Nat),(i<=a.len/\True)/\(0:Int)=(↑i:Int)/\(↑a.len:Int)=(↑a.len:Int)/\a.rows=a.rows/\b.rows=b.rows/\Value.func (Fn.func (22:Nat)) #[] #[]=Value.func (Fn.func (22:Nat)) #[] #[]/\a.rows=a.rows)/\∀ (i:Nat),i<=a.len/\True->(decide ((↑i:Int)<(↑a.len:Int))=true->((0:Int)<=(↑i:Int)/\(↑i:Int)<(↑a.len:Int))/\((0:Int)<=(↑i:Int)/\(↑i:Int)<(↑b.len:Int))/\((a.el (↑i:Int).toNat (0:Nat)).toS=(b.el (↑i:Int).toNat (0:Nat)).toS/\nsAl (a.el (↑i:Int).toNat 1) (b.el (↑i:Int).toNat 1)/\BR (a.el (↑i:Int).toNat 2) (b.el (↑i:Int).toNat 2))/\(a.el (↑i:Int).toNat 1).len*(16:Nat)<=(140737488355328:Nat)/\bS (a.el (↑i:Int).toNat 2)/\∃ (j:Nat),(j<=a.len/\True)/\a.len+(1:Nat)-j<a.len+(1:Nat)-i/\IntKind.i64.wrap ((↑i:Int)+(1:Int))=(↑j:Int)/\(↑a.len:Int)=(↑a.len:Int)/\a.rows=a.rows/\b.rows=b.rows/\Value.func (Fn.func (22:Nat)) #[] #[]=Value.func (Fn.func (22:Nat)) #[] #[]/\a.rows=a.rows)/\(decide ((↑i:Int)<(↑a.len:Int))=false->true=true))) (by kernel_rfl) ?_
   intro he hk hm
   obtain ⟨hl,hR⟩:=he
   have hz1:a.len<=140737488355328:=by have:=hk;omega
   refine ⟨fun hc=>by rw [hl] at hc;simp at hc,fun _=>⟨⟨0,⟨Nat.zero_le _,trivial⟩,(by (repeat' (with_reducible apply And.intro))<;>first |with_reducible rfl |exact True.intro |assumption |(symm;assumption) |rfl)⟩,fun i hi=>⟨fun hc=>?_,fun _=>rfl⟩⟩⟩
   have hc:=of_decide_eq_true hc
   have hi2:i<a.len:=by omega
   have en:(i:Int).toNat=i:=Int.toNat_natCast i
   have hw:IntKind.i64.wrap ((i:Int)+1)=((i+1:Nat):Int):=by rw [IntWalk.i64_in _ (by omega)];omega
   simp only [en]
   exact ⟨⟨by omega,hc⟩,⟨by omega,by omega⟩,hR i hi2,(hm i hi2).1,(hm i hi2).2,i+1,⟨hi2,trivial⟩,by omega,hw,(by (repeat' (with_reducible apply And.intro))<;>first |with_reducible rfl |exact True.intro |assumption |(symm;assumption) |rfl)⟩
  ·trivial
 ·trivial
noncomputable def samS:FSpec:=fun ds _=>match ds with
 | [.d c,.d u,.d p,.d c2,.d u2,.d p2]=>some {val:=.one (.sc (.bool (.lit true))),vc:=[(chAls c c2/\ruAls u u2/\prAls p p2),SyS c u p]}
 |_=>none
noncomputable def samC:Con:=con [qSy,qSy] samS
theorem sam_ok:ConOK Tryz.prog 8 samC:=by
 refine fn_ob tt_ok mixed Tryz.func8 rfl (fun _ _=>by kernel_rfl) (A:=fun ds=>⟨fun _=>Cons.of [(17,eqcC),(19,equC),(21,eqpC)],fun _=>none,fun _=>none⟩) (fun _ _=>(cons_cons eqc_ok (cons_cons equ_ok (cons_cons eqp_ok cons_nil)))) (by kernel_rfl) ?_
 intro ds fr
 unfold samS
 split
 ·rename_i c u p c2 u2 p2
  refine kmp (q:=chAls c c2/\ruAls u u2/\prAls p p2->SyS c u p->chAls c c2/\c.len*(88:Nat)<=(140737488355328:Nat)/\(∀ (i:Nat),i<c.len->(c.el i (5:Nat)).len*(16:Nat)<=(140737488355328:Nat))/\ruAls u u2/\u.len*(40:Nat)<=(140737488355328:Nat)/\(∀ (i:Nat),i<u.len->(u.el i (1:Nat)).len*(32:Nat)<=(140737488355328:Nat))/\prAls p p2/\p.len*(64:Nat)<=(140737488355328:Nat)/\(∀ (i:Nat),i<p.len->(p.el i (1:Nat)).len*(16:Nat)<=(140737488355328:Nat)/\bS (p.el i (2:Nat)))/\true=true) (by kernel_rfl) ?_
  rintro ⟨h1,h2,h3⟩ hs
  exact ⟨h1,hs.c,hs.ct,h2,hs.r,hs.rm,h3,hs.p,fun i hi=>⟨hs.pv i hi,hs.pb i hi⟩,rfl⟩
 ·trivial
end Go.Proofs.YthpponmbpoaffaaGreatDoor.Sx.Z
namespace Go.Proofs.YthpponmbpoaffaaGreatDoor.Sx.Z
open Go.RowKit
theorem XR_rows {k n:Int} {s:ByteArray} {d:D} {k2 n2:Int} {s2:ByteArray} {d2:D} (h:XR k n s d k2 n2 s2 d2):XR k n s d k2 n2 s2 (.l d2.rows):=by
 cases h with
 |mk h0 h1 h2 h3 h4=>exact .mk h0 h1 h2 h3 h4
theorem BR_rows {a b:D} (h:BR a b):BR a (.l b.rows):=by
 cases h with
 |mk hl hk hn ht he hc hb hs ha hr hq=>exact .mk hl hk hn ht he hc hb hs ha hr hq
theorem rows_len (g:Nat->List D) (n:Nat):(D.l (rowsTo g n)).len=n:=by
 show (rowsTo g n).length=n
 unfold rowsTo
 rw [List.length_map,List.length_range]
theorem rows_el (g:Nat->List D) {n i:Nat} (h:i<n) (j:Nat):(D.l (rowsTo g n)).el i j=(g i).getD j (.i 0):=by
 show ((rowsTo g n).getD i []).getD j (.i 0)=_
 have e:(rowsTo g n)[i]? = some (g i):=by
  unfold rowsTo
  rw [List.getElem?_map,List.getElem?_range h];rfl
 rw [List.getD_eq_getElem?_getD (l:=rowsTo g n),e];rfl
theorem xR_self {k n:Int} {s:ByteArray} {d:D} (h:aX k n s d=true):XR k n s d (xC k n s d).k (xC k n s d).n (xC k n s d).s (xC k n s d).d:=by
 refine ex_ind (P:=fun k n s d=>XR k n s d (xC k n s d).k (xC k n s d).n (xC k n s d).s (xC k n s d).d) ?_ ?_ ?_ ?_ h
 ·intro n s d _
  exact .mk rfl (fun _=>rfl) (fun h=>absurd h (by decide)) (fun h=>absurd h (by decide)) (fun h=>absurd h (by decide))
 ·intro n s d _
  exact .mk rfl (fun h=>absurd h (by decide)) (fun _=>rfl) (fun h=>absurd h (by decide)) (fun h=>absurd h (by decide))
 ·intro n s d hl ih
  rw [xC_3 n s (by omega)]
  refine .mk rfl (fun h=>absurd h (by decide)) (fun h=>absurd h (by decide)) (fun _=>hl) (fun _ i hi=>?_)
  obtain rfl:i=0:=by omega
  exact XR_rows ih
 ·intro k n s d hb hl ih0 ih1
  have hk:=bi_in hb
  rw [xC_4 n s hb (by omega)]
  refine .mk rfl (fun h=>by omega) (fun h=>by omega) (fun _=>hl) (fun _ i hi=>?_)
  have:i=0 ∨ i=1:=by omega
  rcases this with rfl |rfl
  ·exact XR_rows ih0
  ·exact XR_rows ih1
theorem cR_self {op lk ln:Int} {ls:ByteArray} {ld:D} {rk rn:Int} {rs:ByteArray} {rd:D} (h:aC op lk ln ls ld rk rn rs rd=true):op=(cC op lk ln ls ld rk rn rs rd).op/\XR lk ln ls ld (cC op lk ln ls ld rk rn rs rd).l.k (cC op lk ln ls ld rk rn rs rd).l.n (cC op lk ln ls ld rk rn rs rd).l.s (.l (cC op lk ln ls ld rk rn rs rd).l.d.rows)/\XR rk rn rs rd (cC op lk ln ls ld rk rn rs rd).r.k (cC op lk ln ls ld rk rn rs rd).r.n (cC op lk ln ls ld rk rn rs rd).r.s (.l (cC op lk ln ls ld rk rn rs rd).r.d.rows):=by
 have:=aC_two h
 exact ⟨rfl,XR_rows (xR_self this.1),XR_rows (xR_self this.2)⟩
theorem st_self {k:Int} {nm tg:ByteArray} {ek en:Int} {es:ByteArray} {ed:D} {op lk ln:Int} {ls:ByteArray} {ld:D} {rk rn:Int} {rs:ByteArray} {rd bd eb am:D}
 (Hb:bA bd=true->BR bd (bC bd)) (He:bA eb=true->BR eb (bC eb)) (Ha:∀ j,j<am.len->bA (am.el j 2)=true->BR (am.el j 2) (bC (am.el j 2))) (hA:stA k nm tg ek en es ed op lk ln ls ld rk rn rs rd bd eb am=true) {x:St} (hx:x=stC k nm tg ek en es ed op lk ln ls ld rk rn rs rd bd eb am) :
 stAl k nm tg ek en es ed op lk ln ls ld rk rn rs rd bd eb am x.k x.nm x.tg x.e.k x.e.n x.e.s (.l x.e.d.rows) x.c.op x.c.l.k x.c.l.n x.c.l.s (.l x.c.l.d.rows) x.c.r.k x.c.r.n x.c.r.s (.l x.c.r.d.rows) (.l x.b.rows) (.l x.el.rows) (.l x.ar.rows):=by
 have hA:aStF k nm tg (aX ek en es ed) (aC op lk ln ls ld rk rn rs rd) (bA bd) (bA eb) am.len (amsA am)=true:=hA
 subst hx
 rcases stA_k hA with rfl |rfl |rfl |rfl |rfl |rfl |rfl
 ·have hA:(nmB nm&&aX ek en es ed)=true:=hA
  simp only [Bool.and_eq_true] at hA
  exact ⟨rfl,fun _=>rfl,fun h=>absurd h (by decide),fun _=>XR_rows (xR_self hA.2),fun h=>absurd h (by decide),fun h=>absurd h (by decide),fun h=>absurd h (by decide),fun h=>absurd h (by decide)⟩
 ·have hA:(aC op lk ln ls ld rk rn rs rd&&bA bd&&bA eb)=true:=hA
  simp only [Bool.and_eq_true] at hA
  exact ⟨rfl,fun h=>absurd h (by decide),fun h=>absurd h (by decide),fun h=>absurd h (by decide),fun _=>cR_self hA.1.1,fun _=>BR_rows (Hb hA.1.2),fun _=>BR_rows (He hA.2),fun h=>absurd h (by decide)⟩
 ·have hA:(aC op lk ln ls ld rk rn rs rd&&bA bd)=true:=hA
  simp only [Bool.and_eq_true] at hA
  exact ⟨rfl,fun h=>absurd h (by decide),fun h=>absurd h (by decide),fun h=>absurd h (by decide),fun _=>cR_self hA.1,fun _=>BR_rows (Hb hA.2),fun h=>absurd h (by decide),fun h=>absurd h (by decide)⟩
 ·have hA:(nmB nm&&nmB tg&&aX ek en es ed)=true:=hA
  simp only [Bool.and_eq_true] at hA
  exact ⟨rfl,fun _=>rfl,fun _=>rfl,fun _=>XR_rows (xR_self hA.2),fun h=>absurd h (by decide),fun h=>absurd h (by decide),fun h=>absurd h (by decide),fun h=>absurd h (by decide)⟩
 ·have hA:(nmB nm&&decide ((am.len:Int)>0)&&amsA am)=true:=hA
  simp only [Bool.and_eq_true] at hA
  have hq:=allB_iff.1 hA.2
  refine ⟨rfl,fun _=>rfl,fun h=>absurd h (by decide),fun h=>absurd h (by decide),fun h=>absurd h (by decide),fun h=>absurd h (by decide),fun h=>absurd h (by decide),fun _=>⟨(rows_len (arC am) am.len).symm,fun j hj=>?_⟩⟩
  have h1:=hq j hj
  unfold arE at h1
  simp only [Bool.and_eq_true] at h1
  unfold arAl
  show _=((D.l (rowsTo (arC am) am.len)).el j 0).toS/\_=((D.l (rowsTo (arC am) am.len)).el j 1).toS/\BR _ ((D.l (rowsTo (arC am) am.len)).el j 2)
  rw [rows_el _ hj,rows_el _ hj,rows_el _ hj]
  exact ⟨rfl,rfl,BR_rows (Ha j hj h1.2)⟩
 ·have hA:aC op lk ln ls ld rk rn rs rd=true:=hA
  exact ⟨rfl,fun h=>absurd h (by decide),fun h=>absurd h (by decide),fun h=>absurd h (by decide),fun _=>cR_self hA,fun h=>absurd h (by decide),fun h=>absurd h (by decide),fun h=>absurd h (by decide)⟩
 ·exact ⟨rfl,fun _=>rfl,fun h=>absurd h (by decide),fun h=>absurd h (by decide),fun h=>absurd h (by decide),fun h=>absurd h (by decide),fun h=>absurd h (by decide),fun h=>absurd h (by decide)⟩
theorem bR_self:∀ (z:Nat) (d:D),SizeOf.sizeOf d<=z->bA d=true->BR d (bC d):=by
 intro z
 induction z with
 |zero=>intro d hz;cases d<;>simp at hz
 |succ z ih=>
  intro d hz hA
  rw [bA_eq] at hA
  have hA:=allB_iff.1 hA
  rw [bC_eq]
  refine BR_al.2 ⟨(rows_len _ _).symm,fun i hi=>?_⟩
  have kid:∀ j,bA (d.el i j)=true->BR (d.el i j) (bC (d.el i j)):=fun j h=>by
   have:=lel_lt (j:=j) hi
   exact ih _ (by omega) h
  have kid2:∀ j,j<(d.el i 18).len->bA ((d.el i 18).el j 2)=true->BR ((d.el i 18).el j 2) (bC ((d.el i 18).el j 2)):=fun j hj h=>by
   have h1:=lel_lt (j:=18) hi
   have h2:=lel_lt (j:=2) hj
   exact ih _ (by omega) h
  have:=st_self (kid 16) (kid 17) kid2 (hA i hi) rfl
  unfold stAlE
  simp only [rows_el _ hi]
  exact this
theorem ns_self (d:D):nsAl d (.l (nsC d).rows):=⟨(rows_len _ _).symm,fun i hi=>by
 show _=((D.l (rowsTo (nmC d) d.len)).el i 0).toS
 rw [rows_el _ hi];rfl⟩
theorem mv_self (d:D):mvAl d (.l (rowsTo (mvC d) d.len)):=⟨(rows_len _ _).symm,fun i hi=>by
 rw [rows_el _ hi,rows_el _ hi,rows_el _ hi];exact ⟨rfl,rfl,rfl⟩⟩
theorem sy_self {ch ru pr:D} (hA:syB ch ru pr=true):chAls ch (chCd ch)/\ruAls ru (ruCd ru)/\prAls pr (prCd pr):=by
 unfold syB at hA
 simp only [Bool.and_eq_true] at hA
 have h3:=allB_iff.1 hA.2.2
 refine ⟨⟨(rows_len _ _).symm,fun i hi=>?_⟩,⟨(rows_len _ _).symm,fun i hi=>?_⟩,⟨(rows_len _ _).symm,fun i hi=>?_⟩⟩
 ·unfold chAl chCd
  simp only [rows_el _ hi]
  exact ⟨rfl,rfl,rfl,rfl,rfl,ns_self _⟩
 ·unfold ruAl ruCd
  simp only [rows_el _ hi]
  exact ⟨rfl,mv_self _⟩
 ·have hx:=h3 i hi
  unfold prE at hx
  simp only [Bool.and_eq_true] at hx
  unfold prAl prCd
  simp only [rows_el _ hi]
  exact ⟨rfl,ns_self _,BR_rows (bR_self _ _ (Nat.le_refl _) hx.2)⟩
end Go.Proofs.YthpponmbpoaffaaGreatDoor.Sx.Z
namespace Go.Proofs.YthpponmbpoaffaaGreatDoor.Sx.Z
open Go.RowKit
theorem allB_get {n:Nat} {f:Nat->Bool} (h:allB n f=true) {i:Nat} (hi:i<n):f i=true:=by
 unfold allB at h
 exact List.all_eq_true.1 h i (List.mem_range.2 hi)
theorem nm_sz {s:ByteArray} (h:nmB s=true):sz s:=by
 unfold nmB at h
 simp only [Bool.and_eq_true,Bool.not_eq_true',decide_eq_false_iff_not] at h
 have:=h.1
 unfold sz
 omega
theorem nu_nI {n:Int} (h:nuB n=true):nI n:=by
 unfold nuB at h
 simp only [Bool.and_eq_true,decide_eq_true_eq] at h
 exact ⟨by omega,by omega⟩
theorem xF_ofs {k n:Int} {s:ByteArray} {d:D} (ih:∀ j,j<d.len->aE d j=true->kF d j) (h:aX k n s d=true):xF k n s d:=by
 refine ⟨fun e=>?_,fun e=>?_,fun e=>?_,fun e=>?_⟩
 ·subst e
  exact nu_nI h
 ·subst e
  exact nm_sz h
 ·have:=(aX_kids h).1 e
  exact ⟨this.1,ih 0 (by omega) this.2⟩
 ·have:=(aX_kids h).2 e
  exact ⟨this.1,ih 0 (by omega) this.2.1,ih 1 (by omega) this.2.2⟩
theorem kF_all:∀ (m:Nat) (d:D),SizeOf.sizeOf d<=m->∀ i,i<d.len->aE d i=true->kF d i:=by
 intro m
 induction m with
 |zero=>
  intro d h i hi
  have:=lel_lt (j:=3) hi
  omega
 |succ m ih=>
  intro d h i hi ha
  have:=lel_lt (j:=3) hi
  rw [kF_eq hi]
  rw [aE_eq hi] at ha
  exact xF_ofs (fun j hj h2=>ih _ (by omega) j hj h2) ha
theorem xF_of {k n:Int} {s:ByteArray} {d:D} (h:aX k n s d=true):xF k n s d:=xF_ofs (fun j hj h2=>kF_all _ d (Nat.le_refl _) j hj h2) h
theorem cF_of {op lk ln rk rn:Int} {ls rs:ByteArray} {ld rd:D} (h:aC op lk ln ls ld rk rn rs rd=true):cF lk ln ls ld rk rn rs rd:=⟨xF_of (aC_two h).1,xF_of (aC_two h).2⟩
theorem and3 {a b c:Bool} (h:(a&&b&&c)=true):a=true/\b=true/\c=true:=by
 simp only [Bool.and_eq_true] at h
 exact ⟨h.1.1,h.1.2,h.2⟩
theorem stFF_of {k:Int} {nm tg:ByteArray} {e c b el a:Bool} {al:Int} {E C B EL A:Prop} (h:aStF k nm tg e c b el al a=true) (he:e=true->E) (hc:c=true->C) (hb:b=true->B) (hl:el=true->EL) (ha:a=true->A):stFF k nm tg E C B EL A:=by
 refine ⟨fun q=>?_,fun q=>?_,fun q=>?_,fun q=>?_,fun q=>?_,fun q=>?_,fun q=>?_⟩<;>subst q
 ·have h:(nmB nm&&e)=true:=h
  simp only [Bool.and_eq_true] at h
  exact ⟨nm_sz h.1,he h.2⟩
 ·obtain ⟨x,y,z⟩:=and3 (show (c&&b&&el)=true from h)
  exact ⟨hc x,hb y,hl z⟩
 ·have h:(c&&b)=true:=h
  simp only [Bool.and_eq_true] at h
  exact ⟨hc h.1,hb h.2⟩
 ·obtain ⟨x,y,z⟩:=and3 (show (nmB nm&&nmB tg&&e)=true from h)
  exact ⟨nm_sz x,nm_sz y,he z⟩
 ·obtain ⟨x,_,z⟩:=and3 (show (nmB nm&&decide (al>0)&&a)=true from h)
  exact ⟨nm_sz x,ha z⟩
 ·exact hc h
 ·exact nm_sz h
theorem bF_all:∀ (m:Nat) (d:D),SizeOf.sizeOf d<=m->bA d=true->sOK d->bF d:=by
 intro m
 induction m with
 |zero=>
  intro d h ha hs
  rw [bF_iff]
  refine ⟨((sOK_iff d).1 hs).1,fun i hi=>?_⟩
  have:=lel_lt (j:=3) hi
  omega
 |succ m ih=>
  intro d h ha hs
  rw [bF_iff]
  obtain ⟨h1,h2⟩:=(sOK_iff d).1 hs
  refine ⟨h1,fun i hi=>?_⟩
  obtain ⟨s1,s2,s3,s4⟩:=h2 i hi
  have l1:=lel_lt (j:=16) hi
  have l2:=lel_lt (j:=17) hi
  have l3:=lel_lt (j:=18) hi
  rw [bA_eq] at ha
  have hE:stE d i=true:=allB_get ha hi
  refine stFF_of hE (fun h=>xF_of h) (fun h=>cF_of h) (fun h=>ih _ (by omega) h s1) (fun h=>ih _ (by omega) h s2) (fun h=>⟨s3,fun j hj=>?_⟩)
  have hj2:arE (d.el i 18) j=true:=allB_get h hj
  obtain ⟨x,y,z⟩:=and3 hj2
  have l4:=lel_lt (j:=2) hj
  exact ⟨nm_sz x,nm_sz y,ih _ (by omega) z (s4 j hj)⟩
theorem bF_of {d:D} (h:bA d=true) (hs:sOK d):bF d:=bF_all _ d (Nat.le_refl _) h hs
theorem cpTo_elJ {n i j:Nat} {f:Nat->List D} (h:i<n):(cpTo n f).el i j=(f i).getD j (.i 0):=by
 show (((List.range n).map f).getD i []).getD j (.i 0)=_
 rw [List.getD_eq_getElem?_getD (l:=(List.range n).map f),List.getElem?_map,List.getElem?_range h];rfl
theorem wsL_wsR (l:List ByteArray):wsL (wsR l) (wsR l).len=l:=by
 rw [wsR_len]
 unfold wsL
 apply List.ext_getElem
 ·rw [List.length_map,List.length_range]
 ·intro i h1 h2
  rw [List.getElem_map,List.getElem_range,wsR_el h2]
theorem cat_wsRJ {l:List ByteArray} (h:l.length<=2001):cat (.l []) l=wsR l:=by
 unfold cat wsR
 show D.l (([]++l.map sR).take 2001)=_
 rw [List.nil_append,List.take_of_length_le (by rw [List.length_map];exact h)]
theorem kS_cpA:∀ (m:Nat) (d:D),SizeOf.sizeOf d<=m->kS d->kS (cpE d):=by
 intro m
 induction m with
 |zero=>intro d hz;cases d<;>simp at hz
 |succ m ih=>
  intro d h hs
  obtain ⟨h1,h2⟩:=(kS_iff d).1 hs
  rw [kS_iff,cpE_eq,cpTo_len]
  refine ⟨h1,fun i hi=>?_⟩
  have l:=lel_lt (j:=3) hi
  rw [cpTo_elJ hi]
  exact ih (d.el i 3) (by omega) (h2 i hi)
theorem kS_cp {d:D} (h:kS d):kS (cpE d):=kS_cpA _ d (Nat.le_refl _) h
theorem bS_cpA:∀ (m:Nat) (d:D),SizeOf.sizeOf d<=m->bS d->bS (cpB d):=by
 intro m
 induction m with
 |zero=>intro d hz;cases d<;>simp at hz
 |succ m ih=>
  intro d h hs
  obtain ⟨h1,h2⟩:=(bS_iff d).1 hs
  rw [bS_iff,cpB_eq,cpTo_len]
  refine ⟨h1,fun i hi=>?_⟩
  obtain ⟨k1,k2,k3,b1,b2,am,ab⟩:=h2 i hi
  have l1:=lel_lt (j:=16) hi
  have l2:=lel_lt (j:=17) hi
  have l3:=lel_lt (j:=18) hi
  simp only [cpTo_elJ hi]
  refine ⟨kS_cp k1,kS_cp k2,kS_cp k3,ih (d.el i 16) (by omega) b1,ih (d.el i 17) (by omega) b2,?_⟩
  show (cpTo (d.el i 18).len (arR (d.el i 18))).len*56<=140737488355328/\∀ j,j<(cpTo (d.el i 18).len (arR (d.el i 18))).len->bS ((cpTo (d.el i 18).len (arR (d.el i 18))).el j 2)
  rw [cpTo_len]
  refine ⟨am,fun j hj=>?_⟩
  have l4:=lel_lt (j:=2) hj
  rw [cpTo_elJ hj]
  exact ih ((d.el i 18).el j 2) (by omega) (ab j hj)
theorem bS_cp {d:D} (h:bS d):bS (cpB d):=bS_cpA _ d (Nat.le_refl _) h
theorem SyS_cp {c u p:D} (h:SyS c u p):SyS (cpC c) (cpU u) (cpP p):=by
 refine ⟨?_,fun i hi=>?_,?_,fun i hi=>?_,?_,fun i hi=>?_,fun i hi=>?_⟩
 ·show (cpTo c.len (chRq c)).len*88<=_
  rw [cpTo_len];exact h.c
 ·have hi:i<c.len:=by rw [<- cpTo_len c.len (chRq c)];exact hi
  show ((cpTo c.len (chRq c)).el i 5).len*16<=_
  rw [cpTo_elJ hi];exact h.ct i hi
 ·show (cpTo u.len (ruRq u)).len*40<=_
  rw [cpTo_len];exact h.r
 ·have hi:i<u.len:=by rw [<- cpTo_len u.len (ruRq u)];exact hi
  show ((cpTo u.len (ruRq u)).el i 1).len*32<=_
  rw [cpTo_elJ hi]
  show (cpTo (u.el i 1).len (mvR (u.el i 1))).len*32<=_
  rw [cpTo_len];exact h.rm i hi
 ·show (cpTo p.len (prR p)).len*64<=_
  rw [cpTo_len];exact h.p
 ·have hi:i<p.len:=by rw [<- cpTo_len p.len (prR p)];exact hi
  show ((cpTo p.len (prR p)).el i 1).len*16<=_
  rw [cpTo_elJ hi];exact h.pv i hi
 ·have hi:i<p.len:=by rw [<- cpTo_len p.len (prR p)];exact hi
  show bS ((cpTo p.len (prR p)).el i 2)
  rw [cpTo_elJ hi];exact bS_cp (h.pb i hi)
theorem sOK_ofA:∀ (m:Nat) (d:D),SizeOf.sizeOf d<=m->bS d->sOK d:=by
 intro m
 induction m with
 |zero=>intro d hz;cases d<;>simp at hz
 |succ m ih=>
  intro d h hs
  obtain ⟨h1,h2⟩:=(bS_iff d).1 hs
  rw [sOK_iff]
  refine ⟨by omega,fun i hi=>?_⟩
  obtain ⟨_,_,_,b1,b2,am,ab⟩:=h2 i hi
  have l1:=lel_lt (j:=16) hi
  have l2:=lel_lt (j:=17) hi
  have l3:=lel_lt (j:=18) hi
  refine ⟨ih (d.el i 16) (by omega) b1,ih (d.el i 17) (by omega) b2,by omega,fun j hj=>?_⟩
  have l4:=lel_lt (j:=2) hj
  exact ih ((d.el i 18).el j 2) (by omega) (ab j hj)
theorem SyOK_of {c u p:D} (h:SyS c u p):SyOK c u p:=
 ⟨by have:=h.c;omega,fun i hi=>by have:=h.ct i hi;omega,by have:=h.r;omega,fun i hi=>by have:=h.rm i hi;omega,by have:=h.p;omega,fun i hi=>by have:=h.pv i hi;omega,fun i hi=>sOK_ofA _ _ (Nat.le_refl _) (h.pb i hi)⟩
theorem SyF_of {c u p:D} (h:SyOK c u p) (hA:syB c u p=true):SyF c u p:=by
 unfold syB at hA
 simp only [Bool.and_eq_true] at hA
 have h1:=allB_iff.1 hA.1
 have h2:=allB_iff.1 hA.2.1
 have h3:=allB_iff.1 hA.2.2
 refine ⟨fun i hi=>?_,fun i hi=>?_,fun i hi=>?_⟩
 ·have hx:=h1 i hi
  unfold chE chB at hx
  simp only [Bool.and_eq_true,decide_eq_true_eq] at hx
  obtain ⟨⟨⟨⟨⟨⟨⟨x1,x2⟩,x3⟩,x4⟩,x5⟩,x6⟩,x7⟩,x8⟩:=hx
  exact ⟨nm_sz x1,nu_nI x4,nm_sz x5,nm_sz x6,h.ct i hi,fun j hj=>nm_sz (allB_get x8 hj)⟩
 ·have hx:=h2 i hi
  unfold ruE ruB at hx
  simp only [Bool.and_eq_true] at hx
  refine ⟨nm_sz hx.2,h.rm i hi,fun j hj=>?_⟩
  have hy:=allB_get hx.1 hj
  unfold mvE at hy
  simp only [Bool.and_eq_true] at hy
  exact ⟨nu_nI hy.1.1,nm_sz hy.1.2,nu_nI hy.2⟩
 ·have hx:=h3 i hi
  unfold prE at hx
  simp only [Bool.and_eq_true] at hx
  exact ⟨nm_sz hx.1.1,h.pv i hi,fun j hj=>nm_sz (allB_get hx.1.2 hj),bF_of hx.2 (h.pb i hi)⟩
theorem wdE_0 {c u p:D} (h:wdE c u p=0):syB c u p=true/\syN p=true/\(syW c u p).length<=2000/\wdA c u p=wsR (syW c u p):=by
 cases h1:syB c u p with
 |false=>rw [wd5 h1] at h;cases h
 |true=>
  cases h2:syN p with
  |false=>rw [wd6 h1 h2] at h;cases h
  |true=>
   by_cases h3:((wdD c u p).len:Int)>2000
   ·rw [wd4 h1 h2 h3] at h;cases h
   ·have hl:(syW c u p).length<=2000:=by
     have:(wdD c u p).len=min 2001 (0+(syW c u p).length):=cat_len _ _
     omega
    refine ⟨rfl,rfl,hl,?_⟩
    unfold wdA
    rw [if_pos h]
    exact cat_wsRJ (by omega)
theorem jn_blank:∀ l:List ByteArray,jn (l.map fun w=>(w,[32]))=txB l
 | []=>rfl
 |w::l=>by
  show w.data.toList++([32]++jn (l.map fun w=>(w,[32])))=_
  rw [jn_blank l]
  unfold txB
  rw [List.map_cons,List.flatten_cons,List.append_assoc]
theorem txS_0 {c u p:D} (h:wdE c u p=0):(txS c u p).data.toList=jn ((syW c u p).map fun w=>(w,[32])):=by
 obtain ⟨h1,h2,h3,h4⟩:=wdE_0 h
 unfold txS
 rw [if_pos h,h4,wsL_wsR,jn_blank]
theorem jn_len:∀ (l:List (ByteArray × List UInt8)),(∀ x∈l,wOk x.1/\x.2.length<=1)->(jn l).length<=l.length*31
 | [],_=>Nat.le_refl 0
 |x::l,h=>by
  have h1:=h x (List.mem_cons_self ..)
  have:=jn_len l fun y hy=>h y (List.mem_cons_of_mem _ hy)
  have hx:=h1.1.len
  show (x.1.data.toList++(x.2++jn l)).length<=_
  rw [List.length_append,List.length_append,List.length_cons]
  omega
theorem txS_len {c u p:D} (h:wdE c u p=0):(txS c u p).size<=62000:=by
 obtain ⟨h1,h2,h3,h4⟩:=wdE_0 h
 have hw:=syW_al h1
 have:=jn_len ((syW c u p).map fun w=>(w,[32])) (fun x hx=>by
  obtain ⟨w,w1,rfl⟩:=List.mem_map.1 hx
  exact ⟨hw w w1,Nat.le_refl 1⟩)
 rw [<- txS_0 h,List.length_map] at this
 have e:(txS c u p).data.toList.length=(txS c u p).size:=rfl
 omega
theorem txS_rd {c u p:D} (h:wdE c u p=0):paC (txS c u p)=chCd c/\paU (txS c u p)=ruCd u/\paP (txS c u p)=prCd p/\paA (txS c u p)=0/\paE (txS c u p)=0:=by
 obtain ⟨h1,h2,h3,h4⟩:=wdE_0 h
 have hw:=syW_al h1
 obtain ⟨e1,e2,e3,e4,e5⟩:=parse_eq (txS c u p)
 rw [e1,e2,e3,e4,e5]
 refine text_rd (txS_0 h) (fit_gaps _ fun x hx=>?_) (by rw [List.length_map];exact h3) h1 h2 (by rw [List.map_map];exact List.map_id _)
 obtain ⟨w,w1,rfl⟩:=List.mem_map.1 hx
 exact ⟨hw w w1,fun b hb=>by rw [List.mem_singleton.1 hb];decide,by simp⟩
theorem wA_el {c u p:D} (h:wdE c u p=0) {i:Nat} (hi:i<(wdA c u p).len):((wdA c u p).el i 0).toS∈syW c u p:=by
 obtain ⟨h1,h2,h3,h4⟩:=wdE_0 h
 rw [h4] at hi ⊢
 rw [wsR_len] at hi
 rw [wsR_el hi]
 exact List.getElem_mem hi
theorem wA_sz {c u p:D} {i:Nat} (hi:i<(wdA c u p).len):((wdA c u p).el i 0).toS.size<=30:=by
 by_cases h:wdE c u p=0
 ·exact (syW_al (wdE_0 h).1 _ (wA_el h hi)).len
 ·unfold wdA at hi
  rw [if_neg h] at hi
  exact absurd hi (Nat.not_lt_zero i)
end Go.Proofs.YthpponmbpoaffaaGreatDoor.Sx.Z
namespace Go.Proofs.YthpponmbpoaffaaGreatDoor.Sx.Z
open Go.RowKit
def wyB (s:ByteArray):Bool:=alnU (s.data.toList.headD 0)
def gpB (l:D) (i:Nat):Bool:=decide (0<i)&&((wyB (l.el (i-1) 0).toS&&wyB (l.el i 0).toS) ||(l.el i 0).toS.toList==[61] ||(l.el i 0).toS.toList==[61,61])
def tgt (l:D):Nat->ByteArray
 | 0=>ByteArray.empty
 |i+1=>(if gpB l i=true then tgt l i++⟨#[10]⟩ else tgt l i)++(l.el i 0).toS
def tls (l:D) (n:Nat):List (List UInt8 × ByteArray):=(List.range n).map fun i=>(if gpB l i=true then [10] else [],(l.el i 0).toS)
theorem tls_succ (l:D) (n:Nat):tls l (n+1)=tls l n++[(if gpB l n=true then [10] else [],(l.el n 0).toS)]:=by
 unfold tls
 rw [List.range_succ,List.map_append];rfl
theorem tls_len (l:D) (n:Nat):(tls l n).length=n:=by unfold tls;rw [List.length_map,List.length_range]
theorem tls_get (l:D) (n:Nat) {i:Nat} (h:i<(tls l n).length):(tls l n)[i]=(if gpB l i=true then [10] else [],(l.el i 0).toS):=by
 have hi:i<n:=by rw [tls_len] at h;exact h
 have e:(tls l n)[i]? = some (if gpB l i=true then [10] else [],(l.el i 0).toS):=by
  unfold tls
  rw [List.getElem?_map,List.getElem?_range hi];rfl
 exact Option.some.inj ((List.getElem?_eq_getElem h).symm.trans e)
theorem tgt_jp (l:D):∀ n,(tgt l n).data.toList=jp (tls l n)
 | 0=>rfl
 |n+1=>by
  rw [tls_succ,jp_app,<- tgt_jp l n,tgt]
  show _=_++((if gpB l n=true then [10] else [])++((l.el n 0).toS.data.toList++[]))
  rw [ByteArray.data_append,Array.toList_append,List.append_nil]
  split
  ·rw [ByteArray.data_append,Array.toList_append,List.append_assoc]
  ·rw [List.nil_append]
theorem tgt_sz {l:D} (h:∀ i,i<l.len->(l.el i 0).toS.size<=30):∀ n,n<=l.len->(tgt l n).size<=n*31
 | 0,_=>Nat.le_refl 0
 |n+1,hn=>by
  have h1:=tgt_sz h n (by omega)
  have h2:=h n (by omega)
  rw [tgt,ByteArray.size_append]
  split
  ·rw [ByteArray.size_append,show (ByteArray.mk #[10]).size=1 from rfl];omega
  ·omega
theorem tls_fit {l:D} {n:Nat} (h:∀ i,i<n->wOk (l.el i 0).toS):fitp (tls l n):=by
 refine fitp_of _ (fun x hx=>?_) (fun i hi=>?_)
 ·unfold tls at hx
  obtain ⟨i,h1,rfl⟩:=List.mem_map.1 hx
  refine ⟨h i (List.mem_range.1 h1),fun b hb=>?_⟩
  have hb:b∈(if gpB l i=true then [10] else []:List UInt8):=hb
  split at hb
  ·rw [List.mem_singleton.1 hb];decide
  ·cases hb
 ·rw [tls_get,tls_get]
  rw [tls_len] at hi
  show BdN (l.el i 0).toS (l.el (i+1) 0).toS (if gpB l (i+1)=true then [10] else [])
  cases hg:gpB l (i+1) with
  |true=>exact .inl (by simp)
  |false=>
   right
   unfold gpB at hg
   rw [decide_eq_true (show 0<i+1 by omega),Bool.true_and] at hg
   simp only [Bool.or_eq_false_iff,Nat.add_sub_cancel] at hg
   obtain ⟨⟨g1,g2⟩,g3⟩:=hg
   split
   ·rename_i ha
    have:wyB (l.el i 0).toS=true:=ha
    rw [this,Bool.true_and] at g1
    exact g1
   ·intro h61
    rw [ByteArray.toList_eq] at g2 g3
    rcases wOk_eq (h (i+1) hi) h61 with e |e
    ·rw [e] at g2;exact absurd g2 (by decide)
    ·rw [e] at g3;exact absurd g3 (by decide)
theorem tgt_rd {c u p:D} (h:wdE c u p=0):paC (tgt (wdA c u p) (wdA c u p).len)=chCd c/\paU (tgt (wdA c u p) (wdA c u p).len)=ruCd u/\paP (tgt (wdA c u p) (wdA c u p).len)=prCd p/\paE (tgt (wdA c u p) (wdA c u p).len)=0:=by
 obtain ⟨h1,h2,h3,h4⟩:=wdE_0 h
 have hw:=syW_al h1
 have hl:(wdA c u p).len=(syW c u p).length:=by rw [h4,wsR_len]
 obtain ⟨ts,t1,t2⟩:=lexR_jp (tgt_jp (wdA c u p) (wdA c u p).len) (tls_fit fun i hi=>hw _ (wA_el h hi)) (by rw [tls_len];omega)
 have e:(tls (wdA c u p) (wdA c u p).len).map Prod.snd=syW c u p:=by
  unfold tls
  rw [List.map_map,h4]
  exact wsL_wsR (syW c u p)
 rw [e] at t2
 obtain ⟨r1,r2,r3,_,r5⟩:=toks_rd t1 t2 h3 h1 h2
 obtain ⟨e1,e2,e3,_,e5⟩:=parse_eq (tgt (wdA c u p) (wdA c u p).len)
 exact ⟨e1.trans r1,e2.trans r2,e3.trans r3,e5.trans r5⟩
noncomputable def wdyS:FSpec:=fun ds _=>match ds with
 | [.s s]=>some {val:=.one (.sc (.bool (.sym (wyB s)))),vc:=[]}
 |_=>none
noncomputable def wdyC:Con:=con [.sc .str] wdyS
theorem wdy_ok:ConOK Tryz.prog 10 wdyC:=by
 refine fn_ob tt_ok mixed Tryz.func10 rfl (fun _ _=>by kernel_rfl) (A:=fun ds=>⟨fun _=>Cons.of [],fun _=>none,fun _=>none⟩) (fun _ _=>cons_nil) (by kernel_rfl) ?_
 intro ds fr
 unfold wdyS
 split
 ·rename_i s
  refine kmp (q:=((!s.toList==(ByteArray.mk #[]).toList)=true/\True->(0:Int)<=(0:Int)/\(0:Int)<(↑s.size:Int))/\(decide ((↑(s[Int.toNat (0:Int)]?.getD (0:UInt8)).toNat:Int)>=(97:Int))=true/\(!s.toList==(ByteArray.mk #[]).toList)=true/\True->(0:Int)<=(0:Int)/\(0:Int)<(↑s.size:Int))/\((decide ((↑(s[Int.toNat (0:Int)]?.getD (0:UInt8)).toNat:Int)>=(97:Int))&&decide ((↑(s[Int.toNat (0:Int)]?.getD (0:UInt8)).toNat:Int)<=(122:Int)))=false/\(!s.toList==(ByteArray.mk #[]).toList)=true/\True->(0:Int)<=(0:Int)/\(0:Int)<(↑s.size:Int))/\(decide ((↑(s[Int.toNat (0:Int)]?.getD (0:UInt8)).toNat:Int)>=(48:Int))=true/\(decide ((↑(s[Int.toNat (0:Int)]?.getD (0:UInt8)).toNat:Int)>=(97:Int))&&decide ((↑(s[Int.toNat (0:Int)]?.getD (0:UInt8)).toNat:Int)<=(122:Int)))=false/\(!s.toList==(ByteArray.mk #[]).toList)=true/\True->(0:Int)<=(0:Int)/\(0:Int)<(↑s.size:Int))/\(!s.toList==(ByteArray.mk #[]).toList&&(decide ((↑(s[Int.toNat (0:Int)]?.getD (0:UInt8)).toNat:Int)>=(97:Int))&&decide ((↑(s[Int.toNat (0:Int)]?.getD (0:UInt8)).toNat:Int)<=(122:Int)) ||decide ((↑(s[Int.toNat (0:Int)]?.getD (0:UInt8)).toNat:Int)>=(48:Int))&&decide ((↑(s[Int.toNat (0:Int)]?.getD (0:UInt8)).toNat:Int)<=(57:Int))))=wyB s) (by kernel_rfl) ?_
  have hh:s[Int.toNat 0]?.getD 0=s.data.toList.headD 0:=by
   show s[0]?.getD 0=_
   by_cases h0:0<s.size
   ·rw [getElem?_pos s 0 h0,Option.getD_some,<- getD_eq s 0 h0]
    cases s.data.toList<;>rfl
   ·have e:s.data.toList=[]:=List.length_eq_zero_iff.1 (by have:s.data.toList.length=s.size:=rfl;omega)
    rw [getElem?_neg s 0 h0,e];rfl
  have hz:(s.toList==ByteArray.toList ⟨#[]⟩)=decide (s.size=0):=by
   rw [ByteArray.toList_eq]
   have:s.data.toList.length=s.size:=rfl
   cases hl:s.data.toList with
   |nil=>rw [hl] at this;rw [decide_eq_true (show s.size=0 from this.symm),ByteArray.toList_eq];rfl
   |cons a l=>rw [hl] at this;rw [decide_eq_false (by simp at this;omega),ByteArray.toList_eq];rfl
  have hp:(!s.toList==ByteArray.toList ⟨#[]⟩)=true->(0:Int)<=0/\(0:Int)<(s.size:Int):=fun h=>by
   rw [hz] at h
   have h:s.size≠0:=by simpa using h
   exact ⟨Int.le_refl _,by omega⟩
  refine ⟨fun h=>hp h.1,fun h=>hp h.2.1,fun h=>hp h.2.1,fun h=>hp h.2.2.1,?_⟩
  rw [hz,hh]
  by_cases h0:s.size=0
  ·have e:s.data.toList=[]:=List.length_eq_zero_iff.1 h0
   unfold wyB
   rw [decide_eq_true h0,e];rfl
  ·rw [decide_eq_false h0];rfl
 ·trivial
noncomputable def ptxS:FSpec:=fun ds _=>match ds with
 | [.d c,.d u,.d p]=>some {val:=.one (.sc (.bool (.lit true))),vc:=[SyS c u p]}
 |_=>none
noncomputable def ptxC:Con:=con [lSyr] ptxS
theorem ptx_ok:ConOK Tryz.prog 3 ptxC:=by
 refine fn_ob tt_ok mixed Tryz.func3 rfl (fun _ _=>by kernel_rfl) (A:=fun ds=>⟨fun _=>Cons.of [(4,ycpC),(5,txC),(6,prsC),(7,parC),(8,samC),(9,wrdC),(10,wdyC)],fun k=>match k,ds with | 11,[.d c,.d u,.d p]=>some {ι:=Nat,pre:=fun _ i=>i<=(wdA (cpC c) (cpU u) (cpP p)).len/\True,μ:=fun i=>(wdA (cpC c) (cpU u) (cpP p)).len+1-i,st:=fun s i=>famR s [(12,.one (.sc (.int .i64 (.sym ((i:Nat)))))),(11,.one (.sc (.raw (.string (tgt (wdA (cpC c) (cpU u) (cpP p)) i)))))] [3,9] [] [3]} |_,_=>none,fun _=>none⟩) (fun _ _=>(cons_cons ycp_ok (cons_cons tx_ok (cons_cons prs_ok (cons_cons par_ok (cons_cons sam_ok (cons_cons wrd_ok (cons_cons wdy_ok cons_nil)))))))) (by kernel_rfl) ?_
 intro ds fr
 unfold ptxS
 split
 ·rename_i c u p
  refine kmp (q:=SyS c u p->SyS c u p/\SyOK (cpC c) (cpU u) (cpP p)/\(syB (cpC c) (cpU u) (cpP p)=true->syN (cpP p)=true->SyF (cpC c) (cpU u) (cpP p))/\(∀ (i:Nat),i<(wdA (cpC c) (cpU u) (cpP p)).len->((wdA (cpC c) (cpU u) (cpP p)).el i (0:Nat)).toS.size<=(1000000000:Nat))/\((!true ||wdE (cpC c) (cpU u) (cpP p) != (0:Int))=true->true=true)/\((!true ||wdE (cpC c) (cpU u) (cpP p) != (0:Int))=false->(txS (cpC c) (cpU u) (cpP p)).size<=(140737488351232:Nat)/\((paE (txS (cpC c) (cpU u) (cpP p)) != (0:Int) ||paA (txS (cpC c) (cpU u) (cpP p)) != (0:Int))=false/\True->(0:Nat)+(paC (txS (cpC c) (cpU u) (cpP p))).len<=(paC (txS (cpC c) (cpU u) (cpP p))).len)/\((paE (txS (cpC c) (cpU u) (cpP p)) != (0:Int) ||paA (txS (cpC c) (cpU u) (cpP p)) != (0:Int))=false/\True->(0:Nat)+(paU (txS (cpC c) (cpU u) (cpP p))).len<=(paU (txS (cpC c) (cpU u) (cpP p))).len)/\((paE (txS (cpC c) (cpU u) (cpP p)) != (0:Int) ||paA (txS (cpC c) (cpU u) (cpP p)) != (0:Int))=false/\True->(0:Nat)+(paP (txS (cpC c) (cpU u) (cpP p))).len<=(paP (txS (cpC c) (cpU u) (cpP p))).len)/\((paE (txS (cpC c) (cpU u) (cpP p)) != (0:Int) ||paA (txS (cpC c) (cpU u) (cpP p)) != (0:Int))=false/\True->chAls (cpC c) ((paC (txS (cpC c) (cpU u) (cpP p))).sub ((0:Nat)) ((0:Nat)+(paC (txS (cpC c) (cpU u) (cpP p))).len))/\ruAls (cpU u) ((paU (txS (cpC c) (cpU u) (cpP p))).sub ((0:Nat)) ((0:Nat)+(paU (txS (cpC c) (cpU u) (cpP p))).len))/\prAls (cpP p) ((paP (txS (cpC c) (cpU u) (cpP p))).sub ((0:Nat)) ((0:Nat)+(paP (txS (cpC c) (cpU u) (cpP p))).len)))/\((paE (txS (cpC c) (cpU u) (cpP p)) != (0:Int) ||paA (txS (cpC c) (cpU u) (cpP p)) != (0:Int))=false/\True->SyS (cpC c) (cpU u) (cpP p))/\((paE (txS (cpC c) (cpU u) (cpP p)) != (0:Int) ||paA (txS (cpC c) (cpU u) (cpP p)) != (0:Int) || !true)=true->false=true)/\((paE (txS (cpC c) (cpU u) (cpP p)) != (0:Int) ||paA (txS (cpC c) (cpU u) (cpP p)) != (0:Int) || !true)=false->SyOK (cpC c) (cpU u) (cpP p)/\(syB (cpC c) (cpU u) (cpP p)=true->syN (cpP p)=true->SyF (cpC c) (cpU u) (cpP p))/\(∃ (i:Nat),(i<=(wdA (cpC c) (cpU u) (cpP p)).len/\True)/\(0:Int)=(↑i:Int)/\Value.string (ByteArray.mk #[])=Value.string (tgt (wdA (cpC c) (cpU u) (cpP p)) i)/\(wdA (cpC c) (cpU u) (cpP p)).rows=(wdA (cpC c) (cpU u) (cpP p)).rows/\List.map (chRq c) (List.range c.len)=List.map (chRq c) (List.range c.len)/\List.map (ruRq u) (List.range u.len)=List.map (ruRq u) (List.range u.len)/\List.map (prR p) (List.range p.len)=List.map (prR p) (List.range p.len))/\∀ (i:Nat),i<=(wdA (cpC c) (cpU u) (cpP p)).len/\True->(decide ((↑i:Int)<(↑(wdA (cpC c) (cpU u) (cpP p)).len:Int))=true->(decide ((↑i:Int)>(0:Int))=true/\True->(0:Int)<=IntKind.i64.wrap ((↑i:Int)-(1:Int))/\IntKind.i64.wrap ((↑i:Int)-(1:Int))<(↑(wdA (cpC c) (cpU u) (cpP p)).len:Int))/\(wyB ((wdA (cpC c) (cpU u) (cpP p)).el (IntKind.i64.wrap ((↑i:Int)-(1:Int))).toNat (0:Nat)).toS=true/\decide ((↑i:Int)>(0:Int))=true/\True->(0:Int)<=(↑i:Int)/\(↑i:Int)<(↑(wdA (cpC c) (cpU u) (cpP p)).len:Int))/\((wyB ((wdA (cpC c) (cpU u) (cpP p)).el (IntKind.i64.wrap ((↑i:Int)-(1:Int))).toNat (0:Nat)).toS&&wyB ((wdA (cpC c) (cpU u) (cpP p)).el (↑i:Int).toNat (0:Nat)).toS)=false/\decide ((↑i:Int)>(0:Int))=true/\True->(0:Int)<=(↑i:Int)/\(↑i:Int)<(↑(wdA (cpC c) (cpU u) (cpP p)).len:Int))/\((wyB ((wdA (cpC c) (cpU u) (cpP p)).el (IntKind.i64.wrap ((↑i:Int)-(1:Int))).toNat (0:Nat)).toS&&wyB ((wdA (cpC c) (cpU u) (cpP p)).el (↑i:Int).toNat (0:Nat)).toS ||((wdA (cpC c) (cpU u) (cpP p)).el (↑i:Int).toNat (0:Nat)).toS.toList==(ByteArray.mk #[61]).toList)=false/\decide ((↑i:Int)>(0:Int))=true/\True->(0:Int)<=(↑i:Int)/\(↑i:Int)<(↑(wdA (cpC c) (cpU u) (cpP p)).len:Int))/\((decide ((↑i:Int)>(0:Int))&&(wyB ((wdA (cpC c) (cpU u) (cpP p)).el (IntKind.i64.wrap ((↑i:Int)-(1:Int))).toNat (0:Nat)).toS&&wyB ((wdA (cpC c) (cpU u) (cpP p)).el (↑i:Int).toNat (0:Nat)).toS ||((wdA (cpC c) (cpU u) (cpP p)).el (↑i:Int).toNat (0:Nat)).toS.toList==(ByteArray.mk #[61]).toList ||((wdA (cpC c) (cpU u) (cpP p)).el (↑i:Int).toNat (0:Nat)).toS.toList==(ByteArray.mk #[61,61]).toList))=true->(↑((tgt (wdA (cpC c) (cpU u) (cpP p)) i).size+(ByteArray.mk #[10]).size):Int)<=IntKind.i64.max/\((0:Int)<=(↑i:Int)/\(↑i:Int)<(↑(wdA (cpC c) (cpU u) (cpP p)).len:Int))/\(↑((tgt (wdA (cpC c) (cpU u) (cpP p)) i++(ByteArray.mk #[10])).size+((wdA (cpC c) (cpU u) (cpP p)).el (↑i:Int).toNat (0:Nat)).toS.size):Int)<=IntKind.i64.max/\∃ (j:Nat),(j<=(wdA (cpC c) (cpU u) (cpP p)).len/\True)/\(wdA (cpC c) (cpU u) (cpP p)).len+(1:Nat)-j<(wdA (cpC c) (cpU u) (cpP p)).len+(1:Nat)-i/\IntKind.i64.wrap ((↑i:Int)+(1:Int))=(↑j:Int)/\Value.string (tgt (wdA (cpC c) (cpU u) (cpP p)) i++(ByteArray.mk #[10])++((wdA (cpC c) (cpU u) (cpP p)).el (↑i:Int).toNat (0:Nat)).toS)=Value.string (tgt (wdA (cpC c) (cpU u) (cpP p)) j)/\(wdA (cpC c) (cpU u) (cpP p)).rows=(wdA (cpC c) (cpU u) (cpP p)).rows/\List.map (chRq c) (List.range c.len)=List.map (chRq c) (List.range c.len)/\List.map (ruRq u) (List.range u.len)=List.map (ruRq u) (List.range u.len)/\List.map (prR p) (List.range p.len)=List.map (prR p) (List.range p.len))/\((decide ((↑i:Int)>(0:Int))&&(wyB ((wdA (cpC c) (cpU u) (cpP p)).el (IntKind.i64.wrap ((↑i:Int)-(1:Int))).toNat (0:Nat)).toS&&wyB ((wdA (cpC c) (cpU u) (cpP p)).el (↑i:Int).toNat (0:Nat)).toS ||((wdA (cpC c) (cpU u) (cpP p)).el (↑i:Int).toNat (0:Nat)).toS.toList==(ByteArray.mk #[61]).toList ||((wdA (cpC c) (cpU u) (cpP p)).el (↑i:Int).toNat (0:Nat)).toS.toList==(ByteArray.mk #[61,61]).toList))=false->((0:Int)<=(↑i:Int)/\(↑i:Int)<(↑(wdA (cpC c) (cpU u) (cpP p)).len:Int))/\(↑((tgt (wdA (cpC c) (cpU u) (cpP p)) i).size+((wdA (cpC c) (cpU u) (cpP p)).el (↑i:Int).toNat (0:Nat)).toS.size):Int)<=IntKind.i64.max/\∃ (j:Nat),(j<=(wdA (cpC c) (cpU u) (cpP p)).len/\True)/\(wdA (cpC c) (cpU u) (cpP p)).len+(1:Nat)-j<(wdA (cpC c) (cpU u) (cpP p)).len+(1:Nat)-i/\IntKind.i64.wrap ((↑i:Int)+(1:Int))=(↑j:Int)/\Value.string (tgt (wdA (cpC c) (cpU u) (cpP p)) i++((wdA (cpC c) (cpU u) (cpP p)).el (↑i:Int).toNat (0:Nat)).toS)=Value.string (tgt (wdA (cpC c) (cpU u) (cpP p)) j)/\(wdA (cpC c) (cpU u) (cpP p)).rows=(wdA (cpC c) (cpU u) (cpP p)).rows/\List.map (chRq c) (List.range c.len)=List.map (chRq c) (List.range c.len)/\List.map (ruRq u) (List.range u.len)=List.map (ruRq u) (List.range u.len)/\List.map (prR p) (List.range p.len)=List.map (prR p) (List.range p.len)))/\(decide ((↑i:Int)<(↑(wdA (cpC c) (cpU u) (cpP p)).len:Int))=false->(tgt (wdA (cpC c) (cpU u) (cpP p)) i).size<=(140737488351232:Nat)/\((paE (tgt (wdA (cpC c) (cpU u) (cpP p)) i)==(0:Int))=true/\True->(0:Nat)+(paC (tgt (wdA (cpC c) (cpU u) (cpP p)) i)).len<=(paC (tgt (wdA (cpC c) (cpU u) (cpP p)) i)).len)/\((paE (tgt (wdA (cpC c) (cpU u) (cpP p)) i)==(0:Int))=true/\True->(0:Nat)+(paU (tgt (wdA (cpC c) (cpU u) (cpP p)) i)).len<=(paU (tgt (wdA (cpC c) (cpU u) (cpP p)) i)).len)/\((paE (tgt (wdA (cpC c) (cpU u) (cpP p)) i)==(0:Int))=true/\True->(0:Nat)+(paP (tgt (wdA (cpC c) (cpU u) (cpP p)) i)).len<=(paP (tgt (wdA (cpC c) (cpU u) (cpP p)) i)).len)/\((paE (tgt (wdA (cpC c) (cpU u) (cpP p)) i)==(0:Int))=true/\True->chAls (cpC c) ((paC (tgt (wdA (cpC c) (cpU u) (cpP p)) i)).sub ((0:Nat)) ((0:Nat)+(paC (tgt (wdA (cpC c) (cpU u) (cpP p)) i)).len))/\ruAls (cpU u) ((paU (tgt (wdA (cpC c) (cpU u) (cpP p)) i)).sub ((0:Nat)) ((0:Nat)+(paU (tgt (wdA (cpC c) (cpU u) (cpP p)) i)).len))/\prAls (cpP p) ((paP (tgt (wdA (cpC c) (cpU u) (cpP p)) i)).sub ((0:Nat)) ((0:Nat)+(paP (tgt (wdA (cpC c) (cpU u) (cpP p)) i)).len)))/\((paE (tgt (wdA (cpC c) (cpU u) (cpP p)) i)==(0:Int))=true/\True->SyS (cpC c) (cpU u) (cpP p))/\(paE (tgt (wdA (cpC c) (cpU u) (cpP p)) i)==(0:Int) ||false)=true)))) (by kernel_rfl) ?_
  intro hS
  have hC:=SyS_cp hS
  have hO:=SyOK_of hC
  have hF:syB (cpC c) (cpU u) (cpP p)=true->syN (cpP p)=true->SyF (cpC c) (cpU u) (cpP p):=fun h _=>SyF_of hO h
  refine ⟨hS,hO,hF,fun i hi=>Nat.le_trans (wA_sz hi) (by decide),fun _=>rfl,fun he=>?_⟩
  have h0:wdE (cpC c) (cpU u) (cpP p)=0:=by simpa using he
  obtain ⟨p1,p2,p3,p4,p5⟩:=txS_rd h0
  obtain ⟨h1,h2,h3,h4⟩:=wdE_0 h0
  have hsy:=sy_self h1
  have z:∀ n:Nat,0+n<=n:=fun n=>Nat.le_of_eq (Nat.zero_add n)
  rw [p1,p2,p3,p4,p5]
  refine ⟨Nat.le_trans (txS_len h0) (by decide),fun _=>z _,fun _=>z _,fun _=>z _,fun _=>?_,fun _=>hC,fun hx=>absurd hx (by decide),fun _=>⟨hO,hF,⟨0,⟨Nat.zero_le _,trivial⟩,(by (repeat' (with_reducible apply And.intro))<;>first |with_reducible rfl |exact True.intro |assumption |(symm;assumption) |rfl)⟩,fun i hi=>?_⟩⟩
  ·rw [subAll,subAll,subAll];exact hsy
  obtain ⟨hi,-⟩:=hi
  generalize hL:wdA (cpC c) (cpU u) (cpP p)=L at *
  have hsz:∀ i,i<L.len->(L.el i 0).toS.size<=30:=fun i hi=>by rw [<- hL] at hi ⊢;exact wA_sz hi
  have hlen:L.len<=2000:=by rw [h4,wsR_len];exact h3
  have hts:=tgt_sz hsz i hi
  have hmx:(IntKind.i64.max:Int)=9223372036854775807:=rfl
  have e1:(ByteArray.mk #[10]).size=1:=rfl
  have hnx:IntKind.i64.wrap ((i:Int)+1)=((i+1:Nat):Int):=by rw [IntWalk.i64_in _ (by omega)];omega
  have ei:(i:Int).toNat=i:=Int.toNat_natCast i
  refine ⟨fun hc=>?_,fun hc=>?_⟩
  ·have hc:(i:Int)<(L.len:Int):=of_decide_eq_true hc
   have hi2:i<L.len:=by omega
   have hx:(0:Int)<=(i:Int)/\(i:Int)<(L.len:Int):=⟨by omega,hc⟩
   have h30:=hsz i hi2
   have hg:(decide ((i:Int)>0)&&((wyB (L.el (IntKind.i64.wrap ((i:Int)-1)).toNat 0).toS&&wyB (L.el (i:Int).toNat 0).toS) ||(L.el (i:Int).toNat 0).toS.toList==ByteArray.toList ⟨#[61]⟩ ||(L.el (i:Int).toNat 0).toS.toList==ByteArray.toList ⟨#[61,61]⟩))=gpB L i:=by
    unfold gpB
    rw [ei,ByteArray.toList_eq ⟨#[61]⟩,ByteArray.toList_eq ⟨#[61,61]⟩]
    by_cases h0:0<i
    ·rw [decide_eq_true h0,decide_eq_true (show (i:Int)>0 by omega),show (IntKind.i64.wrap ((i:Int)-1)).toNat=i-1 by rw [IntWalk.i64_in _ (by omega)];omega]
    ·rw [decide_eq_false h0,decide_eq_false (show ¬ (i:Int)>0 by omega)];rfl
   have hstep:tgt L (i+1)=(if gpB L i=true then tgt L i++⟨#[10]⟩ else tgt L i)++(L.el i 0).toS:=rfl
   refine ⟨fun hz=>?_,fun _=>hx,fun _=>hx,fun _=>hx,fun hz=>?_,fun hz=>?_⟩
   ·have h0:(i:Int)>0:=of_decide_eq_true hz.1
    rw [IntWalk.i64_in _ (by omega)]
    omega
   ·rw [hg] at hz
    rw [hz,if_pos rfl] at hstep
    rw [ei]
    refine ⟨by rw [hmx,e1];omega,hx,by rw [hmx,ByteArray.size_append,e1];omega,i+1,⟨hi2,trivial⟩,by omega,hnx,congrArg Value.string hstep.symm,?_⟩
    (repeat' (with_reducible apply And.intro))<;>first |with_reducible rfl |exact True.intro |assumption |(symm;assumption) |rfl
   ·rw [hg] at hz
    rw [hz,if_neg (by decide)] at hstep
    rw [ei]
    refine ⟨hx,by rw [hmx];omega,i+1,⟨hi2,trivial⟩,by omega,hnx,congrArg Value.string hstep.symm,?_⟩
    (repeat' (with_reducible apply And.intro))<;>first |with_reducible rfl |exact True.intro |assumption |(symm;assumption) |rfl
  ·have hc:¬ (i:Int)<(L.len:Int):=of_decide_eq_false hc
   obtain rfl:i=L.len:=by omega
   have hr:=tgt_rd h0
   rw [hL] at hr
   obtain ⟨q1,q2,q3,q5⟩:=hr
   rw [q1,q2,q3,q5,subAll,subAll,subAll]
   exact ⟨by omega,fun _=>z _,fun _=>z _,fun _=>z _,fun _=>hsy,fun _=>hC,rfl⟩
 ·trivial
end Go.Proofs.YthpponmbpoaffaaGreatDoor.Sx.Z
