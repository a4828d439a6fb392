import Derived.Test.YtcfkhnlkfgmoiaaZf13
import Derived.Test.YtcfkhnlkfgmoiaaZf15
import Derived.Test.YtcfkhnlkfgmoiaaZf16
import Derived.Test.YtcfkhnlkfgmoiaaChecked
import Derived.WalkKit
import Derived.ProofKit
import Derived.Below
import Derived.Handy
import Derived.Lib.Hide
import Derived.IntWalk
import Derived.Deep.WholeRow
import Derived.Great.BuildSlice
import Derived.Deep.Cut
import Derived.Deep.MidRow
import Derived.Deep.AppendLies
import Derived.Deep.RegionLaw
import Derived.Deep.QuietTactic
import Derived.BigQuiet
import Derived.RegionTactic
import Derived.StillTailTactics
import Derived.Great.Walk
set_option linter.unusedVariables false
set_option linter.unusedSimpArgs false
namespace Go.Proofs.Ytcfkhnlkfgmoiaa.Sx.Z
open Go.RowKit
def tabL:ByteArray:=⟨((0:UInt8)::1::2::2::(List.replicate 4 3++List.replicate 8 4++List.replicate 16 5++List.replicate 32 6++List.replicate 64 7++List.replicate 128 8)).toArray⟩
noncomputable def blen64S:FSpec:=fun ds _=>match ds with
 | [.i x]=>some {val:=.one (.sc (.int .i64 (.sym x))),vc:=[0<=x/\x<=1]}
 |_=>none
noncomputable def blen64C:Con:=con [.sc (.int .u64)] blen64S
theorem blen64_ok:ConOK Try.prog 72 blen64C:=by
 refine fn_ob tt_ok mixed Try.func72 rfl (fun _ _=>by kernel_rfl) (A:=fun ds=>⟨fun _=>Cons.of [],fun _=>none,fun _=>none⟩) (fun _ _=>cons_nil) (by kernel_rfl) ?_
 intro ds fr;unfold blen64S;split
 ·rename_i x
  refine kmp (q:=withv (x.fdiv ((2:Int) ^ min (Int.toNat (32:Int)) IntKind.u64.bits)) fun E4=>withv (E4.fdiv ((2:Int) ^ min (Int.toNat (16:Int)) IntKind.u64.bits)) fun E5=>withv (x.fdiv ((2:Int) ^ min (Int.toNat (16:Int)) IntKind.u64.bits)) fun E6=>withv (E5.fdiv ((2:Int) ^ min (Int.toNat (8:Int)) IntKind.u64.bits)) fun E7=>withv (E4.fdiv ((2:Int) ^ min (Int.toNat (8:Int)) IntKind.u64.bits)) fun E8=>withv (E6.fdiv ((2:Int) ^ min (Int.toNat (8:Int)) IntKind.u64.bits)) fun E9=>withv (x.fdiv ((2:Int) ^ min (Int.toNat (8:Int)) IntKind.u64.bits)) fun E10=>(0:Int)<=x/\x<=(1:Int)->(decide (x>=(4294967296:Int))=true->(decide (x.fdiv ((2:Int) ^ min (Int.toNat (32:Int)) IntKind.u64.bits)>=(65536:Int))=true->(decide (E4.fdiv ((2:Int) ^ min (Int.toNat (16:Int)) IntKind.u64.bits)>=(256:Int))=true->((0:Int)<=IntKind.u8.wrap E7/\IntKind.u8.wrap E7<(tabL.size:Int))/\IntKind.i64.wrap (IntKind.i64.wrap (IntKind.i64.wrap ((32:Int)+(16:Int))+(8:Int))+IntKind.i64.wrap (↑(tabL[(IntKind.u8.wrap E7).toNat]?.getD (0:UInt8)).toNat:Int))=x)/\(decide (E4.fdiv ((2:Int) ^ min (Int.toNat (16:Int)) IntKind.u64.bits)>=(256:Int))=false->((0:Int)<=IntKind.u8.wrap E5/\IntKind.u8.wrap E5<(tabL.size:Int))/\IntKind.i64.wrap (IntKind.i64.wrap ((32:Int)+(16:Int))+IntKind.i64.wrap (↑(tabL[(IntKind.u8.wrap E5).toNat]?.getD (0:UInt8)).toNat:Int))=x))/\(decide (x.fdiv ((2:Int) ^ min (Int.toNat (32:Int)) IntKind.u64.bits)>=(65536:Int))=false->(decide (x.fdiv ((2:Int) ^ min (Int.toNat (32:Int)) IntKind.u64.bits)>=(256:Int))=true->((0:Int)<=IntKind.u8.wrap E8/\IntKind.u8.wrap E8<(tabL.size:Int))/\IntKind.i64.wrap (IntKind.i64.wrap ((32:Int)+(8:Int))+IntKind.i64.wrap (↑(tabL[(IntKind.u8.wrap E8).toNat]?.getD (0:UInt8)).toNat:Int))=x)/\(decide (x.fdiv ((2:Int) ^ min (Int.toNat (32:Int)) IntKind.u64.bits)>=(256:Int))=false->((0:Int)<=IntKind.u8.wrap E4/\IntKind.u8.wrap E4<(tabL.size:Int))/\IntKind.i64.wrap ((32:Int)+IntKind.i64.wrap (↑(tabL[(IntKind.u8.wrap E4).toNat]?.getD (0:UInt8)).toNat:Int))=x)))/\(decide (x>=(4294967296:Int))=false->(decide (x>=(65536:Int))=true->(decide (x.fdiv ((2:Int) ^ min (Int.toNat (16:Int)) IntKind.u64.bits)>=(256:Int))=true->((0:Int)<=IntKind.u8.wrap E9/\IntKind.u8.wrap E9<(tabL.size:Int))/\IntKind.i64.wrap (IntKind.i64.wrap (IntKind.i64.wrap ((0:Int)+(16:Int))+(8:Int))+IntKind.i64.wrap (↑(tabL[(IntKind.u8.wrap E9).toNat]?.getD (0:UInt8)).toNat:Int))=x)/\(decide (x.fdiv ((2:Int) ^ min (Int.toNat (16:Int)) IntKind.u64.bits)>=(256:Int))=false->((0:Int)<=IntKind.u8.wrap E6/\IntKind.u8.wrap E6<(tabL.size:Int))/\IntKind.i64.wrap (IntKind.i64.wrap ((0:Int)+(16:Int))+IntKind.i64.wrap (↑(tabL[(IntKind.u8.wrap E6).toNat]?.getD (0:UInt8)).toNat:Int))=x))/\(decide (x>=(65536:Int))=false->(decide (x>=(256:Int))=true->((0:Int)<=IntKind.u8.wrap E10/\IntKind.u8.wrap E10<(tabL.size:Int))/\IntKind.i64.wrap (IntKind.i64.wrap ((0:Int)+(8:Int))+IntKind.i64.wrap (↑(tabL[(IntKind.u8.wrap E10).toNat]?.getD (0:UInt8)).toNat:Int))=x)/\(decide (x>=(256:Int))=false->((0:Int)<=IntKind.u8.wrap x/\IntKind.u8.wrap x<(tabL.size:Int))/\IntKind.i64.wrap ((0:Int)+IntKind.i64.wrap (↑(tabL[(IntKind.u8.wrap x).toNat]?.getD (0:UInt8)).toNat:Int))=x)))) (by kernel_rfl) ?_
  dsimp +instances only [withv]
  rintro ⟨h0,h1⟩;have hx:x=0 ∨ x=1:=by omega
  rcases hx with rfl |rfl<;>exact ⟨fun h=>absurd h (by decide +kernel),fun _=>⟨fun h=>absurd h (by decide +kernel),fun _=>⟨fun h=>absurd h (by decide +kernel),fun _=>⟨by decide +kernel,by decide +kernel⟩⟩⟩⟩
 ·trivial
end Go.Proofs.Ytcfkhnlkfgmoiaa.Sx.Z
namespace Go.Proofs.Ytcfkhnlkfgmoiaa.Sx.Z
open Go.RowKit
def iA:AP:=.sc (.int .i64)
noncomputable def blenS:FSpec:=fun ds _=>match ds with
 | [.i x]=>some {val:=.one (.sc (.int .i64 (.sym x))),vc:=[0<=x/\x<=1]}
 |_=>none
noncomputable def blenC:Con:=con [.sc (.int .u64)] blenS
theorem blen_ok:ConOK Try.prog 39 blenC:=by
 refine fn_ob tt_ok mixed Try.func39 rfl (fun _ _=>by kernel_rfl) (A:=fun ds=>⟨fun _=>Cons.of [(72,blen64C)],fun _=>none,fun _=>none⟩) (fun _ _=>(cons_cons blen64_ok cons_nil)) (by kernel_rfl) ?_
 intro ds fr;unfold blenS;split
 ·rename_i x;refine kmp (q:=(0:Int)<=x/\x<=(1:Int)->((0:Int)<=x/\x<=(1:Int))/\x=x) (by kernel_rfl) ?_
  exact fun h=>⟨h,rfl⟩
 ·trivial
noncomputable def isortS:FSpec:=fun ds _=>match ds with
 | [.d x,.i a,.i b]=>some {val:=.tup [],vc:=[b<=a+1,0<=a/\a<=1000]}
 |_=>none
noncomputable def isortC:Con:=con [.sc (.rows 3),iA,iA] isortS
theorem isort_ok:ConOK Try.prog 62 isortC:=by
 refine fn_ob tt_ok mixed Try.func62 rfl (fun _ _=>by kernel_rfl) (A:=fun ds=>⟨fun _=>Cons.of [],fun k=>match k,ds with | 1,[.d x,.i a,.i b]=>some {ι:=Bool,pre:=fun _ _=>True,μ:=fun _=>0,st:=fun s _=>famR s [(6,.one (.sc (.int .i64 (.sym (IntKind.i64.wrap (a+1))))))] [0,1,2] [] []} |_,_=>none,fun _=>none⟩) (fun _ _=>cons_nil) (by kernel_rfl) ?_
 intro ds fr;unfold isortS;split
 ·rename_i x a b;refine kmp (q:=b<=a+(1:Int)->(0:Int)<=a/\a<=(1000:Int)->(∃ (i:Bool),True/\IntKind.i64.wrap (a+(1:Int))=IntKind.i64.wrap (a+(1:Int))/\x.rows=x.rows/\a=a/\b=b)/\∀ (i:Bool),True->(decide (IntKind.i64.wrap (a+(1:Int))<b)=true->False)/\(decide (IntKind.i64.wrap (a+(1:Int))<b)=false->True)) (by kernel_rfl) ?_
  intro h1 h2;have hw:IntKind.i64.wrap (a+1)=a+1:=IntWalk.i64_in _ (by omega);refine ⟨⟨true,trivial,rfl,rfl,rfl,rfl⟩,fun _ _=>⟨fun h=>?_,fun _=>trivial⟩⟩;have h:=of_decide_eq_true h;rw [hw] at h;omega
 ·trivial
noncomputable def pdqS:FSpec:=fun ds _=>match ds with
 | [.d x,.i a,.i b,.i l]=>some {val:=.tup [],vc:=[b<=a+1,0<=a/\a<=1000,0<=b]}
 |_=>none
noncomputable def pdqC:Con:=con [.sc (.rows 3),iA,iA,iA] pdqS
theorem pdq_ok:ConOK Try.prog 38 pdqC:=by
 refine fn_ob tt_ok mixed Try.func38 rfl (fun _ _=>by kernel_rfl) (A:=fun ds=>⟨fun _=>Cons.of [(62,isortC)],fun k=>match k,ds with | 2,[.d x,.i a,.i b,.i l]=>some {ι:=Bool,pre:=fun _ _=>True,μ:=fun _=>0,st:=fun s _=>famR s [] [0,1,2,3] [] []} |_,_=>none,fun _=>none⟩) (fun _ _=>(cons_cons isort_ok cons_nil)) (by kernel_rfl) ?_
 intro ds fr;unfold pdqS;split
 ·rename_i x a b l;refine kmp (q:=b<=a+(1:Int)->(0:Int)<=a/\a<=(1000:Int)->(0:Int)<=b->(∃ (i:Bool),True/\x.rows=x.rows/\a=a/\b=b/\l=l)/\∀ (i:Bool),True->(decide (IntKind.i64.wrap (b-a)<=(12:Int))=true->b<=a+(1:Int)/\((0:Int)<=a/\a<=(1000:Int))/\True)/\(decide (IntKind.i64.wrap (b-a)<=(12:Int))=false->((l==(0:Int))=true->False)/\((l==(0:Int))=false->False))) (by kernel_rfl) ?_
  intro h1 h2 h3;have hw:IntKind.i64.wrap (b-a)=b-a:=IntWalk.i64_in _ (by omega);refine ⟨⟨true,trivial,rfl,rfl,rfl,rfl⟩,fun _ _=>⟨fun _=>⟨h1,h2,trivial⟩,fun h=>?_⟩⟩;have h:=of_decide_eq_false h;rw [hw] at h;omega
 ·trivial
noncomputable def ssortS:FSpec:=fun ds _=>match ds with
 | [.d x]=>some {val:=.tup [],vc:=[x.len<=1]}
 |_=>none
noncomputable def ssortC:Con:=con [.sc (.rows 3)] ssortS
theorem ssort_ok:ConOK Try.prog 25 ssortC:=by
 refine fn_ob tt_ok mixed Try.func25 rfl (fun _ _=>by kernel_rfl) (A:=fun ds=>⟨fun _=>Cons.of [(38,pdqC),(39,blenC)],fun _=>none,fun _=>none⟩) (fun _ _=>(cons_cons pdq_ok (cons_cons blen_ok cons_nil))) (by kernel_rfl) ?_
 intro ds fr;unfold ssortS;split
 ·rename_i x;refine kmp (q:=x.len<=1->((0:Int)<=IntKind.u64.wrap (x.len:Int)/\IntKind.u64.wrap (x.len:Int)<=(1:Int))/\(x.len:Int)<=(0:Int)+(1:Int)/\((0:Int)<=(0:Int)/\(0:Int)<=(1000:Int))/\(0:Int)<=(x.len:Int)/\True) (by kernel_rfl) ?_
  intro h;have hw:IntKind.u64.wrap (x.len:Int)=(x.len:Int):=by
   have:x.len=0 ∨ x.len=1:=by omega
   rcases this with e |e<;>rw [e]<;>rfl
  rw [hw];refine ⟨by omega,by omega,by omega,by omega,trivial⟩
 ·trivial
end Go.Proofs.Ytcfkhnlkfgmoiaa.Sx.Z
namespace Go.Proofs.Ytcfkhnlkfgmoiaa.Sx.Z
open Go.RowKit
def kCh:AP:=.agg [.c (.int .i64),.c (.int .i64),.c (.int .i64),.c (.int .i64),.c (.int .i64),.c (.rows 28)]
def kPr:AP:=.agg [.c (.rows 66),.c (.rows 57)]
def mxK (x y:Int):Int:=if y>x then y else x
def tpA (row:D) (n k:Int) (a:Int):Nat->Int
 | 0=>a
 |t+1=>if plK (row.el t 0).toI n=true then mxK (mxK (tpA row n k a t) k) (row.el t 0).toI else tpA row n k a t
def tpR (ru:D):Nat->Int
 | 0=>0
 |k+1=>tpA (ru.el k 0) ru.len k (tpR ru k) (ru.el k 0).len
def enB (row:D) (n:Int) (t:Nat):Bool:=plK (row.el t 0).toI n ||(row.el t 0).toI == -1
def rwK (ru:D) (ts:Int) (k:Nat):Bool:=((ru.el k 0).len:Int)==ts&&allB (ru.el k 0).len (enB (ru.el k 0) ru.len)
def ruK (ts:Int) (ru:D):Bool:=!decide ((ru.len:Int)>8)&&allB ru.len (rwK ru ts)&&((ru.len:Int)==0 ||tpR ru ru.len==(ru.len:Int)-1)
def chKb (n ck cz cf ct cg:Int) (ru:D):Bool:=decide (ck>=0)&&decide (ck<=2)&&decide (cz>=1)&&decide (cz<=16)&&plK cf n&&plK ct n&&cf != ct&&decide (cg>=1)&&decide (cg<=4)&&ruK cg ru
def chK (n:Int) (ch:D) (i:Nat):Bool:=chKb n (ch.el i 0).toI (ch.el i 1).toI (ch.el i 2).toI (ch.el i 3).toI (ch.el i 4).toI (ch.el i 5)
def prK (ch pr:D) (i:Nat):Bool:=!(decide ((pr.el i 0).toI<0) ||decide ((pr.el i 0).toI>6))&&bkR ch i (pr.el i 0).toI (pr.el i 1)
def riK (ch pr:D):Bool:=!(decide ((ch.len:Int)>4) ||decide ((pr.len:Int)<1) ||decide ((pr.len:Int)>4))&&allB ch.len (chK pr.len ch)&&allB pr.len (prK ch pr)
noncomputable def kruS:FSpec:=fun ds _=>match ds with
 | [.i ck,.i cz,.i cf,.i ct,.i cg,.d ru]=>some {val:=.one (.sc (.bool (.sym (ruK cg ru)))),vc:=[cg<=4]}
 |_=>none
noncomputable def kruC:Con:=con [kCh] kruS
theorem kru_ok:ConOK Try.prog 33 kruC:=by
 refine fn_ob tt_ok mixed Try.func33 rfl (fun _ _=>by kernel_rfl) (A:=fun ds=>⟨fun _=>Cons.of [(32,kplC)],fun k=>match k,ds with | 5,[.i ck,.i cz,.i cf,.i ct,.i cg,.d ru]=>some {ι:=Nat,pre:=fun _ k=>k<=ru.len/\(ru.len<=8/\∀ j,j<k->rwK ru cg j=true),μ:=fun k=>ru.len+1-k,st:=fun s k=>famR s [(15,.one (.sc (.int .i64 (.sym ((k:Nat)))))),(3,.one (.sc (.int .i64 (.sym (tpR ru k)))))] [1,13,14] [] [1]} | 10,[.i ck,.i cz,.i cf,.i ct,.i cg,.d ru]=>some {ι:=Nat,pre:=fun s t=>t<=(ru.el (slotN s 15) 0).len/\((ru.el (slotN s 15) 0).len=cg.toNat/\∀ j,j<t->enB (ru.el (slotN s 15) 0) ru.len j=true),μ:=fun t=>9-t,st:=fun s t=>famR s [(27,.one (.sc (.int .i64 (.sym ((t:Nat)))))),(3,.one (.sc (.int .i64 (.sym (tpA (ru.el (slotN s 15) 0) ru.len (slotN s 15) (tpR ru (slotN s 15)) t)))))] [1,13,14,15,4,5,25,26] [] [1]} |_,_=>none,fun _=>none⟩) (fun _ _=>(cons_cons kpl_ok cons_nil)) (by kernel_rfl) ?_
 intro ds fr;unfold kruS;split
 ·rename_i ck cz cf ct cg ru
  refine kmp (q:=cg<=(4:Int)->(decide ((ru.len:Int)>(8:Int))=true->false=ruK cg ru)/\(decide ((ru.len:Int)>(8:Int))=false->(∃ (i:Nat),(i<=ru.len/\ru.len<=8/\∀ (j:Nat),j<i->rwK ru cg j=true)/\(0:Int)=(i:Int)/\(0:Int)=tpR ru i/\ru.rows=ru.rows/\(ru.len:Int)=(ru.len:Int)/\ck=ck/\cz=cz/\cf=cf/\ct=ct/\cg=cg/\ru.rows=ru.rows)/\∀ (i:Nat),(i<=ru.len/\ru.len<=8/\∀ (j:Nat),j<i->rwK ru cg j=true)->(decide ((i:Int)<(ru.len:Int))=true->((0:Int)<=(i:Int)/\(i:Int)<(ru.len:Int))/\(((↑(ru.el (i:Int).toNat 0).len:Int) != cg)=true->false=ruK cg ru)/\(((↑(ru.el (i:Int).toNat 0).len:Int) != cg)=false->(∃ (i_1:Nat),(i_1<=(ru.el i 0).len/\(ru.el i 0).len=cg.toNat/\∀ (j:Nat),j<i_1->enB (ru.el i 0) (ru.len:Int) j=true)/\(0:Int)=(i_1:Int)/\tpR ru i=tpA (ru.el i 0) (ru.len:Int) (i:Int) (tpR ru i) i_1/\ru.rows=ru.rows/\(ru.len:Int)=(ru.len:Int)/\(i:Int)=(i:Int)/\(i:Int)=(i:Int)/\(ru.el (i:Int).toNat 0).rows=(ru.el (i:Int).toNat 0).rows/\(ru.el (i:Int).toNat 0).rows=(ru.el (i:Int).toNat 0).rows/\(↑(ru.el (i:Int).toNat 0).len:Int)=(↑(ru.el (i:Int).toNat 0).len:Int)/\ck=ck/\cz=cz/\cf=cf/\ct=ct/\cg=cg/\ru.rows=ru.rows)/\∀ (i_1:Nat),(i_1<=(ru.el i 0).len/\(ru.el i 0).len=cg.toNat/\∀ (j:Nat),j<i_1->enB (ru.el i 0) (ru.len:Int) j=true)->(decide ((i_1:Int)<(↑(ru.el (i:Int).toNat 0).len:Int))=true->((0:Int)<=(i_1:Int)/\(i_1:Int)<(↑(ru.el (i:Int).toNat 0).len:Int))/\(plK ((ru.el (i:Int).toNat 0).el (i_1:Int).toNat 0).toI (ru.len:Int)=true->∃ (j:Nat),(j<=(ru.el i 0).len/\(ru.el i 0).len=cg.toNat/\∀ (j_1:Nat),j_1<j->enB (ru.el i 0) (ru.len:Int) j_1=true)/\(9:Nat)-j<(9:Nat)-i_1/\IntKind.i64.wrap ((i_1:Int)+(1:Int))=(j:Int)/\(if ((ru.el (i:Int).toNat 0).el (i_1:Int).toNat 0).toI>if (i:Int)>tpA (ru.el i 0) (ru.len:Int) (i:Int) (tpR ru i) i_1 then (i:Int) else tpA (ru.el i 0) (ru.len:Int) (i:Int) (tpR ru i) i_1 then ((ru.el (i:Int).toNat 0).el (i_1:Int).toNat 0).toI else if (i:Int)>tpA (ru.el i 0) (ru.len:Int) (i:Int) (tpR ru i) i_1 then (i:Int) else tpA (ru.el i 0) (ru.len:Int) (i:Int) (tpR ru i) i_1)=tpA (ru.el i 0) (ru.len:Int) (i:Int) (tpR ru i) j/\ru.rows=ru.rows/\(ru.len:Int)=(ru.len:Int)/\(i:Int)=(i:Int)/\(i:Int)=(i:Int)/\(ru.el (i:Int).toNat 0).rows=(ru.el (i:Int).toNat 0).rows/\(ru.el (i:Int).toNat 0).rows=(ru.el (i:Int).toNat 0).rows/\(↑(ru.el (i:Int).toNat 0).len:Int)=(↑(ru.el (i:Int).toNat 0).len:Int)/\ck=ck/\cz=cz/\cf=cf/\ct=ct/\cg=cg/\ru.rows=ru.rows)/\(plK ((ru.el (i:Int).toNat 0).el (i_1:Int).toNat 0).toI (ru.len:Int)=false->((((ru.el (i:Int).toNat 0).el (i_1:Int).toNat 0).toI != (-1:Int))=true->false=ruK cg ru)/\((((ru.el (i:Int).toNat 0).el (i_1:Int).toNat 0).toI != (-1:Int))=false->∃ (j:Nat),(j<=(ru.el i 0).len/\(ru.el i 0).len=cg.toNat/\∀ (j_1:Nat),j_1<j->enB (ru.el i 0) (ru.len:Int) j_1=true)/\(9:Nat)-j<(9:Nat)-i_1/\IntKind.i64.wrap ((i_1:Int)+(1:Int))=(j:Int)/\tpA (ru.el i 0) (ru.len:Int) (i:Int) (tpR ru i) i_1=tpA (ru.el i 0) (ru.len:Int) (i:Int) (tpR ru i) j/\ru.rows=ru.rows/\(ru.len:Int)=(ru.len:Int)/\(i:Int)=(i:Int)/\(i:Int)=(i:Int)/\(ru.el (i:Int).toNat 0).rows=(ru.el (i:Int).toNat 0).rows/\(ru.el (i:Int).toNat 0).rows=(ru.el (i:Int).toNat 0).rows/\(↑(ru.el (i:Int).toNat 0).len:Int)=(↑(ru.el (i:Int).toNat 0).len:Int)/\ck=ck/\cz=cz/\cf=cf/\ct=ct/\cg=cg/\ru.rows=ru.rows)))/\(decide ((i_1:Int)<(↑(ru.el (i:Int).toNat 0).len:Int))=false->∃ (j:Nat),(j<=ru.len/\ru.len<=8/\∀ (j_1:Nat),j_1<j->rwK ru cg j_1=true)/\ru.len+(1:Nat)-j<ru.len+(1:Nat)-i/\IntKind.i64.wrap ((i:Int)+(1:Int))=(j:Int)/\tpA (ru.el i 0) (ru.len:Int) (i:Int) (tpR ru i) i_1=tpR ru j/\ru.rows=ru.rows/\(ru.len:Int)=(ru.len:Int)/\ck=ck/\cz=cz/\cf=cf/\ct=ct/\cg=cg/\ru.rows=ru.rows)))/\(decide ((i:Int)<(ru.len:Int))=false->((ru.len:Int)==(0:Int) ||tpR ru i==IntKind.i64.wrap ((ru.len:Int)-(1:Int)))=ruK cg ru))) (by kernel_rfl) ?_
  intro hg;simp only [Nat.reduceAdd,Nat.zero_add,k_n];refine ⟨fun h=>?_,fun h=>?_⟩
  ·unfold ruK;rw [h];rfl
  have h0:=h;have h:=of_decide_eq_false h;have l8:ru.len<=8:=by omega
  have bad:∀ {i},i<ru.len->rwK ru cg i=false->false=ruK cg ru:=fun hi hq=>by unfold ruK;rw [allB_no hi hq,Bool.and_false];rfl
  refine ⟨⟨0,⟨Nat.zero_le _,l8,fun j hj=>absurd hj (Nat.not_lt_zero j)⟩,rfl,(by (repeat' (with_reducible apply And.intro))<;>first |exact True.intro |rfl)⟩,fun i hp=>⟨fun hc=>?_,fun hc=>?_⟩⟩
  ·have hc:=of_decide_eq_true hc;have hi:i<ru.len:=by omega
   refine ⟨⟨by omega,by omega⟩,fun hq=>bad hi ?_,fun hq=>?_⟩
   ·unfold rwK;rw [show (((ru.el i 0).len:Int)==cg)=false by simpa using hq];rfl
   have hw:((ru.el i 0).len:Int)=cg:=by simpa using hq
   have hl:(ru.el i 0).len=cg.toNat:=by omega
   refine ⟨⟨0,⟨Nat.zero_le _,hl,fun j hj=>absurd hj (Nat.not_lt_zero j)⟩,rfl,(by (repeat' (with_reducible apply And.intro))<;>first |exact True.intro |rfl)⟩,fun t ht=>⟨fun hd=>?_,fun hd=>?_⟩⟩
   ·have hd:=of_decide_eq_true hd;have hti:t<(ru.el i 0).len:=by omega
    refine ⟨⟨by omega,by omega⟩,fun hx=>?_,fun hx=>⟨fun hy=>?_,fun hy=>?_⟩⟩
    ·refine ⟨t+1,⟨hti,hl,k_ext ht.2.2 (by unfold enB;rw [hx];rfl)⟩,by omega,k_nx (by omega),?_,(by (repeat' (with_reducible apply And.intro))<;>first |exact True.intro |rfl)⟩;rw [tpA,if_pos hx];rfl
    ·refine bad hi ?_
     unfold rwK;rw [allB_no hti (by unfold enB;rw [hx,show (((ru.el i 0).el t 0).toI == -1)=false by simpa using hy];rfl),Bool.and_false]
    ·refine ⟨t+1,⟨hti,hl,k_ext ht.2.2 (by unfold enB;rw [show (((ru.el i 0).el t 0).toI == -1)=true by simpa using hy,Bool.or_true])⟩,by omega,k_nx (by omega),?_,(by (repeat' (with_reducible apply And.intro))<;>first |exact True.intro |rfl)⟩;rw [tpA,if_neg (by rw [hx];decide)]
   ·have hd:=of_decide_eq_false hd;have ht':t=(ru.el i 0).len:=by have:=ht.1;omega
    subst ht';refine ⟨i+1,⟨hi,l8,k_ext hp.2.2 ?_⟩,by omega,k_nx (by omega),rfl,(by (repeat' (with_reducible apply And.intro))<;>first |exact True.intro |rfl)⟩;unfold rwK;rw [show (((ru.el i 0).len:Int)==cg)=true by simpa using hw,allB_yes fun j hj=>ht.2.2 j hj];rfl
  ·have hc:=of_decide_eq_false hc;obtain rfl:i=ru.len:=by have:=hp.1;omega
   have hw:IntKind.i64.wrap ((ru.len:Int)-1)=(ru.len:Int)-1:=IntWalk.i64_in _ (by omega);rw [hw];unfold ruK;rw [h0,allB_yes fun j hj=>hp.2.2 j hj];rfl
 ·trivial
noncomputable def kchS:FSpec:=fun ds _=>match ds with
 | [.i ck,.i cz,.i cf,.i ct,.i cg,.d ru,.i n]=>some {val:=.one (.sc (.bool (.sym (chKb n ck cz cf ct cg ru)))),vc:=[]}
 |_=>none
noncomputable def kchC:Con:=con [kCh,lI] kchS
set_option maxRecDepth 100000 in
theorem kch_ok:ConOK Try.prog 20 kchC:=by
 refine fn_ob tt_ok mixed Try.func20 rfl (fun _ _=>by kernel_rfl) (A:=fun ds=>⟨fun _=>Cons.of [(32,kplC),(33,kruC)],fun _=>none,fun _=>none⟩) (fun _ _=>(cons_cons kpl_ok (cons_cons kru_ok cons_nil))) (by kernel_rfl) ?_
 intro ds fr;unfold kchS;split
 ·rename_i ck cz cf ct cg ru n;refine kmp (q:=((decide (ck>=(0:Int))&&decide (ck<=(2:Int))&&decide (cz>=(1:Int))&&decide (cz<=(16:Int))&&plK cf n&&plK ct n&&cf != ct&&decide (cg>=(1:Int))&&decide (cg<=(4:Int)))=true/\True->cg<=(4:Int))/\(decide (ck>=(0:Int))&&decide (ck<=(2:Int))&&decide (cz>=(1:Int))&&decide (cz<=(16:Int))&&plK cf n&&plK ct n&&cf != ct&&decide (cg>=(1:Int))&&decide (cg<=(4:Int))&&ruK cg ru)=chKb n ck cz cf ct cg ru) (by kernel_rfl) ?_
  exact ⟨fun h=>(by have:=h.1;simp only [Bool.and_eq_true,decide_eq_true_eq] at this;exact this.2),rfl⟩
 ·trivial
noncomputable def kriS:FSpec:=fun ds _=>match ds with
 | [.d ch,.d pr]=>some {val:=.one (.sc (.bool (.sym (riK ch pr)))),vc:=[∀ i,i<pr.len->kOK (pr.el i 1)]}
 |_=>none
noncomputable def kriC:Con:=con [kPr] kriS
theorem kri_ok:ConOK Try.prog 12 kriC:=by
 refine fn_ob tt_ok mixed Try.func12 rfl (fun _ _=>by kernel_rfl) (A:=fun ds=>⟨fun _=>Cons.of [(20,kchC),(21,kbdC)],fun k=>match k,ds with | 4,[.d ch,.d pr]=>some {ι:=Nat,pre:=fun _ i=>i<=ch.len/\∀ j,j<i->chK pr.len ch j=true,μ:=fun i=>ch.len+1-i,st:=fun s i=>famR s [(27,.one (.sc (.int .i64 (.sym ((i:Nat))))))] [1,25,26] [] [1]} | 10,[.d ch,.d pr]=>some {ι:=Nat,pre:=fun _ i=>i<=pr.len/\∀ j,j<i->prK ch pr j=true,μ:=fun i=>pr.len+1-i,st:=fun s i=>famR s [(41,.one (.sc (.int .i64 (.sym ((i:Nat))))))] [1,39,40] [] [1]} |_,_=>none,fun _=>none⟩) (fun _ _=>(cons_cons kch_ok (cons_cons kbd_ok cons_nil))) (by kernel_rfl) ?_
 intro ds fr;unfold kriS;split
 ·rename_i ch pr;refine kmp (q:=(∀ (i:Nat),i<pr.len->kOK (pr.el i 1))->((decide ((ch.len:Int)>(4:Int)) ||decide ((pr.len:Int)<(1:Int)) ||decide ((pr.len:Int)>(4:Int)))=true->false=riK ch pr)/\((decide ((ch.len:Int)>(4:Int)) ||decide ((pr.len:Int)<(1:Int)) ||decide ((pr.len:Int)>(4:Int)))=false->(∃ (i:Nat),(i<=ch.len/\∀ (j:Nat),j<i->chK (pr.len:Int) ch j=true)/\(0:Int)=(i:Int)/\ch.rows=ch.rows/\(ch.len:Int)=(ch.len:Int)/\ch.rows=ch.rows/\pr.rows=pr.rows)/\∀ (i:Nat),(i<=ch.len/\∀ (j:Nat),j<i->chK (pr.len:Int) ch j=true)->(decide ((i:Int)<(ch.len:Int))=true->((0:Int)<=(i:Int)/\(i:Int)<(ch.len:Int))/\((!chKb (pr.len:Int) (ch.el (i:Int).toNat 0).toI (ch.el (i:Int).toNat 1).toI (ch.el (i:Int).toNat 2).toI (ch.el (i:Int).toNat 3).toI (ch.el (i:Int).toNat 4).toI (ch.el (i:Int).toNat 5))=true->false=riK ch pr)/\((!chKb (pr.len:Int) (ch.el (i:Int).toNat 0).toI (ch.el (i:Int).toNat 1).toI (ch.el (i:Int).toNat 2).toI (ch.el (i:Int).toNat 3).toI (ch.el (i:Int).toNat 4).toI (ch.el (i:Int).toNat 5))=false->∃ (j:Nat),(j<=ch.len/\∀ (j_1:Nat),j_1<j->chK (pr.len:Int) ch j_1=true)/\ch.len+(1:Nat)-j<ch.len+(1:Nat)-i/\IntKind.i64.wrap ((i:Int)+(1:Int))=(j:Int)/\ch.rows=ch.rows/\(ch.len:Int)=(ch.len:Int)/\ch.rows=ch.rows/\pr.rows=pr.rows))/\(decide ((i:Int)<(ch.len:Int))=false->(∃ (i:Nat),(i<=pr.len/\∀ (j:Nat),j<i->prK ch pr j=true)/\(0:Int)=(i:Int)/\pr.rows=pr.rows/\(pr.len:Int)=(pr.len:Int)/\ch.rows=ch.rows/\pr.rows=pr.rows)/\∀ (i:Nat),(i<=pr.len/\∀ (j:Nat),j<i->prK ch pr j=true)->(decide ((i:Int)<(pr.len:Int))=true->((0:Int)<=(i:Int)/\(i:Int)<(pr.len:Int))/\((decide ((pr.el (i:Int).toNat 0).toI<(0:Int)) ||decide ((pr.el (i:Int).toNat 0).toI>(6:Int)))=false/\True->kOK (pr.el (i:Int).toNat 1))/\((decide ((pr.el (i:Int).toNat 0).toI<(0:Int)) ||decide ((pr.el (i:Int).toNat 0).toI>(6:Int)) || !bkR ch (i:Int) (pr.el (i:Int).toNat 0).toI (pr.el (i:Int).toNat 1))=true->false=riK ch pr)/\((decide ((pr.el (i:Int).toNat 0).toI<(0:Int)) ||decide ((pr.el (i:Int).toNat 0).toI>(6:Int)) || !bkR ch (i:Int) (pr.el (i:Int).toNat 0).toI (pr.el (i:Int).toNat 1))=false->∃ (j:Nat),(j<=pr.len/\∀ (j_1:Nat),j_1<j->prK ch pr j_1=true)/\pr.len+(1:Nat)-j<pr.len+(1:Nat)-i/\IntKind.i64.wrap ((i:Int)+(1:Int))=(j:Int)/\pr.rows=pr.rows/\(pr.len:Int)=(pr.len:Int)/\ch.rows=ch.rows/\pr.rows=pr.rows))/\(decide ((i:Int)<(pr.len:Int))=false->true=riK ch pr)))) (by kernel_rfl) ?_
  intro ho;simp only [Nat.reduceAdd,Nat.zero_add,k_n];refine ⟨fun h=>?_,fun h=>?_⟩
  ·unfold riK;rw [h];rfl
  have h0:=h;simp only [Bool.or_eq_false_iff,decide_eq_false_iff_not] at h;refine ⟨⟨0,⟨Nat.zero_le _,fun j hj=>absurd hj (Nat.not_lt_zero j)⟩,rfl,(by (repeat' (with_reducible apply And.intro))<;>first |exact True.intro |rfl)⟩,fun i hp=>⟨fun hc=>?_,fun hc=>?_⟩⟩
  ·have hc:=of_decide_eq_true hc;have hi:i<ch.len:=by omega
   refine ⟨⟨by omega,by omega⟩,fun hq=>?_,fun hq=>?_⟩
   ·rw [Bool.not_eq_true'] at hq;unfold riK;rw [allB_no hi hq,Bool.and_false];rfl
   ·rw [Bool.not_eq_false'] at hq;exact ⟨i+1,⟨hi,k_ext hp.2 hq⟩,by omega,k_nx (by omega),(by (repeat' (with_reducible apply And.intro))<;>first |exact True.intro |rfl)⟩
  have hc:=of_decide_eq_false hc;have hch:allB ch.len (chK pr.len ch)=true:=allB_yes fun j hj=>hp.2 j (by omega)
  refine ⟨⟨0,⟨Nat.zero_le _,fun j hj=>absurd hj (Nat.not_lt_zero j)⟩,rfl,(by (repeat' (with_reducible apply And.intro))<;>first |exact True.intro |rfl)⟩,fun i hp=>⟨fun hc=>?_,fun hc=>?_⟩⟩
  ·have hc:=of_decide_eq_true hc;have hi:i<pr.len:=by omega
   have er:prK ch pr i = !(decide ((pr.el i 0).toI<0) ||decide ((pr.el i 0).toI>6) || !bkR ch i (pr.el i 0).toI (pr.el i 1)):=by
    unfold prK;simp only [Bool.not_or,Bool.not_not]
   refine ⟨⟨by omega,by omega⟩,fun _=>ho i hi,fun hq=>?_,fun hq=>?_⟩
   ·rw [hq] at er;unfold riK;rw [allB_no hi er,Bool.and_false]
   ·rw [hq] at er;exact ⟨i+1,⟨hi,k_ext hp.2 er⟩,by omega,k_nx (by omega),(by (repeat' (with_reducible apply And.intro))<;>first |exact True.intro |rfl)⟩
  ·have hc:=of_decide_eq_false hc;unfold riK;rw [h0,hch,allB_yes fun j hj=>hp.2 j (by omega)];rfl
 ·trivial
end Go.Proofs.Ytcfkhnlkfgmoiaa.Sx.Z
namespace Go.Proofs.Ytcfkhnlkfgmoiaa.Sx.Z
open Go.RowKit
def gyS (d:D):LS:=lyB d 0 1 (lsM 2 (.l []) (.l []))
def gyN (d:D):Int:=if (gyS d).full=true then 0 else (gyS d).n
def gyE (d:D):D:=if (gyS d).full=true then .l [] else (gyS d).e
def gyH (d:D):D:=if (gyS d).full=true then .l [] else (gyS d).h
def gyR (d:D):Int:=if (gyS d).full=true then 10 else 0
noncomputable def flayS:List Dat->Option Eff:=fun ds=>match ds with
 | [.d d]=>some {val:=.tup [.agg [.c (.int .i64 (.sym (gyN d))),.c (.osl 80 0 (.lit 0) (.sym (gyE d).len)),.c (.osl 3 1 (.lit 0) (.sym (gyH d).len))],.sc (.int .i64 (.sym (gyR d)))],vc:=[b4S d,gB d<=100000000,(gyH d).len<=1],nw:=[(0,.orow 80 (gyE d)),(1,.orow 3 (gyH d))]}
 |_=>none
noncomputable def flayC:Con:=conS [kBo] flayS
theorem flay_ok:ConOK Try.prog 14 flayC:=by
 refine fn_obS tt_ok mixed Try.func14 rfl (fun _ _=>by kernel_rfl) (A:=fun ds=>⟨fun _=>Cons.of [(23,lybC),(24,lyfC),(25,ssortC)],fun _=>none,fun _=>none⟩) (fun _ _=>(cons_cons lyb_ok (cons_cons lyf_ok (cons_cons ssort_ok cons_nil)))) (by kernel_rfl) ?_
 intro ds;unfold flayS;split
 ·rename_i d;refine kmp (q:=withv (lyB d (0:Int) (1:Int) (lsM (2:Int) (D.l []) (D.l []))) fun E14=>b4S d->gB d<=(100000000:Nat)->(gyH d).len<=1->b4S d/\LSok (2:Int) (D.l []) (D.l []) (gB d)/\(0:Nat)=(0:Nat)/\E14.e.len=E14.e.len/\(0:Nat)=(0:Nat)/\E14.h.len=E14.h.len/\((lsM E14.n E14.e E14.h).full=true->(0:Int)=gyN d/\(gyE d).len=(0:Nat)/\(gyH d).len=(0:Nat)/\(10:Int)=gyR d/\(gyE d).rows=[]/\(gyH d).rows=[])/\((lsM E14.n E14.e E14.h).full=false->(0:Nat)+(lsM E14.n E14.e E14.h).h.len<=(lsM E14.n E14.e E14.h).h.len/\((lsM E14.n E14.e E14.h).h.sub ((0:Nat)) ((0:Nat)+(lsM E14.n E14.e E14.h).h.len)).len<=1/\(lsM E14.n E14.e E14.h).n=gyN d/\(lsM E14.n E14.e E14.h).e.len=(gyE d).len/\(lsM E14.n E14.e E14.h).h.len=(gyH d).len/\(0:Int)=gyR d/\(lsM E14.n E14.e E14.h).e.rows=(gyE d).rows/\(lsM E14.n E14.e E14.h).h.rows=(gyH d).rows)) (by kernel_rfl) ?_
  dsimp +instances only [withv]
  intro h1 h2 h3;simp only [lsM_eta,Nat.zero_add,Nat.reduceAdd];have hL:LSok 2 (.l []) (.l []) (gB d):=⟨by decide,by omega,by show 0+gB d<=_;omega,by show 0+gB d<=_;omega⟩;refine ⟨h1,hL,?_⟩;have g0:lyB d 0 1 (lsM 2 (D.l []) (D.l []))=gyS d:=rfl;rw [g0];refine ⟨trivial,trivial,trivial,trivial,fun hf=>?_,fun hf=>?_⟩
  ·unfold gyN gyE gyH gyR;rw [if_pos hf,if_pos hf,if_pos hf,if_pos hf];exact ⟨rfl,rfl,rfl,rfl,rfl,rfl⟩
  ·have hn:¬ (gyS d).full=true:=by rw [hf];decide
   unfold gyH at h3;rw [if_neg hn] at h3;unfold gyN gyE gyH gyR;rw [if_neg hn,if_neg hn,if_neg hn,if_neg hn];refine ⟨Nat.le_refl _,?_,rfl,rfl,rfl,rfl,rfl,rfl⟩;rw [D.sub_len _ (Nat.le_refl _)];omega
 ·trivial
theorem sub_all (d:D):d.sub 0 d.len=nD d:=by
 show D.l (List.drop 0 (List.take d.rows.length d.rows))=_;rw [List.take_length];rfl
def bdR (pr:D) (i:Nat):List D:=[D.i (gyN (pr.el i 1)),nD (gyE (pr.el i 1)),nD (gyH (pr.el i 1))]
def bdV (pr:D) (i:Nat):List D:=[D.i (pr.el i 0).toI]
structure BdOK (pr:D):Prop where
 l:pr.len<=1000
 k:∀ i,i<pr.len->kOK (pr.el i 1)
 b:∀ i,i<pr.len->b4S (pr.el i 1)
 g:∀ i,i<pr.len->gB (pr.el i 1)<=100000000
 h:∀ i,i<pr.len->(gyH (pr.el i 1)).len<=1
 r:∀ i,i<pr.len->gyR (pr.el i 1)=0
noncomputable def fbdS:FSpec:=fun ds _=>match ds with
 | [.d ch,.d pr]=>some {val:=.tup [.agg [.c (.rows 66 (.l [])),.c (.rows 60 (cpTo pr.len (bdR pr))),.c (.rows 3 (cpTo pr.len (bdV pr)))],.sc (.int .i64 (.lit 0))],vc:=[ch.len=0,riK ch pr=true,BdOK pr]}
 |_=>none
noncomputable def fbdC:Con:=con [kPr] fbdS
theorem fbd_ok:ConOK Try.prog 5 fbdC:=by
 refine fn_ob tt_ok mixed Try.func5 rfl (fun _ _=>by kernel_rfl) (A:=fun ds=>⟨fun _=>Cons.of [(12,kriC),(14,flayC)],fun k=>match k,ds with | 5,[.d ch,.d pr]=>some {ι:=Nat,pre:=fun _ i=>i=0,μ:=fun i=>1-i,st:=fun s i=>famR s [(18,.one (.sc (.int .i64 (.sym ((i:Nat))))))] [1,2,3,4,16,17] [] [1,2,4]} | 10,[.d ch,.d pr]=>some {ι:=Nat,pre:=fun _ i=>i<=pr.len,μ:=fun i=>pr.len+1-i,st:=fun s i=>famR s [(33,.one (.sc (.int .i64 (.sym ((i:Nat))))))] [1,2,3,4,31,32] [(idOf s 4,.own 30 ([.c .nils,.c (.osl 60 (s.nx-1) (.lit 0) (.sym (i))),.c (.osl 3 (s.nx-2) (.lit 0) (.sym (i)))])),(s.nx-1,.orow 60 (cpTo i (bdR pr))),(s.nx-2,.orow 3 (cpTo i (bdV pr)))] [1,2]} |_,_=>none,fun _=>none⟩) (fun _ _=>(cons_cons kri_ok (cons_cons flay_ok cons_nil))) (by kernel_rfl) ?_
 intro ds fr;unfold fbdS;split
 ·rename_i ch pr;refine kmp (q:=withv (fun (i:Nat)=>pr.el (i:Int).toNat 1) fun E15=>withv (fun (i:Nat)=>D.l [[D.i (gyN (E15 i)),(gyE (E15 i)).sub ((0:Nat)) ((0:Nat)+(gyE (E15 i)).len),(gyH (E15 i)).sub ((0:Nat)) ((0:Nat)+(gyH (E15 i)).len)]]) fun E16=>ch.len=(0:Nat)->riK ch pr=true->BdOK pr->(∀ (i:Nat),i<pr.len->kOK (pr.el i 1))/\((!riK ch pr)=true->([]:List (List D))=[]/\List.map (bdR pr) (List.range pr.len)=[]/\List.map (bdV pr) (List.range pr.len)=[]/\(1:Int)=(0:Int))/\((!riK ch pr)=false->(∃ (i:Nat),i=(0:Nat)/\(0:Int)=(i:Int)/\(0:Int)=(0:Int)/\ch.rows=ch.rows/\(ch.len:Int)=(ch.len:Int)/\ch.rows=ch.rows/\pr.rows=pr.rows)/\∀ (i:Nat),i=(0:Nat)->(decide ((i:Int)<(ch.len:Int))=true->((0:Int)<=(i:Int)/\(i:Int)<(ch.len:Int))/\False)/\(decide ((i:Int)<(ch.len:Int))=false->(∃ (i:Nat),i.le pr.len/\(0:Int)=(i:Int)/\(0:Int)=(0:Int)/\pr.rows=pr.rows/\(pr.len:Int)=(pr.len:Int)/\i=(0:Nat)/\i=(0:Nat)/\List.map (bdR pr) (List.range i)=[]/\List.map (bdV pr) (List.range i)=[]/\ch.rows=ch.rows/\pr.rows=pr.rows)/\∀ (i:Nat),i.le pr.len->(decide ((i:Int)<(pr.len:Int))=true->((0:Int)<=(i:Int)/\(i:Int)<(pr.len:Int))/\b4S (E15 i)/\gB (E15 i)<=(100000000:Nat)/\(gyH (E15 i)).len<=1/\((gyR (E15 i) != (0:Int))=true->([]:List (List D))=[]/\List.map (bdR pr) (List.range pr.len)=[]/\List.map (bdV pr) (List.range pr.len)=[]/\gyR (E15 i)=(0:Int))/\((gyR (E15 i) != (0:Int))=false->(0:Nat)+(gyE (E15 i)).len<=(gyE (E15 i)).len/\(0:Nat)+(gyH (E15 i)).len<=(gyH (E15 i)).len/\i=(cpTo i (bdR pr)).len/\(i+((E16 i).sub (0:Nat) 1).len)*(56:Nat)<=(140737488355328:Nat)/\(0:Nat)+(1:Nat)<=(E16 i).len/\i=(cpTo i (bdV pr)).len/\(i+((D.l [[D.i (pr.el (i:Int).toNat 0).toI]]).sub (0:Nat) 1).len)*(8:Nat)<=(140737488355328:Nat)/\(0:Nat)+(1:Nat)<=(D.l [[D.i (pr.el (i:Int).toNat 0).toI]]).len/\∃ (j:Nat),j.le pr.len/\pr.len+(1:Nat)-j<pr.len+(1:Nat)-i/\IntKind.i64.wrap ((i:Int)+(1:Int))=(j:Int)/\(0:Int)=(0:Int)/\pr.rows=pr.rows/\(pr.len:Int)=(pr.len:Int)/\i+((E16 i).sub (0:Nat) 1).len=j/\i+((D.l [[D.i (pr.el (i:Int).toNat 0).toI]]).sub (0:Nat) 1).len=j/\List.map (bdR pr) (List.range i)++List.drop (0:Nat) (List.take 1 [[D.i (gyN (E15 i)),(gyE (E15 i)).sub ((0:Nat)) ((0:Nat)+(gyE (E15 i)).len),(gyH (E15 i)).sub ((0:Nat)) ((0:Nat)+(gyH (E15 i)).len)]])=List.map (bdR pr) (List.range j)/\List.map (bdV pr) (List.range i)++List.drop (0:Nat) (List.take 1 [[D.i (pr.el (i:Int).toNat 0).toI]])=List.map (bdV pr) (List.range j)/\ch.rows=ch.rows/\pr.rows=pr.rows))/\(decide ((i:Int)<(pr.len:Int))=false->(0:Nat)+i<=(cpTo i (bdR pr)).len/\(0:Nat)+i<=(cpTo i (bdV pr)).len/\([]:List (List D))=[]/\List.drop ((0:Nat)) (List.take ((0:Nat)+i) (List.map (bdR pr) (List.range i)))=List.map (bdR pr) (List.range pr.len)/\List.drop ((0:Nat)) (List.take ((0:Nat)+i) (List.map (bdV pr) (List.range i)))=List.map (bdV pr) (List.range pr.len)/\(0:Int)=(0:Int))))) (by kernel_rfl) ?_
  dsimp +instances only [withv]
  intro hc hr hb;simp only [Nat.zero_add,Nat.reduceAdd,k_n];have b1:=hb.l;refine ⟨hb.k,fun h=>(by rw [hr] at h;cases h),fun _=>⟨⟨0,rfl,(by (repeat' (with_reducible apply And.intro))<;>first |exact True.intro |rfl)⟩,fun q hq=>?_⟩⟩;subst hq;refine ⟨fun h=>absurd (of_decide_eq_true h) (by omega),fun _=>⟨⟨0,Nat.zero_le _,(by (repeat' (with_reducible apply And.intro))<;>first |exact True.intro |rfl)⟩,fun i hi=>⟨fun hc=>?_,fun hc=>?_⟩⟩⟩
  ·have hc:=of_decide_eq_true hc;have hi2:i<pr.len:=by omega
   have r0:=hb.r i hi2;rw [sub_all,sub_all];refine ⟨⟨by omega,by omega⟩,hb.b i hi2,hb.g i hi2,hb.h i hi2,fun h=>absurd h (by rw [r0];decide),fun _=>⟨Nat.le_refl _,Nat.le_refl _,(cpTo_len _ _).symm,(show (i+1)*56<=140737488355328 by omega),Nat.le_refl _,(cpTo_len _ _).symm,(show (i+1)*8<=140737488355328 by omega),Nat.le_refl _,i+1,hi2,by omega,k_nx (by omega),?_⟩⟩
   (repeat' (with_reducible apply And.intro))<;>first |exact True.intro |exact (cpTo_succ _ _).symm |rfl
  ·have hc:=of_decide_eq_false hc;have hi3:i=pr.len:=by have:i<=pr.len:=hi;omega
   subst hi3;have t1:=takeAll pr.len (bdR pr);have t2:=takeAll pr.len (bdV pr);rw [Nat.zero_add] at t1 t2
   (repeat' (with_reducible apply And.intro))<;>first |exact True.intro |exact t1 |exact t2 |(rw [cpTo_len];omega) |rfl |(trace_state;sorry)
 ·trivial
end Go.Proofs.Ytcfkhnlkfgmoiaa.Sx.Z
namespace Go.Proofs.Ytcfkhnlkfgmoiaa.Sx.Z
open Go.RowKit
def outL (ge:D) (nd:Int) (k:Nat):List Nat:=(List.range k).filter fun (j:Nat)=>(ge.el j 0).toI==nd
def outD (ge:D) (nd:Int) (k:Nat):D:=.l ((outL ge nd k).map fun (j:Nat)=>[D.i (j:Int)])
theorem outL_yes {ge:D} {nd:Int} {k:Nat} (h:((ge.el k 0).toI==nd)=true):outL ge nd (k+1)=outL ge nd k++[k]:=by
 unfold outL;rw [List.range_succ,List.filter_append,List.filter_cons,if_pos h];rfl
theorem outL_no {ge:D} {nd:Int} {k:Nat} (h:((ge.el k 0).toI==nd)=false):outL ge nd (k+1)=outL ge nd k:=by
 unfold outL;rw [List.range_succ,List.filter_append,List.filter_cons,if_neg (by rw [h];decide),List.filter_nil,List.append_nil]
theorem outD_len (ge:D) (nd:Int) (k:Nat):(outD ge nd k).len=(outL ge nd k).length:=List.length_map ..
theorem outL_le (ge:D) (nd:Int) (k:Nat):(outL ge nd k).length<=k:=Nat.le_trans (List.length_filter_le _ _) (by simp)
def inR (_:Nat):List D:=[D.i 7,D.i 0,D.i 0,D.i 0,D.i 0,D.i 0,D.i 0,D.l [],D.i 0,D.i 0,D.i 0,D.i 0,D.l [],D.i 0,D.i 0,D.i 0,D.l [],D.l [],D.l [],D.l []]
noncomputable def foutS:FSpec:=fun ds _=>match ds with
 | [.i n,.d ge,.d gh,.i nd]=>some {val:=.one (.sc (.rows 3 (outD ge nd ge.len))),vc:=[ge.len<=1000000]}
 |_=>none
noncomputable def foutC:Con:=con [.agg [.c (.int .i64),.c (.rows 80),.c (.rows 3)],iA] foutS
theorem fout_ok:ConOK Try.prog 11 foutC:=by
 refine fn_ob tt_ok mixed Try.func11 rfl (fun _ _=>by kernel_rfl) (A:=fun ds=>⟨fun _=>Cons.of [],fun k=>match k,ds with | 3,[.i n,.d ge,.d gh,.i nd]=>some {ι:=Nat,pre:=fun _ k=>k<=ge.len,μ:=fun k=>ge.len+1-k,st:=fun s k=>famR s [(11,.one (.sc (.int .i64 (.sym ((k:Nat)))))),(5,.one (.sc (.osl 3 (s.nx-1) (.lit 0) (.sym ((outD ge nd k).len)))))] [1,9,10] [(s.nx-1,.orow 3 (outD ge nd k))] []} |_,_=>none,fun _=>none⟩) (fun _ _=>cons_nil) (by kernel_rfl) ?_
 intro ds fr;unfold foutS;split
 ·rename_i n ge gh nd;refine kmp (q:=ge.len<=1000000->(∃ (i:Nat),i.le ge.len/\(0:Int)=(i:Int)/\(outD ge nd i).len=(0:Nat)/\nd=nd/\ge.rows=ge.rows/\(ge.len:Int)=(ge.len:Int)/\List.map (fun (j:Nat)=>[D.i (j:Int)]) (outL ge nd i)=[])/\∀ (i:Nat),i.le ge.len->(decide ((i:Int)<(ge.len:Int))=true->((0:Int)<=(i:Int)/\(i:Int)<(ge.len:Int))/\(((ge.el (i:Int).toNat 0).toI==nd)=true->(outD ge nd i).len=(outD ge nd i).len/\((outD ge nd i).len+((D.l [[D.i (i:Int)]]).sub (0:Nat) 1).len)*(8:Nat)<=(140737488355328:Nat)/\(0:Nat)+(1:Nat)<=(D.l [[D.i (i:Int)]]).len/\∃ (j:Nat),j.le ge.len/\ge.len+(1:Nat)-j<ge.len+(1:Nat)-i/\IntKind.i64.wrap ((i:Int)+(1:Int))=(j:Int)/\(outD ge nd i).len+((D.l [[D.i (i:Int)]]).sub (0:Nat) 1).len=(outD ge nd j).len/\nd=nd/\ge.rows=ge.rows/\(ge.len:Int)=(ge.len:Int)/\List.map (fun (j:Nat)=>[D.i (j:Int)]) (outL ge nd i)++List.drop (0:Nat) (List.take 1 [[D.i (i:Int)]])=List.map (fun (j:Nat)=>[D.i (j:Int)]) (outL ge nd j))/\(((ge.el (i:Int).toNat 0).toI==nd)=false->∃ (j:Nat),j.le ge.len/\ge.len+(1:Nat)-j<ge.len+(1:Nat)-i/\IntKind.i64.wrap ((i:Int)+(1:Int))=(j:Int)/\(outD ge nd i).len=(outD ge nd j).len/\nd=nd/\ge.rows=ge.rows/\(ge.len:Int)=(ge.len:Int)/\List.map (fun (j:Nat)=>[D.i (j:Int)]) (outL ge nd i)=List.map (fun (j:Nat)=>[D.i (j:Int)]) (outL ge nd j)))/\(decide ((i:Int)<(ge.len:Int))=false->(0:Nat)+(outD ge nd i).len<=(outD ge nd i).len/\List.drop ((0:Nat)) (List.take ((0:Nat)+(outD ge nd i).len) (List.map (fun (j:Nat)=>[D.i (j:Int)]) (outL ge nd i)))=List.map (fun (j:Nat)=>[D.i (j:Int)]) (outL ge nd ge.len))) (by kernel_rfl) ?_
  intro hc;have el:∀ i (x:D),(outD ge nd i).len+((D.l [[x]]).sub 0 (0+1)).len=(outD ge nd i).len+1:=fun _ _=>rfl
  have e0:∀ (i:Nat),((i:Int)).toNat=i:=fun i=>Int.toNat_natCast i
  refine ⟨⟨0,Nat.zero_le _,rfl,rfl,rfl,rfl,rfl,rfl⟩,fun i hi=>⟨fun hl=>?_,fun hl=>?_⟩⟩
  ·have hl:(i:Int)<(ge.len:Int):=of_decide_eq_true hl;have hw:IntKind.i64.wrap ((i:Int)+1)=((i+1:Nat):Int):=by rw [IntWalk.i64_in _ (by omega)];omega
   have hlt:=outL_le ge nd i;have hle:=outD_len ge nd i;refine ⟨⟨by omega,hl⟩,fun hq=>?_,fun hq=>?_⟩
   ·rw [e0] at hq;have e1:=outL_yes hq;refine ⟨rfl,by rw [el];omega,Nat.le_refl _,i+1,(by omega:i+1<=ge.len),by omega,hw,?_,rfl,rfl,rfl,?_⟩
    ·rw [el,outD_len,outD_len,e1,List.length_append];rfl
    ·rw [e1,List.map_append];rfl
   ·rw [e0] at hq;have e1:=outL_no hq;refine ⟨i+1,(by omega:i+1<=ge.len),by omega,hw,?_,rfl,rfl,rfl,?_⟩
    ·rw [outD_len,outD_len,e1]
    ·rw [e1]
  ·have hl:¬ (i:Int)<(ge.len:Int):=of_decide_eq_false hl;have hi':i<=ge.len:=hi;have:i=ge.len:=by omega
   subst this;refine ⟨by omega,?_⟩;rw [Nat.zero_add,outD_len,List.drop_zero,List.take_of_length_le (by rw [List.length_map];exact Nat.le_refl _)]
 ·trivial
noncomputable def rowwS:FSpec:=fun ds _=>match ds with
 | [.i n]=>some {val:=.one (.sc (.rows 55 (cpTo n.toNat inR))),vc:=[0<=n,n<=1000]}
 |_=>none
noncomputable def rowwC:Con:=con [lI] rowwS
theorem roww_ok:ConOK Try.prog 10 rowwC:=by
 refine fn_ob tt_ok mixed Try.func10 rfl (fun _ _=>by kernel_rfl) (A:=fun ds=>⟨fun _=>Cons.of [],fun k=>match k,ds with | 3,[.i n]=>some {ι:=Nat,pre:=fun _ i=>(i:Int)<=n,μ:=fun i=>1001-i,st:=fun s i=>famR s [(4,.one (.sc (.int .i64 (.sym ((i:Nat)))))),(3,.one (.sc (.osl 55 (s.nx-1) (.lit 0) (.sym (i)))))] [0] [(s.nx-1,.orow 55 (cpTo i inR))] []} |_,_=>none,fun _=>none⟩) (fun _ _=>cons_nil) (by kernel_rfl) ?_
 intro ds fr;unfold rowwS;split
 ·rename_i n;refine kmp (q:=(0:Int)<=n->n<=(1000:Int)->(∃ (i:Nat),(n-(i:Int)).NonNeg/\(0:Int)=(i:Int)/\i=(0:Nat)/\n=n/\List.map inR (List.range i)=[])/\∀ (i:Nat),(n-(i:Int)).NonNeg->(decide ((i:Int)<n)=true->i=(cpTo i inR).len/\(i+((D.l [[D.i 7,D.i 0,D.i 0,D.i 0,D.i 0,D.i 0,D.i 0,D.l [],D.i 0,D.i 0,D.i 0,D.i 0,D.l [],D.i 0,D.i 0,D.i 0,D.l [],D.l [],D.l [],D.l []]]).sub (0:Nat) 1).len)*(256:Nat)<=(140737488355328:Nat)/\(0:Nat)+(1:Nat)<=(D.l [[D.i 7,D.i 0,D.i 0,D.i 0,D.i 0,D.i 0,D.i 0,D.l [],D.i 0,D.i 0,D.i 0,D.i 0,D.l [],D.i 0,D.i 0,D.i 0,D.l [],D.l [],D.l [],D.l []]]).len/\∃ (j:Nat),(n-(j:Int)).NonNeg/\(1001:Nat)-j<(1001:Nat)-i/\IntKind.i64.wrap ((i:Int)+(1:Int))=(j:Int)/\i+((D.l [[D.i 7,D.i 0,D.i 0,D.i 0,D.i 0,D.i 0,D.i 0,D.l [],D.i 0,D.i 0,D.i 0,D.i 0,D.l [],D.i 0,D.i 0,D.i 0,D.l [],D.l [],D.l [],D.l []]]).sub (0:Nat) 1).len=j/\n=n/\List.map inR (List.range i)++List.drop (0:Nat) (List.take 1 [[D.i 7,D.i 0,D.i 0,D.i 0,D.i 0,D.i 0,D.i 0,D.l [],D.i 0,D.i 0,D.i 0,D.i 0,D.l [],D.i 0,D.i 0,D.i 0,D.l [],D.l [],D.l [],D.l []]])=List.map inR (List.range j))/\(decide ((i:Int)<n)=false->(0:Nat)+i<=(cpTo i inR).len/\List.drop ((0:Nat)) (List.take ((0:Nat)+i) (List.map inR (List.range i)))=List.map inR (List.range n.toNat))) (by kernel_rfl) ?_
  intro h1 h2
  (try simp only [Nat.zero_add,Nat.reduceAdd])
  refine ⟨⟨0,h1,(by (repeat' (with_reducible apply And.intro))<;>first |exact True.intro |rfl)⟩,fun i hi=>⟨fun hc=>?_,fun hc=>?_⟩⟩
  ·have hc:=of_decide_eq_true hc;refine ⟨(cpTo_len _ _).symm,(show (i+1)*256<=140737488355328 by omega),Nat.le_refl _,i+1,(by omega:((i+1:Nat):Int)<=n),by omega,k_nx (by omega),?_⟩
   (repeat' (with_reducible apply And.intro))<;>first |exact True.intro |exact (cpTo_succ _ _).symm |rfl
  ·have hc:=of_decide_eq_false hc;have hi3:n=(i:Int):=by have:(i:Int)<=n:=hi;omega
   subst hi3;rw [k_n];have t1:=takeAll i inR;rw [Nat.zero_add] at t1;exact ⟨by rw [cpTo_len];omega,t1⟩
 ·trivial
end Go.Proofs.Ytcfkhnlkfgmoiaa.Sx.Z
namespace Go.Proofs.Ytcfkhnlkfgmoiaa.Sx.Z
open Go.RowKit
theorem apR_lo {d:D} {r:List D} {i:Nat} (h:i<d.len) (j:Nat):(apR d r).el i j=d.el i j:=by
 show ((d.rows++[r]).getD i []).getD j (.i 0)=(d.rows.getD i []).getD j (.i 0);have h:i<d.rows.length:=h;rw [List.getD_eq_getElem?_getD (l:=d.rows++[r]),List.getElem?_append_left h,<- List.getD_eq_getElem?_getD]
theorem apR_at (d:D) (r:List D) (j:Nat):(apR d r).el d.len j=r.getD j (.i 0):=by
 show ((d.rows++[r]).getD d.rows.length []).getD j (.i 0)=_;rw [List.getD_eq_getElem?_getD (l:=d.rows++[r]),List.getElem?_append_right (Nat.le_refl _),Nat.sub_self];rfl
theorem elI {n i j:Nat} {f:Nat->List D} (h:i<n):(cpTo n f).el i j=(f i).getD j (.i 0):=by
 show (((List.range n).map f).getD i []).getD j (.i 0)=_;rw [List.getD_eq_getElem?_getD (l:=(List.range n).map f),List.getElem?_map,List.getElem?_range h];rfl
structure Rn (s:LS):Prop where
 n:2<=s.n
 f:∀ i,i<s.e.len->(s.e.el i 0).toI≠1
theorem Rn.edge {s:LS} (h:Rn s) {r:List D} (hr:(r.getD 0 (.i 0)).toI≠1):Rn (s.edge r):=by
 refine ⟨h.n,fun i hi=>?_⟩;have hi:i<(apR s.e r).len:=hi;rw [apR_len] at hi;show ((apR s.e r).el i 0).toI≠1
 rcases Nat.lt_or_ge i s.e.len with h1 |h1
 ·rw [apR_lo h1];exact h.f i h1
 ·obtain rfl:i=s.e.len:=by omega
  rw [apR_at];exact hr
theorem Rn.node {s:LS} (h:Rn s):Rn s.node:=⟨by have:=h.n;show 2<=s.n+1;omega,h.f⟩
theorem Rn.head {s:LS} (h:Rn s) (x:Int):Rn (s.head x):=⟨h.n,h.f⟩
theorem not_full {s:LS} (h:s.e.len<=400):s.full=false:=by
 unfold LS.full;exact decide_eq_false (by omega)
theorem inp_run {d:D} {c:Nat} (hc:c<=d.len) (hk:∀ i,i<c->(d.el i 0).toI=7) {t f:Int} {s:LS} (hs:Rn s) (hf:f≠1) (he:s.e.len+c<=400):∀ i,i<=c->Rn (itN (lyQ d t) i (s,f)).1/\(itN (lyQ d t) i (s,f)).1.e.len=s.e.len+i/\(itN (lyQ d t) i (s,f)).1.h=s.h/\(i<d.len->(itN (lyQ d t) i (s,f)).2≠1)
 | 0,_=>⟨hs,rfl,rfl,fun _=>hf⟩
 |i+1,h=>by
  obtain ⟨h1,h2,h3,h4⟩:=inp_run hc hk hs hf he i (by omega);have h4:=h4 (by omega);have e:itN (lyQ d t) (i+1) (s,f)=lyQ d t i (itN (lyQ d t) i (s,f)):=rfl;rw [e];generalize itN (lyQ d t) i (s,f)=q at h1 h2 h3 h4 ⊢;rw [lyQ_go (not_full (by omega)),hk i (by omega),lyT_7];have n1:Rn (nxN d.len i q.1):=by
   unfold nxN;split
   ·exact h1.node
   ·exact h1
  have n2:(nxN d.len i q.1).e=q.1.e:=by
   unfold nxN
   split<;>rfl
  have n3:(nxN d.len i q.1).h=q.1.h:=by
   unfold nxN
   split<;>rfl
  refine ⟨n1.edge h4,?_,?_,fun hl=>?_⟩
  ·rw [ls_el,n2,h2];omega
  ·show (nxN d.len i q.1).h=_;rw [n3,h3]
  ·show toN d.len i t q.1≠1;unfold toN;rw [if_pos (by omega)];have:=h1.n;omega
theorem inp_lay {b:Nat} {f t:Int} {s:LS} (hs:Rn s) (hf:f≠1) (he:s.e.len+b<=400):Rn (lyB (cpTo b inR) f t s)/\(lyB (cpTo b inR) f t s).e.len=s.e.len+max b 1/\(lyB (cpTo b inR) f t s).h=s.h:=by
 rw [lyB_eq,cpTo_len];split
 ·rename_i h0;subst h0;exact ⟨hs.edge hf,by rw [ls_el];rfl,rfl⟩
 ·rename_i h0;obtain ⟨h1,h2,h3,_⟩:=inp_run (d:=cpTo b inR) (c:=b) (t:=t) (by rw [cpTo_len];exact Nat.le_refl _) (fun i hi=>by rw [elI hi];rfl) hs hf he b (Nat.le_refl _);exact ⟨h1,by rw [h2];omega,h3⟩
def ifR (a b:Nat):List D:=[D.i 2,D.i 0,D.i 0,D.i 0,D.i 0,D.i 0,D.i 0,D.l [],D.i 1,D.i 1,D.i 1,D.i 0,D.l [],D.i 1,D.i 1,D.i 0,D.l [],cpTo b inR,cpTo a inR,D.l []]
def whR (b:Nat):List D:=[D.i 3,D.i 0,D.i 0,D.i 0,D.i 0,D.i 0,D.i 0,D.l [],D.i 1,D.i 1,D.i 1,D.i 0,D.l [],D.i 1,D.i 1,D.i 0,D.l [],cpTo b inR,D.l [],D.l []]
def bdy (a:Nat) (r:List D):D:=apR (cpTo a inR) r
theorem bdy_len (a:Nat) (r:List D):(bdy a r).len=a+1:=by unfold bdy;rw [apR_len,cpTo_len]
theorem bdy_lo {a i:Nat} {r:List D} (h:i<a) (j:Nat):(bdy a r).el i j=(inR i).getD j (.i 0):=by
 unfold bdy;rw [apR_lo (by rw [cpTo_len];exact h),elI h]
theorem bdy_at (a:Nat) (r:List D) (j:Nat):(bdy a r).el a j=r.getD j (.i 0):=by
 have:=apR_at (cpTo a inR) r j;rw [cpTo_len] at this;exact this
theorem rn_0:Rn (lsM 2 (.l []) (.l [])):=⟨Int.le_refl _,fun i h=>absurd h (Nat.not_lt_zero i)⟩
theorem bdy_run {a:Nat} {r:List D} (ha:a<=19):∃ q:LS × Int,Rn q.1/\q.1.e.len=a/\q.1.h = .l []/\q.2≠1/\gyS (bdy a r)=(lyQ (bdy a r) 1 a q).1/\lyQ (bdy a r) 1 a q=(lyT (r.getD 0 (.i 0)).toI (r.getD 1 (.i 0)).toI (r.getD 2 (.i 0)).toI (r.getD 3 (.i 0)).toI (r.getD 4 (.i 0)).toI (r.getD 5 (.i 0)).toI (r.getD 6 (.i 0)).toI (r.getD 7 (.i 0)) (r.getD 8 (.i 0)).toI (r.getD 9 (.i 0)).toI (r.getD 10 (.i 0)).toI (r.getD 11 (.i 0)).toI (r.getD 12 (.i 0)) (r.getD 13 (.i 0)).toI (r.getD 14 (.i 0)).toI (r.getD 15 (.i 0)).toI (r.getD 16 (.i 0)) (r.getD 17 (.i 0)) (r.getD 18 (.i 0)) (r.getD 19 (.i 0)) q.2 1 q.1,1):=by
 obtain ⟨h1,h2,h3,h4⟩:=inp_run (d:=bdy a r) (c:=a) (t:=1) (by rw [bdy_len];omega) (fun i hi=>by rw [bdy_lo hi];rfl) rn_0 (show (0:Int)≠1 by decide) (show 0+a<=400 by omega) a (Nat.le_refl _);have h2:(itN (lyQ (bdy a r) 1) a (lsM 2 (.l []) (.l []),0)).1.e.len=0+a:=h2;refine ⟨itN (lyQ (bdy a r) 1) a (lsM 2 (.l []) (.l []),0),h1,by omega,h3,h4 (by rw [bdy_len];omega),?_,?_⟩
 ·unfold gyS;rw [lyB_eq,bdy_len,if_neg (by omega)];rfl
 ·rw [lyQ_go (not_full (by omega))];have t1:toN (bdy a r).len a 1 (itN (lyQ (bdy a r) 1) a (lsM 2 (.l []) (.l []),0)).1=1:=if_neg (by rw [bdy_len];omega);have n1:nxN (bdy a r).len a (itN (lyQ (bdy a r) 1) a (lsM 2 (.l []) (.l []),0)).1=(itN (lyQ (bdy a r) 1) a (lsM 2 (.l []) (.l []),0)).1:=if_neg (by rw [bdy_len];omega);rw [t1,n1];simp only [bdy_at]
theorem if_S {a b:Nat} (ha:a<=19) (hb:b<=19):Rn (gyS (bdy a (ifR a b)))/\(gyS (bdy a (ifR a b))).e.len=a+2+max b 1+max a 1/\(gyS (bdy a (ifR a b))).h.len=0:=by
 obtain ⟨q,h1,h2,h3,h4,h5,h6⟩:=bdy_run (r:=ifR a b) ha;rw [h5,h6];show Rn (lyT 2 0 0 0 0 0 0 (.l []) 1 1 1 0 (.l []) 1 1 0 (.l []) (cpTo b inR) (cpTo a inR) (.l []) q.2 1 q.1)/\(lyT 2 0 0 0 0 0 0 (.l []) 1 1 1 0 (.l []) 1 1 0 (.l []) (cpTo b inR) (cpTo a inR) (.l []) q.2 1 q.1).e.len=_/\(lyT 2 0 0 0 0 0 0 (.l []) 1 1 1 0 (.l []) 1 1 0 (.l []) (cpTo b inR) (cpTo a inR) (.l []) q.2 1 q.1).h.len=0;rw [lyT_2];have n2:=h1.n;obtain ⟨x1,x2,x3⟩:=inp_lay (b:=b) (f:=q.1.n) (t:=1) (s:=q.1.node.edge (eC q.2 q.1.n 2 1 1 1 0 (.l []) 1 1 0 (.l []))) (h1.node.edge h4) (by omega) (by rw [ls_el,ls_ne];omega);generalize lyB (cpTo b inR) q.1.n 1 (q.1.node.edge (eC q.2 q.1.n 2 1 1 1 0 (.l []) 1 1 0 (.l [])))=X at x1 x2 x3 ⊢;rw [ls_el,ls_ne] at x2;have m2:=x1.n;obtain ⟨y1,y2,y3⟩:=inp_lay (b:=a) (f:=X.n) (t:=1) (s:=X.node.edge (eC q.2 X.n 2 (notK 1) 1 1 0 (.l []) 1 1 0 (.l []))) (x1.node.edge h4) (by omega) (by rw [ls_el,ls_ne];omega);refine ⟨y1,?_,?_⟩
 ·rw [y2,ls_el,ls_ne];omega
 ·rw [y3];show X.h.len=0;rw [x3];show q.1.h.len=0;rw [h3];rfl
theorem wh_S {a b:Nat} (ha:a<=19) (hb:b<=19):Rn (gyS (bdy a (whR b)))/\(gyS (bdy a (whR b))).e.len=a+2+max b 1/\(gyS (bdy a (whR b))).h.len=1:=by
 obtain ⟨q,h1,h2,h3,h4,h5,h6⟩:=bdy_run (r:=whR b) ha;rw [h5,h6];show Rn (lyT 3 0 0 0 0 0 0 (.l []) 1 1 1 0 (.l []) 1 1 0 (.l []) (cpTo b inR) (.l []) (.l []) q.2 1 q.1)/\(lyT 3 0 0 0 0 0 0 (.l []) 1 1 1 0 (.l []) 1 1 0 (.l []) (cpTo b inR) (.l []) (.l []) q.2 1 q.1).e.len=_/\(lyT 3 0 0 0 0 0 0 (.l []) 1 1 1 0 (.l []) 1 1 0 (.l []) (cpTo b inR) (.l []) (.l []) q.2 1 q.1).h.len=1;rw [lyT_3];have n2:=h1.n;obtain ⟨x1,x2,x3⟩:=inp_lay (b:=b) (f:=q.1.n) (t:=q.2) (s:=((q.1.head q.2).node.edge (eC q.2 q.1.n 2 1 1 1 0 (.l []) 1 1 0 (.l []))).edge (eC q.2 1 2 (notK 1) 1 1 0 (.l []) 1 1 0 (.l []))) (((h1.head q.2).node.edge (r:=eC q.2 q.1.n 2 1 1 1 0 (.l []) 1 1 0 (.l [])) h4).edge (r:=eC q.2 1 2 (notK 1) 1 1 0 (.l []) 1 1 0 (.l [])) h4) (by omega) (by rw [ls_el,ls_el,ls_ne,ls_he];omega);refine ⟨x1,?_,?_⟩
 ·rw [x2,ls_el,ls_el,ls_ne,ls_he];omega
 ·rw [x3];show (apR q.1.h [D.i q.2]).len=1;rw [apR_len,h3];rfl
theorem out_0 {s:LS} (h:Rn s):(outD s.e 1 s.e.len).len=0:=by
 rw [outD_len];have:outL s.e 1 s.e.len=[]:=by
  unfold outL;rw [List.filter_eq_nil_iff];intro j hj;have:=h.f j (List.mem_range.1 hj)
  simpa using this
 rw [this];rfl
end Go.Proofs.Ytcfkhnlkfgmoiaa.Sx.Z
namespace Go.Proofs.Ytcfkhnlkfgmoiaa
open Go.RowKit
theorem place_yes (x n:Int) (w:World) (h0:0<=x) (h1:x<n) :
 Calls Try.prog 32 #[.int .i64 x,.int .i64 n] w fun e w'=>e = .returned (.bool true)/\w=w':=by
 go_enter Try.func32,Try.ntmps32
 go_wp2
 go_ret
 exact ⟨by simp,rfl⟩
theorem var_yes (A:Option Addr) (n c:Nat) (p v x:Int) (w:World) (h0:0<=x) (h1:x<v) :
 Calls Try.prog 51 #[.agg #[.slice A n c,.int .i64 p,.int .i64 v],.int .i64 x] w fun e w'=>e = .returned (.bool true)/\Below w.heap.size w w':=by
 go_enter Try.func51,Try.ntmps51
 go_wp2_with (go_at_call 32;refine (place_yes _ _ _ h0 h1).mono ?_;rintro e w' ⟨rfl,rfl⟩)
 go_ret
 exact ⟨rfl,by go_grown⟩
theorem exprNothing_any (w:World) :
 Calls Try.prog 78 #[.agg #[.int .i64 0,.int .i64 0,.int .i64 0,.slice none 0 0]] w fun e w'=>e = .returned (.bool true)/\Below w.heap.size w w':=by
 go_enter Try.func78,Try.ntmps78
 go_wp2
 go_ret
 exact ⟨rfl,by go_grown⟩
theorem exprNum_any (A:Option Addr) (n c:Nat) (p v x:Int) (w:World) (h0:0<=x) (h1:x<=2147483647) :
 Calls Try.prog 52 #[.agg #[.slice A n c,.int .i64 p,.int .i64 v],.agg #[.int .i64 1,.int .i64 x,.int .i64 0,.slice none 0 0]] w fun e w'=>e = .returned (.bool true)/\Below w.heap.size w w':=by
 go_enter Try.func52,Try.ntmps52
 go_wp2
 go_ret
 exact ⟨by simp,by go_grown⟩
end Go.Proofs.Ytcfkhnlkfgmoiaa
namespace Go.Proofs.Ytcfkhnlkfgmoiaa
open Go.RowKit
theorem bel_up {B:Nat} {w w1 w2:World} (h1:Below B w w1) (hB:B<=w.heap.size) (h2:Below w1.heap.size w1 w2):Below B w w2:=h1.trans (h2.mono (Nat.le_trans hB h1.size))
theorem blk_lt {W:World} {b:Nat} {x:Obj} (h:W.heap[b]? = some x):b<W.heap.size:=by
 rcases Nat.lt_or_ge b W.heap.size with h1 |h1
 ·exact h1
 ·rw [Array.getElem?_eq_none h1] at h;cases h
theorem blkA (W:World) (x:Obj) {b:Nat} (h:W.heap.size=b):(W.alloc x).heap[b]? = some x:=by
 subst h;exact heap_alloc_new W x
theorem blk_keep {W W1:World} {b:Nat} {x:Obj} (hb:Below W.heap.size W W1) (h:W.heap[b]? = some x):W1.heap[b]? = some x:=(hb.block b (blk_lt h)).trans h
theorem blkUp {W:World} {b:Nat} {x:Obj} (h:W.heap[b]? = some x) (ob:Obj):(W.alloc ob).heap[b]? = some x:=blk_keep ((Below.refl _ W).alloc (Nat.le_refl _) ob) h
theorem row_of {W:World} {b:Nat} {R:Array Value} {t:TypeId} {fr:Nat × Nat} (h:W.heap[b]? = some (.cells R t fr)):∀ o,W.cell? ⟨b,o,none⟩=R[o]?:=fun o=>cell_of_row W b o R t fr h
theorem info_st:(Try.prog.info? 55).map (·.size)=some 20:=by kernel_rfl
theorem wpList_store_new {P:Program} {ops:Array Oper} {rest:List Oper} {o:Oper} {a:Act} {w:World} {Q:Exit->Act->World->Prop} (hgd:o.guard=none) (ty:TypeId) (x y:Operand) (ho:o.op = .store ty x y)
 (hd:o.dst=none) (W:World) (b:Nat) (c cells:Array Value) (hw:w=W.alloc (.cells c ty)) (hb:W.heap.size=b) (hx:a.eval x = .pointer (some ⟨b,0,none⟩)) (hy:a.eval y = .agg cells)
 (hi:(P.info? ty).map (·.size)=some cells.size) (hold:c.size=cells.size) (h1:cells.all (·.oneCell')=true)
 (h:wpList P ops Q rest a (W.alloc (.cells cells ty))):wpList P ops Q (o::rest) a w:=by
 subst hw hb;refine wpList_plain hgd fun _ hK=>?_
 unfold Oper.wp execOp;simp only [ho,hx,hy,run_storeAt_new W ty c cells hi hold h1,Sem.run_bind,Sem.run_pure,Result.andThen_ok];have e:a.put o.dst undef=a:=by rw [hd];rfl
 have h2:=hK _ _ h;rw [<- e] at h2;exact h2
theorem ld_row {P:Program} {ops:Array Oper} {rest:List Oper} {o:Oper} {a:Act} {w:World} {Q:Exit->Act->World->Prop} (ty:TypeId) (x:Operand) (ho:o.op = .load ty x)
 (g:Nat) (hx:a.eval x = .pointer (some ⟨g,0,none⟩)) (t:TypeId) (cs:Array Value) (fr:Nat × Nat) (d:TypeDesc) (hg:w.heap[g]? = some (.cells cs t fr))
 (hu:P.underlying ty=some d) (hd:(match d with | .struct _ | .array _ _=>true |_=>false)=true) (hi:(P.info? ty).map (·.size)=some cs.size) (hw:Region.wanted o (yielded ops a.tmps)=true)
 (h:wpList P ops Q rest (a.put o.dst (.agg cs)) w):wpList P ops Q (o::rest) a w:=
 BigFrame.wpList_want hw fun _ hK=>wp_load_row ty x ho g hx t cs fr d hg hu hd hi (hK _ _ h)
theorem wp_world {P:Program} {c:Code} {Q:Exit->Act->World->Prop} {a:Act} {w:World} (F:World->Prop) (hF:F w) (h:∀ W,F W->c.wp P Q a W):c.wp P Q a w:=h w hF
set_option maxHeartbeats 1000000 in
theorem nothing_any (w:World) :
 Calls Try.prog 53 #[.agg #[.int .i64 0,.int .i64 0,.int .i64 0,.int .i64 0,.int .i64 0,.int .i64 0,.int .i64 0,.slice none 0 0,.int .i64 0,.int .i64 0,.int .i64 0,.int .i64 0,.slice none 0 0,.int .i64 0,.int .i64 0,.int .i64 0,.slice none 0 0,.slice none 0 0,.slice none 0 0,.slice none 0 0]] w fun e w'=>e = .returned (.bool true)/\Below w.heap.size w w':=by
 go_enter Try.func53,Try.ntmps53
 go_wp2_with fail
 refine (exprNothing_any _).mono ?_
 rintro e w1 ⟨rfl,hb1⟩;have k1_0:=Lib.hid (blk_keep hb1 (b:=w.heap.size) (blkA _ _ (by first |rfl |(simp only [World.size_alloc]))));have hB1:Below w.heap.size w w1:=bel_up (by go_grown) (Nat.le_refl _) hb1;have hz1:w.heap.size+1<=w1.heap.size:=by have:=hb1.size;simp only [World.size_alloc] at this;omega
 clear hb1;have r1_0:=row_of k1_0.out
 go_wp2_with fail
 refine (exprNothing_any _).mono ?_
 rintro e w2 ⟨rfl,hb2⟩;have k2_0:=Lib.hid (blk_keep hb2 k1_0.out);have hB2:Below w.heap.size w w2:=bel_up hB1 (Nat.le_refl _) hb2;have hz2:w.heap.size+1<=w2.heap.size:=Nat.le_trans hz1 hb2.size;clear hb2 hB1 hz1 k1_0 r1_0;have r2_0:=row_of k2_0.out
 go_wp2_with fail
 refine (exprNothing_any _).mono ?_
 rintro e w3 ⟨rfl,hb3⟩;have k3_0:=Lib.hid (blk_keep hb3 k2_0.out);have hB3:Below w.heap.size w w3:=bel_up hB2 (Nat.le_refl _) hb3;have hz3:w.heap.size+1<=w3.heap.size:=Nat.le_trans hz2 hb3.size;clear hb3 hB2 hz2 k2_0 r2_0;have r3_0:=row_of k3_0.out
 go_wp2_with fail
 go_ret
 exact ⟨rfl,hB3⟩
end Go.Proofs.Ytcfkhnlkfgmoiaa
namespace Go.Proofs.Ytcfkhnlkfgmoiaa
open Go.RowKit
theorem ld_mid {P:Program} {ops:Array Oper} {rest:List Oper} {o:Oper} {a:Act} {w:World} {Q:Exit->Act->World->Prop} (ty:TypeId) (x:Operand) (ho:o.op = .load ty x)
 (b k:Nat) (hx:a.eval x = .pointer (some ⟨b,k,none⟩)) (cs:List Value) (d:TypeDesc) (hc:w.rangeAt b k cs)
 (hu:P.underlying ty=some d) (hd:d.isRow=true) (hi:(P.info? ty).map (·.size)=some cs.length) (hw:Region.wanted o (yielded ops a.tmps)=true)
 (h:wpList P ops Q rest (a.put o.dst (.agg cs.toArray)) w):wpList P ops Q (o::rest) a w:=
 BigFrame.wpList_want hw fun _ hK=>wp_load_mid ty x ho b k hx cs d hc hu hd hi (hK _ _ h)
theorem range_keep {W W1:World} {B b o:Nat} {cs:List Value} (hb:Below B W W1) (hlt:b<B) (h:W.rangeAt b o cs):W1.rangeAt b o cs:=fun j v hv=>(hb.cell (p:=⟨b,o+j,none⟩) hlt).trans (h j v hv)
def ElemsAt (w:World) (B:Nat) (A:Option Addr) (k size:Nat) (L:Nat->List Value):Prop:=
 ∀ i,i<k->∃ g,A=some ⟨g,0,none⟩/\g<B/\w.rangeAt g (i*size) (L i)/\(L i).length=size/\∀ x∈L i,x.oneCell'=true
theorem ElemsAt.below {w w':World} {B B':Nat} {A:Option Addr} {k size:Nat} {L:Nat->List Value} (h:ElemsAt w B A k size L) (hb:Below B w w') (hB:B<=B'):ElemsAt w' B' A k size L:=fun i hi=>by
 obtain ⟨g,h1,h2,h3,h4,h5⟩:=h i hi;exact ⟨g,h1,Nat.lt_of_lt_of_le h2 hB,range_keep hb h2 h3,h4,h5⟩
def StOk (w:World) (A:Option Addr) (n c:Nat) (p v:Int) (cs:List Value):Prop:=
 ∀ W,Below w.heap.size w W->Calls Try.prog 34 #[.agg #[.slice A n c,.int .i64 p,.int .i64 v],.agg cs.toArray] W fun e w'=>e = .returned (.bool true)/\Below W.heap.size W w'
theorem info_st' {cs:List Value} (h:cs.length=20):(Try.prog.info? 55).map (·.size)=some cs.toArray.size:=by rw [List.size_toArray,h];exact info_st
set_option maxRecDepth 100000 in
set_option maxHeartbeats 2000000 in
theorem body_right (A:Option Addr) (n c:Nat) (p v:Int) (D:Option Addr) (k cap:Nat) (L:Nat->List Value) (w:World) (hk:k<=1000000) (_hkc:k<=cap) (hm:ElemsAt w w.heap.size D k 20 L) (hs:∀ i,i<k->StOk w A n c p v (L i)) :
 Calls Try.prog 21 #[.agg #[.slice A n c,.int .i64 p,.int .i64 v],.slice D k cap] w fun e w'=>e = .returned (.bool true)/\Below w.heap.size w w':=by
 replace hm:=Lib.hid hm
 replace hs:=Lib.hid hs
 go_enter Try.func21,Try.ntmps21
 go_wp2_with fail
 go_loopw [9] (fun i wr=>∃ q:Nat,q<=k/\i = .int .i64 q/\Hid (wr.heap[w.heap.size]? = some (.cells #[.slice A n c,.int .i64 p,.int .i64 v] 86 (0,0)))/\Below w.heap.size w wr) (fun i _=>k-(intOf i).toNat)
 case atStart=>exact ⟨0,by omega,rfl,Lib.hid (blkA _ _ rfl),(Below.refl _ _).alloc (Nat.le_refl _) _⟩
 case round=>
  obtain ⟨q,hq,rfl,hk0,hB⟩:=hrel
  by_cases hlt:q<k
  ·obtain ⟨g,rfl,hg,hr,hl,h1⟩:=hm.out q hlt;have Hr:=Lib.hid (range_keep hB hg hr);obtain ⟨cs,hcs⟩:∃ cs,L q=cs:=⟨_,rfl⟩;have Hst:=Lib.hid (hs.out q hlt);rw [hcs] at Hr hl h1 Hst;have Hl:=Lib.hid hl;have H1:=Lib.hid (all_oneCell_toArray h1);clear hr hl h1 hcs;have e20:(wr.heap.size:Nat)=wr.heap.size:=rfl;clear e20
   go_wp2_with (first
    |(refine ld_mid 55 _ rfl _ _ rfl cs _ Hr.out Try.underlying55 rfl (by rw [Hl.out];exact info_st) rfl ?_)
    |(refine wpList_store_new rfl 55 _ _ rfl rfl _ _ _ _ rfl rfl rfl rfl (info_st' Hl.out) (by simp [Hl.out]) H1.out ?_)
    |(refine ld_row 86 _ rfl _ rfl _ _ _ _ (blkUp hk0.out _) Try.underlying86 rfl (by kernel_rfl) rfl ?_)
    |(refine ld_row 55 _ rfl _ rfl _ _ _ _ (blkA _ _ rfl) Try.underlying55 rfl (info_st' Hl.out) rfl ?_))
   refine (Hst.out _ (hB.alloc hB.size _)).mono ?_
   rintro e w2 ⟨rfl,hb2⟩;have k2:=Lib.hid (blk_keep hb2 (blkUp hk0.out _));have hB2:Below w.heap.size w w2:=bel_up (hB.alloc hB.size _) (Nat.le_refl _) hb2;clear hb2 hk0 hB Hst Hr Hl H1
   go_wp2
   go_roundw
   case rel=>exact ⟨q+1,by omega,by go_num,k2,hB2⟩
   case measure=>simp [intOf];omega
  ·go_wp2
   go_ret
   exact ⟨rfl,hB⟩
end Go.Proofs.Ytcfkhnlkfgmoiaa
namespace Go.Proofs.Ytcfkhnlkfgmoiaa
open Go.RowKit
def LayAt (w:World) (base g:Nat) (N:Int) (ne:Nat) (es:List Value) (nh:Nat) (hs:List Value):Prop:=
 ∃ (E H:Option Addr) (ce ch:Nat),w.heap[g]? = some (.cells #[.int .i64 N,.slice E ne ce,.slice H nh ch] 90 (0,0)) /\
   w.ownsRow base 80 19 (.slice E ne ce) ne es/\w.ownsRow base 3 1 (.slice H nh ch) nh hs/\base<=g /\
   (∀ b,(Value.slice E ne ce).ownBlock=some b->b≠g)/\(∀ b,(Value.slice H nh ch).ownBlock=some b->b≠g/\(Value.slice E ne ce).ownBlock≠some b)
theorem info_edge:(Try.prog.info? 80).map (·.size)=some 19:=by kernel_rfl
theorem info_edge':(Try.prog.info? 80).map (fun i=>(i.zero,i.size,i.bytes))=some (some (.agg #[.int .i64 0,.int .i64 0,.int .i64 0,.int .i64 0,.int .i64 0,.int .i64 0,.int .i64 0,.int .i64 0,.int .i64 0,.slice none 0 0,.int .i64 0,.int .i64 0,.int .i64 0,.int .i64 0,.slice none 0 0,.int .i64 0,.int .i64 0,.int .i64 0,.slice none 0 0]),19,200):=by kernel_rfl
set_option maxRecDepth 100000 in
set_option maxHeartbeats 2000000 in
theorem full_any (w:World) (g:Nat) (x0 x2:Value) (E:Option Addr) (ne ce:Nat) (h:w.heap[g]? = some (.cells #[x0,.slice E ne ce,x2] 90 (0,0))) :
 Calls Try.prog 24 #[.pointer (some ⟨g,0,none⟩)] w fun e w'=>e = .returned (.bool (decide (400<ne)))/\w=w':=by
 have r:=row_of h;clear h
 go_enter Try.func24,Try.ntmps24
 go_wp2
 go_ret
 exact ⟨by show Ending.returned (.bool (decide (400<(ne:Int))))=_;congr 2;rw [decide_eq_decide];omega,rfl⟩
set_option maxRecDepth 100000 in
set_option maxHeartbeats 2000000 in
theorem node_any (w:World) (g:Nat) (N:Int) (x1 x2:Value) (h:w.heap[g]? = some (.cells #[.int .i64 N,x1,x2] 90 (0,0))) (h0:0<=N) (h1:N<=1000000000) :
 Calls Try.prog 36 #[.pointer (some ⟨g,0,none⟩)] w fun e w'=>e = .returned (.int .i64 N)/\w'=w.setCell ⟨g,0,none⟩ (.int .i64 (N+1)):=by
 have r:=row_of h;have f0:w.frozen? ⟨g,0,none⟩=false:=by simp [World.frozen?,h]
 clear h
 go_enter Try.func36,Try.ntmps36
 go_wp2
 go_ret
 exact ⟨rfl,rfl⟩
theorem grown_blk {W w1:World} {own:Option Nat} {b:Nat} {x:Obj} (h:W.grownBy w1 own) (hb:W.heap[b]? = some x) (hne:own≠some b):w1.heap[b]? = some x:=(h.block b (blk_lt hb) (fun e=>hne e.symm)).trans hb
theorem frozen_of {W:World} {b:Nat} {R:Array Value} {t:TypeId} (h:W.heap[b]? = some (.cells R t (0,0))) (o:Nat):W.frozen? ⟨b,o,none⟩=false:=by simp [World.frozen?,h]
theorem lay_grown {W w1:World} {base g:Nat} {N:Int} {E H:Option Addr} {ne ce nh ch gg cap:Nat} {es' hs:List Value} {n':Nat} (hgrow:W.grownBy w1 (Value.slice E ne ce).ownBlock) (hg:W.heap[g]? = some (.cells #[.int .i64 N,.slice E ne ce,.slice H nh ch] 90 (0,0)))
 (hH:W.ownsRow base 3 1 (.slice H nh ch) nh hs) (hbg:base<=g) (hEg:∀ b,(Value.slice E ne ce).ownBlock=some b->b≠g) (hHg:∀ b,(Value.slice H nh ch).ownBlock=some b->b≠g/\(Value.slice E ne ce).ownBlock≠some b)
 (hown:w1.ownsRow base 80 19 (.slice (some ⟨gg,0,none⟩) n' cap) n' es') (SZ:Nat) (hSZ:W.heap.size=SZ) (hat:(Value.slice E ne ce).ownBlock=some gg ∨ gg=SZ) :
 LayAt (w1.setCell ⟨g,1,none⟩ (.slice (some ⟨gg,0,none⟩) n' cap)) base g N n' es' nh hs:=by
 have hgl:=blk_lt hg;have hgg:gg≠g:=by
  rcases hat with h |h
  ·exact hEg gg h
  ·omega
 have k1:=grown_blk hgrow hg (fun e=>hEg g e rfl);have hset:w1.grownBy (w1.setCell ⟨g,1,none⟩ (.slice (some ⟨gg,0,none⟩) n' cap)) (some g):=⟨rfl,rfl,rfl,by simp,fun i hi hne=>Below.heap_setCell _ _ _ _ (by rintro rfl;exact hne rfl)⟩;refine ⟨some ⟨gg,0,none⟩,H,cap,ch,?_,hown.kept hset (.inr (by simp [Value.ownBlock,hgg])),(hH.kept hgrow ?_).kept hset ?_,hbg,fun b hb=>by simp [Value.ownBlock] at hb;omega,fun b hb=>⟨(hHg b hb).1,?_⟩⟩
 ·simp [World.setCell,Array.getElem?_modify,k1]
 ·cases hh:(Value.slice H nh ch).ownBlock with
  |none=>exact .inl rfl
  |some b=>exact .inr (fun e=>(hHg b hh).2 e.symm)
 ·cases hh:(Value.slice H nh ch).ownBlock with
  |none=>exact .inl rfl
  |some b=>exact .inr (fun e=>(hHg b hh).1 (by simpa using e))
 ·intro e;simp [Value.ownBlock] at e;subst e;have h2:=(hH.lt _ hb).2
  rcases hat with h |h
  ·exact (hHg _ hb).2 h
  ·omega
theorem below_grown {B:Nat} {w W w1:World} {own:Option Nat} (hgrow:W.grownBy w1 own) (hb:Below w.heap.size w W) (hB:B<=w.heap.size) (ho:∀ b,own=some b->B<=b):Below B w w1:=(hb.mono hB).grown hgrow (Nat.le_trans hB hb.size) ho
def EdgeV (cs:List Value):Prop:=∃ (xf xt xk xv xc xg xa xb xd xo ya yb yd za zb zd:Int) (A1 A2 A3:Option Addr) (l1 j1 l2 j2 l3 j3:Nat),cs=[.int .i64 xf,.int .i64 xt,.int .i64 xk,.int .i64 xv,.int .i64 xc,.int .i64 xg,.int .i64 xa,.int .i64 xb,.int .i64 xd,.slice A1 l1 j1,.int .i64 xo,.int .i64 ya,.int .i64 yb,.int .i64 yd,.slice A2 l2 j2,.int .i64 za,.int .i64 zb,.int .i64 zd,.slice A3 l3 j3]
theorem lay_below {w w1:World} {base g:Nat} {N:Int} {ne nh:Nat} {es hs:List Value} (h:LayAt w base g N ne es nh hs) (hb:Below w.heap.size w w1):LayAt w1 base g N ne es nh hs:=by
 obtain ⟨E,H,ce,ch,hg,hE,hH,hbg,hEg,hHg⟩:=h;have hgr:w.grownBy w1 none:=⟨hb.os,hb.tape,hb.output,hb.size,fun k hk _=>hb.block k hk⟩;exact ⟨E,H,ce,ch,blk_keep hb hg,hE.kept hgr (by cases E<;>simp [Value.ownBlock]),hH.kept hgr (by cases H<;>simp [Value.ownBlock]),hbg,hEg,hHg⟩
def LoadS (t:TypeId) (v:Value):Sem Value:=Instr.loadAt t v
theorem to_LoadS (v:Value):Instr.loadAt 80 v=LoadS 80 v:=rfl
section
attribute [local go_sem ↓] to_LoadS
set_option maxRecDepth 100000 in
set_option maxHeartbeats 4000000 in
theorem edge_any (w:World) (base g:Nat) (N:Int) (ne:Nat) (es:List Value) (nh:Nat) (hs:List Value) (cs:List Value) (h:LayAt w base g N ne es nh hs) (hn:ne<=100000) (hcs:EdgeV cs) :
 Calls Try.prog 35 #[.pointer (some ⟨g,0,none⟩),.agg cs.toArray] w fun e w'=>e = .returned (.tuple #[])/\LayAt w' base g N (ne+1) (es++cs) nh hs/\Below base w w':=by
 obtain ⟨E,H,ce,ch,hg,hE,hH,hbg,hEg,hHg⟩:=h;obtain ⟨i0,hi,hz0,hz1,hz2⟩:=info_parts info_edge';obtain ⟨xf,xt,xk,xv,xc,xg,xa,xb,xd,xo,ya,yb,yd,za,zb,zd,A1,A2,A3,l1,j1,l2,j2,l3,j3,rfl⟩:=hcs;have hlt:=blk_lt hg;have kg:=Lib.hid hg
 replace hE:=Lib.hid hE
 replace hH:=Lib.hid hH
 have Hi:=Lib.hid hi;clear hg hi
 go_enter Try.func35,Try.ntmps35
 go_upto_region 1 with fail
 refine wp_world (fun W=>W.heap[g]? = some (.cells #[.int .i64 N,.slice E ne ce,.slice H nh ch] 90 (0,0))/\W.heap[w.heap.size]? = some (.cells #[.int .i64 xf,.int .i64 xt,.int .i64 xk,.int .i64 xv,.int .i64 xc,.int .i64 xg,.int .i64 xa,.int .i64 xb,.int .i64 xd,.slice A1 l1 j1,.int .i64 xo,.int .i64 ya,.int .i64 yb,.int .i64 yd,.slice A2 l2 j2,.int .i64 za,.int .i64 zb,.int .i64 zd,.slice A3 l3 j3] 80 (0,0))/\Below w.heap.size w W/\W.heap.size=w.heap.size+1) ⟨blkUp kg.out _,blkA _ _ rfl,(Below.refl _ _).alloc (Nat.le_refl _) _,by simp⟩ ?_
 rintro w0 ⟨k0,k1,hB0,hs0⟩;have d1:w0.cell? ⟨g,1,none⟩=some (.slice E ne ce):=row_of k0 1;have hg0:=blk_lt k0;have ra:w0.drew.rangeAt w.heap.size 0 [.int .i64 xf,.int .i64 xt,.int .i64 xk,.int .i64 xv,.int .i64 xc,.int .i64 xg,.int .i64 xa,.int .i64 xb,.int .i64 xd,.slice A1 l1 j1,.int .i64 xo,.int .i64 ya,.int .i64 yb,.int .i64 yd,.slice A2 l2 j2,.int .i64 za,.int .i64 zb,.int .i64 zd,.slice A3 l3 j3]:=fun j v hv=>by rw [Nat.zero_add];exact (row_of k1 j).trans (by simpa using hv)
 have hsd:w0.drew.heap.size=w.heap.size+1:=hs0;have hEd0:w0.drew.ownsRow base 80 19 (.slice E ne ce) ne es:=(hE.out.kept (row:=none) ⟨hB0.os,hB0.tape,hB0.output,hB0.size,fun k hk _=>hB0.block k hk⟩ (by cases E<;>simp [Value.ownBlock])).drew;have hEd:=Lib.hid hEd0;clear hEd0;have hld:(LoadS 80 (.pointer (some ⟨w.heap.size,0,none⟩))).run Try.prog w0.drew = .ok (.agg #[.int .i64 xf,.int .i64 xt,.int .i64 xk,.int .i64 xv,.int .i64 xc,.int .i64 xg,.int .i64 xa,.int .i64 xb,.int .i64 xd,.slice A1 l1 j1,.int .i64 xo,.int .i64 ya,.int .i64 yb,.int .i64 yd,.slice A2 l2 j2,.int .i64 za,.int .i64 zb,.int .i64 zd,.slice A3 l3 j3]) w0.drew:=run_loadAt_mid _ _ _ _ _ _ ra Try.underlying80 rfl info_edge;clear ra;have hHd:=Lib.hid ((hH.out.kept (row:=none) ⟨hB0.os,hB0.tape,hB0.output,hB0.size,fun k hk _=>hB0.block k hk⟩ (by cases H<;>simp [Value.ownBlock])).drew);have hBd:Below w.heap.size w w0.drew:=⟨hB0.os,hB0.tape,hB0.output,hB0.size,hB0.block⟩
 go_region_law (first
  |(refine step_append_lies _ (by rfl) _ _ _ (by rfl) base 80 i0 _ 19 200 Try.underlying58 Hi.out hz0 hz1 hz2 rfl (by omega) (.slice E ne ce) ne es (by rfl) (hEd.out.alloc _) ⟨w.heap.size+1,0,none⟩ 1 1 [.int .i64 xf,.int .i64 xt,.int .i64 xk,.int .i64 xv,.int .i64 xc,.int .i64 xg,.int .i64 xa,.int .i64 xb,.int .i64 xd,.slice A1 l1 j1,.int .i64 xo,.int .i64 ya,.int .i64 yb,.int .i64 yd,.slice A2 l2 j2,.int .i64 za,.int .i64 zb,.int .i64 zd,.slice A3 l3 j3] (by rfl) (by rfl) (World.news_of_block (cs:=#[.int .i64 xf,.int .i64 xt,.int .i64 xk,.int .i64 xv,.int .i64 xc,.int .i64 xg,.int .i64 xa,.int .i64 xb,.int .i64 xd,.slice A1 l1 j1,.int .i64 xo,.int .i64 ya,.int .i64 yb,.int .i64 yd,.slice A2 l2 j2,.int .i64 za,.int .i64 zb,.int .i64 zd,.slice A3 l3 j3]) (t:=80) (fr:=(0,0)) (blkA _ _ hsd)) (by simp [Value.oneCell']) (by omega) (by unfold maxLen;omega) (by omega) (by simp;omega) (w.heap.size+2) (by simp;exact hs0) ?_;intro gg cap w1 hown1 hgrow hat hlt1;have k3:=grown_blk hgrow (b:=g) (blkUp k0 _) (fun e=>hEg g e rfl);have hcz:=row_of k3 1;have hfz:=frozen_of k3 1;have HL:=Lib.hid (lay_grown hgrow (blkUp k0 _) (hHd.out.alloc _) hbg hEg hHg hown1 (w.heap.size+2) (by simp;exact hs0) hat);have HB:=Lib.hid (below_grown hgrow (by first |exact (hB0.alloc hB0.size _).drew |exact hB0.drew.alloc hB0.size _) (Nat.le_of_lt (Nat.lt_of_le_of_lt hbg hlt)) (fun b hb=>(hE.out.lt b hb).1));clear k3 hown1 hgrow hat))
 all_goals
  go_end0
  exact ⟨rfl,HL.out,HB.out.setCell hbg _⟩
end
end Go.Proofs.Ytcfkhnlkfgmoiaa
namespace Go.Proofs.Ytcfkhnlkfgmoiaa
open Go.RowKit
set_option maxRecDepth 100000 in
set_option maxHeartbeats 2000000 in
theorem heads_nil {HH:Option Addr} {hc:Nat} (N:Int) (E:Option Addr) (ne ce:Nat) (w:World) :
 Calls Try.prog 41 #[.agg #[.int .i64 N,.slice E ne ce,.slice HH 0 hc]] w fun e w'=>e = .returned (.bool true)/\Below w.heap.size w w':=by
 go_enter Try.func41,Try.ntmps41
 go_wp2_with fail
 refine wp_loop_rounds 1 ?_
 rw [rounds_succ]
 go_wp2_with fail
 go_ret
 exact ⟨rfl,(Below.refl _ _).alloc (Nat.le_refl _) _⟩
set_option maxRecDepth 100000 in
set_option maxHeartbeats 2000000 in
theorem node_yes {HH:Option Addr} {hc:Nat} (N x:Int) (E:Option Addr) (ne ce:Nat) (w:World) (h0:0<=x) (h1:x<N) :
 Calls Try.prog 42 #[.agg #[.int .i64 N,.slice E ne ce,.slice HH 0 hc],.int .i64 x] w fun e w'=>e = .returned (.bool true)/\Below w.heap.size w w':=by
 go_enter Try.func42,Try.ntmps42
 go_wp2
 go_ret
 exact ⟨by simp,(Below.refl _ _).alloc (Nat.le_refl _) _⟩
set_option maxRecDepth 100000 in
set_option maxHeartbeats 2000000 in
theorem search_nil {HH:Option Addr} {hc:Nat} (x:Int) (w:World) :
 Calls Try.prog 89 #[.slice HH 0 hc,.int .i64 x] w fun e w'=>e = .returned (.tuple #[.int .i64 0,.bool false])/\w=w':=by
 go_enter Try.func89,Try.ntmps89
 go_wp2_with fail
 refine wp_loop_rounds 1 ?_
 rw [rounds_succ]
 go_wp2_with fail
 go_ret2
 exact ⟨rfl,rfl⟩
set_option maxRecDepth 100000 in
set_option maxHeartbeats 2000000 in
theorem head_no {HH:Option Addr} {hc:Nat} (N x:Int) (E:Option Addr) (ne ce:Nat) (w:World) :
 Calls Try.prog 75 #[.agg #[.int .i64 N,.slice E ne ce,.slice HH 0 hc],.int .i64 x] w fun e w'=>e = .returned (.bool false)/\Below w.heap.size w w':=by
 go_enter Try.func75,Try.ntmps75
 go_wp2_with fail
 refine (search_nil x _).mono ?_
 rintro e w1 ⟨rfl,rfl⟩
 go_wp2_with fail
 go_ret
 exact ⟨rfl,(Below.refl _ _).alloc (Nat.le_refl _) _⟩
set_option maxRecDepth 100000 in
set_option maxHeartbeats 2000000 in
theorem leaving_end (w:World) :
 Calls Try.prog 43 #[.int .i64 1,.slice none 0 0] w fun e w'=>e = .returned (.bool true)/\w=w':=by
 go_enter Try.func43,Try.ntmps43
 go_wp2
 go_ret
 exact ⟨rfl,rfl⟩
set_option maxRecDepth 100000 in
set_option maxHeartbeats 2000000 in
theorem leaving_one (x:Nat) (c:Nat) (w:World) (_hc:1<=c) (hk:w.cell? ⟨x,2,none⟩=some (.int .i64 1)) :
 Calls Try.prog 43 #[.int .i64 0,.slice (some ⟨x,0,none⟩) 1 c] w fun e w'=>e = .returned (.bool true)/\w=w':=by
 go_enter Try.func43,Try.ntmps43
 go_wp2
 go_ret
 exact ⟨rfl,rfl⟩
end Go.Proofs.Ytcfkhnlkfgmoiaa
namespace Go.Proofs.Ytcfkhnlkfgmoiaa
open Go.RowKit
set_option maxRecDepth 100000 in
set_option maxHeartbeats 2000000 in
theorem copy_leaf (x0 x1 x2:Int) (w:World) :
 Calls Try.prog 57 #[.agg #[.int .i64 x0,.int .i64 x1,.int .i64 x2,.slice none 0 0]] w fun e w'=>e = .returned (.agg #[.int .i64 x0,.int .i64 x1,.int .i64 x2,.slice none 0 0])/\Below w.heap.size w w':=by
 go_enter Try.func57,Try.ntmps57
 go_wp2_with fail
 go_loop [3,9] (fun k i=>k = .slice none 0 0/\i = .int .i64 0) (fun _ _=>0)
 case atStart=>exact ⟨rfl,rfl⟩
 case round=>
  obtain ⟨rfl,rfl⟩:=hrel
  go_wp2_with fail
  exact bodyPost_ret (v:=.agg #[.int .i64 x0,.int .i64 x1,.int .i64 x2,.slice none 0 0]) (by simp [results,Try.results57,go_sem]) rfl ⟨rfl,by go_grown⟩
set_option maxRecDepth 100000 in
set_option maxHeartbeats 4000000 in
theorem lay_asg (w:World) (base g:Nat) (N:Int) (ne:Nat) (es:List Value) (nh:Nat) (hs:List Value) (v x a b:Int) (h:LayAt w base g N ne es nh hs) (hn:ne<=100000) :
 Calls Try.prog 37 #[.pointer (some ⟨g,0,none⟩),.agg #[.int .i64 1,.int .i64 v,.int .i64 0,.int .i64 0,.int .i64 1,.int .i64 x,.int .i64 0,.slice none 0 0,.int .i64 0,.int .i64 0,.int .i64 0,.int .i64 0,.slice none 0 0,.int .i64 0,.int .i64 0,.int .i64 0,.slice none 0 0,.slice none 0 0,.slice none 0 0,.slice none 0 0],.int .i64 a,.int .i64 b] w fun e w'=>e = .returned (.tuple #[])/\LayAt w' base g N (ne+1) (es++[.int .i64 a,.int .i64 b,.int .i64 1,.int .i64 v,.int .i64 0,.int .i64 0,.int .i64 1,.int .i64 x,.int .i64 0,.slice none 0 0,.int .i64 0,.int .i64 0,.int .i64 0,.int .i64 0,.slice none 0 0,.int .i64 0,.int .i64 0,.int .i64 0,.slice none 0 0]) nh hs/\Below base w w':=by
 have hbl:base<=w.heap.size:=by
  obtain ⟨E,H,ce,ch,hg,hE,hH,hbg,hEg,hHg⟩:=h;have:=blk_lt hg;omega
 replace h:=Lib.hid h
 go_enter Try.func37,Try.ntmps37
 go_upto_region 1 with fail
 refine wp_world (fun W=>W.heap[w.heap.size]? = some (.cells #[.int .i64 1,.int .i64 v,.int .i64 0,.int .i64 0,.int .i64 1,.int .i64 x,.int .i64 0,.slice none 0 0,.int .i64 0,.int .i64 0,.int .i64 0,.int .i64 0,.slice none 0 0,.int .i64 0,.int .i64 0,.int .i64 0,.slice none 0 0,.slice none 0 0,.slice none 0 0,.slice none 0 0] 55 (0,0))/\Below w.heap.size w W/\W.heap.size=w.heap.size+1) ⟨blkA _ _ rfl,(Below.refl _ _).alloc (Nat.le_refl _) _,by simp⟩ ?_
 rintro w0 ⟨k0,hB0,hs0⟩;have r0:=row_of k0;have h00:w.heap.size<w0.heap.size:=by omega
 replace k0:=Lib.hid k0
 go_upto_region 3 with fail
 go_region_with (first
  |(go_at_call 57;refine (copy_leaf _ _ _ _).mono ?_;rintro e w1 ⟨rfl,hb1⟩;have rd:=row_of (blk_keep hb1 k0.out);have hB1:=bel_up hB0.drew (Nat.le_refl _) hb1;clear hb1)
  |(go_at_call 35;refine (edge_any _ base g N ne es nh hs [.int .i64 a,.int .i64 b,.int .i64 1,.int .i64 v,.int .i64 0,.int .i64 0,.int .i64 1,.int .i64 x,.int .i64 0,.slice none 0 0,.int .i64 0,.int .i64 0,.int .i64 0,.int .i64 0,.slice none 0 0,.int .i64 0,.int .i64 0,.int .i64 0,.slice none 0 0] (lay_below h.out hB1) hn ⟨_,_,_,_,_,_,_,_,_,_,_,_,_,_,_,_,_,_,_,_,_,_,_,_,_,rfl⟩).mono ?_;rintro e w2 ⟨rfl,hL,hb2⟩;replace hL:=Lib.hid hL))
 all_goals
  go_wp2_with fail
  go_end0
  exact ⟨rfl,hL.out,(hB1.mono hbl).trans hb2⟩
end Go.Proofs.Ytcfkhnlkfgmoiaa
namespace Go.Proofs.Ytcfkhnlkfgmoiaa
open Go.RowKit
structure Ls where
 N:Int
 ne:Nat
 es:List Value
 nh:Nat
 hs:List Value
def LayS (w:World) (base g:Nat) (s:Ls):Prop:=LayAt w base g s.N s.ne s.es s.nh s.hs
def StLay (w:World) (base:Nat) (cs:List Value) (f:Int->Int->Ls->Ls):Prop:=
 ∀ W g s a b,Below base w W->LayS W base g s->s.ne<=400->0<=s.N->s.N<=100000000 ->
   Calls Try.prog 37 #[.pointer (some ⟨g,0,none⟩),.agg cs.toArray,.int .i64 a,.int .i64 b] W fun e w'=>e = .returned (.tuple #[])/\LayS w' base g (f a b s)/\Below base W w'
def bodyF (f:Nat->Int->Int->Ls->Ls) (to:Int):Nat->Nat->Int->Ls->Ls
 | 0,_,_,s=>s
 |r+1,i,a,s=>if 400<s.ne then s else if r=0 then f i a to s else bodyF f to r (i+1) s.N (f i a s.N {s with N:=s.N+1})
theorem lay_node {w:World} {base g:Nat} {s:Ls} (h:LayS w base g s):LayS (w.setCell ⟨g,0,none⟩ (.int .i64 (s.N+1))) base g {s with N:=s.N+1}:=by
 obtain ⟨E,H,ce,ch,hg,hE,hH,hbg,hEg,hHg⟩:=h;have hset:w.grownBy (w.setCell ⟨g,0,none⟩ (.int .i64 (s.N+1))) (some g):=⟨rfl,rfl,rfl,by simp,fun i hi hne=>Below.heap_setCell _ _ _ _ (by rintro rfl;exact hne rfl)⟩;refine ⟨E,H,ce,ch,by simp [World.setCell,Array.getElem?_modify,hg],hE.kept hset ?_,hH.kept hset ?_,hbg,hEg,hHg⟩
 ·cases hh:(Value.slice E s.ne ce).ownBlock with
  |none=>exact .inl rfl
  |some b=>exact .inr (fun e=>hEg b hh (by simpa using e))
 ·cases hh:(Value.slice H s.nh ch).ownBlock with
  |none=>exact .inl rfl
  |some b=>exact .inr (fun e=>(hHg b hh).1 (by simpa using e))
theorem blk_set {W:World} {b g o:Nat} {x:Obj} {v:Value} (h:W.heap[b]? = some x) (hne:b≠g):(W.setCell ⟨g,o,none⟩ v).heap[b]? = some x:=by
 rw [Below.heap_setCell _ _ _ _ hne];exact h
set_option maxRecDepth 100000 in
set_option maxHeartbeats 4000000 in
theorem lay_body (w:World) (base g:Nat) (s0:Ls) (D:Option Addr) (k cap:Nat) (L:Nat->List Value) (f:Nat->Int->Int->Ls->Ls) (a0 to:Int) (hk:k<=1000) (hk0:0<k) (hkc:k<=cap)
 (hN0:0<=s0.N) (hN1:s0.N<=1000000) (hm:ElemsAt w base D k 20 L) (hs:∀ i,i<k->StLay w base (L i) (f i)) (hf:∀ i a b s,s.N<=(f i a b s).N/\(f i a b s).N<=s.N+1000) (h:LayS w base g s0) :
 Calls Try.prog 23 #[.pointer (some ⟨g,0,none⟩),.slice D k cap,.int .i64 a0,.int .i64 to] w fun e w'=>e = .returned (.tuple #[])/\LayS w' base g (bodyF f to k 0 a0 s0)/\Below base w w':=by
 replace hm:=Lib.hid hm
 replace hs:=Lib.hid hs
 replace hf:=Lib.hid hf
 have hkz:((k:Int)==0)=false:=by rw [beq_eq_false_iff_ne];omega
 obtain ⟨S,hS⟩:∃ S,bodyF f to k 0 a0 s0=S:=⟨_,rfl⟩;rw [hS];have hbg:base<=g/\g<w.heap.size:=by
  obtain ⟨E,H,ce,ch,hg,hE,hH,hbg,hEg,hHg⟩:=h;exact ⟨hbg,blk_lt hg⟩
 obtain ⟨hbg,hgw⟩:=hbg
 replace h:=Lib.hid h
 replace hS:=Lib.hid hS
 go_enter Try.func23,Try.ntmps23
 go_wp2_with fail
 go_loopw [2,21] (fun fr i wr=>∃ (q:Nat) (a:Int) (s:Ls),q<=k/\i = .int .i64 q/\fr = .int .i64 a/\Hid (LayS wr base g s)/\Hid (bodyF f to (k-q) q a s=S)/\Below base w wr/\0<=s.N/\s.N<=1000000+1001*q/\g<wr.heap.size) (fun _ i _=>k-(intOf i).toNat)
 case atStart=>exact ⟨0,a0,s0,by omega,rfl,rfl,h,hS,Below.refl _ _,hN0,by omega,hgw⟩
 case round=>
  obtain ⟨q,a,s,hq,rfl,rfl,hL,hF,hB,hsN0,hsN1,hgr⟩:=hrel
  by_cases hlt:q<k
  ·obtain ⟨d,rfl,hd,hr,hl,h1⟩:=hm.out q hlt;have Hr:=Lib.hid (range_keep hB hd hr);have Hst:=Lib.hid (hs.out q hlt);obtain ⟨cs,hcs⟩:∃ cs,L q=cs:=⟨_,rfl⟩;rw [hcs] at Hr hl h1 Hst;have Hl:=Lib.hid hl;have H1:=Lib.hid (all_oneCell_toArray h1);clear hr hl h1 hcs;obtain ⟨r,hr⟩:∃ r,k-q=r+1:=⟨k-q-1,by omega⟩;have hF2:=hF.out;rw [hr] at hF2;have hrq:k=q+r+1:=by omega
   clear hr;have Hrq:=Lib.hid hrq;have hq1:(q:Int)+1<=k:=by omega
   clear hrq;unfold bodyF at hF2;have hbs:base<=wr.heap.size:=by omega
   have HLx:=Lib.hid (lay_below hL.out ((Below.refl _ wr).alloc (Nat.le_refl _) (.cells cs.toArray 55)));obtain ⟨E,H,ce,ch,hg,_⟩:=hL.out;have kg:=Lib.hid (blkUp hg (.cells cs.toArray 55));clear hg
   by_cases hful:400<s.ne
   ·rw [if_pos hful] at hF2;subst hF2;have hfd:decide (400<s.ne)=true:=by simpa using hful
    go_wp2_with (first
     |(refine ld_mid 55 _ rfl _ _ rfl cs _ Hr.out Try.underlying55 rfl (by rw [Hl.out];exact info_st) rfl ?_)
     |(refine wpList_store_new rfl 55 _ _ rfl rfl _ _ _ _ rfl rfl rfl rfl (info_st' Hl.out) (by simp [Hl.out]) H1.out ?_))
    refine (full_any _ g _ _ _ _ _ kg.out).mono ?_
    rintro e w2 ⟨rfl,rfl⟩
    go_wp2_with fail
    go_returns
    exact ⟨rfl,HLx.out,hB.alloc hbs _⟩
   ·rw [if_neg hful] at hF2;have hfd:decide (400<s.ne)=false:=by simpa using hful
    by_cases hr0:r=0
    ·rw [if_pos hr0] at hF2;subst hr0;have hqk:q+1=k:=by have:=Hrq.out;omega
     have Hqk:=Lib.hid hqk;have hnl:decide ((q:Int)<(k:Int)-1)=false:=by simp;omega
     have Hf2:=Lib.hid hF2;clear hF2 hqk
     go_wp2_with (first
      |(refine ld_mid 55 _ rfl _ _ rfl cs _ Hr.out Try.underlying55 rfl (by rw [Hl.out];exact info_st) rfl ?_)
      |(refine wpList_store_new rfl 55 _ _ rfl rfl _ _ _ _ rfl rfl rfl rfl (info_st' Hl.out) (by simp [Hl.out]) H1.out ?_))
     refine (full_any _ g _ _ _ _ _ kg.out).mono ?_
     rintro e w2 ⟨rfl,rfl⟩
     go_wp2_with (refine ld_row 55 _ rfl _ rfl _ _ _ _ (blkA _ _ rfl) Try.underlying55 rfl (info_st' Hl.out) rfl ?_)
     refine (Hst.out _ g s _ _ (hB.alloc hbs _) HLx.out (by omega) hsN0 (by omega)).mono ?_
     rintro e w2 ⟨rfl,hL2,hb2⟩;have hB2:Below base w w2:=(hB.alloc hbs _).trans hb2;have hg2:g<w2.heap.size:=Nat.lt_of_lt_of_le hgr (by have:=hb2.size;simp at this;omega);have hN2:=hf.out q a to s
     replace hL2:=Lib.hid hL2
     clear hb2 hB Hst Hr Hl H1 HLx kg
     go_wp2
     go_roundw
     case rel=>exact ⟨q+1,to,f q a to s,by omega,by go_num,rfl,hL2,Lib.hid (by rw [Hqk.out,Nat.sub_self];unfold bodyF;exact Hf2.out),hB2,by omega,by omega,hg2⟩
     case measure=>simp [intOf];omega
    ·rw [if_neg hr0] at hF2;have hnl:decide ((q:Int)<(k:Int)-1)=true:=by have:=Hrq.out;simp;omega
     have hqr:k-(q+1)=r:=by have:=Hrq.out;omega
     have Hqr:=Lib.hid hqr;have Hf2:=Lib.hid hF2;have hq2:(q:Int)<(k:Int)-1:=by simpa using hnl
     clear hF2 hqr
     go_wp2_with (first
      |(refine ld_mid 55 _ rfl _ _ rfl cs _ Hr.out Try.underlying55 rfl (by rw [Hl.out];exact info_st) rfl ?_)
      |(refine wpList_store_new rfl 55 _ _ rfl rfl _ _ _ _ rfl rfl rfl rfl (info_st' Hl.out) (by simp [Hl.out]) H1.out ?_))
     refine (full_any _ g _ _ _ _ _ kg.out).mono ?_
     rintro e w2 ⟨rfl,rfl⟩
     go_wp2_with fail
     refine (node_any _ g _ _ _ kg.out hsN0 (by omega)).mono ?_
     rintro e w2 ⟨rfl,rfl⟩;have kst:=Lib.hid (blkA (b:=wr.heap.size) (wr.setCell ⟨g,0,none⟩ (.int .i64 (s.N+1))) (.cells cs.toArray 55) (by simp));have hLs:LayS ((wr.setCell ⟨g,0,none⟩ (.int .i64 (s.N+1))).alloc (.cells cs.toArray 55)) base g {s with N:=s.N+1}:=lay_below (lay_node hL.out) ((Below.refl _ _).alloc (Nat.le_refl _) _);have hBs:Below base w ((wr.setCell ⟨g,0,none⟩ (.int .i64 (s.N+1))).alloc (.cells cs.toArray 55)):=(hB.setCell hbg _).alloc (by simp;omega) _
     replace hLs:=Lib.hid hLs
     go_wp2_with (refine ld_row 55 _ rfl _ rfl _ _ _ _ kst.out Try.underlying55 rfl (info_st' Hl.out) rfl ?_)
     refine (Hst.out _ g {s with N:=s.N+1} _ _ hBs hLs.out (by show s.ne<=400;omega) (by show 0<=s.N+1;omega) (by show s.N+1<=100000000;omega)).mono ?_
     rintro e w2 ⟨rfl,hL2,hb2⟩;have hB2:Below base w w2:=hBs.trans hb2;have hg2:g<w2.heap.size:=Nat.lt_of_lt_of_le hgr (by have:=hb2.size;simp at this;omega);have hN2:=hf.out q a s.N {s with N:=s.N+1}
     replace hL2:=Lib.hid hL2
     clear hb2 hB Hst Hr Hl H1 HLx kg
     go_wp2
     go_roundw
     case rel=>exact ⟨q+1,s.N,f q a s.N {s with N:=s.N+1},by omega,by go_num,rfl,hL2,Lib.hid (by rw [Hqr.out];exact Hf2.out),hB2,by have:=hN2.1;(try simp only [] at this);omega,by have:=hN2.2;(try simp only [] at this);push_cast;omega,hg2⟩
     case measure=>simp [intOf];omega
  ·obtain rfl:q=k:=by omega
   have hF2:=hF.out;rw [Nat.sub_self] at hF2;unfold bodyF at hF2;subst hF2
   go_wp2_with fail
   go_end0
   exact ⟨rfl,hL.out,hB⟩
end Go.Proofs.Ytcfkhnlkfgmoiaa
namespace Go.Proofs.Ytcfkhnlkfgmoiaa
open Go.RowKit
set_option maxRecDepth 100000 in
set_option maxHeartbeats 2000000 in
theorem ins_few (D:Option Addr) (n c:Nat) (hn:n<=1) (w:World) :
 Calls Try.prog 62 #[.slice D n c,.int .i64 0,.int .i64 n] w fun e w'=>e = .returned (.tuple #[])/\w=w':=by
 go_enter Try.func62,Try.ntmps62
 go_wp2_with fail
 go_loop [6] (fun i=>i = .int .i64 1) (fun _=>0)
 case atStart=>rfl
 case round=>
  subst hrel
  go_wp2_with fail
  go_end0
  exact ⟨rfl,rfl⟩
set_option maxRecDepth 100000 in
set_option maxHeartbeats 2000000 in
theorem pdq_few (D:Option Addr) (n c:Nat) (l:Int) (hn:n<=1) (w:World) :
 Calls Try.prog 38 #[.slice D n c,.int .i64 0,.int .i64 n,.int .i64 l] w fun e w'=>e = .returned (.tuple #[])/\w=w':=by
 go_enter Try.func38,Try.ntmps38
 go_wp2_with fail
 go_loop [1,2,3,8,9] (fun a b d x y=>a = .int .i64 0/\b = .int .i64 n/\d = .int .i64 l/\x = .bool true/\y = .bool true) (fun _ _ _ _ _=>0)
 case atStart=>exact ⟨rfl,rfl,rfl,rfl,rfl⟩
 case round=>
  obtain ⟨rfl,rfl,rfl,rfl,rfl⟩:=hrel
  go_wp2_with (go_at_call 62;refine (ins_few D n c hn _).mono ?_;rintro e w' ⟨rfl,rfl⟩)
  go_returns
  exact ⟨rfl,rfl⟩
set_option maxRecDepth 100000 in
set_option maxHeartbeats 2000000 in
theorem len_few (n:Nat) (hn:n<=1) (w:World) :
 Calls Try.prog 39 #[.int .u64 n] w fun e w'=>e = .returned (.int .i64 n)/\w=w':=by
 have hc:n=0 ∨ n=1:=by omega
 rcases hc with rfl |rfl
 all_goals
  go_enter Try.func39,Try.ntmps39
  go_wp2
  go_ret
  first |exact ⟨by kernel_rfl,rfl⟩ |exact ⟨by simp,rfl⟩
set_option maxRecDepth 100000 in
set_option maxHeartbeats 2000000 in
theorem sort_few (D:Option Addr) (n c:Nat) (hn:n<=1) (w:World) :
 Calls Try.prog 25 #[.slice D n c] w fun e w'=>e = .returned (.tuple #[])/\w=w':=by
 go_enter Try.func25,Try.ntmps25
 go_wp2_with fail
 refine (len_few n hn _).mono ?_
 rintro e w' ⟨rfl,rfl⟩
 go_wp2_with fail
 refine (pdq_few D n c _ hn _).mono ?_
 rintro e w' ⟨rfl,rfl⟩
 go_wp2_with fail
 go_end0
 exact ⟨rfl,rfl⟩
end Go.Proofs.Ytcfkhnlkfgmoiaa
namespace Go.Proofs.Ytcfkhnlkfgmoiaa
open Go.RowKit
def ls0:Ls:=⟨2,0,[],0,[]⟩
theorem StLay.up {w w1:World} {base:Nat} {cs:List Value} {f:Int->Int->Ls->Ls} (h:StLay w base cs f) (hb:Below base w w1):StLay w1 base cs f:=fun W g s a b hW=>h W g s a b (hb.trans hW)
def LayOut (w:World) (S:Ls) (e:Ending) (w':World):Prop:=
 ∃ (E H:Option Addr) (ce ch:Nat),e = .returned (.tuple #[.agg #[.int .i64 S.N,.slice E S.ne ce,.slice H S.nh ch],.int .i64 0]) /\
   w'.ownsRow w.heap.size 80 19 (.slice E S.ne ce) S.ne S.es/\w'.ownsRow w.heap.size 3 1 (.slice H S.nh ch) S.nh S.hs/\Below w.heap.size w w'
theorem own_base {w:World} {b b':Nat} {e:TypeId} {size n:Nat} {v:Value} {xs:List Value} (h:w.ownsRow b' e size v n xs) (hb:b<=b'):w.ownsRow b e size v n xs:=by
 refine ⟨h.1,?_⟩
 rcases h.2 with h0 |⟨g,cap,cur,rfl,hg,h1⟩
 ·exact .inl h0
 ·exact .inr ⟨g,cap,cur,rfl,Nat.le_trans hb hg,h1⟩
theorem own_set {w:World} {b:Nat} {e:TypeId} {size n:Nat} {v:Value} {xs:List Value} (h:w.ownsRow b e size v n xs) {g o:Nat} {x:Value} (hg:g<b):(w.setCell ⟨g,o,none⟩ x).ownsRow b e size v n xs:=by
 have hset:w.grownBy (w.setCell ⟨g,o,none⟩ x) (some g):=⟨rfl,rfl,rfl,by simp,fun i hi hne=>Below.heap_setCell _ _ _ _ (by rintro rfl;exact hne rfl)⟩;refine h.kept hset ?_
 cases hh:v.ownBlock with
 |none=>exact .inl rfl
 |some k=>exact .inr (fun e=>by have:=(h.lt k hh).1;simp at e;omega)
set_option maxRecDepth 100000 in
set_option maxHeartbeats 4000000 in
theorem lay_ok (w:World) (D:Option Addr) (k cap:Nat) (L:Nat->List Value) (f:Nat->Int->Int->Ls->Ls) (hk:k<=1000) (hk0:0<k) (hkc:k<=cap)
 (hm:ElemsAt w w.heap.size D k 20 L) (hs:∀ i,i<k->∀ W base,Below w.heap.size w W->w.heap.size<=base->StLay W base (L i) (f i)) (hf:∀ i a b s,s.N<=(f i a b s).N/\(f i a b s).N<=s.N+1000)
 (S:Ls) (hS:bodyF f 1 k 0 0 ls0=S) (hfew:S.ne<=400) (hh:S.nh<=1) :
 Calls Try.prog 14 #[.slice D k cap] w fun e w'=>LayOut w S e w':=by
 replace hm:=Lib.hid hm
 replace hs:=Lib.hid hs
 replace hf:=Lib.hid hf
 replace hS:=Lib.hid hS
 have hfd:decide (400<S.ne)=false:=by simpa using hfew
 go_enter Try.func14,Try.ntmps14
 go_upto_region 2 with fail
 refine wp_world (fun W=>W.heap[w.heap.size]? = some (.cells #[.int .i64 0,.slice none 0 0,.slice none 0 0] 60 (0,0))/\W.heap[w.heap.size+1]? = some (.cells #[.int .i64 2,.slice none 0 0,.slice none 0 0] 90 (0,0))/\Below w.heap.size w W/\W.heap.size=w.heap.size+2) ⟨blkUp (blkA _ _ rfl) _,blkA _ _ (by simp),((Below.refl _ _).alloc (Nat.le_refl _) _).alloc (by simp) _,by simp⟩ ?_
 rintro w0 ⟨k0,k1,hB0,hs0⟩;have hL0:LayS w0 (w.heap.size+1) (w.heap.size+1) ls0:=⟨none,none,0,0,k1,World.ownsRow_nil _ _ _ _,World.ownsRow_nil _ _ _ _,Nat.le_refl _,fun b hb=>by simp [Value.ownBlock] at hb,fun b hb=>by simp [Value.ownBlock] at hb⟩
 replace k0:=Lib.hid k0
 clear k1
 go_wp2_with fail
 refine (lay_body w0 (w.heap.size+1) (w.heap.size+1) ls0 D k cap L f 0 1 hk hk0 hkc (by decide) (by decide) (hm.out.below hB0 (Nat.le_succ _)) (fun i hi=>hs.out i hi w0 _ hB0 (Nat.le_succ _)) hf.out hL0).mono ?_
 rintro e w1 ⟨rfl,hL,hb1⟩;rw [hS.out] at hL;have k1:=(hb1.block w.heap.size (Nat.lt_succ_self _)).trans k0.out;have hB1:Below w.heap.size w w1:=hB0.trans (hb1.mono (Nat.le_succ _));obtain ⟨E,H,ce,ch,hg,hE,hH,_,_,_⟩:=hL;have rg:=row_of hg;have rk:=row_of k1;have f0:=frozen_of k1 0;have f1:=frozen_of k1 1;have f2:=frozen_of k1 2;have kg:=Lib.hid hg
 replace hE:=Lib.hid hE
 replace hH:=Lib.hid hH
 clear hg k1 hb1 hB0 hs0 hL0 k0
 go_wp2_with fail
 refine (full_any _ _ _ _ _ _ _ kg.out).mono ?_
 rintro e w2 ⟨rfl,rfl⟩
 go_wp2_with fail
 refine (sort_few H S.nh ch hh _).mono ?_
 rintro e w2 ⟨rfl,rfl⟩
 go_wp2_with fail
 have hbw:w.heap.size<w.heap.size+1:=Nat.lt_succ_self _;have hE3:=own_base (own_set (own_set (own_set hE.out (o:=0) (x:=.int .i64 S.N) hbw) (o:=1) (x:=.slice E S.ne ce) hbw) (o:=2) (x:=.slice H S.nh ch) hbw) (Nat.le_succ _);have hH3:=own_base (own_set (own_set (own_set hH.out (o:=0) (x:=.int .i64 S.N) hbw) (o:=1) (x:=.slice E S.ne ce) hbw) (o:=2) (x:=.slice H S.nh ch) hbw) (Nat.le_succ _);exact bodyPost_ret (v:=.tuple #[.agg #[.int .i64 S.N,.slice E S.ne ce,.slice H S.nh ch],.int .i64 0]) (by simp [results,Try.results14,go_sem,rk]) rfl ⟨E,H,ce,ch,rfl,hE3,hH3,((hB1.setCell (Nat.le_refl _) _).setCell (Nat.le_refl _) _).setCell (Nat.le_refl _) _⟩
end Go.Proofs.Ytcfkhnlkfgmoiaa
namespace Go.Proofs.Ytcfkhnlkfgmoiaa
open Go.RowKit
set_option maxRecDepth 100000 in
set_option maxHeartbeats 2000000 in
theorem right_one (v:Int) (h:Nat) (cp:Nat) (D:Option Addr) (k cap:Nat) (L:Nat->List Value) (w:World) (hv0:0<=v) (hv6:v<=6) (hk:k<=1000000) (hkc:k<=cap) (_hcp:1<=cp)
 (hh:h<w.heap.size) (hp:w.rangeAt h 0 [.int .i64 v,.slice D k cap]) (hm:ElemsAt w w.heap.size D k 20 L) (hs:∀ i,i<k->StOk w none 0 0 0 v (L i)) :
 Calls Try.prog 12 #[.agg #[.slice none 0 0,.slice (some ⟨h,0,none⟩) 1 cp]] w fun e w'=>e = .returned (.bool true)/\Below w.heap.size w w':=by
 replace hm:=Lib.hid hm
 replace hs:=Lib.hid hs
 replace hp:=Lib.hid hp
 go_enter Try.func12,Try.ntmps12
 go_wp2_with fail
 go_loop [27] (fun i=>i = .int .i64 0) (fun _=>0)
 case atStart=>rfl
 case round=>
  subst hrel
  go_wp2_with fail
  go_loopw [41] (fun i wr=>∃ q:Nat,q<=1/\i = .int .i64 q/\Hid (wr.heap[w.heap.size]? = some (.cells #[.slice none 0 0,.slice (some ⟨h,0,none⟩) 1 cp] 36 (0,0)))/\Below w.heap.size w wr) (fun i _=>1-(intOf i).toNat)
  case atStart=>exact ⟨0,by omega,rfl,Lib.hid (blkA _ _ rfl),(Below.refl _ _).alloc (Nat.le_refl _) _⟩
  case round=>
   obtain ⟨q,hq,rfl,hk0,hB⟩:=hrel;have r0:=row_of hk0.out;have hz:=blk_lt hk0.out
   by_cases hlt:q<1
   ·obtain rfl:q=0:=by omega
    have Hr:=Lib.hid (range_keep hB hh hp.out)
    go_wp2_with (first
     |(refine ld_mid 57 _ rfl _ _ rfl _ _ Hr.out Try.underlying57 rfl (by kernel_rfl) rfl ?_))
    refine (body_right none 0 0 0 v D k cap L _ hk hkc (hm.out.below ((hB.alloc hB.size _).alloc (Nat.le_trans hB.size (by simp only [World.size_alloc];omega)) _) (Nat.le_trans hB.size (by simp only [World.size_alloc];omega))) (fun i hi W hW=>hs.out i hi W (((hB.alloc hB.size _).alloc (Nat.le_trans hB.size (by simp only [World.size_alloc];omega)) _).trans (hW.mono (Nat.le_trans hB.size (by simp only [World.size_alloc];omega)))))).mono ?_
    rintro e w2 ⟨rfl,hb2⟩;have k2:=Lib.hid (blk_keep hb2 (blkUp (blkUp hk0.out _) _));have hB2:Below w.heap.size w w2:=bel_up ((hB.alloc hB.size _).alloc (Nat.le_trans hB.size (by simp only [World.size_alloc];omega)) _) (Nat.le_refl _) hb2;clear hb2 hk0 hB r0 hz Hr
    go_wp2
    go_roundw
    case rel=>exact ⟨1,by omega,by go_num,k2,hB2⟩
    case measure=>simp [intOf]
   ·go_wp2
    go_ret
    exact ⟨rfl,hB⟩
end Go.Proofs.Ytcfkhnlkfgmoiaa
