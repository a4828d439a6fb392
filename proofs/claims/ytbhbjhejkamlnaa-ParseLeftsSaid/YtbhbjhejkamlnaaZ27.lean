import Derived.Test.YtbhbjhejkamlnaaZ26
namespace Go.Proofs.Ytbhbjhejkamlnaa.Sx.Z
open Go.RowKit
def k12 (a:Int):Nat:=1+(IntKind.u64.wrap a).toNat%12
theorem k12_in (a:Int):1<=k12 a/\k12 a<=12:=by unfold k12;omega
theorem k12_eq (a:Int):IntKind.i64.wrap (1+IntKind.i64.wrap ((IntKind.u64.wrap a).tmod 12))=(k12 a:Int):=by
 have h0:0<=IntKind.u64.wrap a:=by rw [IntKind.wrap_u64];omega
 have e:(IntKind.u64.wrap a).tmod 12=((IntKind.u64.wrap a).toNat%12:Nat):=by
  rw [Int.tmod_eq_emod_of_nonneg h0]
  omega
 rw [e,IntWalk.i64_in (((IntKind.u64.wrap a).toNat%12:Nat):Int) (by omega),IntWalk.i64_in _ (by omega)]
 unfold k12
 omega
def sgF (d:D) (i:Nat):Nat:=if i<d.len then (d.el i 0).toI.toNat%5 else 0
theorem sgF_lt (d:D) (i:Nat):sgF d i<5:=by unfold sgF;split<;>omega
theorem sg_tab (c:Nat) (h:c<5):((D.l [[D.s ⟨#[43]⟩],[D.s ⟨#[45]⟩],[D.s ⟨#[42]⟩],[D.s ⟨#[47]⟩],[D.s ⟨#[37]⟩]]).el c 0).toS=sgB c:=by
 have:c=0 ∨ c=1 ∨ c=2 ∨ c=3 ∨ c=4:=by omega
 rcases this with rfl |rfl |rfl |rfl |rfl<;>rfl
theorem sgB_sz (c:Nat):(sgB c).size=1:=by
 unfold sgB
 repeat' split
 all_goals rfl
theorem w32 (c:Nat) (h:c<5):IntKind.i64.wrap (4+IntKind.i64.wrap (c:Int))=(4+c:Int):=by
 rw [IntWalk.i64_in (c:Int) (by omega),IntWalk.i64_in _ (by omega)]
theorem lst_sz (sg:Nat->Nat):∀ i,(lst sg i).t.size=14+2*i
 | 0=>rfl
 |i+1=>by
  show (lstep (sg i) (lst sg i)).t.size=_
  rw [lstep_t,ByteArray.size_append,ByteArray.size_append,lst_sz sg i,sgB_sz]
  show 14+2*i+1+1=_
  omega
def enB:ByteArray:=⟨#[59,32,125]⟩
theorem plf_fin (d:D) {i:Nat} (hi:i<=12):paC ((lst (sgF d) i).t++enB) = .l []/\paU ((lst (sgF d) i).t++enB) = .l []/\paP ((lst (sgF d) i).t++enB)=sy1 (lq (lst (sgF d) i))/\paE ((lst (sgF d) i).t++enB)=0/\SyS (.l []) (.l []) (sy1 (lq (lst (sgF d) i)))/\cpP (sy1 (lq (lst (sgF d) i)))=sy1 (lq (lst (sgF d) i))/\prAls (sy1 (lq (lst (sgF d) i))) (sy1 (lq (lst (sgF d) i)))/\D.l (lq (lst (sgF d) i)).d.rows=(lq (lst (sgF d) i)).d:=by
 have h:=(lst_ok (sgF_lt d) i).fin
 have ht:((lst (sgF d) i).t++enB).data.toList=jp (tlp ((List.range i).map (sgF d))):=by
  rw [ByteArray.data_append,Array.toList_append,lst_t]
  show _=[]++([112,114,111,99]++([32]++([112]++([32]++([123]++([32]++([120]++([32]++([61]++([32]++([49]++jp (tlw _))))))))))))
  rw [jp_tlw]
  simp
  rfl
 obtain ⟨h1,h2,h3,h4⟩:=plf_rd h ht (by rw [List.length_map,List.length_range];exact hi)
 have g:=pa_good ((lst (sgF d) i).t++enB)
 rw [h1,h2,h3] at g
 exact ⟨h1,h2,h3,h4,g.s,g.kp,(sy1_al h).2.2,h.d⟩
theorem al_nil:chAls (.l []) (cpC (.l []))/\ruAls (.l []) (cpU (.l [])):=⟨⟨rfl,fun _ h=>absurd h (Nat.not_lt_zero _)⟩,⟨rfl,fun _ h=>absurd h (Nat.not_lt_zero _)⟩⟩
def u8s (d:D):Prop:=∀ i,i<d.len->0<=(d.el i 0).toI/\(d.el i 0).toI<=255
noncomputable def plfS:FSpec:=fun ds _=>match ds with
 | [.i a,.d d]=>some {val:=.one (.sc (.bool (.lit true))),vc:=[u8s d]}
 |_=>none
noncomputable def plfC:Con:=con [.sc (.int .i64),.sc (.rows 5)] plfS
theorem plf_ok:ConOK Try.prog 4 plfC:=by
 refine fn_ob tt_ok mixed Try.func4 rfl (fun _ _=>by kernel_rfl) (A:=fun ds=>⟨fun _=>Cons.of [(7,parC),(9,prsC),(10,samC),(11,(conZ ycpC))],fun k=>match k,ds with | 8,[.i a,.d d]=>some {ι:=Nat,pre:=fun _ i=>i<=k12 a/\True,μ:=fun i=>30-i,st:=fun s i=>famR s [(11,.one (.sc (.int .i64 (.sym (i:Nat))))),(6,.one (.sc (.raw (.string ((lst (sgF d) i).t))))),(9,.one (.sc (.bool (.sym ((lst (sgF d) i).h))))),(10,.one (.sc (.int .i64 (.sym (lst (sgF d) i).o))))] [0,1,5,7,8] [(idOf s 7,.own 45 ([.c (.int .i64 (.sym ((lst (sgF d) i).w).k)),.c (.int .i64 (.sym ((lst (sgF d) i).w).n)),.c (.raw (.string ((lst (sgF d) i).w).s)),.c (.osl 45 (s.nx-1) (.lit 0) (.sym ((lst (sgF d) i).w).d.len))])),(s.nx-1,.orow 45 ((lst (sgF d) i).w.d)),(idOf s 8,.own 45 ([.c (.int .i64 (.sym ((lst (sgF d) i).s).k)),.c (.int .i64 (.sym ((lst (sgF d) i).s).n)),.c (.raw (.string ((lst (sgF d) i).s).s)),.c (.osl 45 (s.nx-2) (.lit 0) (.sym ((lst (sgF d) i).s).d.len))])),(s.nx-2,.orow 45 ((lst (sgF d) i).s.d))] []} |_,_=>none,fun _=>none⟩) (fun _ _=>(cons_cons par_ok (cons_cons prs_ok (cons_cons sam_ok (cons_cons (conZ_ok ycp_ok) cons_nil))))) (by kernel_rfl) ?_
 intro ds fr
 unfold plfS
 split
 ·rename_i a d
  refine kmp (q:=u8s d->(∃ (i:Nat),(i<=k12 a/\True)/\(0:Int)=(↑i:Int)/\Value.string (ByteArray.mk #[112,114,111,99,32,112,32,123,32,120,32,61,32,49])=Value.string (lst (sgF d) i).t/\false=(lst (sgF d) i).h/\(0:Int)=(lst (sgF d) i).o/\a=a/\d.rows=d.rows/\IntKind.i64.wrap ((1:Int)+IntKind.i64.wrap ((IntKind.u64.wrap a).tmod (12:Int)))=IntKind.i64.wrap ((1:Int)+IntKind.i64.wrap ((IntKind.u64.wrap a).tmod (12:Int)))/\(1:Int)=(lst (sgF d) i).w.k/\(1:Int)=(lst (sgF d) i).w.n/\Value.string ByteArray.empty=Value.string (lst (sgF d) i).w.s/\(lst (sgF d) i).w.d.len=(0:Nat)/\(lst (sgF d) i).w.d.rows=[]/\(0:Int)=(lst (sgF d) i).s.k/\(0:Int)=(lst (sgF d) i).s.n/\Value.string ByteArray.empty=Value.string (lst (sgF d) i).s.s/\(lst (sgF d) i).s.d.len=(0:Nat)/\(lst (sgF d) i).s.d.rows=[])/\∀ (i:Nat),i<=k12 a/\True->(decide ((↑i:Int)<IntKind.i64.wrap ((1:Int)+IntKind.i64.wrap ((IntKind.u64.wrap a).tmod (12:Int))))=true->(decide ((↑i:Int)<(↑d.len:Int))=true->((0:Int)<=(↑i:Int)/\(↑i:Int)<(↑d.len:Int))/\((0:Int)<=(d.el (↑i:Int).toNat (0:Nat)).toI.tmod (5:Int)/\(d.el (↑i:Int).toNat (0:Nat)).toI.tmod (5:Int)<(↑(5:Nat):Int))/\((d.el (↑i:Int).toNat (0:Nat)).toI.tmod (5:Int)).toNat<(D.l [[D.s (ByteArray.mk #[43])],[D.s (ByteArray.mk #[45])],[D.s (ByteArray.mk #[42])],[D.s (ByteArray.mk #[47])],[D.s (ByteArray.mk #[37])]]).len/\(↑((lst (sgF d) i).t.size+((D.l [[D.s (ByteArray.mk #[43])],[D.s (ByteArray.mk #[45])],[D.s (ByteArray.mk #[42])],[D.s (ByteArray.mk #[47])],[D.s (ByteArray.mk #[37])]]).el ((d.el (↑i:Int).toNat (0:Nat)).toI.tmod (5:Int)).toNat (0:Nat)).toS.size):Int)<=IntKind.i64.max/\(↑(((lst (sgF d) i).t++((D.l [[D.s (ByteArray.mk #[43])],[D.s (ByteArray.mk #[45])],[D.s (ByteArray.mk #[42])],[D.s (ByteArray.mk #[47])],[D.s (ByteArray.mk #[37])]]).el ((d.el (↑i:Int).toNat (0:Nat)).toI.tmod (5:Int)).toNat (0:Nat)).toS).size+(ByteArray.mk #[50]).size):Int)<=IntKind.i64.max/\(decide ((d.el (↑i:Int).toNat (0:Nat)).toI.tmod (5:Int)>=(2:Int))=true->(0:Nat)+(lst (sgF d) i).w.d.len<=(lst (sgF d) i).w.d.len/\∃ (j:Nat),(j<=k12 a/\True)/\(30:Nat)-j<(30:Nat)-i/\IntKind.i64.wrap ((↑i:Int)+(1:Int))=(↑j:Int)/\Value.string ((lst (sgF d) i).t++((D.l [[D.s (ByteArray.mk #[43])],[D.s (ByteArray.mk #[45])],[D.s (ByteArray.mk #[42])],[D.s (ByteArray.mk #[47])],[D.s (ByteArray.mk #[37])]]).el ((d.el (↑i:Int).toNat (0:Nat)).toI.tmod (5:Int)).toNat (0:Nat)).toS++(ByteArray.mk #[50]))=Value.string (lst (sgF d) j).t/\(lst (sgF d) i).h=(lst (sgF d) j).h/\(lst (sgF d) i).o=(lst (sgF d) j).o/\a=a/\d.rows=d.rows/\IntKind.i64.wrap ((1:Int)+IntKind.i64.wrap ((IntKind.u64.wrap a).tmod (12:Int)))=IntKind.i64.wrap ((1:Int)+IntKind.i64.wrap ((IntKind.u64.wrap a).tmod (12:Int)))/\IntKind.i64.wrap ((4:Int)+IntKind.i64.wrap ((d.el (↑i:Int).toNat (0:Nat)).toI.tmod (5:Int)))=(lst (sgF d) j).w.k/\(0:Int)=(lst (sgF d) j).w.n/\Value.string ByteArray.empty=Value.string (lst (sgF d) j).w.s/\(2:Nat)=(lst (sgF d) j).w.d.len /\ [[D.i (lst (sgF d) i).w.k,D.i (lst (sgF d) i).w.n,D.s (lst (sgF d) i).w.s,(lst (sgF d) i).w.d.sub ((0:Nat)) ((0:Nat)+(lst (sgF d) i).w.d.len)],[D.i (1:Int),D.i (2:Int),D.s ByteArray.empty,D.l []]]=(lst (sgF d) j).w.d.rows/\(lst (sgF d) i).s.k=(lst (sgF d) j).s.k/\(lst (sgF d) i).s.n=(lst (sgF d) j).s.n/\Value.string (lst (sgF d) i).s.s=Value.string (lst (sgF d) j).s.s/\(lst (sgF d) i).s.d.len=(lst (sgF d) j).s.d.len/\(lst (sgF d) i).s.d.rows=(lst (sgF d) j).s.d.rows)/\(decide ((d.el (↑i:Int).toNat (0:Nat)).toI.tmod (5:Int)>=(2:Int))=false->((lst (sgF d) i).h=true->(0:Nat)+(lst (sgF d) i).s.d.len<=(lst (sgF d) i).s.d.len/\(0:Nat)+(lst (sgF d) i).w.d.len<=(lst (sgF d) i).w.d.len/\∃ (j:Nat),(j<=k12 a/\True)/\(30:Nat)-j<(30:Nat)-i/\IntKind.i64.wrap ((↑i:Int)+(1:Int))=(↑j:Int)/\Value.string ((lst (sgF d) i).t++((D.l [[D.s (ByteArray.mk #[43])],[D.s (ByteArray.mk #[45])],[D.s (ByteArray.mk #[42])],[D.s (ByteArray.mk #[47])],[D.s (ByteArray.mk #[37])]]).el ((d.el (↑i:Int).toNat (0:Nat)).toI.tmod (5:Int)).toNat (0:Nat)).toS++(ByteArray.mk #[50]))=Value.string (lst (sgF d) j).t/\true=(lst (sgF d) j).h/\IntKind.i64.wrap ((4:Int)+IntKind.i64.wrap ((d.el (↑i:Int).toNat (0:Nat)).toI.tmod (5:Int)))=(lst (sgF d) j).o/\a=a/\d.rows=d.rows/\IntKind.i64.wrap ((1:Int)+IntKind.i64.wrap ((IntKind.u64.wrap a).tmod (12:Int)))=IntKind.i64.wrap ((1:Int)+IntKind.i64.wrap ((IntKind.u64.wrap a).tmod (12:Int)))/\(1:Int)=(lst (sgF d) j).w.k/\(2:Int)=(lst (sgF d) j).w.n/\Value.string ByteArray.empty=Value.string (lst (sgF d) j).w.s/\(lst (sgF d) j).w.d.len=(0:Nat)/\(lst (sgF d) j).w.d.rows=[]/\(lst (sgF d) i).o=(lst (sgF d) j).s.k/\(0:Int)=(lst (sgF d) j).s.n/\Value.string ByteArray.empty=Value.string (lst (sgF d) j).s.s/\(2:Nat)=(lst (sgF d) j).s.d.len /\ [[D.i (lst (sgF d) i).s.k,D.i (lst (sgF d) i).s.n,D.s (lst (sgF d) i).s.s,(lst (sgF d) i).s.d.sub ((0:Nat)) ((0:Nat)+(lst (sgF d) i).s.d.len)],[D.i (lst (sgF d) i).w.k,D.i (lst (sgF d) i).w.n,D.s (lst (sgF d) i).w.s,(lst (sgF d) i).w.d.sub ((0:Nat)) ((0:Nat)+(lst (sgF d) i).w.d.len)]]=(lst (sgF d) j).s.d.rows)/\((lst (sgF d) i).h=false->∃ (j:Nat),(j<=k12 a/\True)/\(30:Nat)-j<(30:Nat)-i/\IntKind.i64.wrap ((↑i:Int)+(1:Int))=(↑j:Int)/\Value.string ((lst (sgF d) i).t++((D.l [[D.s (ByteArray.mk #[43])],[D.s (ByteArray.mk #[45])],[D.s (ByteArray.mk #[42])],[D.s (ByteArray.mk #[47])],[D.s (ByteArray.mk #[37])]]).el ((d.el (↑i:Int).toNat (0:Nat)).toI.tmod (5:Int)).toNat (0:Nat)).toS++(ByteArray.mk #[50]))=Value.string (lst (sgF d) j).t/\true=(lst (sgF d) j).h/\IntKind.i64.wrap ((4:Int)+IntKind.i64.wrap ((d.el (↑i:Int).toNat (0:Nat)).toI.tmod (5:Int)))=(lst (sgF d) j).o/\a=a/\d.rows=d.rows/\IntKind.i64.wrap ((1:Int)+IntKind.i64.wrap ((IntKind.u64.wrap a).tmod (12:Int)))=IntKind.i64.wrap ((1:Int)+IntKind.i64.wrap ((IntKind.u64.wrap a).tmod (12:Int)))/\(1:Int)=(lst (sgF d) j).w.k/\(2:Int)=(lst (sgF d) j).w.n/\Value.string ByteArray.empty=Value.string (lst (sgF d) j).w.s/\(lst (sgF d) j).w.d.len=(0:Nat)/\(lst (sgF d) j).w.d.rows=[]/\(lst (sgF d) i).w.k=(lst (sgF d) j).s.k/\(lst (sgF d) i).w.n=(lst (sgF d) j).s.n/\Value.string (lst (sgF d) i).w.s=Value.string (lst (sgF d) j).s.s/\(lst (sgF d) i).w.d.len=(lst (sgF d) j).s.d.len/\(lst (sgF d) i).w.d.rows=(lst (sgF d) j).s.d.rows)))/\(decide ((↑i:Int)<(↑d.len:Int))=false->(0:Nat)<(D.l [[D.s (ByteArray.mk #[43])],[D.s (ByteArray.mk #[45])],[D.s (ByteArray.mk #[42])],[D.s (ByteArray.mk #[47])],[D.s (ByteArray.mk #[37])]]).len/\(↑((lst (sgF d) i).t.size+(ByteArray.mk #[43]).size):Int)<=IntKind.i64.max/\(↑(((lst (sgF d) i).t++(ByteArray.mk #[43])).size+(ByteArray.mk #[50]).size):Int)<=IntKind.i64.max/\((lst (sgF d) i).h=true->(0:Nat)+(lst (sgF d) i).s.d.len<=(lst (sgF d) i).s.d.len/\(0:Nat)+(lst (sgF d) i).w.d.len<=(lst (sgF d) i).w.d.len/\∃ (j:Nat),(j<=k12 a/\True)/\(30:Nat)-j<(30:Nat)-i/\IntKind.i64.wrap ((↑i:Int)+(1:Int))=(↑j:Int)/\Value.string ((lst (sgF d) i).t++(ByteArray.mk #[43])++(ByteArray.mk #[50]))=Value.string (lst (sgF d) j).t/\true=(lst (sgF d) j).h/\IntKind.i64.wrap ((4:Int)+IntKind.i64.wrap (0:Int))=(lst (sgF d) j).o/\a=a/\d.rows=d.rows/\IntKind.i64.wrap ((1:Int)+IntKind.i64.wrap ((IntKind.u64.wrap a).tmod (12:Int)))=IntKind.i64.wrap ((1:Int)+IntKind.i64.wrap ((IntKind.u64.wrap a).tmod (12:Int)))/\(1:Int)=(lst (sgF d) j).w.k/\(2:Int)=(lst (sgF d) j).w.n/\Value.string ByteArray.empty=Value.string (lst (sgF d) j).w.s/\(lst (sgF d) j).w.d.len=(0:Nat)/\(lst (sgF d) j).w.d.rows=[]/\(lst (sgF d) i).o=(lst (sgF d) j).s.k/\(0:Int)=(lst (sgF d) j).s.n/\Value.string ByteArray.empty=Value.string (lst (sgF d) j).s.s/\(2:Nat)=(lst (sgF d) j).s.d.len /\ [[D.i (lst (sgF d) i).s.k,D.i (lst (sgF d) i).s.n,D.s (lst (sgF d) i).s.s,(lst (sgF d) i).s.d.sub ((0:Nat)) ((0:Nat)+(lst (sgF d) i).s.d.len)],[D.i (lst (sgF d) i).w.k,D.i (lst (sgF d) i).w.n,D.s (lst (sgF d) i).w.s,(lst (sgF d) i).w.d.sub ((0:Nat)) ((0:Nat)+(lst (sgF d) i).w.d.len)]]=(lst (sgF d) j).s.d.rows)/\((lst (sgF d) i).h=false->∃ (j:Nat),(j<=k12 a/\True)/\(30:Nat)-j<(30:Nat)-i/\IntKind.i64.wrap ((↑i:Int)+(1:Int))=(↑j:Int)/\Value.string ((lst (sgF d) i).t++(ByteArray.mk #[43])++(ByteArray.mk #[50]))=Value.string (lst (sgF d) j).t/\true=(lst (sgF d) j).h/\IntKind.i64.wrap ((4:Int)+IntKind.i64.wrap (0:Int))=(lst (sgF d) j).o/\a=a/\d.rows=d.rows/\IntKind.i64.wrap ((1:Int)+IntKind.i64.wrap ((IntKind.u64.wrap a).tmod (12:Int)))=IntKind.i64.wrap ((1:Int)+IntKind.i64.wrap ((IntKind.u64.wrap a).tmod (12:Int)))/\(1:Int)=(lst (sgF d) j).w.k/\(2:Int)=(lst (sgF d) j).w.n/\Value.string ByteArray.empty=Value.string (lst (sgF d) j).w.s/\(lst (sgF d) j).w.d.len=(0:Nat)/\(lst (sgF d) j).w.d.rows=[]/\(lst (sgF d) i).w.k=(lst (sgF d) j).s.k/\(lst (sgF d) i).w.n=(lst (sgF d) j).s.n/\Value.string (lst (sgF d) i).w.s=Value.string (lst (sgF d) j).s.s/\(lst (sgF d) i).w.d.len=(lst (sgF d) j).s.d.len/\(lst (sgF d) i).w.d.rows=(lst (sgF d) j).s.d.rows)))/\(decide ((↑i:Int)<IntKind.i64.wrap ((1:Int)+IntKind.i64.wrap ((IntKind.u64.wrap a).tmod (12:Int))))=false->((lst (sgF d) i).h=true->(0:Nat)+(lst (sgF d) i).s.d.len<=(lst (sgF d) i).s.d.len/\(0:Nat)+(lst (sgF d) i).w.d.len<=(lst (sgF d) i).w.d.len/\(↑((lst (sgF d) i).t.size+(ByteArray.mk #[59,32,125]).size):Int)<=IntKind.i64.max/\((lst (sgF d) i).t++(ByteArray.mk #[59,32,125])).size<=(140737488351232:Nat)/\(true&&paE ((lst (sgF d) i).t++(ByteArray.mk #[59,32,125]))==(0:Int))=true/\(true&&paE ((lst (sgF d) i).t++(ByteArray.mk #[59,32,125]))==(0:Int))=true/\(true&&paE ((lst (sgF d) i).t++(ByteArray.mk #[59,32,125]))==(0:Int))=true/\(0:Nat)+(2:Nat)<=(D.l [[D.i (lst (sgF d) i).s.k,D.i (lst (sgF d) i).s.n,D.s (lst (sgF d) i).s.s,(lst (sgF d) i).s.d.sub ((0:Nat)) ((0:Nat)+(lst (sgF d) i).s.d.len)],[D.i (lst (sgF d) i).w.k,D.i (lst (sgF d) i).w.n,D.s (lst (sgF d) i).w.s,(lst (sgF d) i).w.d.sub ((0:Nat)) ((0:Nat)+(lst (sgF d) i).w.d.len)]]).len/\SyS (D.l []) (D.l []) (D.l [[D.s (ByteArray.mk #[112]),D.l [],D.l [[D.i (1:Int),D.s (ByteArray.mk #[120]),D.s ByteArray.empty,D.i (lst (sgF d) i).o,D.i (0:Int),D.s ByteArray.empty,(D.l [[D.i (lst (sgF d) i).s.k,D.i (lst (sgF d) i).s.n,D.s (lst (sgF d) i).s.s,(lst (sgF d) i).s.d.sub ((0:Nat)) ((0:Nat)+(lst (sgF d) i).s.d.len)],[D.i (lst (sgF d) i).w.k,D.i (lst (sgF d) i).w.n,D.s (lst (sgF d) i).w.s,(lst (sgF d) i).w.d.sub ((0:Nat)) ((0:Nat)+(lst (sgF d) i).w.d.len)]]).sub ((0:Nat)) ((0:Nat)+(2:Nat)),D.i (0:Int),D.i (0:Int),D.i (0:Int),D.s ByteArray.empty,D.l [],D.i (0:Int),D.i (0:Int),D.s ByteArray.empty,D.l [],D.l [],D.l [],D.l []]]]])/\((true&&paE ((lst (sgF d) i).t++(ByteArray.mk #[59,32,125]))==(0:Int))=true/\True->(0:Nat)+(paC ((lst (sgF d) i).t++(ByteArray.mk #[59,32,125]))).len<=(paC ((lst (sgF d) i).t++(ByteArray.mk #[59,32,125]))).len)/\((true&&paE ((lst (sgF d) i).t++(ByteArray.mk #[59,32,125]))==(0:Int))=true/\True->(0:Nat)+(paU ((lst (sgF d) i).t++(ByteArray.mk #[59,32,125]))).len<=(paU ((lst (sgF d) i).t++(ByteArray.mk #[59,32,125]))).len)/\((true&&paE ((lst (sgF d) i).t++(ByteArray.mk #[59,32,125]))==(0:Int))=true/\True->(0:Nat)+(paP ((lst (sgF d) i).t++(ByteArray.mk #[59,32,125]))).len<=(paP ((lst (sgF d) i).t++(ByteArray.mk #[59,32,125]))).len)/\((true&&paE ((lst (sgF d) i).t++(ByteArray.mk #[59,32,125]))==(0:Int))=true/\True->chAls ((paC ((lst (sgF d) i).t++(ByteArray.mk #[59,32,125]))).sub ((0:Nat)) ((0:Nat)+(paC ((lst (sgF d) i).t++(ByteArray.mk #[59,32,125]))).len)) (cpC (D.l []))/\ruAls ((paU ((lst (sgF d) i).t++(ByteArray.mk #[59,32,125]))).sub ((0:Nat)) ((0:Nat)+(paU ((lst (sgF d) i).t++(ByteArray.mk #[59,32,125]))).len)) (cpU (D.l []))/\prAls ((paP ((lst (sgF d) i).t++(ByteArray.mk #[59,32,125]))).sub ((0:Nat)) ((0:Nat)+(paP ((lst (sgF d) i).t++(ByteArray.mk #[59,32,125]))).len)) (cpP (D.l [[D.s (ByteArray.mk #[112]),D.l [],D.l [[D.i (1:Int),D.s (ByteArray.mk #[120]),D.s ByteArray.empty,D.i (lst (sgF d) i).o,D.i (0:Int),D.s ByteArray.empty,(D.l [[D.i (lst (sgF d) i).s.k,D.i (lst (sgF d) i).s.n,D.s (lst (sgF d) i).s.s,(lst (sgF d) i).s.d.sub ((0:Nat)) ((0:Nat)+(lst (sgF d) i).s.d.len)],[D.i (lst (sgF d) i).w.k,D.i (lst (sgF d) i).w.n,D.s (lst (sgF d) i).w.s,(lst (sgF d) i).w.d.sub ((0:Nat)) ((0:Nat)+(lst (sgF d) i).w.d.len)]]).sub ((0:Nat)) ((0:Nat)+(2:Nat)),D.i (0:Int),D.i (0:Int),D.i (0:Int),D.s ByteArray.empty,D.l [],D.i (0:Int),D.i (0:Int),D.s ByteArray.empty,D.l [],D.l [],D.l [],D.l []]]]])))/\((true&&paE ((lst (sgF d) i).t++(ByteArray.mk #[59,32,125]))==(0:Int))=true/\True->SyS ((paC ((lst (sgF d) i).t++(ByteArray.mk #[59,32,125]))).sub ((0:Nat)) ((0:Nat)+(paC ((lst (sgF d) i).t++(ByteArray.mk #[59,32,125]))).len)) ((paU ((lst (sgF d) i).t++(ByteArray.mk #[59,32,125]))).sub ((0:Nat)) ((0:Nat)+(paU ((lst (sgF d) i).t++(ByteArray.mk #[59,32,125]))).len)) ((paP ((lst (sgF d) i).t++(ByteArray.mk #[59,32,125]))).sub ((0:Nat)) ((0:Nat)+(paP ((lst (sgF d) i).t++(ByteArray.mk #[59,32,125]))).len)))/\(true&&paE ((lst (sgF d) i).t++(ByteArray.mk #[59,32,125]))==(0:Int) ||false)=true)/\((lst (sgF d) i).h=false->(↑((lst (sgF d) i).t.size+(ByteArray.mk #[59,32,125]).size):Int)<=IntKind.i64.max/\((lst (sgF d) i).t++(ByteArray.mk #[59,32,125])).size<=(140737488351232:Nat)/\(true&&paE ((lst (sgF d) i).t++(ByteArray.mk #[59,32,125]))==(0:Int))=true/\(true&&paE ((lst (sgF d) i).t++(ByteArray.mk #[59,32,125]))==(0:Int))=true/\(true&&paE ((lst (sgF d) i).t++(ByteArray.mk #[59,32,125]))==(0:Int))=true/\(0:Nat)+(lst (sgF d) i).w.d.len<=(lst (sgF d) i).w.d.len/\SyS (D.l []) (D.l []) (D.l [[D.s (ByteArray.mk #[112]),D.l [],D.l [[D.i (1:Int),D.s (ByteArray.mk #[120]),D.s ByteArray.empty,D.i (lst (sgF d) i).w.k,D.i (lst (sgF d) i).w.n,D.s (lst (sgF d) i).w.s,(lst (sgF d) i).w.d.sub ((0:Nat)) ((0:Nat)+(lst (sgF d) i).w.d.len),D.i (0:Int),D.i (0:Int),D.i (0:Int),D.s ByteArray.empty,D.l [],D.i (0:Int),D.i (0:Int),D.s ByteArray.empty,D.l [],D.l [],D.l [],D.l []]]]])/\((true&&paE ((lst (sgF d) i).t++(ByteArray.mk #[59,32,125]))==(0:Int))=true/\True->(0:Nat)+(paC ((lst (sgF d) i).t++(ByteArray.mk #[59,32,125]))).len<=(paC ((lst (sgF d) i).t++(ByteArray.mk #[59,32,125]))).len)/\((true&&paE ((lst (sgF d) i).t++(ByteArray.mk #[59,32,125]))==(0:Int))=true/\True->(0:Nat)+(paU ((lst (sgF d) i).t++(ByteArray.mk #[59,32,125]))).len<=(paU ((lst (sgF d) i).t++(ByteArray.mk #[59,32,125]))).len)/\((true&&paE ((lst (sgF d) i).t++(ByteArray.mk #[59,32,125]))==(0:Int))=true/\True->(0:Nat)+(paP ((lst (sgF d) i).t++(ByteArray.mk #[59,32,125]))).len<=(paP ((lst (sgF d) i).t++(ByteArray.mk #[59,32,125]))).len)/\((true&&paE ((lst (sgF d) i).t++(ByteArray.mk #[59,32,125]))==(0:Int))=true/\True->chAls ((paC ((lst (sgF d) i).t++(ByteArray.mk #[59,32,125]))).sub ((0:Nat)) ((0:Nat)+(paC ((lst (sgF d) i).t++(ByteArray.mk #[59,32,125]))).len)) (cpC (D.l []))/\ruAls ((paU ((lst (sgF d) i).t++(ByteArray.mk #[59,32,125]))).sub ((0:Nat)) ((0:Nat)+(paU ((lst (sgF d) i).t++(ByteArray.mk #[59,32,125]))).len)) (cpU (D.l []))/\prAls ((paP ((lst (sgF d) i).t++(ByteArray.mk #[59,32,125]))).sub ((0:Nat)) ((0:Nat)+(paP ((lst (sgF d) i).t++(ByteArray.mk #[59,32,125]))).len)) (cpP (D.l [[D.s (ByteArray.mk #[112]),D.l [],D.l [[D.i (1:Int),D.s (ByteArray.mk #[120]),D.s ByteArray.empty,D.i (lst (sgF d) i).w.k,D.i (lst (sgF d) i).w.n,D.s (lst (sgF d) i).w.s,(lst (sgF d) i).w.d.sub ((0:Nat)) ((0:Nat)+(lst (sgF d) i).w.d.len),D.i (0:Int),D.i (0:Int),D.i (0:Int),D.s ByteArray.empty,D.l [],D.i (0:Int),D.i (0:Int),D.s ByteArray.empty,D.l [],D.l [],D.l [],D.l []]]]])))/\((true&&paE ((lst (sgF d) i).t++(ByteArray.mk #[59,32,125]))==(0:Int))=true/\True->SyS ((paC ((lst (sgF d) i).t++(ByteArray.mk #[59,32,125]))).sub ((0:Nat)) ((0:Nat)+(paC ((lst (sgF d) i).t++(ByteArray.mk #[59,32,125]))).len)) ((paU ((lst (sgF d) i).t++(ByteArray.mk #[59,32,125]))).sub ((0:Nat)) ((0:Nat)+(paU ((lst (sgF d) i).t++(ByteArray.mk #[59,32,125]))).len)) ((paP ((lst (sgF d) i).t++(ByteArray.mk #[59,32,125]))).sub ((0:Nat)) ((0:Nat)+(paP ((lst (sgF d) i).t++(ByteArray.mk #[59,32,125]))).len)))/\(true&&paE ((lst (sgF d) i).t++(ByteArray.mk #[59,32,125]))==(0:Int) ||false)=true))) (by kernel_rfl) ?_
  intro hu
  have hk:=k12_in a
  simp only [k12_eq]
  have cl:∀ n:Nat,0+n<=n:=fun n=>Nat.le_of_eq (Nat.zero_add n)
  have hmx:(IntKind.i64.max:Int)=9223372036854775807:=rfl
  refine ⟨⟨0,⟨Nat.zero_le _,trivial⟩,by (repeat' (with_reducible apply And.intro))<;>first |exact True.intro |rfl⟩,fun i hi=>⟨fun hc=>?_,fun hc=>?_⟩⟩
  ·have hc:=of_decide_eq_true hc
   have hz:=lst_sz (sgF d) i
   have hnx:IntKind.i64.wrap ((i:Int)+1)=((i+1:Nat):Int):=by rw [IntWalk.i64_in _ (by omega)];omega
   have hj:(i+1<=k12 a/\True):=⟨by omega,trivial⟩
   have hm:30-(i+1)<30-i:=by omega
   have en:(i:Int).toNat=i:=Int.toNat_natCast i
   refine ⟨fun hd=>?_,fun hd=>?_⟩
   ·have hd:=of_decide_eq_true hd
    have hd2:i<d.len:=by omega
    have h8:=hu i hd2
    have e5:(d.el (i:Int).toNat 0).toI.tmod 5=(sgF d i:Nat):=by
     rw [en,Int.tmod_eq_emod_of_nonneg h8.1]
     unfold sgF
     rw [if_pos hd2]
     omega
    have hs:lst (sgF d) (i+1)=lstep (sgF d i) (lst (sgF d) i):=rfl
    have h5:=sgF_lt d i
    simp only [e5]
    generalize sgF d i=c at h5 hs ⊢
    generalize lst (sgF d) i=q at hs hz ⊢
    have ec:(c:Int).toNat=c:=Int.toNat_natCast c
    have ew:=w32 c h5
    have et:=sg_tab c h5
    have es:=sgB_sz c
    simp only [ec,et,ew]
    have e2:(ByteArray.mk #[50]).size=1:=rfl
    refine ⟨⟨by omega,hd⟩,⟨by omega,by omega⟩,h5,by rw [hmx,es,hz];omega,by rw [hmx,ByteArray.size_append,es,hz,e2];omega,fun h2=>?_,fun h2=>⟨fun hh=>?_,fun hh=>?_⟩⟩
    ·have h2:(c:Int)>=2:=of_decide_eq_true h2
     refine ⟨cl _,i+1,hj,hm,hnx,?_⟩
     rw [hs,subAll]
     unfold lstep
     rw [if_pos (by omega)]
     (repeat' (with_reducible apply And.intro))<;>first |exact True.intro |rfl
    ·have h2:¬ (c:Int)>=2:=of_decide_eq_false h2
     refine ⟨cl _,cl _,i+1,hj,hm,hnx,?_⟩
     rw [hs,subAll,subAll]
     unfold lstep lq
     rw [if_neg (by omega),if_pos hh]
     (repeat' (with_reducible apply And.intro))<;>first |exact True.intro |rfl
    ·have h2:¬ (c:Int)>=2:=of_decide_eq_false h2
     refine ⟨i+1,hj,hm,hnx,?_⟩
     rw [hs]
     unfold lstep lq
     rw [if_neg (by omega),if_neg (by rw [hh];decide)]
     (repeat' (with_reducible apply And.intro))<;>first |exact True.intro |rfl
   ·have hd:=of_decide_eq_false hd
    have e0:sgF d i=0:=by unfold sgF;rw [if_neg (by omega)]
    have hs:lst (sgF d) (i+1)=lstep 0 (lst (sgF d) i):=by
     show lstep (sgF d i) _=_
     rw [e0]
    generalize lst (sgF d) i=q at hs hz ⊢
    have e1:(ByteArray.mk #[43]).size=1:=rfl
    have e2:(ByteArray.mk #[50]).size=1:=rfl
    have ew:IntKind.i64.wrap (4+IntKind.i64.wrap 0)=4+((0:Nat):Int):=w32 0 (by decide)
    rw [ew]
    refine ⟨by decide,by rw [hmx,e1,hz];omega,by rw [hmx,ByteArray.size_append,e1,hz,e2];omega,fun hh=>?_,fun hh=>?_⟩
    ·refine ⟨cl _,cl _,i+1,hj,hm,hnx,?_⟩
     rw [hs,subAll,subAll]
     unfold lstep lq
     rw [if_neg (by decide),if_pos hh]
     (repeat' (with_reducible apply And.intro))<;>first |exact True.intro |rfl
    ·refine ⟨i+1,hj,hm,hnx,?_⟩
     rw [hs]
     unfold lstep lq
     rw [if_neg (by decide),if_neg (by rw [hh];decide)]
     (repeat' (with_reducible apply And.intro))<;>first |exact True.intro |rfl
  ·have hc:=of_decide_eq_false hc
   have hi12:i<=12:=by have:=hi.1;omega
   have hz:=lst_sz (sgF d) i
   obtain ⟨p1,p2,p3,p4,p5,p6,p7,p8⟩:=plf_fin d hi12
   obtain ⟨a1,a2⟩:=al_nil
   generalize lst (sgF d) i=q at hz p1 p2 p3 p4 p5 p6 p7 p8 ⊢
   have ee:enB.size=3:=rfl
   have eT:(q.t++enB).size<=140737488351232:=by rw [ByteArray.size_append,ee,hz];omega
   have e3:((q.t.size+(ByteArray.mk #[59,32,125]).size:Nat):Int)<=IntKind.i64.max:=by
    show ((q.t.size+3:Nat):Int)<=9223372036854775807
    omega
   have eb:(true&&paE (q.t++enB)==0)=true:=by rw [p4];rfl
   have eb2:(true&&paE (q.t++enB)==0 ||false)=true:=by rw [p4];rfl
   have s1:(paC (q.t++enB)).sub 0 (0+(paC (q.t++enB)).len) = .l []:=by rw [p1];rfl
   have s2:(paU (q.t++enB)).sub 0 (0+(paU (q.t++enB)).len) = .l []:=by rw [p2];rfl
   have s3:(paP (q.t++enB)).sub 0 (0+(paP (q.t++enB)).len)=sy1 (lq q):=by rw [p3];rfl
   refine ⟨fun hh=>?_,fun hh=>?_⟩
   ·rw [subAll,subAll]
    have el:lq q=X2 q.o q.s q.w:=if_pos hh
    rw [el] at p5 p6 p7 s3
    refine ⟨cl _,cl _,e3,eT,eb,eb,eb,Nat.le_refl 2,p5,fun _=>cl _,fun _=>cl _,fun _=>cl _,fun _=>?_,fun _=>?_,eb2⟩
    ·refine ⟨?_,?_,?_⟩
     ·rw [show (ByteArray.mk #[59,32,125])=enB from rfl,s1];exact a1
     ·rw [show (ByteArray.mk #[59,32,125])=enB from rfl,s2];exact a2
     ·rw [show (ByteArray.mk #[59,32,125])=enB from rfl,s3]
      show prAls _ (cpP (sy1 (X2 q.o q.s q.w)))
      rw [p6];exact p7
    ·rw [show (ByteArray.mk #[59,32,125])=enB from rfl,s1,s2,s3];exact p5
   ·have el:lq q=q.w:=if_neg (by rw [hh];decide)
    rw [el] at p5 p6 p7 p8 s3
    rw [subAll,p8]
    refine ⟨e3,eT,eb,eb,eb,cl _,p5,fun _=>cl _,fun _=>cl _,fun _=>cl _,fun _=>?_,fun _=>?_,eb2⟩
    ·refine ⟨?_,?_,?_⟩
     ·rw [show (ByteArray.mk #[59,32,125])=enB from rfl,s1];exact a1
     ·rw [show (ByteArray.mk #[59,32,125])=enB from rfl,s2];exact a2
     ·rw [show (ByteArray.mk #[59,32,125])=enB from rfl,s3]
      show prAls _ (cpP (sy1 q.w))
      rw [p6];exact p7
    ·rw [show (ByteArray.mk #[59,32,125])=enB from rfl,s1,s2,s3];exact p5
 ·trivial
end Go.Proofs.Ytbhbjhejkamlnaa.Sx.Z
