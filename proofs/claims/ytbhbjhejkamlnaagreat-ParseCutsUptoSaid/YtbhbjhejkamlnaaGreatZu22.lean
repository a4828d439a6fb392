import Derived.Test.YtbhbjhejkamlnaaGreatZu21
set_option linter.unusedVariables false
set_option linter.unusedSimpArgs false
namespace Go.Proofs.YtbhbjhejkamlnaaGreat.Sx.Z
open Go.RowKit
def txP:ByteArray:=⟨#[112,114,111,99,32,112,32,123,32,120,32,61,32,49,32,43,32,50,32,42,32,51,32,59,32,125]⟩
def txQ:ByteArray:=⟨#[112,114,111,99,32,112]⟩
def tpD:D:=.l [[.s ⟨#[112]⟩,.l [],.l [[.i 1,.s ⟨#[120]⟩,.s ByteArray.empty,.i 4,.i 0,.s ByteArray.empty,.l [[.i 1,.i 1,.s ByteArray.empty,.l []],[.i 6,.i 0,.s ByteArray.empty,.l [[.i 1,.i 2,.s ByteArray.empty,.l []],[.i 1,.i 3,.s ByteArray.empty,.l []]]]],.i 0,.i 0,.i 0,.s ByteArray.empty,.l [],.i 0,.i 0,.s ByteArray.empty,.l [],.l [],.l [],.l []]]]]
theorem conS_sub {P:Program} {f:FuncId} {aps:List AP} {S S':List Dat->Option Eff} (h:ConOK P f (conS aps S)) (hS:∀ ds e,S' ds=some e->S ds=some e):ConOK P f (conS aps S'):=by
 refine ⟨h.enters,fun hp fr args e he=>h.calls hp fr args e ?_,fun hp fr caps e he=>?_⟩
 ·unfold conS con at he ⊢
  split at he
  ·rename_i ds ps hds
   cases hq:S' ds with
   |none=>simp only [hq] at he;cases he
   |some x=>
    simp only [hq] at he;simp only [hds,hS _ _ hq];exact he
  ·cases he
 ·unfold conS at he;rw [con_jf] at he;cases he
theorem ba_eq {a b:ByteArray} (h:(a.toList==b.toList)=true):a=b:=by
 have h:=eq_of_beq h;rw [ByteArray.toList_eq,ByteArray.toList_eq] at h;exact ByteArray.ext (Array.toList_inj.1 h)
noncomputable def prtS:List Dat->Option Eff:=fun ds=>match ds with
 | [.s s]=>(match s.toList==txP.toList with
   |true=>some {val:=.tup [.agg [.c (.osl 101 0 (.lit 0) (.sym (D.len (.l [])))),.c (.osl 106 1 (.lit 0) (.sym (D.len (.l [])))),.c (.osl 72 2 (.lit 0) (.sym (D.len (.l [[.s ⟨#[112]⟩,.l [],.l [[.i 1,.s ⟨#[120]⟩,.s ByteArray.empty,.i 4,.i 0,.s ByteArray.empty,.l [[.i 1,.i 1,.s ByteArray.empty,.l []],[.i 6,.i 0,.s ByteArray.empty,.l [[.i 1,.i 2,.s ByteArray.empty,.l []],[.i 1,.i 3,.s ByteArray.empty,.l []]]]],.i 0,.i 0,.i 0,.s ByteArray.empty,.l [],.i 0,.i 0,.s ByteArray.empty,.l [],.l [],.l [],.l []]]]]))))],.sc (.int .i64 (.sym 0)),.sc (.int .i64 (.sym 0))],vc:=[s.size<=140737488351232],nw:=[(0,.orow 101 (.l [])),(1,.orow 106 (.l [])),(2,.orow 72 (.l [[.s ⟨#[112]⟩,.l [],.l [[.i 1,.s ⟨#[120]⟩,.s ByteArray.empty,.i 4,.i 0,.s ByteArray.empty,.l [[.i 1,.i 1,.s ByteArray.empty,.l []],[.i 6,.i 0,.s ByteArray.empty,.l [[.i 1,.i 2,.s ByteArray.empty,.l []],[.i 1,.i 3,.s ByteArray.empty,.l []]]]],.i 0,.i 0,.i 0,.s ByteArray.empty,.l [],.i 0,.i 0,.s ByteArray.empty,.l [],.l [],.l [],.l []]]]]))]}
   |false=>match s.toList==txQ.toList with
    |true=>some {val:=.tup [.agg [.c (.osl 101 0 (.lit 0) (.sym (D.len (.l [])))),.c (.osl 106 1 (.lit 0) (.sym (D.len (.l [])))),.c (.osl 72 2 (.lit 0) (.sym (D.len (.l []))))],.sc (.int .i64 (.sym 6)),.sc (.int .i64 (.sym 5))],vc:=[s.size<=140737488351232],nw:=[(0,.orow 101 (.l [])),(1,.orow 106 (.l [])),(2,.orow 72 (.l []))]}
    |false=>none)
 |_=>none
set_option maxRecDepth 100000 in
theorem tp_facts:paC txP = .l []/\paU txP = .l []/\paP txP=tpD/\paA txP=0/\paE txP=0:=⟨by kernel_rfl,by kernel_rfl,by kernel_rfl,by decide +kernel,by decide +kernel⟩
set_option maxRecDepth 100000 in
theorem tq_facts:paC txQ = .l []/\paU txQ = .l []/\paP txQ = .l []/\paA txQ=6/\paE txQ=5:=⟨by kernel_rfl,by kernel_rfl,by kernel_rfl,by decide +kernel,by decide +kernel⟩
theorem prt_ok:ConOK Tryz.prog 7 (conS [.sc .str] prtS):=conS_sub par_ok fun ds e h=>by
 unfold prtS at h
 split at h
 ·rename_i s
  split at h
  ·rename_i hs;obtain rfl:=ba_eq hs;obtain ⟨a,b,c,d,e⟩:=tp_facts;rw [<- h];unfold parS;simp only [a,b,c,d,e];rfl
  ·split at h
   ·rename_i hs;obtain rfl:=ba_eq hs;obtain ⟨a,b,c,d,e⟩:=tq_facts;rw [<- h];unfold parS;simp only [a,b,c,d,e]
   ·cases h
 ·cases h
noncomputable def prsS:FSpec:=fun ds _=>match ds with
 | []=>some {val:=.one (.sc (.bool (.sym (true)))),vc:=[]}
 |_=>none
noncomputable def prsC:Con:=con [] prsS
theorem prs_ok:ConOK Tryz.prog 6 prsC:=by
 refine fn_ob tt_ok mixed Tryz.func6 rfl (fun _ _=>by kernel_rfl) (A:=fun ds=>⟨fun _=>Cons.of [(7,(conS [.sc .str] prtS))],fun _=>none,fun _=>none⟩) (fun _ _=>(cons_cons prt_ok cons_nil)) (by kernel_rfl) ?_
 intro ds fr;unfold prsS;split
 ·skip
  refine kmp (q:=withv (tpD.el 0 ((0:Nat)+(2:Nat))) fun E107=>withv (E107.el 0 ((0:Nat)+3+(3:Nat))) fun E108=>txP.size<=140737488351232/\txQ.size<=140737488351232/\(((0:Int)==(0:Int)&&(1:Int)==(1:Int))=true/\True->0<(1:Nat))/\(((0:Int)==(0:Int)&&(1:Int)==(1:Int))=true/\True->0<tpD.len)/\(((0:Int)==(0:Int)&&(1:Int)==(1:Int)&&(E107.len:Int)==(1:Int))=true/\True->0<(1:Nat))/\(((0:Int)==(0:Int)&&(1:Int)==(1:Int)&&(E107.len:Int)==(1:Int))=true/\True->0<tpD.len)/\(((0:Int)==(0:Int)&&(1:Int)==(1:Int)&&(E107.len:Int)==(1:Int))=true/\True->0<E107.len)/\(((0:Int)==(0:Int)&&(1:Int)==(1:Int)&&(E107.len:Int)==(1:Int)&&(4:Int)==(4:Int))=true/\True->0<(1:Nat))/\(((0:Int)==(0:Int)&&(1:Int)==(1:Int)&&(E107.len:Int)==(1:Int)&&(4:Int)==(4:Int))=true/\True->0<tpD.len)/\(((0:Int)==(0:Int)&&(1:Int)==(1:Int)&&(E107.len:Int)==(1:Int)&&(4:Int)==(4:Int))=true/\True->0<E107.len)/\(((0:Int)==(0:Int)&&(1:Int)==(1:Int)&&(E107.len:Int)==(1:Int)&&(4:Int)==(4:Int)&&(E108.len:Int)==(2:Int))=true/\True->0<(1:Nat))/\(((0:Int)==(0:Int)&&(1:Int)==(1:Int)&&(E107.len:Int)==(1:Int)&&(4:Int)==(4:Int)&&(E108.len:Int)==(2:Int))=true/\True->0<tpD.len)/\(((0:Int)==(0:Int)&&(1:Int)==(1:Int)&&(E107.len:Int)==(1:Int)&&(4:Int)==(4:Int)&&(E108.len:Int)==(2:Int))=true/\True->0<E107.len)/\(((0:Int)==(0:Int)&&(1:Int)==(1:Int)&&(E107.len:Int)==(1:Int)&&(4:Int)==(4:Int)&&(E108.len:Int)==(2:Int))=true/\True->1<E108.len)/\((0:Int)==(0:Int)&&(1:Int)==(1:Int)&&(E107.len:Int)==(1:Int)&&(4:Int)==(4:Int)&&(E108.len:Int)==(2:Int)&&(6:Int)==(6:Int)&&(5:Int)==(5:Int)&&(6:Int)==(6:Int))=true) (by kernel_rfl) ?_
  dsimp +instances only [withv]
  (repeat' (with_reducible apply And.intro))<;>first |decide |(intro _;decide) |rfl
 ·trivial
end Go.Proofs.YtbhbjhejkamlnaaGreat.Sx.Z
namespace Go.Proofs.YtbhbjhejkamlnaaGreat.Sx.Z
open Go.RowKit
def ffR (ws:D) (en e:Int) (r:Rd):Rd:=if r.er=0 then ⟨r.nx,pkA ws r.nx en,e⟩ else r
def isB (ws:D) (t:ByteArray) (r:Rd):Bool:=r.er==0&&decide (r.nx<ws.len)&&(pkS ws r.nx).toList==t.toList&&decide (pkK ws r.nx>=3)
def muR (ws:D) (en:Int) (t:ByteArray) (r:Rd):Rd:=if isB ws t r=true then gx r else ffR ws en 5 r
def kiB (ws:D) (k:Int) (r:Rd):Bool:=r.er==0&&decide (r.nx<ws.len)&&pkK ws r.nx==k
def wnR (ws:D) (en k:Int) (r:Rd):Rd:=if kiB ws k r=true then gx r else ffR ws en 5 r
def wnS (ws:D) (r:Rd):ByteArray:=if kiB ws 1 r=true then pkS ws r.nx else ByteArray.empty
def wnN (ws:D) (r:Rd):Int:=if kiB ws 2 r=true then pkN ws r.nx else 0
theorem isB_eq (ws:D) (t:ByteArray) (nx pa er:Int):isB ws t (mR nx pa er)=(er==0&&decide (nx<(ws.len:Int))&&(pkS ws nx).toList==t.toList&&decide (pkK ws nx>=3)):=rfl
theorem kiB_eq (ws:D) (k nx pa er:Int):kiB ws k (mR nx pa er)=(er==0&&decide (nx<(ws.len:Int))&&pkK ws nx==k):=rfl
theorem pk_in {ws:D} {nx:Int} (h:nx<ws.len):pkS ws nx=(ws.el nx.toNat 1).toS/\pkK ws nx=(ws.el nx.toNat 0).toI:=⟨if_pos h,if_pos h⟩
theorem isB_lt {ws:D} {t:ByteArray} {r:Rd} (h:isB ws t r=true):r.er=0/\r.nx<ws.len:=by
 unfold isB at h;simp only [Bool.and_eq_true] at h;exact ⟨eq_of_beq h.1.1.1,of_decide_eq_true h.1.1.2⟩
theorem kiB_lt {ws:D} {k:Int} {r:Rd} (h:kiB ws k r=true):r.er=0/\r.nx<ws.len/\pkK ws r.nx=k:=by
 unfold kiB at h;simp only [Bool.and_eq_true] at h;exact ⟨eq_of_beq h.1.1,of_decide_eq_true h.1.2,eq_of_beq h.2⟩
theorem ki_not (ws:D) (k nx pa er:Int):(er != 0 ||decide (nx>=(ws.len:Int)) ||(ws.el nx.toNat (0+0)).toI != k) = !(kiB ws k (mR nx pa er)):=by
 by_cases hl:nx<ws.len
 ·have h1:decide (nx>=(ws.len:Int))=false:=decide_eq_false (by omega)
  rw [kiB_eq,(pk_in hl).2];simp only [h1,decide_eq_true hl,Bool.or_false,Bool.and_true,Bool.not_and,bne,Nat.add_zero]
 ·have h1:decide (nx>=(ws.len:Int))=true:=decide_eq_true (by omega)
  rw [kiB_eq];simp only [h1,decide_eq_false hl,Bool.and_false,Bool.false_and,Bool.or_true,Bool.true_or,Bool.not_false]
theorem ki_lt {ws:D} {nx er:Int} (h:(er != 0 ||decide (nx>=(ws.len:Int)))=false):nx<ws.len:=by
 simp only [Bool.or_eq_false_iff] at h;have:=of_decide_eq_false h.2;omega
theorem nx2 {ws:D} {nx:Int} (h:rdOK ws nx) (hl:nx<ws.len):IntKind.i64.wrap (IntKind.i64.wrap (nx+1)-1)=nx:=by
 obtain ⟨a,b,c⟩:=h;rw [IntWalk.i64_in (nx+1) (by omega),IntWalk.i64_in _ (by omega)];omega
noncomputable def wfaS:List Dat->Option (Eff × List Seg):=fun ds=>match ds with
 | [.d ws,.i nx,.i en,.i er,.i pa,.i e]=>some ({val:=.tup [],vc:=[rdOK ws nx]},[.c (.rows 132 ws),.c (.int .i64 (.sym ((ffR ws en e (mR nx pa er)).nx))),.c (.int .i64 (.sym en)),.c (.int .i64 (.sym ((ffR ws en e (mR nx pa er)).er))),.c (.int .i64 (.sym ((ffR ws en e (mR nx pa er)).pa)))])
 |_=>none
noncomputable def wfaC:Con:=conM 92 [.c (.rows 132),.c (.int .i64),.c (.int .i64),.c (.int .i64),.c (.int .i64)] [.sc (.int .i64)] wfaS
theorem wfa_ok:ConOK Tryz.prog 25 wfaC:=by
 refine fn_obM tt_ok mixed Tryz.func25 rfl (fun _ _=>by kernel_rfl) (A:=fun ds=>⟨fun _=>Cons.of [],fun _=>none,fun _=>none⟩) (fun _ _=>cons_nil) (by kernel_rfl) ?_
 intro ds;unfold wfaS;split
 ·rename_i ws nx en er pa e;refine kmp (q:=withv (ffR ws en e (mR nx pa er)) fun E109=>rdOK ws nx->((er != (0:Int))=true->ws.rows=ws.rows/\nx=E109.nx/\en=en/\er=E109.er/\pa=E109.pa)/\((er != (0:Int))=false->(decide (nx<(ws.len:Int))=true->((0:Int)<=nx/\nx<(ws.len:Int))/\ws.rows=ws.rows/\nx=E109.nx/\en=en/\e=E109.er/\(ws.el nx.toNat ((0:Nat)+(3:Nat))).toI=E109.pa)/\(decide (nx<(ws.len:Int))=false->ws.rows=ws.rows/\nx=E109.nx/\en=en/\e=E109.er/\en=E109.pa))) (by kernel_rfl) ?_
  dsimp +instances only [withv]
  intro h;unfold ffR mR;refine ⟨fun h0=>?_,fun h0=>⟨fun h1=>⟨⟨h.1,of_decide_eq_true h1⟩,?_⟩,fun h1=>?_⟩⟩
  ·rw [if_neg (ne_of_bne h0)]
   (repeat' (with_reducible apply And.intro))<;>first |with_reducible rfl |exact True.intro |assumption |(symm;assumption) |rfl
  ·have h1:=of_decide_eq_true h1;simp only [if_pos (of_not_bne h0),pkA,if_pos h1]
   (repeat' (with_reducible apply And.intro))<;>first |with_reducible rfl |exact True.intro |assumption |(symm;assumption) |rfl
  ·have h1:=of_decide_eq_false h1;simp only [if_pos (of_not_bne h0),pkA,if_neg h1]
   (repeat' (with_reducible apply And.intro))<;>first |with_reducible rfl |exact True.intro |assumption |(symm;assumption) |rfl
 ·trivial
noncomputable def wisS:List Dat->Option (Eff × List Seg):=fun ds=>match ds with
 | [.d ws,.i nx,.i en,.i er,.i pa,.s t]=>some ({val:=.one (.sc (.bool (.sym (isB ws t (mR nx pa er))))),vc:=[rdOK ws nx]},[.c (.rows 132 ws),.c (.int .i64 (.sym (nx))),.c (.int .i64 (.sym en)),.c (.int .i64 (.sym (er))),.c (.int .i64 (.sym (pa)))])
 |_=>none
noncomputable def wisC:Con:=conM 92 [.c (.rows 132),.c (.int .i64),.c (.int .i64),.c (.int .i64),.c (.int .i64)] [.sc .str] wisS
theorem wis_ok:ConOK Tryz.prog 19 wisC:=by
 refine fn_obM tt_ok mixed Tryz.func19 rfl (fun _ _=>by kernel_rfl) (A:=fun ds=>⟨fun _=>Cons.of [],fun _=>none,fun _=>none⟩) (fun _ _=>cons_nil) (by kernel_rfl) ?_
 intro ds;unfold wisS;split
 ·rename_i ws nx en er pa t;refine kmp (q:=rdOK ws nx->((er==(0:Int)&&decide (nx<(ws.len:Int)))=true/\True->(0:Int)<=nx/\nx<(ws.len:Int))/\((er==(0:Int)&&decide (nx<(ws.len:Int))&&(ws.el nx.toNat 1).toS.toList==t.toList)=true/\True->(0:Int)<=nx/\nx<(ws.len:Int))/\(er==(0:Int)&&decide (nx<(ws.len:Int))&&(ws.el nx.toNat 1).toS.toList==t.toList&&decide ((ws.el nx.toNat ((0:Nat)+(0:Nat))).toI>=(3:Int)))=isB ws t (mR nx pa er)/\ws.rows=ws.rows/\nx=nx/\en=en/\er=er/\pa=pa) (by kernel_rfl) ?_
  intro h;refine ⟨fun hc=>⟨h.1,?_⟩,fun hc=>⟨h.1,?_⟩,?_,rfl,rfl,rfl,rfl,rfl⟩
  ·have:=hc.1;simp only [Bool.and_eq_true] at this;exact of_decide_eq_true this.2
  ·have:=hc.1;simp only [Bool.and_eq_true] at this;exact of_decide_eq_true this.1.2
  ·by_cases hl:nx<ws.len
   ·rw [isB_eq,(pk_in hl).1,(pk_in hl).2]
   ·rw [isB_eq];simp only [decide_eq_false hl,Bool.and_false,Bool.false_and]
 ·trivial
noncomputable def wmuS:List Dat->Option (Eff × List Seg):=fun ds=>match ds with
 | [.d ws,.i nx,.i en,.i er,.i pa,.s t]=>some ({val:=.tup [],vc:=[rdOK ws nx]},[.c (.rows 132 ws),.c (.int .i64 (.sym ((muR ws en t (mR nx pa er)).nx))),.c (.int .i64 (.sym en)),.c (.int .i64 (.sym ((muR ws en t (mR nx pa er)).er))),.c (.int .i64 (.sym ((muR ws en t (mR nx pa er)).pa)))])
 |_=>none
noncomputable def wmuC:Con:=conM 92 [.c (.rows 132),.c (.int .i64),.c (.int .i64),.c (.int .i64),.c (.int .i64)] [.sc .str] wmuS
theorem wmu_ok:ConOK Tryz.prog 22 wmuC:=by
 refine fn_obM tt_ok mixed Tryz.func22 rfl (fun _ _=>by kernel_rfl) (A:=fun ds=>⟨fun _=>Cons.of [(19,wisC),(25,wfaC)],fun _=>none,fun _=>none⟩) (fun _ _=>(cons_cons wis_ok (cons_cons wfa_ok cons_nil))) (by kernel_rfl) ?_
 intro ds;unfold wmuS;split
 ·rename_i ws nx en er pa t;refine kmp (q:=withv (muR ws en t (mR nx pa er)) fun E110=>withv (ffR ws en (5:Int) (mR nx pa er)) fun E111=>rdOK ws nx->rdOK ws nx/\((!isB ws t (mR nx pa er))=true->rdOK ws nx/\ws.rows=ws.rows/\E111.nx=E110.nx/\en=en/\E111.er=E110.er/\E111.pa=E110.pa)/\((!isB ws t (mR nx pa er))=false->ws.rows=ws.rows/\IntKind.i64.wrap (nx+1)=E110.nx/\en=en/\er=E110.er/\pa=E110.pa)) (by kernel_rfl) ?_
  dsimp +instances only [withv]
  intro h;refine ⟨h,fun hc=>?_,fun hc=>?_⟩
  ·have hb:isB ws t (mR nx pa er)=false:=by simpa using hc
   have e:muR ws en t (mR nx pa er)=ffR ws en 5 (mR nx pa er):=if_neg (by rw [hb];decide)
   rw [e]
   (repeat' (with_reducible apply And.intro))<;>first |with_reducible rfl |exact True.intro |assumption |(symm;assumption) |rfl
  ·have hb:isB ws t (mR nx pa er)=true:=by simpa using hc
   have e:muR ws en t (mR nx pa er)=gx (mR nx pa er):=if_pos hb;rw [e,nx1 h (isB_lt hb).2]
   (repeat' (with_reducible apply And.intro))<;>first |with_reducible rfl |exact True.intro |assumption |(symm;assumption) |rfl
 ·trivial
noncomputable def wnaS:List Dat->Option (Eff × List Seg):=fun ds=>match ds with
 | [.d ws,.i nx,.i en,.i er,.i pa]=>some ({val:=.one (.sc (.raw (.string (wnS ws (mR nx pa er))))),vc:=[rdOK ws nx]},[.c (.rows 132 ws),.c (.int .i64 (.sym ((wnR ws en 1 (mR nx pa er)).nx))),.c (.int .i64 (.sym en)),.c (.int .i64 (.sym ((wnR ws en 1 (mR nx pa er)).er))),.c (.int .i64 (.sym ((wnR ws en 1 (mR nx pa er)).pa)))])
 |_=>none
noncomputable def wnaC:Con:=conM 92 [.c (.rows 132),.c (.int .i64),.c (.int .i64),.c (.int .i64),.c (.int .i64)] [] wnaS
theorem wna_ok:ConOK Tryz.prog 21 wnaC:=by
 refine fn_obM tt_ok mixed Tryz.func21 rfl (fun _ _=>by kernel_rfl) (A:=fun ds=>⟨fun _=>Cons.of [(25,wfaC)],fun _=>none,fun _=>none⟩) (fun _ _=>(cons_cons wfa_ok cons_nil)) (by kernel_rfl) ?_
 intro ds;unfold wnaS;split
 ·rename_i ws nx en er pa;refine kmp (q:=withv (wnR ws en (1:Int) (mR nx pa er)) fun E112=>withv (er != (0:Int) ||decide (nx>=(ws.len:Int)) ||(ws.el nx.toNat ((0:Nat)+(0:Nat))).toI != (1:Int)) fun E113=>withv (IntKind.i64.wrap (nx+1)-(1:Int)) fun E114=>withv (ffR ws en (5:Int) (mR nx pa er)) fun E115=>rdOK ws nx->((er != (0:Int) ||decide (nx>=(ws.len:Int)))=false/\True->(0:Int)<=nx/\nx<(ws.len:Int))/\(E113=true->rdOK ws nx/\Value.string (ByteArray.mk #[])=Value.string (wnS ws (mR nx pa er))/\ws.rows=ws.rows/\E115.nx=E112.nx/\en=en/\E115.er=E112.er/\E115.pa=E112.pa)/\(E113=false->((0:Int)<=IntKind.i64.wrap E114/\IntKind.i64.wrap E114<(ws.len:Int))/\Value.string (ws.el (IntKind.i64.wrap E114).toNat 1).toS=Value.string (wnS ws (mR nx pa er))/\ws.rows=ws.rows/\IntKind.i64.wrap (nx+1)=E112.nx/\en=en/\er=E112.er/\pa=E112.pa)) (by kernel_rfl) ?_
  dsimp +instances only [withv]
  intro h;rw [ki_not,Bool.not_eq_true',Bool.not_eq_false'];refine ⟨fun hc=>⟨h.1,ki_lt hc.1⟩,fun hc=>?_,fun hc=>?_⟩
  ·have e:wnR ws en 1 (mR nx pa er)=ffR ws en 5 (mR nx pa er):=if_neg (by rw [hc];decide)
   have e2:wnS ws (mR nx pa er)=ByteArray.empty:=if_neg (by rw [hc];decide)
   rw [e,e2]
   (repeat' (with_reducible apply And.intro))<;>first |with_reducible rfl |exact True.intro |assumption |(symm;assumption) |rfl
  ·obtain ⟨k1,k2,k3⟩:=kiB_lt hc;have e:wnR ws en 1 (mR nx pa er)=gx (mR nx pa er):=if_pos hc;have e2:wnS ws (mR nx pa er)=pkS ws nx:=if_pos hc;have e3:pkS ws nx=(ws.el nx.toNat 1).toS:=if_pos k2;rw [nx2 h k2,nx1 h k2,e,e2,e3];exact ⟨⟨h.1,k2⟩,rfl,rfl,rfl,rfl,rfl,rfl⟩
 ·trivial
noncomputable def wnuS:List Dat->Option (Eff × List Seg):=fun ds=>match ds with
 | [.d ws,.i nx,.i en,.i er,.i pa]=>some ({val:=.one (.sc (.int .i64 (.sym (wnN ws (mR nx pa er))))),vc:=[rdOK ws nx]},[.c (.rows 132 ws),.c (.int .i64 (.sym ((wnR ws en 2 (mR nx pa er)).nx))),.c (.int .i64 (.sym en)),.c (.int .i64 (.sym ((wnR ws en 2 (mR nx pa er)).er))),.c (.int .i64 (.sym ((wnR ws en 2 (mR nx pa er)).pa)))])
 |_=>none
noncomputable def wnuC:Con:=conM 92 [.c (.rows 132),.c (.int .i64),.c (.int .i64),.c (.int .i64),.c (.int .i64)] [] wnuS
theorem wnu_ok:ConOK Tryz.prog 23 wnuC:=by
 refine fn_obM tt_ok mixed Tryz.func23 rfl (fun _ _=>by kernel_rfl) (A:=fun ds=>⟨fun _=>Cons.of [(25,wfaC)],fun _=>none,fun _=>none⟩) (fun _ _=>(cons_cons wfa_ok cons_nil)) (by kernel_rfl) ?_
 intro ds;unfold wnuS;split
 ·rename_i ws nx en er pa;refine kmp (q:=withv (wnR ws en (2:Int) (mR nx pa er)) fun E116=>withv (er != (0:Int) ||decide (nx>=(ws.len:Int)) ||(ws.el nx.toNat ((0:Nat)+(0:Nat))).toI != (2:Int)) fun E117=>withv (IntKind.i64.wrap (nx+1)-(1:Int)) fun E118=>withv (ffR ws en (5:Int) (mR nx pa er)) fun E119=>rdOK ws nx->((er != (0:Int) ||decide (nx>=(ws.len:Int)))=false/\True->(0:Int)<=nx/\nx<(ws.len:Int))/\(E117=true->rdOK ws nx/\(0:Int)=wnN ws (mR nx pa er)/\ws.rows=ws.rows/\E119.nx=E116.nx/\en=en/\E119.er=E116.er/\E119.pa=E116.pa)/\(E117=false->((0:Int)<=IntKind.i64.wrap E118/\IntKind.i64.wrap E118<(ws.len:Int))/\(ws.el (IntKind.i64.wrap E118).toNat ((0:Nat)+(2:Nat))).toI=wnN ws (mR nx pa er)/\ws.rows=ws.rows/\IntKind.i64.wrap (nx+1)=E116.nx/\en=en/\er=E116.er/\pa=E116.pa)) (by kernel_rfl) ?_
  dsimp +instances only [withv]
  intro h;rw [ki_not,Bool.not_eq_true',Bool.not_eq_false'];refine ⟨fun hc=>⟨h.1,ki_lt hc.1⟩,fun hc=>?_,fun hc=>?_⟩
  ·have e:wnR ws en 2 (mR nx pa er)=ffR ws en 5 (mR nx pa er):=if_neg (by rw [hc];decide)
   have e2:wnN ws (mR nx pa er)=0:=if_neg (by rw [hc];decide)
   rw [e,e2]
   (repeat' (with_reducible apply And.intro))<;>first |with_reducible rfl |exact True.intro |assumption |(symm;assumption) |rfl
  ·obtain ⟨k1,k2,k3⟩:=kiB_lt hc;have e:wnR ws en 2 (mR nx pa er)=gx (mR nx pa er):=if_pos hc;have e2:wnN ws (mR nx pa er)=pkN ws nx:=if_pos hc;have e3:pkN ws nx=(ws.el nx.toNat 2).toI:=if_pos k2;rw [nx2 h k2,nx1 h k2,e,e2,e3];exact ⟨⟨h.1,k2⟩,rfl,rfl,rfl,rfl,rfl,rfl⟩
 ·trivial
end Go.Proofs.YtbhbjhejkamlnaaGreat.Sx.Z
namespace Go.Proofs.YtbhbjhejkamlnaaGreat.Sx
def cellZ (s:St) (t j:Nat):Int:=match look s.hp (idOf s t) with |some (.own _ l)=>(match l[j]? with |some (.c (.int _ x))=>x.v |_=>0) |_=>0
def famK (s:St) (sl:Slots) (ks:List Nat):St:={tm:=sl++keepS s.tm ks,hp:=s.hp,nx:=s.nx}
end Go.Proofs.YtbhbjhejkamlnaaGreat.Sx
namespace Go.Proofs.YtbhbjhejkamlnaaGreat.Sx.Z
open Go.RowKit
noncomputable def wpaS (P:PF) (m:Nat):List Dat->Option (Eff × List Seg):=fun ds=>match ds with
 | [.d ws,.i nx,.i en,.i er,.i pa,.i dp]=>some ({val:=.one (.agg [.c (.int .i64 (.sym ((P en ws dp (mR nx pa er)).1).k)),.c (.int .i64 (.sym ((P en ws dp (mR nx pa er)).1).n)),.c (.raw (.string ((P en ws dp (mR nx pa er)).1).s)),.c (.osl 24 0 (.lit 0) (.sym ((P en ws dp (mR nx pa er)).1).d.len))]),vc:=[rdOK ws nx,dpOK ws (mR nx pa er) dp,left ws (mR nx pa er)<m],nw:=[(0,.orow 24 (P en ws dp (mR nx pa er)).1.d)]},[.c (.rows 132 ws),.c (.int .i64 (.sym ((((P en ws dp (mR nx pa er)).2)).nx))),.c (.int .i64 (.sym en)),.c (.int .i64 (.sym ((((P en ws dp (mR nx pa er)).2)).er))),.c (.int .i64 (.sym ((((P en ws dp (mR nx pa er)).2)).pa)))])
 |_=>none
noncomputable def wpaC (P:PF) (m:Nat):Con:=conM 92 [.c (.rows 132),.c (.int .i64),.c (.int .i64),.c (.int .i64),.c (.int .i64)] [.sc (.int .i64)] (wpaS P m)
def ixR (ws sg:D) (r:Rd):Nat->Int
 | 0=>-1
 |i+1=>if isB ws (sg.el i 0).toS r=true then (i:Int) else ixR ws sg r i
def kQ (ws sg:D) (fi:Int) (r:Rd):Int:=if r.er=0/\0<=ixR ws sg r sg.len then fi+ixR ws sg r sg.len else 0
def cQL (P:Rd->Xp × Rd) (K:Rd->Int):Nat->Xp->Rd->Xp × Rd
 | 0,x,r=>(x,r)
 |m+1,x,r=>if K r=0 then (x,r) else cQL P K m (X2 (K r) x (P (gx r)).1) (P (gx r)).2
def cQA (P:Rd->Xp × Rd) (K:Rd->Int) (ws:D) (r:Rd):Xp × Rd:=cQL P K (left ws (P r).2) (P r).1 (P r).2
def KOK (ws:D) (K:Rd->Int):Prop:=∀ r,K r≠0->r.nx<ws.len
theorem ix_lt {ws sg:D} {r:Rd}:∀ n,0<=ixR ws sg r n->r.er=0/\r.nx<ws.len/\ixR ws sg r n<n
 | 0,h=>absurd (show (0:Int) <= -1 from h) (by decide)
 |n+1,h=>by
  unfold ixR at h ⊢;split
  ·rename_i hb;have:=isB_lt hb;exact ⟨this.1,this.2,by omega⟩
  ·rename_i hb;rw [if_neg hb] at h;have:=ix_lt n h;exact ⟨this.1,this.2.1,by omega⟩
theorem ix_ge {ws sg:D} {r:Rd}:∀ n,-1<=ixR ws sg r n/\ixR ws sg r n<n ∨ n=0
 | 0=>.inr rfl
 |n+1=>by
  left
  unfold ixR;split
  ·exact ⟨by omega,by omega⟩
  ·rcases ix_ge (ws:=ws) (sg:=sg) (r:=r) n with h |h
   ·exact ⟨h.1,by omega⟩
   ·subst h;show -1<=(-1:Int)/\(-1:Int)<((0+1:Nat):Int)
    decide
theorem ix_m1 {ws sg:D} {r:Rd} (n:Nat) : -1<=ixR ws sg r n:=by
 rcases ix_ge (ws:=ws) (sg:=sg) (r:=r) n with h |h
 ·exact h.1
 ·subst h;show -1<=(-1:Int)
  decide
theorem kQ_ok {ws sg:D} {fi:Int}:KOK ws (kQ ws sg fi):=fun r h=>by
 unfold kQ at h
 split at h
 ·rename_i h1;exact (ix_lt _ h1.2).2.1
 ·exact absurd rfl h
theorem cQL_end {P:Rd->Xp × Rd} {K:Rd->Int} {x:Xp} {r:Rd} (h:K r=0):∀ m,cQL P K m x r=(x,r)
 | 0=>rfl
 |m+1=>if_pos h
theorem cQL_fuel {P:Rd->Xp × Rd} {K:Rd->Int} {ws:D} (hP:PaOK ws P) (he:KOK ws K):∀ (n:Nat) (r:Rd) (x:Xp),rdOK ws r.nx->left ws r<=n->cQL P K n x r=cQL P K (left ws r) x r:=by
 intro n
 induction n using Nat.strongRecOn with
 |ind n ih=>
  intro r x h hl
  by_cases hk:K r=0
  ·rw [cQL_end hk,cQL_end hk]
  ·obtain ⟨g1,g2⟩:=gx_ok h (he r hk);obtain ⟨u1,u2,_⟩:=hP.up (gx r) g1;have u3:=left_le (ws:=ws) u1
   cases n with
   |zero=>omega
   |succ k=>
    rw [g2,cQL,if_neg hk,cQL,if_neg hk,ih k (by omega) _ _ u2 (by omega),ih (left ws (gx r)) (by omega) _ _ u2 u3]
theorem cQL_step {P:Rd->Xp × Rd} {K:Rd->Int} {ws:D} (hP:PaOK ws P) (he:KOK ws K) {r:Rd} (x:Xp) (h:rdOK ws r.nx) (hk:K r≠0):cQL P K (left ws (P (gx r)).2) (X2 (K r) x (P (gx r)).1) (P (gx r)).2=cQL P K (left ws r) x r:=by
 obtain ⟨g1,g2⟩:=gx_ok h (he r hk);obtain ⟨u1,u2,_⟩:=hP.up (gx r) g1;rw [g2,cQL,if_neg hk,cQL_fuel hP he (left ws (gx r)) _ _ u2 (left_le u1)]
theorem cQL_up {P:Rd->Xp × Rd} {K:Rd->Int} {ws:D} (hP:PaOK ws P) (he:KOK ws K):∀ (m:Nat) (x:Xp) (r:Rd),rdOK ws r.nx->x.d.len<=2->r.nx<=(cQL P K m x r).2.nx/\rdOK ws (cQL P K m x r).2.nx/\(cQL P K m x r).1.d.len<=2
 | 0,x,r,h,hx=>⟨Int.le_refl _,h,hx⟩
 |m+1,x,r,h,hx=>by
  by_cases hk:K r=0
  ·rw [cQL_end hk];exact ⟨Int.le_refl _,h,hx⟩
  ·obtain ⟨g1,g2⟩:=gx_ok h (he r hk);obtain ⟨u1,u2,u3⟩:=hP.up (gx r) g1;rw [cQL,if_neg hk];obtain ⟨w1,w2,w3⟩:=cQL_up hP he m (X2 (K r) x (P (gx r)).1) (P (gx r)).2 u2 (Nat.le_refl _);have e5:(gx r).nx=r.nx+1:=rfl;exact ⟨by omega,w2,w3⟩
theorem cQA_up {P:Rd->Xp × Rd} {K:Rd->Int} {ws:D} (hP:PaOK ws P) (he:KOK ws K):PaOK ws (cQA P K ws):=⟨fun r h=>by
 obtain ⟨u1,u2,u3⟩:=hP.up r h;obtain ⟨w1,w2,w3⟩:=cQL_up hP he (left ws (P r).2) (P r).1 (P r).2 u2 u3;exact ⟨Int.le_trans u1 w1,w2,w3⟩⟩
def sgM:D:=.l [[.s ⟨#[42]⟩],[.s ⟨#[47]⟩],[.s ⟨#[37]⟩]]
def sgA:D:=.l [[.s ⟨#[43]⟩],[.s ⟨#[45]⟩]]
noncomputable def wc6S (P:PF) (m:Nat):List Dat->Option (Eff × List Seg):=fun ds=>match ds with
 | [.d ws,.i nx,.i en,.i er,.i pa,.i dp,.d sg,.i fi]=>some ({val:=.one (.agg [.c (.int .i64 (.sym ((cQA (P en ws dp) (kQ ws sg fi) ws (mR nx pa er)).1).k)),.c (.int .i64 (.sym ((cQA (P en ws dp) (kQ ws sg fi) ws (mR nx pa er)).1).n)),.c (.raw (.string ((cQA (P en ws dp) (kQ ws sg fi) ws (mR nx pa er)).1).s)),.c (.osl 24 0 (.lit 0) (.sym ((cQA (P en ws dp) (kQ ws sg fi) ws (mR nx pa er)).1).d.len))]),vc:=[rdOK ws nx,fi=6,sg.len<=10,dpOK ws (mR nx pa er) dp,left ws (mR nx pa er)<m],nw:=[(0,.orow 24 (cQA (P en ws dp) (kQ ws sg fi) ws (mR nx pa er)).1.d)]},[.c (.rows 132 ws),.c (.int .i64 (.sym (((cQA (P en ws dp) (kQ ws sg fi) ws (mR nx pa er)).2).nx))),.c (.int .i64 (.sym en)),.c (.int .i64 (.sym (((cQA (P en ws dp) (kQ ws sg fi) ws (mR nx pa er)).2).er))),.c (.int .i64 (.sym (((cQA (P en ws dp) (kQ ws sg fi) ws (mR nx pa er)).2).pa)))])
 |_=>none
noncomputable def wc6C (P:PF) (m:Nat):Con:=conM 92 [.c (.rows 132),.c (.int .i64),.c (.int .i64),.c (.int .i64),.c (.int .i64)] [.sc (.int .i64),.sc (.rows 9),.sc (.int .i64)] (wc6S P m)
theorem wc6_ok {P:PF} {m:Nat} (hP:ConOK Tryz.prog 95 (wpaC P m)) (hPa:∀ en ws dp,PaOK ws (P en ws dp)):ConOK Tryz.prog 84 (wc6C P m):=by
 refine fn_obM tt_ok mixed Tryz.func84 rfl (fun _ _=>by kernel_rfl) (A:=fun ds=>⟨fun _=>Cons.of [(19,wisC),(95,(wpaC P m))],fun k=>match k,ds with | 5,[.d ws,.i nx,.i en,.i er,.i pa,.i dp,.d sg,.i fi]=>some {ι:=Xp × Rd,pre:=fun _ q=>rdOK ws q.2.nx/\(cQL (P en ws dp) (kQ ws sg fi) (left ws q.2) q.1 q.2=cQA (P en ws dp) (kQ ws sg fi) ws (mR nx pa er))/\q.1.d.len<=2/\nx<=q.2.nx,μ:=fun q=>left ws q.2,st:=fun s q=>famR s [] [0,1,2,3,8,9] [(0,.own 92 ([.c (.rows 132 ws),.c (.int .i64 (.sym ((q.2).nx))),.c (.int .i64 (.sym en)),.c (.int .i64 (.sym ((q.2).er))),.c (.int .i64 (.sym ((q.2).pa)))])),(idOf s 9,.own 24 ([.c (.int .i64 (.sym (q.1).k)),.c (.int .i64 (.sym (q.1).n)),.c (.raw (.string (q.1).s)),.c (.osl 24 (s.nx-1) (.lit 0) (.sym (q.1).d.len))])),(s.nx-1,.orow 24 (q.1.d))] [8]} | 8,[.d ws,.i nx,.i en,.i er,.i pa,.i dp,.d sg,.i fi]=>some {ι:=Nat,pre:=fun _ i=>i<=sg.len/\True,μ:=fun i=>sg.len+1-i,st:=fun s i=>famK s [(10,.one (.sc (.int .i64 (.sym (ixR ws sg (mR (cellZ s 0 1) (cellZ s 0 4) (cellZ s 0 3)) i))))),(11,.one (.sc (.int .i64 (.sym ((i:Nat))))))] [0,1,2,3,8,9]} |_,_=>none,fun _=>none⟩) (fun _ _=>(cons_cons wis_ok (cons_cons hP cons_nil))) (by kernel_rfl) ?_
 intro ds;unfold wc6S;split
 ·rename_i ws nx en er pa dp sg fi
  refine kmp (q:=withv (cQA (P en ws dp) (kQ ws sg fi) ws (mR nx pa er)) fun E120=>withv (fun (i:Xp × Rd)=>P en ws dp (mR (IntKind.i64.wrap (i.snd.nx+1)) i.snd.pa i.snd.er)) fun E121=>withv (P en ws dp (mR nx pa er)) fun E122=>rdOK ws nx->fi=(6:Int)->sg.len<=10->dpOK ws (mR nx pa er) dp->left ws (mR nx pa er)<m->((fi==(6:Int))=true->rdOK ws nx/\dpOK ws (mR nx pa er) dp/\left ws (mR nx pa er)<m/\(∃ (i:Xp × Rd),(rdOK ws i.snd.nx/\cQL (P en ws dp) (kQ ws sg fi) (left ws i.snd) i.fst i.snd=cQA (P en ws dp) (kQ ws sg fi) ws (mR nx pa er)/\i.fst.d.len<=2/\nx<=i.snd.nx)/\dp=dp/\sg.rows=sg.rows/\fi=fi/\ws.rows=ws.rows/\E122.snd.nx=i.snd.nx/\en=en/\E122.snd.er=i.snd.er/\E122.snd.pa=i.snd.pa/\E122.fst.k=i.fst.k/\E122.fst.n=i.fst.n/\Value.string E122.fst.s=Value.string i.fst.s/\E122.fst.d.len=i.fst.d.len/\E122.fst.d.rows=i.fst.d.rows/\(0:Int)=(0:Int)/\(0:Int)=(0:Int)/\Value.string ByteArray.empty=Value.string ByteArray.empty)/\∀ (i:Xp × Rd),rdOK ws i.snd.nx/\cQL (P en ws dp) (kQ ws sg fi) (left ws i.snd) i.fst i.snd=cQA (P en ws dp) (kQ ws sg fi) ws (mR nx pa er)/\i.fst.d.len<=2/\nx<=i.snd.nx->((i.snd.er==(0:Int))=true->(∃ (i_1:Nat),(i_1<=sg.len/\True)/\(-1:Int)=ixR ws sg i.snd i_1/\(0:Int)=(i_1:Int)/\dp=dp/\sg.rows=sg.rows/\fi=fi/\ws.rows=ws.rows/\i.snd.nx=i.snd.nx/\en=en/\i.snd.er=i.snd.er/\i.snd.pa=i.snd.pa/\i.fst.k=i.fst.k/\i.fst.n=i.fst.n/\Value.string i.fst.s=Value.string i.fst.s/\i.fst.d.len=i.fst.d.len/\i.fst.d.rows=i.fst.d.rows/\(0:Int)=(0:Int)/\(0:Int)=(0:Int)/\Value.string ByteArray.empty=Value.string ByteArray.empty)/\∀ (i_1:Nat),i_1<=sg.len/\True->(decide ((i_1:Int)<(sg.len:Int))=true->((0:Int)<=(i_1:Int)/\(i_1:Int)<(sg.len:Int))/\rdOK ws i.snd.nx/\(isB ws (sg.el (i_1:Int).toNat 0).toS i.snd=true->∃ (j:Nat),(j<=sg.len/\True)/\sg.len+1-j<sg.len+1-i_1/\(i_1:Int)=ixR ws sg i.snd j/\IntKind.i64.wrap ((i_1:Int)+1)=(j:Int)/\dp=dp/\sg.rows=sg.rows/\fi=fi/\ws.rows=ws.rows/\i.snd.nx=i.snd.nx/\en=en/\i.snd.er=i.snd.er/\i.snd.pa=i.snd.pa/\i.fst.k=i.fst.k/\i.fst.n=i.fst.n/\Value.string i.fst.s=Value.string i.fst.s/\i.fst.d.len=i.fst.d.len/\i.fst.d.rows=i.fst.d.rows/\(0:Int)=(0:Int)/\(0:Int)=(0:Int)/\Value.string ByteArray.empty=Value.string ByteArray.empty)/\(isB ws (sg.el (i_1:Int).toNat 0).toS i.snd=false->∃ (j:Nat),(j<=sg.len/\True)/\sg.len+1-j<sg.len+1-i_1/\ixR ws sg i.snd i_1=ixR ws sg i.snd j/\IntKind.i64.wrap ((i_1:Int)+1)=(j:Int)/\dp=dp/\sg.rows=sg.rows/\fi=fi/\ws.rows=ws.rows/\i.snd.nx=i.snd.nx/\en=en/\i.snd.er=i.snd.er/\i.snd.pa=i.snd.pa/\i.fst.k=i.fst.k/\i.fst.n=i.fst.n/\Value.string i.fst.s=Value.string i.fst.s/\i.fst.d.len=i.fst.d.len/\i.fst.d.rows=i.fst.d.rows/\(0:Int)=(0:Int)/\(0:Int)=(0:Int)/\Value.string ByteArray.empty=Value.string ByteArray.empty))/\(decide ((i_1:Int)<(sg.len:Int))=false->(decide (ixR ws sg i.snd i_1<(0:Int))=true->i.fst.k=E120.fst.k/\i.fst.n=E120.fst.n/\Value.string i.fst.s=Value.string E120.fst.s/\i.fst.d.len=E120.fst.d.len/\ws.rows=ws.rows/\i.snd.nx=E120.snd.nx/\en=en/\i.snd.er=E120.snd.er/\i.snd.pa=E120.snd.pa/\i.fst.d.rows=E120.fst.d.rows)/\(decide (ixR ws sg i.snd i_1<(0:Int))=false->((fi==(6:Int))=true->rdOK ws (IntKind.i64.wrap (i.snd.nx+1))/\dpOK ws (mR (IntKind.i64.wrap (i.snd.nx+1)) i.snd.pa i.snd.er) dp/\left ws (mR (IntKind.i64.wrap (i.snd.nx+1)) i.snd.pa i.snd.er)<m/\0+i.fst.d.len<=i.fst.d.len/\0+(E121 i).fst.d.len<=(E121 i).fst.d.len/\∃ (j:Xp × Rd),(rdOK ws j.snd.nx/\cQL (P en ws dp) (kQ ws sg fi) (left ws j.snd) j.fst j.snd=cQA (P en ws dp) (kQ ws sg fi) ws (mR nx pa er)/\j.fst.d.len<=2/\nx<=j.snd.nx)/\left ws j.snd<left ws i.snd/\dp=dp/\sg.rows=sg.rows/\fi=fi/\ws.rows=ws.rows/\(E121 i).snd.nx=j.snd.nx/\en=en/\(E121 i).snd.er=j.snd.er/\(E121 i).snd.pa=j.snd.pa/\IntKind.i64.wrap (fi+ixR ws sg i.snd i_1)=j.fst.k/\(0:Int)=j.fst.n/\Value.string ByteArray.empty=Value.string j.fst.s/\2=j.fst.d.len /\ [[D.i i.fst.k,D.i i.fst.n,D.s i.fst.s,i.fst.d.sub 0 ((0:Nat)+i.fst.d.len)],[D.i (E121 i).fst.k,D.i (E121 i).fst.n,D.s (E121 i).fst.s,(E121 i).fst.d.sub 0 ((0:Nat)+(E121 i).fst.d.len)]]=j.fst.d.rows/\(0:Int)=(0:Int)/\(0:Int)=(0:Int)/\Value.string ByteArray.empty=Value.string ByteArray.empty)/\((fi==(6:Int))=false->False))))/\((i.snd.er==(0:Int))=false->i.fst.k=E120.fst.k/\i.fst.n=E120.fst.n/\Value.string i.fst.s=Value.string E120.fst.s/\i.fst.d.len=E120.fst.d.len/\ws.rows=ws.rows/\i.snd.nx=E120.snd.nx/\en=en/\i.snd.er=E120.snd.er/\i.snd.pa=E120.snd.pa/\i.fst.d.rows=E120.fst.d.rows))/\((fi==(6:Int))=false->False)) (by kernel_rfl) ?_
  dsimp +instances only [withv]
  intro h hf hs hd hl;have hQ:=hPa en ws dp;obtain ⟨v1,v2,v3⟩:=hQ.up (mR nx pa er) h;refine ⟨fun hc=>⟨h,hd,hl,⟨(P en ws dp) (mR nx pa er),⟨v2,rfl,v3,v1⟩,(by (repeat' (with_reducible apply And.intro))<;>first |with_reducible rfl |exact True.intro |assumption |(symm;assumption) |rfl)⟩,?_⟩,fun hc=>absurd hf (ne_of_beq_false hc)⟩
  rintro q ⟨h1,h2,h3,h4⟩;refine ⟨fun h0=>⟨⟨0,⟨Nat.zero_le _,trivial⟩,(by (repeat' (with_reducible apply And.intro))<;>first |with_reducible rfl |exact True.intro |assumption |(symm;assumption) |rfl)⟩,fun i hi=>⟨fun hd1=>?_,fun hd1=>?_⟩⟩,fun h0=>?_⟩
  ·have hd1:=of_decide_eq_true hd1;have hi2:i<sg.len:=by omega
   have hw:IntKind.i64.wrap ((i:Int)+1)=((i+1:Nat):Int):=by rw [IntWalk.i64_in _ (by omega)];omega
   have en0:(i:Int).toNat=i:=Int.toNat_natCast i;rw [en0];refine ⟨⟨by omega,hd1⟩,h1,fun hb=>⟨i+1,⟨hi2,trivial⟩,by omega,(if_pos hb).symm,hw,(by (repeat' (with_reducible apply And.intro))<;>first |with_reducible rfl |exact True.intro |assumption |(symm;assumption) |rfl)⟩,fun hb=>⟨i+1,⟨hi2,trivial⟩,by omega,(if_neg (by rw [hb];decide)).symm,hw,(by (repeat' (with_reducible apply And.intro))<;>first |with_reducible rfl |exact True.intro |assumption |(symm;assumption) |rfl)⟩⟩
  ·have hd1:=of_decide_eq_false hd1;obtain rfl:i=sg.len:=by have:=hi.1;omega
   refine ⟨fun ha=>?_,fun ha=>⟨fun hc=>?_,fun hc=>absurd hf (ne_of_beq_false hc)⟩⟩
   ·have ha:=of_decide_eq_true ha;have hk:kQ ws sg fi q.2=0:=if_neg (fun hx=>by have:=hx.2;omega)
    rw [cQL_end hk] at h2;rw [<- h2]
    (repeat' (with_reducible apply And.intro))<;>first |with_reducible rfl |exact True.intro |assumption |(symm;assumption) |rfl
   ·have ha:=of_decide_eq_false ha;have hr0:q.2.er=0:=eq_of_beq h0;have hx:=ix_lt (ws:=ws) (sg:=sg) (r:=q.2) sg.len (by omega)
    have hk:kQ ws sg fi q.2=fi+ixR ws sg q.2 sg.len:=if_pos ⟨hr0,by omega⟩
    have hk0:kQ ws sg fi q.2≠0:=by rw [hk];omega
    have hlt:=hx.2.1;obtain ⟨g1,g2⟩:=gx_ok h1 hlt;obtain ⟨u1,u2,u3⟩:=hQ.up (gx q.2) g1;have ew:IntKind.i64.wrap (fi+ixR ws sg q.2 sg.len)=kQ ws sg fi q.2:=by rw [hk,IntWalk.i64_in _ (by omega)]
    rw [nx1 h1 hlt,subAll,subAll,ew];have e3:mR (q.2.nx+1) q.2.pa q.2.er=gx q.2:=rfl;rw [e3];have l0:left ws q.2<=left ws (mR nx pa er):=left_le h4;have l1:=left_le (ws:=ws) u1;have e5:(gx q.2).nx=q.2.nx+1:=rfl;have hd2:dpOK ws (gx q.2) dp:=⟨hd.1,by have:=hd.2;omega⟩
    refine ⟨g1,hd2,by omega,by omega,by omega,⟨(X2 (kQ ws sg fi q.2) q.1 ((P en ws dp) (gx q.2)).1,((P en ws dp) (gx q.2)).2),⟨u2,(cQL_step hQ kQ_ok q.1 h1 hk0).trans h2,Nat.le_refl _,(by show nx<=((P en ws dp) (gx q.2)).2.nx;omega)⟩,(by show left ws ((P en ws dp) (gx q.2)).2<left ws q.2;omega),(by (repeat' (with_reducible apply And.intro))<;>first |with_reducible rfl |exact True.intro |assumption |(symm;assumption) |rfl)⟩⟩
  ·have h0:q.2.er≠0:=ne_of_beq_false h0;have hk:kQ ws sg fi q.2=0:=if_neg (fun hx=>h0 hx.1)
   rw [cQL_end hk] at h2;rw [<- h2]
   (repeat' (with_reducible apply And.intro))<;>first |with_reducible rfl |exact True.intro |assumption |(symm;assumption) |rfl
 ·trivial
def wpr (P:PF):PF:=fun en ws dp r=>cQA (P en ws dp) (kQ ws sgM 6) ws r
def wsm (P:PF):PF:=fun en ws dp r=>cQA (wpr P en ws dp) (kQ ws sgA 4) ws r
theorem wpr_up {P:PF} (hPa:∀ en ws dp,PaOK ws (P en ws dp)) (en:Int) (ws:D) (dp:Int):PaOK ws (wpr P en ws dp):=cQA_up (hPa en ws dp) kQ_ok
theorem wsm_up {P:PF} (hPa:∀ en ws dp,PaOK ws (P en ws dp)) (en:Int) (ws:D) (dp:Int):PaOK ws (wsm P en ws dp):=cQA_up (wpr_up hPa en ws dp) kQ_ok
noncomputable def wc4S (P:PF) (m:Nat):List Dat->Option (Eff × List Seg):=fun ds=>match ds with
 | [.d ws,.i nx,.i en,.i er,.i pa,.i dp,.d sg,.i fi]=>some ({val:=.one (.agg [.c (.int .i64 (.sym ((cQA (wpr P en ws dp) (kQ ws sg fi) ws (mR nx pa er)).1).k)),.c (.int .i64 (.sym ((cQA (wpr P en ws dp) (kQ ws sg fi) ws (mR nx pa er)).1).n)),.c (.raw (.string ((cQA (wpr P en ws dp) (kQ ws sg fi) ws (mR nx pa er)).1).s)),.c (.osl 24 0 (.lit 0) (.sym ((cQA (wpr P en ws dp) (kQ ws sg fi) ws (mR nx pa er)).1).d.len))]),vc:=[rdOK ws nx,fi=4,sg.len<=10,dpOK ws (mR nx pa er) dp,left ws (mR nx pa er)<m],nw:=[(0,.orow 24 (cQA (wpr P en ws dp) (kQ ws sg fi) ws (mR nx pa er)).1.d)]},[.c (.rows 132 ws),.c (.int .i64 (.sym (((cQA (wpr P en ws dp) (kQ ws sg fi) ws (mR nx pa er)).2).nx))),.c (.int .i64 (.sym en)),.c (.int .i64 (.sym (((cQA (wpr P en ws dp) (kQ ws sg fi) ws (mR nx pa er)).2).er))),.c (.int .i64 (.sym (((cQA (wpr P en ws dp) (kQ ws sg fi) ws (mR nx pa er)).2).pa)))])
 |_=>none
noncomputable def wc4C (P:PF) (m:Nat):Con:=conM 92 [.c (.rows 132),.c (.int .i64),.c (.int .i64),.c (.int .i64),.c (.int .i64)] [.sc (.int .i64),.sc (.rows 9),.sc (.int .i64)] (wc4S P m)
theorem wc4_ok {P:PF} {m:Nat} (hP:ConOK Tryz.prog 95 (wpaC P m)) (hPa:∀ en ws dp,PaOK ws (P en ws dp)):ConOK Tryz.prog 84 (wc4C P m):=by
 refine fn_obM tt_ok mixed Tryz.func84 rfl (fun _ _=>by kernel_rfl) (A:=fun ds=>⟨fun _=>Cons.of [(19,wisC),(84,(wc6C P m))],fun k=>match k,ds with | 5,[.d ws,.i nx,.i en,.i er,.i pa,.i dp,.d sg,.i fi]=>some {ι:=Xp × Rd,pre:=fun _ q=>rdOK ws q.2.nx/\(cQL (wpr P en ws dp) (kQ ws sg fi) (left ws q.2) q.1 q.2=cQA (wpr P en ws dp) (kQ ws sg fi) ws (mR nx pa er))/\q.1.d.len<=2/\nx<=q.2.nx,μ:=fun q=>left ws q.2,st:=fun s q=>famR s [] [0,1,2,3,8,9] [(0,.own 92 ([.c (.rows 132 ws),.c (.int .i64 (.sym ((q.2).nx))),.c (.int .i64 (.sym en)),.c (.int .i64 (.sym ((q.2).er))),.c (.int .i64 (.sym ((q.2).pa)))])),(idOf s 9,.own 24 ([.c (.int .i64 (.sym (q.1).k)),.c (.int .i64 (.sym (q.1).n)),.c (.raw (.string (q.1).s)),.c (.osl 24 (s.nx-1) (.lit 0) (.sym (q.1).d.len))])),(s.nx-1,.orow 24 (q.1.d))] [8]} | 8,[.d ws,.i nx,.i en,.i er,.i pa,.i dp,.d sg,.i fi]=>some {ι:=Nat,pre:=fun _ i=>i<=sg.len/\True,μ:=fun i=>sg.len+1-i,st:=fun s i=>famK s [(10,.one (.sc (.int .i64 (.sym (ixR ws sg (mR (cellZ s 0 1) (cellZ s 0 4) (cellZ s 0 3)) i))))),(11,.one (.sc (.int .i64 (.sym ((i:Nat))))))] [0,1,2,3,8,9]} |_,_=>none,fun _=>none⟩) (fun _ _=>(cons_cons wis_ok (cons_cons (wc6_ok hP hPa) cons_nil))) (by kernel_rfl) ?_
 intro ds;unfold wc4S;split
 ·rename_i ws nx en er pa dp sg fi
  refine kmp (q:=withv (kQ ws ((D.l [[D.s (ByteArray.mk #[42])],[D.s (ByteArray.mk #[47])],[D.s (ByteArray.mk #[37])]]).sub 0 ((0:Nat)+(3:Nat))) (6:Int)) fun E123=>withv (cQA (wpr P en ws dp) (kQ ws sg fi) ws (mR nx pa er)) fun E124=>withv (fun (i:Xp × Rd)=>cQA (P en ws dp) E123 ws (mR (IntKind.i64.wrap (i.snd.nx+1)) i.snd.pa i.snd.er)) fun E125=>withv (D.l [[D.s (ByteArray.mk #[42])],[D.s (ByteArray.mk #[47])],[D.s (ByteArray.mk #[37])]]) fun E126=>withv (cQA (P en ws dp) E123 ws (mR nx pa er)) fun E127=>rdOK ws nx->fi=(4:Int)->sg.len<=10->dpOK ws (mR nx pa er) dp->left ws (mR nx pa er)<m->((fi==(6:Int))=true->False)/\((fi==(6:Int))=false->0+3<=E126.len/\rdOK ws nx/\(6:Int)=(6:Int)/\(E126.sub 0 ((0:Nat)+(3:Nat))).len<=10/\dpOK ws (mR nx pa er) dp/\left ws (mR nx pa er)<m/\(∃ (i:Xp × Rd),(rdOK ws i.snd.nx/\cQL (wpr P en ws dp) (kQ ws sg fi) (left ws i.snd) i.fst i.snd=cQA (wpr P en ws dp) (kQ ws sg fi) ws (mR nx pa er)/\i.fst.d.len<=2/\nx<=i.snd.nx)/\dp=dp/\sg.rows=sg.rows/\fi=fi/\ws.rows=ws.rows/\E127.snd.nx=i.snd.nx/\en=en/\E127.snd.er=i.snd.er/\E127.snd.pa=i.snd.pa/\E127.fst.k=i.fst.k/\E127.fst.n=i.fst.n/\Value.string E127.fst.s=Value.string i.fst.s/\E127.fst.d.len=i.fst.d.len/\E127.fst.d.rows=i.fst.d.rows/\(0:Int)=(0:Int)/\(0:Int)=(0:Int)/\Value.string ByteArray.empty=Value.string ByteArray.empty)/\∀ (i:Xp × Rd),rdOK ws i.snd.nx/\cQL (wpr P en ws dp) (kQ ws sg fi) (left ws i.snd) i.fst i.snd=cQA (wpr P en ws dp) (kQ ws sg fi) ws (mR nx pa er)/\i.fst.d.len<=2/\nx<=i.snd.nx->((i.snd.er==(0:Int))=true->(∃ (i_1:Nat),(i_1<=sg.len/\True)/\(-1:Int)=ixR ws sg i.snd i_1/\(0:Int)=(i_1:Int)/\dp=dp/\sg.rows=sg.rows/\fi=fi/\ws.rows=ws.rows/\i.snd.nx=i.snd.nx/\en=en/\i.snd.er=i.snd.er/\i.snd.pa=i.snd.pa/\i.fst.k=i.fst.k/\i.fst.n=i.fst.n/\Value.string i.fst.s=Value.string i.fst.s/\i.fst.d.len=i.fst.d.len/\i.fst.d.rows=i.fst.d.rows/\(0:Int)=(0:Int)/\(0:Int)=(0:Int)/\Value.string ByteArray.empty=Value.string ByteArray.empty)/\∀ (i_1:Nat),i_1<=sg.len/\True->(decide ((i_1:Int)<(sg.len:Int))=true->((0:Int)<=(i_1:Int)/\(i_1:Int)<(sg.len:Int))/\rdOK ws i.snd.nx/\(isB ws (sg.el (i_1:Int).toNat 0).toS i.snd=true->∃ (j:Nat),(j<=sg.len/\True)/\sg.len+1-j<sg.len+1-i_1/\(i_1:Int)=ixR ws sg i.snd j/\IntKind.i64.wrap ((i_1:Int)+1)=(j:Int)/\dp=dp/\sg.rows=sg.rows/\fi=fi/\ws.rows=ws.rows/\i.snd.nx=i.snd.nx/\en=en/\i.snd.er=i.snd.er/\i.snd.pa=i.snd.pa/\i.fst.k=i.fst.k/\i.fst.n=i.fst.n/\Value.string i.fst.s=Value.string i.fst.s/\i.fst.d.len=i.fst.d.len/\i.fst.d.rows=i.fst.d.rows/\(0:Int)=(0:Int)/\(0:Int)=(0:Int)/\Value.string ByteArray.empty=Value.string ByteArray.empty)/\(isB ws (sg.el (i_1:Int).toNat 0).toS i.snd=false->∃ (j:Nat),(j<=sg.len/\True)/\sg.len+1-j<sg.len+1-i_1/\ixR ws sg i.snd i_1=ixR ws sg i.snd j/\IntKind.i64.wrap ((i_1:Int)+1)=(j:Int)/\dp=dp/\sg.rows=sg.rows/\fi=fi/\ws.rows=ws.rows/\i.snd.nx=i.snd.nx/\en=en/\i.snd.er=i.snd.er/\i.snd.pa=i.snd.pa/\i.fst.k=i.fst.k/\i.fst.n=i.fst.n/\Value.string i.fst.s=Value.string i.fst.s/\i.fst.d.len=i.fst.d.len/\i.fst.d.rows=i.fst.d.rows/\(0:Int)=(0:Int)/\(0:Int)=(0:Int)/\Value.string ByteArray.empty=Value.string ByteArray.empty))/\(decide ((i_1:Int)<(sg.len:Int))=false->(decide (ixR ws sg i.snd i_1<(0:Int))=true->i.fst.k=E124.fst.k/\i.fst.n=E124.fst.n/\Value.string i.fst.s=Value.string E124.fst.s/\i.fst.d.len=E124.fst.d.len/\ws.rows=ws.rows/\i.snd.nx=E124.snd.nx/\en=en/\i.snd.er=E124.snd.er/\i.snd.pa=E124.snd.pa/\i.fst.d.rows=E124.fst.d.rows)/\(decide (ixR ws sg i.snd i_1<(0:Int))=false->((fi==(6:Int))=true->False)/\((fi==(6:Int))=false->0+3<=E126.len/\rdOK ws (IntKind.i64.wrap (i.snd.nx+1))/\(6:Int)=(6:Int)/\(E126.sub 0 ((0:Nat)+(3:Nat))).len<=10/\dpOK ws (mR (IntKind.i64.wrap (i.snd.nx+1)) i.snd.pa i.snd.er) dp/\left ws (mR (IntKind.i64.wrap (i.snd.nx+1)) i.snd.pa i.snd.er)<m/\0+i.fst.d.len<=i.fst.d.len/\0+(E125 i).fst.d.len<=(E125 i).fst.d.len/\∃ (j:Xp × Rd),(rdOK ws j.snd.nx/\cQL (wpr P en ws dp) (kQ ws sg fi) (left ws j.snd) j.fst j.snd=cQA (wpr P en ws dp) (kQ ws sg fi) ws (mR nx pa er)/\j.fst.d.len<=2/\nx<=j.snd.nx)/\left ws j.snd<left ws i.snd/\dp=dp/\sg.rows=sg.rows/\fi=fi/\ws.rows=ws.rows/\(E125 i).snd.nx=j.snd.nx/\en=en/\(E125 i).snd.er=j.snd.er/\(E125 i).snd.pa=j.snd.pa/\IntKind.i64.wrap (fi+ixR ws sg i.snd i_1)=j.fst.k/\(0:Int)=j.fst.n/\Value.string ByteArray.empty=Value.string j.fst.s/\2=j.fst.d.len /\ [[D.i i.fst.k,D.i i.fst.n,D.s i.fst.s,i.fst.d.sub 0 ((0:Nat)+i.fst.d.len)],[D.i (E125 i).fst.k,D.i (E125 i).fst.n,D.s (E125 i).fst.s,(E125 i).fst.d.sub 0 ((0:Nat)+(E125 i).fst.d.len)]]=j.fst.d.rows/\(0:Int)=(0:Int)/\(0:Int)=(0:Int)/\Value.string ByteArray.empty=Value.string ByteArray.empty))))/\((i.snd.er==(0:Int))=false->i.fst.k=E124.fst.k/\i.fst.n=E124.fst.n/\Value.string i.fst.s=Value.string E124.fst.s/\i.fst.d.len=E124.fst.d.len/\ws.rows=ws.rows/\i.snd.nx=E124.snd.nx/\en=en/\i.snd.er=E124.snd.er/\i.snd.pa=E124.snd.pa/\i.fst.d.rows=E124.fst.d.rows))) (by kernel_rfl) ?_
  dsimp +instances only [withv]
  intro h hf hs hd hl;have hQ:=wpr_up hPa en ws dp;obtain ⟨v1,v2,v3⟩:=hQ.up (mR nx pa er) h;refine ⟨fun hc=>absurd (eq_of_beq hc) (by rw [hf];decide),fun hc=>⟨(by decide),h,rfl,(by decide),hd,hl,⟨(wpr P en ws dp) (mR nx pa er),⟨v2,rfl,v3,v1⟩,(by (repeat' (with_reducible apply And.intro))<;>first |with_reducible rfl |exact True.intro |assumption |(symm;assumption) |rfl)⟩,?_⟩⟩
  rintro q ⟨h1,h2,h3,h4⟩;refine ⟨fun h0=>⟨⟨0,⟨Nat.zero_le _,trivial⟩,(by (repeat' (with_reducible apply And.intro))<;>first |with_reducible rfl |exact True.intro |assumption |(symm;assumption) |rfl)⟩,fun i hi=>⟨fun hd1=>?_,fun hd1=>?_⟩⟩,fun h0=>?_⟩
  ·have hd1:=of_decide_eq_true hd1;have hi2:i<sg.len:=by omega
   have hw:IntKind.i64.wrap ((i:Int)+1)=((i+1:Nat):Int):=by rw [IntWalk.i64_in _ (by omega)];omega
   have en0:(i:Int).toNat=i:=Int.toNat_natCast i;rw [en0];refine ⟨⟨by omega,hd1⟩,h1,fun hb=>⟨i+1,⟨hi2,trivial⟩,by omega,(if_pos hb).symm,hw,(by (repeat' (with_reducible apply And.intro))<;>first |with_reducible rfl |exact True.intro |assumption |(symm;assumption) |rfl)⟩,fun hb=>⟨i+1,⟨hi2,trivial⟩,by omega,(if_neg (by rw [hb];decide)).symm,hw,(by (repeat' (with_reducible apply And.intro))<;>first |with_reducible rfl |exact True.intro |assumption |(symm;assumption) |rfl)⟩⟩
  ·have hd1:=of_decide_eq_false hd1;obtain rfl:i=sg.len:=by have:=hi.1;omega
   refine ⟨fun ha=>?_,fun ha=>⟨fun hc=>absurd (eq_of_beq hc) (by rw [hf];decide),fun hc=>?_⟩⟩
   ·have ha:=of_decide_eq_true ha;have hk:kQ ws sg fi q.2=0:=if_neg (fun hx=>by have:=hx.2;omega)
    rw [cQL_end hk] at h2;rw [<- h2]
    (repeat' (with_reducible apply And.intro))<;>first |with_reducible rfl |exact True.intro |assumption |(symm;assumption) |rfl
   ·have ha:=of_decide_eq_false ha;have hr0:q.2.er=0:=eq_of_beq h0;have hx:=ix_lt (ws:=ws) (sg:=sg) (r:=q.2) sg.len (by omega)
    have hk:kQ ws sg fi q.2=fi+ixR ws sg q.2 sg.len:=if_pos ⟨hr0,by omega⟩
    have hk0:kQ ws sg fi q.2≠0:=by rw [hk];omega
    have hlt:=hx.2.1;obtain ⟨g1,g2⟩:=gx_ok h1 hlt;obtain ⟨u1,u2,u3⟩:=hQ.up (gx q.2) g1;have ew:IntKind.i64.wrap (fi+ixR ws sg q.2 sg.len)=kQ ws sg fi q.2:=by rw [hk,IntWalk.i64_in _ (by omega)]
    rw [nx1 h1 hlt,subAll,subAll,ew];have e3:mR (q.2.nx+1) q.2.pa q.2.er=gx q.2:=rfl;rw [e3];have l0:left ws q.2<=left ws (mR nx pa er):=left_le h4;have l1:=left_le (ws:=ws) u1;have e5:(gx q.2).nx=q.2.nx+1:=rfl;have hd2:dpOK ws (gx q.2) dp:=⟨hd.1,by have:=hd.2;omega⟩
    refine ⟨(by decide),g1,rfl,(by decide),hd2,by omega,by omega,by omega,⟨(X2 (kQ ws sg fi q.2) q.1 ((wpr P en ws dp) (gx q.2)).1,((wpr P en ws dp) (gx q.2)).2),⟨u2,(cQL_step hQ kQ_ok q.1 h1 hk0).trans h2,Nat.le_refl _,(by show nx<=((wpr P en ws dp) (gx q.2)).2.nx;omega)⟩,(by show left ws ((wpr P en ws dp) (gx q.2)).2<left ws q.2;omega),(by (repeat' (with_reducible apply And.intro))<;>first |with_reducible rfl |exact True.intro |assumption |(symm;assumption) |rfl)⟩⟩
  ·have h0:q.2.er≠0:=ne_of_beq_false h0;have hk:kQ ws sg fi q.2=0:=if_neg (fun hx=>h0 hx.1)
   rw [cQL_end hk] at h2;rw [<- h2]
   (repeat' (with_reducible apply And.intro))<;>first |with_reducible rfl |exact True.intro |assumption |(symm;assumption) |rfl
 ·trivial
end Go.Proofs.YtbhbjhejkamlnaaGreat.Sx.Z
namespace Go.Proofs.YtbhbjhejkamlnaaGreat.Sx.Z
open Go.RowKit
def rfB (P:PF):PF:=fun en ws dp r=>
 if isB ws miB r=true ∨ isB ws opB r=true then
  (if 24<=dp then (X00,ffR ws en 6 r)
   else if isB ws miB r=true then (⟨3,0,ByteArray.empty,.l [(P en ws (dp+1) (gx r)).1.row]⟩,(P en ws (dp+1) (gx r)).2)
   else ((wsm P en ws (dp+1) (gx r)).1,muR ws en clB (wsm P en ws (dp+1) (gx r)).2))
 else if kiB ws 2 r=true then (⟨1,wnN ws r,ByteArray.empty,.l []⟩,wnR ws en 2 r)
 else (⟨2,0,wnS ws r,.l []⟩,wnR ws en 1 r)
theorem ki_yes (ws:D) (k nx pa er:Int):(er==0&&decide (nx<(ws.len:Int))&&(ws.el nx.toNat (0+0)).toI==k)=kiB ws k (mR nx pa er):=by
 by_cases hl:nx<ws.len
 ·rw [kiB_eq,(pk_in hl).2]
 ·rw [kiB_eq];simp only [decide_eq_false hl,Bool.and_false,Bool.false_and]
theorem ff_up {ws:D} (en e:Int) {r:Rd} (h:rdOK ws r.nx):rdOK ws (ffR ws en e r).nx/\r.nx<=(ffR ws en e r).nx:=by
 unfold ffR;split
 ·exact ⟨h,Int.le_refl _⟩
 ·exact ⟨h,Int.le_refl _⟩
theorem mu_up {ws:D} (en:Int) {t:ByteArray} {r:Rd} (h:rdOK ws r.nx):rdOK ws (muR ws en t r).nx/\r.nx<=(muR ws en t r).nx:=by
 unfold muR;split
 ·rename_i hb;exact gx_up h (isB_lt hb).2
 ·exact ff_up en 5 h
theorem wn_up {ws:D} (en k:Int) {r:Rd} (h:rdOK ws r.nx):rdOK ws (wnR ws en k r).nx/\r.nx<=(wnR ws en k r).nx:=by
 unfold wnR;split
 ·rename_i hb;exact gx_up h (kiB_lt hb).2.1
 ·exact ff_up en 5 h
theorem rfB_up {P:PF} (hPa:∀ en ws dp,PaOK ws (P en ws dp)) (en:Int) (ws:D) (dp:Int):PaOK ws (rfB P en ws dp):=⟨fun r h=>by
 unfold rfB;split
 ·rename_i hb;have hl:r.nx<ws.len:=by rcases hb with hb |hb<;>exact (isB_lt hb).2
  have g:=gx_up h hl;split
  ·have:=ff_up en 6 h;exact ⟨this.2,this.1,Nat.zero_le _⟩
  ·split
   ·obtain ⟨u1,u2,u3⟩:=(hPa en ws (dp+1)).up _ g.1;exact ⟨Int.le_trans g.2 u1,u2,(show 1<=2 by decide)⟩
   ·obtain ⟨u1,u2,u3⟩:=(wsm_up hPa en ws (dp+1)).up _ g.1;have m:=mu_up en (t:=clB) u2;exact ⟨Int.le_trans g.2 (Int.le_trans u1 m.2),m.1,u3⟩
 ·split
  ·have:=wn_up en 2 h;exact ⟨this.2,this.1,Nat.zero_le _⟩
  ·have:=wn_up en 1 h;exact ⟨this.2,this.1,Nat.zero_le _⟩⟩
noncomputable def wiqS:FSpec:=fun ds _=>match ds with
 | [.d ws,.i nx,.i en,.i er,.i pa,.s t]=>some {val:=.one (.sc (.bool (.sym (isB ws t (mR nx pa er))))),vc:=[rdOK ws nx]}
 |_=>none
noncomputable def wiqC:Con:=con [.ptr [.c (.rows 132),.c (.int .i64),.c (.int .i64),.c (.int .i64),.c (.int .i64)],.sc .str] wiqS
theorem wiq_ok:ConOK Tryz.prog 19 wiqC:=by
 refine fn_ob tt_ok mixed Tryz.func19 rfl (fun _ _=>by kernel_rfl) (A:=fun ds=>⟨fun _=>Cons.of [],fun _=>none,fun _=>none⟩) (fun _ _=>cons_nil) (by kernel_rfl) ?_
 intro ds fr;unfold wiqS;split
 ·rename_i ws nx en er pa t;refine kmp (q:=rdOK ws nx->((er==(0:Int)&&decide (nx<(ws.len:Int)))=true/\True->(0:Int)<=nx/\nx<(ws.len:Int))/\((er==(0:Int)&&decide (nx<(ws.len:Int))&&(ws.el nx.toNat 1).toS.toList==t.toList)=true/\True->(0:Int)<=nx/\nx<(ws.len:Int))/\(er==(0:Int)&&decide (nx<(ws.len:Int))&&(ws.el nx.toNat 1).toS.toList==t.toList&&decide ((ws.el nx.toNat ((0:Nat)+(0:Nat))).toI>=(3:Int)))=isB ws t (mR nx pa er)) (by kernel_rfl) ?_
  intro h;refine ⟨fun hc=>⟨h.1,?_⟩,fun hc=>⟨h.1,?_⟩,?_⟩
  ·have:=hc.1;simp only [Bool.and_eq_true] at this;exact of_decide_eq_true this.2
  ·have:=hc.1;simp only [Bool.and_eq_true] at this;exact of_decide_eq_true this.1.2
  ·by_cases hl:nx<ws.len
   ·rw [isB_eq,(pk_in hl).1,(pk_in hl).2]
   ·rw [isB_eq];simp only [decide_eq_false hl,Bool.and_false,Bool.false_and]
 ·trivial
noncomputable def wexS (P:PF) (m:Nat):List Dat->Option (Eff × List Seg):=fun ds=>match ds with
 | [.d ws,.i nx,.i en,.i er,.i pa,.i dp]=>some ({val:=.one (.agg [.c (.int .i64 (.sym ((wsm P en ws dp (mR nx pa er)).1).k)),.c (.int .i64 (.sym ((wsm P en ws dp (mR nx pa er)).1).n)),.c (.raw (.string ((wsm P en ws dp (mR nx pa er)).1).s)),.c (.osl 24 0 (.lit 0) (.sym ((wsm P en ws dp (mR nx pa er)).1).d.len))]),vc:=[rdOK ws nx,dpOK ws (mR nx pa er) dp,left ws (mR nx pa er)<m],nw:=[(0,.orow 24 (wsm P en ws dp (mR nx pa er)).1.d)]},[.c (.rows 132 ws),.c (.int .i64 (.sym (((wsm P en ws dp (mR nx pa er)).2).nx))),.c (.int .i64 (.sym en)),.c (.int .i64 (.sym (((wsm P en ws dp (mR nx pa er)).2).er))),.c (.int .i64 (.sym (((wsm P en ws dp (mR nx pa er)).2).pa)))])
 |_=>none
noncomputable def wexC (P:PF) (m:Nat):Con:=conM 92 [.c (.rows 132),.c (.int .i64),.c (.int .i64),.c (.int .i64),.c (.int .i64)] [.sc (.int .i64)] (wexS P m)
theorem wex_ok {P:PF} {m:Nat} (hP:ConOK Tryz.prog 95 (wpaC P m)) (hPa:∀ en ws dp,PaOK ws (P en ws dp)):ConOK Tryz.prog 56 (wexC P m):=by
 refine fn_obM tt_ok mixed Tryz.func56 rfl (fun _ _=>by kernel_rfl) (A:=fun ds=>⟨fun _=>Cons.of [(84,(wc4C P m))],fun _=>none,fun _=>none⟩) (fun _ _=>(cons_cons (wc4_ok hP hPa) cons_nil)) (by kernel_rfl) ?_
 intro ds;unfold wexS;split
 ·rename_i ws nx en er pa dp;refine kmp (q:=withv (cQA (wpr P en ws dp) (kQ ws ((D.l [[D.s (ByteArray.mk #[43])],[D.s miB]]).sub 0 ((0:Nat)+(2:Nat))) (4:Int)) ws (mR nx pa er)) fun E128=>withv (wsm P en ws dp (mR nx pa er)) fun E129=>withv (D.l [[D.s (ByteArray.mk #[43])],[D.s miB]]) fun E130=>rdOK ws nx->dpOK ws (mR nx pa er) dp->left ws (mR nx pa er)<m->0+2<=E130.len/\rdOK ws nx/\(4:Int)=(4:Int)/\(E130.sub 0 ((0:Nat)+(2:Nat))).len<=10/\dpOK ws (mR nx pa er) dp/\left ws (mR nx pa er)<m/\E128.fst.k=E129.fst.k/\E128.fst.n=E129.fst.n/\Value.string E128.fst.s=Value.string E129.fst.s/\E128.fst.d.len=E129.fst.d.len/\ws.rows=ws.rows/\E128.snd.nx=E129.snd.nx/\en=en/\E128.snd.er=E129.snd.er/\E128.snd.pa=E129.snd.pa/\E128.fst.d.rows=E129.fst.d.rows) (by kernel_rfl) ?_
  dsimp +instances only [withv]
  intro h hd hl;refine ⟨(by decide),h,rfl,(by decide),hd,hl,?_⟩
  (repeat' (with_reducible apply And.intro))<;>first |with_reducible rfl |exact True.intro |assumption |(symm;assumption) |rfl
 ·trivial
noncomputable def wfcS (P:PF) (m:Nat):List Dat->Option (Eff × List Seg):=fun ds=>match ds with
 | [.d ws,.i nx,.i en,.i er,.i pa,.i dp]=>some ({val:=.one (.agg [.c (.int .i64 (.sym ((rfB P en ws dp (mR nx pa er)).1).k)),.c (.int .i64 (.sym ((rfB P en ws dp (mR nx pa er)).1).n)),.c (.raw (.string ((rfB P en ws dp (mR nx pa er)).1).s)),.c (.osl 24 0 (.lit 0) (.sym ((rfB P en ws dp (mR nx pa er)).1).d.len))]),vc:=[rdOK ws nx,dpOK ws (mR nx pa er) dp,left ws (mR nx pa er)<m+1],nw:=[(0,.orow 24 (rfB P en ws dp (mR nx pa er)).1.d)]},[.c (.rows 132 ws),.c (.int .i64 (.sym (((rfB P en ws dp (mR nx pa er)).2).nx))),.c (.int .i64 (.sym en)),.c (.int .i64 (.sym (((rfB P en ws dp (mR nx pa er)).2).er))),.c (.int .i64 (.sym (((rfB P en ws dp (mR nx pa er)).2).pa)))])
 |_=>none
noncomputable def wfcC (P:PF) (m:Nat):Con:=conM 92 [.c (.rows 132),.c (.int .i64),.c (.int .i64),.c (.int .i64),.c (.int .i64)] [.sc (.int .i64)] (wfcS P m)
theorem wfc_ok {P:PF} {m:Nat} (hP:ConOK Tryz.prog 95 (wpaC P m)) (hPa:∀ en ws dp,PaOK ws (P en ws dp)):ConOK Tryz.prog 95 (wfcC P m):=by
 refine fn_obM tt_ok mixed Tryz.func95 rfl (fun _ _=>by kernel_rfl) (A:=fun ds=>⟨fun _=>Cons.of [(19,wiqC),(25,wfaC),(21,wnaC),(23,wnuC),(22,wmuC),(95,(wpaC P m)),(56,(wexC P m))],fun _=>none,fun _=>none⟩) (fun _ _=>(cons_cons wiq_ok (cons_cons wfa_ok (cons_cons wna_ok (cons_cons wnu_ok (cons_cons wmu_ok (cons_cons hP (cons_cons (wex_ok hP hPa) cons_nil)))))))) (by kernel_rfl) ?_
 intro ds;unfold wfcS;split
 ·rename_i ws nx en er pa dp;refine kmp (q:=withv (rfB P en ws dp (mR nx pa er)) fun E131=>withv (mR (IntKind.i64.wrap (nx+1)) pa er) fun E132=>withv (IntKind.i64.wrap (dp+1)) fun E133=>withv (er==(0:Int)&&decide (nx<(ws.len:Int))&&(ws.el nx.toNat ((0:Nat)+(0:Nat))).toI==(2:Int)) fun E134=>withv (muR ws en clB (wsm P en ws E133 E132).snd) fun E135=>withv (ffR ws en (6:Int) (mR nx pa er)) fun E136=>withv (wnR ws en (2:Int) (mR nx pa er)) fun E137=>withv (wnR ws en (1:Int) (mR nx pa er)) fun E138=>withv (isB ws miB (mR nx pa er) ||isB ws opB (mR nx pa er)) fun E139=>rdOK ws nx->dpOK ws (mR nx pa er) dp->left ws (mR nx pa er)<m+1->rdOK ws nx/\(isB ws miB (mR nx pa er)=false/\True->rdOK ws nx)/\(E139=true->(decide (dp>=(24:Int))=true->rdOK ws nx/\(0:Int)=E131.fst.k/\(0:Int)=E131.fst.n/\Value.string ByteArray.empty=Value.string E131.fst.s/\E131.fst.d.len=0/\ws.rows=ws.rows/\E136.nx=E131.snd.nx/\en=en/\E136.er=E131.snd.er/\E136.pa=E131.snd.pa/\E131.fst.d.rows=[])/\(decide (dp>=(24:Int))=false->rdOK ws nx/\(isB ws miB (mR nx pa er)=true->rdOK ws (IntKind.i64.wrap (nx+1))/\dpOK ws E132 E133/\left ws E132<m/\0+(P en ws E133 E132).fst.d.len<=(P en ws E133 E132).fst.d.len/\(3:Int)=E131.fst.k/\(0:Int)=E131.fst.n/\Value.string ByteArray.empty=Value.string E131.fst.s/\1=E131.fst.d.len/\ws.rows=ws.rows/\(P en ws E133 E132).snd.nx=E131.snd.nx/\en=en/\(P en ws E133 E132).snd.er=E131.snd.er/\(P en ws E133 E132).snd.pa=E131.snd.pa /\ [[D.i (P en ws E133 E132).fst.k,D.i (P en ws E133 E132).fst.n,D.s (P en ws E133 E132).fst.s,(P en ws E133 E132).fst.d.sub 0 ((0:Nat)+(P en ws E133 E132).fst.d.len)]]=E131.fst.d.rows)/\(isB ws miB (mR nx pa er)=false->rdOK ws (IntKind.i64.wrap (nx+1))/\dpOK ws E132 E133/\left ws E132<m/\rdOK ws (wsm P en ws E133 E132).snd.nx/\(wsm P en ws E133 E132).fst.k=E131.fst.k/\(wsm P en ws E133 E132).fst.n=E131.fst.n/\Value.string (wsm P en ws E133 E132).fst.s=Value.string E131.fst.s/\(wsm P en ws E133 E132).fst.d.len=E131.fst.d.len/\ws.rows=ws.rows/\E135.nx=E131.snd.nx/\en=en/\E135.er=E131.snd.er/\E135.pa=E131.snd.pa/\(wsm P en ws E133 E132).fst.d.rows=E131.fst.d.rows)))/\(E139=false->((er==(0:Int)&&decide (nx<(ws.len:Int)))=true/\True->(0:Int)<=nx/\nx<(ws.len:Int))/\(E134=true->rdOK ws nx/\(1:Int)=E131.fst.k/\wnN ws (mR nx pa er)=E131.fst.n/\Value.string ByteArray.empty=Value.string E131.fst.s/\E131.fst.d.len=0/\ws.rows=ws.rows/\E137.nx=E131.snd.nx/\en=en/\E137.er=E131.snd.er/\E137.pa=E131.snd.pa/\E131.fst.d.rows=[])/\(E134=false->rdOK ws nx/\(2:Int)=E131.fst.k/\(0:Int)=E131.fst.n/\Value.string (wnS ws (mR nx pa er))=Value.string E131.fst.s/\E131.fst.d.len=0/\ws.rows=ws.rows/\E138.nx=E131.snd.nx/\en=en/\E138.er=E131.snd.er/\E138.pa=E131.snd.pa/\E131.fst.d.rows=[]))) (by kernel_rfl) ?_
  dsimp +instances only [withv]
  intro h hd hl;have e1:IntKind.i64.wrap (dp+1)=dp+1:=wr1 hd.1 (by have:=hd.2;omega)
  simp only [e1,subAll];refine ⟨h,fun _=>h,fun hb=>?_,fun hb=>?_⟩
  ·have hb2:isB ws miB (mR nx pa er)=true ∨ isB ws opB (mR nx pa er)=true:=by simpa using hb
   have hlt:nx<ws.len:=by rcases hb2 with hb |hb<;>exact (isB_lt hb).2
   rw [nx1 h hlt];have e3:mR (nx+1) pa er=gx (mR nx pa er):=rfl;rw [e3];obtain ⟨g1,g2⟩:=gx_ok (r:=mR nx pa er) h hlt;refine ⟨fun hq=>?_,fun hq=>⟨h,fun hm=>?_,fun hm=>?_⟩⟩
   ·have e:rfB P en ws dp (mR nx pa er)=(X00,ffR ws en 6 (mR nx pa er)):=(if_pos hb2).trans (if_pos (of_decide_eq_true hq));rw [e]
    (repeat' (with_reducible apply And.intro))<;>first |with_reducible rfl |exact True.intro |assumption |(symm;assumption) |rfl
   ·have hq:=of_decide_eq_false hq;have e:rfB P en ws dp (mR nx pa er)=(⟨3,0,ByteArray.empty,.l [(P en ws (dp+1) (gx (mR nx pa er))).1.row]⟩,(P en ws (dp+1) (gx (mR nx pa er))).2):=(if_pos hb2).trans ((if_neg (by omega)).trans (if_pos hm))
    rw [e];have d1:dpOK ws (gx (mR nx pa er)) (dp+1):=⟨by have:=hd.1;omega,by have:=hd.2;omega⟩
    exact ⟨g1,d1,by omega,Nat.le_of_eq (Nat.zero_add _),(by (repeat' (with_reducible apply And.intro))<;>first |with_reducible rfl |exact True.intro |assumption |(symm;assumption) |rfl)⟩
   ·have hq:=of_decide_eq_false hq;have e:rfB P en ws dp (mR nx pa er)=((wsm P en ws (dp+1) (gx (mR nx pa er))).1,muR ws en clB (wsm P en ws (dp+1) (gx (mR nx pa er))).2):=(if_pos hb2).trans ((if_neg (by omega)).trans (if_neg (by rw [hm];decide)))
    rw [e];have d1:dpOK ws (gx (mR nx pa er)) (dp+1):=⟨by have:=hd.1;omega,by have:=hd.2;omega⟩
    have u:=(wsm_up hPa en ws (dp+1)).up _ g1;exact ⟨g1,d1,by omega,u.2.1,(by (repeat' (with_reducible apply And.intro))<;>first |with_reducible rfl |exact True.intro |assumption |(symm;assumption) |rfl)⟩
  ·have hb2:¬ (isB ws miB (mR nx pa er)=true ∨ isB ws opB (mR nx pa er)=true):=by
    intro hx;simp only [Bool.or_eq_false_iff] at hb
    rcases hx with hx |hx
    ·rw [hb.1] at hx;cases hx
    ·rw [hb.2] at hx;cases hx
   rw [ki_yes];refine ⟨fun hc=>⟨h.1,?_⟩,fun hc=>?_,fun hc=>?_⟩
   ·have:=hc.1;simp only [Bool.and_eq_true] at this;exact of_decide_eq_true this.2
   ·have e:rfB P en ws dp (mR nx pa er)=(⟨1,wnN ws (mR nx pa er),ByteArray.empty,.l []⟩,wnR ws en 2 (mR nx pa er)):=(if_neg hb2).trans (if_pos hc);rw [e]
    (repeat' (with_reducible apply And.intro))<;>first |with_reducible rfl |exact True.intro |assumption |(symm;assumption) |rfl
   ·have e:rfB P en ws dp (mR nx pa er)=(⟨2,0,wnS ws (mR nx pa er),.l []⟩,wnR ws en 1 (mR nx pa er)):=(if_neg hb2).trans (if_neg (by rw [hc];decide))
    rw [e]
    (repeat' (with_reducible apply And.intro))<;>first |with_reducible rfl |exact True.intro |assumption |(symm;assumption) |rfl
 ·trivial
def wfR:Nat->PF
 | 0=>fun _ _ _ r=>(⟨0,0,ByteArray.empty,.l []⟩,r)
 |m+1=>rfB (wfR m)
theorem wfR_up:∀ (m:Nat) (en:Int) (ws:D) (dp:Int),PaOK ws (wfR m en ws dp)
 | 0,_,_,_=>⟨fun _ h=>⟨Int.le_refl _,h,Nat.zero_le _⟩⟩
 |m+1,en,ws,dp=>rfB_up (wfR_up m) en ws dp
theorem wpa_zero {F:PF}:ConOK Tryz.prog 95 (wpaC F 0):=by
 refine ⟨fun _ _=>by kernel_rfl,fun hp fr args e he hv=>?_,fun hp fr caps e h=>by cases h⟩
 exfalso;obtain ⟨ds,e1,sg,ps1,ps2,hs,hvc,_⟩:=conM_in he;rw [hvc] at hv;obtain ⟨_,hv⟩:=all_append.1 hv;obtain ⟨_,hv⟩:=all_append.1 hv;unfold wpaS at hs
 split at hs
 ·simp only [Option.some.injEq,Prod.mk.injEq] at hs;obtain ⟨rfl,rfl⟩:=hs;exact Nat.not_lt_zero _ hv.2.2.1
 ·cases hs
theorem wfc_all:∀ m,ConOK Tryz.prog 95 (wpaC (wfR m) m)
 | 0=>wpa_zero
 |m+1=>wfc_ok (P:=wfR m) (m:=m) (wfc_all m) (wfR_up m)
def wsX:PF:=wsm (wfR 1000001)
theorem wsX_ok:ConOK Tryz.prog 56 (wpaC wsX 1000001):=wex_ok (wfc_all 1000001) (wfR_up 1000001)
theorem wsX_up (en:Int) (ws:D) (dp:Int):PaOK ws (wsX en ws dp):=wsm_up (wfR_up 1000001) en ws dp
attribute [irreducible] wsX
end Go.Proofs.YtbhbjhejkamlnaaGreat.Sx.Z
