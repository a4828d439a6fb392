import Derived.Test.YtbhbjhejkamlnaaGreatZx21
set_option linter.all false
namespace Go.Proofs.YtbhbjhejkamlnaaGreat.Sx.Z
open Go.RowKit
def txP:ByteArray:=⟨#[112,114,111,99,32,112,32,123,32,120,32,61,32,49,32,43,32,50,32,42,32,51,32,59,32,125]⟩
def txQ:ByteArray:=⟨#[112,114,111,99,32,112]⟩
def tpD:D:=.l [[.s ⟨#[112]⟩,.l [],.l [[.i 1,.s ⟨#[120]⟩,.s ByteArray.empty,.i 4,.i 0,.s ByteArray.empty,.l [[.i 1,.i 1,.s ByteArray.empty,.l []],[.i 6,.i 0,.s ByteArray.empty,.l [[.i 1,.i 2,.s ByteArray.empty,.l []],[.i 1,.i 3,.s ByteArray.empty,.l []]]]],.i 0,.i 0,.i 0,.s ByteArray.empty,.l [],.i 0,.i 0,.s ByteArray.empty,.l [],.l [],.l [],.l []]]]]
theorem Iq {P:Program} {f:FuncId} {aps:List AP} {S S':List Dat->Option Eff} (h:ConOK P f (bM aps S)) (hS:∀ ds e,S' ds=some e->S ds=some e):ConOK P f (bM aps S'):=by
 refine ⟨h.enters,fun hp fr args e he=>h.calls hp fr args e ?_,fun hp fr caps e he=>?_⟩
 ·unfold bM con at he ⊢
  split at he
  ·rename_i ds ps hds
   cases hq:S' ds with
   |none=>simp only[hq] at he;cases he
   |some x=>
    simp only[hq] at he;simp only[hds,hS _ _ hq];exact he
  ·cases he
 ·unfold bM at he;rw[jj] at he;cases he
theorem zR {a b:ByteArray} (h:(a.toList==b.toList)=true):a=b:=by
 have h:=eq_of_beq h;rw[ByteArray.toList_eq,ByteArray.toList_eq] at h;exact ByteArray.ext (Array.toList_inj.1 h)
noncomputable def sV:List Dat->Option Eff:=fun ds=>match ds with
 | [.s s]=>(match s.toList==txP.toList with
   |true=>some {val:=.tup [.agg [.c (.osl 101 0 (.lit 0) (.sym (D.len (.l [])))),.c (.osl 106 1 (.lit 0) (.sym (D.len (.l [])))),.c (.osl 72 2 (.lit 0) (.sym (D.len (.l [[.s ⟨#[112]⟩,.l [],.l [[.i 1,.s ⟨#[120]⟩,.s ByteArray.empty,.i 4,.i 0,.s ByteArray.empty,.l [[.i 1,.i 1,.s ByteArray.empty,.l []],[.i 6,.i 0,.s ByteArray.empty,.l [[.i 1,.i 2,.s ByteArray.empty,.l []],[.i 1,.i 3,.s ByteArray.empty,.l []]]]],.i 0,.i 0,.i 0,.s ByteArray.empty,.l [],.i 0,.i 0,.s ByteArray.empty,.l [],.l [],.l [],.l []]]]]))))],.sc (.int .i64 (.sym 0)),.sc (.int .i64 (.sym 0))],vc:=[s.size<=140737488351232],nw:=[(0,.orow 101 (.l [])),(1,.orow 106 (.l [])),(2,.orow 72 (.l [[.s ⟨#[112]⟩,.l [],.l [[.i 1,.s ⟨#[120]⟩,.s ByteArray.empty,.i 4,.i 0,.s ByteArray.empty,.l [[.i 1,.i 1,.s ByteArray.empty,.l []],[.i 6,.i 0,.s ByteArray.empty,.l [[.i 1,.i 2,.s ByteArray.empty,.l []],[.i 1,.i 3,.s ByteArray.empty,.l []]]]],.i 0,.i 0,.i 0,.s ByteArray.empty,.l [],.i 0,.i 0,.s ByteArray.empty,.l [],.l [],.l [],.l []]]]]))]}
   |false=>match s.toList==txQ.toList with
    |true=>some {val:=.tup [.agg [.c (.osl 101 0 (.lit 0) (.sym (D.len (.l [])))),.c (.osl 106 1 (.lit 0) (.sym (D.len (.l [])))),.c (.osl 72 2 (.lit 0) (.sym (D.len (.l []))))],.sc (.int .i64 (.sym 6)),.sc (.int .i64 (.sym 5))],vc:=[s.size<=140737488351232],nw:=[(0,.orow 101 (.l [])),(1,.orow 106 (.l [])),(2,.orow 72 (.l []))]}
    |false=>none)
 |_=>none
set_option maxRecDepth 100000 in
theorem Ir:paC txP = .l []/\paU txP = .l []/\paP txP=tpD/\paA txP=0/\paE txP=0:=⟨by kernel_rfl,by kernel_rfl,by kernel_rfl,by decide +kernel,by decide +kernel⟩
set_option maxRecDepth 100000 in
theorem Is:paC txQ = .l []/\paU txQ = .l []/\paP txQ = .l []/\paA txQ=6/\paE txQ=5:=⟨by kernel_rfl,by kernel_rfl,by kernel_rfl,by decide +kernel,by decide +kernel⟩
theorem It:ConOK Tryz.prog 7 (bM [.sc .str] sV):=Iq zQ fun ds e h=>by
 unfold sV at h
 split at h
 ·rename_i s
  split at h
  ·rename_i hs;obtain rfl:=zR hs;obtain ⟨a,b,c,d,e⟩:=Ir;rw[<- h];unfold pF;simp only[a,b,c,d,e];rfl
  ·split at h
   ·rename_i hs;obtain rfl:=zR hs;obtain ⟨a,b,c,d,e⟩:=Is;rw[<- h];unfold pF;simp only[a,b,c,d,e]
   ·cases h
 ·cases h
noncomputable def zS:FSpec:=fun ds _=>match ds with
 | []=>some {val:=.one (.sc (.bool (.sym (true)))),vc:=[]}
 |_=>none
noncomputable def zT:Con:=con [] zS
theorem Iu:ConOK Tryz.prog 6 zT:=by
 refine bg tt_ok au Tryz.func6 rfl (fun _ _=>by kernel_rfl) (A:=fun ds=>⟨fun _=>Cons.of [(7,(bM [.sc .str] sV))],fun _=>none,fun _=>none⟩) (fun _ _=>(af It aq)) (by kernel_rfl) ?_
 intro ds fr;unfold zS;split
 ·skip
  refine kmp (q:=ac (tpD.el 0 (0+2:Nat)) fun Ea=>ac (Ea.el 0 ((0:Nat)+3+(3:Nat))) fun Eb=>txP.size<=140737488351232/\txQ.size<=140737488351232/\(((0:Int)==0&&(1:Int)==1)=true/\True->0<(1:Nat))/\(((0:Int)==0&&(1:Int)==1)=true/\True->0<tpD.len)/\(((0:Int)==0&&(1:Int)==1&&(Ea.len:Int)==1)=true/\True->0<(1:Nat))/\(((0:Int)==0&&(1:Int)==1&&(Ea.len:Int)==1)=true/\True->0<tpD.len)/\(((0:Int)==0&&(1:Int)==1&&(Ea.len:Int)==1)=true/\True->0<Ea.len)/\(((0:Int)==0&&(1:Int)==1&&(Ea.len:Int)==1&&(4:Int)==4)=true/\True->0<(1:Nat))/\(((0:Int)==0&&(1:Int)==1&&(Ea.len:Int)==1&&(4:Int)==4)=true/\True->0<tpD.len)/\(((0:Int)==0&&(1:Int)==1&&(Ea.len:Int)==1&&(4:Int)==4)=true/\True->0<Ea.len)/\(((0:Int)==0&&(1:Int)==1&&(Ea.len:Int)==1&&(4:Int)==4&&(Eb.len:Int)==2)=true/\True->0<(1:Nat))/\(((0:Int)==0&&(1:Int)==1&&(Ea.len:Int)==1&&(4:Int)==4&&(Eb.len:Int)==2)=true/\True->0<tpD.len)/\(((0:Int)==0&&(1:Int)==1&&(Ea.len:Int)==1&&(4:Int)==4&&(Eb.len:Int)==2)=true/\True->0<Ea.len)/\(((0:Int)==0&&(1:Int)==1&&(Ea.len:Int)==1&&(4:Int)==4&&(Eb.len:Int)==2)=true/\True->1<Eb.len)/\((0:Int)==0&&(1:Int)==1&&(Ea.len:Int)==1&&(4:Int)==4&&(Eb.len:Int)==2&&(6:Int)==6&&(5:Int)==5&&(6:Int)==6)=true) (by kernel_rfl) ?_
  dsimp +instances only [ac]
  (repeat' (with_reducible apply And.intro))<;>first |decide |(intro _;decide) |rfl
 ·trivial
def ffR (ws:D) (en e:Int) (r:Rd):Rd:=if r.er=0 then ⟨r.nx,pkA ws r.nx en,e⟩ else r
def isB (ws:D) (t:ByteArray) (r:Rd):Bool:=r.er==0&&decide (r.nx<ws.len)&&(pkS ws r.nx).toList==t.toList&&decide (pkK ws r.nx>=3)
def muR (ws:D) (en:Int) (t:ByteArray) (r:Rd):Rd:=if isB ws t r=true then gx r else ffR ws en 5 r
def kiB (ws:D) (k:Int) (r:Rd):Bool:=r.er==0&&decide (r.nx<ws.len)&&pkK ws r.nx==k
def wnR (ws:D) (en k:Int) (r:Rd):Rd:=if kiB ws k r=true then gx r else ffR ws en 5 r
def wnS (ws:D) (r:Rd):ByteArray:=if kiB ws 1 r=true then pkS ws r.nx else ByteArray.empty
def wnN (ws:D) (r:Rd):Int:=if kiB ws 2 r=true then pkN ws r.nx else 0
theorem pG (ws:D) (t:ByteArray) (nx pa er:Int):isB ws t (mR nx pa er)=(er==0&&decide (nx<(ws.len:Int))&&(pkS ws nx).toList==t.toList&&decide (pkK ws nx>=3)):=rfl
theorem pH (ws:D) (k nx pa er:Int):kiB ws k (mR nx pa er)=(er==0&&decide (nx<(ws.len:Int))&&pkK ws nx==k):=rfl
theorem fC {ws:D} {nx:Int} (h:nx<ws.len):pkS ws nx=(ws.el nx.toNat 1).toS/\pkK ws nx=(ws.el nx.toNat 0).toI:=⟨if_pos h,if_pos h⟩
theorem bw {ws:D} {t:ByteArray} {r:Rd} (h:isB ws t r=true):r.er=0/\r.nx<ws.len:=by
 unfold isB at h;simp only[Bool.and_eq_true] at h;exact ⟨eq_of_beq h.1.1.1,of_decide_eq_true h.1.1.2⟩
theorem ix {ws:D} {k:Int} {r:Rd} (h:kiB ws k r=true):r.er=0/\r.nx<ws.len/\pkK ws r.nx=k:=by
 unfold kiB at h;simp only[Bool.and_eq_true] at h;exact ⟨eq_of_beq h.1.1,of_decide_eq_true h.1.2,eq_of_beq h.2⟩
theorem zU (ws:D) (k nx pa er:Int):(er != 0 ||decide (nx>=(ws.len:Int)) ||(ws.el nx.toNat (0+0)).toI != k) = !(kiB ws k (mR nx pa er)):=by
 by_cases hl:nx<ws.len
 ·have h1:decide (nx>=(ws.len:Int))=false:=decide_eq_false (by omega);rw[pH,(fC hl).2];simp only[h1,decide_eq_true hl,Bool.or_false,Bool.and_true,Bool.not_and,bne,Nat.add_zero]
 ·have h1:decide (nx>=(ws.len:Int))=true:=decide_eq_true (by omega);rw[pH];simp only[h1,decide_eq_false hl,Bool.and_false,Bool.false_and,Bool.or_true,Bool.true_or,Bool.not_false]
theorem zV {ws:D} {nx er:Int} (h:(er != 0 ||decide (nx>=(ws.len:Int)))=false):nx<ws.len:=by
 simp only[Bool.or_eq_false_iff] at h;have:=of_decide_eq_false h.2;omega
theorem nx2 {ws:D} {nx:Int} (h:aa ws nx) (hl:nx<ws.len):IntKind.i64.wrap (IntKind.i64.wrap (nx+1)-1)=nx:=by
 obtain ⟨a,b,c⟩:=h;rw[IntWalk.i64_in (nx+1) (by omega),IntWalk.i64_in _ (by omega)];omega
noncomputable def zW:List Dat->Option (Eff × List Seg):=fun ds=>match ds with
 | [.d ws,.i nx,.i en,.i er,.i pa,.i e]=>some ({val:=.tup [],vc:=[aa ws nx]},[.c (.rows 132 ws),.c (.int .i64 (.sym ((ffR ws en e (mR nx pa er)).nx))),.c (.int .i64 (.sym en)),.c (.int .i64 (.sym ((ffR ws en e (mR nx pa er)).er))),.c (.int .i64 (.sym ((ffR ws en e (mR nx pa er)).pa)))])
 |_=>none
noncomputable def gM:Con:=ba 92 [.c (.rows 132),.c (.int .i64),.c (.int .i64),.c (.int .i64),.c (.int .i64)] [.sc (.int .i64)] zW
theorem iy:ConOK Tryz.prog 25 gM:=by
 refine bk tt_ok au Tryz.func25 rfl (fun _ _=>by kernel_rfl) (A:=fun ds=>⟨fun _=>Cons.of [],fun _=>none,fun _=>none⟩) (fun _ _=>aq) (by kernel_rfl) ?_
 intro ds;unfold zW;split
 ·rename_i ws nx en er pa e;refine kmp (q:=ac (ffR ws en e (mR nx pa er)) fun Ea=>aa ws nx->((er != (0:Int))=true->ws.rows=ws.rows/\nx=Ea.nx/\en=en/\er=Ea.er/\pa=Ea.pa)/\((er != (0:Int))=false->(decide (nx<(ws.len:Int))=true->((0:Int)<=nx/\nx<(ws.len:Int))/\ws.rows=ws.rows/\nx=Ea.nx/\en=en/\e=Ea.er/\(ws.el nx.toNat (0+3:Nat)).toI=Ea.pa)/\(decide (nx<(ws.len:Int))=false->ws.rows=ws.rows/\nx=Ea.nx/\en=en/\e=Ea.er/\en=Ea.pa))) (by kernel_rfl) ?_
  dsimp +instances only [ac]
  intro h;unfold ffR mR;refine ⟨fun h0=>?_,fun h0=>⟨fun h1=>⟨⟨h.1,of_decide_eq_true h1⟩,?_⟩,fun h1=>?_⟩⟩
  ·rw[if_neg (mV h0)]
   (repeat' (with_reducible apply And.intro))<;>first |with_reducible rfl |exact True.intro |assumption |(symm;assumption) |rfl
  ·have h1:=of_decide_eq_true h1;simp only[if_pos (kO h0),pkA,if_pos h1]
   (repeat' (with_reducible apply And.intro))<;>first |with_reducible rfl |exact True.intro |assumption |(symm;assumption) |rfl
  ·have h1:=of_decide_eq_false h1;simp only[if_pos (kO h0),pkA,if_neg h1]
   (repeat' (with_reducible apply And.intro))<;>first |with_reducible rfl |exact True.intro |assumption |(symm;assumption) |rfl
 ·trivial
noncomputable def zX:List Dat->Option (Eff × List Seg):=fun ds=>match ds with
 | [.d ws,.i nx,.i en,.i er,.i pa,.s t]=>some ({val:=.one (.sc (.bool (.sym (isB ws t (mR nx pa er))))),vc:=[aa ws nx]},[.c (.rows 132 ws),.c (.int .i64 (.sym (nx))),.c (.int .i64 (.sym en)),.c (.int .i64 (.sym (er))),.c (.int .i64 (.sym (pa)))])
 |_=>none
noncomputable def mW:Con:=ba 92 [.c (.rows 132),.c (.int .i64),.c (.int .i64),.c (.int .i64),.c (.int .i64)] [.sc .str] zX
theorem pI:ConOK Tryz.prog 19 mW:=by
 refine bk tt_ok au Tryz.func19 rfl (fun _ _=>by kernel_rfl) (A:=fun ds=>⟨fun _=>Cons.of [],fun _=>none,fun _=>none⟩) (fun _ _=>aq) (by kernel_rfl) ?_
 intro ds;unfold zX;split
 ·rename_i ws nx en er pa t;refine kmp (q:=aa ws nx->((er==(0:Int)&&decide (nx<(ws.len:Int)))=true/\True->(0:Int)<=nx/\nx<(ws.len:Int))/\((er==(0:Int)&&decide (nx<(ws.len:Int))&&(ws.el nx.toNat 1).toS.toList==t.toList)=true/\True->(0:Int)<=nx/\nx<(ws.len:Int))/\(er==(0:Int)&&decide (nx<(ws.len:Int))&&(ws.el nx.toNat 1).toS.toList==t.toList&&decide ((ws.el nx.toNat (0+0:Nat)).toI>=3))=isB ws t (mR nx pa er)/\ws.rows=ws.rows/\nx=nx/\en=en/\er=er/\pa=pa) (by kernel_rfl) ?_
  intro h;refine ⟨fun hc=>⟨h.1,?_⟩,fun hc=>⟨h.1,?_⟩,?_,rfl,rfl,rfl,rfl,rfl⟩
  ·have:=hc.1;simp only[Bool.and_eq_true] at this;exact of_decide_eq_true this.2
  ·have:=hc.1;simp only[Bool.and_eq_true] at this;exact of_decide_eq_true this.1.2
  ·by_cases hl:nx<ws.len
   ·rw[pG,(fC hl).1,(fC hl).2]
   ·rw[pG];simp only[decide_eq_false hl,Bool.and_false,Bool.false_and]
 ·trivial
noncomputable def zY:List Dat->Option (Eff × List Seg):=fun ds=>match ds with
 | [.d ws,.i nx,.i en,.i er,.i pa,.s t]=>some ({val:=.tup [],vc:=[aa ws nx]},[.c (.rows 132 ws),.c (.int .i64 (.sym ((muR ws en t (mR nx pa er)).nx))),.c (.int .i64 (.sym en)),.c (.int .i64 (.sym ((muR ws en t (mR nx pa er)).er))),.c (.int .i64 (.sym ((muR ws en t (mR nx pa er)).pa)))])
 |_=>none
noncomputable def jD:Con:=ba 92 [.c (.rows 132),.c (.int .i64),.c (.int .i64),.c (.int .i64),.c (.int .i64)] [.sc .str] zY
theorem kP:ConOK Tryz.prog 22 jD:=by
 refine bk tt_ok au Tryz.func22 rfl (fun _ _=>by kernel_rfl) (A:=fun ds=>⟨fun _=>Cons.of [(19,mW),(25,gM)],fun _=>none,fun _=>none⟩) (fun _ _=>(af pI (af iy aq))) (by kernel_rfl) ?_
 intro ds;unfold zY;split
 ·rename_i ws nx en er pa t;refine kmp (q:=ac (muR ws en t (mR nx pa er)) fun Ea=>ac (ffR ws en (5:Int) (mR nx pa er)) fun Eb=>aa ws nx->aa ws nx/\((!isB ws t (mR nx pa er))=true->aa ws nx/\ws.rows=ws.rows/\Eb.nx=Ea.nx/\en=en/\Eb.er=Ea.er/\Eb.pa=Ea.pa)/\((!isB ws t (mR nx pa er))=false->ws.rows=ws.rows/\IntKind.i64.wrap (nx+1)=Ea.nx/\en=en/\er=Ea.er/\pa=Ea.pa)) (by kernel_rfl) ?_
  dsimp +instances only [ac]
  intro h;refine ⟨h,fun hc=>?_,fun hc=>?_⟩
  ·have hb:isB ws t (mR nx pa er)=false:=by simpa using hc
   have e:muR ws en t (mR nx pa er)=ffR ws en 5 (mR nx pa er):=if_neg (by rw[hb];decide);rw[e]
   (repeat' (with_reducible apply And.intro))<;>first |with_reducible rfl |exact True.intro |assumption |(symm;assumption) |rfl
  ·have hb:isB ws t (mR nx pa er)=true:=by simpa using hc
   have e:muR ws en t (mR nx pa er)=gx (mR nx pa er):=if_pos hb;rw[e,nx1 h (bw hb).2]
   (repeat' (with_reducible apply And.intro))<;>first |with_reducible rfl |exact True.intro |assumption |(symm;assumption) |rfl
 ·trivial
noncomputable def zZ:List Dat->Option (Eff × List Seg):=fun ds=>match ds with
 | [.d ws,.i nx,.i en,.i er,.i pa]=>some ({val:=.one (.sc (.raw (.string (wnS ws (mR nx pa er))))),vc:=[aa ws nx]},[.c (.rows 132 ws),.c (.int .i64 (.sym ((wnR ws en 1 (mR nx pa er)).nx))),.c (.int .i64 (.sym en)),.c (.int .i64 (.sym ((wnR ws en 1 (mR nx pa er)).er))),.c (.int .i64 (.sym ((wnR ws en 1 (mR nx pa er)).pa)))])
 |_=>none
noncomputable def mX:Con:=ba 92 [.c (.rows 132),.c (.int .i64),.c (.int .i64),.c (.int .i64),.c (.int .i64)] [] zZ
theorem pJ:ConOK Tryz.prog 21 mX:=by
 refine bk tt_ok au Tryz.func21 rfl (fun _ _=>by kernel_rfl) (A:=fun ds=>⟨fun _=>Cons.of [(25,gM)],fun _=>none,fun _=>none⟩) (fun _ _=>(af iy aq)) (by kernel_rfl) ?_
 intro ds;unfold zZ;split
 ·rename_i ws nx en er pa;refine kmp (q:=ac (wnR ws en (1:Int) (mR nx pa er)) fun Ea=>ac (er != (0:Int) ||decide (nx>=(ws.len:Int)) ||(ws.el nx.toNat (0+0:Nat)).toI != (1:Int)) fun Eb=>ac (IntKind.i64.wrap (nx+1)-(1:Int)) fun Ec=>ac (ffR ws en (5:Int) (mR nx pa er)) fun Ed=>aa ws nx->((er != (0:Int) ||decide (nx>=(ws.len:Int)))=false/\True->(0:Int)<=nx/\nx<(ws.len:Int))/\(Eb=true->aa ws nx/\Value.string ⟨#[]⟩=Value.string (wnS ws (mR nx pa er))/\ws.rows=ws.rows/\Ed.nx=Ea.nx/\en=en/\Ed.er=Ea.er/\Ed.pa=Ea.pa)/\(Eb=false->((0:Int)<=IntKind.i64.wrap Ec/\IntKind.i64.wrap Ec<(ws.len:Int))/\Value.string (ws.el (IntKind.i64.wrap Ec).toNat 1).toS=Value.string (wnS ws (mR nx pa er))/\ws.rows=ws.rows/\IntKind.i64.wrap (nx+1)=Ea.nx/\en=en/\er=Ea.er/\pa=Ea.pa)) (by kernel_rfl) ?_
  dsimp +instances only [ac]
  intro h;rw[zU,Bool.not_eq_true',Bool.not_eq_false'];refine ⟨fun hc=>⟨h.1,zV hc.1⟩,fun hc=>?_,fun hc=>?_⟩
  ·have e:wnR ws en 1 (mR nx pa er)=ffR ws en 5 (mR nx pa er):=if_neg (by rw[hc];decide);have e2:wnS ws (mR nx pa er)=ByteArray.empty:=if_neg (by rw[hc];decide);rw[e,e2]
   (repeat' (with_reducible apply And.intro))<;>first |with_reducible rfl |exact True.intro |assumption |(symm;assumption) |rfl
  ·obtain ⟨k1,k2,k3⟩:=ix hc;have e:wnR ws en 1 (mR nx pa er)=gx (mR nx pa er):=if_pos hc;have e2:wnS ws (mR nx pa er)=pkS ws nx:=if_pos hc;have e3:pkS ws nx=(ws.el nx.toNat 1).toS:=if_pos k2;rw[nx2 h k2,nx1 h k2,e,e2,e3];exact ⟨⟨h.1,k2⟩,rfl,rfl,rfl,rfl,rfl,rfl⟩
 ·trivial
noncomputable def z5:List Dat->Option (Eff × List Seg):=fun ds=>match ds with
 | [.d ws,.i nx,.i en,.i er,.i pa]=>some ({val:=.one (.sc (.int .i64 (.sym (wnN ws (mR nx pa er))))),vc:=[aa ws nx]},[.c (.rows 132 ws),.c (.int .i64 (.sym ((wnR ws en 2 (mR nx pa er)).nx))),.c (.int .i64 (.sym en)),.c (.int .i64 (.sym ((wnR ws en 2 (mR nx pa er)).er))),.c (.int .i64 (.sym ((wnR ws en 2 (mR nx pa er)).pa)))])
 |_=>none
noncomputable def pK:Con:=ba 92 [.c (.rows 132),.c (.int .i64),.c (.int .i64),.c (.int .i64),.c (.int .i64)] [] z5
theorem sY:ConOK Tryz.prog 23 pK:=by
 refine bk tt_ok au Tryz.func23 rfl (fun _ _=>by kernel_rfl) (A:=fun ds=>⟨fun _=>Cons.of [(25,gM)],fun _=>none,fun _=>none⟩) (fun _ _=>(af iy aq)) (by kernel_rfl) ?_
 intro ds;unfold z5;split
 ·rename_i ws nx en er pa;refine kmp (q:=ac (wnR ws en (2:Int) (mR nx pa er)) fun Ea=>ac (er != (0:Int) ||decide (nx>=(ws.len:Int)) ||(ws.el nx.toNat (0+0:Nat)).toI != (2:Int)) fun Eb=>ac (IntKind.i64.wrap (nx+1)-(1:Int)) fun Ec=>ac (ffR ws en (5:Int) (mR nx pa er)) fun Ed=>aa ws nx->((er != (0:Int) ||decide (nx>=(ws.len:Int)))=false/\True->(0:Int)<=nx/\nx<(ws.len:Int))/\(Eb=true->aa ws nx/\(0:Int)=wnN ws (mR nx pa er)/\ws.rows=ws.rows/\Ed.nx=Ea.nx/\en=en/\Ed.er=Ea.er/\Ed.pa=Ea.pa)/\(Eb=false->((0:Int)<=IntKind.i64.wrap Ec/\IntKind.i64.wrap Ec<(ws.len:Int))/\(ws.el (IntKind.i64.wrap Ec).toNat (0+2:Nat)).toI=wnN ws (mR nx pa er)/\ws.rows=ws.rows/\IntKind.i64.wrap (nx+1)=Ea.nx/\en=en/\er=Ea.er/\pa=Ea.pa)) (by kernel_rfl) ?_
  dsimp +instances only [ac]
  intro h;rw[zU,Bool.not_eq_true',Bool.not_eq_false'];refine ⟨fun hc=>⟨h.1,zV hc.1⟩,fun hc=>?_,fun hc=>?_⟩
  ·have e:wnR ws en 2 (mR nx pa er)=ffR ws en 5 (mR nx pa er):=if_neg (by rw[hc];decide);have e2:wnN ws (mR nx pa er)=0:=if_neg (by rw[hc];decide);rw[e,e2]
   (repeat' (with_reducible apply And.intro))<;>first |with_reducible rfl |exact True.intro |assumption |(symm;assumption) |rfl
  ·obtain ⟨k1,k2,k3⟩:=ix hc;have e:wnR ws en 2 (mR nx pa er)=gx (mR nx pa er):=if_pos hc;have e2:wnN ws (mR nx pa er)=pkN ws nx:=if_pos hc;have e3:pkN ws nx=(ws.el nx.toNat 2).toI:=if_pos k2;rw[nx2 h k2,nx1 h k2,e,e2,e3];exact ⟨⟨h.1,k2⟩,rfl,rfl,rfl,rfl,rfl,rfl⟩
 ·trivial
end Go.Proofs.YtbhbjhejkamlnaaGreat.Sx.Z
namespace Go.Proofs.YtbhbjhejkamlnaaGreat.Sx
def dj (s:St) (t j:Nat):Int:=match ad s.hp (bj s t) with |some (.own _ l)=>(match l[j]? with |some (.c (.int _ x))=>x.v |_=>0) |_=>0
def z6 (s:St) (sl:aT) (ks:List Nat):St:={tm:=sl++jh s.tm ks,hp:=s.hp,nx:=s.nx}
end Go.Proofs.YtbhbjhejkamlnaaGreat.Sx
namespace Go.Proofs.YtbhbjhejkamlnaaGreat.Sx.Z
open Go.RowKit
noncomputable def z7 (P:PF) (m:Nat):List Dat->Option (Eff × List Seg):=fun ds=>match ds with
 | [.d ws,.i nx,.i en,.i er,.i pa,.i dp]=>some ({val:=.one (.agg [.c (.int .i64 (.sym ((P en ws dp (mR nx pa er)).1).k)),.c (.int .i64 (.sym ((P en ws dp (mR nx pa er)).1).n)),.c (.raw (.string ((P en ws dp (mR nx pa er)).1).s)),.c (.osl 24 0 (.lit 0) (.sym ((P en ws dp (mR nx pa er)).1).d.len))]),vc:=[aa ws nx,aH ws (mR nx pa er) dp,left ws (mR nx pa er)<m],nw:=[(0,.orow 24 (P en ws dp (mR nx pa er)).1.d)]},[.c (.rows 132 ws),.c (.int .i64 (.sym ((((P en ws dp (mR nx pa er)).2)).nx))),.c (.int .i64 (.sym en)),.c (.int .i64 (.sym ((((P en ws dp (mR nx pa er)).2)).er))),.c (.int .i64 (.sym ((((P en ws dp (mR nx pa er)).2)).pa)))])
 |_=>none
noncomputable def fE (P:PF) (m:Nat):Con:=ba 92 [.c (.rows 132),.c (.int .i64),.c (.int .i64),.c (.int .i64),.c (.int .i64)] [.sc (.int .i64)] (z7 P m)
def ixR (ws sg:D) (r:Rd):Nat->Int
 | 0=>-1
 |i+1=>if isB ws (sg.el i 0).toS r=true then (i:Int) else ixR ws sg r i
def kQ (ws sg:D) (fi:Int) (r:Rd):Int:=if r.er=0/\0<=ixR ws sg r sg.len then fi+ixR ws sg r sg.len else 0
def cQL (P:Rd->Xp × Rd) (K:Rd->Int):Nat->Xp->Rd->Xp × Rd
 | 0,x,r=>(x,r)
 |m+1,x,r=>if K r=0 then (x,r) else cQL P K m (X2 (K r) x (P (gx r)).1) (P (gx r)).2
def cQA (P:Rd->Xp × Rd) (K:Rd->Int) (ws:D) (r:Rd):Xp × Rd:=cQL P K (left ws (P r).2) (P r).1 (P r).2
def KOK (ws:D) (K:Rd->Int):Prop:=∀ r,K r≠0->r.nx<ws.len
theorem iz {ws sg:D} {r:Rd}:∀ n,0<=ixR ws sg r n->r.er=0/\r.nx<ws.len/\ixR ws sg r n<n
 | 0,h=>absurd (show (0:Int) <= -1 from h) (by decide)
 |n+1,h=>by
  unfold ixR at h ⊢;split
  ·rename_i hb;have:=bw hb;exact ⟨this.1,this.2,by omega⟩
  ·rename_i hb;rw[if_neg hb] at h;have:=iz n h;exact ⟨this.1,this.2.1,by omega⟩
theorem sZ {ws sg:D} {r:Rd}:∀ n,-1<=ixR ws sg r n/\ixR ws sg r n<n ∨ n=0
 | 0=>.inr rfl
 |n+1=>by
  left
  unfold ixR;split
  ·exact ⟨by omega,by omega⟩
  ·rcases sZ (ws:=ws) (sg:=sg) (r:=r) n with h |h
   ·exact ⟨h.1,by omega⟩
   ·subst h;show -1<=(-1:Int)/\(-1:Int)<((0+1:Nat):Int)
    decide
theorem z8 {ws sg:D} {r:Rd} (n:Nat) : -1<=ixR ws sg r n:=by
 rcases sZ (ws:=ws) (sg:=sg) (r:=r) n with h |h
 ·exact h.1
 ·subst h;show -1<=(-1:Int)
  decide
theorem fF {ws sg:D} {fi:Int}:KOK ws (kQ ws sg fi):=fun r h=>by
 unfold kQ at h
 split at h
 ·rename_i h1;exact (iz _ h1.2).2.1
 ·exact absurd rfl h
theorem dk {P:Rd->Xp × Rd} {K:Rd->Int} {x:Xp} {r:Rd} (h:K r=0):∀ m,cQL P K m x r=(x,r)
 | 0=>rfl
 |m+1=>if_pos h
theorem Iv {P:Rd->Xp × Rd} {K:Rd->Int} {ws:D} (hP:PaOK ws P) (he:KOK ws K):∀ (n:Nat) (r:Rd) (x:Xp),aa ws r.nx->left ws r<=n->cQL P K n x r=cQL P K (left ws r) x r:=by
 intro n
 induction n using Nat.strongRecOn with
 |ind n ih=>
  intro r x h hl
  by_cases hk:K r=0
  ·rw[dk hk,dk hk]
  ·obtain ⟨g1,g2⟩:=c9 h (he r hk);obtain ⟨u1,u2,_⟩:=hP.up (gx r) g1;have u3:=cv (ws:=ws) u1
   cases n with
   |zero=>omega
   |succ k=>
    rw[g2,cQL,if_neg hk,cQL,if_neg hk,ih k (by omega) _ _ u2 (by omega),ih (left ws (gx r)) (by omega) _ _ u2 u3]
theorem jE {P:Rd->Xp × Rd} {K:Rd->Int} {ws:D} (hP:PaOK ws P) (he:KOK ws K) {r:Rd} (x:Xp) (h:aa ws r.nx) (hk:K r≠0):cQL P K (left ws (P (gx r)).2) (X2 (K r) x (P (gx r)).1) (P (gx r)).2=cQL P K (left ws r) x r:=by
 obtain ⟨g1,g2⟩:=c9 h (he r hk);obtain ⟨u1,u2,_⟩:=hP.up (gx r) g1;rw[g2,cQL,if_neg hk,Iv hP he (left ws (gx r)) _ _ u2 (cv u1)]
theorem z9 {P:Rd->Xp × Rd} {K:Rd->Int} {ws:D} (hP:PaOK ws P) (he:KOK ws K):∀ (m:Nat) (x:Xp) (r:Rd),aa ws r.nx->x.d.len<=2->r.nx<=(cQL P K m x r).2.nx/\aa ws (cQL P K m x r).2.nx/\(cQL P K m x r).1.d.len<=2
 | 0,x,r,h,hx=>⟨Int.le_refl _,h,hx⟩
 |m+1,x,r,h,hx=>by
  by_cases hk:K r=0
  ·rw[dk hk];exact ⟨Int.le_refl _,h,hx⟩
  ·obtain ⟨g1,g2⟩:=c9 h (he r hk);obtain ⟨u1,u2,u3⟩:=hP.up (gx r) g1;rw[cQL,if_neg hk];obtain ⟨w1,w2,w3⟩:=z9 hP he m (X2 (K r) x (P (gx r)).1) (P (gx r)).2 u2 (Nat.le_refl _);have e5:(gx r).nx=r.nx+1:=rfl;exact ⟨by omega,w2,w3⟩
theorem s4 {P:Rd->Xp × Rd} {K:Rd->Int} {ws:D} (hP:PaOK ws P) (he:KOK ws K):PaOK ws (cQA P K ws):=⟨fun r h=>by
 obtain ⟨u1,u2,u3⟩:=hP.up r h;obtain ⟨w1,w2,w3⟩:=z9 hP he (left ws (P r).2) (P r).1 (P r).2 u2 u3;exact ⟨Int.le_trans u1 w1,w2,w3⟩⟩
def sgM:D:=.l [[.s ⟨#[42]⟩],[.s ⟨#[47]⟩],[.s ⟨#[37]⟩]]
def sgA:D:=.l [[.s ⟨#[43]⟩],[.s ⟨#[45]⟩]]
noncomputable def Aa (P:PF) (m:Nat):List Dat->Option (Eff × List Seg):=fun ds=>match ds with
 | [.d ws,.i nx,.i en,.i er,.i pa,.i dp,.d sg,.i fi]=>some ({val:=.one (.agg [.c (.int .i64 (.sym ((cQA (P en ws dp) (kQ ws sg fi) ws (mR nx pa er)).1).k)),.c (.int .i64 (.sym ((cQA (P en ws dp) (kQ ws sg fi) ws (mR nx pa er)).1).n)),.c (.raw (.string ((cQA (P en ws dp) (kQ ws sg fi) ws (mR nx pa er)).1).s)),.c (.osl 24 0 (.lit 0) (.sym ((cQA (P en ws dp) (kQ ws sg fi) ws (mR nx pa er)).1).d.len))]),vc:=[aa ws nx,fi=6,sg.len<=10,aH ws (mR nx pa er) dp,left ws (mR nx pa er)<m],nw:=[(0,.orow 24 (cQA (P en ws dp) (kQ ws sg fi) ws (mR nx pa er)).1.d)]},[.c (.rows 132 ws),.c (.int .i64 (.sym (((cQA (P en ws dp) (kQ ws sg fi) ws (mR nx pa er)).2).nx))),.c (.int .i64 (.sym en)),.c (.int .i64 (.sym (((cQA (P en ws dp) (kQ ws sg fi) ws (mR nx pa er)).2).er))),.c (.int .i64 (.sym (((cQA (P en ws dp) (kQ ws sg fi) ws (mR nx pa er)).2).pa)))])
 |_=>none
noncomputable def Ab (P:PF) (m:Nat):Con:=ba 92 [.c (.rows 132),.c (.int .i64),.c (.int .i64),.c (.int .i64),.c (.int .i64)] [.sc (.int .i64),.sc (.rows 9),.sc (.int .i64)] (Aa P m)
theorem Iw {P:PF} {m:Nat} (hP:ConOK Tryz.prog 95 (fE P m)) (hPa:∀ en ws dp,PaOK ws (P en ws dp)):ConOK Tryz.prog 84 (Ab P m):=by
 refine bk tt_ok au Tryz.func84 rfl (fun _ _=>by kernel_rfl) (A:=fun ds=>⟨fun _=>Cons.of [(19,mW),(95,(fE P m))],fun k=>match k,ds with | 5,[.d ws,.i nx,.i en,.i er,.i pa,.i dp,.d sg,.i fi]=>some {ι:=Xp × Rd,pre:=fun _ q=>aa ws q.2.nx/\(cQL (P en ws dp) (kQ ws sg fi) (left ws q.2) q.1 q.2=cQA (P en ws dp) (kQ ws sg fi) ws (mR nx pa er))/\q.1.d.len<=2/\nx<=q.2.nx,μ:=fun q=>left ws q.2,st:=fun s q=>aV s [] [0,1,2,3,8,9] [(0,.own 92 ([.c (.rows 132 ws),.c (.int .i64 (.sym ((q.2).nx))),.c (.int .i64 (.sym en)),.c (.int .i64 (.sym ((q.2).er))),.c (.int .i64 (.sym ((q.2).pa)))])),(bj s 9,.own 24 ([.c (.int .i64 (.sym (q.1).k)),.c (.int .i64 (.sym (q.1).n)),.c (.raw (.string (q.1).s)),.c (.osl 24 (s.nx-1) (.lit 0) (.sym (q.1).d.len))])),(s.nx-1,.orow 24 (q.1.d))] [8]} | 8,[.d ws,.i nx,.i en,.i er,.i pa,.i dp,.d sg,.i fi]=>some {ι:=Nat,pre:=fun _ i=>i<=sg.len/\True,μ:=fun i=>sg.len+1-i,st:=fun s i=>z6 s [(10,.one (.sc (.int .i64 (.sym (ixR ws sg (mR (dj s 0 1) (dj s 0 4) (dj s 0 3)) i))))),(11,.one (.sc (.int .i64 (.sym ((i:Nat))))))] [0,1,2,3,8,9]} |_,_=>none,fun _=>none⟩) (fun _ _=>(af pI (af hP aq))) (by kernel_rfl) ?_
 intro ds;unfold Aa;split
 ·rename_i ws nx en er pa dp sg fi
  refine kmp (q:=ac (cQA (P en ws dp) (kQ ws sg fi) ws (mR nx pa er)) fun Ea=>ac (fun (i:Xp × Rd)=>P en ws dp (mR (IntKind.i64.wrap (i.snd.nx+1)) i.snd.pa i.snd.er)) fun Eb=>ac (P en ws dp (mR nx pa er)) fun Ec=>aa ws nx->fi=(6:Int)->sg.len<=10->aH ws (mR nx pa er) dp->left ws (mR nx pa er)<m->((fi==(6:Int))=true->aa ws nx/\aH ws (mR nx pa er) dp/\left ws (mR nx pa er)<m/\(∃ (i:Xp × Rd),(aa ws i.snd.nx/\cQL (P en ws dp) (kQ ws sg fi) (left ws i.snd) i.fst i.snd=cQA (P en ws dp) (kQ ws sg fi) ws (mR nx pa er)/\i.fst.d.len<=2/\nx<=i.snd.nx)/\dp=dp/\sg.rows=sg.rows/\fi=fi/\ws.rows=ws.rows/\Ec.snd.nx=i.snd.nx/\en=en/\Ec.snd.er=i.snd.er/\Ec.snd.pa=i.snd.pa/\Ec.fst.k=i.fst.k/\Ec.fst.n=i.fst.n/\Value.string Ec.fst.s=Value.string i.fst.s/\Ec.fst.d.len=i.fst.d.len/\Ec.fst.d.rows=i.fst.d.rows/\(0:Int)=0/\(0:Int)=0/\Value.string ByteArray.empty=Value.string ByteArray.empty)/\∀ (i:Xp × Rd),aa ws i.snd.nx/\cQL (P en ws dp) (kQ ws sg fi) (left ws i.snd) i.fst i.snd=cQA (P en ws dp) (kQ ws sg fi) ws (mR nx pa er)/\i.fst.d.len<=2/\nx<=i.snd.nx->((i.snd.er==(0:Int))=true->(∃ (i_1:Nat),(i_1<=sg.len/\True)/\(-1:Int)=ixR ws sg i.snd i_1/\0=(i_1:Int)/\dp=dp/\sg.rows=sg.rows/\fi=fi/\ws.rows=ws.rows/\i.snd.nx=i.snd.nx/\en=en/\i.snd.er=i.snd.er/\i.snd.pa=i.snd.pa/\i.fst.k=i.fst.k/\i.fst.n=i.fst.n/\Value.string i.fst.s=Value.string i.fst.s/\i.fst.d.len=i.fst.d.len/\i.fst.d.rows=i.fst.d.rows/\(0:Int)=0/\(0:Int)=0/\Value.string ByteArray.empty=Value.string ByteArray.empty)/\∀ (i_1:Nat),i_1<=sg.len/\True->(decide ((i_1:Int)<(sg.len:Int))=true->(0<=(i_1:Int)/\(i_1:Int)<(sg.len:Int))/\aa ws i.snd.nx/\(isB ws (sg.el (i_1:Int).toNat 0).toS i.snd=true->∃ (j:Nat),(j<=sg.len/\True)/\sg.len+1-j<sg.len+1-i_1/\(i_1:Int)=ixR ws sg i.snd j/\IntKind.i64.wrap ((i_1:Int)+1)=(j:Int)/\dp=dp/\sg.rows=sg.rows/\fi=fi/\ws.rows=ws.rows/\i.snd.nx=i.snd.nx/\en=en/\i.snd.er=i.snd.er/\i.snd.pa=i.snd.pa/\i.fst.k=i.fst.k/\i.fst.n=i.fst.n/\Value.string i.fst.s=Value.string i.fst.s/\i.fst.d.len=i.fst.d.len/\i.fst.d.rows=i.fst.d.rows/\(0:Int)=0/\(0:Int)=0/\Value.string ByteArray.empty=Value.string ByteArray.empty)/\(isB ws (sg.el (i_1:Int).toNat 0).toS i.snd=false->∃ (j:Nat),(j<=sg.len/\True)/\sg.len+1-j<sg.len+1-i_1/\ixR ws sg i.snd i_1=ixR ws sg i.snd j/\IntKind.i64.wrap ((i_1:Int)+1)=(j:Int)/\dp=dp/\sg.rows=sg.rows/\fi=fi/\ws.rows=ws.rows/\i.snd.nx=i.snd.nx/\en=en/\i.snd.er=i.snd.er/\i.snd.pa=i.snd.pa/\i.fst.k=i.fst.k/\i.fst.n=i.fst.n/\Value.string i.fst.s=Value.string i.fst.s/\i.fst.d.len=i.fst.d.len/\i.fst.d.rows=i.fst.d.rows/\(0:Int)=0/\(0:Int)=0/\Value.string ByteArray.empty=Value.string ByteArray.empty))/\(decide ((i_1:Int)<(sg.len:Int))=false->(decide (ixR ws sg i.snd i_1<(0:Int))=true->i.fst.k=Ea.fst.k/\i.fst.n=Ea.fst.n/\Value.string i.fst.s=Value.string Ea.fst.s/\i.fst.d.len=Ea.fst.d.len/\ws.rows=ws.rows/\i.snd.nx=Ea.snd.nx/\en=en/\i.snd.er=Ea.snd.er/\i.snd.pa=Ea.snd.pa/\i.fst.d.rows=Ea.fst.d.rows)/\(decide (ixR ws sg i.snd i_1<(0:Int))=false->((fi==(6:Int))=true->aa ws (IntKind.i64.wrap (i.snd.nx+1))/\aH ws (mR (IntKind.i64.wrap (i.snd.nx+1)) i.snd.pa i.snd.er) dp/\left ws (mR (IntKind.i64.wrap (i.snd.nx+1)) i.snd.pa i.snd.er)<m/\0+i.fst.d.len<=i.fst.d.len/\0+(Eb i).fst.d.len<=(Eb i).fst.d.len/\∃ (j:Xp × Rd),(aa ws j.snd.nx/\cQL (P en ws dp) (kQ ws sg fi) (left ws j.snd) j.fst j.snd=cQA (P en ws dp) (kQ ws sg fi) ws (mR nx pa er)/\j.fst.d.len<=2/\nx<=j.snd.nx)/\left ws j.snd<left ws i.snd/\dp=dp/\sg.rows=sg.rows/\fi=fi/\ws.rows=ws.rows/\(Eb i).snd.nx=j.snd.nx/\en=en/\(Eb i).snd.er=j.snd.er/\(Eb i).snd.pa=j.snd.pa/\IntKind.i64.wrap (fi+ixR ws sg i.snd i_1)=j.fst.k/\(0:Int)=j.fst.n/\Value.string ByteArray.empty=Value.string j.fst.s/\2=j.fst.d.len /\ [[D.i i.fst.k,D.i i.fst.n,D.s i.fst.s,i.fst.d.sub 0 ((0:Nat)+i.fst.d.len)],[D.i (Eb i).fst.k,D.i (Eb i).fst.n,D.s (Eb i).fst.s,(Eb i).fst.d.sub 0 ((0:Nat)+(Eb i).fst.d.len)]]=j.fst.d.rows/\(0:Int)=0/\(0:Int)=0/\Value.string ByteArray.empty=Value.string ByteArray.empty)/\((fi==(6:Int))=false->False))))/\((i.snd.er==(0:Int))=false->i.fst.k=Ea.fst.k/\i.fst.n=Ea.fst.n/\Value.string i.fst.s=Value.string Ea.fst.s/\i.fst.d.len=Ea.fst.d.len/\ws.rows=ws.rows/\i.snd.nx=Ea.snd.nx/\en=en/\i.snd.er=Ea.snd.er/\i.snd.pa=Ea.snd.pa/\i.fst.d.rows=Ea.fst.d.rows))/\((fi==(6:Int))=false->False)) (by kernel_rfl) ?_
  dsimp +instances only [ac]
  intro h hf hs hd hl;have hQ:=hPa en ws dp;obtain ⟨v1,v2,v3⟩:=hQ.up (mR nx pa er) h;refine ⟨fun hc=>⟨h,hd,hl,⟨(P en ws dp) (mR nx pa er),⟨v2,rfl,v3,v1⟩,(by (repeat' (with_reducible apply And.intro))<;>first |with_reducible rfl |exact True.intro |assumption |(symm;assumption) |rfl)⟩,?_⟩,fun hc=>absurd hf (ne_of_beq_false hc)⟩;rintro q ⟨h1,h2,h3,h4⟩;refine ⟨fun h0=>⟨⟨0,⟨Nat.zero_le _,trivial⟩,(by (repeat' (with_reducible apply And.intro))<;>first |with_reducible rfl |exact True.intro |assumption |(symm;assumption) |rfl)⟩,fun i hi=>⟨fun hd1=>?_,fun hd1=>?_⟩⟩,fun h0=>?_⟩
  ·have hd1:=of_decide_eq_true hd1;have hi2:i<sg.len:=by omega
   have hw:IntKind.i64.wrap ((i:Int)+1)=((i+1:Nat):Int):=by rw[IntWalk.i64_in _ (by omega)];omega
   have en0:(i:Int).toNat=i:=Int.toNat_natCast i;rw[en0];refine ⟨⟨by omega,hd1⟩,h1,fun hb=>⟨i+1,⟨hi2,trivial⟩,by omega,(if_pos hb).symm,hw,(by (repeat' (with_reducible apply And.intro))<;>first |with_reducible rfl |exact True.intro |assumption |(symm;assumption) |rfl)⟩,fun hb=>⟨i+1,⟨hi2,trivial⟩,by omega,(if_neg (by rw[hb];decide)).symm,hw,(by (repeat' (with_reducible apply And.intro))<;>first |with_reducible rfl |exact True.intro |assumption |(symm;assumption) |rfl)⟩⟩
  ·have hd1:=of_decide_eq_false hd1;obtain rfl:i=sg.len:=by have:=hi.1;omega
   refine ⟨fun ha=>?_,fun ha=>⟨fun hc=>?_,fun hc=>absurd hf (ne_of_beq_false hc)⟩⟩
   ·have ha:=of_decide_eq_true ha;have hk:kQ ws sg fi q.2=0:=if_neg (fun hx=>by have:=hx.2;omega);rw[dk hk] at h2;rw[<- h2]
    (repeat' (with_reducible apply And.intro))<;>first |with_reducible rfl |exact True.intro |assumption |(symm;assumption) |rfl
   ·have ha:=of_decide_eq_false ha;have hr0:q.2.er=0:=eq_of_beq h0;have hx:=iz (ws:=ws) (sg:=sg) (r:=q.2) sg.len (by omega);have hk:kQ ws sg fi q.2=fi+ixR ws sg q.2 sg.len:=if_pos ⟨hr0,by omega⟩;have hk0:kQ ws sg fi q.2≠0:=by rw[hk];omega
    have hlt:=hx.2.1;obtain ⟨g1,g2⟩:=c9 h1 hlt;obtain ⟨u1,u2,u3⟩:=hQ.up (gx q.2) g1;have ew:IntKind.i64.wrap (fi+ixR ws sg q.2 sg.len)=kQ ws sg fi q.2:=by rw[hk,IntWalk.i64_in _ (by omega)]
    rw[nx1 h1 hlt,bu,bu,ew];have e3:mR (q.2.nx+1) q.2.pa q.2.er=gx q.2:=rfl;rw[e3];have l0:left ws q.2<=left ws (mR nx pa er):=cv h4;have l1:=cv (ws:=ws) u1;have e5:(gx q.2).nx=q.2.nx+1:=rfl;have hd2:aH ws (gx q.2) dp:=⟨hd.1,by have:=hd.2;omega⟩;refine ⟨g1,hd2,by omega,by omega,by omega,⟨(X2 (kQ ws sg fi q.2) q.1 ((P en ws dp) (gx q.2)).1,((P en ws dp) (gx q.2)).2),⟨u2,(jE hQ fF q.1 h1 hk0).trans h2,Nat.le_refl _,(by show nx<=((P en ws dp) (gx q.2)).2.nx;omega)⟩,(by show left ws ((P en ws dp) (gx q.2)).2<left ws q.2;omega),(by (repeat' (with_reducible apply And.intro))<;>first |with_reducible rfl |exact True.intro |assumption |(symm;assumption) |rfl)⟩⟩
  ·have h0:q.2.er≠0:=ne_of_beq_false h0;have hk:kQ ws sg fi q.2=0:=if_neg (fun hx=>h0 hx.1);rw[dk hk] at h2;rw[<- h2]
   (repeat' (with_reducible apply And.intro))<;>first |with_reducible rfl |exact True.intro |assumption |(symm;assumption) |rfl
 ·trivial
def wpr (P:PF):PF:=fun en ws dp r=>cQA (P en ws dp) (kQ ws sgM 6) ws r
def wsm (P:PF):PF:=fun en ws dp r=>cQA (wpr P en ws dp) (kQ ws sgA 4) ws r
theorem pL {P:PF} (hPa:∀ en ws dp,PaOK ws (P en ws dp)) (en:Int) (ws:D) (dp:Int):PaOK ws (wpr P en ws dp):=s4 (hPa en ws dp) fF
theorem s7 {P:PF} (hPa:∀ en ws dp,PaOK ws (P en ws dp)) (en:Int) (ws:D) (dp:Int):PaOK ws (wsm P en ws dp):=s4 (pL hPa en ws dp) fF
noncomputable def Ac (P:PF) (m:Nat):List Dat->Option (Eff × List Seg):=fun ds=>match ds with
 | [.d ws,.i nx,.i en,.i er,.i pa,.i dp,.d sg,.i fi]=>some ({val:=.one (.agg [.c (.int .i64 (.sym ((cQA (wpr P en ws dp) (kQ ws sg fi) ws (mR nx pa er)).1).k)),.c (.int .i64 (.sym ((cQA (wpr P en ws dp) (kQ ws sg fi) ws (mR nx pa er)).1).n)),.c (.raw (.string ((cQA (wpr P en ws dp) (kQ ws sg fi) ws (mR nx pa er)).1).s)),.c (.osl 24 0 (.lit 0) (.sym ((cQA (wpr P en ws dp) (kQ ws sg fi) ws (mR nx pa er)).1).d.len))]),vc:=[aa ws nx,fi=4,sg.len<=10,aH ws (mR nx pa er) dp,left ws (mR nx pa er)<m],nw:=[(0,.orow 24 (cQA (wpr P en ws dp) (kQ ws sg fi) ws (mR nx pa er)).1.d)]},[.c (.rows 132 ws),.c (.int .i64 (.sym (((cQA (wpr P en ws dp) (kQ ws sg fi) ws (mR nx pa er)).2).nx))),.c (.int .i64 (.sym en)),.c (.int .i64 (.sym (((cQA (wpr P en ws dp) (kQ ws sg fi) ws (mR nx pa er)).2).er))),.c (.int .i64 (.sym (((cQA (wpr P en ws dp) (kQ ws sg fi) ws (mR nx pa er)).2).pa)))])
 |_=>none
noncomputable def Ad (P:PF) (m:Nat):Con:=ba 92 [.c (.rows 132),.c (.int .i64),.c (.int .i64),.c (.int .i64),.c (.int .i64)] [.sc (.int .i64),.sc (.rows 9),.sc (.int .i64)] (Ac P m)
theorem Ix {P:PF} {m:Nat} (hP:ConOK Tryz.prog 95 (fE P m)) (hPa:∀ en ws dp,PaOK ws (P en ws dp)):ConOK Tryz.prog 84 (Ad P m):=by
 refine bk tt_ok au Tryz.func84 rfl (fun _ _=>by kernel_rfl) (A:=fun ds=>⟨fun _=>Cons.of [(19,mW),(84,(Ab P m))],fun k=>match k,ds with | 5,[.d ws,.i nx,.i en,.i er,.i pa,.i dp,.d sg,.i fi]=>some {ι:=Xp × Rd,pre:=fun _ q=>aa ws q.2.nx/\(cQL (wpr P en ws dp) (kQ ws sg fi) (left ws q.2) q.1 q.2=cQA (wpr P en ws dp) (kQ ws sg fi) ws (mR nx pa er))/\q.1.d.len<=2/\nx<=q.2.nx,μ:=fun q=>left ws q.2,st:=fun s q=>aV s [] [0,1,2,3,8,9] [(0,.own 92 ([.c (.rows 132 ws),.c (.int .i64 (.sym ((q.2).nx))),.c (.int .i64 (.sym en)),.c (.int .i64 (.sym ((q.2).er))),.c (.int .i64 (.sym ((q.2).pa)))])),(bj s 9,.own 24 ([.c (.int .i64 (.sym (q.1).k)),.c (.int .i64 (.sym (q.1).n)),.c (.raw (.string (q.1).s)),.c (.osl 24 (s.nx-1) (.lit 0) (.sym (q.1).d.len))])),(s.nx-1,.orow 24 (q.1.d))] [8]} | 8,[.d ws,.i nx,.i en,.i er,.i pa,.i dp,.d sg,.i fi]=>some {ι:=Nat,pre:=fun _ i=>i<=sg.len/\True,μ:=fun i=>sg.len+1-i,st:=fun s i=>z6 s [(10,.one (.sc (.int .i64 (.sym (ixR ws sg (mR (dj s 0 1) (dj s 0 4) (dj s 0 3)) i))))),(11,.one (.sc (.int .i64 (.sym ((i:Nat))))))] [0,1,2,3,8,9]} |_,_=>none,fun _=>none⟩) (fun _ _=>(af pI (af (Iw hP hPa) aq))) (by kernel_rfl) ?_
 intro ds;unfold Ac;split
 ·rename_i ws nx en er pa dp sg fi
  refine kmp (q:=ac (kQ ws ((D.l [[D.s ⟨#[42]⟩],[D.s ⟨#[47]⟩],[D.s ⟨#[37]⟩]]).sub 0 (0+3:Nat)) (6:Int)) fun Ea=>ac (cQA (wpr P en ws dp) (kQ ws sg fi) ws (mR nx pa er)) fun Eb=>ac (fun (i:Xp × Rd)=>cQA (P en ws dp) Ea ws (mR (IntKind.i64.wrap (i.snd.nx+1)) i.snd.pa i.snd.er)) fun Ec=>ac (D.l [[D.s ⟨#[42]⟩],[D.s ⟨#[47]⟩],[D.s ⟨#[37]⟩]]) fun Ed=>ac (cQA (P en ws dp) Ea ws (mR nx pa er)) fun Ee=>aa ws nx->fi=(4:Int)->sg.len<=10->aH ws (mR nx pa er) dp->left ws (mR nx pa er)<m->((fi==(6:Int))=true->False)/\((fi==(6:Int))=false->0+3<=Ed.len/\aa ws nx/\(6:Int)=6/\(Ed.sub 0 (0+3:Nat)).len<=10/\aH ws (mR nx pa er) dp/\left ws (mR nx pa er)<m/\(∃ (i:Xp × Rd),(aa ws i.snd.nx/\cQL (wpr P en ws dp) (kQ ws sg fi) (left ws i.snd) i.fst i.snd=cQA (wpr P en ws dp) (kQ ws sg fi) ws (mR nx pa er)/\i.fst.d.len<=2/\nx<=i.snd.nx)/\dp=dp/\sg.rows=sg.rows/\fi=fi/\ws.rows=ws.rows/\Ee.snd.nx=i.snd.nx/\en=en/\Ee.snd.er=i.snd.er/\Ee.snd.pa=i.snd.pa/\Ee.fst.k=i.fst.k/\Ee.fst.n=i.fst.n/\Value.string Ee.fst.s=Value.string i.fst.s/\Ee.fst.d.len=i.fst.d.len/\Ee.fst.d.rows=i.fst.d.rows/\(0:Int)=0/\(0:Int)=0/\Value.string ByteArray.empty=Value.string ByteArray.empty)/\∀ (i:Xp × Rd),aa ws i.snd.nx/\cQL (wpr P en ws dp) (kQ ws sg fi) (left ws i.snd) i.fst i.snd=cQA (wpr P en ws dp) (kQ ws sg fi) ws (mR nx pa er)/\i.fst.d.len<=2/\nx<=i.snd.nx->((i.snd.er==(0:Int))=true->(∃ (i_1:Nat),(i_1<=sg.len/\True)/\(-1:Int)=ixR ws sg i.snd i_1/\0=(i_1:Int)/\dp=dp/\sg.rows=sg.rows/\fi=fi/\ws.rows=ws.rows/\i.snd.nx=i.snd.nx/\en=en/\i.snd.er=i.snd.er/\i.snd.pa=i.snd.pa/\i.fst.k=i.fst.k/\i.fst.n=i.fst.n/\Value.string i.fst.s=Value.string i.fst.s/\i.fst.d.len=i.fst.d.len/\i.fst.d.rows=i.fst.d.rows/\(0:Int)=0/\(0:Int)=0/\Value.string ByteArray.empty=Value.string ByteArray.empty)/\∀ (i_1:Nat),i_1<=sg.len/\True->(decide ((i_1:Int)<(sg.len:Int))=true->(0<=(i_1:Int)/\(i_1:Int)<(sg.len:Int))/\aa ws i.snd.nx/\(isB ws (sg.el (i_1:Int).toNat 0).toS i.snd=true->∃ (j:Nat),(j<=sg.len/\True)/\sg.len+1-j<sg.len+1-i_1/\(i_1:Int)=ixR ws sg i.snd j/\IntKind.i64.wrap ((i_1:Int)+1)=(j:Int)/\dp=dp/\sg.rows=sg.rows/\fi=fi/\ws.rows=ws.rows/\i.snd.nx=i.snd.nx/\en=en/\i.snd.er=i.snd.er/\i.snd.pa=i.snd.pa/\i.fst.k=i.fst.k/\i.fst.n=i.fst.n/\Value.string i.fst.s=Value.string i.fst.s/\i.fst.d.len=i.fst.d.len/\i.fst.d.rows=i.fst.d.rows/\(0:Int)=0/\(0:Int)=0/\Value.string ByteArray.empty=Value.string ByteArray.empty)/\(isB ws (sg.el (i_1:Int).toNat 0).toS i.snd=false->∃ (j:Nat),(j<=sg.len/\True)/\sg.len+1-j<sg.len+1-i_1/\ixR ws sg i.snd i_1=ixR ws sg i.snd j/\IntKind.i64.wrap ((i_1:Int)+1)=(j:Int)/\dp=dp/\sg.rows=sg.rows/\fi=fi/\ws.rows=ws.rows/\i.snd.nx=i.snd.nx/\en=en/\i.snd.er=i.snd.er/\i.snd.pa=i.snd.pa/\i.fst.k=i.fst.k/\i.fst.n=i.fst.n/\Value.string i.fst.s=Value.string i.fst.s/\i.fst.d.len=i.fst.d.len/\i.fst.d.rows=i.fst.d.rows/\(0:Int)=0/\(0:Int)=0/\Value.string ByteArray.empty=Value.string ByteArray.empty))/\(decide ((i_1:Int)<(sg.len:Int))=false->(decide (ixR ws sg i.snd i_1<(0:Int))=true->i.fst.k=Eb.fst.k/\i.fst.n=Eb.fst.n/\Value.string i.fst.s=Value.string Eb.fst.s/\i.fst.d.len=Eb.fst.d.len/\ws.rows=ws.rows/\i.snd.nx=Eb.snd.nx/\en=en/\i.snd.er=Eb.snd.er/\i.snd.pa=Eb.snd.pa/\i.fst.d.rows=Eb.fst.d.rows)/\(decide (ixR ws sg i.snd i_1<(0:Int))=false->((fi==(6:Int))=true->False)/\((fi==(6:Int))=false->0+3<=Ed.len/\aa ws (IntKind.i64.wrap (i.snd.nx+1))/\(6:Int)=6/\(Ed.sub 0 (0+3:Nat)).len<=10/\aH ws (mR (IntKind.i64.wrap (i.snd.nx+1)) i.snd.pa i.snd.er) dp/\left ws (mR (IntKind.i64.wrap (i.snd.nx+1)) i.snd.pa i.snd.er)<m/\0+i.fst.d.len<=i.fst.d.len/\0+(Ec i).fst.d.len<=(Ec i).fst.d.len/\∃ (j:Xp × Rd),(aa ws j.snd.nx/\cQL (wpr P en ws dp) (kQ ws sg fi) (left ws j.snd) j.fst j.snd=cQA (wpr P en ws dp) (kQ ws sg fi) ws (mR nx pa er)/\j.fst.d.len<=2/\nx<=j.snd.nx)/\left ws j.snd<left ws i.snd/\dp=dp/\sg.rows=sg.rows/\fi=fi/\ws.rows=ws.rows/\(Ec i).snd.nx=j.snd.nx/\en=en/\(Ec i).snd.er=j.snd.er/\(Ec i).snd.pa=j.snd.pa/\IntKind.i64.wrap (fi+ixR ws sg i.snd i_1)=j.fst.k/\(0:Int)=j.fst.n/\Value.string ByteArray.empty=Value.string j.fst.s/\2=j.fst.d.len /\ [[D.i i.fst.k,D.i i.fst.n,D.s i.fst.s,i.fst.d.sub 0 ((0:Nat)+i.fst.d.len)],[D.i (Ec i).fst.k,D.i (Ec i).fst.n,D.s (Ec i).fst.s,(Ec i).fst.d.sub 0 ((0:Nat)+(Ec i).fst.d.len)]]=j.fst.d.rows/\(0:Int)=0/\(0:Int)=0/\Value.string ByteArray.empty=Value.string ByteArray.empty))))/\((i.snd.er==(0:Int))=false->i.fst.k=Eb.fst.k/\i.fst.n=Eb.fst.n/\Value.string i.fst.s=Value.string Eb.fst.s/\i.fst.d.len=Eb.fst.d.len/\ws.rows=ws.rows/\i.snd.nx=Eb.snd.nx/\en=en/\i.snd.er=Eb.snd.er/\i.snd.pa=Eb.snd.pa/\i.fst.d.rows=Eb.fst.d.rows))) (by kernel_rfl) ?_
  dsimp +instances only [ac]
  intro h hf hs hd hl;have hQ:=pL hPa en ws dp;obtain ⟨v1,v2,v3⟩:=hQ.up (mR nx pa er) h;refine ⟨fun hc=>absurd (eq_of_beq hc) (by rw[hf];decide),fun hc=>⟨(by decide),h,rfl,(by decide),hd,hl,⟨(wpr P en ws dp) (mR nx pa er),⟨v2,rfl,v3,v1⟩,(by (repeat' (with_reducible apply And.intro))<;>first |with_reducible rfl |exact True.intro |assumption |(symm;assumption) |rfl)⟩,?_⟩⟩;rintro q ⟨h1,h2,h3,h4⟩;refine ⟨fun h0=>⟨⟨0,⟨Nat.zero_le _,trivial⟩,(by (repeat' (with_reducible apply And.intro))<;>first |with_reducible rfl |exact True.intro |assumption |(symm;assumption) |rfl)⟩,fun i hi=>⟨fun hd1=>?_,fun hd1=>?_⟩⟩,fun h0=>?_⟩
  ·have hd1:=of_decide_eq_true hd1;have hi2:i<sg.len:=by omega
   have hw:IntKind.i64.wrap ((i:Int)+1)=((i+1:Nat):Int):=by rw[IntWalk.i64_in _ (by omega)];omega
   have en0:(i:Int).toNat=i:=Int.toNat_natCast i;rw[en0];refine ⟨⟨by omega,hd1⟩,h1,fun hb=>⟨i+1,⟨hi2,trivial⟩,by omega,(if_pos hb).symm,hw,(by (repeat' (with_reducible apply And.intro))<;>first |with_reducible rfl |exact True.intro |assumption |(symm;assumption) |rfl)⟩,fun hb=>⟨i+1,⟨hi2,trivial⟩,by omega,(if_neg (by rw[hb];decide)).symm,hw,(by (repeat' (with_reducible apply And.intro))<;>first |with_reducible rfl |exact True.intro |assumption |(symm;assumption) |rfl)⟩⟩
  ·have hd1:=of_decide_eq_false hd1;obtain rfl:i=sg.len:=by have:=hi.1;omega
   refine ⟨fun ha=>?_,fun ha=>⟨fun hc=>absurd (eq_of_beq hc) (by rw[hf];decide),fun hc=>?_⟩⟩
   ·have ha:=of_decide_eq_true ha;have hk:kQ ws sg fi q.2=0:=if_neg (fun hx=>by have:=hx.2;omega);rw[dk hk] at h2;rw[<- h2]
    (repeat' (with_reducible apply And.intro))<;>first |with_reducible rfl |exact True.intro |assumption |(symm;assumption) |rfl
   ·have ha:=of_decide_eq_false ha;have hr0:q.2.er=0:=eq_of_beq h0;have hx:=iz (ws:=ws) (sg:=sg) (r:=q.2) sg.len (by omega);have hk:kQ ws sg fi q.2=fi+ixR ws sg q.2 sg.len:=if_pos ⟨hr0,by omega⟩;have hk0:kQ ws sg fi q.2≠0:=by rw[hk];omega
    have hlt:=hx.2.1;obtain ⟨g1,g2⟩:=c9 h1 hlt;obtain ⟨u1,u2,u3⟩:=hQ.up (gx q.2) g1;have ew:IntKind.i64.wrap (fi+ixR ws sg q.2 sg.len)=kQ ws sg fi q.2:=by rw[hk,IntWalk.i64_in _ (by omega)]
    rw[nx1 h1 hlt,bu,bu,ew];have e3:mR (q.2.nx+1) q.2.pa q.2.er=gx q.2:=rfl;rw[e3];have l0:left ws q.2<=left ws (mR nx pa er):=cv h4;have l1:=cv (ws:=ws) u1;have e5:(gx q.2).nx=q.2.nx+1:=rfl;have hd2:aH ws (gx q.2) dp:=⟨hd.1,by have:=hd.2;omega⟩;refine ⟨(by decide),g1,rfl,(by decide),hd2,by omega,by omega,by omega,⟨(X2 (kQ ws sg fi q.2) q.1 ((wpr P en ws dp) (gx q.2)).1,((wpr P en ws dp) (gx q.2)).2),⟨u2,(jE hQ fF q.1 h1 hk0).trans h2,Nat.le_refl _,(by show nx<=((wpr P en ws dp) (gx q.2)).2.nx;omega)⟩,(by show left ws ((wpr P en ws dp) (gx q.2)).2<left ws q.2;omega),(by (repeat' (with_reducible apply And.intro))<;>first |with_reducible rfl |exact True.intro |assumption |(symm;assumption) |rfl)⟩⟩
  ·have h0:q.2.er≠0:=ne_of_beq_false h0;have hk:kQ ws sg fi q.2=0:=if_neg (fun hx=>h0 hx.1);rw[dk hk] at h2;rw[<- h2]
   (repeat' (with_reducible apply And.intro))<;>first |with_reducible rfl |exact True.intro |assumption |(symm;assumption) |rfl
 ·trivial
def rfB (P:PF):PF:=fun en ws dp r=>
 if isB ws miB r=true ∨ isB ws opB r=true then
  (if 24<=dp then (X00,ffR ws en 6 r)
   else if isB ws miB r=true then (⟨3,0,ByteArray.empty,.l [(P en ws (dp+1) (gx r)).1.row]⟩,(P en ws (dp+1) (gx r)).2)
   else ((wsm P en ws (dp+1) (gx r)).1,muR ws en clB (wsm P en ws (dp+1) (gx r)).2))
 else if kiB ws 2 r=true then (⟨1,wnN ws r,ByteArray.empty,.l []⟩,wnR ws en 2 r)
 else (⟨2,0,wnS ws r,.l []⟩,wnR ws en 1 r)
theorem s8 (ws:D) (k nx pa er:Int):(er==0&&decide (nx<(ws.len:Int))&&(ws.el nx.toNat (0+0)).toI==k)=kiB ws k (mR nx pa er):=by
 by_cases hl:nx<ws.len
 ·rw[pH,(fC hl).2]
 ·rw[pH];simp only[decide_eq_false hl,Bool.and_false,Bool.false_and]
theorem kU {ws:D} (en e:Int) {r:Rd} (h:aa ws r.nx):aa ws (ffR ws en e r).nx/\r.nx<=(ffR ws en e r).nx:=by
 unfold ffR;split
 ·exact ⟨h,Int.le_refl _⟩
 ·exact ⟨h,Int.le_refl _⟩
theorem bR {ws:D} (en:Int) {t:ByteArray} {r:Rd} (h:aa ws r.nx):aa ws (muR ws en t r).nx/\r.nx<=(muR ws en t r).nx:=by
 unfold muR;split
 ·rename_i hb;exact bx h (bw hb).2
 ·exact kU en 5 h
theorem cw {ws:D} (en k:Int) {r:Rd} (h:aa ws r.nx):aa ws (wnR ws en k r).nx/\r.nx<=(wnR ws en k r).nx:=by
 unfold wnR;split
 ·rename_i hb;exact bx h (ix hb).2.1
 ·exact kU en 5 h
theorem Iy {P:PF} (hPa:∀ en ws dp,PaOK ws (P en ws dp)) (en:Int) (ws:D) (dp:Int):PaOK ws (rfB P en ws dp):=⟨fun r h=>by
 unfold rfB;split
 ·rename_i hb;have hl:r.nx<ws.len:=by rcases hb with hb |hb<;>exact (bw hb).2
  have g:=bx h hl;split
  ·have:=kU en 6 h;exact ⟨this.2,this.1,Nat.zero_le _⟩
  ·split
   ·obtain ⟨u1,u2,u3⟩:=(hPa en ws (dp+1)).up _ g.1;exact ⟨Int.le_trans g.2 u1,u2,(show 1<=2 by decide)⟩
   ·obtain ⟨u1,u2,u3⟩:=(s7 hPa en ws (dp+1)).up _ g.1;have m:=bR en (t:=clB) u2;exact ⟨Int.le_trans g.2 (Int.le_trans u1 m.2),m.1,u3⟩
 ·split
  ·have:=cw en 2 h;exact ⟨this.2,this.1,Nat.zero_le _⟩
  ·have:=cw en 1 h;exact ⟨this.2,this.1,Nat.zero_le _⟩⟩
noncomputable def Ae:FSpec:=fun ds _=>match ds with
 | [.d ws,.i nx,.i en,.i er,.i pa,.s t]=>some {val:=.one (.sc (.bool (.sym (isB ws t (mR nx pa er))))),vc:=[aa ws nx]}
 |_=>none
noncomputable def kV:Con:=con [.ptr [.c (.rows 132),.c (.int .i64),.c (.int .i64),.c (.int .i64),.c (.int .i64)],.sc .str] Ae
theorem mY:ConOK Tryz.prog 19 kV:=by
 refine bg tt_ok au Tryz.func19 rfl (fun _ _=>by kernel_rfl) (A:=fun ds=>⟨fun _=>Cons.of [],fun _=>none,fun _=>none⟩) (fun _ _=>aq) (by kernel_rfl) ?_
 intro ds fr;unfold Ae;split
 ·rename_i ws nx en er pa t;refine kmp (q:=aa ws nx->((er==(0:Int)&&decide (nx<(ws.len:Int)))=true/\True->(0:Int)<=nx/\nx<(ws.len:Int))/\((er==(0:Int)&&decide (nx<(ws.len:Int))&&(ws.el nx.toNat 1).toS.toList==t.toList)=true/\True->(0:Int)<=nx/\nx<(ws.len:Int))/\(er==(0:Int)&&decide (nx<(ws.len:Int))&&(ws.el nx.toNat 1).toS.toList==t.toList&&decide ((ws.el nx.toNat (0+0:Nat)).toI>=3))=isB ws t (mR nx pa er)) (by kernel_rfl) ?_
  intro h;refine ⟨fun hc=>⟨h.1,?_⟩,fun hc=>⟨h.1,?_⟩,?_⟩
  ·have:=hc.1;simp only[Bool.and_eq_true] at this;exact of_decide_eq_true this.2
  ·have:=hc.1;simp only[Bool.and_eq_true] at this;exact of_decide_eq_true this.1.2
  ·by_cases hl:nx<ws.len
   ·rw[pG,(fC hl).1,(fC hl).2]
   ·rw[pG];simp only[decide_eq_false hl,Bool.and_false,Bool.false_and]
 ·trivial
noncomputable def Af (P:PF) (m:Nat):List Dat->Option (Eff × List Seg):=fun ds=>match ds with
 | [.d ws,.i nx,.i en,.i er,.i pa,.i dp]=>some ({val:=.one (.agg [.c (.int .i64 (.sym ((wsm P en ws dp (mR nx pa er)).1).k)),.c (.int .i64 (.sym ((wsm P en ws dp (mR nx pa er)).1).n)),.c (.raw (.string ((wsm P en ws dp (mR nx pa er)).1).s)),.c (.osl 24 0 (.lit 0) (.sym ((wsm P en ws dp (mR nx pa er)).1).d.len))]),vc:=[aa ws nx,aH ws (mR nx pa er) dp,left ws (mR nx pa er)<m],nw:=[(0,.orow 24 (wsm P en ws dp (mR nx pa er)).1.d)]},[.c (.rows 132 ws),.c (.int .i64 (.sym (((wsm P en ws dp (mR nx pa er)).2).nx))),.c (.int .i64 (.sym en)),.c (.int .i64 (.sym (((wsm P en ws dp (mR nx pa er)).2).er))),.c (.int .i64 (.sym (((wsm P en ws dp (mR nx pa er)).2).pa)))])
 |_=>none
noncomputable def Ag (P:PF) (m:Nat):Con:=ba 92 [.c (.rows 132),.c (.int .i64),.c (.int .i64),.c (.int .i64),.c (.int .i64)] [.sc (.int .i64)] (Af P m)
theorem Ah {P:PF} {m:Nat} (hP:ConOK Tryz.prog 95 (fE P m)) (hPa:∀ en ws dp,PaOK ws (P en ws dp)):ConOK Tryz.prog 56 (Ag P m):=by
 refine bk tt_ok au Tryz.func56 rfl (fun _ _=>by kernel_rfl) (A:=fun ds=>⟨fun _=>Cons.of [(84,(Ad P m))],fun _=>none,fun _=>none⟩) (fun _ _=>(af (Ix hP hPa) aq)) (by kernel_rfl) ?_
 intro ds;unfold Af;split
 ·rename_i ws nx en er pa dp;refine kmp (q:=ac (cQA (wpr P en ws dp) (kQ ws ((D.l [[D.s ⟨#[43]⟩],[D.s miB]]).sub 0 (0+2:Nat)) (4:Int)) ws (mR nx pa er)) fun Ea=>ac (wsm P en ws dp (mR nx pa er)) fun Eb=>ac (D.l [[D.s ⟨#[43]⟩],[D.s miB]]) fun Ec=>aa ws nx->aH ws (mR nx pa er) dp->left ws (mR nx pa er)<m->0+2<=Ec.len/\aa ws nx/\(4:Int)=4/\(Ec.sub 0 (0+2:Nat)).len<=10/\aH ws (mR nx pa er) dp/\left ws (mR nx pa er)<m/\Ea.fst.k=Eb.fst.k/\Ea.fst.n=Eb.fst.n/\Value.string Ea.fst.s=Value.string Eb.fst.s/\Ea.fst.d.len=Eb.fst.d.len/\ws.rows=ws.rows/\Ea.snd.nx=Eb.snd.nx/\en=en/\Ea.snd.er=Eb.snd.er/\Ea.snd.pa=Eb.snd.pa/\Ea.fst.d.rows=Eb.fst.d.rows) (by kernel_rfl) ?_
  dsimp +instances only [ac]
  intro h hd hl;refine ⟨(by decide),h,rfl,(by decide),hd,hl,?_⟩
  (repeat' (with_reducible apply And.intro))<;>first |with_reducible rfl |exact True.intro |assumption |(symm;assumption) |rfl
 ·trivial
noncomputable def Ai (P:PF) (m:Nat):List Dat->Option (Eff × List Seg):=fun ds=>match ds with
 | [.d ws,.i nx,.i en,.i er,.i pa,.i dp]=>some ({val:=.one (.agg [.c (.int .i64 (.sym ((rfB P en ws dp (mR nx pa er)).1).k)),.c (.int .i64 (.sym ((rfB P en ws dp (mR nx pa er)).1).n)),.c (.raw (.string ((rfB P en ws dp (mR nx pa er)).1).s)),.c (.osl 24 0 (.lit 0) (.sym ((rfB P en ws dp (mR nx pa er)).1).d.len))]),vc:=[aa ws nx,aH ws (mR nx pa er) dp,left ws (mR nx pa er)<m+1],nw:=[(0,.orow 24 (rfB P en ws dp (mR nx pa er)).1.d)]},[.c (.rows 132 ws),.c (.int .i64 (.sym (((rfB P en ws dp (mR nx pa er)).2).nx))),.c (.int .i64 (.sym en)),.c (.int .i64 (.sym (((rfB P en ws dp (mR nx pa er)).2).er))),.c (.int .i64 (.sym (((rfB P en ws dp (mR nx pa er)).2).pa)))])
 |_=>none
noncomputable def Iz (P:PF) (m:Nat):Con:=ba 92 [.c (.rows 132),.c (.int .i64),.c (.int .i64),.c (.int .i64),.c (.int .i64)] [.sc (.int .i64)] (Ai P m)
theorem IA {P:PF} {m:Nat} (hP:ConOK Tryz.prog 95 (fE P m)) (hPa:∀ en ws dp,PaOK ws (P en ws dp)):ConOK Tryz.prog 95 (Iz P m):=by
 refine bk tt_ok au Tryz.func95 rfl (fun _ _=>by kernel_rfl) (A:=fun ds=>⟨fun _=>Cons.of [(19,kV),(25,gM),(21,mX),(23,pK),(22,jD),(95,(fE P m)),(56,(Ag P m))],fun _=>none,fun _=>none⟩) (fun _ _=>(af mY (af iy (af pJ (af sY (af kP (af hP (af (Ah hP hPa) aq)))))))) (by kernel_rfl) ?_
 intro ds;unfold Ai;split
 ·rename_i ws nx en er pa dp;refine kmp (q:=ac (rfB P en ws dp (mR nx pa er)) fun Ea=>ac (mR (IntKind.i64.wrap (nx+1)) pa er) fun Eb=>ac (IntKind.i64.wrap (dp+1)) fun Ec=>ac (er==(0:Int)&&decide (nx<(ws.len:Int))&&(ws.el nx.toNat (0+0:Nat)).toI==2) fun Ed=>ac (muR ws en clB (wsm P en ws Ec Eb).snd) fun Ee=>ac (ffR ws en (6:Int) (mR nx pa er)) fun Ef=>ac (wnR ws en (2:Int) (mR nx pa er)) fun Eg=>ac (wnR ws en (1:Int) (mR nx pa er)) fun Eh=>ac (isB ws miB (mR nx pa er) ||isB ws opB (mR nx pa er)) fun Ei=>aa ws nx->aH ws (mR nx pa er) dp->left ws (mR nx pa er)<m+1->aa ws nx/\(isB ws miB (mR nx pa er)=false/\True->aa ws nx)/\(Ei=true->(decide (dp>=(24:Int))=true->aa ws nx/\(0:Int)=Ea.fst.k/\(0:Int)=Ea.fst.n/\Value.string ByteArray.empty=Value.string Ea.fst.s/\Ea.fst.d.len=0/\ws.rows=ws.rows/\Ef.nx=Ea.snd.nx/\en=en/\Ef.er=Ea.snd.er/\Ef.pa=Ea.snd.pa/\Ea.fst.d.rows=[])/\(decide (dp>=(24:Int))=false->aa ws nx/\(isB ws miB (mR nx pa er)=true->aa ws (IntKind.i64.wrap (nx+1))/\aH ws Eb Ec/\left ws Eb<m/\0+(P en ws Ec Eb).fst.d.len<=(P en ws Ec Eb).fst.d.len/\(3:Int)=Ea.fst.k/\(0:Int)=Ea.fst.n/\Value.string ByteArray.empty=Value.string Ea.fst.s/\1=Ea.fst.d.len/\ws.rows=ws.rows/\(P en ws Ec Eb).snd.nx=Ea.snd.nx/\en=en/\(P en ws Ec Eb).snd.er=Ea.snd.er/\(P en ws Ec Eb).snd.pa=Ea.snd.pa /\ [[D.i (P en ws Ec Eb).fst.k,D.i (P en ws Ec Eb).fst.n,D.s (P en ws Ec Eb).fst.s,(P en ws Ec Eb).fst.d.sub 0 ((0:Nat)+(P en ws Ec Eb).fst.d.len)]]=Ea.fst.d.rows)/\(isB ws miB (mR nx pa er)=false->aa ws (IntKind.i64.wrap (nx+1))/\aH ws Eb Ec/\left ws Eb<m/\aa ws (wsm P en ws Ec Eb).snd.nx/\(wsm P en ws Ec Eb).fst.k=Ea.fst.k/\(wsm P en ws Ec Eb).fst.n=Ea.fst.n/\Value.string (wsm P en ws Ec Eb).fst.s=Value.string Ea.fst.s/\(wsm P en ws Ec Eb).fst.d.len=Ea.fst.d.len/\ws.rows=ws.rows/\Ee.nx=Ea.snd.nx/\en=en/\Ee.er=Ea.snd.er/\Ee.pa=Ea.snd.pa/\(wsm P en ws Ec Eb).fst.d.rows=Ea.fst.d.rows)))/\(Ei=false->((er==(0:Int)&&decide (nx<(ws.len:Int)))=true/\True->(0:Int)<=nx/\nx<(ws.len:Int))/\(Ed=true->aa ws nx/\(1:Int)=Ea.fst.k/\wnN ws (mR nx pa er)=Ea.fst.n/\Value.string ByteArray.empty=Value.string Ea.fst.s/\Ea.fst.d.len=0/\ws.rows=ws.rows/\Eg.nx=Ea.snd.nx/\en=en/\Eg.er=Ea.snd.er/\Eg.pa=Ea.snd.pa/\Ea.fst.d.rows=[])/\(Ed=false->aa ws nx/\(2:Int)=Ea.fst.k/\(0:Int)=Ea.fst.n/\Value.string (wnS ws (mR nx pa er))=Value.string Ea.fst.s/\Ea.fst.d.len=0/\ws.rows=ws.rows/\Eh.nx=Ea.snd.nx/\en=en/\Eh.er=Ea.snd.er/\Eh.pa=Ea.snd.pa/\Ea.fst.d.rows=[]))) (by kernel_rfl) ?_
  dsimp +instances only [ac]
  intro h hd hl;have e1:IntKind.i64.wrap (dp+1)=dp+1:=wr1 hd.1 (by have:=hd.2;omega);simp only[e1,bu];refine ⟨h,fun _=>h,fun hb=>?_,fun hb=>?_⟩
  ·have hb2:isB ws miB (mR nx pa er)=true ∨ isB ws opB (mR nx pa er)=true:=by simpa using hb
   have hlt:nx<ws.len:=by rcases hb2 with hb |hb<;>exact (bw hb).2
   rw[nx1 h hlt];have e3:mR (nx+1) pa er=gx (mR nx pa er):=rfl;rw[e3];obtain ⟨g1,g2⟩:=c9 (r:=mR nx pa er) h hlt;refine ⟨fun hq=>?_,fun hq=>⟨h,fun hm=>?_,fun hm=>?_⟩⟩
   ·have e:rfB P en ws dp (mR nx pa er)=(X00,ffR ws en 6 (mR nx pa er)):=(if_pos hb2).trans (if_pos (of_decide_eq_true hq));rw[e]
    (repeat' (with_reducible apply And.intro))<;>first |with_reducible rfl |exact True.intro |assumption |(symm;assumption) |rfl
   ·have hq:=of_decide_eq_false hq;have e:rfB P en ws dp (mR nx pa er)=(⟨3,0,ByteArray.empty,.l [(P en ws (dp+1) (gx (mR nx pa er))).1.row]⟩,(P en ws (dp+1) (gx (mR nx pa er))).2):=(if_pos hb2).trans ((if_neg (by omega)).trans (if_pos hm));rw[e];have d1:aH ws (gx (mR nx pa er)) (dp+1):=⟨by have:=hd.1;omega,by have:=hd.2;omega⟩;exact ⟨g1,d1,by omega,Nat.le_of_eq (Nat.zero_add _),(by (repeat' (with_reducible apply And.intro))<;>first |with_reducible rfl |exact True.intro |assumption |(symm;assumption) |rfl)⟩
   ·have hq:=of_decide_eq_false hq;have e:rfB P en ws dp (mR nx pa er)=((wsm P en ws (dp+1) (gx (mR nx pa er))).1,muR ws en clB (wsm P en ws (dp+1) (gx (mR nx pa er))).2):=(if_pos hb2).trans ((if_neg (by omega)).trans (if_neg (by rw[hm];decide)));rw[e];have d1:aH ws (gx (mR nx pa er)) (dp+1):=⟨by have:=hd.1;omega,by have:=hd.2;omega⟩;have u:=(s7 hPa en ws (dp+1)).up _ g1;exact ⟨g1,d1,by omega,u.2.1,(by (repeat' (with_reducible apply And.intro))<;>first |with_reducible rfl |exact True.intro |assumption |(symm;assumption) |rfl)⟩
  ·have hb2:¬ (isB ws miB (mR nx pa er)=true ∨ isB ws opB (mR nx pa er)=true):=by
    intro hx;simp only[Bool.or_eq_false_iff] at hb
    rcases hx with hx |hx
    ·rw[hb.1] at hx;cases hx
    ·rw[hb.2] at hx;cases hx
   rw[s8];refine ⟨fun hc=>⟨h.1,?_⟩,fun hc=>?_,fun hc=>?_⟩
   ·have:=hc.1;simp only[Bool.and_eq_true] at this;exact of_decide_eq_true this.2
   ·have e:rfB P en ws dp (mR nx pa er)=(⟨1,wnN ws (mR nx pa er),ByteArray.empty,.l []⟩,wnR ws en 2 (mR nx pa er)):=(if_neg hb2).trans (if_pos hc);rw[e]
    (repeat' (with_reducible apply And.intro))<;>first |with_reducible rfl |exact True.intro |assumption |(symm;assumption) |rfl
   ·have e:rfB P en ws dp (mR nx pa er)=(⟨2,0,wnS ws (mR nx pa er),.l []⟩,wnR ws en 1 (mR nx pa er)):=(if_neg hb2).trans (if_neg (by rw[hc];decide));rw[e]
    (repeat' (with_reducible apply And.intro))<;>first |with_reducible rfl |exact True.intro |assumption |(symm;assumption) |rfl
 ·trivial
def wfR:Nat->PF
 | 0=>fun _ _ _ r=>(⟨0,0,ByteArray.empty,.l []⟩,r)
 |m+1=>rfB (wfR m)
theorem gi:∀ (m:Nat) (en:Int) (ws:D) (dp:Int),PaOK ws (wfR m en ws dp)
 | 0,_,_,_=>⟨fun _ h=>⟨Int.le_refl _,h,Nat.zero_le _⟩⟩
 |m+1,en,ws,dp=>Iy (gi m) en ws dp
theorem IB {F:PF}:ConOK Tryz.prog 95 (fE F 0):=by
 refine ⟨fun _ _=>by kernel_rfl,fun hp fr args e he hv=>?_,fun hp fr caps e h=>by cases h⟩;exfalso;obtain ⟨ds,e1,sg,ps1,ps2,hs,hvc,_⟩:=oZ he;rw[hvc] at hv;obtain ⟨_,hv⟩:=all_append.1 hv;obtain ⟨_,hv⟩:=all_append.1 hv;unfold z7 at hs
 split at hs
 ·simp only[Option.some.injEq,Prod.mk.injEq] at hs;obtain ⟨rfl,rfl⟩:=hs;exact Nat.not_lt_zero _ hv.2.2.1
 ·cases hs
theorem Aj:∀ m,ConOK Tryz.prog 95 (fE (wfR m) m)
 | 0=>IB
 |m+1=>IA (P:=wfR m) (m:=m) (Aj m) (gi m)
def wsX:PF:=wsm (wfR 1000001)
theorem Ak:ConOK Tryz.prog 56 (fE wsX 1000001):=Ah (Aj 1000001) (gi 1000001)
theorem mZ (en:Int) (ws:D) (dp:Int):PaOK ws (wsX en ws dp):=s7 (gi 1000001) en ws dp
attribute [irreducible] wsX
end Go.Proofs.YtbhbjhejkamlnaaGreat.Sx.Z
