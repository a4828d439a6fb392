import Derived.Test.YtbhbjhejkamlnaaGreatZu18
set_option linter.unusedVariables false
set_option linter.unusedSimpArgs false
namespace Go.Proofs.YtbhbjhejkamlnaaGreat.Sx.Z
open Go.RowKit
def obB:ByteArray:=⟨#[123]⟩
def cbB:ByteArray:=⟨#[125]⟩
def kwF:ByteArray:=⟨#[105,102]⟩
def kwL:ByteArray:=⟨#[101,108,115,101]⟩
def kwW:ByteArray:=⟨#[119,104,105,108,101]⟩
def kwR:ByteArray:=⟨#[114,101,99,118]⟩
def X00:Xp:=⟨0,0,ByteArray.empty,.l []⟩
def C00:Cd:=⟨0,X00,X00⟩
structure St where
 k:Int
 nm:ByteArray
 tg:ByteArray
 e:Xp
 c:Cd
 b:D
 el:D
 ar:D
def St.row (s:St):List D:=[.i s.k,.s s.nm,.s s.tg,.i s.e.k,.i s.e.n,.s s.e.s,.l s.e.d.rows,.i s.c.op,.i s.c.l.k,.i s.c.l.n,.s s.c.l.s,.l s.c.l.d.rows,.i s.c.r.k,.i s.c.r.n,.s s.c.r.s,.l s.c.r.d.rows,.l s.b.rows,.l s.el.rows,.l s.ar.rows]
structure Am where
 tg:ByteArray
 vr:ByteArray
 b:D
def Am.row (a:Am):List D:=[.s a.tg,.s a.vr,.l a.b.rows]
abbrev PB:=Int->D->Int->Rd->D × Rd
structure PbOK (ws:D) (P:Rd->D × Rd):Prop where
 up:∀ r,rdOK ws r.nx->r.nx<=(P r).2.nx/\rdOK ws (P r).2.nx
def dqOK (ws:D) (r:Rd) (dp:Int):Prop:=0<=dp/\dp+1+(left ws r:Int)<=2000000
def blF (P:PB):PB:=fun en ws dp r=>((P en ws (dp+1) (neR ws en obB dp r)).1,exR ws en cbB (P en ws (dp+1) (neR ws en obB dp r)).2)
theorem neR_up {ws:D} {en dp:Int} {t:ByteArray} {r:Rd} (h:rdOK ws r.nx) (ht:0<t.size):rdOK ws (neR ws en t dp r).nx/\r.nx<=(neR ws en t dp r).nx:=by
 cases ha:acB ws r.nx t with
 |true=>
  have:=ne_up (en:=en) (dp:=dp) h ht ha;exact ⟨this.1,this.2.2⟩
 |false=>
  have e:neR ws en t dp r=fl ws en 5 r:=by
   unfold neR;rw [if_neg (fun hx=>by rw [ha] at hx;exact Bool.false_ne_true hx.1),exR_no ha]
  rw [e];exact fl_up en 5 h
theorem blF_up {P:PB} {ws:D} {en:Int} (hPa:∀ dp,PbOK ws (P en ws dp)) {dp:Int} {r:Rd} (h:rdOK ws r.nx):rdOK ws (neR ws en obB dp r).nx/\r.nx<=(neR ws en obB dp r).nx/\rdOK ws (P en ws (dp+1) (neR ws en obB dp r)).2.nx/\rdOK ws (blF P en ws dp r).2.nx/\r.nx<=(blF P en ws dp r).2.nx:=by
 have a:=neR_up (en:=en) (dp:=dp) (t:=obB) h (by decide)
 have b:=(hPa (dp+1)).up _ a.1;have c:=ex_up en (t:=cbB) b.2 (by decide)
 exact ⟨a.1,a.2,b.2,c.1,Int.le_trans a.2 (Int.le_trans b.1 c.2)⟩
theorem wr1 {dp:Int} (h:0<=dp) (h2:dp<=2000000):IntKind.i64.wrap (dp+1)=dp+1:=by
 rw [IntWalk.i64_in _ (by omega)]
theorem dq_d {ws:D} {r q:Rd} {dp:Int} (h:dqOK ws r dp) (hn:r.nx<=q.nx):dpOK ws q (dp+1):=by
 obtain ⟨a,b⟩:=h;have:=left_le (ws:=ws) hn;exact ⟨by omega,by omega⟩
theorem dp_q {ws:D} {r q:Rd} {dp:Int} (h:dpOK ws r dp) (hr:rdOK ws r.nx) (hl:r.nx<ws.len) (hn:r.nx<q.nx):dqOK ws q dp/\left ws q<left ws r:=by
 obtain ⟨a,b⟩:=h;obtain ⟨c,d,e⟩:=hr;have:left ws q+1<=left ws r:=by unfold left;omega
 exact ⟨⟨a,by omega⟩,by omega⟩
theorem ex_lt {ws:D} (en:Int) {t:ByteArray} {r:Rd} (hl:r.nx<ws.len):r.nx<(exR ws en t r).nx:=by
 cases ha:acB ws r.nx t with
 |true=>
  rw [exR_yes ha];exact Int.lt_succ _
 |false=>
  rw [exR_no ha,fl_nx];exact hl
theorem ac_up {ws:D} {t:ByteArray} {r:Rd} (h:rdOK ws r.nx) (ht:0<t.size):rdOK ws (acR ws t r).nx/\r.nx<=(acR ws t r).nx:=by
 cases ha:acB ws r.nx t with
 |true=>
  rw [acR_yes ha];exact gx_up h (ac_lt ht ha)
 |false=>
  rw [acR_no ha];exact ⟨h,Int.le_refl _⟩
noncomputable def stmS (P:PB) (m:Nat):List Dat->Option (Eff × List Seg):=fun ds=>match ds with
 | [.d ws,.i nx,.i en,.i pa,.i er,.i dp]=>some ({val:=.one (.sc (.osl 80 (0) (.lit 0) (.sym ((P en ws dp (mR nx pa er)).1.len)))),vc:=[rdOK ws nx,dpOK ws (mR nx pa er) dp,left ws (mR nx pa er)<m],nw:=[(0,.orow 80 ((P en ws dp (mR nx pa er)).1))]},[.c (.rows 124 ws),.c (.int .i64 (.sym ((((P en ws dp (mR nx pa er)).2)).nx))),.c (.int .i64 (.sym en)),.c (.int .i64 (.sym ((((P en ws dp (mR nx pa er)).2)).pa))),.c (.int .i64 (.sym ((((P en ws dp (mR nx pa er)).2)).er)))])
 |_=>none
noncomputable def stmC (P:PB) (m:Nat):Con:=conM 85 [.c (.rows 124),.c (.int .i64),.c (.int .i64),.c (.int .i64),.c (.int .i64)] [.sc (.int .i64)] (stmS P m)
def cfA (P:PB) (en:Int) (ws:D) (dp:Int) (r:Rd):D × Rd:=blF P en ws dp (cdR ws en (exR ws en kwF r))
def cfB (P:PB) (en:Int) (ws:D) (dp:Int) (r:Rd):D × Rd:=if acB ws (cfA P en ws dp r).2.nx kwL=true then blF P en ws dp (acR ws kwL (cfA P en ws dp r).2) else (.l [],acR ws kwL (cfA P en ws dp r).2)
def cfS (P:PB) (en:Int) (ws:D) (dp:Int) (r:Rd):St:=⟨2,ByteArray.empty,ByteArray.empty,X00,cdC ws en (exR ws en kwF r),(cfA P en ws dp r).1,(cfB P en ws dp r).1,.l []⟩
def lpA (P:PB) (en:Int) (ws:D) (dp:Int) (r:Rd):D × Rd:=blF P en ws dp (cdR ws en (exR ws en kwW r))
def lpS (P:PB) (en:Int) (ws:D) (dp:Int) (r:Rd):St:=⟨3,ByteArray.empty,ByteArray.empty,X00,cdC ws en (exR ws en kwW r),(lpA P en ws dp r).1,.l [],.l []⟩
def amX (en:Int) (ws:D) (r:Rd):Rd:=nmR ws en (exR ws en opB (nmR ws en r))
def amA (P:PB) (en:Int) (ws:D) (dp:Int) (r:Rd):D × Rd:=blF P en ws dp (exR ws en clB (amX en ws r))
def amS (P:PB) (en:Int) (ws:D) (dp:Int) (r:Rd):Am:=⟨nmS ws r,nmS ws (exR ws en opB (nmR ws en r)),(amA P en ws dp r).1⟩
theorem dq_le {ws:D} {r q:Rd} {dp:Int} (h:dqOK ws r dp) (hn:r.nx<=q.nx):dqOK ws q dp:=by
 obtain ⟨a,b⟩:=h;have:=left_le (ws:=ws) hn;exact ⟨a,by omega⟩
noncomputable def blkS (P:PB) (m:Nat):List Dat->Option (Eff × List Seg):=fun ds=>match ds with
 | [.d ws,.i nx,.i en,.i pa,.i er,.i dp]=>some ({val:=.one (.sc (.osl 80 (0) (.lit 0) (.sym ((blF P en ws dp (mR nx pa er)).1.len)))),vc:=[rdOK ws nx,dqOK ws (mR nx pa er) dp,left ws (mR nx pa er)<m],nw:=[(0,.orow 80 ((blF P en ws dp (mR nx pa er)).1))]},[.c (.rows 124 ws),.c (.int .i64 (.sym ((((blF P en ws dp (mR nx pa er)).2)).nx))),.c (.int .i64 (.sym en)),.c (.int .i64 (.sym ((((blF P en ws dp (mR nx pa er)).2)).pa))),.c (.int .i64 (.sym ((((blF P en ws dp (mR nx pa er)).2)).er)))])
 |_=>none
noncomputable def blkC (P:PB) (m:Nat):Con:=conM 85 [.c (.rows 124),.c (.int .i64),.c (.int .i64),.c (.int .i64),.c (.int .i64)] [.sc (.int .i64)] (blkS P m)
theorem blk_ok {P:PB} {m:Nat} (hP:ConOK Tryz.prog 81 (stmC P m)) (hPa:∀ en ws dp,PbOK ws (P en ws dp)):ConOK Tryz.prog 101 (blkC P m):=by
 refine fn_obM tt_ok mixed Tryz.func101 rfl (fun _ _=>by kernel_rfl) (A:=fun ds=>⟨fun _=>Cons.of [(107,nstC),(81,(stmC P m)),(80,expC)],fun _=>none,fun _=>none⟩) (fun _ _=>(cons_cons nst_ok (cons_cons hP (cons_cons exp_ok cons_nil)))) (by kernel_rfl) ?_
 intro ds;unfold blkS;split
 ·rename_i ws nx en pa er dp;refine kmp (q:=withv (P en ws (IntKind.i64.wrap (dp+1)) (neR ws en (ByteArray.mk #[123]) dp (mR nx pa er))) fun E52=>withv (neR ws en (ByteArray.mk #[123]) dp (mR nx pa er)) fun E53=>withv (blF P en ws dp (mR nx pa er)) fun E54=>withv (exR ws en (ByteArray.mk #[125]) E52.snd) fun E55=>rdOK ws nx->dqOK ws (mR nx pa er) dp->left ws (mR nx pa er)<m->rdOK ws nx/\0<(ByteArray.mk #[123]).size/\rdOK ws E53.nx/\dpOK ws E53 (IntKind.i64.wrap (dp+1))/\left ws E53<m/\rdOK ws E52.snd.nx/\0<(ByteArray.mk #[125]).size/\E52.fst.len=E54.fst.len/\ws.rows=ws.rows/\E55.nx=E54.snd.nx/\en=en/\E55.pa=E54.snd.pa/\E55.er=E54.snd.er/\E52.fst.rows=E54.fst.rows) (by kernel_rfl) ?_
  dsimp +instances only [withv]
  intro h hd hl;have e1:IntKind.i64.wrap (dp+1)=dp+1:=wr1 hd.1 (by have:=hd.2;omega)
  simp only [e1];obtain ⟨a,b,c,d,e⟩:=blF_up (hPa en ws) (dp:=dp) (r:=mR nx pa er) h;have f:=dq_d (q:=neR ws en obB dp (mR nx pa er)) hd b;have g:left ws (neR ws en obB dp (mR nx pa er))<m:=Nat.lt_of_le_of_lt (left_le b) hl
  (repeat' (with_reducible apply And.intro))<;>first |with_reducible rfl |exact True.intro |with_reducible assumption |decide |assumption |rfl
 ·trivial
noncomputable def choS (P:PB) (m:Nat):List Dat->Option (Eff × List Seg):=fun ds=>match ds with
 | [.d ws,.i nx,.i en,.i pa,.i er,.i dp]=>some ({val:=.one (.agg [.c (.int .i64 (.sym ((cfS P en ws dp (mR nx pa er))).k)),.c (.raw (.string ((cfS P en ws dp (mR nx pa er))).nm)),.c (.raw (.string ((cfS P en ws dp (mR nx pa er))).tg)),.c (.int .i64 (.sym (((cfS P en ws dp (mR nx pa er))).e).k)),.c (.int .i64 (.sym (((cfS P en ws dp (mR nx pa er))).e).n)),.c (.raw (.string (((cfS P en ws dp (mR nx pa er))).e).s)),.c (.osl 75 0 (.lit 0) (.sym (((cfS P en ws dp (mR nx pa er))).e).d.len)),.c (.int .i64 (.sym ((cfS P en ws dp (mR nx pa er))).c.op)),.c (.int .i64 (.sym (((cfS P en ws dp (mR nx pa er))).c.l).k)),.c (.int .i64 (.sym (((cfS P en ws dp (mR nx pa er))).c.l).n)),.c (.raw (.string (((cfS P en ws dp (mR nx pa er))).c.l).s)),.c (.osl 75 1 (.lit 0) (.sym (((cfS P en ws dp (mR nx pa er))).c.l).d.len)),.c (.int .i64 (.sym (((cfS P en ws dp (mR nx pa er))).c.r).k)),.c (.int .i64 (.sym (((cfS P en ws dp (mR nx pa er))).c.r).n)),.c (.raw (.string (((cfS P en ws dp (mR nx pa er))).c.r).s)),.c (.osl 75 2 (.lit 0) (.sym (((cfS P en ws dp (mR nx pa er))).c.r).d.len)),.c (.osl 80 3 (.lit 0) (.sym ((cfS P en ws dp (mR nx pa er))).b.len)),.c (.osl 80 4 (.lit 0) (.sym ((cfS P en ws dp (mR nx pa er))).el.len)),.c (.osl 141 5 (.lit 0) (.sym ((cfS P en ws dp (mR nx pa er))).ar.len))]),vc:=[rdOK ws nx,dpOK ws (mR nx pa er) dp,left ws (mR nx pa er)<m+1,(mR nx pa er).nx<ws.len],nw:=[(0,.orow 75 ((cfS P en ws dp (mR nx pa er))).e.d),(1,.orow 75 ((cfS P en ws dp (mR nx pa er))).c.l.d),(2,.orow 75 ((cfS P en ws dp (mR nx pa er))).c.r.d),(3,.orow 80 ((cfS P en ws dp (mR nx pa er))).b),(4,.orow 80 ((cfS P en ws dp (mR nx pa er))).el),(5,.orow 141 ((cfS P en ws dp (mR nx pa er))).ar)]},[.c (.rows 124 ws),.c (.int .i64 (.sym ((((cfB P en ws dp (mR nx pa er)).2)).nx))),.c (.int .i64 (.sym en)),.c (.int .i64 (.sym ((((cfB P en ws dp (mR nx pa er)).2)).pa))),.c (.int .i64 (.sym ((((cfB P en ws dp (mR nx pa er)).2)).er)))])
 |_=>none
noncomputable def choC (P:PB) (m:Nat):Con:=conM 85 [.c (.rows 124),.c (.int .i64),.c (.int .i64),.c (.int .i64),.c (.int .i64)] [.sc (.int .i64)] (choS P m)
theorem cho_ok {P:PB} {m:Nat} (hP:ConOK Tryz.prog 81 (stmC P m)) (hPa:∀ en ws dp,PbOK ws (P en ws dp)):ConOK Tryz.prog 88 (choC P m):=by
 refine fn_obM tt_ok mixed Tryz.func88 rfl (fun _ _=>by kernel_rfl) (A:=fun ds=>⟨fun _=>Cons.of [(101,(blkC P m)),(100,cndC),(80,expC),(45,accC)],fun _=>none,fun _=>none⟩) (fun _ _=>(cons_cons (blk_ok hP hPa) (cons_cons cnd_ok (cons_cons exp_ok (cons_cons acc_ok cons_nil))))) (by kernel_rfl) ?_
 intro ds;unfold choS;split
 ·rename_i ws nx en pa er dp;refine kmp (q:=withv (exR ws en (ByteArray.mk #[105,102]) (mR nx pa er)) fun E56=>withv (cfS P en ws dp (mR nx pa er)) fun E57=>withv (acR ws (ByteArray.mk #[101,108,115,101]) (blF P en ws dp (cdR ws en E56)).snd) fun E58=>withv (blF P en ws dp (acR ws {data:=#[(101:UInt8),(108:UInt8),(115:UInt8),(101:UInt8)]} (blF P en ws dp (cdR ws en E56)).snd)) fun E59=>withv (blF P en ws dp (cdR ws en E56)) fun E60=>withv (cfB P en ws dp (mR nx pa er)) fun E61=>rdOK ws nx->dpOK ws (mR nx pa er) dp->left ws (mR nx pa er)<m+1->(mR nx pa er).nx<(ws.len:Int)->rdOK ws nx/\0<(ByteArray.mk #[105,102]).size/\rdOK ws E56.nx/\rdOK ws (cdR ws en E56).nx/\dqOK ws (cdR ws en E56) dp/\left ws (cdR ws en E56)<m/\rdOK ws E60.snd.nx/\0<(ByteArray.mk #[101,108,115,101]).size/\(acB ws E60.snd.nx (ByteArray.mk #[101,108,115,101])=true->rdOK ws E58.nx/\dqOK ws E58 dp/\left ws E58<m/\(2:Int)=E57.k/\Value.string ByteArray.empty=Value.string E57.nm/\Value.string ByteArray.empty=Value.string E57.tg/\(0:Int)=E57.e.k/\(0:Int)=E57.e.n/\Value.string ByteArray.empty=Value.string E57.e.s/\E57.e.d.len=0/\(cdC ws en E56).op=E57.c.op/\(cdC ws en E56).l.k=E57.c.l.k/\(cdC ws en E56).l.n=E57.c.l.n/\Value.string (cdC ws en E56).l.s=Value.string E57.c.l.s/\(cdC ws en E56).l.d.len=E57.c.l.d.len/\(cdC ws en E56).r.k=E57.c.r.k/\(cdC ws en E56).r.n=E57.c.r.n/\Value.string (cdC ws en E56).r.s=Value.string E57.c.r.s/\(cdC ws en E56).r.d.len=E57.c.r.d.len/\E60.fst.len=E57.b.len/\(blF P en ws dp E58).fst.len=E57.el.len/\E57.ar.len=0/\ws.rows=ws.rows/\(blF P en ws dp E58).snd.nx=E61.snd.nx/\en=en/\E59.snd.pa=E61.snd.pa/\E59.snd.er=E61.snd.er/\([]:List (List D))=[]/\(cdC ws en E56).l.d.rows=E57.c.l.d.rows/\(cdC ws en E56).r.d.rows=E57.c.r.d.rows/\E60.fst.rows=E57.b.rows/\E59.fst.rows=E57.el.rows/\([]:List (List D))=[])/\(acB ws E60.snd.nx (ByteArray.mk #[101,108,115,101])=false->(2:Int)=E57.k/\Value.string ByteArray.empty=Value.string E57.nm/\Value.string ByteArray.empty=Value.string E57.tg/\(0:Int)=E57.e.k/\(0:Int)=E57.e.n/\Value.string ByteArray.empty=Value.string E57.e.s/\E57.e.d.len=0/\(cdC ws en E56).op=E57.c.op/\(cdC ws en E56).l.k=E57.c.l.k/\(cdC ws en E56).l.n=E57.c.l.n/\Value.string (cdC ws en E56).l.s=Value.string E57.c.l.s/\(cdC ws en E56).l.d.len=E57.c.l.d.len/\(cdC ws en E56).r.k=E57.c.r.k/\(cdC ws en E56).r.n=E57.c.r.n/\Value.string (cdC ws en E56).r.s=Value.string E57.c.r.s/\(cdC ws en E56).r.d.len=E57.c.r.d.len/\E60.fst.len=E57.b.len/\E57.el.len=0/\E57.ar.len=0/\ws.rows=ws.rows/\E58.nx=E61.snd.nx/\en=en/\E58.pa=E61.snd.pa/\E58.er=E61.snd.er/\([]:List (List D))=[]/\(cdC ws en E56).l.d.rows=E57.c.l.d.rows/\(cdC ws en E56).r.d.rows=E57.c.r.d.rows/\E60.fst.rows=E57.b.rows/\E57.el.rows=[]/\([]:List (List D))=[])) (by kernel_rfl) ?_
  dsimp +instances only [withv]
  intro h hd hl hn;have a0:=(ex_up en (t:=kwF) (r:=mR nx pa er) h (by decide)).1
  obtain ⟨_,_,_,_,a5,a6⟩:=cd_up en a0;obtain ⟨b1,b2,b3,b4,b5⟩:=blF_up (hPa en ws) (dp:=dp) a5;have q1:=dp_q hd h hn (Int.lt_of_lt_of_le (ex_lt en hn) a6);have q2:=q1.1;have q3:left ws (cdR ws en (exR ws en kwF (mR nx pa er)))<m:=by have:=q1.2;omega
  have c1:=ac_up (t:=kwL) b4 (by decide)
  have c2:=Int.le_trans b5 c1.2;have c3:=c1.1;have d1:=dq_le q2 c2;have d2:=Nat.lt_of_le_of_lt (left_le (ws:=ws) c2) q3;obtain ⟨d3,d4,d5,d6,d7⟩:=blF_up (hPa en ws) (dp:=dp) c1.1;refine ⟨h,by decide,a0,a5,q2,q3,b4,by decide,fun hc=>?_,fun hc=>?_⟩
  ·have e1:cfB P en ws dp (mR nx pa er)=blF P en ws dp (acR ws kwL (cfA P en ws dp (mR nx pa er)).2):=if_pos hc;simp only [cfS,e1]
   (repeat' (with_reducible apply And.intro))<;>first |with_reducible rfl |exact True.intro |with_reducible assumption |decide |assumption |rfl
  ·have e1:cfB P en ws dp (mR nx pa er)=(.l [],acR ws kwL (cfA P en ws dp (mR nx pa er)).2):=if_neg (by rw [show acB ws (cfA P en ws dp (mR nx pa er)).2.nx kwL=false from hc];decide)
   simp only [cfS,e1]
   (repeat' (with_reducible apply And.intro))<;>first |with_reducible rfl |exact True.intro |with_reducible assumption |decide |assumption |rfl
 ·trivial
noncomputable def lopS (P:PB) (m:Nat):List Dat->Option (Eff × List Seg):=fun ds=>match ds with
 | [.d ws,.i nx,.i en,.i pa,.i er,.i dp]=>some ({val:=.one (.agg [.c (.int .i64 (.sym ((lpS P en ws dp (mR nx pa er))).k)),.c (.raw (.string ((lpS P en ws dp (mR nx pa er))).nm)),.c (.raw (.string ((lpS P en ws dp (mR nx pa er))).tg)),.c (.int .i64 (.sym (((lpS P en ws dp (mR nx pa er))).e).k)),.c (.int .i64 (.sym (((lpS P en ws dp (mR nx pa er))).e).n)),.c (.raw (.string (((lpS P en ws dp (mR nx pa er))).e).s)),.c (.osl 75 0 (.lit 0) (.sym (((lpS P en ws dp (mR nx pa er))).e).d.len)),.c (.int .i64 (.sym ((lpS P en ws dp (mR nx pa er))).c.op)),.c (.int .i64 (.sym (((lpS P en ws dp (mR nx pa er))).c.l).k)),.c (.int .i64 (.sym (((lpS P en ws dp (mR nx pa er))).c.l).n)),.c (.raw (.string (((lpS P en ws dp (mR nx pa er))).c.l).s)),.c (.osl 75 1 (.lit 0) (.sym (((lpS P en ws dp (mR nx pa er))).c.l).d.len)),.c (.int .i64 (.sym (((lpS P en ws dp (mR nx pa er))).c.r).k)),.c (.int .i64 (.sym (((lpS P en ws dp (mR nx pa er))).c.r).n)),.c (.raw (.string (((lpS P en ws dp (mR nx pa er))).c.r).s)),.c (.osl 75 2 (.lit 0) (.sym (((lpS P en ws dp (mR nx pa er))).c.r).d.len)),.c (.osl 80 3 (.lit 0) (.sym ((lpS P en ws dp (mR nx pa er))).b.len)),.c (.osl 80 4 (.lit 0) (.sym ((lpS P en ws dp (mR nx pa er))).el.len)),.c (.osl 141 5 (.lit 0) (.sym ((lpS P en ws dp (mR nx pa er))).ar.len))]),vc:=[rdOK ws nx,dpOK ws (mR nx pa er) dp,left ws (mR nx pa er)<m+1,(mR nx pa er).nx<ws.len],nw:=[(0,.orow 75 ((lpS P en ws dp (mR nx pa er))).e.d),(1,.orow 75 ((lpS P en ws dp (mR nx pa er))).c.l.d),(2,.orow 75 ((lpS P en ws dp (mR nx pa er))).c.r.d),(3,.orow 80 ((lpS P en ws dp (mR nx pa er))).b),(4,.orow 80 ((lpS P en ws dp (mR nx pa er))).el),(5,.orow 141 ((lpS P en ws dp (mR nx pa er))).ar)]},[.c (.rows 124 ws),.c (.int .i64 (.sym ((((lpA P en ws dp (mR nx pa er)).2)).nx))),.c (.int .i64 (.sym en)),.c (.int .i64 (.sym ((((lpA P en ws dp (mR nx pa er)).2)).pa))),.c (.int .i64 (.sym ((((lpA P en ws dp (mR nx pa er)).2)).er)))])
 |_=>none
noncomputable def lopC (P:PB) (m:Nat):Con:=conM 85 [.c (.rows 124),.c (.int .i64),.c (.int .i64),.c (.int .i64),.c (.int .i64)] [.sc (.int .i64)] (lopS P m)
theorem lop_ok {P:PB} {m:Nat} (hP:ConOK Tryz.prog 81 (stmC P m)) (hPa:∀ en ws dp,PbOK ws (P en ws dp)):ConOK Tryz.prog 89 (lopC P m):=by
 refine fn_obM tt_ok mixed Tryz.func89 rfl (fun _ _=>by kernel_rfl) (A:=fun ds=>⟨fun _=>Cons.of [(101,(blkC P m)),(100,cndC),(80,expC)],fun _=>none,fun _=>none⟩) (fun _ _=>(cons_cons (blk_ok hP hPa) (cons_cons cnd_ok (cons_cons exp_ok cons_nil)))) (by kernel_rfl) ?_
 intro ds;unfold lopS;split
 ·rename_i ws nx en pa er dp;refine kmp (q:=withv (exR ws en (ByteArray.mk #[119,104,105,108,101]) (mR nx pa er)) fun E62=>withv (lpS P en ws dp (mR nx pa er)) fun E63=>withv (exR ws en {data:=#[(119:UInt8),(104:UInt8),(105:UInt8),(108:UInt8),(101:UInt8)]} (mR nx pa er)) fun E64=>withv (blF P en ws dp (cdR ws en E64)) fun E65=>withv (lpA P en ws dp (mR nx pa er)) fun E66=>rdOK ws nx->dpOK ws (mR nx pa er) dp->left ws (mR nx pa er)<m+1->(mR nx pa er).nx<(ws.len:Int)->rdOK ws nx/\0<(ByteArray.mk #[119,104,105,108,101]).size/\rdOK ws E62.nx/\rdOK ws (cdR ws en E62).nx/\dqOK ws (cdR ws en E62) dp/\left ws (cdR ws en E62)<m/\(3:Int)=E63.k/\Value.string ByteArray.empty=Value.string E63.nm/\Value.string ByteArray.empty=Value.string E63.tg/\(0:Int)=E63.e.k/\(0:Int)=E63.e.n/\Value.string ByteArray.empty=Value.string E63.e.s/\E63.e.d.len=0/\(cdC ws en E62).op=E63.c.op/\(cdC ws en E62).l.k=E63.c.l.k/\(cdC ws en E62).l.n=E63.c.l.n/\Value.string (cdC ws en E62).l.s=Value.string E63.c.l.s/\(cdC ws en E62).l.d.len=E63.c.l.d.len/\(cdC ws en E62).r.k=E63.c.r.k/\(cdC ws en E62).r.n=E63.c.r.n/\Value.string (cdC ws en E62).r.s=Value.string E63.c.r.s/\(cdC ws en E62).r.d.len=E63.c.r.d.len/\(blF P en ws dp (cdR ws en E62)).fst.len=E63.b.len/\E63.el.len=0/\E63.ar.len=0/\ws.rows=ws.rows/\E65.snd.nx=E66.snd.nx/\en=en/\E65.snd.pa=E66.snd.pa/\E65.snd.er=E66.snd.er/\([]:List (List D))=[]/\(cdC ws en E64).l.d.rows=E63.c.l.d.rows/\(cdC ws en E64).r.d.rows=E63.c.r.d.rows/\E65.fst.rows=E63.b.rows/\([]:List (List D))=[]/\([]:List (List D))=[]) (by kernel_rfl) ?_
  dsimp +instances only [withv]
  intro h hd hl hn;have a0:=(ex_up en (t:=kwW) (r:=mR nx pa er) h (by decide)).1
  obtain ⟨_,_,_,_,a5,a6⟩:=cd_up en a0;obtain ⟨b1,b2,b3,b4,b5⟩:=blF_up (hPa en ws) (dp:=dp) a5;have q1:=dp_q hd h hn (Int.lt_of_lt_of_le (ex_lt en hn) a6);have q2:=q1.1;have q3:left ws (cdR ws en (exR ws en kwW (mR nx pa er)))<m:=by have:=q1.2;omega
  (repeat' (with_reducible apply And.intro))<;>first |with_reducible rfl |exact True.intro |with_reducible assumption |decide |assumption |rfl
 ·trivial
noncomputable def armS (P:PB) (m:Nat):List Dat->Option (Eff × List Seg):=fun ds=>match ds with
 | [.d ws,.i nx,.i en,.i pa,.i er,.i dp]=>some ({val:=.one (.agg [.c (.raw (.string (amS P en ws dp (mR nx pa er)).tg)),.c (.raw (.string (amS P en ws dp (mR nx pa er)).vr)),.c (.osl 80 0 (.lit 0) (.sym (amS P en ws dp (mR nx pa er)).b.len))]),vc:=[rdOK ws nx,dqOK ws (mR nx pa er) dp,left ws (mR nx pa er)<m],nw:=[(0,.orow 80 ((amS P en ws dp (mR nx pa er)).b))]},[.c (.rows 124 ws),.c (.int .i64 (.sym ((((amA P en ws dp (mR nx pa er)).2)).nx))),.c (.int .i64 (.sym en)),.c (.int .i64 (.sym ((((amA P en ws dp (mR nx pa er)).2)).pa))),.c (.int .i64 (.sym ((((amA P en ws dp (mR nx pa er)).2)).er)))])
 |_=>none
noncomputable def armC (P:PB) (m:Nat):Con:=conM 85 [.c (.rows 124),.c (.int .i64),.c (.int .i64),.c (.int .i64),.c (.int .i64)] [.sc (.int .i64)] (armS P m)
theorem arm_ok {P:PB} {m:Nat} (hP:ConOK Tryz.prog 81 (stmC P m)) (hPa:∀ en ws dp,PbOK ws (P en ws dp)):ConOK Tryz.prog 103 (armC P m):=by
 refine fn_obM tt_ok mixed Tryz.func103 rfl (fun _ _=>by kernel_rfl) (A:=fun ds=>⟨fun _=>Cons.of [(101,(blkC P m)),(77,namC),(80,expC)],fun _=>none,fun _=>none⟩) (fun _ _=>(cons_cons (blk_ok hP hPa) (cons_cons nam_ok (cons_cons exp_ok cons_nil)))) (by kernel_rfl) ?_
 intro ds;unfold armS;split
 ·rename_i ws nx en pa er dp;refine kmp (q:=withv (exR ws en (ByteArray.mk #[41]) (nmR ws en (exR ws en (ByteArray.mk #[40]) (nmR ws en (mR nx pa er))))) fun E67=>withv (exR ws en (ByteArray.mk #[40]) (nmR ws en (mR nx pa er))) fun E68=>withv (amS P en ws dp (mR nx pa er)) fun E69=>withv (amA P en ws dp (mR nx pa er)) fun E70=>rdOK ws nx->dqOK ws (mR nx pa er) dp->left ws (mR nx pa er)<m->rdOK ws nx/\rdOK ws (nmR ws en (mR nx pa er)).nx/\0<(ByteArray.mk #[40]).size/\rdOK ws E68.nx/\rdOK ws (nmR ws en E68).nx/\0<(ByteArray.mk #[41]).size/\rdOK ws E67.nx/\dqOK ws E67 dp/\left ws E67<m/\Value.string (nmS ws (mR nx pa er))=Value.string E69.tg/\Value.string (nmS ws E68)=Value.string E69.vr/\(blF P en ws dp E67).fst.len=E69.b.len/\ws.rows=ws.rows/\(blF P en ws dp E67).snd.nx=E70.snd.nx/\en=en/\(blF P en ws dp E67).snd.pa=E70.snd.pa/\(blF P en ws dp E67).snd.er=E70.snd.er/\(blF P en ws dp E67).fst.rows=E69.b.rows) (by kernel_rfl) ?_
  dsimp +instances only [withv]
  intro h hd hl;have a0:=nm_up en (r:=mR nx pa er) h;have a1:=ex_up en (t:=opB) a0.1 (by decide)
  have a2:=nm_up en a1.1;have a3:=ex_up en (t:=clB) a2.1 (by decide)
  have a4:=Int.le_trans a0.2 (Int.le_trans a1.2 (Int.le_trans a2.2 a3.2));have a5:=a0.1;have a6:=a1.1;have a7:=a2.1;have a8:=a3.1;have d1:=dq_le hd a4;have d2:=Nat.lt_of_le_of_lt (left_le (ws:=ws) a4) hl
  (repeat' (with_reducible apply And.intro))<;>first |with_reducible rfl |exact True.intro |with_reducible assumption |decide |assumption |rfl
 ·trivial
end Go.Proofs.YtbhbjhejkamlnaaGreat.Sx.Z
namespace Go.Proofs.YtbhbjhejkamlnaaGreat.Sx
def cellIdP (s:St) (t j:Nat):Nat:=match look s.hp (idOf s t) with |some (.own _ l)=>(match l[j]? with |some (.c (.osl _ id _ _))=>id |_=>0) |_=>0
end Go.Proofs.YtbhbjhejkamlnaaGreat.Sx
namespace Go.Proofs.YtbhbjhejkamlnaaGreat.Sx.Z
open Go.RowKit
def seqL (go:Rd->Bool) (F:Rd->List D × Rd):Nat->D->Rd->D × Rd
 | 0,d,r=>(d,r)
 |n+1,d,r=>if go r=true then seqL go F n (.l (d.rows++[(F r).1])) (F r).2 else (d,r)
def seqA (go:Rd->Bool) (F:Rd->List D × Rd) (ws d:D) (r:Rd):D × Rd:=seqL go F (left ws r) d r
structure SqOK (ws:D) (go:Rd->Bool) (F:Rd->List D × Rd):Prop where
 up:∀ r,rdOK ws r.nx->go r=true->rdOK ws (F r).2.nx/\r.nx<(F r).2.nx
theorem lt_left {ws:D} {r q:Rd} (h:rdOK ws q.nx) (h0:rdOK ws r.nx) (hl:r.nx<q.nx):left ws q<left ws r:=by
 obtain ⟨a,b,c⟩:=h;have:=h0.1;unfold left;omega
theorem seqL_end {go:Rd->Bool} {F:Rd->List D × Rd} {d:D} {r:Rd} (h:go r=false):∀ n,seqL go F n d r=(d,r)
 | 0=>rfl
 |n+1=>if_neg (by rw [h];decide)
theorem seqL_fuel {ws:D} {go:Rd->Bool} {F:Rd->List D × Rd} (hF:SqOK ws go F):∀ (n:Nat) (d:D) (r:Rd),rdOK ws r.nx->left ws r<=n->seqL go F n d r=seqL go F (left ws r) d r:=by
 intro n
 induction n using Nat.strongRecOn with
 |ind n ih=>
  intro d r h hl
  cases hg:go r with
  |false=>rw [seqL_end hg,seqL_end hg]
  |true=>
   obtain ⟨u1,u2⟩:=hF.up r h hg;have u3:=lt_left u1 h u2
   cases n with
   |zero=>omega
   |succ k=>
    obtain ⟨j,hj⟩:∃ j,left ws r=j+1:=⟨left ws r-1,by omega⟩
    rw [hj,seqL,if_pos hg,seqL,if_pos hg,ih k (by omega) _ _ u1 (by omega),ih j (by omega) _ _ u1 (by omega)]
theorem seq_end {ws:D} {go:Rd->Bool} {F:Rd->List D × Rd} {d:D} {r:Rd} (h:go r=false):seqA go F ws d r=(d,r):=seqL_end h _
theorem seq_step {ws:D} {go:Rd->Bool} {F:Rd->List D × Rd} (hF:SqOK ws go F) {d:D} {r:Rd} (h:rdOK ws r.nx) (hg:go r=true):seqA go F ws (.l (d.rows++[(F r).1])) (F r).2=seqA go F ws d r:=by
 obtain ⟨u1,u2⟩:=hF.up r h hg;have u3:=lt_left u1 h u2;obtain ⟨j,hj⟩:∃ j,left ws r=j+1:=⟨left ws r-1,by omega⟩
 unfold seqA;rw [hj,seqL,if_pos hg,seqL_fuel hF j _ _ u1 (by omega)]
theorem seqL_up {ws:D} {go:Rd->Bool} {F:Rd->List D × Rd} (hF:SqOK ws go F):∀ (n:Nat) (d:D) (r:Rd),rdOK ws r.nx->rdOK ws (seqL go F n d r).2.nx/\r.nx<=(seqL go F n d r).2.nx
 | 0,d,r,h=>⟨h,Int.le_refl _⟩
 |n+1,d,r,h=>by
  cases hg:go r with
  |false=>
   rw [seqL_end hg];exact ⟨h,Int.le_refl _⟩
  |true=>
   obtain ⟨u1,u2⟩:=hF.up r h hg;have:=seqL_up hF n (.l (d.rows++[(F r).1])) (F r).2 u1;rw [seqL,if_pos hg];exact ⟨this.1,by omega⟩
theorem seq_up {ws:D} {go:Rd->Bool} {F:Rd->List D × Rd} (hF:SqOK ws go F) (d:D) {r:Rd} (h:rdOK ws r.nx):rdOK ws (seqA go F ws d r).2.nx/\r.nx<=(seqA go F ws d r).2.nx:=seqL_up hF _ d r h
theorem ap_len (d:D) (x:List D):(D.l (d.rows++[x])).len=d.len+1:=by
 show (d.rows++[x]).length=d.rows.length+1;rw [List.length_append];rfl
def amG (ws:D) (r:Rd):Bool:=decide (pkK ws r.nx=1)
def amF (P:PB) (en:Int) (ws:D) (dp:Int) (r:Rd):List D × Rd:=((amS P en ws dp r).row,(amA P en ws dp r).2)
def rvX (en:Int) (ws:D) (r:Rd):Rd:=exR ws en obB (nmR ws en (exR ws en kwR r))
def rvA (P:PB) (en:Int) (ws:D) (dp:Int) (r:Rd):D × Rd:=seqA (amG ws) (amF P en ws dp) ws (.l [(amS P en ws dp (rvX en ws r)).row]) (amA P en ws dp (rvX en ws r)).2
def rvS (P:PB) (en:Int) (ws:D) (dp:Int) (r:Rd):St:=⟨5,nmS ws (exR ws en kwR r),ByteArray.empty,X00,C00,.l [],.l [],(rvA P en ws dp r).1⟩
def rvR (P:PB) (en:Int) (ws:D) (dp:Int) (r:Rd):Rd:=exR ws en cbB (rvA P en ws dp r).2
theorem am_up {P:PB} {ws:D} {en:Int} (hPa:∀ dp,PbOK ws (P en ws dp)) {dp:Int} {r:Rd} (h:rdOK ws r.nx):rdOK ws (amA P en ws dp r).2.nx/\r.nx<=(amA P en ws dp r).2.nx:=by
 have a0:=nm_up en h;have a1:=ex_up en (t:=opB) a0.1 (by decide)
 have a2:=nm_up en a1.1;have a3:=ex_up en (t:=clB) a2.1 (by decide)
 obtain ⟨b1,b2,b3,b4,b5⟩:=blF_up hPa (dp:=dp) a3.1;exact ⟨b4,Int.le_trans a0.2 (Int.le_trans a1.2 (Int.le_trans a2.2 (Int.le_trans a3.2 b5)))⟩
theorem am_sq {P:PB} {ws:D} {en:Int} (hPa:∀ dp,PbOK ws (P en ws dp)) (dp:Int):SqOK ws (amG ws) (amF P en ws dp):=⟨fun r h hg=>by
 have hk:pkK ws r.nx=1:=of_decide_eq_true hg;have hl:=pk_lt (ws:=ws) (nx:=r.nx) (by rw [hk];decide)
 have e:nmR ws en r=gx r:=if_pos hk;have a0:=nm_up en h;have a1:=ex_up en (t:=opB) a0.1 (by decide)
 have a2:=nm_up en a1.1;have a3:=ex_up en (t:=clB) a2.1 (by decide)
 obtain ⟨b1,b2,b3,b4,b5⟩:=blF_up hPa (dp:=dp) a3.1;have e2:(nmR ws en r).nx=r.nx+1:=by rw [e];rfl
 have h9:(nmR ws en r).nx<=(amA P en ws dp r).2.nx:=Int.le_trans a1.2 (Int.le_trans a2.2 (Int.le_trans a3.2 b5));exact ⟨b4,by show r.nx<(amA P en ws dp r).2.nx;omega⟩⟩
theorem rv_up {P:PB} {ws:D} {en:Int} (hPa:∀ dp,PbOK ws (P en ws dp)) {dp:Int} {r:Rd} (h:rdOK ws r.nx):rdOK ws (exR ws en kwR r).nx/\rdOK ws (nmR ws en (exR ws en kwR r)).nx/\rdOK ws (rvX en ws r).nx/\(exR ws en kwR r).nx<=(rvX en ws r).nx/\rdOK ws (rvA P en ws dp r).2.nx/\(rvX en ws r).nx<=(rvA P en ws dp r).2.nx/\rdOK ws (rvR P en ws dp r).nx/\(rvX en ws r).nx<=(rvR P en ws dp r).nx:=by
 have a0:=ex_up en (t:=kwR) h (by decide)
 have a1:=nm_up en a0.1;have a2:=ex_up en (t:=obB) a1.1 (by decide)
 have b:=am_up hPa (dp:=dp) a2.1;have c:=seq_up (am_sq hPa dp) (.l [(amS P en ws dp (rvX en ws r)).row]) b.1;have d:=ex_up en (t:=cbB) c.1 (by decide)
 exact ⟨a0.1,a1.1,a2.1,Int.le_trans a1.2 a2.2,c.1,Int.le_trans b.2 c.2,d.1,Int.le_trans b.2 (Int.le_trans c.2 d.2)⟩
noncomputable def rcvS (P:PB) (m:Nat):List Dat->Option (Eff × List Seg):=fun ds=>match ds with
 | [.d ws,.i nx,.i en,.i pa,.i er,.i dp]=>some ({val:=.one (.agg [.c (.int .i64 (.sym ((rvS P en ws dp (mR nx pa er))).k)),.c (.raw (.string ((rvS P en ws dp (mR nx pa er))).nm)),.c (.raw (.string ((rvS P en ws dp (mR nx pa er))).tg)),.c (.int .i64 (.sym (((rvS P en ws dp (mR nx pa er))).e).k)),.c (.int .i64 (.sym (((rvS P en ws dp (mR nx pa er))).e).n)),.c (.raw (.string (((rvS P en ws dp (mR nx pa er))).e).s)),.c (.osl 75 0 (.lit 0) (.sym (((rvS P en ws dp (mR nx pa er))).e).d.len)),.c (.int .i64 (.sym ((rvS P en ws dp (mR nx pa er))).c.op)),.c (.int .i64 (.sym (((rvS P en ws dp (mR nx pa er))).c.l).k)),.c (.int .i64 (.sym (((rvS P en ws dp (mR nx pa er))).c.l).n)),.c (.raw (.string (((rvS P en ws dp (mR nx pa er))).c.l).s)),.c (.osl 75 1 (.lit 0) (.sym (((rvS P en ws dp (mR nx pa er))).c.l).d.len)),.c (.int .i64 (.sym (((rvS P en ws dp (mR nx pa er))).c.r).k)),.c (.int .i64 (.sym (((rvS P en ws dp (mR nx pa er))).c.r).n)),.c (.raw (.string (((rvS P en ws dp (mR nx pa er))).c.r).s)),.c (.osl 75 2 (.lit 0) (.sym (((rvS P en ws dp (mR nx pa er))).c.r).d.len)),.c (.osl 80 3 (.lit 0) (.sym ((rvS P en ws dp (mR nx pa er))).b.len)),.c (.osl 80 4 (.lit 0) (.sym ((rvS P en ws dp (mR nx pa er))).el.len)),.c (.osl 141 5 (.lit 0) (.sym ((rvS P en ws dp (mR nx pa er))).ar.len))]),vc:=[rdOK ws nx,dpOK ws (mR nx pa er) dp,left ws (mR nx pa er)<m+1,(mR nx pa er).nx<ws.len],nw:=[(0,.orow 75 ((rvS P en ws dp (mR nx pa er))).e.d),(1,.orow 75 ((rvS P en ws dp (mR nx pa er))).c.l.d),(2,.orow 75 ((rvS P en ws dp (mR nx pa er))).c.r.d),(3,.orow 80 ((rvS P en ws dp (mR nx pa er))).b),(4,.orow 80 ((rvS P en ws dp (mR nx pa er))).el),(5,.orow 141 ((rvS P en ws dp (mR nx pa er))).ar)]},[.c (.rows 124 ws),.c (.int .i64 (.sym (((rvR P en ws dp (mR nx pa er))).nx))),.c (.int .i64 (.sym en)),.c (.int .i64 (.sym (((rvR P en ws dp (mR nx pa er))).pa))),.c (.int .i64 (.sym (((rvR P en ws dp (mR nx pa er))).er)))])
 |_=>none
noncomputable def rcvC (P:PB) (m:Nat):Con:=conM 85 [.c (.rows 124),.c (.int .i64),.c (.int .i64),.c (.int .i64),.c (.int .i64)] [.sc (.int .i64)] (rcvS P m)
theorem rcv_ok {P:PB} {m:Nat} (hP:ConOK Tryz.prog 81 (stmC P m)) (hPa:∀ en ws dp,PbOK ws (P en ws dp)):ConOK Tryz.prog 91 (rcvC P m):=by
 refine fn_obM tt_ok mixed Tryz.func91 rfl (fun _ _=>by kernel_rfl) (A:=fun ds=>⟨fun _=>Cons.of [(103,(armC P m)),(76,pekC),(77,namC),(80,expC)],fun k=>match k,ds with | 5,[.d ws,.i nx,.i en,.i pa,.i er,.i dp]=>some {ι:=D × Rd,pre:=fun _ q=>rdOK ws q.2.nx/\(seqA (amG ws) (amF P en ws dp) ws q.1 q.2=rvA P en ws dp (mR nx pa er))/\q.1.len+left ws q.2<=1000001/\(rvX en ws (mR nx pa er)).nx<=q.2.nx,μ:=fun q=>left ws q.2,st:=fun s q=>famR s [] [0,1,4,5] [(0,.own 85 ([.c (.rows 124 ws),.c (.int .i64 (.sym ((q.2).nx))),.c (.int .i64 (.sym en)),.c (.int .i64 (.sym ((q.2).pa))),.c (.int .i64 (.sym ((q.2).er)))])),(idOf s 5,.own 80 ([.c (.int .i64 (.sym 5)),.c (.raw (.string (nmS ws (exR ws en kwR (mR nx pa er))))),.c (.raw (.string ByteArray.empty)),.c (.int .i64 (.sym 0)),.c (.int .i64 (.sym 0)),.c (.raw (.string ByteArray.empty)),.c .nils,.c (.int .i64 (.sym 0)),.c (.int .i64 (.sym 0)),.c (.int .i64 (.sym 0)),.c (.raw (.string ByteArray.empty)),.c .nils,.c (.int .i64 (.sym 0)),.c (.int .i64 (.sym 0)),.c (.raw (.string ByteArray.empty)),.c .nils,.c .nils,.c .nils,.c (.osl 141 (cellIdP s 5 18) (.lit 0) (.sym (q.1.len)))])),(cellIdP s 5 18,.orow 141 (q.1))] [4]} |_,_=>none,fun _=>none⟩) (fun _ _=>(cons_cons (arm_ok hP hPa) (cons_cons pek_ok (cons_cons nam_ok (cons_cons exp_ok cons_nil))))) (by kernel_rfl) ?_
 intro ds;unfold rcvS;split
 ·rename_i ws nx en pa er dp
  refine kmp (q:=withv (exR ws en obB (nmR ws en (exR ws en kwR (mR nx pa er)))) fun E71=>withv (rvS P en ws dp (mR nx pa er)) fun E72=>withv (fun (i:D × Rd)=>D.l [[D.s (amS P en ws dp i.snd).tg,D.s (amS P en ws dp i.snd).vr,(amS P en ws dp i.snd).b.sub 0 ((0:Nat)+(amS P en ws dp i.snd).b.len)]]) fun E73=>withv (exR ws en kwR (mR nx pa er)) fun E74=>withv (D.l [[D.s (amS P en ws dp E71).tg,D.s (amS P en ws dp E71).vr,(amS P en ws dp E71).b.sub 0 ((0:Nat)+(amS P en ws dp E71).b.len)]]) fun E75=>withv (rvR P en ws dp (mR nx pa er)) fun E76=>rdOK ws nx->dpOK ws (mR nx pa er) dp->left ws (mR nx pa er)<m+1->(mR nx pa er).nx<(ws.len:Int)->rdOK ws nx/\0<kwR.size/\rdOK ws E74.nx/\rdOK ws (nmR ws en E74).nx/\0<obB.size/\rdOK ws E71.nx/\dqOK ws E71 dp/\left ws E71<m/\0+(amS P en ws dp E71).b.len<=(amS P en ws dp E71).b.len/\((0:Nat)+(E75.sub 0 1).len)*56<=140737488355328/\0+1<=E75.len/\(∃ (i:D × Rd),(rdOK ws i.snd.nx/\seqA (amG ws) (amF P en ws dp) ws i.fst i.snd=rvA P en ws dp (mR nx pa er)/\i.fst.len+left ws i.snd<=1000001/\(rvX en ws (mR nx pa er)).nx<=i.snd.nx)/\dp=dp/\ws.rows=ws.rows/\(amA P en ws dp E71).snd.nx=i.snd.nx/\en=en/\(amA P en ws dp E71).snd.pa=i.snd.pa/\(amA P en ws dp E71).snd.er=i.snd.er/\(5:Int)=(5:Int)/\Value.string (nmS ws E74)=Value.string (nmS ws E74)/\Value.string ByteArray.empty=Value.string ByteArray.empty/\(0:Int)=(0:Int)/\(0:Int)=(0:Int)/\Value.string ByteArray.empty=Value.string ByteArray.empty/\(0:Int)=(0:Int)/\(0:Int)=(0:Int)/\(0:Int)=(0:Int)/\Value.string ByteArray.empty=Value.string ByteArray.empty/\(0:Int)=(0:Int)/\(0:Int)=(0:Int)/\Value.string ByteArray.empty=Value.string ByteArray.empty/\1=i.fst.len /\ []++List.drop 0 (List.take 1 [[D.s (amS P en ws dp E71).tg,D.s (amS P en ws dp E71).vr,(amS P en ws dp E71).b.sub 0 ((0:Nat)+(amS P en ws dp E71).b.len)]])=i.fst.rows/\(0:Int)=(0:Int)/\Value.string ByteArray.empty=Value.string ByteArray.empty/\Value.string ByteArray.empty=Value.string ByteArray.empty/\(0:Int)=(0:Int)/\(0:Int)=(0:Int)/\Value.string ByteArray.empty=Value.string ByteArray.empty/\(0:Int)=(0:Int)/\(0:Int)=(0:Int)/\(0:Int)=(0:Int)/\Value.string ByteArray.empty=Value.string ByteArray.empty/\(0:Int)=(0:Int)/\(0:Int)=(0:Int)/\Value.string ByteArray.empty=Value.string ByteArray.empty)/\∀ (i:D × Rd),rdOK ws i.snd.nx/\seqA (amG ws) (amF P en ws dp) ws i.fst i.snd=rvA P en ws dp (mR nx pa er)/\i.fst.len+left ws i.snd<=1000001/\(rvX en ws (mR nx pa er)).nx<=i.snd.nx->rdOK ws i.snd.nx/\((pkK ws i.snd.nx==(1:Int))=true->rdOK ws i.snd.nx/\dqOK ws i.snd dp/\left ws i.snd<m/\0+(amS P en ws dp i.snd).b.len<=(amS P en ws dp i.snd).b.len/\i.fst.len=i.fst.len/\(i.fst.len+((E73 i).sub 0 1).len)*56<=140737488355328/\0+1<=(E73 i).len/\∃ (j:D × Rd),(rdOK ws j.snd.nx/\seqA (amG ws) (amF P en ws dp) ws j.fst j.snd=rvA P en ws dp (mR nx pa er)/\j.fst.len+left ws j.snd<=1000001/\(rvX en ws (mR nx pa er)).nx<=j.snd.nx)/\left ws j.snd<left ws i.snd/\dp=dp/\ws.rows=ws.rows/\(amA P en ws dp i.snd).snd.nx=j.snd.nx/\en=en/\(amA P en ws dp i.snd).snd.pa=j.snd.pa/\(amA P en ws dp i.snd).snd.er=j.snd.er/\(5:Int)=(5:Int)/\Value.string (nmS ws E74)=Value.string (nmS ws E74)/\Value.string ByteArray.empty=Value.string ByteArray.empty/\(0:Int)=(0:Int)/\(0:Int)=(0:Int)/\Value.string ByteArray.empty=Value.string ByteArray.empty/\(0:Int)=(0:Int)/\(0:Int)=(0:Int)/\(0:Int)=(0:Int)/\Value.string ByteArray.empty=Value.string ByteArray.empty/\(0:Int)=(0:Int)/\(0:Int)=(0:Int)/\Value.string ByteArray.empty=Value.string ByteArray.empty/\i.fst.len+((E73 i).sub 0 1).len=j.fst.len/\i.fst.rows++List.drop 0 (List.take 1 [[D.s (amS P en ws dp i.snd).tg,D.s (amS P en ws dp i.snd).vr,(amS P en ws dp i.snd).b.sub 0 ((0:Nat)+(amS P en ws dp i.snd).b.len)]])=j.fst.rows/\(0:Int)=(0:Int)/\Value.string ByteArray.empty=Value.string ByteArray.empty/\Value.string ByteArray.empty=Value.string ByteArray.empty/\(0:Int)=(0:Int)/\(0:Int)=(0:Int)/\Value.string ByteArray.empty=Value.string ByteArray.empty/\(0:Int)=(0:Int)/\(0:Int)=(0:Int)/\(0:Int)=(0:Int)/\Value.string ByteArray.empty=Value.string ByteArray.empty/\(0:Int)=(0:Int)/\(0:Int)=(0:Int)/\Value.string ByteArray.empty=Value.string ByteArray.empty)/\((pkK ws i.snd.nx==(1:Int))=false->rdOK ws i.snd.nx/\0<cbB.size/\(5:Int)=E72.k/\Value.string (nmS ws E74)=Value.string E72.nm/\Value.string ByteArray.empty=Value.string E72.tg/\(0:Int)=E72.e.k/\(0:Int)=E72.e.n/\Value.string ByteArray.empty=Value.string E72.e.s/\E72.e.d.len=0/\(0:Int)=E72.c.op/\(0:Int)=E72.c.l.k/\(0:Int)=E72.c.l.n/\Value.string ByteArray.empty=Value.string E72.c.l.s/\E72.c.l.d.len=0/\(0:Int)=E72.c.r.k/\(0:Int)=E72.c.r.n/\Value.string ByteArray.empty=Value.string E72.c.r.s/\E72.c.r.d.len=0/\E72.b.len=0/\E72.el.len=0/\i.fst.len=E72.ar.len/\ws.rows=ws.rows/\(exR ws en cbB i.snd).nx=E76.nx/\en=en/\(exR ws en cbB i.snd).pa=E76.pa/\(exR ws en cbB i.snd).er=E76.er/\([]:List (List D))=[]/\([]:List (List D))=[]/\([]:List (List D))=[]/\([]:List (List D))=[]/\([]:List (List D))=[]/\i.fst.rows=E72.ar.rows)) (by kernel_rfl) ?_
  dsimp +instances only [withv]
  intro h hd hl hn;obtain ⟨a0,a1,a2,a3,a4,a5,a6,a7⟩:=rv_up (hPa en ws) (dp:=dp) (r:=mR nx pa er) h;have q1:=dp_q hd h hn (Int.lt_of_lt_of_le (ex_lt en hn) a3);have q2:=q1.1;have q3:left ws (rvX en ws (mR nx pa er))<m:=by have:=q1.2;omega
  have b:=am_up (hPa en ws) (dp:=dp) a2;have l0:=(lf_lt b.1).2;refine ⟨h,by decide,a0,a1,by decide,a2,q2,q3,Nat.le_of_eq (Nat.zero_add _),(by show (0+1)*56<=140737488355328;decide),Nat.le_refl 1,⟨(.l [(amS P en ws dp (rvX en ws (mR nx pa er))).row],(amA P en ws dp (rvX en ws (mR nx pa er))).2),⟨b.1,rfl,(by show 1+left ws (amA P en ws dp (rvX en ws (mR nx pa er))).2<=1000001;omega),b.2⟩,?_⟩,?_⟩
  ·simp only [subAll]
   (repeat' (with_reducible apply And.intro))<;>first |with_reducible rfl |exact True.intro |with_reducible assumption |decide |assumption |rfl
  rintro q ⟨h1,h2,h3,h4⟩;have l1:=left_le (ws:=ws) h4;refine ⟨h1,fun hc=>?_,fun hc=>?_⟩
  ·have hk:pkK ws q.2.nx=1:=eq_of_beq hc;have hg:amG ws q.2=true:=decide_eq_true hk;obtain ⟨u1,u2⟩:=(am_sq (hPa en ws) dp).up q.2 h1 hg;have u3:=lt_left u1 h1 u2;have hs:=seq_step (am_sq (hPa en ws) dp) (d:=q.1) h1 hg;refine ⟨h1,dq_le q2 h4,by omega,Nat.le_of_eq (Nat.zero_add _),rfl,(by show (q.1.len+1)*56<=140737488355328;omega),Nat.le_refl 1,(.l (q.1.rows++[(amS P en ws dp q.2).row]),(amA P en ws dp q.2).2),⟨u1,hs.trans h2,?_,Int.le_trans h4 (Int.le_of_lt u2)⟩,u3,?_⟩
   ·have u4:left ws (amA P en ws dp q.2).2<left ws q.2:=u3;show (D.l (q.1.rows++[(amS P en ws dp q.2).row])).len+left ws (amA P en ws dp q.2).2<=1000001;rw [ap_len];omega
   ·simp only [subAll]
    (repeat' (with_reducible apply And.intro))<;>first |with_reducible rfl |exact True.intro |exact (ap_len _ _).symm |rfl
  ·have hk:pkK ws q.2.nx≠1:=ne_of_beq_false hc;have hg:amG ws q.2=false:=decide_eq_false hk;have h2:(q.1,q.2)=rvA P en ws dp (mR nx pa er):=(seq_end hg).symm.trans h2;simp only [rvS,rvR,<- h2]
   (repeat' (with_reducible apply And.intro))<;>first |with_reducible rfl |exact True.intro |with_reducible assumption |decide |assumption |rfl
 ·trivial
end Go.Proofs.YtbhbjhejkamlnaaGreat.Sx.Z
