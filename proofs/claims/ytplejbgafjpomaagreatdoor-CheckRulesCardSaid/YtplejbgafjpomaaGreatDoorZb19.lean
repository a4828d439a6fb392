import Derived.Test.YtplejbgafjpomaaGreatDoorZb18
import Derived.Test.YtplejbgafjpomaaGreatDoorZb16
import Derived.Test.YtplejbgafjpomaaGreatDoorZb17
set_option linter.unusedVariables false
set_option linter.unusedSimpArgs false
namespace Go.Proofs.YtplejbgafjpomaaGreatDoor.Sx.Z
open Go.RowKit
def obB:ByteArray:=⟨#[123]⟩
def cbB:ByteArray:=⟨#[125]⟩
def kwF:ByteArray:=⟨#[105,102]⟩
def kwL:ByteArray:=⟨#[101,108,115,101]⟩
def kwW:ByteArray:=⟨#[119,104,105,108,101]⟩
def kwR:ByteArray:=⟨#[114,101,99,118]⟩
def X00:Xp:=⟨0,0,ByteArray.empty,.l []⟩
def C00:Cd:=⟨0,X00,X00⟩
structure St where
 k:Int
 nm:ByteArray
 tg:ByteArray
 e:Xp
 c:Cd
 b:D
 el:D
 ar:D
def St.row (s:St):List D:=[.i s.k,.s s.nm,.s s.tg,.i s.e.k,.i s.e.n,.s s.e.s,.l s.e.d.rows,.i s.c.op,.i s.c.l.k,.i s.c.l.n,.s s.c.l.s,.l s.c.l.d.rows,.i s.c.r.k,.i s.c.r.n,.s s.c.r.s,.l s.c.r.d.rows,.l s.b.rows,.l s.el.rows,.l s.ar.rows]
structure Am where
 tg:ByteArray
 vr:ByteArray
 b:D
def Am.row (a:Am):List D:=[.s a.tg,.s a.vr,.l a.b.rows]
abbrev PB:=Int->D->Int->Rd->D × Rd
structure PbOK (ws:D) (P:Rd->D × Rd):Prop where
 up:∀ r,rdOK ws r.nx->r.nx<=(P r).2.nx/\rdOK ws (P r).2.nx
def dqOK (ws:D) (r:Rd) (dp:Int):Prop:=0<=dp/\dp+1+(left ws r:Int)<=2000000
def blF (P:PB):PB:=fun en ws dp r=>((P en ws (dp+1) (neR ws en obB dp r)).1,exR ws en cbB (P en ws (dp+1) (neR ws en obB dp r)).2)
theorem neR_up {ws:D} {en dp:Int} {t:ByteArray} {r:Rd} (h:rdOK ws r.nx) (ht:0<t.size):rdOK ws (neR ws en t dp r).nx/\r.nx<=(neR ws en t dp r).nx:=by
 cases ha:acB ws r.nx t with
 |true=>
  have:=ne_up (en:=en) (dp:=dp) h ht ha;exact ⟨this.1,this.2.2⟩
 |false=>
  have e:neR ws en t dp r=fl ws en 5 r:=by
   unfold neR;rw [if_neg (fun hx=>by rw [ha] at hx;exact Bool.false_ne_true hx.1),exR_no ha]
  rw [e];exact fl_up en 5 h
theorem blF_up {P:PB} {ws:D} {en:Int} (hPa:∀ dp,PbOK ws (P en ws dp)) {dp:Int} {r:Rd} (h:rdOK ws r.nx):rdOK ws (neR ws en obB dp r).nx/\r.nx<=(neR ws en obB dp r).nx/\rdOK ws (P en ws (dp+1) (neR ws en obB dp r)).2.nx/\rdOK ws (blF P en ws dp r).2.nx/\r.nx<=(blF P en ws dp r).2.nx:=by
 have a:=neR_up (en:=en) (dp:=dp) (t:=obB) h (by decide);have b:=(hPa (dp+1)).up _ a.1;have c:=ex_up en (t:=cbB) b.2 (by decide);exact ⟨a.1,a.2,b.2,c.1,Int.le_trans a.2 (Int.le_trans b.1 c.2)⟩
theorem wr1 {dp:Int} (h:0<=dp) (h2:dp<=2000000):IntKind.i64.wrap (dp+1)=dp+1:=by
 rw [IntWalk.i64_in _ (by omega)]
theorem dq_d {ws:D} {r q:Rd} {dp:Int} (h:dqOK ws r dp) (hn:r.nx<=q.nx):dpOK ws q (dp+1):=by
 obtain ⟨a,b⟩:=h;have:=left_le (ws:=ws) hn;exact ⟨by omega,by omega⟩
theorem dp_q {ws:D} {r q:Rd} {dp:Int} (h:dpOK ws r dp) (hr:rdOK ws r.nx) (hl:r.nx<ws.len) (hn:r.nx<q.nx):dqOK ws q dp/\left ws q<left ws r:=by
 obtain ⟨a,b⟩:=h;obtain ⟨c,d,e⟩:=hr;have:left ws q+1<=left ws r:=by unfold left;omega
 exact ⟨⟨a,by omega⟩,by omega⟩
theorem ex_lt {ws:D} (en:Int) {t:ByteArray} {r:Rd} (hl:r.nx<ws.len):r.nx<(exR ws en t r).nx:=by
 cases ha:acB ws r.nx t with
 |true=>
  rw [exR_yes ha];exact Int.lt_succ _
 |false=>
  rw [exR_no ha,fl_nx];exact hl
theorem ac_up {ws:D} {t:ByteArray} {r:Rd} (h:rdOK ws r.nx) (ht:0<t.size):rdOK ws (acR ws t r).nx/\r.nx<=(acR ws t r).nx:=by
 cases ha:acB ws r.nx t with
 |true=>
  rw [acR_yes ha];exact gx_up h (ac_lt ht ha)
 |false=>
  rw [acR_no ha];exact ⟨h,Int.le_refl _⟩
noncomputable def stmS (P:PB) (m:Nat):List Dat->Option (Eff × List Seg):=fun ds=>match ds with
 | [.d ws,.i nx,.i en,.i pa,.i er,.i dp]=>some ({val:=.one (.sc (.osl 193 (0) (.lit 0) (.sym ((P en ws dp (mR nx pa er)).1.len)))),vc:=[rdOK ws nx,dpOK ws (mR nx pa er) dp,left ws (mR nx pa er)<m],nw:=[(0,.orow 193 ((P en ws dp (mR nx pa er)).1))]},[.c (.rows 202 ws),.c (.int .i64 (.sym ((((P en ws dp (mR nx pa er)).2)).nx))),.c (.int .i64 (.sym en)),.c (.int .i64 (.sym ((((P en ws dp (mR nx pa er)).2)).pa))),.c (.int .i64 (.sym ((((P en ws dp (mR nx pa er)).2)).er)))])
 |_=>none
noncomputable def stmC (P:PB) (m:Nat):Con:=conM 135 [.c (.rows 202),.c (.int .i64),.c (.int .i64),.c (.int .i64),.c (.int .i64)] [.sc (.int .i64)] (stmS P m)
def cfA (P:PB) (en:Int) (ws:D) (dp:Int) (r:Rd):D × Rd:=blF P en ws dp (cdR ws en (exR ws en kwF r))
def cfB (P:PB) (en:Int) (ws:D) (dp:Int) (r:Rd):D × Rd:=if acB ws (cfA P en ws dp r).2.nx kwL=true then blF P en ws dp (acR ws kwL (cfA P en ws dp r).2) else (.l [],acR ws kwL (cfA P en ws dp r).2)
def cfS (P:PB) (en:Int) (ws:D) (dp:Int) (r:Rd):St:=⟨2,ByteArray.empty,ByteArray.empty,X00,cdC ws en (exR ws en kwF r),(cfA P en ws dp r).1,(cfB P en ws dp r).1,.l []⟩
def lpA (P:PB) (en:Int) (ws:D) (dp:Int) (r:Rd):D × Rd:=blF P en ws dp (cdR ws en (exR ws en kwW r))
def lpS (P:PB) (en:Int) (ws:D) (dp:Int) (r:Rd):St:=⟨3,ByteArray.empty,ByteArray.empty,X00,cdC ws en (exR ws en kwW r),(lpA P en ws dp r).1,.l [],.l []⟩
def amX (en:Int) (ws:D) (r:Rd):Rd:=nmR ws en (exR ws en opB (nmR ws en r))
def amA (P:PB) (en:Int) (ws:D) (dp:Int) (r:Rd):D × Rd:=blF P en ws dp (exR ws en clB (amX en ws r))
def amS (P:PB) (en:Int) (ws:D) (dp:Int) (r:Rd):Am:=⟨nmS ws r,nmS ws (exR ws en opB (nmR ws en r)),(amA P en ws dp r).1⟩
theorem dq_le {ws:D} {r q:Rd} {dp:Int} (h:dqOK ws r dp) (hn:r.nx<=q.nx):dqOK ws q dp:=by
 obtain ⟨a,b⟩:=h;have:=left_le (ws:=ws) hn;exact ⟨a,by omega⟩
noncomputable def blkS (P:PB) (m:Nat):List Dat->Option (Eff × List Seg):=fun ds=>match ds with
 | [.d ws,.i nx,.i en,.i pa,.i er,.i dp]=>some ({val:=.one (.sc (.osl 193 (0) (.lit 0) (.sym ((blF P en ws dp (mR nx pa er)).1.len)))),vc:=[rdOK ws nx,dqOK ws (mR nx pa er) dp,left ws (mR nx pa er)<m],nw:=[(0,.orow 193 ((blF P en ws dp (mR nx pa er)).1))]},[.c (.rows 202 ws),.c (.int .i64 (.sym ((((blF P en ws dp (mR nx pa er)).2)).nx))),.c (.int .i64 (.sym en)),.c (.int .i64 (.sym ((((blF P en ws dp (mR nx pa er)).2)).pa))),.c (.int .i64 (.sym ((((blF P en ws dp (mR nx pa er)).2)).er)))])
 |_=>none
noncomputable def blkC (P:PB) (m:Nat):Con:=conM 135 [.c (.rows 202),.c (.int .i64),.c (.int .i64),.c (.int .i64),.c (.int .i64)] [.sc (.int .i64)] (blkS P m)
theorem blk_ok {P:PB} {m:Nat} (hP:ConOK Tryz.prog 123 (stmC P m)) (hPa:∀ en ws dp,PbOK ws (P en ws dp)):ConOK Tryz.prog 169 (blkC P m):=by
 refine fn_obM tt_ok mixed Tryz.func169 rfl (fun _ _=>by kernel_rfl) (A:=fun ds=>⟨fun _=>Cons.of [(182,nstC),(123,(stmC P m)),(122,expC)],fun _=>none,fun _=>none⟩) (fun _ _=>(cons_cons nst_ok (cons_cons hP (cons_cons exp_ok cons_nil)))) (by kernel_rfl) ?_
 intro ds;unfold blkS;split
 ·rename_i ws nx en pa er dp;refine kmp (q:=rdOK ws nx->dqOK ws (mR nx pa er) dp->left ws (mR nx pa er)<m->rdOK ws nx/\0<(ByteArray.mk #[123]).size/\rdOK ws (neR ws en (ByteArray.mk #[123]) dp (mR nx pa er)).nx/\dpOK ws (neR ws en (ByteArray.mk #[123]) dp (mR nx pa er)) (IntKind.i64.wrap (dp+1))/\left ws (neR ws en (ByteArray.mk #[123]) dp (mR nx pa er))<m/\rdOK ws (P en ws (IntKind.i64.wrap (dp+1)) (neR ws en (ByteArray.mk #[123]) dp (mR nx pa er))).snd.nx/\0<(ByteArray.mk #[125]).size/\(P en ws (IntKind.i64.wrap (dp+1)) (neR ws en (ByteArray.mk #[123]) dp (mR nx pa er))).fst.len=(blF P en ws dp (mR nx pa er)).fst.len/\ws.rows=ws.rows/\(exR ws en (ByteArray.mk #[125]) (P en ws (IntKind.i64.wrap (dp+1)) (neR ws en (ByteArray.mk #[123]) dp (mR nx pa er))).snd).nx=(blF P en ws dp (mR nx pa er)).snd.nx/\en=en/\(exR ws en (ByteArray.mk #[125]) (P en ws (IntKind.i64.wrap (dp+1)) (neR ws en (ByteArray.mk #[123]) dp (mR nx pa er))).snd).pa=(blF P en ws dp (mR nx pa er)).snd.pa/\(exR ws en (ByteArray.mk #[125]) (P en ws (IntKind.i64.wrap (dp+1)) (neR ws en (ByteArray.mk #[123]) dp (mR nx pa er))).snd).er=(blF P en ws dp (mR nx pa er)).snd.er/\(P en ws (IntKind.i64.wrap (dp+1)) (neR ws en (ByteArray.mk #[123]) dp (mR nx pa er))).fst.rows=(blF P en ws dp (mR nx pa er)).fst.rows) (by kernel_rfl) ?_
  intro h hd hl;have e1:IntKind.i64.wrap (dp+1)=dp+1:=wr1 hd.1 (by have:=hd.2;omega);simp only [e1];obtain ⟨a,b,c,d,e⟩:=blF_up (hPa en ws) (dp:=dp) (r:=mR nx pa er) h;have f:=dq_d (q:=neR ws en obB dp (mR nx pa er)) hd b;have g:left ws (neR ws en obB dp (mR nx pa er))<m:=Nat.lt_of_le_of_lt (left_le b) hl
  (repeat' (with_reducible apply And.intro))<;>first |with_reducible rfl |exact True.intro |with_reducible assumption |decide |assumption |rfl
 ·trivial
noncomputable def choS (P:PB) (m:Nat):List Dat->Option (Eff × List Seg):=fun ds=>match ds with
 | [.d ws,.i nx,.i en,.i pa,.i er,.i dp]=>some ({val:=.one (.agg [.c (.int .i64 (.sym ((cfS P en ws dp (mR nx pa er))).k)),.c (.raw (.string ((cfS P en ws dp (mR nx pa er))).nm)),.c (.raw (.string ((cfS P en ws dp (mR nx pa er))).tg)),.c (.int .i64 (.sym (((cfS P en ws dp (mR nx pa er))).e).k)),.c (.int .i64 (.sym (((cfS P en ws dp (mR nx pa er))).e).n)),.c (.raw (.string (((cfS P en ws dp (mR nx pa er))).e).s)),.c (.osl 186 0 (.lit 0) (.sym (((cfS P en ws dp (mR nx pa er))).e).d.len)),.c (.int .i64 (.sym ((cfS P en ws dp (mR nx pa er))).c.op)),.c (.int .i64 (.sym (((cfS P en ws dp (mR nx pa er))).c.l).k)),.c (.int .i64 (.sym (((cfS P en ws dp (mR nx pa er))).c.l).n)),.c (.raw (.string (((cfS P en ws dp (mR nx pa er))).c.l).s)),.c (.osl 186 1 (.lit 0) (.sym (((cfS P en ws dp (mR nx pa er))).c.l).d.len)),.c (.int .i64 (.sym (((cfS P en ws dp (mR nx pa er))).c.r).k)),.c (.int .i64 (.sym (((cfS P en ws dp (mR nx pa er))).c.r).n)),.c (.raw (.string (((cfS P en ws dp (mR nx pa er))).c.r).s)),.c (.osl 186 2 (.lit 0) (.sym (((cfS P en ws dp (mR nx pa er))).c.r).d.len)),.c (.osl 193 3 (.lit 0) (.sym ((cfS P en ws dp (mR nx pa er))).b.len)),.c (.osl 193 4 (.lit 0) (.sym ((cfS P en ws dp (mR nx pa er))).el.len)),.c (.osl 195 5 (.lit 0) (.sym ((cfS P en ws dp (mR nx pa er))).ar.len))]),vc:=[rdOK ws nx,dpOK ws (mR nx pa er) dp,left ws (mR nx pa er)<m+1,(mR nx pa er).nx<ws.len],nw:=[(0,.orow 186 ((cfS P en ws dp (mR nx pa er))).e.d),(1,.orow 186 ((cfS P en ws dp (mR nx pa er))).c.l.d),(2,.orow 186 ((cfS P en ws dp (mR nx pa er))).c.r.d),(3,.orow 193 ((cfS P en ws dp (mR nx pa er))).b),(4,.orow 193 ((cfS P en ws dp (mR nx pa er))).el),(5,.orow 195 ((cfS P en ws dp (mR nx pa er))).ar)]},[.c (.rows 202 ws),.c (.int .i64 (.sym ((((cfB P en ws dp (mR nx pa er)).2)).nx))),.c (.int .i64 (.sym en)),.c (.int .i64 (.sym ((((cfB P en ws dp (mR nx pa er)).2)).pa))),.c (.int .i64 (.sym ((((cfB P en ws dp (mR nx pa er)).2)).er)))])
 |_=>none
noncomputable def choC (P:PB) (m:Nat):Con:=conM 135 [.c (.rows 202),.c (.int .i64),.c (.int .i64),.c (.int .i64),.c (.int .i64)] [.sc (.int .i64)] (choS P m)
theorem cho_ok {P:PB} {m:Nat} (hP:ConOK Tryz.prog 123 (stmC P m)) (hPa:∀ en ws dp,PbOK ws (P en ws dp)):ConOK Tryz.prog 148 (choC P m):=by
 refine fn_obM tt_ok mixed Tryz.func148 rfl (fun _ _=>by kernel_rfl) (A:=fun ds=>⟨fun _=>Cons.of [(169,(blkC P m)),(168,cndC),(122,expC),(71,accC)],fun _=>none,fun _=>none⟩) (fun _ _=>(cons_cons (blk_ok hP hPa) (cons_cons cnd_ok (cons_cons exp_ok (cons_cons acc_ok cons_nil))))) (by kernel_rfl) ?_
 intro ds;unfold choS;split
 ·rename_i ws nx en pa er dp;refine kmp (q:=withv (exR ws en (ByteArray.mk #[105,102]) (mR nx pa er)) fun E188=>withv (cfS P en ws dp (mR nx pa er)) fun E189=>withv (acR ws (ByteArray.mk #[101,108,115,101]) (blF P en ws dp (cdR ws en E188)).snd) fun E190=>withv (blF P en ws dp (cdR ws en E188)) fun E191=>withv (blF P en ws dp (acR ws {data:=#[(101:UInt8),(108:UInt8),(115:UInt8),(101:UInt8)]} E191.snd)) fun E192=>withv (cfB P en ws dp (mR nx pa er)) fun E193=>rdOK ws nx->dpOK ws (mR nx pa er) dp->left ws (mR nx pa er)<m+1->(mR nx pa er).nx<(ws.len:Int)->rdOK ws nx/\0<(ByteArray.mk #[105,102]).size/\rdOK ws E188.nx/\rdOK ws (cdR ws en E188).nx/\dqOK ws (cdR ws en E188) dp/\left ws (cdR ws en E188)<m/\rdOK ws E191.snd.nx/\0<(ByteArray.mk #[101,108,115,101]).size/\(acB ws E191.snd.nx (ByteArray.mk #[101,108,115,101])=true->rdOK ws E190.nx/\dqOK ws E190 dp/\left ws E190<m/\(2:Int)=E189.k/\Value.string ByteArray.empty=Value.string E189.nm/\Value.string ByteArray.empty=Value.string E189.tg/\(0:Int)=E189.e.k/\(0:Int)=E189.e.n/\Value.string ByteArray.empty=Value.string E189.e.s/\E189.e.d.len=0/\(cdC ws en E188).op=E189.c.op/\(cdC ws en E188).l.k=E189.c.l.k/\(cdC ws en E188).l.n=E189.c.l.n/\Value.string (cdC ws en E188).l.s=Value.string E189.c.l.s/\(cdC ws en E188).l.d.len=E189.c.l.d.len/\(cdC ws en E188).r.k=E189.c.r.k/\(cdC ws en E188).r.n=E189.c.r.n/\Value.string (cdC ws en E188).r.s=Value.string E189.c.r.s/\(cdC ws en E188).r.d.len=E189.c.r.d.len/\E191.fst.len=E189.b.len/\(blF P en ws dp E190).fst.len=E189.el.len/\E189.ar.len=0/\ws.rows=ws.rows/\(blF P en ws dp E190).snd.nx=E193.snd.nx/\en=en/\E192.snd.pa=E193.snd.pa/\E192.snd.er=E193.snd.er/\([]:List (List D))=[]/\(cdC ws en E188).l.d.rows=E189.c.l.d.rows/\(cdC ws en E188).r.d.rows=E189.c.r.d.rows/\E191.fst.rows=E189.b.rows/\E192.fst.rows=E189.el.rows/\([]:List (List D))=[])/\(acB ws E191.snd.nx (ByteArray.mk #[101,108,115,101])=false->(2:Int)=E189.k/\Value.string ByteArray.empty=Value.string E189.nm/\Value.string ByteArray.empty=Value.string E189.tg/\(0:Int)=E189.e.k/\(0:Int)=E189.e.n/\Value.string ByteArray.empty=Value.string E189.e.s/\E189.e.d.len=0/\(cdC ws en E188).op=E189.c.op/\(cdC ws en E188).l.k=E189.c.l.k/\(cdC ws en E188).l.n=E189.c.l.n/\Value.string (cdC ws en E188).l.s=Value.string E189.c.l.s/\(cdC ws en E188).l.d.len=E189.c.l.d.len/\(cdC ws en E188).r.k=E189.c.r.k/\(cdC ws en E188).r.n=E189.c.r.n/\Value.string (cdC ws en E188).r.s=Value.string E189.c.r.s/\(cdC ws en E188).r.d.len=E189.c.r.d.len/\E191.fst.len=E189.b.len/\E189.el.len=0/\E189.ar.len=0/\ws.rows=ws.rows/\E190.nx=E193.snd.nx/\en=en/\E190.pa=E193.snd.pa/\E190.er=E193.snd.er/\([]:List (List D))=[]/\(cdC ws en E188).l.d.rows=E189.c.l.d.rows/\(cdC ws en E188).r.d.rows=E189.c.r.d.rows/\E191.fst.rows=E189.b.rows/\E189.el.rows=[]/\([]:List (List D))=[])) (by kernel_rfl) ?_
  dsimp +instances only [withv]
  intro h hd hl hn;have a0:=(ex_up en (t:=kwF) (r:=mR nx pa er) h (by decide)).1;obtain ⟨_,_,_,_,a5,a6⟩:=cd_up en a0;obtain ⟨b1,b2,b3,b4,b5⟩:=blF_up (hPa en ws) (dp:=dp) a5;have q1:=dp_q hd h hn (Int.lt_of_lt_of_le (ex_lt en hn) a6);have q2:=q1.1;have q3:left ws (cdR ws en (exR ws en kwF (mR nx pa er)))<m:=by have:=q1.2;omega
  have c1:=ac_up (t:=kwL) b4 (by decide);have c2:=Int.le_trans b5 c1.2;have c3:=c1.1;have d1:=dq_le q2 c2;have d2:=Nat.lt_of_le_of_lt (left_le (ws:=ws) c2) q3;obtain ⟨d3,d4,d5,d6,d7⟩:=blF_up (hPa en ws) (dp:=dp) c1.1;refine ⟨h,by decide,a0,a5,q2,q3,b4,by decide,fun hc=>?_,fun hc=>?_⟩
  ·have e1:cfB P en ws dp (mR nx pa er)=blF P en ws dp (acR ws kwL (cfA P en ws dp (mR nx pa er)).2):=if_pos hc;simp only [cfS,e1]
   (repeat' (with_reducible apply And.intro))<;>first |with_reducible rfl |exact True.intro |with_reducible assumption |decide |assumption |rfl
  ·have e1:cfB P en ws dp (mR nx pa er)=(.l [],acR ws kwL (cfA P en ws dp (mR nx pa er)).2):=if_neg (by rw [show acB ws (cfA P en ws dp (mR nx pa er)).2.nx kwL=false from hc];decide);simp only [cfS,e1]
   (repeat' (with_reducible apply And.intro))<;>first |with_reducible rfl |exact True.intro |with_reducible assumption |decide |assumption |rfl
 ·trivial
noncomputable def lopS (P:PB) (m:Nat):List Dat->Option (Eff × List Seg):=fun ds=>match ds with
 | [.d ws,.i nx,.i en,.i pa,.i er,.i dp]=>some ({val:=.one (.agg [.c (.int .i64 (.sym ((lpS P en ws dp (mR nx pa er))).k)),.c (.raw (.string ((lpS P en ws dp (mR nx pa er))).nm)),.c (.raw (.string ((lpS P en ws dp (mR nx pa er))).tg)),.c (.int .i64 (.sym (((lpS P en ws dp (mR nx pa er))).e).k)),.c (.int .i64 (.sym (((lpS P en ws dp (mR nx pa er))).e).n)),.c (.raw (.string (((lpS P en ws dp (mR nx pa er))).e).s)),.c (.osl 186 0 (.lit 0) (.sym (((lpS P en ws dp (mR nx pa er))).e).d.len)),.c (.int .i64 (.sym ((lpS P en ws dp (mR nx pa er))).c.op)),.c (.int .i64 (.sym (((lpS P en ws dp (mR nx pa er))).c.l).k)),.c (.int .i64 (.sym (((lpS P en ws dp (mR nx pa er))).c.l).n)),.c (.raw (.string (((lpS P en ws dp (mR nx pa er))).c.l).s)),.c (.osl 186 1 (.lit 0) (.sym (((lpS P en ws dp (mR nx pa er))).c.l).d.len)),.c (.int .i64 (.sym (((lpS P en ws dp (mR nx pa er))).c.r).k)),.c (.int .i64 (.sym (((lpS P en ws dp (mR nx pa er))).c.r).n)),.c (.raw (.string (((lpS P en ws dp (mR nx pa er))).c.r).s)),.c (.osl 186 2 (.lit 0) (.sym (((lpS P en ws dp (mR nx pa er))).c.r).d.len)),.c (.osl 193 3 (.lit 0) (.sym ((lpS P en ws dp (mR nx pa er))).b.len)),.c (.osl 193 4 (.lit 0) (.sym ((lpS P en ws dp (mR nx pa er))).el.len)),.c (.osl 195 5 (.lit 0) (.sym ((lpS P en ws dp (mR nx pa er))).ar.len))]),vc:=[rdOK ws nx,dpOK ws (mR nx pa er) dp,left ws (mR nx pa er)<m+1,(mR nx pa er).nx<ws.len],nw:=[(0,.orow 186 ((lpS P en ws dp (mR nx pa er))).e.d),(1,.orow 186 ((lpS P en ws dp (mR nx pa er))).c.l.d),(2,.orow 186 ((lpS P en ws dp (mR nx pa er))).c.r.d),(3,.orow 193 ((lpS P en ws dp (mR nx pa er))).b),(4,.orow 193 ((lpS P en ws dp (mR nx pa er))).el),(5,.orow 195 ((lpS P en ws dp (mR nx pa er))).ar)]},[.c (.rows 202 ws),.c (.int .i64 (.sym ((((lpA P en ws dp (mR nx pa er)).2)).nx))),.c (.int .i64 (.sym en)),.c (.int .i64 (.sym ((((lpA P en ws dp (mR nx pa er)).2)).pa))),.c (.int .i64 (.sym ((((lpA P en ws dp (mR nx pa er)).2)).er)))])
 |_=>none
noncomputable def lopC (P:PB) (m:Nat):Con:=conM 135 [.c (.rows 202),.c (.int .i64),.c (.int .i64),.c (.int .i64),.c (.int .i64)] [.sc (.int .i64)] (lopS P m)
theorem lop_ok {P:PB} {m:Nat} (hP:ConOK Tryz.prog 123 (stmC P m)) (hPa:∀ en ws dp,PbOK ws (P en ws dp)):ConOK Tryz.prog 149 (lopC P m):=by
 refine fn_obM tt_ok mixed Tryz.func149 rfl (fun _ _=>by kernel_rfl) (A:=fun ds=>⟨fun _=>Cons.of [(169,(blkC P m)),(168,cndC),(122,expC)],fun _=>none,fun _=>none⟩) (fun _ _=>(cons_cons (blk_ok hP hPa) (cons_cons cnd_ok (cons_cons exp_ok cons_nil)))) (by kernel_rfl) ?_
 intro ds;unfold lopS;split
 ·rename_i ws nx en pa er dp;refine kmp (q:=withv (exR ws en (ByteArray.mk #[119,104,105,108,101]) (mR nx pa er)) fun E194=>withv (lpS P en ws dp (mR nx pa er)) fun E195=>withv (exR ws en {data:=#[(119:UInt8),(104:UInt8),(105:UInt8),(108:UInt8),(101:UInt8)]} (mR nx pa er)) fun E196=>withv (blF P en ws dp (cdR ws en E196)) fun E197=>rdOK ws nx->dpOK ws (mR nx pa er) dp->left ws (mR nx pa er)<m+1->(mR nx pa er).nx<(ws.len:Int)->rdOK ws nx/\0<(ByteArray.mk #[119,104,105,108,101]).size/\rdOK ws E194.nx/\rdOK ws (cdR ws en E194).nx/\dqOK ws (cdR ws en E194) dp/\left ws (cdR ws en E194)<m/\(3:Int)=E195.k/\Value.string ByteArray.empty=Value.string E195.nm/\Value.string ByteArray.empty=Value.string E195.tg/\(0:Int)=E195.e.k/\(0:Int)=E195.e.n/\Value.string ByteArray.empty=Value.string E195.e.s/\E195.e.d.len=0/\(cdC ws en E194).op=E195.c.op/\(cdC ws en E194).l.k=E195.c.l.k/\(cdC ws en E194).l.n=E195.c.l.n/\Value.string (cdC ws en E194).l.s=Value.string E195.c.l.s/\(cdC ws en E194).l.d.len=E195.c.l.d.len/\(cdC ws en E194).r.k=E195.c.r.k/\(cdC ws en E194).r.n=E195.c.r.n/\Value.string (cdC ws en E194).r.s=Value.string E195.c.r.s/\(cdC ws en E194).r.d.len=E195.c.r.d.len/\(blF P en ws dp (cdR ws en E194)).fst.len=E195.b.len/\E195.el.len=0/\E195.ar.len=0/\ws.rows=ws.rows/\E197.snd.nx=(lpA P en ws dp (mR nx pa er)).snd.nx/\en=en/\E197.snd.pa=(lpA P en ws dp (mR nx pa er)).snd.pa/\E197.snd.er=(lpA P en ws dp (mR nx pa er)).snd.er/\([]:List (List D))=[]/\(cdC ws en E196).l.d.rows=E195.c.l.d.rows/\(cdC ws en E196).r.d.rows=E195.c.r.d.rows/\E197.fst.rows=E195.b.rows/\([]:List (List D))=[]/\([]:List (List D))=[]) (by kernel_rfl) ?_
  dsimp +instances only [withv]
  intro h hd hl hn;have a0:=(ex_up en (t:=kwW) (r:=mR nx pa er) h (by decide)).1;obtain ⟨_,_,_,_,a5,a6⟩:=cd_up en a0;obtain ⟨b1,b2,b3,b4,b5⟩:=blF_up (hPa en ws) (dp:=dp) a5;have q1:=dp_q hd h hn (Int.lt_of_lt_of_le (ex_lt en hn) a6);have q2:=q1.1;have q3:left ws (cdR ws en (exR ws en kwW (mR nx pa er)))<m:=by have:=q1.2;omega
  (repeat' (with_reducible apply And.intro))<;>first |with_reducible rfl |exact True.intro |with_reducible assumption |decide |assumption |rfl
 ·trivial
noncomputable def armS (P:PB) (m:Nat):List Dat->Option (Eff × List Seg):=fun ds=>match ds with
 | [.d ws,.i nx,.i en,.i pa,.i er,.i dp]=>some ({val:=.one (.agg [.c (.raw (.string (amS P en ws dp (mR nx pa er)).tg)),.c (.raw (.string (amS P en ws dp (mR nx pa er)).vr)),.c (.osl 193 0 (.lit 0) (.sym (amS P en ws dp (mR nx pa er)).b.len))]),vc:=[rdOK ws nx,dqOK ws (mR nx pa er) dp,left ws (mR nx pa er)<m],nw:=[(0,.orow 193 ((amS P en ws dp (mR nx pa er)).b))]},[.c (.rows 202 ws),.c (.int .i64 (.sym ((((amA P en ws dp (mR nx pa er)).2)).nx))),.c (.int .i64 (.sym en)),.c (.int .i64 (.sym ((((amA P en ws dp (mR nx pa er)).2)).pa))),.c (.int .i64 (.sym ((((amA P en ws dp (mR nx pa er)).2)).er)))])
 |_=>none
noncomputable def armC (P:PB) (m:Nat):Con:=conM 135 [.c (.rows 202),.c (.int .i64),.c (.int .i64),.c (.int .i64),.c (.int .i64)] [.sc (.int .i64)] (armS P m)
theorem arm_ok {P:PB} {m:Nat} (hP:ConOK Tryz.prog 123 (stmC P m)) (hPa:∀ en ws dp,PbOK ws (P en ws dp)):ConOK Tryz.prog 171 (armC P m):=by
 refine fn_obM tt_ok mixed Tryz.func171 rfl (fun _ _=>by kernel_rfl) (A:=fun ds=>⟨fun _=>Cons.of [(169,(blkC P m)),(119,namC),(122,expC)],fun _=>none,fun _=>none⟩) (fun _ _=>(cons_cons (blk_ok hP hPa) (cons_cons nam_ok (cons_cons exp_ok cons_nil)))) (by kernel_rfl) ?_
 intro ds;unfold armS;split
 ·rename_i ws nx en pa er dp;refine kmp (q:=rdOK ws nx->dqOK ws (mR nx pa er) dp->left ws (mR nx pa er)<m->rdOK ws nx/\rdOK ws (nmR ws en (mR nx pa er)).nx/\0<(ByteArray.mk #[40]).size/\rdOK ws (exR ws en (ByteArray.mk #[40]) (nmR ws en (mR nx pa er))).nx/\rdOK ws (nmR ws en (exR ws en (ByteArray.mk #[40]) (nmR ws en (mR nx pa er)))).nx/\0<(ByteArray.mk #[41]).size/\rdOK ws (exR ws en (ByteArray.mk #[41]) (nmR ws en (exR ws en (ByteArray.mk #[40]) (nmR ws en (mR nx pa er))))).nx/\dqOK ws (exR ws en (ByteArray.mk #[41]) (nmR ws en (exR ws en (ByteArray.mk #[40]) (nmR ws en (mR nx pa er))))) dp/\left ws (exR ws en (ByteArray.mk #[41]) (nmR ws en (exR ws en (ByteArray.mk #[40]) (nmR ws en (mR nx pa er)))))<m/\Value.string (nmS ws (mR nx pa er))=Value.string (amS P en ws dp (mR nx pa er)).tg/\Value.string (nmS ws (exR ws en (ByteArray.mk #[40]) (nmR ws en (mR nx pa er))))=Value.string (amS P en ws dp (mR nx pa er)).vr/\(blF P en ws dp (exR ws en (ByteArray.mk #[41]) (nmR ws en (exR ws en (ByteArray.mk #[40]) (nmR ws en (mR nx pa er)))))).fst.len=(amS P en ws dp (mR nx pa er)).b.len/\ws.rows=ws.rows/\(blF P en ws dp (exR ws en (ByteArray.mk #[41]) (nmR ws en (exR ws en (ByteArray.mk #[40]) (nmR ws en (mR nx pa er)))))).snd.nx=(amA P en ws dp (mR nx pa er)).snd.nx/\en=en/\(blF P en ws dp (exR ws en (ByteArray.mk #[41]) (nmR ws en (exR ws en (ByteArray.mk #[40]) (nmR ws en (mR nx pa er)))))).snd.pa=(amA P en ws dp (mR nx pa er)).snd.pa/\(blF P en ws dp (exR ws en (ByteArray.mk #[41]) (nmR ws en (exR ws en (ByteArray.mk #[40]) (nmR ws en (mR nx pa er)))))).snd.er=(amA P en ws dp (mR nx pa er)).snd.er/\(blF P en ws dp (exR ws en (ByteArray.mk #[41]) (nmR ws en (exR ws en (ByteArray.mk #[40]) (nmR ws en (mR nx pa er)))))).fst.rows=(amS P en ws dp (mR nx pa er)).b.rows) (by kernel_rfl) ?_
  intro h hd hl;have a0:=nm_up en (r:=mR nx pa er) h;have a1:=ex_up en (t:=opB) a0.1 (by decide);have a2:=nm_up en a1.1;have a3:=ex_up en (t:=clB) a2.1 (by decide);have a4:=Int.le_trans a0.2 (Int.le_trans a1.2 (Int.le_trans a2.2 a3.2));have a5:=a0.1;have a6:=a1.1;have a7:=a2.1;have a8:=a3.1;have d1:=dq_le hd a4;have d2:=Nat.lt_of_le_of_lt (left_le (ws:=ws) a4) hl
  (repeat' (with_reducible apply And.intro))<;>first |with_reducible rfl |exact True.intro |with_reducible assumption |decide |assumption |rfl
 ·trivial
end Go.Proofs.YtplejbgafjpomaaGreatDoor.Sx.Z
namespace Go.Proofs.YtplejbgafjpomaaGreatDoor.Sx
def cellIdP (s:St) (t j:Nat):Nat:=match look s.hp (idOf s t) with |some (.own _ l)=>(match l[j]? with |some (.c (.osl _ id _ _))=>id |_=>0) |_=>0
end Go.Proofs.YtplejbgafjpomaaGreatDoor.Sx
namespace Go.Proofs.YtplejbgafjpomaaGreatDoor.Sx.Z
open Go.RowKit
def seqL (go:Rd->Bool) (F:Rd->List D × Rd):Nat->D->Rd->D × Rd
 | 0,d,r=>(d,r)
 |n+1,d,r=>if go r=true then seqL go F n (.l (d.rows++[(F r).1])) (F r).2 else (d,r)
def seqA (go:Rd->Bool) (F:Rd->List D × Rd) (ws d:D) (r:Rd):D × Rd:=seqL go F (left ws r) d r
structure SqOK (ws:D) (go:Rd->Bool) (F:Rd->List D × Rd):Prop where
 up:∀ r,rdOK ws r.nx->go r=true->rdOK ws (F r).2.nx/\r.nx<(F r).2.nx
theorem lt_left {ws:D} {r q:Rd} (h:rdOK ws q.nx) (h0:rdOK ws r.nx) (hl:r.nx<q.nx):left ws q<left ws r:=by
 obtain ⟨a,b,c⟩:=h;have:=h0.1;unfold left;omega
theorem seqL_end {go:Rd->Bool} {F:Rd->List D × Rd} {d:D} {r:Rd} (h:go r=false):∀ n,seqL go F n d r=(d,r)
 | 0=>rfl
 |n+1=>if_neg (by rw [h];decide)
theorem seqL_fuel {ws:D} {go:Rd->Bool} {F:Rd->List D × Rd} (hF:SqOK ws go F):∀ (n:Nat) (d:D) (r:Rd),rdOK ws r.nx->left ws r<=n->seqL go F n d r=seqL go F (left ws r) d r:=by
 intro n
 induction n using Nat.strongRecOn with
 |ind n ih=>
  intro d r h hl
  cases hg:go r with
  |false=>rw [seqL_end hg,seqL_end hg]
  |true=>
   obtain ⟨u1,u2⟩:=hF.up r h hg;have u3:=lt_left u1 h u2
   cases n with
   |zero=>omega
   |succ k=>
    obtain ⟨j,hj⟩:∃ j,left ws r=j+1:=⟨left ws r-1,by omega⟩;rw [hj,seqL,if_pos hg,seqL,if_pos hg,ih k (by omega) _ _ u1 (by omega),ih j (by omega) _ _ u1 (by omega)]
theorem seq_end {ws:D} {go:Rd->Bool} {F:Rd->List D × Rd} {d:D} {r:Rd} (h:go r=false):seqA go F ws d r=(d,r):=seqL_end h _
theorem seq_step {ws:D} {go:Rd->Bool} {F:Rd->List D × Rd} (hF:SqOK ws go F) {d:D} {r:Rd} (h:rdOK ws r.nx) (hg:go r=true):seqA go F ws (.l (d.rows++[(F r).1])) (F r).2=seqA go F ws d r:=by
 obtain ⟨u1,u2⟩:=hF.up r h hg;have u3:=lt_left u1 h u2;obtain ⟨j,hj⟩:∃ j,left ws r=j+1:=⟨left ws r-1,by omega⟩;unfold seqA;rw [hj,seqL,if_pos hg,seqL_fuel hF j _ _ u1 (by omega)]
theorem seqL_up {ws:D} {go:Rd->Bool} {F:Rd->List D × Rd} (hF:SqOK ws go F):∀ (n:Nat) (d:D) (r:Rd),rdOK ws r.nx->rdOK ws (seqL go F n d r).2.nx/\r.nx<=(seqL go F n d r).2.nx
 | 0,d,r,h=>⟨h,Int.le_refl _⟩
 |n+1,d,r,h=>by
  cases hg:go r with
  |false=>
   rw [seqL_end hg];exact ⟨h,Int.le_refl _⟩
  |true=>
   obtain ⟨u1,u2⟩:=hF.up r h hg;have:=seqL_up hF n (.l (d.rows++[(F r).1])) (F r).2 u1;rw [seqL,if_pos hg];exact ⟨this.1,by omega⟩
theorem seq_up {ws:D} {go:Rd->Bool} {F:Rd->List D × Rd} (hF:SqOK ws go F) (d:D) {r:Rd} (h:rdOK ws r.nx):rdOK ws (seqA go F ws d r).2.nx/\r.nx<=(seqA go F ws d r).2.nx:=seqL_up hF _ d r h
theorem ap_len (d:D) (x:List D):(D.l (d.rows++[x])).len=d.len+1:=by
 show (d.rows++[x]).length=d.rows.length+1;rw [List.length_append];rfl
def amG (ws:D) (r:Rd):Bool:=decide (pkK ws r.nx=1)
def amF (P:PB) (en:Int) (ws:D) (dp:Int) (r:Rd):List D × Rd:=((amS P en ws dp r).row,(amA P en ws dp r).2)
def rvX (en:Int) (ws:D) (r:Rd):Rd:=exR ws en obB (nmR ws en (exR ws en kwR r))
def rvA (P:PB) (en:Int) (ws:D) (dp:Int) (r:Rd):D × Rd:=seqA (amG ws) (amF P en ws dp) ws (.l [(amS P en ws dp (rvX en ws r)).row]) (amA P en ws dp (rvX en ws r)).2
def rvS (P:PB) (en:Int) (ws:D) (dp:Int) (r:Rd):St:=⟨5,nmS ws (exR ws en kwR r),ByteArray.empty,X00,C00,.l [],.l [],(rvA P en ws dp r).1⟩
def rvR (P:PB) (en:Int) (ws:D) (dp:Int) (r:Rd):Rd:=exR ws en cbB (rvA P en ws dp r).2
theorem am_up {P:PB} {ws:D} {en:Int} (hPa:∀ dp,PbOK ws (P en ws dp)) {dp:Int} {r:Rd} (h:rdOK ws r.nx):rdOK ws (amA P en ws dp r).2.nx/\r.nx<=(amA P en ws dp r).2.nx:=by
 have a0:=nm_up en h;have a1:=ex_up en (t:=opB) a0.1 (by decide);have a2:=nm_up en a1.1;have a3:=ex_up en (t:=clB) a2.1 (by decide);obtain ⟨b1,b2,b3,b4,b5⟩:=blF_up hPa (dp:=dp) a3.1;exact ⟨b4,Int.le_trans a0.2 (Int.le_trans a1.2 (Int.le_trans a2.2 (Int.le_trans a3.2 b5)))⟩
theorem am_sq {P:PB} {ws:D} {en:Int} (hPa:∀ dp,PbOK ws (P en ws dp)) (dp:Int):SqOK ws (amG ws) (amF P en ws dp):=⟨fun r h hg=>by
 have hk:pkK ws r.nx=1:=of_decide_eq_true hg;have hl:=pk_lt (ws:=ws) (nx:=r.nx) (by rw [hk];decide);have e:nmR ws en r=gx r:=if_pos hk;have a0:=nm_up en h;have a1:=ex_up en (t:=opB) a0.1 (by decide);have a2:=nm_up en a1.1;have a3:=ex_up en (t:=clB) a2.1 (by decide);obtain ⟨b1,b2,b3,b4,b5⟩:=blF_up hPa (dp:=dp) a3.1;have e2:(nmR ws en r).nx=r.nx+1:=by rw [e];rfl
 have h9:(nmR ws en r).nx<=(amA P en ws dp r).2.nx:=Int.le_trans a1.2 (Int.le_trans a2.2 (Int.le_trans a3.2 b5));exact ⟨b4,by show r.nx<(amA P en ws dp r).2.nx;omega⟩⟩
theorem rv_up {P:PB} {ws:D} {en:Int} (hPa:∀ dp,PbOK ws (P en ws dp)) {dp:Int} {r:Rd} (h:rdOK ws r.nx):rdOK ws (exR ws en kwR r).nx/\rdOK ws (nmR ws en (exR ws en kwR r)).nx/\rdOK ws (rvX en ws r).nx/\(exR ws en kwR r).nx<=(rvX en ws r).nx/\rdOK ws (rvA P en ws dp r).2.nx/\(rvX en ws r).nx<=(rvA P en ws dp r).2.nx/\rdOK ws (rvR P en ws dp r).nx/\(rvX en ws r).nx<=(rvR P en ws dp r).nx:=by
 have a0:=ex_up en (t:=kwR) h (by decide);have a1:=nm_up en a0.1;have a2:=ex_up en (t:=obB) a1.1 (by decide);have b:=am_up hPa (dp:=dp) a2.1;have c:=seq_up (am_sq hPa dp) (.l [(amS P en ws dp (rvX en ws r)).row]) b.1;have d:=ex_up en (t:=cbB) c.1 (by decide);exact ⟨a0.1,a1.1,a2.1,Int.le_trans a1.2 a2.2,c.1,Int.le_trans b.2 c.2,d.1,Int.le_trans b.2 (Int.le_trans c.2 d.2)⟩
noncomputable def rcvS (P:PB) (m:Nat):List Dat->Option (Eff × List Seg):=fun ds=>match ds with
 | [.d ws,.i nx,.i en,.i pa,.i er,.i dp]=>some ({val:=.one (.agg [.c (.int .i64 (.sym ((rvS P en ws dp (mR nx pa er))).k)),.c (.raw (.string ((rvS P en ws dp (mR nx pa er))).nm)),.c (.raw (.string ((rvS P en ws dp (mR nx pa er))).tg)),.c (.int .i64 (.sym (((rvS P en ws dp (mR nx pa er))).e).k)),.c (.int .i64 (.sym (((rvS P en ws dp (mR nx pa er))).e).n)),.c (.raw (.string (((rvS P en ws dp (mR nx pa er))).e).s)),.c (.osl 186 0 (.lit 0) (.sym (((rvS P en ws dp (mR nx pa er))).e).d.len)),.c (.int .i64 (.sym ((rvS P en ws dp (mR nx pa er))).c.op)),.c (.int .i64 (.sym (((rvS P en ws dp (mR nx pa er))).c.l).k)),.c (.int .i64 (.sym (((rvS P en ws dp (mR nx pa er))).c.l).n)),.c (.raw (.string (((rvS P en ws dp (mR nx pa er))).c.l).s)),.c (.osl 186 1 (.lit 0) (.sym (((rvS P en ws dp (mR nx pa er))).c.l).d.len)),.c (.int .i64 (.sym (((rvS P en ws dp (mR nx pa er))).c.r).k)),.c (.int .i64 (.sym (((rvS P en ws dp (mR nx pa er))).c.r).n)),.c (.raw (.string (((rvS P en ws dp (mR nx pa er))).c.r).s)),.c (.osl 186 2 (.lit 0) (.sym (((rvS P en ws dp (mR nx pa er))).c.r).d.len)),.c (.osl 193 3 (.lit 0) (.sym ((rvS P en ws dp (mR nx pa er))).b.len)),.c (.osl 193 4 (.lit 0) (.sym ((rvS P en ws dp (mR nx pa er))).el.len)),.c (.osl 195 5 (.lit 0) (.sym ((rvS P en ws dp (mR nx pa er))).ar.len))]),vc:=[rdOK ws nx,dpOK ws (mR nx pa er) dp,left ws (mR nx pa er)<m+1,(mR nx pa er).nx<ws.len],nw:=[(0,.orow 186 ((rvS P en ws dp (mR nx pa er))).e.d),(1,.orow 186 ((rvS P en ws dp (mR nx pa er))).c.l.d),(2,.orow 186 ((rvS P en ws dp (mR nx pa er))).c.r.d),(3,.orow 193 ((rvS P en ws dp (mR nx pa er))).b),(4,.orow 193 ((rvS P en ws dp (mR nx pa er))).el),(5,.orow 195 ((rvS P en ws dp (mR nx pa er))).ar)]},[.c (.rows 202 ws),.c (.int .i64 (.sym (((rvR P en ws dp (mR nx pa er))).nx))),.c (.int .i64 (.sym en)),.c (.int .i64 (.sym (((rvR P en ws dp (mR nx pa er))).pa))),.c (.int .i64 (.sym (((rvR P en ws dp (mR nx pa er))).er)))])
 |_=>none
noncomputable def rcvC (P:PB) (m:Nat):Con:=conM 135 [.c (.rows 202),.c (.int .i64),.c (.int .i64),.c (.int .i64),.c (.int .i64)] [.sc (.int .i64)] (rcvS P m)
theorem rcv_ok {P:PB} {m:Nat} (hP:ConOK Tryz.prog 123 (stmC P m)) (hPa:∀ en ws dp,PbOK ws (P en ws dp)):ConOK Tryz.prog 151 (rcvC P m):=by
 refine fn_obM tt_ok mixed Tryz.func151 rfl (fun _ _=>by kernel_rfl) (A:=fun ds=>⟨fun _=>Cons.of [(171,(armC P m)),(118,pekC),(119,namC),(122,expC)],fun k=>match k,ds with | 5,[.d ws,.i nx,.i en,.i pa,.i er,.i dp]=>some {ι:=D × Rd,pre:=fun _ q=>rdOK ws q.2.nx/\(seqA (amG ws) (amF P en ws dp) ws q.1 q.2=rvA P en ws dp (mR nx pa er))/\q.1.len+left ws q.2<=1000001/\(rvX en ws (mR nx pa er)).nx<=q.2.nx,μ:=fun q=>left ws q.2,st:=fun s q=>famR s [] [0,1,4,5] [(0,.own 135 ([.c (.rows 202 ws),.c (.int .i64 (.sym ((q.2).nx))),.c (.int .i64 (.sym en)),.c (.int .i64 (.sym ((q.2).pa))),.c (.int .i64 (.sym ((q.2).er)))])),(idOf s 5,.own 193 ([.c (.int .i64 (.sym 5)),.c (.raw (.string (nmS ws (exR ws en kwR (mR nx pa er))))),.c (.raw (.string ByteArray.empty)),.c (.int .i64 (.sym 0)),.c (.int .i64 (.sym 0)),.c (.raw (.string ByteArray.empty)),.c .nils,.c (.int .i64 (.sym 0)),.c (.int .i64 (.sym 0)),.c (.int .i64 (.sym 0)),.c (.raw (.string ByteArray.empty)),.c .nils,.c (.int .i64 (.sym 0)),.c (.int .i64 (.sym 0)),.c (.raw (.string ByteArray.empty)),.c .nils,.c .nils,.c .nils,.c (.osl 195 (cellIdP s 5 18) (.lit 0) (.sym (q.1.len)))])),(cellIdP s 5 18,.orow 195 (q.1))] [4]} |_,_=>none,fun _=>none⟩) (fun _ _=>(cons_cons (arm_ok hP hPa) (cons_cons pek_ok (cons_cons nam_ok (cons_cons exp_ok cons_nil))))) (by kernel_rfl) ?_
 intro ds;unfold rcvS;split
 ·rename_i ws nx en pa er dp
  refine kmp (q:=withv (exR ws en obB (nmR ws en (exR ws en kwR (mR nx pa er)))) fun E200=>withv (rvS P en ws dp (mR nx pa er)) fun E201=>withv (fun (i:D × Rd)=>D.l [[D.s (amS P en ws dp i.snd).tg,D.s (amS P en ws dp i.snd).vr,(amS P en ws dp i.snd).b.sub 0 ((0:Nat)+(amS P en ws dp i.snd).b.len)]]) fun E202=>withv (exR ws en kwR (mR nx pa er)) fun E203=>withv (D.l [[D.s (amS P en ws dp E200).tg,D.s (amS P en ws dp E200).vr,(amS P en ws dp E200).b.sub 0 ((0:Nat)+(amS P en ws dp E200).b.len)]]) fun E204=>rdOK ws nx->dpOK ws (mR nx pa er) dp->left ws (mR nx pa er)<m+1->(mR nx pa er).nx<(ws.len:Int)->rdOK ws nx/\0<kwR.size/\rdOK ws E203.nx/\rdOK ws (nmR ws en E203).nx/\0<obB.size/\rdOK ws E200.nx/\dqOK ws E200 dp/\left ws E200<m/\0+(amS P en ws dp E200).b.len<=(amS P en ws dp E200).b.len/\((0:Nat)+(E204.sub 0 1).len)*56<=140737488355328/\0+1<=E204.len/\(∃ (i:D × Rd),(rdOK ws i.snd.nx/\seqA (amG ws) (amF P en ws dp) ws i.fst i.snd=rvA P en ws dp (mR nx pa er)/\i.fst.len+left ws i.snd<=1000001/\(rvX en ws (mR nx pa er)).nx<=i.snd.nx)/\dp=dp/\ws.rows=ws.rows/\(amA P en ws dp E200).snd.nx=i.snd.nx/\en=en/\(amA P en ws dp E200).snd.pa=i.snd.pa/\(amA P en ws dp E200).snd.er=i.snd.er/\(5:Int)=(5:Int)/\Value.string (nmS ws E203)=Value.string (nmS ws E203)/\Value.string ByteArray.empty=Value.string ByteArray.empty/\(0:Int)=(0:Int)/\(0:Int)=(0:Int)/\Value.string ByteArray.empty=Value.string ByteArray.empty/\(0:Int)=(0:Int)/\(0:Int)=(0:Int)/\(0:Int)=(0:Int)/\Value.string ByteArray.empty=Value.string ByteArray.empty/\(0:Int)=(0:Int)/\(0:Int)=(0:Int)/\Value.string ByteArray.empty=Value.string ByteArray.empty/\1=i.fst.len /\ []++List.drop 0 (List.take 1 [[D.s (amS P en ws dp E200).tg,D.s (amS P en ws dp E200).vr,(amS P en ws dp E200).b.sub 0 ((0:Nat)+(amS P en ws dp E200).b.len)]])=i.fst.rows/\(0:Int)=(0:Int)/\Value.string ByteArray.empty=Value.string ByteArray.empty/\Value.string ByteArray.empty=Value.string ByteArray.empty/\(0:Int)=(0:Int)/\(0:Int)=(0:Int)/\Value.string ByteArray.empty=Value.string ByteArray.empty/\(0:Int)=(0:Int)/\(0:Int)=(0:Int)/\(0:Int)=(0:Int)/\Value.string ByteArray.empty=Value.string ByteArray.empty/\(0:Int)=(0:Int)/\(0:Int)=(0:Int)/\Value.string ByteArray.empty=Value.string ByteArray.empty)/\∀ (i:D × Rd),rdOK ws i.snd.nx/\seqA (amG ws) (amF P en ws dp) ws i.fst i.snd=rvA P en ws dp (mR nx pa er)/\i.fst.len+left ws i.snd<=1000001/\(rvX en ws (mR nx pa er)).nx<=i.snd.nx->rdOK ws i.snd.nx/\((pkK ws i.snd.nx==(1:Int))=true->rdOK ws i.snd.nx/\dqOK ws i.snd dp/\left ws i.snd<m/\0+(amS P en ws dp i.snd).b.len<=(amS P en ws dp i.snd).b.len/\i.fst.len=i.fst.len/\(i.fst.len+((E202 i).sub 0 1).len)*56<=140737488355328/\0+1<=(E202 i).len/\∃ (j:D × Rd),(rdOK ws j.snd.nx/\seqA (amG ws) (amF P en ws dp) ws j.fst j.snd=rvA P en ws dp (mR nx pa er)/\j.fst.len+left ws j.snd<=1000001/\(rvX en ws (mR nx pa er)).nx<=j.snd.nx)/\left ws j.snd<left ws i.snd/\dp=dp/\ws.rows=ws.rows/\(amA P en ws dp i.snd).snd.nx=j.snd.nx/\en=en/\(amA P en ws dp i.snd).snd.pa=j.snd.pa/\(amA P en ws dp i.snd).snd.er=j.snd.er/\(5:Int)=(5:Int)/\Value.string (nmS ws E203)=Value.string (nmS ws E203)/\Value.string ByteArray.empty=Value.string ByteArray.empty/\(0:Int)=(0:Int)/\(0:Int)=(0:Int)/\Value.string ByteArray.empty=Value.string ByteArray.empty/\(0:Int)=(0:Int)/\(0:Int)=(0:Int)/\(0:Int)=(0:Int)/\Value.string ByteArray.empty=Value.string ByteArray.empty/\(0:Int)=(0:Int)/\(0:Int)=(0:Int)/\Value.string ByteArray.empty=Value.string ByteArray.empty/\i.fst.len+((E202 i).sub 0 1).len=j.fst.len/\i.fst.rows++List.drop 0 (List.take 1 [[D.s (amS P en ws dp i.snd).tg,D.s (amS P en ws dp i.snd).vr,(amS P en ws dp i.snd).b.sub 0 ((0:Nat)+(amS P en ws dp i.snd).b.len)]])=j.fst.rows/\(0:Int)=(0:Int)/\Value.string ByteArray.empty=Value.string ByteArray.empty/\Value.string ByteArray.empty=Value.string ByteArray.empty/\(0:Int)=(0:Int)/\(0:Int)=(0:Int)/\Value.string ByteArray.empty=Value.string ByteArray.empty/\(0:Int)=(0:Int)/\(0:Int)=(0:Int)/\(0:Int)=(0:Int)/\Value.string ByteArray.empty=Value.string ByteArray.empty/\(0:Int)=(0:Int)/\(0:Int)=(0:Int)/\Value.string ByteArray.empty=Value.string ByteArray.empty)/\((pkK ws i.snd.nx==(1:Int))=false->rdOK ws i.snd.nx/\0<cbB.size/\(5:Int)=E201.k/\Value.string (nmS ws E203)=Value.string E201.nm/\Value.string ByteArray.empty=Value.string E201.tg/\(0:Int)=E201.e.k/\(0:Int)=E201.e.n/\Value.string ByteArray.empty=Value.string E201.e.s/\E201.e.d.len=0/\(0:Int)=E201.c.op/\(0:Int)=E201.c.l.k/\(0:Int)=E201.c.l.n/\Value.string ByteArray.empty=Value.string E201.c.l.s/\E201.c.l.d.len=0/\(0:Int)=E201.c.r.k/\(0:Int)=E201.c.r.n/\Value.string ByteArray.empty=Value.string E201.c.r.s/\E201.c.r.d.len=0/\E201.b.len=0/\E201.el.len=0/\i.fst.len=E201.ar.len/\ws.rows=ws.rows/\(exR ws en cbB i.snd).nx=(rvR P en ws dp (mR nx pa er)).nx/\en=en/\(exR ws en cbB i.snd).pa=(rvR P en ws dp (mR nx pa er)).pa/\(exR ws en cbB i.snd).er=(rvR P en ws dp (mR nx pa er)).er/\([]:List (List D))=[]/\([]:List (List D))=[]/\([]:List (List D))=[]/\([]:List (List D))=[]/\([]:List (List D))=[]/\i.fst.rows=E201.ar.rows)) (by kernel_rfl) ?_
  dsimp +instances only [withv]
  intro h hd hl hn;obtain ⟨a0,a1,a2,a3,a4,a5,a6,a7⟩:=rv_up (hPa en ws) (dp:=dp) (r:=mR nx pa er) h;have q1:=dp_q hd h hn (Int.lt_of_lt_of_le (ex_lt en hn) a3);have q2:=q1.1;have q3:left ws (rvX en ws (mR nx pa er))<m:=by have:=q1.2;omega
  have b:=am_up (hPa en ws) (dp:=dp) a2;have l0:=(lf_lt b.1).2;refine ⟨h,by decide,a0,a1,by decide,a2,q2,q3,Nat.le_of_eq (Nat.zero_add _),(by show (0+1)*56<=140737488355328;decide),Nat.le_refl 1,⟨(.l [(amS P en ws dp (rvX en ws (mR nx pa er))).row],(amA P en ws dp (rvX en ws (mR nx pa er))).2),⟨b.1,rfl,(by show 1+left ws (amA P en ws dp (rvX en ws (mR nx pa er))).2<=1000001;omega),b.2⟩,?_⟩,?_⟩
  ·simp only [subAll]
   (repeat' (with_reducible apply And.intro))<;>first |with_reducible rfl |exact True.intro |with_reducible assumption |decide |assumption |rfl
  rintro q ⟨h1,h2,h3,h4⟩;have l1:=left_le (ws:=ws) h4;refine ⟨h1,fun hc=>?_,fun hc=>?_⟩
  ·have hk:pkK ws q.2.nx=1:=eq_of_beq hc;have hg:amG ws q.2=true:=decide_eq_true hk;obtain ⟨u1,u2⟩:=(am_sq (hPa en ws) dp).up q.2 h1 hg;have u3:=lt_left u1 h1 u2;have hs:=seq_step (am_sq (hPa en ws) dp) (d:=q.1) h1 hg;refine ⟨h1,dq_le q2 h4,by omega,Nat.le_of_eq (Nat.zero_add _),rfl,(by show (q.1.len+1)*56<=140737488355328;omega),Nat.le_refl 1,(.l (q.1.rows++[(amS P en ws dp q.2).row]),(amA P en ws dp q.2).2),⟨u1,hs.trans h2,?_,Int.le_trans h4 (Int.le_of_lt u2)⟩,u3,?_⟩
   ·have u4:left ws (amA P en ws dp q.2).2<left ws q.2:=u3;show (D.l (q.1.rows++[(amS P en ws dp q.2).row])).len+left ws (amA P en ws dp q.2).2<=1000001;rw [ap_len];omega
   ·simp only [subAll]
    (repeat' (with_reducible apply And.intro))<;>first |with_reducible rfl |exact True.intro |exact (ap_len _ _).symm |rfl
  ·have hk:pkK ws q.2.nx≠1:=ne_of_beq_false hc;have hg:amG ws q.2=false:=decide_eq_false hk;have h2:(q.1,q.2)=rvA P en ws dp (mR nx pa er):=(seq_end hg).symm.trans h2;simp only [rvS,rvR,<- h2]
   (repeat' (with_reducible apply And.intro))<;>first |with_reducible rfl |exact True.intro |with_reducible assumption |decide |assumption |rfl
 ·trivial
end Go.Proofs.YtplejbgafjpomaaGreatDoor.Sx.Z
namespace Go.Proofs.YtplejbgafjpomaaGreatDoor.Sx
def famN (s:St) (sl:Slots) (ks:List Nat) (es:Heap) (hs:List Nat):St:={tm:=sl++keepS s.tm ks,hp:=es++keepH s.hp (hs.map (idOf s)),nx:=s.nx+1}
end Go.Proofs.YtplejbgafjpomaaGreatDoor.Sx
namespace Go.Proofs.YtplejbgafjpomaaGreatDoor.Sx.Z
open Go.RowKit
def asS (ws:D) (en:Int) (r:Rd):St:=⟨1,nmS ws r,ByteArray.empty,(asE ws en r).1,C00,.l [],.l [],.l []⟩
def snS (ws:D) (en:Int) (r:Rd):St:=⟨4,nmS ws (snN ws en r),nmS ws (snT ws en r),(snE ws en r).1,C00,.l [],.l [],.l []⟩
def atS (ws:D) (en:Int) (r:Rd):St:=⟨6,ByteArray.empty,ByteArray.empty,X00,atC ws en r,.l [],.l [],.l []⟩
def inS (ws:D) (en:Int) (r:Rd):St:=⟨7,nmS ws (exR ws en kwI r),ByteArray.empty,X00,C00,.l [],.l [],.l []⟩
def stF (P:PB) (en:Int) (ws:D) (dp:Int) (r:Rd):St × Rd:=
 if acB ws r.nx kwF=true then (cfS P en ws dp r,(cfB P en ws dp r).2)
 else if acB ws r.nx kwW=true then (lpS P en ws dp r,(lpA P en ws dp r).2)
 else if acB ws r.nx kwS=true then (snS ws en r,snR ws en r)
 else if acB ws r.nx kwR=true then (rvS P en ws dp r,rvR P en ws dp r)
 else if acB ws r.nx kwA=true then (atS ws en r,atR ws en r)
 else if acB ws r.nx kwI=true then (inS ws en r,inR ws en r)
 else (asS ws en r,asR ws en r)
def stH (P:PB) (en:Int) (ws:D) (dp:Int) (r:Rd):List D × Rd:=((stF P en ws dp r).1.row,(stF P en ws dp r).2)
def stG (ws:D) (r:Rd):Bool:=acB ws r.nx kwF ||acB ws r.nx kwW ||acB ws r.nx kwS ||acB ws r.nx kwR ||acB ws r.nx kwA ||acB ws r.nx kwI ||decide (pkK ws r.nx=1)
def smA (P:PB):PB:=fun en ws dp r=>seqA (stG ws) (stH P en ws dp) ws (.l []) r
theorem cf_up {P:PB} {ws:D} {en:Int} (hPa:∀ dp,PbOK ws (P en ws dp)) {dp:Int} {r:Rd} (h:rdOK ws r.nx):rdOK ws (cfB P en ws dp r).2.nx/\(exR ws en kwF r).nx<=(cfB P en ws dp r).2.nx:=by
 have a0:=(ex_up en (t:=kwF) h (by decide)).1;obtain ⟨_,_,_,_,a5,a6⟩:=cd_up en a0;obtain ⟨b1,b2,b3,b4,b5⟩:=blF_up hPa (dp:=dp) a5;have c1:=ac_up (t:=kwL) b4 (by decide);obtain ⟨d3,d4,d5,d6,d7⟩:=blF_up hPa (dp:=dp) c1.1;unfold cfB;split
 ·exact ⟨d6,Int.le_trans a6 (Int.le_trans b5 (Int.le_trans c1.2 d7))⟩
 ·exact ⟨c1.1,Int.le_trans a6 (Int.le_trans b5 c1.2)⟩
theorem lp_up {P:PB} {ws:D} {en:Int} (hPa:∀ dp,PbOK ws (P en ws dp)) {dp:Int} {r:Rd} (h:rdOK ws r.nx):rdOK ws (lpA P en ws dp r).2.nx/\(exR ws en kwW r).nx<=(lpA P en ws dp r).2.nx:=by
 have a0:=(ex_up en (t:=kwW) h (by decide)).1;obtain ⟨_,_,_,_,a5,a6⟩:=cd_up en a0;obtain ⟨b1,b2,b3,b4,b5⟩:=blF_up hPa (dp:=dp) a5;exact ⟨b4,Int.le_trans a6 b5⟩
theorem sn_up {ws:D} (en:Int) {r:Rd} (h:rdOK ws r.nx):rdOK ws (snR ws en r).nx/\(exR ws en kwS r).nx<=(snR ws en r).nx:=by
 have a1:=ex_up en (t:=kwS) h (by decide);have a2:=nm_up en a1.1;have a3:=ex_up en (t:=doB) a2.1 (by decide);have a4:=nm_up en a3.1;have a5:=ex_up en (t:=opB) a4.1 (by decide);have a6:=(smX_up en ws 0).up _ a5.1;have a7:=ex_up en (t:=clB) a6.2.1 (by decide);have a8:=ex_up en (t:=seB) a7.1 (by decide);exact ⟨a8.1,Int.le_trans a2.2 (Int.le_trans a3.2 (Int.le_trans a4.2 (Int.le_trans a5.2 (Int.le_trans a6.1 (Int.le_trans a7.2 a8.2)))))⟩
theorem at_up {ws:D} (en:Int) {r:Rd} (h:rdOK ws r.nx):rdOK ws (atR ws en r).nx/\(exR ws en kwA r).nx<=(atR ws en r).nx:=by
 have a1:=ex_up en (t:=kwA) h (by decide);obtain ⟨_,_,_,_,a5,a6⟩:=cd_up en a1.1;have a8:=ex_up en (t:=seB) a5 (by decide);exact ⟨a8.1,Int.le_trans a6 a8.2⟩
theorem in_up {ws:D} (en:Int) {r:Rd} (h:rdOK ws r.nx):rdOK ws (inR ws en r).nx/\(exR ws en kwI r).nx<=(inR ws en r).nx:=by
 have a1:=ex_up en (t:=kwI) h (by decide);have a2:=nm_up en a1.1;have a8:=ex_up en (t:=seB) a2.1 (by decide);exact ⟨a8.1,Int.le_trans a2.2 a8.2⟩
theorem as_up {ws:D} (en:Int) {r:Rd} (h:rdOK ws r.nx):rdOK ws (asR ws en r).nx/\(nmR ws en r).nx<=(asR ws en r).nx:=by
 have a2:=nm_up en h;have a3:=ex_up en (t:=eqB) a2.1 (by decide);have a6:=(smX_up en ws 0).up _ a3.1;have a8:=ex_up en (t:=seB) a6.2.1 (by decide);exact ⟨a8.1,Int.le_trans a3.2 (Int.le_trans a6.1 a8.2)⟩
theorem st_sq {P:PB} {ws:D} {en:Int} (hPa:∀ dp,PbOK ws (P en ws dp)) (dp:Int):SqOK ws (stG ws) (stH P en ws dp):=⟨fun r h hg=>by
 unfold stH stF
 by_cases k0:acB ws r.nx kwF=true
 ·simp only [if_pos k0];have u:rdOK ws ((cfB P en ws dp r).2).nx/\(exR ws en kwF r).nx<=((cfB P en ws dp r).2).nx:=cf_up hPa h;exact ⟨u.1,Int.lt_of_lt_of_le (ex_lt en (ac_lt (by decide) k0)) u.2⟩
 by_cases k1:acB ws r.nx kwW=true
 ·simp only [if_neg k0,if_pos k1];have u:rdOK ws ((lpA P en ws dp r).2).nx/\(exR ws en kwW r).nx<=((lpA P en ws dp r).2).nx:=lp_up hPa h;exact ⟨u.1,Int.lt_of_lt_of_le (ex_lt en (ac_lt (by decide) k1)) u.2⟩
 by_cases k2:acB ws r.nx kwS=true
 ·simp only [if_neg k0,if_neg k1,if_pos k2];have u:rdOK ws (snR ws en r).nx/\(exR ws en kwS r).nx<=(snR ws en r).nx:=sn_up en h;exact ⟨u.1,Int.lt_of_lt_of_le (ex_lt en (ac_lt (by decide) k2)) u.2⟩
 by_cases k3:acB ws r.nx kwR=true
 ·simp only [if_neg k0,if_neg k1,if_neg k2,if_pos k3];have u:rdOK ws (rvR P en ws dp r).nx/\(exR ws en kwR r).nx<=(rvR P en ws dp r).nx:=⟨(rv_up hPa h).2.2.2.2.2.2.1,Int.le_trans (rv_up hPa (dp:=dp) h).2.2.2.1 (rv_up hPa h).2.2.2.2.2.2.2⟩;exact ⟨u.1,Int.lt_of_lt_of_le (ex_lt en (ac_lt (by decide) k3)) u.2⟩
 by_cases k4:acB ws r.nx kwA=true
 ·simp only [if_neg k0,if_neg k1,if_neg k2,if_neg k3,if_pos k4];have u:rdOK ws (atR ws en r).nx/\(exR ws en kwA r).nx<=(atR ws en r).nx:=at_up en h;exact ⟨u.1,Int.lt_of_lt_of_le (ex_lt en (ac_lt (by decide) k4)) u.2⟩
 by_cases k5:acB ws r.nx kwI=true
 ·simp only [if_neg k0,if_neg k1,if_neg k2,if_neg k3,if_neg k4,if_pos k5];have u:rdOK ws (inR ws en r).nx/\(exR ws en kwI r).nx<=(inR ws en r).nx:=in_up en h;exact ⟨u.1,Int.lt_of_lt_of_le (ex_lt en (ac_lt (by decide) k5)) u.2⟩
 have hk:pkK ws r.nx=1:=by
  simpa [stG,k0,k1,k2,k3,k4,k5] using hg
 simp only [if_neg k0,if_neg k1,if_neg k2,if_neg k3,if_neg k4,if_neg k5];have u:=as_up en h;have e:(nmR ws en r).nx=r.nx+1:=by rw [show nmR ws en r=gx r from if_pos hk];rfl
 exact ⟨u.1,by omega⟩⟩
theorem smA_up {P:PB} (hPa:∀ en ws dp,PbOK ws (P en ws dp)) (en:Int) (ws:D) (dp:Int):PbOK ws (smA P en ws dp):=⟨fun r h=>by
 have:=seq_up (st_sq (hPa en ws) dp) (.l []) h;exact ⟨this.2,this.1⟩⟩
def p1x0 (P:PB) (en:Int) (ws:D) (dp:Int) (i:D × Rd):List D:=[D.i (cfS P en ws dp i.snd).k,D.s (cfS P en ws dp i.snd).nm,D.s (cfS P en ws dp i.snd).tg,D.i (cfS P en ws dp i.snd).e.k,D.i (cfS P en ws dp i.snd).e.n,D.s (cfS P en ws dp i.snd).e.s,(cfS P en ws dp i.snd).e.d.sub 0 ((0:Nat)+(cfS P en ws dp i.snd).e.d.len),D.i (cfS P en ws dp i.snd).c.op,D.i (cfS P en ws dp i.snd).c.l.k,D.i (cfS P en ws dp i.snd).c.l.n,D.s (cfS P en ws dp i.snd).c.l.s,(cfS P en ws dp i.snd).c.l.d.sub 0 ((0:Nat)+(cfS P en ws dp i.snd).c.l.d.len),D.i (cfS P en ws dp i.snd).c.r.k,D.i (cfS P en ws dp i.snd).c.r.n,D.s (cfS P en ws dp i.snd).c.r.s,(cfS P en ws dp i.snd).c.r.d.sub 0 ((0:Nat)+(cfS P en ws dp i.snd).c.r.d.len),(cfS P en ws dp i.snd).b.sub 0 ((0:Nat)+(cfS P en ws dp i.snd).b.len),(cfS P en ws dp i.snd).el.sub 0 ((0:Nat)+(cfS P en ws dp i.snd).el.len),(cfS P en ws dp i.snd).ar.sub 0 ((0:Nat)+(cfS P en ws dp i.snd).ar.len)]
def p1x1 (P:PB) (en:Int) (ws:D) (dp:Int) (i:D × Rd):List D:=[D.i (lpS P en ws dp i.snd).k,D.s (lpS P en ws dp i.snd).nm,D.s (lpS P en ws dp i.snd).tg,D.i (lpS P en ws dp i.snd).e.k,D.i (lpS P en ws dp i.snd).e.n,D.s (lpS P en ws dp i.snd).e.s,(lpS P en ws dp i.snd).e.d.sub 0 ((0:Nat)+(lpS P en ws dp i.snd).e.d.len),D.i (lpS P en ws dp i.snd).c.op,D.i (lpS P en ws dp i.snd).c.l.k,D.i (lpS P en ws dp i.snd).c.l.n,D.s (lpS P en ws dp i.snd).c.l.s,(lpS P en ws dp i.snd).c.l.d.sub 0 ((0:Nat)+(lpS P en ws dp i.snd).c.l.d.len),D.i (lpS P en ws dp i.snd).c.r.k,D.i (lpS P en ws dp i.snd).c.r.n,D.s (lpS P en ws dp i.snd).c.r.s,(lpS P en ws dp i.snd).c.r.d.sub 0 ((0:Nat)+(lpS P en ws dp i.snd).c.r.d.len),(lpS P en ws dp i.snd).b.sub 0 ((0:Nat)+(lpS P en ws dp i.snd).b.len),(lpS P en ws dp i.snd).el.sub 0 ((0:Nat)+(lpS P en ws dp i.snd).el.len),(lpS P en ws dp i.snd).ar.sub 0 ((0:Nat)+(lpS P en ws dp i.snd).ar.len)]
def p1x2 (P:PB) (en:Int) (ws:D) (dp:Int) (i:D × Rd):List D:=[D.i (rvS P en ws dp i.snd).k,D.s (rvS P en ws dp i.snd).nm,D.s (rvS P en ws dp i.snd).tg,D.i (rvS P en ws dp i.snd).e.k,D.i (rvS P en ws dp i.snd).e.n,D.s (rvS P en ws dp i.snd).e.s,(rvS P en ws dp i.snd).e.d.sub 0 ((0:Nat)+(rvS P en ws dp i.snd).e.d.len),D.i (rvS P en ws dp i.snd).c.op,D.i (rvS P en ws dp i.snd).c.l.k,D.i (rvS P en ws dp i.snd).c.l.n,D.s (rvS P en ws dp i.snd).c.l.s,(rvS P en ws dp i.snd).c.l.d.sub 0 ((0:Nat)+(rvS P en ws dp i.snd).c.l.d.len),D.i (rvS P en ws dp i.snd).c.r.k,D.i (rvS P en ws dp i.snd).c.r.n,D.s (rvS P en ws dp i.snd).c.r.s,(rvS P en ws dp i.snd).c.r.d.sub 0 ((0:Nat)+(rvS P en ws dp i.snd).c.r.d.len),(rvS P en ws dp i.snd).b.sub 0 ((0:Nat)+(rvS P en ws dp i.snd).b.len),(rvS P en ws dp i.snd).el.sub 0 ((0:Nat)+(rvS P en ws dp i.snd).el.len),(rvS P en ws dp i.snd).ar.sub 0 ((0:Nat)+(rvS P en ws dp i.snd).ar.len)]
def p1x3 (en:Int) (ws:D) (i:D × Rd):List D:=[D.i (6:Int),D.s ByteArray.empty,D.s ByteArray.empty,D.i (0:Int),D.i (0:Int),D.s ByteArray.empty,D.l [],D.i (atC ws en i.snd).op,D.i (atC ws en i.snd).l.k,D.i (atC ws en i.snd).l.n,D.s (atC ws en i.snd).l.s,(atC ws en i.snd).l.d.sub 0 ((0:Nat)+(atC ws en i.snd).l.d.len),D.i (atC ws en i.snd).r.k,D.i (atC ws en i.snd).r.n,D.s (atC ws en i.snd).r.s,(atC ws en i.snd).r.d.sub 0 ((0:Nat)+(atC ws en i.snd).r.d.len),D.l [],D.l [],D.l []]
def p1x4 (en:Int) (ws:D) (i:D × Rd):List D:=[D.i (4:Int),D.s (nmS ws (snN ws en i.snd)),D.s (nmS ws (snT ws en i.snd)),D.i (snE ws en i.snd).fst.k,D.i (snE ws en i.snd).fst.n,D.s (snE ws en i.snd).fst.s,(snE ws en i.snd).fst.d.sub 0 ((0:Nat)+(snE ws en i.snd).fst.d.len),D.i (0:Int),D.i (0:Int),D.i (0:Int),D.s ByteArray.empty,D.l [],D.i (0:Int),D.i (0:Int),D.s ByteArray.empty,D.l [],D.l [],D.l [],D.l []]
def p1x5 (en:Int) (ws:D) (i:D × Rd):List D:=[D.i (1:Int),D.s (nmS ws i.snd),D.s ByteArray.empty,D.i (asE ws en i.snd).fst.k,D.i (asE ws en i.snd).fst.n,D.s (asE ws en i.snd).fst.s,(asE ws en i.snd).fst.d.sub 0 ((0:Nat)+(asE ws en i.snd).fst.d.len),D.i (0:Int),D.i (0:Int),D.i (0:Int),D.s ByteArray.empty,D.l [],D.i (0:Int),D.i (0:Int),D.s ByteArray.empty,D.l [],D.l [],D.l [],D.l []]
def p1x6 (en:Int) (ws:D) (i:D × Rd):List D:=[D.i (7:Int),D.s (nmS ws (exR ws en kwI i.snd)),D.s ByteArray.empty,D.i (0:Int),D.i (0:Int),D.s ByteArray.empty,D.l [],D.i (0:Int),D.i (0:Int),D.i (0:Int),D.s ByteArray.empty,D.l [],D.i (0:Int),D.i (0:Int),D.s ByteArray.empty,D.l [],D.l [],D.l [],D.l []]
noncomputable def stnS (P:PB) (m:Nat):List Dat->Option (Eff × List Seg):=fun ds=>match ds with
 | [.d ws,.i nx,.i en,.i pa,.i er,.i dp]=>some ({val:=.one (.sc (.osl 193 (0) (.lit 0) (.sym ((smA P en ws dp (mR nx pa er)).1.len)))),vc:=[rdOK ws nx,dpOK ws (mR nx pa er) dp,left ws (mR nx pa er)<m+1],nw:=[(0,.orow 193 ((smA P en ws dp (mR nx pa er)).1))]},[.c (.rows 202 ws),.c (.int .i64 (.sym ((((smA P en ws dp (mR nx pa er)).2)).nx))),.c (.int .i64 (.sym en)),.c (.int .i64 (.sym ((((smA P en ws dp (mR nx pa er)).2)).pa))),.c (.int .i64 (.sym ((((smA P en ws dp (mR nx pa er)).2)).er)))])
 |_=>none
noncomputable def stnC (P:PB) (m:Nat):Con:=conM 135 [.c (.rows 202),.c (.int .i64),.c (.int .i64),.c (.int .i64),.c (.int .i64)] [.sc (.int .i64)] (stnS P m)
theorem stn_ok {P:PB} {m:Nat} (hP:ConOK Tryz.prog 123 (stmC P m)) (hPa:∀ en ws dp,PbOK ws (P en ws dp)):ConOK Tryz.prog 123 (stnC P m):=by
 refine fn_obM tt_ok mixed Tryz.func123 rfl (fun _ _=>by kernel_rfl) (A:=fun ds=>⟨fun _=>Cons.of [(148,(choC P m)),(149,(lopC P m)),(151,(rcvC P m)),(150,sndC),(152,assC),(153,inpC),(154,asgC),(118,pekC)],fun k=>match k,ds with | 2,[.d ws,.i nx,.i en,.i pa,.i er,.i dp]=>some {ι:=D × Rd,pre:=fun _ q=>rdOK ws q.2.nx/\(seqA (stG ws) (stH P en ws dp) ws q.1 q.2=smA P en ws dp (mR nx pa er))/\q.1.len+left ws q.2<=1000001/\nx<=q.2.nx,μ:=fun q=>left ws q.2,st:=fun s q=>famN s [(5,.one (.sc (.osl 193 (s.nx) (.lit 0) (.sym (q.1.len)))))] [0,1] [(0,.own 135 ([.c (.rows 202 ws),.c (.int .i64 (.sym ((q.2).nx))),.c (.int .i64 (.sym en)),.c (.int .i64 (.sym ((q.2).pa))),.c (.int .i64 (.sym ((q.2).er)))])),(s.nx,.orow 193 (q.1))] []} |_,_=>none,fun _=>none⟩) (fun _ _=>(cons_cons (cho_ok hP hPa) (cons_cons (lop_ok hP hPa) (cons_cons (rcv_ok hP hPa) (cons_cons snd_ok (cons_cons ass_ok (cons_cons inp_ok (cons_cons asg_ok (cons_cons pek_ok cons_nil))))))))) (by kernel_rfl) ?_
 intro ds;unfold stnS;split
 ·rename_i ws nx en pa er dp
  refine kmp (q:=rdOK ws nx->dpOK ws (mR nx pa er) dp->left ws (mR nx pa er)<m+1->(∃ (i:D × Rd),(rdOK ws i.snd.nx/\seqA (stG ws) (stH P en ws dp) ws i.fst i.snd=smA P en ws dp (mR nx pa er)/\i.fst.len+left ws i.snd<=1000001/\nx<=i.snd.nx)/\i.fst.len=0/\dp=dp/\ws.rows=ws.rows/\nx=i.snd.nx/\en=en/\pa=i.snd.pa/\er=i.snd.er/\i.fst.rows=[])/\∀ (i:D × Rd),rdOK ws i.snd.nx/\seqA (stG ws) (stH P en ws dp) ws i.fst i.snd=smA P en ws dp (mR nx pa er)/\i.fst.len+left ws i.snd<=1000001/\nx<=i.snd.nx->rdOK ws i.snd.nx/\(((pkS ws i.snd.nx).toList==kwF.toList)=true->rdOK ws i.snd.nx/\dpOK ws i.snd dp/\left ws i.snd<m+1/\i.snd.nx<(ws.len:Int)/\0+(cfS P en ws dp i.snd).e.d.len<=(cfS P en ws dp i.snd).e.d.len/\0+(cfS P en ws dp i.snd).c.l.d.len<=(cfS P en ws dp i.snd).c.l.d.len/\0+(cfS P en ws dp i.snd).c.r.d.len<=(cfS P en ws dp i.snd).c.r.d.len/\0+(cfS P en ws dp i.snd).b.len<=(cfS P en ws dp i.snd).b.len/\0+(cfS P en ws dp i.snd).el.len<=(cfS P en ws dp i.snd).el.len/\0+(cfS P en ws dp i.snd).ar.len<=(cfS P en ws dp i.snd).ar.len/\i.fst.len=i.fst.len/\(i.fst.len+((D.l [(p1x0 P en ws dp i)]).sub 0 1).len)*288<=140737488355328/\0+1<=(D.l [(p1x0 P en ws dp i)]).len/\∃ (j:D × Rd),(rdOK ws j.snd.nx/\seqA (stG ws) (stH P en ws dp) ws j.fst j.snd=smA P en ws dp (mR nx pa er)/\j.fst.len+left ws j.snd<=1000001/\nx<=j.snd.nx)/\left ws j.snd<left ws i.snd/\i.fst.len+((D.l [(p1x0 P en ws dp i)]).sub 0 1).len=j.fst.len/\dp=dp/\ws.rows=ws.rows/\(cfB P en ws dp i.snd).snd.nx=j.snd.nx/\en=en/\(cfB P en ws dp i.snd).snd.pa=j.snd.pa/\(cfB P en ws dp i.snd).snd.er=j.snd.er/\i.fst.rows++List.drop 0 (List.take 1 [(p1x0 P en ws dp i)])=j.fst.rows)/\(((pkS ws i.snd.nx).toList==kwF.toList)=false->(((pkS ws i.snd.nx).toList==kwW.toList)=true->rdOK ws i.snd.nx/\dpOK ws i.snd dp/\left ws i.snd<m+1/\i.snd.nx<(ws.len:Int)/\0+(lpS P en ws dp i.snd).e.d.len<=(lpS P en ws dp i.snd).e.d.len/\0+(lpS P en ws dp i.snd).c.l.d.len<=(lpS P en ws dp i.snd).c.l.d.len/\0+(lpS P en ws dp i.snd).c.r.d.len<=(lpS P en ws dp i.snd).c.r.d.len/\0+(lpS P en ws dp i.snd).b.len<=(lpS P en ws dp i.snd).b.len/\0+(lpS P en ws dp i.snd).el.len<=(lpS P en ws dp i.snd).el.len/\0+(lpS P en ws dp i.snd).ar.len<=(lpS P en ws dp i.snd).ar.len/\i.fst.len=i.fst.len/\(i.fst.len+((D.l [(p1x1 P en ws dp i)]).sub 0 1).len)*288<=140737488355328/\0+1<=(D.l [(p1x1 P en ws dp i)]).len/\∃ (j:D × Rd),(rdOK ws j.snd.nx/\seqA (stG ws) (stH P en ws dp) ws j.fst j.snd=smA P en ws dp (mR nx pa er)/\j.fst.len+left ws j.snd<=1000001/\nx<=j.snd.nx)/\left ws j.snd<left ws i.snd/\i.fst.len+((D.l [(p1x1 P en ws dp i)]).sub 0 1).len=j.fst.len/\dp=dp/\ws.rows=ws.rows/\(lpA P en ws dp i.snd).snd.nx=j.snd.nx/\en=en/\(lpA P en ws dp i.snd).snd.pa=j.snd.pa/\(lpA P en ws dp i.snd).snd.er=j.snd.er/\i.fst.rows++List.drop 0 (List.take 1 [(p1x1 P en ws dp i)])=j.fst.rows)/\(((pkS ws i.snd.nx).toList==kwW.toList)=false->(((pkS ws i.snd.nx).toList==kwS.toList)=true->rdOK ws i.snd.nx/\0+(snE ws en i.snd).fst.d.len<=(snE ws en i.snd).fst.d.len/\i.fst.len=i.fst.len/\(i.fst.len+((D.l [(p1x4 en ws i)]).sub 0 1).len)*288<=140737488355328/\0+1<=(D.l [(p1x4 en ws i)]).len/\∃ (j:D × Rd),(rdOK ws j.snd.nx/\seqA (stG ws) (stH P en ws dp) ws j.fst j.snd=smA P en ws dp (mR nx pa er)/\j.fst.len+left ws j.snd<=1000001/\nx<=j.snd.nx)/\left ws j.snd<left ws i.snd/\i.fst.len+((D.l [(p1x4 en ws i)]).sub 0 1).len=j.fst.len/\dp=dp/\ws.rows=ws.rows/\(snR ws en i.snd).nx=j.snd.nx/\en=en/\(snR ws en i.snd).pa=j.snd.pa/\(snR ws en i.snd).er=j.snd.er/\i.fst.rows++List.drop 0 (List.take 1 [(p1x4 en ws i)])=j.fst.rows)/\(((pkS ws i.snd.nx).toList==kwS.toList)=false->(((pkS ws i.snd.nx).toList==kwR.toList)=true->rdOK ws i.snd.nx/\dpOK ws i.snd dp/\left ws i.snd<m+1/\i.snd.nx<(ws.len:Int)/\0+(rvS P en ws dp i.snd).e.d.len<=(rvS P en ws dp i.snd).e.d.len/\0+(rvS P en ws dp i.snd).c.l.d.len<=(rvS P en ws dp i.snd).c.l.d.len/\0+(rvS P en ws dp i.snd).c.r.d.len<=(rvS P en ws dp i.snd).c.r.d.len/\0+(rvS P en ws dp i.snd).b.len<=(rvS P en ws dp i.snd).b.len/\0+(rvS P en ws dp i.snd).el.len<=(rvS P en ws dp i.snd).el.len/\0+(rvS P en ws dp i.snd).ar.len<=(rvS P en ws dp i.snd).ar.len/\i.fst.len=i.fst.len/\(i.fst.len+((D.l [(p1x2 P en ws dp i)]).sub 0 1).len)*288<=140737488355328/\0+1<=(D.l [(p1x2 P en ws dp i)]).len/\∃ (j:D × Rd),(rdOK ws j.snd.nx/\seqA (stG ws) (stH P en ws dp) ws j.fst j.snd=smA P en ws dp (mR nx pa er)/\j.fst.len+left ws j.snd<=1000001/\nx<=j.snd.nx)/\left ws j.snd<left ws i.snd/\i.fst.len+((D.l [(p1x2 P en ws dp i)]).sub 0 1).len=j.fst.len/\dp=dp/\ws.rows=ws.rows/\(rvR P en ws dp i.snd).nx=j.snd.nx/\en=en/\(rvR P en ws dp i.snd).pa=j.snd.pa/\(rvR P en ws dp i.snd).er=j.snd.er/\i.fst.rows++List.drop 0 (List.take 1 [(p1x2 P en ws dp i)])=j.fst.rows)/\(((pkS ws i.snd.nx).toList==kwR.toList)=false->(((pkS ws i.snd.nx).toList==kwA.toList)=true->rdOK ws i.snd.nx/\0+(atC ws en i.snd).l.d.len<=(atC ws en i.snd).l.d.len/\0+(atC ws en i.snd).r.d.len<=(atC ws en i.snd).r.d.len/\i.fst.len=i.fst.len/\(i.fst.len+((D.l [(p1x3 en ws i)]).sub 0 1).len)*288<=140737488355328/\0+1<=(D.l [(p1x3 en ws i)]).len/\∃ (j:D × Rd),(rdOK ws j.snd.nx/\seqA (stG ws) (stH P en ws dp) ws j.fst j.snd=smA P en ws dp (mR nx pa er)/\j.fst.len+left ws j.snd<=1000001/\nx<=j.snd.nx)/\left ws j.snd<left ws i.snd/\i.fst.len+((D.l [(p1x3 en ws i)]).sub 0 1).len=j.fst.len/\dp=dp/\ws.rows=ws.rows/\(atR ws en i.snd).nx=j.snd.nx/\en=en/\(atR ws en i.snd).pa=j.snd.pa/\(atR ws en i.snd).er=j.snd.er/\i.fst.rows++List.drop 0 (List.take 1 [(p1x3 en ws i)])=j.fst.rows)/\(((pkS ws i.snd.nx).toList==kwA.toList)=false->(((pkS ws i.snd.nx).toList==kwI.toList)=true->rdOK ws i.snd.nx/\i.fst.len=i.fst.len/\(i.fst.len+((D.l [(p1x6 en ws i)]).sub 0 1).len)*288<=140737488355328/\0+1<=(D.l [(p1x6 en ws i)]).len/\∃ (j:D × Rd),(rdOK ws j.snd.nx/\seqA (stG ws) (stH P en ws dp) ws j.fst j.snd=smA P en ws dp (mR nx pa er)/\j.fst.len+left ws j.snd<=1000001/\nx<=j.snd.nx)/\left ws j.snd<left ws i.snd/\i.fst.len+((D.l [(p1x6 en ws i)]).sub 0 1).len=j.fst.len/\dp=dp/\ws.rows=ws.rows/\(inR ws en i.snd).nx=j.snd.nx/\en=en/\(inR ws en i.snd).pa=j.snd.pa/\(inR ws en i.snd).er=j.snd.er/\i.fst.rows++List.drop 0 (List.take 1 [(p1x6 en ws i)])=j.fst.rows)/\(((pkS ws i.snd.nx).toList==kwI.toList)=false->rdOK ws i.snd.nx/\((pkK ws i.snd.nx != (1:Int))=true->i.fst.len=(smA P en ws dp (mR nx pa er)).fst.len/\ws.rows=ws.rows/\i.snd.nx=(smA P en ws dp (mR nx pa er)).snd.nx/\en=en/\i.snd.pa=(smA P en ws dp (mR nx pa er)).snd.pa/\i.snd.er=(smA P en ws dp (mR nx pa er)).snd.er/\i.fst.rows=(smA P en ws dp (mR nx pa er)).fst.rows)/\((pkK ws i.snd.nx != (1:Int))=false->rdOK ws i.snd.nx/\0+(asE ws en i.snd).fst.d.len<=(asE ws en i.snd).fst.d.len/\i.fst.len=i.fst.len/\(i.fst.len+((D.l [(p1x5 en ws i)]).sub 0 1).len)*288<=140737488355328/\0+1<=(D.l [(p1x5 en ws i)]).len/\∃ (j:D × Rd),(rdOK ws j.snd.nx/\seqA (stG ws) (stH P en ws dp) ws j.fst j.snd=smA P en ws dp (mR nx pa er)/\j.fst.len+left ws j.snd<=1000001/\nx<=j.snd.nx)/\left ws j.snd<left ws i.snd/\i.fst.len+((D.l [(p1x5 en ws i)]).sub 0 1).len=j.fst.len/\dp=dp/\ws.rows=ws.rows/\(asR ws en i.snd).nx=j.snd.nx/\en=en/\(asR ws en i.snd).pa=j.snd.pa/\(asR ws en i.snd).er=j.snd.er/\i.fst.rows++List.drop 0 (List.take 1 [(p1x5 en ws i)])=j.fst.rows)))))))) (by kernel_rfl) ?_
  intro h hd hl;refine ⟨⟨(.l [],mR nx pa er),⟨h,rfl,(by show 0+left ws (mR nx pa er)<=1000001;have:=(lf_lt (r:=mR nx pa er) h).2;omega),Int.le_refl _⟩,(by (repeat' (with_reducible apply And.intro))<;>first |with_reducible rfl |exact True.intro |with_reducible assumption |decide |assumption |rfl)⟩,?_⟩;rintro q ⟨h1,h2,h3,h4⟩;have l1:=left_le (ws:=ws) (r:=mR nx pa er) (q:=q.2) h4;have hd2:dpOK ws q.2 dp:=⟨hd.1,by have:=hd.2;omega⟩;have lm:left ws q.2<m+1:=Nat.lt_of_le_of_lt l1 hl;have z:∀ n:Nat,0+n<=n:=fun n=>Nat.le_of_eq (Nat.zero_add n)
  have zb:(q.1.len+1)*288<=140737488355328:=by omega
  have fin:∀ (x:St) (r':Rd),stF P en ws dp q.2=(x,r')->stG ws q.2=true->(rdOK ws r'.nx/\seqA (stG ws) (stH P en ws dp) ws (.l (q.1.rows++[x.row])) r'=smA P en ws dp (mR nx pa er)/\(D.l (q.1.rows++[x.row])).len+left ws r'<=1000001/\nx<=r'.nx)/\left ws r'<left ws q.2:=by
   intro x r' e hg;obtain ⟨u1,u2⟩:=(st_sq (hPa en ws) dp).up q.2 h1 hg;have hs:=seq_step (st_sq (hPa en ws) dp) (d:=q.1) h1 hg;have e2:stH P en ws dp q.2=(x.row,r'):=by unfold stH;rw [e]
   rw [e2] at u1 u2 hs;have u3:=lt_left u1 h1 u2;exact ⟨⟨u1,hs.trans h2,(by rw [ap_len];have u4:left ws r'<left ws q.2:=u3;omega),Int.le_trans h4 (Int.le_of_lt u2)⟩,u3⟩
  refine ⟨h1,fun k0=>?_,fun k0=>?_⟩
  ·have k0:acB ws q.2.nx kwF=true:=k0;have hF:stF P en ws dp q.2=(cfS P en ws dp q.2,(cfB P en ws dp q.2).2):=if_pos k0;obtain ⟨f1,f2⟩:=fin _ _ hF (by simp only [stG,k0,Bool.true_or,Bool.or_true]);refine ⟨h1,hd2,lm,ac_lt (by decide) k0,z _,z _,z _,z _,z _,z _,rfl,zb,Nat.le_refl 1,(.l (q.1.rows++[St.row (cfS P en ws dp q.2)]),(cfB P en ws dp q.2).2),f1,f2,?_⟩;simp only [p1x0,p1x1,p1x2,p1x3,p1x4,p1x5,p1x6,subAll]
   (repeat' (with_reducible apply And.intro))<;>first |with_reducible rfl |exact True.intro |exact (ap_len _ _).symm |rfl
  have n0:¬ acB ws q.2.nx kwF=true:=by rw [show acB ws q.2.nx kwF=false from k0];decide
  refine ⟨fun k1=>?_,fun k1=>?_⟩
  ·have k1:acB ws q.2.nx kwW=true:=k1;have hF:stF P en ws dp q.2=(lpS P en ws dp q.2,(lpA P en ws dp q.2).2):=(if_neg n0).trans (if_pos k1);obtain ⟨f1,f2⟩:=fin _ _ hF (by simp only [stG,k1,Bool.true_or,Bool.or_true]);refine ⟨h1,hd2,lm,ac_lt (by decide) k1,z _,z _,z _,z _,z _,z _,rfl,zb,Nat.le_refl 1,(.l (q.1.rows++[St.row (lpS P en ws dp q.2)]),(lpA P en ws dp q.2).2),f1,f2,?_⟩;simp only [p1x0,p1x1,p1x2,p1x3,p1x4,p1x5,p1x6,subAll]
   (repeat' (with_reducible apply And.intro))<;>first |with_reducible rfl |exact True.intro |exact (ap_len _ _).symm |rfl
  have n1:¬ acB ws q.2.nx kwW=true:=by rw [show acB ws q.2.nx kwW=false from k1];decide
  refine ⟨fun k2=>?_,fun k2=>?_⟩
  ·have k2:acB ws q.2.nx kwS=true:=k2;have hF:stF P en ws dp q.2=(snS ws en q.2,snR ws en q.2):=(if_neg n0).trans ((if_neg n1).trans (if_pos k2));obtain ⟨f1,f2⟩:=fin _ _ hF (by simp only [stG,k2,Bool.true_or,Bool.or_true]);refine ⟨h1,z _,rfl,zb,Nat.le_refl 1,(.l (q.1.rows++[St.row (snS ws en q.2)]),snR ws en q.2),f1,f2,?_⟩;simp only [p1x0,p1x1,p1x2,p1x3,p1x4,p1x5,p1x6,subAll]
   (repeat' (with_reducible apply And.intro))<;>first |with_reducible rfl |exact True.intro |exact (ap_len _ _).symm |rfl
  have n2:¬ acB ws q.2.nx kwS=true:=by rw [show acB ws q.2.nx kwS=false from k2];decide
  refine ⟨fun k3=>?_,fun k3=>?_⟩
  ·have k3:acB ws q.2.nx kwR=true:=k3;have hF:stF P en ws dp q.2=(rvS P en ws dp q.2,rvR P en ws dp q.2):=(if_neg n0).trans ((if_neg n1).trans ((if_neg n2).trans (if_pos k3)));obtain ⟨f1,f2⟩:=fin _ _ hF (by simp only [stG,k3,Bool.true_or,Bool.or_true]);refine ⟨h1,hd2,lm,ac_lt (by decide) k3,z _,z _,z _,z _,z _,z _,rfl,zb,Nat.le_refl 1,(.l (q.1.rows++[St.row (rvS P en ws dp q.2)]),rvR P en ws dp q.2),f1,f2,?_⟩;simp only [p1x0,p1x1,p1x2,p1x3,p1x4,p1x5,p1x6,subAll]
   (repeat' (with_reducible apply And.intro))<;>first |with_reducible rfl |exact True.intro |exact (ap_len _ _).symm |rfl
  have n3:¬ acB ws q.2.nx kwR=true:=by rw [show acB ws q.2.nx kwR=false from k3];decide
  refine ⟨fun k4=>?_,fun k4=>?_⟩
  ·have k4:acB ws q.2.nx kwA=true:=k4;have hF:stF P en ws dp q.2=(atS ws en q.2,atR ws en q.2):=(if_neg n0).trans ((if_neg n1).trans ((if_neg n2).trans ((if_neg n3).trans (if_pos k4))));obtain ⟨f1,f2⟩:=fin _ _ hF (by simp only [stG,k4,Bool.true_or,Bool.or_true]);refine ⟨h1,z _,z _,rfl,zb,Nat.le_refl 1,(.l (q.1.rows++[St.row (atS ws en q.2)]),atR ws en q.2),f1,f2,?_⟩;simp only [p1x0,p1x1,p1x2,p1x3,p1x4,p1x5,p1x6,subAll]
   (repeat' (with_reducible apply And.intro))<;>first |with_reducible rfl |exact True.intro |exact (ap_len _ _).symm |rfl
  have n4:¬ acB ws q.2.nx kwA=true:=by rw [show acB ws q.2.nx kwA=false from k4];decide
  refine ⟨fun k5=>?_,fun k5=>?_⟩
  ·have k5:acB ws q.2.nx kwI=true:=k5;have hF:stF P en ws dp q.2=(inS ws en q.2,inR ws en q.2):=(if_neg n0).trans ((if_neg n1).trans ((if_neg n2).trans ((if_neg n3).trans ((if_neg n4).trans (if_pos k5)))));obtain ⟨f1,f2⟩:=fin _ _ hF (by simp only [stG,k5,Bool.true_or,Bool.or_true]);refine ⟨h1,rfl,zb,Nat.le_refl 1,(.l (q.1.rows++[St.row (inS ws en q.2)]),inR ws en q.2),f1,f2,?_⟩;simp only [p1x0,p1x1,p1x2,p1x3,p1x4,p1x5,p1x6,subAll]
   (repeat' (with_reducible apply And.intro))<;>first |with_reducible rfl |exact True.intro |exact (ap_len _ _).symm |rfl
  have n5:¬ acB ws q.2.nx kwI=true:=by rw [show acB ws q.2.nx kwI=false from k5];decide
  refine ⟨h1,fun hc=>?_,fun hc=>?_⟩
  ·have hk:pkK ws q.2.nx≠1:=by simpa using hc
   have hg:stG ws q.2=false:=by simp only [stG,Bool.eq_false_iff.2 n0,Bool.eq_false_iff.2 n1,Bool.eq_false_iff.2 n2,Bool.eq_false_iff.2 n3,Bool.eq_false_iff.2 n4,Bool.eq_false_iff.2 n5,decide_eq_false hk,Bool.or_false]
   have h2:(q.1,q.2)=smA P en ws dp (mR nx pa er):=(seq_end hg).symm.trans h2;rw [<- h2]
   (repeat' (with_reducible apply And.intro))<;>first |with_reducible rfl |exact True.intro |with_reducible assumption |decide |assumption |rfl
  ·have hk:pkK ws q.2.nx=1:=by simpa using hc
   have hF:stF P en ws dp q.2=(asS ws en q.2,asR ws en q.2):=(if_neg n0).trans ((if_neg n1).trans ((if_neg n2).trans ((if_neg n3).trans ((if_neg n4).trans (if_neg n5)))));obtain ⟨f1,f2⟩:=fin _ _ hF (by simp only [stG,decide_eq_true hk,Bool.or_true]);refine ⟨h1,z _,rfl,zb,Nat.le_refl 1,(.l (q.1.rows++[St.row (asS ws en q.2)]),asR ws en q.2),f1,f2,?_⟩;simp only [p1x0,p1x1,p1x2,p1x3,p1x4,p1x5,p1x6,subAll]
   (repeat' (with_reducible apply And.intro))<;>first |with_reducible rfl |exact True.intro |exact (ap_len _ _).symm |rfl
 ·trivial
def stR:Nat->PB
 | 0=>fun _ _ _ r=>(.l [],r)
 |m+1=>smA (stR m)
theorem stR_up:∀ (m:Nat) (en:Int) (ws:D) (dp:Int),PbOK ws (stR m en ws dp)
 | 0,_,_,_=>⟨fun _ h=>⟨Int.le_refl _,h⟩⟩
 |m+1,en,ws,dp=>smA_up (stR_up m) en ws dp
theorem stm_zero {F:PB}:ConOK Tryz.prog 123 (stmC F 0):=by
 refine ⟨fun _ _=>by kernel_rfl,fun hp fr args e he hv=>?_,fun hp fr caps e h=>by cases h⟩;exfalso;obtain ⟨ds,e1,sg,ps1,ps2,hs,hvc,_⟩:=conM_in he;rw [hvc] at hv;obtain ⟨_,hv⟩:=all_append.1 hv;obtain ⟨_,hv⟩:=all_append.1 hv;unfold stmS at hs
 split at hs
 ·simp only [Option.some.injEq,Prod.mk.injEq] at hs;obtain ⟨rfl,rfl⟩:=hs;exact Nat.not_lt_zero _ hv.2.2.1
 ·cases hs
theorem stm_all:∀ m,ConOK Tryz.prog 123 (stmC (stR m) m)
 | 0=>stm_zero
 |m+1=>stn_ok (P:=stR m) (m:=m) (stm_all m) (stR_up m)
def stX:PB:=stR 1000001
theorem stX_ok:ConOK Tryz.prog 123 (stmC stX 1000001):=stm_all 1000001
theorem stX_up (en:Int) (ws:D) (dp:Int):PbOK ws (stX en ws dp):=stR_up 1000001 en ws dp
attribute [irreducible] stX
def kwC:ByteArray:=⟨#[99,104,97,110]⟩
def kwU:ByteArray:=⟨#[114,117,108,101]⟩
def kwP:ByteArray:=⟨#[112,114,111,99]⟩
def kwV:ByteArray:=⟨#[118,97,114]⟩
def coB:ByteArray:=⟨#[44]⟩
def kwO:ByteArray:=⟨#[102,114,111,109]⟩
def kwT:ByteArray:=⟨#[116,111]⟩
def kwB:ByteArray:=⟨#[98,108,111,99,107]⟩
def kwD:ByteArray:=⟨#[100,114,111,112]⟩
def kwY:ByteArray:=⟨#[108,111,115,115,121]⟩
def acG (t:ByteArray) (ws:D) (r:Rd):Bool:=acB ws r.nx t
theorem ac_lt2 {ws:D} {t:ByteArray} {r:Rd} (ha:acB ws r.nx t=true):r.nx<(acR ws t r).nx:=by
 rw [acR_yes ha];exact Int.lt_succ _
def ckK (ws:D) (r:Rd):Int:=if acB ws r.nx kwB=true then 0 else if acB ws (acR ws kwB r).nx kwD=true then 1 else 2
def ckR (ws:D) (en:Int) (r:Rd):Rd:=if acB ws r.nx kwB=true then acR ws kwB r else if acB ws (acR ws kwB r).nx kwD=true then acR ws kwD (acR ws kwB r) else exR ws en kwY (acR ws kwD (acR ws kwB r))
theorem ck_up {ws:D} (en:Int) {r:Rd} (h:rdOK ws r.nx):rdOK ws (acR ws kwB r).nx/\rdOK ws (acR ws kwD (acR ws kwB r)).nx/\rdOK ws (ckR ws en r).nx/\r.nx<=(ckR ws en r).nx:=by
 have a:=ac_up (t:=kwB) h (by decide);have b:=ac_up (t:=kwD) a.1 (by decide);have c:=ex_up en (t:=kwY) b.1 (by decide);refine ⟨a.1,b.1,?_⟩;unfold ckR;split
 ·exact a
 ·split
  ·exact ⟨b.1,Int.le_trans a.2 b.2⟩
  ·exact ⟨c.1,Int.le_trans a.2 (Int.le_trans b.2 c.2)⟩
structure Ch where
 nm:ByteArray
 k:Int
 n:Int
 fr:ByteArray
 to:ByteArray
 tg:D
def Ch.row (c:Ch):List D:=[.s c.nm,.i c.k,.i c.n,.s c.fr,.s c.to,.l c.tg.rows]
def chA1 (ws:D) (en:Int) (r:Rd):Rd:=ckR ws en (nmR ws en r)
def chA2 (ws:D) (en:Int) (r:Rd):Rd:=exR ws en kwO (nuR ws en (chA1 ws en r))
def chA3 (ws:D) (en:Int) (r:Rd):Rd:=exR ws en kwT (nmR ws en (chA2 ws en r))
def chA4 (ws:D) (en:Int) (r:Rd):Rd:=exR ws en obB (nmR ws en (chA3 ws en r))
def tgF (ws:D) (en:Int) (r:Rd):List D × Rd:=([.s (nmS ws (acR ws coB r))],nmR ws en (acR ws coB r))
def chT (ws:D) (en:Int) (r:Rd):D × Rd:=seqA (acG coB ws) (tgF ws en) ws (.l [[.s (nmS ws (chA4 ws en r))]]) (nmR ws en (chA4 ws en r))
def chZ (ws:D) (en:Int) (r:Rd):Ch:=⟨nmS ws r,ckK ws (nmR ws en r),nuN ws (chA1 ws en r),nmS ws (chA2 ws en r),nmS ws (chA3 ws en r),(chT ws en r).1⟩
def chR (ws:D) (en:Int) (r:Rd):Rd:=exR ws en seB (exR ws en cbB (chT ws en r).2)
theorem tg_sq {ws:D} (en:Int):SqOK ws (acG coB ws) (tgF ws en):=⟨fun r h hg=>by
 have a:=ac_up (t:=coB) h (by decide);have b:=nm_up en a.1;exact ⟨b.1,Int.lt_of_lt_of_le (ac_lt2 hg) b.2⟩⟩
theorem ch_up {ws:D} (en:Int) {r:Rd} (h:rdOK ws r.nx):(rdOK ws (nmR ws en r).nx/\rdOK ws (chA1 ws en r).nx/\rdOK ws (nuR ws en (chA1 ws en r)).nx/\rdOK ws (chA2 ws en r).nx/\rdOK ws (nmR ws en (chA2 ws en r)).nx/\rdOK ws (chA3 ws en r).nx/\rdOK ws (nmR ws en (chA3 ws en r)).nx/\rdOK ws (chA4 ws en r).nx/\rdOK ws (nmR ws en (chA4 ws en r)).nx)/\rdOK ws (chT ws en r).2.nx/\rdOK ws (exR ws en cbB (chT ws en r).2).nx/\rdOK ws (chR ws en r).nx/\r.nx<=(chR ws en r).nx:=by
 have a:=nm_up en h;have b:=(ck_up en a.1).2.2;have c:=nu_up en b.1;have d:=ex_up en (t:=kwO) c.1 (by decide);have e:=nm_up en d.1;have f:=ex_up en (t:=kwT) e.1 (by decide);have g:=nm_up en f.1;have i:=ex_up en (t:=obB) g.1 (by decide);have j:=nm_up en i.1;have k:=seq_up (tg_sq en) (.l [[.s (nmS ws (chA4 ws en r))]]) j.1;have l:=ex_up en (t:=cbB) k.1 (by decide);have m:=ex_up en (t:=seB) l.1 (by decide);exact ⟨⟨a.1,b.1,c.1,d.1,e.1,f.1,g.1,i.1,j.1⟩,k.1,l.1,m.1,Int.le_trans a.2 (Int.le_trans b.2 (Int.le_trans c.2 (Int.le_trans d.2 (Int.le_trans e.2 (Int.le_trans f.2 (Int.le_trans g.2 (Int.le_trans i.2 (Int.le_trans j.2 (Int.le_trans k.2 (Int.le_trans l.2 m.2))))))))))⟩
noncomputable def chkS:List Dat->Option (Eff × List Seg):=fun ds=>match ds with
 | [.d ws,.i nx,.i en,.i pa,.i er]=>some ({val:=.one (.sc (.int .i64 (.sym (ckK ws (mR nx pa er))))),vc:=[rdOK ws nx]},[.c (.rows 202 ws),.c (.int .i64 (.sym ((ckR ws en (mR nx pa er)).nx))),.c (.int .i64 (.sym en)),.c (.int .i64 (.sym ((ckR ws en (mR nx pa er)).pa))),.c (.int .i64 (.sym ((ckR ws en (mR nx pa er)).er)))])
 |_=>none
noncomputable def chkC:Con:=conM 135 [.c (.rows 202),.c (.int .i64),.c (.int .i64),.c (.int .i64),.c (.int .i64)] [] chkS
theorem chk_ok:ConOK Tryz.prog 120 chkC:=by
 refine fn_obM tt_ok mixed Tryz.func120 rfl (fun _ _=>by kernel_rfl) (A:=fun ds=>⟨fun _=>Cons.of [(71,accC),(122,expC)],fun _=>none,fun _=>none⟩) (fun _ _=>(cons_cons acc_ok (cons_cons exp_ok cons_nil))) (by kernel_rfl) ?_
 intro ds;unfold chkS;split
 ·rename_i ws nx en pa er;refine kmp (q:=rdOK ws nx->rdOK ws nx/\0<kwB.size/\(acB ws nx kwB=true->(0:Int)=ckK ws (mR nx pa er)/\ws.rows=ws.rows/\(acR ws kwB (mR nx pa er)).nx=(ckR ws en (mR nx pa er)).nx/\en=en/\(acR ws kwB (mR nx pa er)).pa=(ckR ws en (mR nx pa er)).pa/\(acR ws kwB (mR nx pa er)).er=(ckR ws en (mR nx pa er)).er)/\(acB ws nx kwB=false->rdOK ws (acR ws kwB (mR nx pa er)).nx/\0<kwD.size/\(acB ws (acR ws kwB (mR nx pa er)).nx kwD=true->(1:Int)=ckK ws (mR nx pa er)/\ws.rows=ws.rows/\(acR ws kwD (acR ws kwB (mR nx pa er))).nx=(ckR ws en (mR nx pa er)).nx/\en=en/\(acR ws kwD (acR ws kwB (mR nx pa er))).pa=(ckR ws en (mR nx pa er)).pa/\(acR ws kwD (acR ws kwB (mR nx pa er))).er=(ckR ws en (mR nx pa er)).er)/\(acB ws (acR ws kwB (mR nx pa er)).nx kwD=false->rdOK ws (acR ws kwD (acR ws kwB (mR nx pa er))).nx/\0<kwY.size/\(2:Int)=ckK ws (mR nx pa er)/\ws.rows=ws.rows/\(exR ws en kwY (acR ws kwD (acR ws kwB (mR nx pa er)))).nx=(ckR ws en (mR nx pa er)).nx/\en=en/\(exR ws en kwY (acR ws kwD (acR ws kwB (mR nx pa er)))).pa=(ckR ws en (mR nx pa er)).pa/\(exR ws en kwY (acR ws kwD (acR ws kwB (mR nx pa er)))).er=(ckR ws en (mR nx pa er)).er))) (by kernel_rfl) ?_
  intro h;obtain ⟨a,b,c,d⟩:=ck_up en (r:=mR nx pa er) h;refine ⟨h,by decide,fun hc=>?_,fun hc=>?_⟩
  ·have hc:acB ws (mR nx pa er).nx kwB=true:=hc;simp only [ckR,ckK,if_pos hc]
   (repeat' (with_reducible apply And.intro))<;>first |with_reducible rfl |exact True.intro |with_reducible assumption |decide |assumption |rfl
  ·have hc:¬ acB ws (mR nx pa er).nx kwB=true:=by rw [show acB ws (mR nx pa er).nx kwB=false from hc];decide
   refine ⟨a,by decide,fun hd=>?_,fun hd=>?_⟩
   ·have hd:acB ws (acR ws kwB (mR nx pa er)).nx kwD=true:=hd;simp only [ckR,ckK,if_neg hc,if_pos hd]
    (repeat' (with_reducible apply And.intro))<;>first |with_reducible rfl |exact True.intro |with_reducible assumption |decide |assumption |rfl
   ·have hd:¬ acB ws (acR ws kwB (mR nx pa er)).nx kwD=true:=by rw [show acB ws (acR ws kwB (mR nx pa er)).nx kwD=false from hd];decide
    simp only [ckR,ckK,if_neg hc,if_neg hd]
    (repeat' (with_reducible apply And.intro))<;>first |with_reducible rfl |exact True.intro |with_reducible assumption |decide |assumption |rfl
 ·trivial
noncomputable def chnS:List Dat->Option (Eff × List Seg):=fun ds=>match ds with
 | [.d ws,.i nx,.i en,.i pa,.i er]=>some ({val:=.one (.agg [.c (.raw (.string ((chZ ws en (mR nx pa er)).nm))),.c (.int .i64 (.sym ((chZ ws en (mR nx pa er)).k))),.c (.int .i64 (.sym ((chZ ws en (mR nx pa er)).n))),.c (.raw (.string ((chZ ws en (mR nx pa er)).fr))),.c (.raw (.string ((chZ ws en (mR nx pa er)).to))),.c (.osl 9 0 (.lit 0) (.sym ((chZ ws en (mR nx pa er)).tg.len)))]),vc:=[rdOK ws nx],nw:=[(0,.orow 9 ((chZ ws en (mR nx pa er)).tg))]},[.c (.rows 202 ws),.c (.int .i64 (.sym ((chR ws en (mR nx pa er)).nx))),.c (.int .i64 (.sym en)),.c (.int .i64 (.sym ((chR ws en (mR nx pa er)).pa))),.c (.int .i64 (.sym ((chR ws en (mR nx pa er)).er)))])
 |_=>none
noncomputable def chnC:Con:=conM 135 [.c (.rows 202),.c (.int .i64),.c (.int .i64),.c (.int .i64),.c (.int .i64)] [] chnS
theorem chn_ok:ConOK Tryz.prog 72 chnC:=by
 refine fn_obM tt_ok mixed Tryz.func72 rfl (fun _ _=>by kernel_rfl) (A:=fun ds=>⟨fun _=>Cons.of [(119,namC),(120,chkC),(121,numC),(122,expC),(71,accC)],fun k=>match k,ds with | 8,[.d ws,.i nx,.i en,.i pa,.i er]=>some {ι:=D × Rd,pre:=fun _ q=>rdOK ws q.2.nx/\(seqA (acG coB ws) (tgF ws en) ws q.1 q.2=chT ws en (mR nx pa er))/\q.1.len+left ws q.2<=1000001,μ:=fun q=>left ws q.2,st:=fun s q=>famR s [] [0,2,3] [(0,.own 135 ([.c (.rows 202 ws),.c (.int .i64 (.sym ((q.2).nx))),.c (.int .i64 (.sym en)),.c (.int .i64 (.sym ((q.2).pa))),.c (.int .i64 (.sym ((q.2).er)))])),(idOf s 3,.own 118 ([.c (.raw (.string ((chZ ws en (mR nx pa er)).nm))),.c (.int .i64 (.sym ((chZ ws en (mR nx pa er)).k))),.c (.int .i64 (.sym ((chZ ws en (mR nx pa er)).n))),.c (.raw (.string ((chZ ws en (mR nx pa er)).fr))),.c (.raw (.string ((chZ ws en (mR nx pa er)).to))),.c (.osl 9 (cellIdP s 3 5) (.lit 0) (.sym (q.1.len)))])),(cellIdP s 3 5,.orow 9 (q.1))] [2]} |_,_=>none,fun _=>none⟩) (fun _ _=>(cons_cons nam_ok (cons_cons chk_ok (cons_cons num_ok (cons_cons exp_ok (cons_cons acc_ok cons_nil)))))) (by kernel_rfl) ?_
 intro ds;unfold chnS;split
 ·rename_i ws nx en pa er
  refine kmp (q:=withv (exR ws en kwT (nmR ws en (exR ws en kwO (nuR ws en (ckR ws en (nmR ws en (mR nx pa er))))))) fun E208=>withv (chZ ws en (mR nx pa er)) fun E209=>withv (exR ws en obB (nmR ws en E208)) fun E210=>withv (ckR ws en (nmR ws en (mR nx pa er))) fun E211=>rdOK ws nx->rdOK ws nx/\rdOK ws (nmR ws en (mR nx pa er)).nx/\rdOK ws E211.nx/\rdOK ws (nuR ws en E211).nx/\0<kwO.size/\rdOK ws (exR ws en kwO (nuR ws en E211)).nx/\rdOK ws (nmR ws en (exR ws en kwO (nuR ws en E211))).nx/\0<kwT.size/\rdOK ws E208.nx/\rdOK ws (nmR ws en E208).nx/\0<obB.size/\rdOK ws E210.nx/\((0:Nat)+((D.l [[D.s (nmS ws E210)]]).sub 0 1).len)*16<=140737488355328/\0+1<=(D.l [[D.s (nmS ws E210)]]).len/\(∃ (i:D × Rd),(rdOK ws i.snd.nx/\seqA (acG coB ws) (tgF ws en) ws i.fst i.snd=chT ws en (mR nx pa er)/\i.fst.len+left ws i.snd<=(1000001:Nat))/\ws.rows=ws.rows/\(nmR ws en E210).nx=i.snd.nx/\en=en/\(nmR ws en E210).pa=i.snd.pa/\(nmR ws en E210).er=i.snd.er/\Value.string (nmS ws (mR nx pa er))=Value.string E209.nm/\ckK ws (nmR ws en (mR nx pa er))=E209.k/\nuN ws E211=E209.n/\Value.string (nmS ws (exR ws en kwO (nuR ws en E211)))=Value.string E209.fr/\Value.string (nmS ws E208)=Value.string E209.to/\1=i.fst.len /\ []++List.drop 0 (List.take 1 [[D.s (nmS ws E210)]])=i.fst.rows/\Value.string ByteArray.empty=Value.string ByteArray.empty/\(0:Int)=(0:Int)/\(0:Int)=(0:Int)/\Value.string ByteArray.empty=Value.string ByteArray.empty/\Value.string ByteArray.empty=Value.string ByteArray.empty)/\∀ (i:D × Rd),rdOK ws i.snd.nx/\seqA (acG coB ws) (tgF ws en) ws i.fst i.snd=chT ws en (mR nx pa er)/\i.fst.len+left ws i.snd<=1000001->rdOK ws i.snd.nx/\0<coB.size/\(acB ws i.snd.nx coB=true->rdOK ws (acR ws coB i.snd).nx/\i.fst.len=i.fst.len/\(i.fst.len+((D.l [[D.s (nmS ws (acR ws coB i.snd))]]).sub 0 1).len)*16<=140737488355328/\0+1<=(D.l [[D.s (nmS ws (acR ws coB i.snd))]]).len/\∃ (j:D × Rd),(rdOK ws j.snd.nx/\seqA (acG coB ws) (tgF ws en) ws j.fst j.snd=chT ws en (mR nx pa er)/\j.fst.len+left ws j.snd<=(1000001:Nat))/\left ws j.snd<left ws i.snd/\ws.rows=ws.rows/\(nmR ws en (acR ws coB i.snd)).nx=j.snd.nx/\en=en/\(nmR ws en (acR ws coB i.snd)).pa=j.snd.pa/\(nmR ws en (acR ws coB i.snd)).er=j.snd.er/\Value.string E209.nm=Value.string E209.nm/\E209.k=E209.k/\E209.n=E209.n/\Value.string E209.fr=Value.string E209.fr/\Value.string E209.to=Value.string E209.to/\i.fst.len+((D.l [[D.s (nmS ws (acR ws coB i.snd))]]).sub 0 1).len=j.fst.len/\i.fst.rows++List.drop 0 (List.take 1 [[D.s (nmS ws (acR ws coB i.snd))]])=j.fst.rows/\Value.string ByteArray.empty=Value.string ByteArray.empty/\(0:Int)=(0:Int)/\(0:Int)=(0:Int)/\Value.string ByteArray.empty=Value.string ByteArray.empty/\Value.string ByteArray.empty=Value.string ByteArray.empty)/\(acB ws i.snd.nx coB=false->rdOK ws (acR ws coB i.snd).nx/\0<cbB.size/\rdOK ws (exR ws en cbB (acR ws coB i.snd)).nx/\0<seB.size/\Value.string E209.nm=Value.string E209.nm/\E209.k=E209.k/\E209.n=E209.n/\Value.string E209.fr=Value.string E209.fr/\Value.string E209.to=Value.string E209.to/\i.fst.len=E209.tg.len/\ws.rows=ws.rows/\(exR ws en seB (exR ws en cbB (acR ws coB i.snd))).nx=(chR ws en (mR nx pa er)).nx/\en=en/\(exR ws en seB (exR ws en cbB (acR ws coB i.snd))).pa=(chR ws en (mR nx pa er)).pa/\(exR ws en seB (exR ws en cbB (acR ws coB i.snd))).er=(chR ws en (mR nx pa er)).er/\i.fst.rows=E209.tg.rows)) (by kernel_rfl) ?_
  dsimp +instances only [withv]
  intro h;obtain ⟨⟨a,b,c,d,e,f,g,i,j⟩,k,l,m,n⟩:=ch_up en (r:=mR nx pa er) h;have l0:=(lf_lt j).2;refine ⟨h,a,b,c,by decide,d,e,by decide,f,g,by decide,i,(by show (0+1)*16<=140737488355328;decide),Nat.le_refl 1,⟨(.l [[.s (nmS ws (chA4 ws en (mR nx pa er)))]],nmR ws en (chA4 ws en (mR nx pa er))),⟨j,rfl,(by show 1+left ws (nmR ws en (chA4 ws en (mR nx pa er)))<=1000001;omega)⟩,?_⟩,?_⟩
  ·(repeat' (with_reducible apply And.intro))<;>first |with_reducible rfl |exact True.intro |with_reducible assumption |decide |assumption |rfl
  rintro q ⟨h1,h2,h3⟩;refine ⟨h1,by decide,fun hc=>?_,fun hc=>?_⟩
  ·have hg:acG coB ws q.2=true:=hc;obtain ⟨u1,u2⟩:=(tg_sq en).up q.2 h1 hg;have u3:=lt_left u1 h1 u2;have hs:=seq_step (tg_sq en) (d:=q.1) h1 hg;have hz:(q.1.len+1)*16<=140737488355328:=by omega
   have hl:(D.l (q.1.rows++[(tgF ws en q.2).1])).len+left ws (tgF ws en q.2).2<=1000001:=by rw [ap_len];omega
   refine ⟨(ac_up (t:=coB) h1 (by decide)).1,rfl,hz,Nat.le_refl 1,(.l (q.1.rows++[(tgF ws en q.2).1]),(tgF ws en q.2).2),⟨u1,hs.trans h2,hl⟩,u3,?_⟩
   (repeat' (with_reducible apply And.intro))<;>first |with_reducible rfl |exact True.intro |exact (ap_len _ _).symm |rfl
  ·have hg:acG coB ws q.2=false:=hc;have h2:(q.1,q.2)=chT ws en (mR nx pa er):=(seq_end hg).symm.trans h2;have f1:=(ex_up en (t:=cbB) h1 (by decide)).1;rw [acR_no (r:=q.2) hc];simp only [chZ,chR,<- h2]
   (repeat' (with_reducible apply And.intro))<;>first |with_reducible rfl |exact True.intro |with_reducible assumption |decide |assumption |rfl
 ·trivial
end Go.Proofs.YtplejbgafjpomaaGreatDoor.Sx.Z
namespace Go.Proofs.YtplejbgafjpomaaGreatDoor.Sx.Z
open Go.RowKit
structure Ru where
 ch:ByteArray
 mv:D
def Ru.row (c:Ru):List D:=[.s c.ch,.l c.mv.rows]
def ruA (ws:D) (en:Int) (r:Rd):Rd:=exR ws en obB (nmR ws en r)
def mvG (ws:D) (r:Rd):Bool:=decide (pkK ws r.nx=2)
def mvX (ws:D) (en:Int) (r:Rd):Rd:=nuR ws en (nmR ws en (nuR ws en r))
def mvF (ws:D) (en:Int) (r:Rd):List D × Rd:=([.i (nuN ws r),.s (nmS ws (nuR ws en r)),.i (nuN ws (nmR ws en (nuR ws en r)))],exR ws en seB (mvX ws en r))
def ruM (ws:D) (en:Int) (r:Rd):D × Rd:=seqA (mvG ws) (mvF ws en) ws (.l []) (ruA ws en r)
def ruZ (ws:D) (en:Int) (r:Rd):Ru:=⟨nmS ws r,(ruM ws en r).1⟩
def ruR (ws:D) (en:Int) (r:Rd):Rd:=exR ws en cbB (ruM ws en r).2
theorem mv_sq {ws:D} (en:Int):SqOK ws (mvG ws) (mvF ws en):=⟨fun r h hg=>by
 have hk:pkK ws r.nx=2:=of_decide_eq_true hg;have a:=nu_up en h;have e:(nuR ws en r).nx=r.nx+1:=by rw [show nuR ws en r=gx r from if_pos hk];rfl
 have b:=nm_up en a.1;have c:=nu_up en b.1;have d:=ex_up en (t:=seB) c.1 (by decide);refine ⟨d.1,?_⟩;have h9:(nuR ws en r).nx<=(exR ws en seB (mvX ws en r)).nx:=Int.le_trans b.2 (Int.le_trans c.2 d.2);show r.nx<(exR ws en seB (mvX ws en r)).nx
 omega⟩
theorem ru_up {ws:D} (en:Int) {r:Rd} (h:rdOK ws r.nx):rdOK ws (nmR ws en r).nx/\rdOK ws (ruA ws en r).nx/\rdOK ws (ruM ws en r).2.nx/\rdOK ws (ruR ws en r).nx/\r.nx<=(ruR ws en r).nx:=by
 have a:=nm_up en h;have b:=ex_up en (t:=obB) a.1 (by decide);have k:=seq_up (mv_sq en) (.l []) b.1;have l:=ex_up en (t:=cbB) k.1 (by decide);exact ⟨a.1,b.1,k.1,l.1,Int.le_trans a.2 (Int.le_trans b.2 (Int.le_trans k.2 l.2))⟩
structure Po where
 nm:ByteArray
 vs:D
 b:D
def Po.row (c:Po):List D:=[.s c.nm,.l c.vs.rows,.l c.b.rows]
def vrF (ws:D) (en:Int) (r:Rd):List D × Rd:=([.s (nmS ws (acR ws kwV r))],exR ws en seB (nmR ws en (acR ws kwV r)))
def poV (ws:D) (en:Int) (r:Rd):D × Rd:=seqA (acG kwV ws) (vrF ws en) ws (.l []) (ruA ws en r)
def poB (ws:D) (en:Int) (r:Rd):D × Rd:=stX en ws 0 (poV ws en r).2
def poZ (ws:D) (en:Int) (r:Rd):Po:=⟨nmS ws r,(poV ws en r).1,(poB ws en r).1⟩
def poR (ws:D) (en:Int) (r:Rd):Rd:=exR ws en cbB (poB ws en r).2
theorem vr_sq {ws:D} (en:Int):SqOK ws (acG kwV ws) (vrF ws en):=⟨fun r h hg=>by
 have a:=ac_up (t:=kwV) h (by decide);have b:=nm_up en a.1;have d:=ex_up en (t:=seB) b.1 (by decide);exact ⟨d.1,Int.lt_of_lt_of_le (ac_lt2 hg) (Int.le_trans b.2 d.2)⟩⟩
theorem po_up {ws:D} (en:Int) {r:Rd} (h:rdOK ws r.nx):rdOK ws (nmR ws en r).nx/\rdOK ws (ruA ws en r).nx/\rdOK ws (poV ws en r).2.nx/\rdOK ws (poB ws en r).2.nx/\rdOK ws (poR ws en r).nx/\r.nx<=(poR ws en r).nx:=by
 have a:=nm_up en h;have b:=ex_up en (t:=obB) a.1 (by decide);have k:=seq_up (vr_sq en) (.l []) b.1;have m:=(stX_up en ws 0).up _ k.1;have l:=ex_up en (t:=cbB) m.2 (by decide);exact ⟨a.1,b.1,k.1,m.2,l.1,Int.le_trans a.2 (Int.le_trans b.2 (Int.le_trans k.2 (Int.le_trans m.1 l.2)))⟩
noncomputable def rulS:List Dat->Option (Eff × List Seg):=fun ds=>match ds with
 | [.d ws,.i nx,.i en,.i pa,.i er]=>some ({val:=.one (.agg [.c (.raw (.string ((ruZ ws en (mR nx pa er)).ch))),.c (.osl 122 0 (.lit 0) (.sym ((ruZ ws en (mR nx pa er)).mv.len)))]),vc:=[rdOK ws nx],nw:=[(0,.orow 122 ((ruZ ws en (mR nx pa er)).mv))]},[.c (.rows 202 ws),.c (.int .i64 (.sym ((ruR ws en (mR nx pa er)).nx))),.c (.int .i64 (.sym en)),.c (.int .i64 (.sym ((ruR ws en (mR nx pa er)).pa))),.c (.int .i64 (.sym ((ruR ws en (mR nx pa er)).er)))])
 |_=>none
noncomputable def rulC:Con:=conM 135 [.c (.rows 202),.c (.int .i64),.c (.int .i64),.c (.int .i64),.c (.int .i64)] [] rulS
theorem rul_ok:ConOK Tryz.prog 73 rulC:=by
 refine fn_obM tt_ok mixed Tryz.func73 rfl (fun _ _=>by kernel_rfl) (A:=fun ds=>⟨fun _=>Cons.of [(119,namC),(121,numC),(122,expC),(118,pekC)],fun k=>match k,ds with | 3,[.d ws,.i nx,.i en,.i pa,.i er]=>some {ι:=D × Rd,pre:=fun _ q=>rdOK ws q.2.nx/\(seqA (mvG ws) (mvF ws en) ws q.1 q.2=ruM ws en (mR nx pa er))/\q.1.len+left ws q.2<=1000001,μ:=fun q=>left ws q.2,st:=fun s q=>famN s [] [0,2,3] [(0,.own 135 ([.c (.rows 202 ws),.c (.int .i64 (.sym ((q.2).nx))),.c (.int .i64 (.sym en)),.c (.int .i64 (.sym ((q.2).pa))),.c (.int .i64 (.sym ((q.2).er)))])),(idOf s 3,.own 121 ([.c (.raw (.string ((ruZ ws en (mR nx pa er)).ch))),.c (.osl 122 s.nx (.lit 0) (.sym (q.1.len)))])),(s.nx,.orow 122 (q.1))] [2]} |_,_=>none,fun _=>none⟩) (fun _ _=>(cons_cons nam_ok (cons_cons num_ok (cons_cons exp_ok (cons_cons pek_ok cons_nil))))) (by kernel_rfl) ?_
 intro ds;unfold rulS;split
 ·rename_i ws nx en pa er;refine kmp (q:=rdOK ws nx->rdOK ws nx/\rdOK ws (nmR ws en (mR nx pa er)).nx/\0<obB.size/\(∃ (i:D × Rd),(rdOK ws i.snd.nx/\seqA (mvG ws) (mvF ws en) ws i.fst i.snd=ruM ws en (mR nx pa er)/\i.fst.len+left ws i.snd<=(1000001:Nat))/\ws.rows=ws.rows/\(exR ws en obB (nmR ws en (mR nx pa er))).nx=i.snd.nx/\en=en/\(exR ws en obB (nmR ws en (mR nx pa er))).pa=i.snd.pa/\(exR ws en obB (nmR ws en (mR nx pa er))).er=i.snd.er/\Value.string (nmS ws (mR nx pa er))=Value.string (ruZ ws en (mR nx pa er)).ch/\i.fst.len=0/\i.fst.rows=[]/\Value.string ByteArray.empty=Value.string ByteArray.empty)/\∀ (i:D × Rd),rdOK ws i.snd.nx/\seqA (mvG ws) (mvF ws en) ws i.fst i.snd=ruM ws en (mR nx pa er)/\i.fst.len+left ws i.snd<=1000001->rdOK ws i.snd.nx/\((pkK ws i.snd.nx==(2:Int))=true->rdOK ws i.snd.nx/\rdOK ws (nuR ws en i.snd).nx/\rdOK ws (nmR ws en (nuR ws en i.snd)).nx/\i.fst.len=i.fst.len/\(i.fst.len+((D.l [[D.i (nuN ws i.snd),D.s (nmS ws (nuR ws en i.snd)),D.i (nuN ws (nmR ws en (nuR ws en i.snd)))]]).sub 0 1).len)*32<=140737488355328/\0+1<=(D.l [[D.i (nuN ws i.snd),D.s (nmS ws (nuR ws en i.snd)),D.i (nuN ws (nmR ws en (nuR ws en i.snd)))]]).len/\rdOK ws (nuR ws en (nmR ws en (nuR ws en i.snd))).nx/\0<seB.size/\∃ (j:D × Rd),(rdOK ws j.snd.nx/\seqA (mvG ws) (mvF ws en) ws j.fst j.snd=ruM ws en (mR nx pa er)/\j.fst.len+left ws j.snd<=(1000001:Nat))/\left ws j.snd<left ws i.snd/\ws.rows=ws.rows/\(exR ws en seB (nuR ws en (nmR ws en (nuR ws en i.snd)))).nx=j.snd.nx/\en=en/\(exR ws en seB (nuR ws en (nmR ws en (nuR ws en i.snd)))).pa=j.snd.pa/\(exR ws en seB (nuR ws en (nmR ws en (nuR ws en i.snd)))).er=j.snd.er/\Value.string (ruZ ws en (mR nx pa er)).ch=Value.string (ruZ ws en (mR nx pa er)).ch/\i.fst.len+((D.l [[D.i (nuN ws i.snd),D.s (nmS ws (nuR ws en i.snd)),D.i (nuN ws (nmR ws en (nuR ws en i.snd)))]]).sub 0 1).len=j.fst.len/\i.fst.rows++List.drop 0 (List.take 1 [[D.i (nuN ws i.snd),D.s (nmS ws (nuR ws en i.snd)),D.i (nuN ws (nmR ws en (nuR ws en i.snd)))]])=j.fst.rows/\Value.string ByteArray.empty=Value.string ByteArray.empty)/\((pkK ws i.snd.nx==(2:Int))=false->rdOK ws i.snd.nx/\0<cbB.size/\Value.string (ruZ ws en (mR nx pa er)).ch=Value.string (ruZ ws en (mR nx pa er)).ch/\i.fst.len=(ruZ ws en (mR nx pa er)).mv.len/\ws.rows=ws.rows/\(exR ws en cbB i.snd).nx=(ruR ws en (mR nx pa er)).nx/\en=en/\(exR ws en cbB i.snd).pa=(ruR ws en (mR nx pa er)).pa/\(exR ws en cbB i.snd).er=(ruR ws en (mR nx pa er)).er/\i.fst.rows=(ruZ ws en (mR nx pa er)).mv.rows)) (by kernel_rfl) ?_
  intro h;obtain ⟨a,b,c,d,e⟩:=ru_up en (r:=mR nx pa er) h;have l0:=(lf_lt b).2;refine ⟨h,a,by decide,⟨(.l [],ruA ws en (mR nx pa er)),⟨b,rfl,(by show 0+left ws (ruA ws en (mR nx pa er))<=1000001;omega)⟩,?_⟩,?_⟩
  ·(repeat' (with_reducible apply And.intro))<;>first |with_reducible rfl |exact True.intro |with_reducible assumption |decide |assumption |rfl
  rintro q ⟨h1,h2,h3⟩;refine ⟨h1,fun hc=>?_,fun hc=>?_⟩
  ·have hg:mvG ws q.2=true:=decide_eq_true (eq_of_beq hc);obtain ⟨u1,u2⟩:=(mv_sq en).up q.2 h1 hg;have u3:=lt_left u1 h1 u2;have hs:=seq_step (mv_sq en) (d:=q.1) h1 hg;have hz:(q.1.len+1)*32<=140737488355328:=by omega
   have hl:(D.l (q.1.rows++[(mvF ws en q.2).1])).len+left ws (mvF ws en q.2).2<=1000001:=by rw [ap_len];omega
   have m1:=(nu_up en h1).1;have m2:=(nm_up en m1).1;have m3:=(nu_up en m2).1;refine ⟨h1,m1,m2,rfl,hz,Nat.le_refl 1,m3,by decide,(.l (q.1.rows++[(mvF ws en q.2).1]),(mvF ws en q.2).2),⟨u1,hs.trans h2,hl⟩,u3,?_⟩
   (repeat' (with_reducible apply And.intro))<;>first |with_reducible rfl |exact True.intro |exact (ap_len _ _).symm |rfl
  ·have hg:mvG ws q.2=false:=decide_eq_false (ne_of_beq_false hc);have h2:(q.1,q.2)=ruM ws en (mR nx pa er):=(seq_end hg).symm.trans h2;simp only [ruZ,ruR,<- h2]
   (repeat' (with_reducible apply And.intro))<;>first |with_reducible rfl |exact True.intro |with_reducible assumption |decide |assumption |rfl
 ·trivial
noncomputable def proS:List Dat->Option (Eff × List Seg):=fun ds=>match ds with
 | [.d ws,.i nx,.i en,.i pa,.i er]=>some ({val:=.one (.agg [.c (.raw (.string ((poZ ws en (mR nx pa er)).nm))),.c (.osl 9 0 (.lit 0) (.sym ((poZ ws en (mR nx pa er)).vs.len))),.c (.osl 193 1 (.lit 0) (.sym ((poZ ws en (mR nx pa er)).b.len)))]),vc:=[rdOK ws nx],nw:=[(0,.orow 9 ((poZ ws en (mR nx pa er)).vs)),(1,.orow 193 ((poZ ws en (mR nx pa er)).b))]},[.c (.rows 202 ws),.c (.int .i64 (.sym ((poR ws en (mR nx pa er)).nx))),.c (.int .i64 (.sym en)),.c (.int .i64 (.sym ((poR ws en (mR nx pa er)).pa))),.c (.int .i64 (.sym ((poR ws en (mR nx pa er)).er)))])
 |_=>none
noncomputable def proC:Con:=conM 135 [.c (.rows 202),.c (.int .i64),.c (.int .i64),.c (.int .i64),.c (.int .i64)] [] proS
theorem pro_ok:ConOK Tryz.prog 74 proC:=by
 refine fn_obM tt_ok mixed Tryz.func74 rfl (fun _ _=>by kernel_rfl) (A:=fun ds=>⟨fun _=>Cons.of [(119,namC),(71,accC),(122,expC),(123,(stmC stX 1000001))],fun k=>match k,ds with | 3,[.d ws,.i nx,.i en,.i pa,.i er]=>some {ι:=D × Rd,pre:=fun _ q=>rdOK ws q.2.nx/\(seqA (acG kwV ws) (vrF ws en) ws q.1 q.2=poV ws en (mR nx pa er))/\q.1.len+left ws q.2<=1000001,μ:=fun q=>left ws q.2,st:=fun s q=>famN s [] [0,2,3] [(0,.own 135 ([.c (.rows 202 ws),.c (.int .i64 (.sym ((q.2).nx))),.c (.int .i64 (.sym en)),.c (.int .i64 (.sym ((q.2).pa))),.c (.int .i64 (.sym ((q.2).er)))])),(idOf s 3,.own 126 ([.c (.raw (.string ((poZ ws en (mR nx pa er)).nm))),.c (.osl 9 s.nx (.lit 0) (.sym (q.1.len))),.c .nils])),(s.nx,.orow 9 (q.1))] [2]} |_,_=>none,fun _=>none⟩) (fun _ _=>(cons_cons nam_ok (cons_cons acc_ok (cons_cons exp_ok (cons_cons stX_ok cons_nil))))) (by kernel_rfl) ?_
 intro ds;unfold proS;split
 ·rename_i ws nx en pa er;refine kmp (q:=rdOK ws nx->rdOK ws nx/\rdOK ws (nmR ws en (mR nx pa er)).nx/\0<obB.size/\(∃ (i:D × Rd),(rdOK ws i.snd.nx/\seqA (acG kwV ws) (vrF ws en) ws i.fst i.snd=poV ws en (mR nx pa er)/\i.fst.len+left ws i.snd<=(1000001:Nat))/\ws.rows=ws.rows/\(exR ws en obB (nmR ws en (mR nx pa er))).nx=i.snd.nx/\en=en/\(exR ws en obB (nmR ws en (mR nx pa er))).pa=i.snd.pa/\(exR ws en obB (nmR ws en (mR nx pa er))).er=i.snd.er/\Value.string (nmS ws (mR nx pa er))=Value.string (poZ ws en (mR nx pa er)).nm/\i.fst.len=0/\i.fst.rows=[]/\Value.string ByteArray.empty=Value.string ByteArray.empty)/\∀ (i:D × Rd),rdOK ws i.snd.nx/\seqA (acG kwV ws) (vrF ws en) ws i.fst i.snd=poV ws en (mR nx pa er)/\i.fst.len+left ws i.snd<=1000001->rdOK ws i.snd.nx/\0<kwV.size/\(acB ws i.snd.nx kwV=true->rdOK ws (acR ws kwV i.snd).nx/\i.fst.len=i.fst.len/\(i.fst.len+((D.l [[D.s (nmS ws (acR ws kwV i.snd))]]).sub 0 1).len)*16<=140737488355328/\0+1<=(D.l [[D.s (nmS ws (acR ws kwV i.snd))]]).len/\rdOK ws (nmR ws en (acR ws kwV i.snd)).nx/\0<seB.size/\∃ (j:D × Rd),(rdOK ws j.snd.nx/\seqA (acG kwV ws) (vrF ws en) ws j.fst j.snd=poV ws en (mR nx pa er)/\j.fst.len+left ws j.snd<=(1000001:Nat))/\left ws j.snd<left ws i.snd/\ws.rows=ws.rows/\(exR ws en seB (nmR ws en (acR ws kwV i.snd))).nx=j.snd.nx/\en=en/\(exR ws en seB (nmR ws en (acR ws kwV i.snd))).pa=j.snd.pa/\(exR ws en seB (nmR ws en (acR ws kwV i.snd))).er=j.snd.er/\Value.string (poZ ws en (mR nx pa er)).nm=Value.string (poZ ws en (mR nx pa er)).nm/\i.fst.len+((D.l [[D.s (nmS ws (acR ws kwV i.snd))]]).sub 0 1).len=j.fst.len/\i.fst.rows++List.drop 0 (List.take 1 [[D.s (nmS ws (acR ws kwV i.snd))]])=j.fst.rows/\Value.string ByteArray.empty=Value.string ByteArray.empty)/\(acB ws i.snd.nx kwV=false->rdOK ws (acR ws kwV i.snd).nx/\dpOK ws (acR ws kwV i.snd) (0:Int)/\left ws (acR ws kwV i.snd)<1000001/\rdOK ws (stX en ws (0:Int) (acR ws kwV i.snd)).snd.nx/\0<cbB.size/\Value.string (poZ ws en (mR nx pa er)).nm=Value.string (poZ ws en (mR nx pa er)).nm/\i.fst.len=(poZ ws en (mR nx pa er)).vs.len/\(stX en ws (0:Int) (acR ws kwV i.snd)).fst.len=(poZ ws en (mR nx pa er)).b.len/\ws.rows=ws.rows/\(exR ws en cbB (stX en ws (0:Int) (acR ws kwV i.snd)).snd).nx=(poR ws en (mR nx pa er)).nx/\en=en/\(exR ws en cbB (stX en ws (0:Int) (acR ws kwV i.snd)).snd).pa=(poR ws en (mR nx pa er)).pa/\(exR ws en cbB (stX en ws (0:Int) (acR ws kwV i.snd)).snd).er=(poR ws en (mR nx pa er)).er/\i.fst.rows=(poZ ws en (mR nx pa er)).vs.rows/\(stX en ws (0:Int) (acR ws kwV i.snd)).fst.rows=(poZ ws en (mR nx pa er)).b.rows)) (by kernel_rfl) ?_
  intro h;obtain ⟨a,b,c,d,e,f⟩:=po_up en (r:=mR nx pa er) h;have l0:=(lf_lt b).2;refine ⟨h,a,by decide,⟨(.l [],ruA ws en (mR nx pa er)),⟨b,rfl,(by show 0+left ws (ruA ws en (mR nx pa er))<=1000001;omega)⟩,?_⟩,?_⟩
  ·(repeat' (with_reducible apply And.intro))<;>first |with_reducible rfl |exact True.intro |with_reducible assumption |decide |assumption |rfl
  rintro q ⟨h1,h2,h3⟩;refine ⟨h1,by decide,fun hc=>?_,fun hc=>?_⟩
  ·have hg:acG kwV ws q.2=true:=hc;obtain ⟨u1,u2⟩:=(vr_sq en).up q.2 h1 hg;have u3:=lt_left u1 h1 u2;have hs:=seq_step (vr_sq en) (d:=q.1) h1 hg;have hz:(q.1.len+1)*16<=140737488355328:=by omega
   have hl:(D.l (q.1.rows++[(vrF ws en q.2).1])).len+left ws (vrF ws en q.2).2<=1000001:=by rw [ap_len];omega
   have m1:=(ac_up (t:=kwV) h1 (by decide)).1;have m2:=(nm_up en m1).1;refine ⟨m1,rfl,hz,Nat.le_refl 1,m2,by decide,(.l (q.1.rows++[(vrF ws en q.2).1]),(vrF ws en q.2).2),⟨u1,hs.trans h2,hl⟩,u3,?_⟩
   (repeat' (with_reducible apply And.intro))<;>first |with_reducible rfl |exact True.intro |exact (ap_len _ _).symm |rfl
  ·have hg:acG kwV ws q.2=false:=hc;have h2:(q.1,q.2)=poV ws en (mR nx pa er):=(seq_end hg).symm.trans h2;rw [acR_no (r:=q.2) hc];have f1:=(lf_lt h1).1;have f2:=(lf_lt h1).2;have f3:=((stX_up en ws 0).up _ h1).2;simp only [etR,poZ,poR,poB,<- h2]
   (repeat' (with_reducible apply And.intro))<;>first |with_reducible rfl |exact True.intro |with_reducible assumption |decide |assumption |rfl
 ·trivial
def csF (ws:D) (en:Int) (r:Rd):List D × Rd:=((chZ ws en (acR ws kwC r)).row,chR ws en (acR ws kwC r))
def usF (ws:D) (en:Int) (r:Rd):List D × Rd:=((ruZ ws en (acR ws kwU r)).row,ruR ws en (acR ws kwU r))
def psF (ws:D) (en:Int) (r:Rd):List D × Rd:=((poZ ws en (acR ws kwP r)).row,poR ws en (acR ws kwP r))
def syC (ws:D) (en:Int) (r:Rd):D × Rd:=seqA (acG kwC ws) (csF ws en) ws (.l []) r
def syU (ws:D) (en:Int) (r:Rd):D × Rd:=seqA (acG kwU ws) (usF ws en) ws (.l []) (syC ws en r).2
def syP (ws:D) (en:Int) (r:Rd):D × Rd:=seqA (acG kwP ws) (psF ws en) ws (.l []) (syU ws en r).2
def syR (ws:D) (en:Int) (r:Rd):Rd:=fiR ws en (syP ws en r).2
theorem cs_sq {ws:D} (en:Int):SqOK ws (acG kwC ws) (csF ws en):=⟨fun r h hg=>by
 have a:=ac_up (t:=kwC) h (by decide);have b:=(ch_up en a.1).2.2.2;exact ⟨b.1,Int.lt_of_lt_of_le (ac_lt2 hg) b.2⟩⟩
theorem us_sq {ws:D} (en:Int):SqOK ws (acG kwU ws) (usF ws en):=⟨fun r h hg=>by
 have a:=ac_up (t:=kwU) h (by decide);have b:=(ru_up en a.1).2.2.2;exact ⟨b.1,Int.lt_of_lt_of_le (ac_lt2 hg) b.2⟩⟩
theorem ps_sq {ws:D} (en:Int):SqOK ws (acG kwP ws) (psF ws en):=⟨fun r h hg=>by
 have a:=ac_up (t:=kwP) h (by decide);have b:=(po_up en a.1).2.2.2.2;exact ⟨b.1,Int.lt_of_lt_of_le (ac_lt2 hg) b.2⟩⟩
theorem sy_up {ws:D} (en:Int) {r:Rd} (h:rdOK ws r.nx):rdOK ws (syC ws en r).2.nx/\rdOK ws (syU ws en r).2.nx/\rdOK ws (syP ws en r).2.nx:=by
 have a:=seq_up (cs_sq en) (.l []) h;have b:=seq_up (us_sq en) (.l []) a.1;exact ⟨a.1,b.1,(seq_up (ps_sq en) (.l []) b.1).1⟩
noncomputable def sysS:List Dat->Option (Eff × List Seg):=fun ds=>match ds with
 | [.d ws,.i nx,.i en,.i pa,.i er]=>some ({val:=.one (.agg [.c (.osl 118 0 (.lit 0) (.sym ((syC ws en (mR nx pa er)).1.len))),.c (.osl 121 1 (.lit 0) (.sym ((syU ws en (mR nx pa er)).1.len))),.c (.osl 126 2 (.lit 0) (.sym ((syP ws en (mR nx pa er)).1.len)))]),vc:=[rdOK ws nx],nw:=[(0,.orow 118 ((syC ws en (mR nx pa er)).1)),(1,.orow 121 ((syU ws en (mR nx pa er)).1)),(2,.orow 126 ((syP ws en (mR nx pa er)).1))]},[.c (.rows 202 ws),.c (.int .i64 (.sym ((syR ws en (mR nx pa er)).nx))),.c (.int .i64 (.sym en)),.c (.int .i64 (.sym ((syR ws en (mR nx pa er)).pa))),.c (.int .i64 (.sym ((syR ws en (mR nx pa er)).er)))])
 |_=>none
noncomputable def sysC:Con:=conM 135 [.c (.rows 202),.c (.int .i64),.c (.int .i64),.c (.int .i64),.c (.int .i64)] [] sysS
theorem sys_ok:ConOK Tryz.prog 38 sysC:=by
 refine fn_obM tt_ok mixed Tryz.func38 rfl (fun _ _=>by kernel_rfl) (A:=fun ds=>⟨fun _=>Cons.of [(72,chnC),(73,rulC),(74,proC),(71,accC),(75,finC)],fun k=>match k,ds with | 2,[.d ws,.i nx,.i en,.i pa,.i er]=>some {ι:=D × Rd,pre:=fun _ q=>rdOK ws q.2.nx/\(seqA (acG kwC ws) (csF ws en) ws q.1 q.2=(syC ws en (mR nx pa er)))/\q.1.len+left ws q.2<=1000001,μ:=fun q=>left ws q.2,st:=fun s q=>famN s [] [0,2,3] [(0,.own 135 ([.c (.rows 202 ws),.c (.int .i64 (.sym ((q.2).nx))),.c (.int .i64 (.sym en)),.c (.int .i64 (.sym ((q.2).pa))),.c (.int .i64 (.sym ((q.2).er)))])),(idOf s 3,.own 67 ([.c (.osl 118 s.nx (.lit 0) (.sym (q.1.len))),.c .nils,.c .nils])),(s.nx,.orow 118 (q.1))] [2]} | 4,[.d ws,.i nx,.i en,.i pa,.i er]=>some {ι:=D × Rd,pre:=fun _ q=>rdOK ws q.2.nx/\(seqA (acG kwU ws) (usF ws en) ws q.1 q.2=(syU ws en (mR nx pa er)))/\q.1.len+left ws q.2<=1000001,μ:=fun q=>left ws q.2,st:=fun s q=>famN s [] [0,2,3] [(0,.own 135 ([.c (.rows 202 ws),.c (.int .i64 (.sym ((q.2).nx))),.c (.int .i64 (.sym en)),.c (.int .i64 (.sym ((q.2).pa))),.c (.int .i64 (.sym ((q.2).er)))])),(idOf s 3,.own 67 ([.c (.osl 118 (cellIdP s 3 0) (.lit 0) (.sym ((syC ws en (mR nx pa er)).1.len))),.c (.osl 121 s.nx (.lit 0) (.sym (q.1.len))),.c .nils])),(cellIdP s 3 0,.orow 118 ((syC ws en (mR nx pa er)).1)),(s.nx,.orow 121 (q.1))] [2]} | 6,[.d ws,.i nx,.i en,.i pa,.i er]=>some {ι:=D × Rd,pre:=fun _ q=>rdOK ws q.2.nx/\(seqA (acG kwP ws) (psF ws en) ws q.1 q.2=(syP ws en (mR nx pa er)))/\q.1.len+left ws q.2<=1000001,μ:=fun q=>left ws q.2,st:=fun s q=>famN s [] [0,2,3] [(0,.own 135 ([.c (.rows 202 ws),.c (.int .i64 (.sym ((q.2).nx))),.c (.int .i64 (.sym en)),.c (.int .i64 (.sym ((q.2).pa))),.c (.int .i64 (.sym ((q.2).er)))])),(idOf s 3,.own 67 ([.c (.osl 118 (cellIdP s 3 0) (.lit 0) (.sym ((syC ws en (mR nx pa er)).1.len))),.c (.osl 121 (cellIdP s 3 1) (.lit 0) (.sym ((syU ws en (mR nx pa er)).1.len))),.c (.osl 126 s.nx (.lit 0) (.sym (q.1.len)))])),(cellIdP s 3 0,.orow 118 ((syC ws en (mR nx pa er)).1)),(cellIdP s 3 1,.orow 121 ((syU ws en (mR nx pa er)).1)),(s.nx,.orow 126 (q.1))] [2]} |_,_=>none,fun _=>none⟩) (fun _ _=>(cons_cons chn_ok (cons_cons rul_ok (cons_cons pro_ok (cons_cons acc_ok (cons_cons fin_ok cons_nil)))))) (by kernel_rfl) ?_
 intro ds;unfold sysS;split
 ·rename_i ws nx en pa er
  refine kmp (q:=withv (fun (i:D × Rd)=>chZ ws en (acR ws kwC i.snd)) fun E217=>withv (fun (i:D × Rd)=>poZ ws en (acR ws kwP i.snd)) fun E218=>withv (syC ws en (mR nx pa er)) fun E219=>withv (fun (i:D × Rd)=>ruZ ws en (acR ws kwU i.snd)) fun E220=>withv (fun (i:D × Rd)=>D.l [[D.s (E217 i).nm,D.i (E217 i).k,D.i (E217 i).n,D.s (E217 i).fr,D.s (E217 i).to,(E217 i).tg.sub 0 ((0:Nat)+(E217 i).tg.len)]]) fun E221=>withv (fun (i:D × Rd)=>D.l [[D.s (E218 i).nm,(E218 i).vs.sub 0 ((0:Nat)+(E218 i).vs.len),(E218 i).b.sub 0 ((0:Nat)+(E218 i).b.len)]]) fun E222=>withv (syU ws en (mR nx pa er)) fun E223=>withv (fun (i:D × Rd)=>D.l [[D.s (E220 i).ch,(E220 i).mv.sub 0 ((0:Nat)+(E220 i).mv.len)]]) fun E224=>rdOK ws nx->(∃ (i:D × Rd),(rdOK ws i.snd.nx/\seqA (acG kwC ws) (csF ws en) ws i.fst i.snd=syC ws en (mR nx pa er)/\i.fst.len+left ws i.snd<=(1000001:Nat))/\ws.rows=ws.rows/\nx=i.snd.nx/\en=en/\pa=i.snd.pa/\er=i.snd.er/\i.fst.len=0/\i.fst.rows=[])/\∀ (i:D × Rd),rdOK ws i.snd.nx/\seqA (acG kwC ws) (csF ws en) ws i.fst i.snd=syC ws en (mR nx pa er)/\i.fst.len+left ws i.snd<=1000001->rdOK ws i.snd.nx/\0<kwC.size/\(acB ws i.snd.nx kwC=true->rdOK ws (acR ws kwC i.snd).nx/\0+(E217 i).tg.len<=(E217 i).tg.len/\i.fst.len=i.fst.len/\(i.fst.len+((E221 i).sub 0 1).len)*88<=140737488355328/\0+1<=(E221 i).len/\∃ (j:D × Rd),(rdOK ws j.snd.nx/\seqA (acG kwC ws) (csF ws en) ws j.fst j.snd=syC ws en (mR nx pa er)/\j.fst.len+left ws j.snd<=(1000001:Nat))/\left ws j.snd<left ws i.snd/\ws.rows=ws.rows/\(chR ws en (acR ws kwC i.snd)).nx=j.snd.nx/\en=en/\(chR ws en (acR ws kwC i.snd)).pa=j.snd.pa/\(chR ws en (acR ws kwC i.snd)).er=j.snd.er/\i.fst.len+((E221 i).sub 0 1).len=j.fst.len/\i.fst.rows++List.drop 0 (List.take 1 [[D.s (E217 i).nm,D.i (E217 i).k,D.i (E217 i).n,D.s (E217 i).fr,D.s (E217 i).to,(E217 i).tg.sub 0 ((0:Nat)+(E217 i).tg.len)]])=j.fst.rows)/\(acB ws i.snd.nx kwC=false->(∃ (i_1:D × Rd),(rdOK ws i_1.snd.nx/\seqA (acG kwU ws) (usF ws en) ws i_1.fst i_1.snd=syU ws en (mR nx pa er)/\i_1.fst.len+left ws i_1.snd<=(1000001:Nat))/\ws.rows=ws.rows/\(acR ws kwC i.snd).nx=i_1.snd.nx/\en=en/\(acR ws kwC i.snd).pa=i_1.snd.pa/\(acR ws kwC i.snd).er=i_1.snd.er/\i.fst.len=E219.fst.len/\i_1.fst.len=0/\i.fst.rows=E219.fst.rows/\i_1.fst.rows=[])/\∀ (i:D × Rd),rdOK ws i.snd.nx/\seqA (acG kwU ws) (usF ws en) ws i.fst i.snd=syU ws en (mR nx pa er)/\i.fst.len+left ws i.snd<=1000001->rdOK ws i.snd.nx/\0<kwU.size/\(acB ws i.snd.nx kwU=true->rdOK ws (acR ws kwU i.snd).nx/\0+(E220 i).mv.len<=(E220 i).mv.len/\i.fst.len=i.fst.len/\(i.fst.len+((E224 i).sub 0 1).len)*40<=140737488355328/\0+1<=(E224 i).len/\∃ (j:D × Rd),(rdOK ws j.snd.nx/\seqA (acG kwU ws) (usF ws en) ws j.fst j.snd=syU ws en (mR nx pa er)/\j.fst.len+left ws j.snd<=(1000001:Nat))/\left ws j.snd<left ws i.snd/\ws.rows=ws.rows/\(ruR ws en (acR ws kwU i.snd)).nx=j.snd.nx/\en=en/\(ruR ws en (acR ws kwU i.snd)).pa=j.snd.pa/\(ruR ws en (acR ws kwU i.snd)).er=j.snd.er/\E219.fst.len=E219.fst.len/\i.fst.len+((E224 i).sub 0 1).len=j.fst.len/\E219.fst.rows=E219.fst.rows/\i.fst.rows++List.drop 0 (List.take 1 [[D.s (E220 i).ch,(E220 i).mv.sub 0 ((0:Nat)+(E220 i).mv.len)]])=j.fst.rows)/\(acB ws i.snd.nx kwU=false->(∃ (i_1:D × Rd),(rdOK ws i_1.snd.nx/\seqA (acG kwP ws) (psF ws en) ws i_1.fst i_1.snd=syP ws en (mR nx pa er)/\i_1.fst.len+left ws i_1.snd<=(1000001:Nat))/\ws.rows=ws.rows/\(acR ws kwU i.snd).nx=i_1.snd.nx/\en=en/\(acR ws kwU i.snd).pa=i_1.snd.pa/\(acR ws kwU i.snd).er=i_1.snd.er/\E219.fst.len=E219.fst.len/\i.fst.len=E223.fst.len/\i_1.fst.len=0/\E219.fst.rows=E219.fst.rows/\i.fst.rows=E223.fst.rows/\i_1.fst.rows=[])/\∀ (i:D × Rd),rdOK ws i.snd.nx/\seqA (acG kwP ws) (psF ws en) ws i.fst i.snd=syP ws en (mR nx pa er)/\i.fst.len+left ws i.snd<=1000001->rdOK ws i.snd.nx/\0<kwP.size/\(acB ws i.snd.nx kwP=true->rdOK ws (acR ws kwP i.snd).nx/\0+(E218 i).vs.len<=(E218 i).vs.len/\0+(E218 i).b.len<=(E218 i).b.len/\i.fst.len=i.fst.len/\(i.fst.len+((E222 i).sub 0 1).len)*64<=140737488355328/\0+1<=(E222 i).len/\∃ (j:D × Rd),(rdOK ws j.snd.nx/\seqA (acG kwP ws) (psF ws en) ws j.fst j.snd=syP ws en (mR nx pa er)/\j.fst.len+left ws j.snd<=(1000001:Nat))/\left ws j.snd<left ws i.snd/\ws.rows=ws.rows/\(poR ws en (acR ws kwP i.snd)).nx=j.snd.nx/\en=en/\(poR ws en (acR ws kwP i.snd)).pa=j.snd.pa/\(poR ws en (acR ws kwP i.snd)).er=j.snd.er/\E219.fst.len=E219.fst.len/\E223.fst.len=E223.fst.len/\i.fst.len+((E222 i).sub 0 1).len=j.fst.len/\E219.fst.rows=E219.fst.rows/\E223.fst.rows=E223.fst.rows/\i.fst.rows++List.drop 0 (List.take 1 [[D.s (E218 i).nm,(E218 i).vs.sub 0 ((0:Nat)+(E218 i).vs.len),(E218 i).b.sub 0 ((0:Nat)+(E218 i).b.len)]])=j.fst.rows)/\(acB ws i.snd.nx kwP=false->rdOK ws (acR ws kwP i.snd).nx/\E219.fst.len=E219.fst.len/\E223.fst.len=E223.fst.len/\i.fst.len=(syP ws en (mR nx pa er)).fst.len/\ws.rows=ws.rows/\(fiR ws en (acR ws kwP i.snd)).nx=(syR ws en (mR nx pa er)).nx/\en=en/\(fiR ws en (acR ws kwP i.snd)).pa=(syR ws en (mR nx pa er)).pa/\(fiR ws en (acR ws kwP i.snd)).er=(syR ws en (mR nx pa er)).er/\E219.fst.rows=E219.fst.rows/\E223.fst.rows=E223.fst.rows/\i.fst.rows=(syP ws en (mR nx pa er)).fst.rows)))) (by kernel_rfl) ?_
  dsimp +instances only [withv]
  intro h;obtain ⟨a,b,c⟩:=sy_up en (r:=mR nx pa er) h;refine ⟨⟨(.l [],(mR nx pa er)),⟨h,rfl,(by show 0+left ws (mR nx pa er)<=1000001;have:=(lf_lt (r:=(mR nx pa er)) h).2;omega)⟩,?_⟩,?_⟩
  ·(repeat' (with_reducible apply And.intro))<;>first |with_reducible rfl |exact True.intro |with_reducible assumption |decide |assumption |rfl
  rintro q ⟨h1,h2,h3⟩;refine ⟨h1,by decide,fun hc=>?_,fun hc=>?_⟩
  ·have hg:acG kwC ws q.2=true:=hc;obtain ⟨u1,u2⟩:=(cs_sq en).up q.2 h1 hg;have u3:=lt_left u1 h1 u2;have hs:=seq_step (cs_sq en) (d:=q.1) h1 hg;have hz:(q.1.len+1)*88<=140737488355328:=by omega
   have hl:(D.l (q.1.rows++[(csF ws en q.2).1])).len+left ws (csF ws en q.2).2<=1000001:=by rw [ap_len];omega
   have m1:=(ac_up (t:=kwC) h1 (by decide)).1;refine ⟨m1,Nat.le_of_eq (Nat.zero_add _),rfl,hz,Nat.le_refl 1,(.l (q.1.rows++[(csF ws en q.2).1]),(csF ws en q.2).2),⟨u1,hs.trans h2,hl⟩,u3,?_⟩;simp only [subAll]
   (repeat' (with_reducible apply And.intro))<;>first |with_reducible rfl |exact True.intro |exact (ap_len _ _).symm |rfl
  have hg:acG kwC ws q.2=false:=hc;have h2:(q.1,q.2)=(syC ws en (mR nx pa er)):=(seq_end hg).symm.trans h2;rw [acR_no (r:=q.2) hc];refine ⟨⟨(.l [],(syC ws en (mR nx pa er)).2),⟨a,rfl,(by show 0+left ws (syC ws en (mR nx pa er)).2<=1000001;have:=(lf_lt (r:=(syC ws en (mR nx pa er)).2) a).2;omega)⟩,?_⟩,?_⟩
  ·simp only [<- h2]
   (repeat' (with_reducible apply And.intro))<;>first |with_reducible rfl |exact True.intro |with_reducible assumption |decide |assumption |rfl
  rintro q ⟨h1,h2,h3⟩;refine ⟨h1,by decide,fun hc=>?_,fun hc=>?_⟩
  ·have hg:acG kwU ws q.2=true:=hc;obtain ⟨u1,u2⟩:=(us_sq en).up q.2 h1 hg;have u3:=lt_left u1 h1 u2;have hs:=seq_step (us_sq en) (d:=q.1) h1 hg;have hz:(q.1.len+1)*40<=140737488355328:=by omega
   have hl:(D.l (q.1.rows++[(usF ws en q.2).1])).len+left ws (usF ws en q.2).2<=1000001:=by rw [ap_len];omega
   have m1:=(ac_up (t:=kwU) h1 (by decide)).1;refine ⟨m1,Nat.le_of_eq (Nat.zero_add _),rfl,hz,Nat.le_refl 1,(.l (q.1.rows++[(usF ws en q.2).1]),(usF ws en q.2).2),⟨u1,hs.trans h2,hl⟩,u3,?_⟩;simp only [subAll]
   (repeat' (with_reducible apply And.intro))<;>first |with_reducible rfl |exact True.intro |exact (ap_len _ _).symm |rfl
  have hg:acG kwU ws q.2=false:=hc;have h2:(q.1,q.2)=(syU ws en (mR nx pa er)):=(seq_end hg).symm.trans h2;rw [acR_no (r:=q.2) hc];refine ⟨⟨(.l [],(syU ws en (mR nx pa er)).2),⟨b,rfl,(by show 0+left ws (syU ws en (mR nx pa er)).2<=1000001;have:=(lf_lt (r:=(syU ws en (mR nx pa er)).2) b).2;omega)⟩,?_⟩,?_⟩
  ·simp only [<- h2]
   (repeat' (with_reducible apply And.intro))<;>first |with_reducible rfl |exact True.intro |with_reducible assumption |decide |assumption |rfl
  rintro q ⟨h1,h2,h3⟩;refine ⟨h1,by decide,fun hc=>?_,fun hc=>?_⟩
  ·have hg:acG kwP ws q.2=true:=hc;obtain ⟨u1,u2⟩:=(ps_sq en).up q.2 h1 hg;have u3:=lt_left u1 h1 u2;have hs:=seq_step (ps_sq en) (d:=q.1) h1 hg;have hz:(q.1.len+1)*64<=140737488355328:=by omega
   have hl:(D.l (q.1.rows++[(psF ws en q.2).1])).len+left ws (psF ws en q.2).2<=1000001:=by rw [ap_len];omega
   have m1:=(ac_up (t:=kwP) h1 (by decide)).1;refine ⟨m1,Nat.le_of_eq (Nat.zero_add _),Nat.le_of_eq (Nat.zero_add _),rfl,hz,Nat.le_refl 1,(.l (q.1.rows++[(psF ws en q.2).1]),(psF ws en q.2).2),⟨u1,hs.trans h2,hl⟩,u3,?_⟩;simp only [subAll]
   (repeat' (with_reducible apply And.intro))<;>first |with_reducible rfl |exact True.intro |exact (ap_len _ _).symm |rfl
  have hg:acG kwP ws q.2=false:=hc;have h2:(q.1,q.2)=(syP ws en (mR nx pa er)):=(seq_end hg).symm.trans h2;rw [acR_no (r:=q.2) hc];simp only [syR,<- h2]
  (repeat' (with_reducible apply And.intro))<;>first |with_reducible rfl |exact True.intro |with_reducible assumption |decide |assumption |rfl
 ·trivial
def paW (s:ByteArray):D:=tokD (lexR s).1
def paY (s:ByteArray):Rd:=syR (paW s) (s.size:Nat) (mR 0 0 0)
def paO (s:ByteArray):Bool:=decide ((lexR s).2.2=0)&&decide ((paY s).er=0)
def paC (s:ByteArray):D:=if paO s=true then (syC (paW s) (s.size:Nat) (mR 0 0 0)).1 else .l []
def paU (s:ByteArray):D:=if paO s=true then (syU (paW s) (s.size:Nat) (mR 0 0 0)).1 else .l []
def paP (s:ByteArray):D:=if paO s=true then (syP (paW s) (s.size:Nat) (mR 0 0 0)).1 else .l []
def paE (s:ByteArray):Int:=if (lexR s).2.2=0 then (paY s).er else (lexR s).2.2
def paA (s:ByteArray):Int:=if (lexR s).2.2=0 then (if (paY s).er=0 then 0 else (paY s).pa) else ((lexR s).2.1:Nat)
theorem ne_of_bne {a b:Int} (h:(a != b)=true):a≠b:=by simpa using h
theorem of_not_bne {a b:Int} (h:(a != b)=false):a=b:=by simpa using h
theorem lexR_len (s:ByteArray):(lexR s).1.length<=2000:=by
 unfold lexR;split
 ·exact Nat.zero_le _
 ·split
  ·exact Nat.zero_le _
  ·rename_i h;exact Nat.le_of_not_lt h
theorem paW_ok (s:ByteArray):rdOK (paW s) (mR 0 0 0).nx:=by
 have h:=lexR_len s;have e:(paW s).len=(lexR s).1.length:=tokD_len _;exact ⟨Int.le_refl _,by show (0:Int)<=_;omega,by omega⟩
noncomputable def parS:List Dat->Option Eff:=fun ds=>match ds with
 | [.s s]=>some {val:=.tup [.agg [.c (.osl 118 0 (.lit 0) (.sym ((paC s).len))),.c (.osl 121 1 (.lit 0) (.sym ((paU s).len))),.c (.osl 126 2 (.lit 0) (.sym ((paP s).len)))],.sc (.int .i64 (.sym (paA s))),.sc (.int .i64 (.sym (paE s)))],vc:=[s.size<=140737488351232],nw:=[(0,.orow 118 (paC s)),(1,.orow 121 (paU s)),(2,.orow 126 (paP s))]}
 |_=>none
noncomputable def parC:Con:=conS [.sc .str] parS
theorem par_ok:ConOK Tryz.prog 16 parC:=by
 refine fn_obS tt_ok mixed Tryz.func16 rfl (fun _ _=>by kernel_rfl) (A:=fun ds=>⟨fun _=>Cons.of [(37,lexC),(38,sysC)],fun _=>none,fun _=>none⟩) (fun _ _=>(cons_cons lex_ok (cons_cons sys_ok cons_nil))) (by kernel_rfl) ?_
 intro ds;unfold parS;split
 ·rename_i s;refine kmp (q:=s.size<=140737488351232->s.size<=140737488351232/\(((lexR s).snd.snd != (0:Int))=true->(paC s).len=0/\(paU s).len=0/\(paP s).len=0/\(↑(lexR s).snd.fst:Int)=paA s/\(lexR s).snd.snd=paE s/\(paC s).rows=[]/\(paU s).rows=[]/\(paP s).rows=[])/\(((lexR s).snd.snd != (0:Int))=false->rdOK (tokD (lexR s).fst) (0:Int)/\(((syR (tokD (lexR s).fst) (s.size:Int) (mR (0:Int) (0:Int) (0:Int))).er != (0:Int))=true->(paC s).len=0/\(paU s).len=0/\(paP s).len=0/\(syR (tokD (lexR s).fst) (s.size:Int) (mR (0:Int) (0:Int) (0:Int))).pa=paA s/\(syR (tokD (lexR s).fst) (s.size:Int) (mR (0:Int) (0:Int) (0:Int))).er=paE s/\(paC s).rows=[]/\(paU s).rows=[]/\(paP s).rows=[])/\(((syR (tokD (lexR s).fst) (s.size:Int) (mR (0:Int) (0:Int) (0:Int))).er != (0:Int))=false->(syC (tokD (lexR s).fst) (s.size:Int) (mR (0:Int) (0:Int) (0:Int))).fst.len=(paC s).len/\(syU (tokD (lexR s).fst) (s.size:Int) (mR (0:Int) (0:Int) (0:Int))).fst.len=(paU s).len/\(syP (tokD (lexR s).fst) (s.size:Int) (mR (0:Int) (0:Int) (0:Int))).fst.len=(paP s).len/\(0:Int)=paA s/\(0:Int)=paE s/\(syC (tokD (lexR s).fst) (s.size:Int) (mR (0:Int) (0:Int) (0:Int))).fst.rows=(paC s).rows/\(syU (tokD (lexR s).fst) (s.size:Int) (mR (0:Int) (0:Int) (0:Int))).fst.rows=(paU s).rows/\(syP (tokD (lexR s).fst) (s.size:Int) (mR (0:Int) (0:Int) (0:Int))).fst.rows=(paP s).rows))) (by kernel_rfl) ?_
  intro h;have g:=paW_ok s;refine ⟨h,fun hc=>?_,fun hc=>⟨g,fun hd=>?_,fun hd=>?_⟩⟩
  ·have hc:(lexR s).2.2≠0:=by simpa using hc
   have e:paO s=false:=by simp only [paO,decide_eq_false hc,Bool.false_and]
   simp only [paC,paU,paP,paA,paE,e,if_neg hc,Bool.false_eq_true,if_false]
   (repeat' (with_reducible apply And.intro))<;>first |with_reducible rfl |exact True.intro |with_reducible assumption |decide |assumption |rfl
  ·have hc:(lexR s).2.2=0:=by simpa using hc
   have hd:(paY s).er≠0:=ne_of_bne hd;have e:paO s=false:=by simp only [paO,decide_eq_false hd,Bool.and_false]
   simp only [paC,paU,paP,paA,paE,e,if_pos hc,if_neg hd,Bool.false_eq_true,if_false]
   (repeat' (with_reducible apply And.intro))<;>first |with_reducible rfl |exact True.intro |with_reducible assumption |decide |assumption |rfl
  ·have hc:(lexR s).2.2=0:=by simpa using hc
   have hd:(paY s).er=0:=of_not_bne hd;have e:paO s=true:=by simp only [paO,decide_eq_true hc,decide_eq_true hd,Bool.and_self]
   simp only [paC,paU,paP,paA,paE,e,if_pos hc,if_pos hd,if_true,hd]
   (repeat' (with_reducible apply And.intro))<;>first |with_reducible rfl |exact True.intro |with_reducible assumption |decide |assumption |rfl
 ·trivial
def bcR (ch pr:D) (i:Nat):List D:=[D.i (ch.el i 1).toI,D.i (ch.el i 2).toI,D.i (ixC pr (ch.el i 3).toS),D.i (ixC pr (ch.el i 4).toS),D.i (ch.el i 5).len,D.l []]
structure BcOK (ch pr:D):Prop where
 l:ch.len<=1000000
 p:pr.len<=1000000
 f:∀ i,i<ch.len->0<=ixC pr (ch.el i 3).toS
 t:∀ i,i<ch.len->0<=ixC pr (ch.el i 4).toS
 n:∀ i,i<ch.len->ixC pr (ch.el i 3).toS≠ixC pr (ch.el i 4).toS
noncomputable def bchS:FSpec:=fun ds _=>match ds with
 | [.d ch,.d ru,.d pr]=>some {val:=.tup [.sc (.rows 69 (cpTo ch.len (bcR ch pr))),.sc (.int .i64 (.lit 0))],vc:=[ru.len=0,BcOK ch pr]}
 |_=>none
noncomputable def bchC:Con:=con [lSy] bchS
theorem bch_ok:ConOK Tryz.prog 31 bchC:=by
 refine fn_ob tt_ok mixed Tryz.func31 rfl (fun _ _=>by kernel_rfl) (A:=fun ds=>⟨fun _=>Cons.of [(57,procAtC),(58,chanAtC)],fun k=>match k,ds with | 3,[.d ch,.d ru,.d pr]=>some {ι:=Nat,pre:=fun _ i=>i<=ch.len,μ:=fun i=>ch.len+1-i,st:=fun s i=>famR s [(17,.one (.sc (.int .i64 (.sym ((i:Nat)))))),(4,.one (.sc (.osl 69 (s.nx-1) (.lit 0) (.sym (i)))))] [1,15,16] [(s.nx-1,.orow 69 (cpTo i (bcR ch pr)))] [1]} | 13,[.d ch,.d ru,.d pr]=>some {ι:=Nat,pre:=fun _ i=>i=0,μ:=fun i=>1-i,st:=fun s i=>famR s [(57,.one (.sc (.int .i64 (.sym ((i:Nat))))))] [1,4,55,56] [] [1,4]} |_,_=>none,fun _=>none⟩) (fun _ _=>(cons_cons procAt_ok (cons_cons chanAt_ok cons_nil))) (by kernel_rfl) ?_
 intro ds fr;unfold bchS;split
 ·rename_i ch ru pr
  refine kmp (q:=withv (fun (i:Nat)=>D.l [[D.i (ch.el (i:Int).toNat 1).toI,D.i (ch.el (i:Int).toNat 2).toI,D.i (ixC pr (ch.el (i:Int).toNat 3).toS),D.i (ixC pr (ch.el (i:Int).toNat 4).toS),D.i (↑(ch.el (i:Int).toNat 5).len:Int),D.l []]]) fun E227=>withv (fun (i:Nat)=>ch.el (i:Int).toNat 4) fun E228=>withv (fun (i:Nat)=>ch.el (i:Int).toNat 3) fun E229=>withv (fun (i_1:Nat)=>ru.el (i_1:Int).toNat 0) fun E230=>ru.len=(0:Nat)->BcOK ch pr->(∃ (i:Nat),i.le ch.len/\(0:Int)=(i:Int)/\i=(0:Nat)/\ch.rows=ch.rows/\(ch.len:Int)=(ch.len:Int)/\List.map (bcR ch pr) (List.range i)=[]/\ch.rows=ch.rows/\ru.rows=ru.rows/\pr.rows=pr.rows)/\∀ (i:Nat),i.le ch.len->(decide ((i:Int)<(ch.len:Int))=true->((0:Int)<=(i:Int)/\(i:Int)<(ch.len:Int))/\pr.len<=10000000000000/\pr.len<=10000000000000/\((decide (ixC pr (E229 i).toS<(0:Int)) ||decide (ixC pr (E228 i).toS<(0:Int)))=true->List.map (bcR ch pr) (List.range ch.len)=[]/\(8:Int)=(0:Int))/\((decide (ixC pr (E229 i).toS<(0:Int)) ||decide (ixC pr (E228 i).toS<(0:Int)))=false->((ixC pr (E229 i).toS==ixC pr (E228 i).toS)=true->List.map (bcR ch pr) (List.range ch.len)=[]/\(9:Int)=(0:Int))/\((ixC pr (E229 i).toS==ixC pr (E228 i).toS)=false->i=(cpTo i (bcR ch pr)).len/\(i+((E227 i).sub (0:Nat) 1).len)*(64:Nat)<=(140737488355328:Nat)/\(0:Nat)+(1:Nat)<=(E227 i).len/\∃ (j:Nat),j.le ch.len/\ch.len+(1:Nat)-j<ch.len+(1:Nat)-i/\IntKind.i64.wrap ((i:Int)+(1:Int))=(j:Int)/\i+((E227 i).sub (0:Nat) 1).len=j/\ch.rows=ch.rows/\(ch.len:Int)=(ch.len:Int)/\List.map (bcR ch pr) (List.range i)++List.drop (0:Nat) (List.take 1 [[D.i (ch.el (i:Int).toNat 1).toI,D.i (ch.el (i:Int).toNat 2).toI,D.i (ixC pr (E229 i).toS),D.i (ixC pr (E228 i).toS),D.i (↑(ch.el (i:Int).toNat 5).len:Int),D.l []]])=List.map (bcR ch pr) (List.range j)/\ch.rows=ch.rows/\ru.rows=ru.rows/\pr.rows=pr.rows)))/\(decide ((i:Int)<(ch.len:Int))=false->(∃ (i_1:Nat),i_1=(0:Nat)/\(0:Int)=(i_1:Int)/\i=i/\ru.rows=ru.rows/\(ru.len:Int)=(ru.len:Int)/\ch.rows=ch.rows/\ru.rows=ru.rows/\pr.rows=pr.rows/\List.map (bcR ch pr) (List.range i)=List.map (bcR ch pr) (List.range i))/\∀ (i_1:Nat),i_1=(0:Nat)->(decide ((i_1:Int)<(ru.len:Int))=true->((0:Int)<=(i_1:Int)/\(i_1:Int)<(ru.len:Int))/\ch.len<=10000000000000/\(decide (ixC ch (E230 i_1).toS<(0:Int))=true->List.map (bcR ch pr) (List.range ch.len)=[]/\(8:Int)=(0:Int))/\(decide (ixC ch (E230 i_1).toS<(0:Int))=false->((0:Int)<=ixC ch (E230 i_1).toS/\ixC ch (E230 i_1).toS<(i:Int))/\(ixC ch (E230 i_1).toS).toNat<(cpTo i (bcR ch pr)).len/\(decide ((↑((cpTo i (bcR ch pr)).el (ixC ch (E230 i_1).toS).toNat ((0:Nat)+(5:Nat))).len:Int)>(0:Int))=true->List.map (bcR ch pr) (List.range ch.len)=[]/\(7:Int)=(0:Int))/\(decide ((↑((cpTo i (bcR ch pr)).el (ixC ch (E230 i_1).toS).toNat ((0:Nat)+(5:Nat))).len:Int)>(0:Int))=false->False)))/\(decide ((i_1:Int)<(ru.len:Int))=false->(0:Nat)+i<=(cpTo i (bcR ch pr)).len/\List.drop ((0:Nat)) (List.take ((0:Nat)+i) (List.map (bcR ch pr) (List.range i)))=List.map (bcR ch pr) (List.range ch.len)/\(0:Int)=(0:Int)))) (by kernel_rfl) ?_
  dsimp +instances only [withv]
  intro hr hb;simp only [Nat.reduceAdd,Nat.zero_add,k_n];have b1:=hb.l;have b2:=hb.p;refine ⟨⟨0,Nat.zero_le _,(by (repeat' (with_reducible apply And.intro))<;>first |exact True.intro |rfl)⟩,fun i hi=>⟨fun hc=>?_,fun hc=>?_⟩⟩
  ·have hc:=of_decide_eq_true hc;have hi2:i<ch.len:=by omega
   have f1:=hb.f i hi2;have f2:=hb.t i hi2;have f3:=hb.n i hi2;refine ⟨⟨by omega,by omega⟩,by omega,by omega,fun h=>?_,fun _=>⟨fun h=>absurd (eq_of_beq h) f3,fun _=>⟨(cpTo_len _ _).symm,(show (i+1)*64<=140737488355328 by omega),Nat.le_refl _,i+1,hi2,by omega,k_nx (by omega),(by (repeat' (with_reducible apply And.intro))<;>first |exact True.intro |exact (cpTo_succ _ _).symm |rfl)⟩⟩⟩;simp only [Bool.or_eq_true,decide_eq_true_eq] at h;omega
  ·have hc:=of_decide_eq_false hc;have hi3:i=ch.len:=by have:i<=ch.len:=hi;omega
   subst hi3;refine ⟨⟨0,rfl,(by (repeat' (with_reducible apply And.intro))<;>first |exact True.intro |rfl)⟩,fun q hq=>?_⟩;subst hq;refine ⟨fun h=>?_,fun _=>⟨by rw [cpTo_len];omega,by have:=takeAll ch.len (bcR ch pr);rw [Nat.zero_add] at this;exact this,trivial⟩⟩;have h:=of_decide_eq_true h;omega
 ·trivial
noncomputable def plcS:List Dat->Option (Eff × List Seg):=fun ds=>match ds with
 | [.d bc,.s bp,.d bv,.i be,.d l,.s s]=>some ({val:=.one (.sc (.int .i64 (.sym (ixN l s)))),vc:=[l.len<=10000000000000,0<=ixN l s]},[.c (.rows 118 bc),.c (.raw (.string bp)),.c (.rows 9 bv),.c (.int .i64 (.sym be))])
 |_=>none
noncomputable def plcC:Con:=conM 182 [.c (.rows 118),.c .str,.c (.rows 9),.c (.int .i64)] [.sc (.rows 9),.sc .str] plcS
theorem plc_ok:ConOK Tryz.prog 140 plcC:=by
 refine fn_obM tt_ok mixed Tryz.func140 rfl (fun _ _=>by kernel_rfl) (A:=fun ds=>⟨fun _=>Cons.of [(105,ixsC)],fun _=>none,fun _=>none⟩) (fun _ _=>(cons_cons ixs_ok cons_nil)) (by kernel_rfl) ?_
 intro ds;unfold plcS;split
 ·rename_i bc bp bv be l s;refine kmp (q:=l.len<=10000000000000->(0:Int)<=ixN l s->l.len<=10000000000000/\(decide (ixN l s<(0:Int))=true->False)/\(decide (ixN l s<(0:Int))=false->ixN l s=ixN l s/\bc.rows=bc.rows/\Value.string bp=Value.string bp/\bv.rows=bv.rows/\be=be)) (by kernel_rfl) ?_
  intro hl h0;exact ⟨hl,fun h=>absurd (of_decide_eq_true h) (by omega),fun _=>⟨rfl,rfl,rfl,rfl,rfl⟩⟩
 ·trivial
noncomputable def ksndS:FSpec:=fun ds _=>match ds with
 | [.s nm,.i ck,.i cz,.s cf,.s ct,.d tg]=>some {val:=.one (.sc (.raw (.string (cf)))),vc:=[]}
 |_=>none
noncomputable def ksndC:Con:=con [.agg [.c .str,.c (.int .i64),.c (.int .i64),.c .str,.c .str,.c (.rows 9)]] ksndS
theorem ksnd_ok:ConOK Tryz.prog 144 ksndC:=by
 refine fn_ob tt_ok mixed Tryz.func144 rfl (fun _ _=>by kernel_rfl) (A:=fun ds=>⟨fun _=>Cons.of [],fun _=>none,fun _=>none⟩) (fun _ _=>cons_nil) (by kernel_rfl) ?_
 intro ds fr;unfold ksndS;split
 ·rename_i nm ck cz cf ct tg;refine kmp (q:=Value.string cf=Value.string cf) (by kernel_rfl) ?_
  rfl
 ·trivial
noncomputable def cnlS:List Dat->Option (Eff × List Seg):=fun ds=>match ds with
 | [.d bc,.s bp,.d bv,.i be,.s nm,.v kf]=>(match isFn 144 kf with |true=>some ({val:=.tup [.sc (.int .i64 (.sym (ixC bc nm))),.sc (.rows 9 (bc.el (ixC bc nm).toNat 5))],vc:=[bc.len<=10000000000000,0<=ixC bc nm,eqS (bc.el (ixC bc nm).toNat 3).toS bp=true]},[.c (.rows 118 bc),.c (.raw (.string bp)),.c (.rows 9 bv),.c (.int .i64 (.sym be))]) |false=>none)
 |_=>none
noncomputable def cnlC:Con:=conM 182 [.c (.rows 118),.c .str,.c (.rows 9),.c (.int .i64)] [.sc .str,.sc .any] cnlS
theorem cnl_ok:ConOK Tryz.prog 143 cnlC:=by
 refine fn_obM tt_ok mixed Tryz.func143 rfl (fun _ _=>by kernel_rfl) (A:=fun ds=>⟨fun _=>Cons.of [(58,chanAtC),(144,ksndC)],fun _=>none,fun _=>none⟩) (fun _ _=>(cons_cons chanAt_ok (cons_cons ksnd_ok cons_nil))) (by kernel_rfl) ?_
 intro ds;unfold cnlS;split
 ·rename_i bc bp bv be nm kf;split
  ·rename_i hg;obtain rfl:=isFn_eq hg;refine kmp (q:=bc.len<=10000000000000->(0:Int)<=ixC bc nm->eqS (bc.el (ixC bc nm).toNat 3).toS bp=true->bc.len<=10000000000000/\(decide (ixC bc nm<(0:Int))=true->False)/\(decide (ixC bc nm<(0:Int))=false->((0:Int)<=ixC bc nm/\ixC bc nm<(bc.len:Int))/\((!(bc.el (ixC bc nm).toNat 3).toS.toList==bp.toList)=true->False)/\((!(bc.el (ixC bc nm).toNat 3).toS.toList==bp.toList)=false->((0:Int)<=ixC bc nm/\ixC bc nm<(bc.len:Int))/\ixC bc nm=ixC bc nm/\(bc.el (ixC bc nm).toNat ((0:Nat)+(5:Nat))).rows=(bc.el (ixC bc nm).toNat 5).rows/\bc.rows=bc.rows/\Value.string bp=Value.string bp/\bv.rows=bv.rows/\be=be))) (by kernel_rfl) ?_
   intro hl h0 he
   try (try simp only [Nat.reduceAdd,Nat.zero_add])
   have hb:ixC bc nm<bc.len:=by
    unfold ixC at h0 ⊢
    rcases ixF_or (fun j=>eqS (bc.el j 0).toS nm) bc.len with ⟨i,h1,_,_,h2⟩ |⟨_,h2⟩
    ·rw [h2];omega
    ·rw [h2] at h0;omega
   unfold eqS at he;refine ⟨hl,fun h=>absurd (of_decide_eq_true h) (by omega),fun _=>⟨⟨h0,hb⟩,fun h=>?_,fun _=>⟨⟨h0,hb⟩,(by (repeat' (with_reducible apply And.intro))<;>first |exact True.intro |rfl)⟩⟩⟩;rw [he] at h
   cases h
  ·trivial
 ·trivial
noncomputable def bxeS:List Dat->Option (Eff × List Seg):=fun ds=>match ds with
 | [.d bc,.s bp,.d bv,.i be,.i k,.i n,.s s,.d d]=>some ({val:=.one (.agg [.c (.int .i64 (.sym (k))),.c (.int .i64 (.sym (n))),.c (.int .i64 (.lit 0)),.c (.rows 161 (.l []))]),vc:=[k=1]},[.c (.rows 118 bc),.c (.raw (.string bp)),.c (.rows 9 bv),.c (.int .i64 (.sym be))])
 |_=>none
noncomputable def bxeC:Con:=conM 182 [.c (.rows 118),.c .str,.c (.rows 9),.c (.int .i64)] [lX] bxeS
theorem bxe_ok:ConOK Tryz.prog 141 bxeC:=by
 refine fn_obM tt_ok mixed Tryz.func141 rfl (fun _ _=>by kernel_rfl) (A:=fun ds=>⟨fun _=>Cons.of [(140,plcC)],fun _=>none,fun _=>none⟩) (fun _ _=>(cons_cons plc_ok cons_nil)) (by kernel_rfl) ?_
 intro ds;unfold bxeS;split
 ·rename_i bc bp bv be k n s d;refine kmp (q:=k=(1:Int)->((k==(1:Int))=true->k=k/\n=n/\(0:Int)=(0:Int)/\([]:List (List D))=[]/\bc.rows=bc.rows/\Value.string bp=Value.string bp/\bv.rows=bv.rows/\be=be)/\((k==(1:Int))=false->((k==(2:Int))=true->bv.len<=10000000000000/\(0:Int)<=ixN bv s/\k=k/\(0:Int)=n/\ixN bv s=(0:Int)/\([]:List (List D))=[]/\bc.rows=bc.rows/\Value.string bp=Value.string bp/\bv.rows=bv.rows/\be=be)/\((k==(2:Int))=false->False))) (by kernel_rfl) ?_
  intro hk;subst hk;exact ⟨fun _=>⟨rfl,rfl,rfl,rfl,rfl,rfl,rfl,rfl⟩,fun h=>absurd h (by decide)⟩
 ·trivial
structure BsOK (bc:D) (bp nm tg:ByteArray) (k ek:Int):Prop where
 k:k=4
 e:ek=1
 l:bc.len<=10000000000000
 c:0<=ixC bc nm
 f:eqS (bc.el (ixC bc nm).toNat 3).toS bp=true
 tl:(bc.el (ixC bc nm).toNat 5).len<=10000000000000
 t:0<=ixN (bc.el (ixC bc nm).toNat 5) tg
noncomputable def bstS:List Dat->Option (Eff × List Seg):=fun ds=>match ds with
 | [.d bc,.s bp,.d bv,.i be,.i k,.s nm,.s tg,.i ek,.i en,.s es,.d ed,.i op,.i lk,.i ln,.s ls,.d ld,.i rk,.i rn,.s rs,.d rd,.d bd,.d eb,.d am]=>some ({val:=.one (.agg [.c (.int .i64 (.sym (k))),.c (.int .i64 (.lit 0)),.c (.int .i64 (.sym (ixC bc nm))),.c (.int .i64 (.sym (ixN (bc.el (ixC bc nm).toNat 5) tg))),.c (.int .i64 (.sym (ek))),.c (.int .i64 (.sym (en))),.c (.int .i64 (.lit 0)),.c (.rows 161 (.l [])),.c (.int .i64 (.lit 0)),.c (.int .i64 (.lit 0)),.c (.int .i64 (.lit 0)),.c (.int .i64 (.lit 0)),.c (.rows 161 (.l [])),.c (.int .i64 (.lit 0)),.c (.int .i64 (.lit 0)),.c (.int .i64 (.lit 0)),.c (.rows 161 (.l [])),.c (.rows 166 (.l [])),.c (.rows 166 (.l [])),.c (.rows 170 (.l []))]),vc:=[BsOK bc bp nm tg k ek]},[.c (.rows 118 bc),.c (.raw (.string bp)),.c (.rows 9 bv),.c (.int .i64 (.sym be))])
 |_=>none
noncomputable def bstC:Con:=conM 182 [.c (.rows 118),.c .str,.c (.rows 9),.c (.int .i64)] [lSt] bstS
theorem bst_ok:ConOK Tryz.prog 107 bstC:=by
 refine fn_obM tt_ok mixed Tryz.func107 rfl (fun _ _=>by kernel_rfl) (A:=fun ds=>⟨fun _=>Cons.of [(140,plcC),(141,bxeC),(143,cnlC)],fun _=>none,fun _=>none⟩) (fun _ _=>(cons_cons plc_ok (cons_cons bxe_ok (cons_cons cnl_ok cons_nil)))) (by kernel_rfl) ?_
 intro ds;unfold bstS;split
 ·rename_i bc bp bv be k nm tg ek en es ed op lk ln ls ld rk rn rs rd bd eb am;refine kmp (q:=BsOK bc bp nm tg k ek->((k==(1:Int))=true->bv.len<=10000000000000/\(0:Int)<=ixN bv nm/\ek=(1:Int)/\k=k/\ixN bv nm=(0:Int)/\(0:Int)=ixC bc nm/\(0:Int)=ixN (bc.el (ixC bc nm).toNat 5) tg/\ek=ek/\en=en/\(0:Int)=(0:Int)/\([]:List (List D))=[]/\(0:Int)=(0:Int)/\(0:Int)=(0:Int)/\(0:Int)=(0:Int)/\(0:Int)=(0:Int)/\([]:List (List D))=[]/\(0:Int)=(0:Int)/\(0:Int)=(0:Int)/\(0:Int)=(0:Int)/\([]:List (List D))=[]/\([]:List (List D))=[]/\([]:List (List D))=[]/\([]:List (List D))=[]/\bc.rows=bc.rows/\Value.string bp=Value.string bp/\bv.rows=bv.rows/\be=be)/\((k==(1:Int))=false->((k==(2:Int))=true->False)/\((k==(2:Int))=false->((k==(3:Int))=true->False)/\((k==(3:Int))=false->((k==(4:Int))=true->bc.len<=10000000000000/\(0:Int)<=ixC bc nm/\eqS (bc.el (ixC bc nm).toNat 3).toS bp=true/\(bc.el (ixC bc nm).toNat 5).len<=10000000000000/\(0:Int)<=ixN (bc.el (ixC bc nm).toNat 5) tg/\ek=(1:Int)/\k=k/\(0:Int)=(0:Int)/\ixC bc nm=ixC bc nm/\ixN (bc.el (ixC bc nm).toNat 5) tg=ixN (bc.el (ixC bc nm).toNat 5) tg/\ek=ek/\en=en/\(0:Int)=(0:Int)/\([]:List (List D))=[]/\(0:Int)=(0:Int)/\(0:Int)=(0:Int)/\(0:Int)=(0:Int)/\(0:Int)=(0:Int)/\([]:List (List D))=[]/\(0:Int)=(0:Int)/\(0:Int)=(0:Int)/\(0:Int)=(0:Int)/\([]:List (List D))=[]/\([]:List (List D))=[]/\([]:List (List D))=[]/\([]:List (List D))=[]/\bc.rows=bc.rows/\Value.string bp=Value.string bp/\bv.rows=bv.rows/\be=be)/\((k==(4:Int))=false->((k==(5:Int))=true->False)/\((k==(5:Int))=false->((k==(6:Int))=true->False)/\((k==(6:Int))=false->bv.len<=10000000000000/\(0:Int)<=ixN bv nm/\k=k/\ixN bv nm=(0:Int)/\(0:Int)=ixC bc nm/\(0:Int)=ixN (bc.el (ixC bc nm).toNat 5) tg/\(0:Int)=ek/\(0:Int)=en/\(0:Int)=(0:Int)/\([]:List (List D))=[]/\(0:Int)=(0:Int)/\(0:Int)=(0:Int)/\(0:Int)=(0:Int)/\(0:Int)=(0:Int)/\([]:List (List D))=[]/\(0:Int)=(0:Int)/\(0:Int)=(0:Int)/\(0:Int)=(0:Int)/\([]:List (List D))=[]/\([]:List (List D))=[]/\([]:List (List D))=[]/\([]:List (List D))=[]/\bc.rows=bc.rows/\Value.string bp=Value.string bp/\bv.rows=bv.rows/\be=be))))))) (by kernel_rfl) ?_
  intro hs
  (try simp only [Nat.reduceAdd,Nat.zero_add])
  have k4:=hs.k;have no:∀ j:Int,j≠4->(k==j)=false:=fun j hj=>by rw [beq_eq_false_iff_ne,k4];exact fun h=>hj h.symm
  refine ⟨fun h=>absurd h (by rw [no 1 (by decide)];decide),fun _=>⟨fun h=>absurd h (by rw [no 2 (by decide)];decide),fun _=>⟨fun h=>absurd h (by rw [no 3 (by decide)];decide),fun _=>⟨fun _=>⟨hs.l,hs.c,hs.f,hs.tl,hs.t,hs.e,(by (repeat' (with_reducible apply And.intro))<;>first |exact True.intro |rfl)⟩,fun h=>absurd h (by rw [k4];decide)⟩⟩⟩⟩
 ·trivial
def bsR (bc d:D) (i:Nat):List D:=[D.i (d.el i 0).toI,D.i 0,D.i (ixC bc (d.el i 1).toS),D.i (ixN (bc.el (ixC bc (d.el i 1).toS).toNat 5) (d.el i 2).toS),D.i (d.el i 3).toI,D.i (d.el i 4).toI,D.i 0,D.l [],D.i 0,D.i 0,D.i 0,D.i 0,D.l [],D.i 0,D.i 0,D.i 0,D.l [],D.l [],D.l [],D.l []]
structure BbOK (bc:D) (bp:ByteArray) (d:D):Prop where
 l:d.len<=1000000
 s:∀ i,i<d.len->BsOK bc bp (d.el i 1).toS (d.el i 2).toS (d.el i 0).toI (d.el i 3).toI
noncomputable def bbdS:List Dat->Option (Eff × List Seg):=fun ds=>match ds with
 | [.d bc,.s bp,.d bv,.i be,.d d]=>some ({val:=.one (.sc (.osl 166 (0) (.lit 0) (.sym (d.len)))),vc:=[be=0,BbOK bc bp d],nw:=[(0,.orow 166 (cpTo d.len (bsR bc d)))]},[.c (.rows 118 bc),.c (.raw (.string bp)),.c (.rows 9 bv),.c (.int .i64 (.sym be))])
 |_=>none
noncomputable def bbdC:Con:=conM 182 [.c (.rows 118),.c .str,.c (.rows 9),.c (.int .i64)] [lBo] bbdS
set_option maxRecDepth 100000 in
theorem bbd_ok:ConOK Tryz.prog 61 bbdC:=by
 refine fn_obM tt_ok mixed Tryz.func61 rfl (fun _ _=>by kernel_rfl) (A:=fun ds=>⟨fun _=>Cons.of [(107,bstC)],fun k=>match k,ds with | 3,[.d bc,.s bp,.d bv,.i be,.d d]=>some {ι:=Nat,pre:=fun _ i=>i<=d.len,μ:=fun i=>d.len+1-i,st:=fun s i=>famR s [(10,.one (.sc (.int .i64 (.sym ((i:Nat)))))),(5,.one (.sc (.osl 166 (s.nx-1) (.lit 0) (.sym (i)))))] [0,8,9] [(s.nx-1,.orow 166 (cpTo i (bsR bc d)))] [0]} |_,_=>none,fun _=>none⟩) (fun _ _=>(cons_cons bst_ok cons_nil)) (by kernel_rfl) ?_
 intro ds;unfold bbdS;split
 ·rename_i bc bp bv be d;refine kmp (q:=withv (fun (i:Nat)=>D.l [[D.i (d.el (i:Int).toNat 0).toI,D.i 0,D.i (ixC bc (d.el (i:Int).toNat 1).toS),D.i (ixN (bc.el (ixC bc (d.el (i:Int).toNat 1).toS).toNat (5:Nat)) (d.el (i:Int).toNat 2).toS),D.i (d.el (i:Int).toNat 3).toI,D.i (d.el (i:Int).toNat 4).toI,D.i 0,D.l [],D.i 0,D.i 0,D.i 0,D.i 0,D.l [],D.i 0,D.i 0,D.i 0,D.l [],D.l [],D.l [],D.l []]]) fun E232=>be=(0:Int)->BbOK bc bp d->(∃ (i:Nat),i.le d.len/\(0:Int)=(i:Int)/\i=(0:Nat)/\d.rows=d.rows/\(d.len:Int)=(d.len:Int)/\List.map (bsR bc d) (List.range i)=[]/\bc.rows=bc.rows/\Value.string bp=Value.string bp/\bv.rows=bv.rows/\be=be)/\∀ (i:Nat),i.le d.len->(decide ((i:Int)<(d.len:Int))=true->((0:Int)<=(i:Int)/\(i:Int)<(d.len:Int))/\((be != (0:Int))=true->d.len=(0:Nat)/\bc.rows=bc.rows/\Value.string bp=Value.string bp/\bv.rows=bv.rows/\be=be/\List.map (bsR bc d) (List.range d.len)=[])/\((be != (0:Int))=false->BsOK bc bp (d.el (i:Int).toNat 1).toS (d.el (i:Int).toNat 2).toS (d.el (i:Int).toNat 0).toI (d.el (i:Int).toNat 3).toI/\i=(cpTo i (bsR bc d)).len/\(i+((E232 i).sub (0:Nat) 1).len)*(256:Nat)<=(140737488355328:Nat)/\(0:Nat)+(1:Nat)<=(E232 i).len/\∃ (j:Nat),j.le d.len/\d.len+(1:Nat)-j<d.len+(1:Nat)-i/\IntKind.i64.wrap ((i:Int)+(1:Int))=(j:Int)/\i+((E232 i).sub (0:Nat) 1).len=j/\d.rows=d.rows/\(d.len:Int)=(d.len:Int)/\List.map (bsR bc d) (List.range i)++List.drop (0:Nat) (List.take 1 [[D.i (d.el (i:Int).toNat 0).toI,D.i 0,D.i (ixC bc (d.el (i:Int).toNat 1).toS),D.i (ixN (bc.el (ixC bc (d.el (i:Int).toNat 1).toS).toNat (5:Nat)) (d.el (i:Int).toNat 2).toS),D.i (d.el (i:Int).toNat 3).toI,D.i (d.el (i:Int).toNat 4).toI,D.i 0,D.l [],D.i 0,D.i 0,D.i 0,D.i 0,D.l [],D.i 0,D.i 0,D.i 0,D.l [],D.l [],D.l [],D.l []]])=List.map (bsR bc d) (List.range j)/\bc.rows=bc.rows/\Value.string bp=Value.string bp/\bv.rows=bv.rows/\be=be))/\(decide ((i:Int)<(d.len:Int))=false->i=d.len/\bc.rows=bc.rows/\Value.string bp=Value.string bp/\bv.rows=bv.rows/\be=be/\List.map (bsR bc d) (List.range i)=List.map (bsR bc d) (List.range d.len))) (by kernel_rfl) ?_
  dsimp +instances only [withv]
  intro he hb;simp only [Nat.reduceAdd,Nat.zero_add,k_n];have b1:=hb.l;refine ⟨⟨0,Nat.zero_le _,(by (repeat' (with_reducible apply And.intro))<;>first |exact True.intro |rfl)⟩,fun i hi=>⟨fun hc=>?_,fun hc=>?_⟩⟩
  ·have hc:=of_decide_eq_true hc;have hi2:i<d.len:=by omega
   refine ⟨⟨by omega,by omega⟩,fun h=>absurd h (by rw [he];decide),fun _=>⟨hb.s i hi2,(cpTo_len _ _).symm,(show (i+1)*256<=140737488355328 by omega),Nat.le_refl _,i+1,hi2,by omega,k_nx (by omega),(by (repeat' (with_reducible apply And.intro))<;>first |exact True.intro |exact (cpTo_succ _ _).symm |rfl)⟩⟩
  ·have hc:=of_decide_eq_false hc;have hi3:i=d.len:=by have:i<=d.len:=hi;omega
   subst hi3;exact ⟨rfl,trivial,trivial,trivial,trivial,rfl⟩
 ·trivial
def bpR (ch pr:D) (i:Nat):List D:=[D.i (pr.el i 1).len,cpTo (pr.el i 2).len (bsR ch (pr.el i 2))]
structure BpOK (ch pr:D):Prop where
 l:pr.len<=1000000
 v:∀ i,i<pr.len->(pr.el i 1).len<=6
 t:∀ i,i<pr.len->twK (pr.el i 1)=false
 b:∀ i,i<pr.len->BbOK ch (pr.el i 0).toS (pr.el i 2)
noncomputable def bpcS:FSpec:=fun ds _=>match ds with
 | [.d ch,.d ru,.d pr]=>some {val:=.tup [.sc (.rows 78 (cpTo pr.len (bpR ch pr))),.sc (.int .i64 (.lit 0))],vc:=[BpOK ch pr]}
 |_=>none
noncomputable def bpcC:Con:=con [lSy] bpcS
theorem bpc_ok:ConOK Tryz.prog 32 bpcC:=by
 refine fn_ob tt_ok mixed Tryz.func32 rfl (fun _ _=>by kernel_rfl) (A:=fun ds=>⟨fun _=>Cons.of [(60,atwC),(61,bbdC)],fun k=>match k,ds with | 3,[.d ch,.d ru,.d pr]=>some {ι:=Nat,pre:=fun _ i=>i<=pr.len,μ:=fun i=>pr.len+1-i,st:=fun s i=>famR s [(12,.one (.sc (.int .i64 (.sym ((i:Nat)))))),(4,.one (.sc (.osl 78 (s.nx-1) (.lit 0) (.sym (i)))))] [1,10,11] [(s.nx-1,.orow 78 (cpTo i (bpR ch pr)))] [1]} |_,_=>none,fun _=>none⟩) (fun _ _=>(cons_cons atw_ok (cons_cons bbd_ok cons_nil))) (by kernel_rfl) ?_
 intro ds fr;unfold bpcS;split
 ·rename_i ch ru pr;refine kmp (q:=withv (fun (i:Nat)=>pr.el (i:Int).toNat 2) fun E233=>withv (fun (i:Nat)=>pr.el (i:Int).toNat 1) fun E234=>withv (fun (i:Nat)=>D.l [[D.i (↑(E234 i).len:Int),(cpTo (E233 i).len (bsR ch (E233 i))).sub ((0:Nat)) ((0:Nat)+(E233 i).len)]]) fun E235=>BpOK ch pr->(∃ (i:Nat),i.le pr.len/\(0:Int)=(i:Int)/\i=(0:Nat)/\pr.rows=pr.rows/\(pr.len:Int)=(pr.len:Int)/\List.map (bpR ch pr) (List.range i)=[]/\ch.rows=ch.rows/\ru.rows=ru.rows/\pr.rows=pr.rows)/\∀ (i:Nat),i.le pr.len->(decide ((i:Int)<(pr.len:Int))=true->((0:Int)<=(i:Int)/\(i:Int)<(pr.len:Int))/\(decide ((↑(E234 i).len:Int)>(6:Int))=true->List.map (bpR ch pr) (List.range pr.len)=[]/\(10:Int)=(0:Int))/\(decide ((↑(E234 i).len:Int)>(6:Int))=false->(E234 i).len<=10000000000000/\(twK (E234 i)=true->List.map (bpR ch pr) (List.range pr.len)=[]/\(7:Int)=(0:Int))/\(twK (E234 i)=false->(0:Int)=(0:Int)/\BbOK ch (pr.el (i:Int).toNat 0).toS (E233 i)/\(((0:Int) != (0:Int))=true->List.map (bpR ch pr) (List.range pr.len)=[]/\(0:Int)=(0:Int))/\(((0:Int) != (0:Int))=false->(0:Nat)+(E233 i).len<=(cpTo (E233 i).len (bsR ch (E233 i))).len/\i=(cpTo i (bpR ch pr)).len/\(i+((E235 i).sub (0:Nat) 1).len)*(32:Nat)<=(140737488355328:Nat)/\(0:Nat)+(1:Nat)<=(E235 i).len/\∃ (j:Nat),j.le pr.len/\pr.len+(1:Nat)-j<pr.len+(1:Nat)-i/\IntKind.i64.wrap ((i:Int)+(1:Int))=(j:Int)/\i+((E235 i).sub (0:Nat) 1).len=j/\pr.rows=pr.rows/\(pr.len:Int)=(pr.len:Int)/\List.map (bpR ch pr) (List.range i)++List.drop (0:Nat) (List.take 1 [[D.i (↑(E234 i).len:Int),(cpTo (E233 i).len (bsR ch (E233 i))).sub ((0:Nat)) ((0:Nat)+(E233 i).len)]])=List.map (bpR ch pr) (List.range j)/\ch.rows=ch.rows/\ru.rows=ru.rows/\pr.rows=pr.rows))))/\(decide ((i:Int)<(pr.len:Int))=false->(0:Nat)+i<=(cpTo i (bpR ch pr)).len/\List.drop ((0:Nat)) (List.take ((0:Nat)+i) (List.map (bpR ch pr) (List.range i)))=List.map (bpR ch pr) (List.range pr.len)/\(0:Int)=(0:Int))) (by kernel_rfl) ?_
  dsimp +instances only [withv]
  intro hb;simp only [Nat.reduceAdd,Nat.zero_add,k_n];have b1:=hb.l;refine ⟨⟨0,Nat.zero_le _,(by (repeat' (with_reducible apply And.intro))<;>first |exact True.intro |rfl)⟩,fun i hi=>⟨fun hc=>?_,fun hc=>?_⟩⟩
  ·have hc:=of_decide_eq_true hc;have hi2:i<pr.len:=by omega
   have v6:=hb.v i hi2;have e1:=cpTo_all (pr.el i 2).len (bsR ch (pr.el i 2));rw [Nat.zero_add] at e1;rw [e1];refine ⟨⟨by omega,by omega⟩,fun h=>absurd (of_decide_eq_true h) (by omega),fun _=>⟨by omega,fun h=>absurd h (by rw [hb.t i hi2];decide),fun _=>⟨trivial,hb.b i hi2,fun h=>absurd h (by decide),fun _=>⟨by rw [cpTo_len];omega,(cpTo_len _ _).symm,(show (i+1)*32<=140737488355328 by omega),Nat.le_refl _,i+1,hi2,by omega,k_nx (by omega),(by (repeat' (with_reducible apply And.intro))<;>first |exact True.intro |exact (cpTo_succ _ _).symm |rfl)⟩⟩⟩⟩
  ·have hc:=of_decide_eq_false hc;have hi3:i=pr.len:=by have:i<=pr.len:=hi;omega
   subst hi3;exact ⟨by rw [cpTo_len];omega,by have:=takeAll pr.len (bpR ch pr);rw [Nat.zero_add] at this;exact this,trivial⟩
 ·trivial
structure CkOK (ch ru pr:D):Prop where
 w1:SyOK ch ru pr
 w2:syB ch ru pr=true->syN pr=true->SyF ch ru pr
 w3:wdE ch ru pr≠5
 d:dcE ch pr=0
 dt:∀ i,i<ch.len->(ch.el i 5).len<=10000000000000
 r:ru.len=0
 c:BcOK ch pr
 p:BpOK ch pr
noncomputable def kchkS:FSpec:=fun ds _=>match ds with
 | [.d ch,.d ru,.d pr]=>some {val:=.tup [.agg [.c (.rows 69 (cpTo ch.len (bcR ch pr))),.c (.rows 78 (cpTo pr.len (bpR ch pr)))],.sc (.int .i64 (.lit 0))],vc:=[CkOK ch ru pr]}
 |_=>none
noncomputable def kchkC:Con:=con [lSy] kchkS
theorem kchk_ok:ConOK Tryz.prog 12 kchkC:=by
 refine fn_ob tt_ok mixed Tryz.func12 rfl (fun _ _=>by kernel_rfl) (A:=fun ds=>⟨fun _=>Cons.of [(29,wrdC),(30,dclC),(31,bchC),(32,bpcC)],fun _=>none,fun _=>none⟩) (fun _ _=>(cons_cons wrd_ok (cons_cons dcl_ok (cons_cons bch_ok (cons_cons bpc_ok cons_nil))))) (by kernel_rfl) ?_
 intro ds fr;unfold kchkS;split
 ·rename_i ch ru pr;refine kmp (q:=CkOK ch ru pr->SyOK ch ru pr/\(syB ch ru pr=true->syN pr=true->SyF ch ru pr)/\((wdE ch ru pr==(5:Int))=true->List.map (bcR ch pr) (List.range ch.len)=[]/\List.map (bpR ch pr) (List.range pr.len)=[]/\wdE ch ru pr=(0:Int))/\((wdE ch ru pr==(5:Int))=false->(∀ (i:Nat),i<ch.len->(ch.el i 5).len<=10000000000000)/\((dcE ch pr != (0:Int))=true->List.map (bcR ch pr) (List.range ch.len)=[]/\List.map (bpR ch pr) (List.range pr.len)=[]/\dcE ch pr=(0:Int))/\((dcE ch pr != (0:Int))=false->ru.len=(0:Nat)/\BcOK ch pr/\BpOK ch pr/\List.map (bcR ch pr) (List.range ch.len)=List.map (bcR ch pr) (List.range ch.len)/\List.map (bpR ch pr) (List.range pr.len)=List.map (bpR ch pr) (List.range pr.len)/\(0:Int)=(0:Int)))) (by kernel_rfl) ?_
  intro h;refine ⟨h.w1,h.w2,fun q=>absurd (eq_of_beq q) h.w3,fun _=>⟨h.dt,fun q=>?_,fun _=>⟨h.r,h.c,h.p,rfl,rfl,rfl⟩⟩⟩;rw [h.d] at q
  cases q
 ·trivial
def k4S (d:D):Prop:=d.len*48<=140737488355328/\∀ i:Fin d.len,k4S (d.el i 3)
 termination_by SizeOf.sizeOf d
 decreasing_by exact lel_lt i.isLt
theorem k4S_iff (d:D):k4S d↔d.len*48<=140737488355328/\∀ i,i<d.len->k4S (d.el i 3):=by
 rw [k4S];exact ⟨fun h=>⟨h.1,fun i hi=>h.2 ⟨i,hi⟩⟩,fun h=>⟨h.1,fun i=>h.2 i.1 i.2⟩⟩
def b4S (d:D):Prop:=d.len*256<=140737488355328/\∀ i:Fin d.len,k4S (d.el i 7)/\k4S (d.el i 12)/\k4S (d.el i 16)/\b4S (d.el i 17)/\b4S (d.el i 18)/\(d.el i 19).len*40<=140737488355328/\∀ j:Fin (d.el i 19).len,b4S ((d.el i 19).el j 2)
 termination_by SizeOf.sizeOf d
 decreasing_by
  ·exact lel_lt i.isLt
  ·exact lel_lt i.isLt
  ·exact Nat.lt_trans (lel_lt j.isLt) (lel_lt i.isLt)
structure Sy4 (ch pr:D):Prop where
 c:ch.len*64<=140737488355328
 r:∀ i,i<ch.len->(ch.el i 5).len*24<=140737488355328
 rr:∀ i,i<ch.len->∀ k,k<(ch.el i 5).len->((ch.el i 5).el k 0).len*8<=140737488355328
 p:pr.len*32<=140737488355328
 b:∀ i,i<pr.len->b4S (pr.el i 1)
def flE (e be:Int):Int:=if be=0 then e else be
def plE (l:D) (s:ByteArray) (be:Int):Int:=if ixN l s<0 then flE 8 be else be
def gxN (k n:Int):Int:=if k=1 then n else 0
def gxI (bv:D) (k:Int) (s:ByteArray):Int:=if k=1 then 0 else if k=2 then ixN bv s else 0
def gxD (bv d:D):D:=.l ((List.finRange d.len).map fun (i:Fin d.len)=>[D.i (d.el i 0).toI,D.i (gxN (d.el i 0).toI (d.el i 1).toI),D.i (gxI bv (d.el i 0).toI (d.el i 2).toS),if (d.el i 0).toI=1 then .l [] else if (d.el i 0).toI=2 then .l [] else gxD bv (d.el i 3)])
 termination_by SizeOf.sizeOf d
 decreasing_by exact lel_lt i.isLt
def gxK (bv:D) (k:Int) (d:D):D:=if k=1 then .l [] else if k=2 then .l [] else gxD bv d
def gxR (bv d:D) (i:Nat):List D:=[D.i (d.el i 0).toI,D.i (gxN (d.el i 0).toI (d.el i 1).toI),D.i (gxI bv (d.el i 0).toI (d.el i 2).toS),gxK bv (d.el i 0).toI (d.el i 3)]
theorem gxD_eq (bv d:D):gxD bv d=cpTo d.len (gxR bv d):=by
 rw [gxD,<- cpF_eq];rfl
theorem itN_fin' {α:Type} (g:Nat -> α -> α) (n:Nat) (x : α):(List.finRange n).foldl (fun a i=>g i.1 a) x=(List.range n).foldl (fun a i=>g i a) x:=by
 have h1:(List.finRange n).foldl (fun a i=>g i.1 a) x=((List.finRange n).map fun i=>i.1).foldl (fun a i=>g i a) x:=by rw [List.foldl_map]
 have h2:((List.finRange n).map fun i=>i.1)=List.range n:=by
  apply List.ext_getElem
  ·simp
  ·intro i h1 h2
   simp
 rw [h1,h2]
def goN {α:Type} (g:Nat -> α -> α) (n:Nat) (x : α) : α:=(List.range n).foldl (fun a i=>g i a) x
theorem goN_0 {α:Type} (g:Nat -> α -> α) (x : α):goN g 0 x=x:=rfl
theorem goN_s {α:Type} (g:Nat -> α -> α) (n:Nat) (x : α):goN g (n+1) x=g n (goN g n x):=by
 unfold goN;rw [List.range_succ,List.foldl_append];rfl
def gyE (bv d:D) (be:Int):Int:=(List.finRange d.len).foldl (fun (e:Int) (i:Fin d.len)=>if (d.el i 0).toI=1 then e else if (d.el i 0).toI=2 then plE bv (d.el i 2).toS e else gyE bv (d.el i 3) e) be
 termination_by SizeOf.sizeOf d
 decreasing_by exact lel_lt i.isLt
def gxE (bv:D) (k:Int) (s:ByteArray) (d:D) (be:Int):Int:=if k=1 then be else if k=2 then plE bv s be else gyE bv d be
def gxQ (bv d:D) (i:Nat) (e:Int):Int:=gxE bv (d.el i 0).toI (d.el i 2).toS (d.el i 3) e
theorem gyE_eq (bv d:D) (be:Int):gyE bv d be=goN (gxQ bv d) d.len be:=by
 rw [gyE,goN,<- itN_fin'];rfl
noncomputable def faiS:List Dat->Option (Eff × List Seg):=fun ds=>match ds with
 | [.d bc,.s bp,.d bv,.i be,.i e]=>some ({val:=.tup [],vc:=[]},[.c (.rows 118 bc),.c (.raw (.string bp)),.c (.rows 9 bv),.c (.int .i64 (.sym (flE e be)))])
 |_=>none
noncomputable def faiC:Con:=conM 182 [.c (.rows 118),.c .str,.c (.rows 9),.c (.int .i64)] [.sc (.int .i64)] faiS
theorem fai_ok:ConOK Tryz.prog 167 faiC:=by
 refine fn_obM tt_ok mixed Tryz.func167 rfl (fun _ _=>by kernel_rfl) (A:=fun ds=>⟨fun _=>Cons.of [],fun _=>none,fun _=>none⟩) (fun _ _=>cons_nil) (by kernel_rfl) ?_
 intro ds;unfold faiS;split
 ·rename_i bc bp bv be e;refine kmp (q:=((be==(0:Int))=true->bc.rows=bc.rows/\Value.string bp=Value.string bp/\bv.rows=bv.rows/\e=flE e be)/\((be==(0:Int))=false->bc.rows=bc.rows/\Value.string bp=Value.string bp/\bv.rows=bv.rows/\be=flE e be)) (by kernel_rfl) ?_
  unfold flE;exact ⟨fun h=>⟨rfl,rfl,rfl,(if_pos (eq_of_beq h)).symm⟩,fun h=>⟨rfl,rfl,rfl,(if_neg (ne_of_beq_false h)).symm⟩⟩
 ·trivial
noncomputable def plgS:List Dat->Option (Eff × List Seg):=fun ds=>match ds with
 | [.d bc,.s bp,.d bv,.i be,.d l,.s s]=>some ({val:=.one (.sc (.int .i64 (.sym (ixN l s)))),vc:=[l.len<=10000000000000]},[.c (.rows 118 bc),.c (.raw (.string bp)),.c (.rows 9 bv),.c (.int .i64 (.sym (plE l s be)))])
 |_=>none
noncomputable def plgC:Con:=conM 182 [.c (.rows 118),.c .str,.c (.rows 9),.c (.int .i64)] [.sc (.rows 9),.sc .str] plgS
theorem plg_ok:ConOK Tryz.prog 140 plgC:=by
 refine fn_obM tt_ok mixed Tryz.func140 rfl (fun _ _=>by kernel_rfl) (A:=fun ds=>⟨fun _=>Cons.of [(105,ixsC),(167,faiC)],fun _=>none,fun _=>none⟩) (fun _ _=>(cons_cons ixs_ok (cons_cons fai_ok cons_nil))) (by kernel_rfl) ?_
 intro ds;unfold plgS;split
 ·rename_i bc bp bv be l s;refine kmp (q:=l.len<=10000000000000->l.len<=10000000000000/\(decide (ixN l s<(0:Int))=true->ixN l s=ixN l s/\bc.rows=bc.rows/\Value.string bp=Value.string bp/\bv.rows=bv.rows/\flE (8:Int) be=plE l s be)/\(decide (ixN l s<(0:Int))=false->ixN l s=ixN l s/\bc.rows=bc.rows/\Value.string bp=Value.string bp/\bv.rows=bv.rows/\be=plE l s be)) (by kernel_rfl) ?_
  intro hl;unfold plE;exact ⟨hl,fun h=>⟨rfl,rfl,rfl,rfl,(if_pos (of_decide_eq_true h)).symm⟩,fun h=>⟨rfl,rfl,rfl,rfl,(if_neg (of_decide_eq_false h)).symm⟩⟩
 ·trivial
noncomputable def bxgS:List Dat->Option (Eff × List Seg):=fun ds=>match ds with
 | [.d bc,.s bp,.d bv,.i be,.i k,.i n,.s s,.d d]=>some ({val:=.one (.agg [.c (.int .i64 (.sym (k))),.c (.int .i64 (.sym (gxN (k) (n)))),.c (.int .i64 (.sym (gxI bv (k) (s)))),.c (.rows 161 (gxK bv (k) (d)))]),vc:=[bv.len<=10000000000000,k4S d]},[.c (.rows 118 bc),.c (.raw (.string bp)),.c (.rows 9 bv),.c (.int .i64 (.sym (gxE bv k s d be)))])
 |_=>none
noncomputable def bxgC:Con:=conM 182 [.c (.rows 118),.c .str,.c (.rows 9),.c (.int .i64)] [lX] bxgS
noncomputable def bxgM:List Dat->Nat:=fun ds=>match ds with
 | [.d bc,.s bp,.d bv,.i be,.i k,.i n,.s s,.d d]=>SizeOf.sizeOf d
 |_=>0
noncomputable def bxgSu (m:Nat):List Dat->Option (Eff × List Seg):=fun ds=>match ds with
 | [.d bc,.s bp,.d bv,.i be,.i k,.i n,.s s,.d d]=>some ({val:=.one (.agg [.c (.int .i64 (.sym (k))),.c (.int .i64 (.sym (gxN (k) (n)))),.c (.int .i64 (.sym (gxI bv (k) (s)))),.c (.rows 161 (gxK bv (k) (d)))]),vc:=[SizeOf.sizeOf d<m,bv.len<=10000000000000,k4S d]},[.c (.rows 118 bc),.c (.raw (.string bp)),.c (.rows 9 bv),.c (.int .i64 (.sym (gxE bv k s d be)))])
 |_=>none
theorem bxg_under (m:Nat):underM bxgS bxgM m=bxgSu m:=by
 funext ds
 unfold underM bxgS bxgM bxgSu;split
 ·rename_i e sg h
  split at h
  ·obtain ⟨rfl,rfl⟩:=Prod.mk.inj (Option.some.inj h);rfl
  ·cases h
 ·rename_i h
  split at h
  ·cases h
  ·rfl
theorem bxg_step (m:Nat) (ih:ConOK Tryz.prog 141 (conM 182 [.c (.rows 118),.c .str,.c (.rows 9),.c (.int .i64)] [lX] (bxgSu m))):ConOK Tryz.prog 141 (conM 182 [.c (.rows 118),.c .str,.c (.rows 9),.c (.int .i64)] [lX] (bxgSu (m+1))):=by
 refine fn_obM tt_ok mixed Tryz.func141 rfl (fun _ _=>by kernel_rfl) (A:=fun ds=>⟨fun _=>Cons.of [(140,plgC),(141,conM 182 [.c (.rows 118),.c .str,.c (.rows 9),.c (.int .i64)] [lX] (bxgSu m))],fun k=>match k,ds with | 8,[.d bc,.s bp,.d bv,.i be,.i k,.i n,.s s,.d d]=>some {ι:=Nat,pre:=fun _ i=>i<=d.len,μ:=fun i=>d.len+1-i,st:=fun s i=>famR s [(36,.one (.sc (.int .i64 (.sym ((i:Nat))))))] [0,3,4,5,34,35] [(0,.own 182 ([.c (.rows 118 bc),.c (.raw (.string bp)),.c (.rows 9 bv),.c (.int .i64 (.sym (goN (gxQ bv d) i be)))])),(idOf s 5,.own 161 ([.c (.int .i64 (.sym (k))),.c (.int .i64 (.lit 0)),.c (.int .i64 (.lit 0)),.c (.osl 161 (s.nx-1) (.lit 0) (.sym (i:Nat)))])),(s.nx-1,.orow 161 (cpTo i (gxR bv d)))] [3,4]} |_,_=>none,fun _=>none⟩) (fun _ _=>(cons_cons plg_ok (cons_cons ih cons_nil))) (by kernel_rfl) ?_
 intro ds;unfold bxgSu;split
 ·rename_i bc bp bv be k n s d
  refine kmp (q:=SizeOf.sizeOf d<m+(1:Nat)->bv.len<=10000000000000->k4S d->((k==(1:Int))=true->k=k/\n=gxN k n/\(0:Int)=gxI bv k s/\(gxK bv k d).rows=[]/\bc.rows=bc.rows/\Value.string bp=Value.string bp/\bv.rows=bv.rows/\be=gxE bv k s d be)/\((k==(1:Int))=false->((k==(2:Int))=true->bv.len<=10000000000000/\k=k/\(0:Int)=gxN k n/\ixN bv s=gxI bv k s/\(gxK bv k d).rows=[]/\bc.rows=bc.rows/\Value.string bp=Value.string bp/\bv.rows=bv.rows/\plE bv s be=gxE bv k s d be)/\((k==(2:Int))=false->(∃ (i:Nat),i.le d.len/\(0:Int)=(i:Int)/\d.rows=d.rows/\(d.len:Int)=(d.len:Int)/\bc.rows=bc.rows/\Value.string bp=Value.string bp/\bv.rows=bv.rows/\be=goN (gxQ bv d) i be/\k=k/\(0:Int)=(0:Int)/\(0:Int)=(0:Int)/\i=(0:Nat)/\List.map (gxR bv d) (List.range i)=[]/\k=k/\n=n/\Value.string s=Value.string s/\d.rows=d.rows/\(0:Int)=(0:Int)/\(0:Int)=(0:Int)/\(0:Int)=(0:Int))/\∀ (i:Nat),i.le d.len->(decide ((i:Int)<(d.len:Int))=true->((0:Int)<=(i:Int)/\(i:Int)<(d.len:Int))/\SizeOf.sizeOf (d.el (i:Int).toNat 3)<m/\bv.len<=10000000000000/\k4S (d.el (i:Int).toNat 3)/\i=(cpTo i (gxR bv d)).len/\(i+((D.l [[D.i (d.el (i:Int).toNat 0).toI,D.i (gxN (d.el (i:Int).toNat 0).toI (d.el (i:Int).toNat 1).toI),D.i (gxI bv (d.el (i:Int).toNat 0).toI (d.el (i:Int).toNat 2).toS),gxK bv (d.el (i:Int).toNat 0).toI (d.el (i:Int).toNat 3)]]).sub (0:Nat) 1).len)*(48:Nat)<=(140737488355328:Nat)/\(0:Nat)+(1:Nat)<=(D.l [[D.i (d.el (i:Int).toNat 0).toI,D.i (gxN (d.el (i:Int).toNat 0).toI (d.el (i:Int).toNat 1).toI),D.i (gxI bv (d.el (i:Int).toNat 0).toI (d.el (i:Int).toNat 2).toS),gxK bv (d.el (i:Int).toNat 0).toI (d.el (i:Int).toNat 3)]]).len/\∃ (j:Nat),j.le d.len/\d.len+(1:Nat)-j<d.len+(1:Nat)-i/\IntKind.i64.wrap ((i:Int)+(1:Int))=(j:Int)/\d.rows=d.rows/\(d.len:Int)=(d.len:Int)/\bc.rows=bc.rows/\Value.string bp=Value.string bp/\bv.rows=bv.rows/\gxE bv (d.el (i:Int).toNat 0).toI (d.el (i:Int).toNat 2).toS (d.el (i:Int).toNat 3) (goN (gxQ bv d) i be)=goN (gxQ bv d) j be/\k=k/\(0:Int)=(0:Int)/\(0:Int)=(0:Int)/\i+((D.l [[D.i (d.el (i:Int).toNat 0).toI,D.i (gxN (d.el (i:Int).toNat 0).toI (d.el (i:Int).toNat 1).toI),D.i (gxI bv (d.el (i:Int).toNat 0).toI (d.el (i:Int).toNat 2).toS),gxK bv (d.el (i:Int).toNat 0).toI (d.el (i:Int).toNat 3)]]).sub (0:Nat) 1).len=j/\List.map (gxR bv d) (List.range i)++List.drop (0:Nat) (List.take 1 [[D.i (d.el (i:Int).toNat 0).toI,D.i (gxN (d.el (i:Int).toNat 0).toI (d.el (i:Int).toNat 1).toI),D.i (gxI bv (d.el (i:Int).toNat 0).toI (d.el (i:Int).toNat 2).toS),gxK bv (d.el (i:Int).toNat 0).toI (d.el (i:Int).toNat 3)]])=List.map (gxR bv d) (List.range j)/\k=k/\n=n/\Value.string s=Value.string s/\d.rows=d.rows/\(0:Int)=(0:Int)/\(0:Int)=(0:Int)/\(0:Int)=(0:Int))/\(decide ((i:Int)<(d.len:Int))=false->(0:Nat)+i<=(cpTo i (gxR bv d)).len/\k=k/\(0:Int)=gxN k n/\(0:Int)=gxI bv k s/\List.drop ((0:Nat)) (List.take ((0:Nat)+i) (List.map (gxR bv d) (List.range i)))=(gxK bv k d).rows/\bc.rows=bc.rows/\Value.string bp=Value.string bp/\bv.rows=bv.rows/\goN (gxQ bv d) i be=gxE bv k s d be)))) (by kernel_rfl) ?_
  intro hm hv hs;simp only [Nat.zero_add,Nat.reduceAdd,k_n];rw [k4S_iff] at hs;obtain ⟨h1,h2⟩:=hs;refine ⟨fun h=>?_,fun n1=>⟨fun h=>?_,fun n2=>⟨⟨0,Nat.zero_le _,(by (repeat' (with_reducible apply And.intro))<;>first |exact True.intro |rfl)⟩,fun i hi=>⟨fun hl=>?_,fun hl=>?_⟩⟩⟩⟩
  ·obtain rfl:=eq_of_beq h;exact (by (repeat' (with_reducible apply And.intro))<;>first |exact True.intro |rfl)
  ·obtain rfl:=eq_of_beq h;exact ⟨hv,(by (repeat' (with_reducible apply And.intro))<;>first |exact True.intro |rfl)⟩
  ·have hl:=of_decide_eq_true hl;have hi2:i<d.len:=by omega
   have z:=lel_lt (j:=3) hi2;refine ⟨⟨by omega,by omega⟩,(show SizeOf.sizeOf (d.el i 3)<m by omega),hv,h2 i hi2,(cpTo_len _ _).symm,(show (i+1)*48<=140737488355328 by omega),Nat.le_refl _,i+1,hi2,by omega,k_nx (by omega),?_⟩;rw [goN_s]
   (repeat' (with_reducible apply And.intro))<;>first |exact True.intro |exact (cpTo_succ i (gxR bv d)).symm |rfl
  ·have hl:=of_decide_eq_false hl;have hi3:i=d.len:=by have:i<=d.len:=hi;omega
   subst hi3;have k1:k≠1:=ne_of_beq_false n1;have k2:k≠2:=ne_of_beq_false n2;have q1:gxN k n=0:=if_neg k1;have q2:gxI bv k s=0:=by unfold gxI;rw [if_neg k1,if_neg k2]
   have q3:gxK bv k d=cpTo d.len (gxR bv d):=by unfold gxK;rw [if_neg k1,if_neg k2,gxD_eq]
   have q4:gxE bv k s d be=goN (gxQ bv d) d.len be:=by unfold gxE;rw [if_neg k1,if_neg k2,gyE_eq]
   rw [q1,q2,q3,q4];have t:=takeAll d.len (gxR bv d);rw [Nat.zero_add] at t;refine ⟨by rw [cpTo_len];omega,?_⟩
   (repeat' (with_reducible apply And.intro))<;>first |exact True.intro |exact t |rfl
 ·trivial
theorem bxg_ok:ConOK Tryz.prog 141 bxgC:=
 conM_rec bxgM (fun _ _=>by kernel_rfl) fun m ih=>by
  rw [bxg_under] at ih ⊢;exact bxg_step m ih
noncomputable def bcgS:List Dat->Option (Eff × List Seg):=fun ds=>match ds with
 | [.d bc,.s bp,.d bv,.i be,.i op,.i lk,.i ln,.s ls,.d ld,.i rk,.i rn,.s rs,.d rd]=>some ({val:=.one (.agg [.c (.int .i64 (.sym (op))),.c (.int .i64 (.sym (lk))),.c (.int .i64 (.sym (gxN (lk) (ln)))),.c (.int .i64 (.sym (gxI bv (lk) (ls)))),.c (.rows 161 (gxK bv (lk) (ld))),.c (.int .i64 (.sym (rk))),.c (.int .i64 (.sym (gxN (rk) (rn)))),.c (.int .i64 (.sym (gxI bv (rk) (rs)))),.c (.rows 161 (gxK bv (rk) (rd)))]),vc:=[bv.len<=10000000000000,k4S ld,k4S rd]},[.c (.rows 118 bc),.c (.raw (.string bp)),.c (.rows 9 bv),.c (.int .i64 (.sym (gxE bv rk rs rd (gxE bv lk ls ld be))))])
 |_=>none
noncomputable def bcgC:Con:=conM 182 [.c (.rows 118),.c .str,.c (.rows 9),.c (.int .i64)] [lCo] bcgS
theorem bcg_ok:ConOK Tryz.prog 142 bcgC:=by
 refine fn_obM tt_ok mixed Tryz.func142 rfl (fun _ _=>by kernel_rfl) (A:=fun ds=>⟨fun _=>Cons.of [(141,bxgC)],fun _=>none,fun _=>none⟩) (fun _ _=>(cons_cons bxg_ok cons_nil)) (by kernel_rfl) ?_
 intro ds;unfold bcgS;split
 ·rename_i bc bp bv be op lk ln ls ld rk rn rs rd;refine kmp (q:=bv.len<=10000000000000->k4S ld->k4S rd->bv.len<=10000000000000/\k4S ld/\bv.len<=10000000000000/\k4S rd/\op=op/\lk=lk/\gxN lk ln=gxN lk ln/\gxI bv lk ls=gxI bv lk ls/\(gxK bv lk ld).rows=(gxK bv lk ld).rows/\rk=rk/\gxN rk rn=gxN rk rn/\gxI bv rk rs=gxI bv rk rs/\(gxK bv rk rd).rows=(gxK bv rk rd).rows/\bc.rows=bc.rows/\Value.string bp=Value.string bp/\bv.rows=bv.rows/\gxE bv rk rs rd (gxE bv lk ls ld be)=gxE bv rk rs rd (gxE bv lk ls ld be)) (by kernel_rfl) ?_
  intro h1 h2 h3;exact ⟨h1,h2,h1,h3,(by (repeat' (with_reducible apply And.intro))<;>first |exact True.intro |rfl)⟩
 ·trivial
def cgT (bc:D) (nm:ByteArray):D:=if ixC bc nm<0 then .l [] else bc.el (ixC bc nm).toNat 5
def cgE (c:Nat) (bc:D) (nm bp:ByteArray) (be:Int):Int:=if ixC bc nm<0 then flE 8 be else if eqS (bc.el (ixC bc nm).toNat c).toS bp=true then be else flE 9 be
noncomputable def krcvS:FSpec:=fun ds _=>match ds with
 | [.s nm,.i ck,.i cz,.s cf,.s ct,.d tg]=>some {val:=.one (.sc (.raw (.string (ct)))),vc:=[]}
 |_=>none
noncomputable def krcvC:Con:=con [.agg [.c .str,.c (.int .i64),.c (.int .i64),.c .str,.c .str,.c (.rows 9)]] krcvS
theorem krcv_ok:ConOK Tryz.prog 145 krcvC:=by
 refine fn_ob tt_ok mixed Tryz.func145 rfl (fun _ _=>by kernel_rfl) (A:=fun ds=>⟨fun _=>Cons.of [],fun _=>none,fun _=>none⟩) (fun _ _=>cons_nil) (by kernel_rfl) ?_
 intro ds fr;unfold krcvS;split
 ·rename_i nm ck cz cf ct tg;refine kmp (q:=Value.string ct=Value.string ct) (by kernel_rfl) ?_
  rfl
 ·trivial
noncomputable def cngS:List Dat->Option (Eff × List Seg):=fun ds=>match ds with
 | [.d bc,.s bp,.d bv,.i be,.s nm,.v kf]=>(match isFn 144 kf with |true=>some ({val:=.tup [.sc (.int .i64 (.sym (ixC bc nm))),.sc (.rows 9 (cgT bc nm))],vc:=[bc.len<=10000000000000]},[.c (.rows 118 bc),.c (.raw (.string bp)),.c (.rows 9 bv),.c (.int .i64 (.sym (cgE 3 bc nm bp be)))]) |false=>(match isFn 145 kf with |true=>some ({val:=.tup [.sc (.int .i64 (.sym (ixC bc nm))),.sc (.rows 9 (cgT bc nm))],vc:=[bc.len<=10000000000000]},[.c (.rows 118 bc),.c (.raw (.string bp)),.c (.rows 9 bv),.c (.int .i64 (.sym (cgE 4 bc nm bp be)))]) |false=>none))
 |_=>none
noncomputable def cngC:Con:=conM 182 [.c (.rows 118),.c .str,.c (.rows 9),.c (.int .i64)] [.sc .str,.sc .any] cngS
theorem cng_ok:ConOK Tryz.prog 143 cngC:=by
 refine fn_obM tt_ok mixed Tryz.func143 rfl (fun _ _=>by kernel_rfl) (A:=fun ds=>⟨fun _=>Cons.of [(58,chanAtC),(144,ksndC),(145,krcvC),(167,faiC)],fun _=>none,fun _=>none⟩) (fun _ _=>(cons_cons chanAt_ok (cons_cons ksnd_ok (cons_cons krcv_ok (cons_cons fai_ok cons_nil))))) (by kernel_rfl) ?_
 intro ds;unfold cngS;split
 ·rename_i bc bp bv be nm kf;split
  ·rename_i hg;obtain rfl:=isFn_eq hg;refine kmp (q:=bc.len<=10000000000000->bc.len<=10000000000000/\(decide (ixC bc nm<(0:Int))=true->ixC bc nm=ixC bc nm/\(cgT bc nm).rows=[]/\bc.rows=bc.rows/\Value.string bp=Value.string bp/\bv.rows=bv.rows/\flE (8:Int) be=cgE (3:Nat) bc nm bp be)/\(decide (ixC bc nm<(0:Int))=false->((0:Int)<=ixC bc nm/\ixC bc nm<(bc.len:Int))/\((!(bc.el (ixC bc nm).toNat 3).toS.toList==bp.toList)=true->((0:Int)<=ixC bc nm/\ixC bc nm<(bc.len:Int))/\ixC bc nm=ixC bc nm/\(bc.el (ixC bc nm).toNat ((0:Nat)+(5:Nat))).rows=(cgT bc nm).rows/\bc.rows=bc.rows/\Value.string bp=Value.string bp/\bv.rows=bv.rows/\flE (9:Int) be=cgE (3:Nat) bc nm bp be)/\((!(bc.el (ixC bc nm).toNat 3).toS.toList==bp.toList)=false->((0:Int)<=ixC bc nm/\ixC bc nm<(bc.len:Int))/\ixC bc nm=ixC bc nm/\(bc.el (ixC bc nm).toNat ((0:Nat)+(5:Nat))).rows=(cgT bc nm).rows/\bc.rows=bc.rows/\Value.string bp=Value.string bp/\bv.rows=bv.rows/\be=cgE (3:Nat) bc nm bp be))) (by kernel_rfl) ?_
   intro h1
   (try simp only [Nat.reduceAdd,Nat.zero_add])
   refine ⟨h1,fun h=>?_,fun h=>?_⟩
   ·have h:=of_decide_eq_true h;have t:cgT bc nm = .l []:=if_pos h;have e:cgE 3 bc nm bp be=flE 8 be:=if_pos h;rw [t,e];exact (by (repeat' (with_reducible apply And.intro))<;>first |exact True.intro |rfl)
   ·have h:=of_decide_eq_false h;have hb:ixC bc nm<bc.len:=by
     unfold ixC at h ⊢
     rcases ixF_or (fun j=>eqS (bc.el j 0).toS nm) bc.len with ⟨i,h1,_,_,h2⟩ |⟨_,h2⟩
     ·rw [h2];omega
     ·rw [h2] at h;omega
    have t:cgT bc nm=bc.el (ixC bc nm).toNat 5:=if_neg h;rw [t];refine ⟨⟨by omega,hb⟩,fun q=>⟨⟨by omega,hb⟩,?_⟩,fun q=>⟨⟨by omega,hb⟩,?_⟩⟩
    ·have e:cgE 3 bc nm bp be=flE 9 be:=by
      unfold cgE eqS;rw [if_neg h,if_neg];intro z;rw [z] at q
      cases q
     rw [e];exact (by (repeat' (with_reducible apply And.intro))<;>first |exact True.intro |rfl)
    ·have e:cgE 3 bc nm bp be=be:=by
      unfold cgE eqS;rw [if_neg h,if_pos];generalize (ByteArray.toList _==_)=z at q ⊢
      cases z
      ·cases q
      ·rfl
     rw [e];exact (by (repeat' (with_reducible apply And.intro))<;>first |exact True.intro |rfl)
  ·split
   ·rename_i hg;obtain rfl:=isFn_eq hg;refine kmp (q:=bc.len<=10000000000000->bc.len<=10000000000000/\(decide (ixC bc nm<(0:Int))=true->ixC bc nm=ixC bc nm/\(cgT bc nm).rows=[]/\bc.rows=bc.rows/\Value.string bp=Value.string bp/\bv.rows=bv.rows/\flE (8:Int) be=cgE (4:Nat) bc nm bp be)/\(decide (ixC bc nm<(0:Int))=false->((0:Int)<=ixC bc nm/\ixC bc nm<(bc.len:Int))/\((!(bc.el (ixC bc nm).toNat 4).toS.toList==bp.toList)=true->((0:Int)<=ixC bc nm/\ixC bc nm<(bc.len:Int))/\ixC bc nm=ixC bc nm/\(bc.el (ixC bc nm).toNat ((0:Nat)+(5:Nat))).rows=(cgT bc nm).rows/\bc.rows=bc.rows/\Value.string bp=Value.string bp/\bv.rows=bv.rows/\flE (9:Int) be=cgE (4:Nat) bc nm bp be)/\((!(bc.el (ixC bc nm).toNat 4).toS.toList==bp.toList)=false->((0:Int)<=ixC bc nm/\ixC bc nm<(bc.len:Int))/\ixC bc nm=ixC bc nm/\(bc.el (ixC bc nm).toNat ((0:Nat)+(5:Nat))).rows=(cgT bc nm).rows/\bc.rows=bc.rows/\Value.string bp=Value.string bp/\bv.rows=bv.rows/\be=cgE (4:Nat) bc nm bp be))) (by kernel_rfl) ?_
    intro h1
    (try simp only [Nat.reduceAdd,Nat.zero_add])
    refine ⟨h1,fun h=>?_,fun h=>?_⟩
    ·have h:=of_decide_eq_true h;have t:cgT bc nm = .l []:=if_pos h;have e:cgE 4 bc nm bp be=flE 8 be:=if_pos h;rw [t,e];exact (by (repeat' (with_reducible apply And.intro))<;>first |exact True.intro |rfl)
    ·have h:=of_decide_eq_false h;have hb:ixC bc nm<bc.len:=by
      unfold ixC at h ⊢
      rcases ixF_or (fun j=>eqS (bc.el j 0).toS nm) bc.len with ⟨i,h1,_,_,h2⟩ |⟨_,h2⟩
      ·rw [h2];omega
      ·rw [h2] at h;omega
     have t:cgT bc nm=bc.el (ixC bc nm).toNat 5:=if_neg h;rw [t];refine ⟨⟨by omega,hb⟩,fun q=>⟨⟨by omega,hb⟩,?_⟩,fun q=>⟨⟨by omega,hb⟩,?_⟩⟩
     ·have e:cgE 4 bc nm bp be=flE 9 be:=by
       unfold cgE eqS;rw [if_neg h,if_neg];intro z;rw [z] at q
       cases q
      rw [e];exact (by (repeat' (with_reducible apply And.intro))<;>first |exact True.intro |rfl)
     ·have e:cgE 4 bc nm bp be=be:=by
       unfold cgE eqS;rw [if_neg h,if_pos];generalize (ByteArray.toList _==_)=z at q ⊢
       cases z
       ·cases q
       ·rfl
      rw [e];exact (by (repeat' (with_reducible apply And.intro))<;>first |exact True.intro |rfl)
   ·trivial
 ·trivial
end Go.Proofs.YtplejbgafjpomaaGreatDoor.Sx.Z
