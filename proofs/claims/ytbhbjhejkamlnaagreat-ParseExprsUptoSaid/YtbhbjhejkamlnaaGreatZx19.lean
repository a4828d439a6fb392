import Derived.Test.YtbhbjhejkamlnaaGreatZx18
set_option linter.unusedVariables false
set_option linter.unusedSimpArgs false
namespace Go.Proofs.YtbhbjhejkamlnaaGreat.Sx.Z
open Go.RowKit
def obB:ByteArray:=⟨#[123]⟩
def cbB:ByteArray:=⟨#[125]⟩
def kwF:ByteArray:=⟨#[105,102]⟩
def kwL:ByteArray:=⟨#[101,108,115,101]⟩
def kwW:ByteArray:=⟨#[119,104,105,108,101]⟩
def kwR:ByteArray:=⟨#[114,101,99,118]⟩
def X00:Xp:=⟨0,0,ByteArray.empty,.l []⟩
def C00:Cd:=⟨0,X00,X00⟩
structure St where
 k:Int
 nm:ByteArray
 tg:ByteArray
 e:Xp
 c:Cd
 b:D
 el:D
 ar:D
def St.row (s:St):List D:=[.i s.k,.s s.nm,.s s.tg,.i s.e.k,.i s.e.n,.s s.e.s,.l s.e.d.rows,.i s.c.op,.i s.c.l.k,.i s.c.l.n,.s s.c.l.s,.l s.c.l.d.rows,.i s.c.r.k,.i s.c.r.n,.s s.c.r.s,.l s.c.r.d.rows,.l s.b.rows,.l s.el.rows,.l s.ar.rows]
structure Am where
 tg:ByteArray
 vr:ByteArray
 b:D
def Am.row (a:Am):List D:=[.s a.tg,.s a.vr,.l a.b.rows]
abbrev PB:=Int->D->Int->Rd->D × Rd
structure PbOK (ws:D) (P:Rd->D × Rd):Prop where
 up:∀ r,aa ws r.nx->r.nx<=(P r).2.nx/\aa ws (P r).2.nx
def cB (ws:D) (r:Rd) (dp:Int):Prop:=0<=dp/\dp+1+(left ws r:Int)<=2000000
def blF (P:PB):PB:=fun en ws dp r=>((P en ws (dp+1) (neR ws en obB dp r)).1,exR ws en cbB (P en ws (dp+1) (neR ws en obB dp r)).2)
theorem Hs {ws:D} {en dp:Int} {t:ByteArray} {r:Rd} (h:aa ws r.nx) (ht:0<t.size):aa ws (neR ws en t dp r).nx/\r.nx<=(neR ws en t dp r).nx:=by
 cases ha:acB ws r.nx t with
 |true=>
  have:=mI (en:=en) (dp:=dp) h ht ha;exact ⟨this.1,this.2.2⟩
 |false=>
  have e:neR ws en t dp r=fl ws en 5 r:=by
   unfold neR;rw[if_neg (fun hx=>by rw[ha] at hx;exact Bool.false_ne_true hx.1),im ha]
  rw[e];exact kH en 5 h
theorem gc {P:PB} {ws:D} {en:Int} (hPa:∀ dp,PbOK ws (P en ws dp)) {dp:Int} {r:Rd} (h:aa ws r.nx):aa ws (neR ws en obB dp r).nx/\r.nx<=(neR ws en obB dp r).nx/\aa ws (P en ws (dp+1) (neR ws en obB dp r)).2.nx/\aa ws (blF P en ws dp r).2.nx/\r.nx<=(blF P en ws dp r).2.nx:=by
 have a:=Hs (en:=en) (dp:=dp) (t:=obB) h (by decide);have b:=(hPa (dp+1)).up _ a.1;have c:=a9 en (t:=cbB) b.2 (by decide);exact ⟨a.1,a.2,b.2,c.1,Int.le_trans a.2 (Int.le_trans b.1 c.2)⟩
theorem wr1 {dp:Int} (h:0<=dp) (h2:dp<=2000000):IntKind.i64.wrap (dp+1)=dp+1:=by
 rw[IntWalk.i64_in _ (by omega)]
theorem y1 {ws:D} {r q:Rd} {dp:Int} (h:cB ws r dp) (hn:r.nx<=q.nx):aH ws q (dp+1):=by
 obtain ⟨a,b⟩:=h;have:=cv (ws:=ws) hn;exact ⟨by omega,by omega⟩
theorem kK {ws:D} {r q:Rd} {dp:Int} (h:aH ws r dp) (hr:aa ws r.nx) (hl:r.nx<ws.len) (hn:r.nx<q.nx):cB ws q dp/\left ws q<left ws r:=by
 obtain ⟨a,b⟩:=h;obtain ⟨c,d,e⟩:=hr;have:left ws q+1<=left ws r:=by unfold left;omega
 exact ⟨⟨a,by omega⟩,by omega⟩
theorem gG {ws:D} (en:Int) {t:ByteArray} {r:Rd} (hl:r.nx<ws.len):r.nx<(exR ws en t r).nx:=by
 cases ha:acB ws r.nx t with
 |true=>
  rw[fZ ha];exact Int.lt_succ _
 |false=>
  rw[im ha,yN];exact hl
theorem dK {ws:D} {t:ByteArray} {r:Rd} (h:aa ws r.nx) (ht:0<t.size):aa ws (acR ws t r).nx/\r.nx<=(acR ws t r).nx:=by
 cases ha:acB ws r.nx t with
 |true=>
  rw[ju ha];exact bx h (cK ht ha)
 |false=>
  rw[dI ha];exact ⟨h,Int.le_refl _⟩
noncomputable def y2 (P:PB) (m:Nat):List Dat->Option (Eff × List Seg):=fun ds=>match ds with
 | [.d ws,.i nx,.i en,.i pa,.i er,.i dp]=>some ({val:=.one (.sc (.osl 80 (0) (.lit 0) (.sym ((P en ws dp (mR nx pa er)).1.len)))),vc:=[aa ws nx,aH ws (mR nx pa er) dp,left ws (mR nx pa er)<m],nw:=[(0,.orow 80 ((P en ws dp (mR nx pa er)).1))]},[.c (.rows 124 ws),.c (.int .i64 (.sym ((((P en ws dp (mR nx pa er)).2)).nx))),.c (.int .i64 (.sym en)),.c (.int .i64 (.sym ((((P en ws dp (mR nx pa er)).2)).pa))),.c (.int .i64 (.sym ((((P en ws dp (mR nx pa er)).2)).er)))])
 |_=>none
noncomputable def ft (P:PB) (m:Nat):Con:=ba 85 [.c (.rows 124),.c (.int .i64),.c (.int .i64),.c (.int .i64),.c (.int .i64)] [.sc (.int .i64)] (y2 P m)
def cfA (P:PB) (en:Int) (ws:D) (dp:Int) (r:Rd):D × Rd:=blF P en ws dp (cdR ws en (exR ws en kwF r))
def cfB (P:PB) (en:Int) (ws:D) (dp:Int) (r:Rd):D × Rd:=if acB ws (cfA P en ws dp r).2.nx kwL=true then blF P en ws dp (acR ws kwL (cfA P en ws dp r).2) else (.l [],acR ws kwL (cfA P en ws dp r).2)
def cfS (P:PB) (en:Int) (ws:D) (dp:Int) (r:Rd):St:=⟨2,ByteArray.empty,ByteArray.empty,X00,cdC ws en (exR ws en kwF r),(cfA P en ws dp r).1,(cfB P en ws dp r).1,.l []⟩
def lpA (P:PB) (en:Int) (ws:D) (dp:Int) (r:Rd):D × Rd:=blF P en ws dp (cdR ws en (exR ws en kwW r))
def lpS (P:PB) (en:Int) (ws:D) (dp:Int) (r:Rd):St:=⟨3,ByteArray.empty,ByteArray.empty,X00,cdC ws en (exR ws en kwW r),(lpA P en ws dp r).1,.l [],.l []⟩
def amX (en:Int) (ws:D) (r:Rd):Rd:=nmR ws en (exR ws en opB (nmR ws en r))
def amA (P:PB) (en:Int) (ws:D) (dp:Int) (r:Rd):D × Rd:=blF P en ws dp (exR ws en clB (amX en ws r))
def amS (P:PB) (en:Int) (ws:D) (dp:Int) (r:Rd):Am:=⟨nmS ws r,nmS ws (exR ws en opB (nmR ws en r)),(amA P en ws dp r).1⟩
theorem o9 {ws:D} {r q:Rd} {dp:Int} (h:cB ws r dp) (hn:r.nx<=q.nx):cB ws q dp:=by
 obtain ⟨a,b⟩:=h;have:=cv (ws:=ws) hn;exact ⟨a,by omega⟩
noncomputable def y3 (P:PB) (m:Nat):List Dat->Option (Eff × List Seg):=fun ds=>match ds with
 | [.d ws,.i nx,.i en,.i pa,.i er,.i dp]=>some ({val:=.one (.sc (.osl 80 (0) (.lit 0) (.sym ((blF P en ws dp (mR nx pa er)).1.len)))),vc:=[aa ws nx,cB ws (mR nx pa er) dp,left ws (mR nx pa er)<m],nw:=[(0,.orow 80 ((blF P en ws dp (mR nx pa er)).1))]},[.c (.rows 124 ws),.c (.int .i64 (.sym ((((blF P en ws dp (mR nx pa er)).2)).nx))),.c (.int .i64 (.sym en)),.c (.int .i64 (.sym ((((blF P en ws dp (mR nx pa er)).2)).pa))),.c (.int .i64 (.sym ((((blF P en ws dp (mR nx pa er)).2)).er)))])
 |_=>none
noncomputable def pd (P:PB) (m:Nat):Con:=ba 85 [.c (.rows 124),.c (.int .i64),.c (.int .i64),.c (.int .i64),.c (.int .i64)] [.sc (.int .i64)] (y3 P m)
theorem sC {P:PB} {m:Nat} (hP:ConOK Tryz.prog 81 (ft P m)) (hPa:∀ en ws dp,PbOK ws (P en ws dp)):ConOK Tryz.prog 101 (pd P m):=by
 refine bk tt_ok au Tryz.func101 rfl (fun _ _=>by kernel_rfl) (A:=fun ds=>⟨fun _=>Cons.of [(107,sp),(81,(ft P m)),(80,dy)],fun _=>none,fun _=>none⟩) (fun _ _=>(af yo (af hP (af dJ aq)))) (by kernel_rfl) ?_
 intro ds;unfold y3;split
 ·rename_i ws nx en pa er dp;refine kmp (q:=ac (P en ws (IntKind.i64.wrap (dp+1)) (neR ws en (ByteArray.mk #[123]) dp (mR nx pa er))) fun Ea=>ac (neR ws en (ByteArray.mk #[123]) dp (mR nx pa er)) fun Eb=>ac (blF P en ws dp (mR nx pa er)) fun Ec=>ac (exR ws en (ByteArray.mk #[125]) Ea.snd) fun Ed=>aa ws nx->cB ws (mR nx pa er) dp->left ws (mR nx pa er)<m->aa ws nx/\0<(ByteArray.mk #[123]).size/\aa ws Eb.nx/\aH ws Eb (IntKind.i64.wrap (dp+1))/\left ws Eb<m/\aa ws Ea.snd.nx/\0<(ByteArray.mk #[125]).size/\Ea.fst.len=Ec.fst.len/\ws.rows=ws.rows/\Ed.nx=Ec.snd.nx/\en=en/\Ed.pa=Ec.snd.pa/\Ed.er=Ec.snd.er/\Ea.fst.rows=Ec.fst.rows) (by kernel_rfl) ?_
  dsimp +instances only [ac]
  intro h hd hl;have e1:IntKind.i64.wrap (dp+1)=dp+1:=wr1 hd.1 (by have:=hd.2;omega);simp only[e1];obtain ⟨a,b,c,d,e⟩:=gc (hPa en ws) (dp:=dp) (r:=mR nx pa er) h;have f:=y1 (q:=neR ws en obB dp (mR nx pa er)) hd b;have g:left ws (neR ws en obB dp (mR nx pa er))<m:=Nat.lt_of_le_of_lt (cv b) hl
  (repeat' with_reducible constructor)<;>first |assumption |decide |rfl
 ·trivial
noncomputable def y4 (P:PB) (m:Nat):List Dat->Option (Eff × List Seg):=fun ds=>match ds with
 | [.d ws,.i nx,.i en,.i pa,.i er,.i dp]=>some ({val:=.one (.agg [.c (.int .i64 (.sym ((cfS P en ws dp (mR nx pa er))).k)),.c (.raw (.string ((cfS P en ws dp (mR nx pa er))).nm)),.c (.raw (.string ((cfS P en ws dp (mR nx pa er))).tg)),.c (.int .i64 (.sym (((cfS P en ws dp (mR nx pa er))).e).k)),.c (.int .i64 (.sym (((cfS P en ws dp (mR nx pa er))).e).n)),.c (.raw (.string (((cfS P en ws dp (mR nx pa er))).e).s)),.c (.osl 75 0 (.lit 0) (.sym (((cfS P en ws dp (mR nx pa er))).e).d.len)),.c (.int .i64 (.sym ((cfS P en ws dp (mR nx pa er))).c.op)),.c (.int .i64 (.sym (((cfS P en ws dp (mR nx pa er))).c.l).k)),.c (.int .i64 (.sym (((cfS P en ws dp (mR nx pa er))).c.l).n)),.c (.raw (.string (((cfS P en ws dp (mR nx pa er))).c.l).s)),.c (.osl 75 1 (.lit 0) (.sym (((cfS P en ws dp (mR nx pa er))).c.l).d.len)),.c (.int .i64 (.sym (((cfS P en ws dp (mR nx pa er))).c.r).k)),.c (.int .i64 (.sym (((cfS P en ws dp (mR nx pa er))).c.r).n)),.c (.raw (.string (((cfS P en ws dp (mR nx pa er))).c.r).s)),.c (.osl 75 2 (.lit 0) (.sym (((cfS P en ws dp (mR nx pa er))).c.r).d.len)),.c (.osl 80 3 (.lit 0) (.sym ((cfS P en ws dp (mR nx pa er))).b.len)),.c (.osl 80 4 (.lit 0) (.sym ((cfS P en ws dp (mR nx pa er))).el.len)),.c (.osl 141 5 (.lit 0) (.sym ((cfS P en ws dp (mR nx pa er))).ar.len))]),vc:=[aa ws nx,aH ws (mR nx pa er) dp,left ws (mR nx pa er)<m+1,(mR nx pa er).nx<ws.len],nw:=[(0,.orow 75 ((cfS P en ws dp (mR nx pa er))).e.d),(1,.orow 75 ((cfS P en ws dp (mR nx pa er))).c.l.d),(2,.orow 75 ((cfS P en ws dp (mR nx pa er))).c.r.d),(3,.orow 80 ((cfS P en ws dp (mR nx pa er))).b),(4,.orow 80 ((cfS P en ws dp (mR nx pa er))).el),(5,.orow 141 ((cfS P en ws dp (mR nx pa er))).ar)]},[.c (.rows 124 ws),.c (.int .i64 (.sym ((((cfB P en ws dp (mR nx pa er)).2)).nx))),.c (.int .i64 (.sym en)),.c (.int .i64 (.sym ((((cfB P en ws dp (mR nx pa er)).2)).pa))),.c (.int .i64 (.sym ((((cfB P en ws dp (mR nx pa er)).2)).er)))])
 |_=>none
noncomputable def y5 (P:PB) (m:Nat):Con:=ba 85 [.c (.rows 124),.c (.int .i64),.c (.int .i64),.c (.int .i64),.c (.int .i64)] [.sc (.int .i64)] (y4 P m)
theorem Hu {P:PB} {m:Nat} (hP:ConOK Tryz.prog 81 (ft P m)) (hPa:∀ en ws dp,PbOK ws (P en ws dp)):ConOK Tryz.prog 88 (y5 P m):=by
 refine bk tt_ok au Tryz.func88 rfl (fun _ _=>by kernel_rfl) (A:=fun ds=>⟨fun _=>Cons.of [(101,(pd P m)),(100,o8),(80,dy),(45,jx)],fun _=>none,fun _=>none⟩) (fun _ _=>(af (sC hP hPa) (af sB (af dJ (af kE aq))))) (by kernel_rfl) ?_
 intro ds;unfold y4;split
 ·rename_i ws nx en pa er dp;refine kmp (q:=ac (exR ws en (ByteArray.mk #[105,102]) (mR nx pa er)) fun Ea=>ac (cfS P en ws dp (mR nx pa er)) fun Eb=>ac (acR ws (ByteArray.mk #[101,108,115,101]) (blF P en ws dp (cdR ws en Ea)).snd) fun Ec=>ac (blF P en ws dp (acR ws {data:=#[(101:UInt8),(108:UInt8),(115:UInt8),(101:UInt8)]} (blF P en ws dp (cdR ws en Ea)).snd)) fun Ed=>ac (blF P en ws dp (cdR ws en Ea)) fun Ee=>ac (cfB P en ws dp (mR nx pa er)) fun Ef=>aa ws nx->aH ws (mR nx pa er) dp->left ws (mR nx pa er)<m+1->(mR nx pa er).nx<(ws.len:Int)->aa ws nx/\0<(ByteArray.mk #[105,102]).size/\aa ws Ea.nx/\aa ws (cdR ws en Ea).nx/\cB ws (cdR ws en Ea) dp/\left ws (cdR ws en Ea)<m/\aa ws Ee.snd.nx/\0<(ByteArray.mk #[101,108,115,101]).size/\(acB ws Ee.snd.nx (ByteArray.mk #[101,108,115,101])=true->aa ws Ec.nx/\cB ws Ec dp/\left ws Ec<m/\(2:Int)=Eb.k/\Value.string ByteArray.empty=Value.string Eb.nm/\Value.string ByteArray.empty=Value.string Eb.tg/\(0:Int)=Eb.e.k/\(0:Int)=Eb.e.n/\Value.string ByteArray.empty=Value.string Eb.e.s/\Eb.e.d.len=0/\(cdC ws en Ea).op=Eb.c.op/\(cdC ws en Ea).l.k=Eb.c.l.k/\(cdC ws en Ea).l.n=Eb.c.l.n/\Value.string (cdC ws en Ea).l.s=Value.string Eb.c.l.s/\(cdC ws en Ea).l.d.len=Eb.c.l.d.len/\(cdC ws en Ea).r.k=Eb.c.r.k/\(cdC ws en Ea).r.n=Eb.c.r.n/\Value.string (cdC ws en Ea).r.s=Value.string Eb.c.r.s/\(cdC ws en Ea).r.d.len=Eb.c.r.d.len/\Ee.fst.len=Eb.b.len/\(blF P en ws dp Ec).fst.len=Eb.el.len/\Eb.ar.len=0/\ws.rows=ws.rows/\(blF P en ws dp Ec).snd.nx=Ef.snd.nx/\en=en/\Ed.snd.pa=Ef.snd.pa/\Ed.snd.er=Ef.snd.er/\([]:List (List D))=[]/\(cdC ws en Ea).l.d.rows=Eb.c.l.d.rows/\(cdC ws en Ea).r.d.rows=Eb.c.r.d.rows/\Ee.fst.rows=Eb.b.rows/\Ed.fst.rows=Eb.el.rows/\([]:List (List D))=[])/\(acB ws Ee.snd.nx (ByteArray.mk #[101,108,115,101])=false->(2:Int)=Eb.k/\Value.string ByteArray.empty=Value.string Eb.nm/\Value.string ByteArray.empty=Value.string Eb.tg/\(0:Int)=Eb.e.k/\(0:Int)=Eb.e.n/\Value.string ByteArray.empty=Value.string Eb.e.s/\Eb.e.d.len=0/\(cdC ws en Ea).op=Eb.c.op/\(cdC ws en Ea).l.k=Eb.c.l.k/\(cdC ws en Ea).l.n=Eb.c.l.n/\Value.string (cdC ws en Ea).l.s=Value.string Eb.c.l.s/\(cdC ws en Ea).l.d.len=Eb.c.l.d.len/\(cdC ws en Ea).r.k=Eb.c.r.k/\(cdC ws en Ea).r.n=Eb.c.r.n/\Value.string (cdC ws en Ea).r.s=Value.string Eb.c.r.s/\(cdC ws en Ea).r.d.len=Eb.c.r.d.len/\Ee.fst.len=Eb.b.len/\Eb.el.len=0/\Eb.ar.len=0/\ws.rows=ws.rows/\Ec.nx=Ef.snd.nx/\en=en/\Ec.pa=Ef.snd.pa/\Ec.er=Ef.snd.er/\([]:List (List D))=[]/\(cdC ws en Ea).l.d.rows=Eb.c.l.d.rows/\(cdC ws en Ea).r.d.rows=Eb.c.r.d.rows/\Ee.fst.rows=Eb.b.rows/\Eb.el.rows=[]/\([]:List (List D))=[])) (by kernel_rfl) ?_
  dsimp +instances only [ac]
  intro h hd hl hn;have a0:=(a9 en (t:=kwF) (r:=mR nx pa er) h (by decide)).1;obtain ⟨_,_,_,_,a5,a6⟩:=jz en a0;obtain ⟨b1,b2,b3,b4,b5⟩:=gc (hPa en ws) (dp:=dp) a5;have q1:=kK hd h hn (Int.lt_of_lt_of_le (gG en hn) a6);have q2:=q1.1;have q3:left ws (cdR ws en (exR ws en kwF (mR nx pa er)))<m:=by have:=q1.2;omega
  have c1:=dK (t:=kwL) b4 (by decide);have c2:=Int.le_trans b5 c1.2;have c3:=c1.1;have d1:=o9 q2 c2;have d2:=Nat.lt_of_le_of_lt (cv (ws:=ws) c2) q3;obtain ⟨d3,d4,d5,d6,d7⟩:=gc (hPa en ws) (dp:=dp) c1.1;refine ⟨h,by decide,a0,a5,q2,q3,b4,by decide,fun hc=>?_,fun hc=>?_⟩
  ·have e1:cfB P en ws dp (mR nx pa er)=blF P en ws dp (acR ws kwL (cfA P en ws dp (mR nx pa er)).2):=if_pos hc;simp only[cfS,e1]
   (repeat' with_reducible constructor)<;>first |assumption |decide |rfl
  ·have e1:cfB P en ws dp (mR nx pa er)=(.l [],acR ws kwL (cfA P en ws dp (mR nx pa er)).2):=if_neg (by rw[show acB ws (cfA P en ws dp (mR nx pa er)).2.nx kwL=false from hc];decide);simp only[cfS,e1]
   (repeat' with_reducible constructor)<;>first |assumption |decide |rfl
 ·trivial
noncomputable def y6 (P:PB) (m:Nat):List Dat->Option (Eff × List Seg):=fun ds=>match ds with
 | [.d ws,.i nx,.i en,.i pa,.i er,.i dp]=>some ({val:=.one (.agg [.c (.int .i64 (.sym ((lpS P en ws dp (mR nx pa er))).k)),.c (.raw (.string ((lpS P en ws dp (mR nx pa er))).nm)),.c (.raw (.string ((lpS P en ws dp (mR nx pa er))).tg)),.c (.int .i64 (.sym (((lpS P en ws dp (mR nx pa er))).e).k)),.c (.int .i64 (.sym (((lpS P en ws dp (mR nx pa er))).e).n)),.c (.raw (.string (((lpS P en ws dp (mR nx pa er))).e).s)),.c (.osl 75 0 (.lit 0) (.sym (((lpS P en ws dp (mR nx pa er))).e).d.len)),.c (.int .i64 (.sym ((lpS P en ws dp (mR nx pa er))).c.op)),.c (.int .i64 (.sym (((lpS P en ws dp (mR nx pa er))).c.l).k)),.c (.int .i64 (.sym (((lpS P en ws dp (mR nx pa er))).c.l).n)),.c (.raw (.string (((lpS P en ws dp (mR nx pa er))).c.l).s)),.c (.osl 75 1 (.lit 0) (.sym (((lpS P en ws dp (mR nx pa er))).c.l).d.len)),.c (.int .i64 (.sym (((lpS P en ws dp (mR nx pa er))).c.r).k)),.c (.int .i64 (.sym (((lpS P en ws dp (mR nx pa er))).c.r).n)),.c (.raw (.string (((lpS P en ws dp (mR nx pa er))).c.r).s)),.c (.osl 75 2 (.lit 0) (.sym (((lpS P en ws dp (mR nx pa er))).c.r).d.len)),.c (.osl 80 3 (.lit 0) (.sym ((lpS P en ws dp (mR nx pa er))).b.len)),.c (.osl 80 4 (.lit 0) (.sym ((lpS P en ws dp (mR nx pa er))).el.len)),.c (.osl 141 5 (.lit 0) (.sym ((lpS P en ws dp (mR nx pa er))).ar.len))]),vc:=[aa ws nx,aH ws (mR nx pa er) dp,left ws (mR nx pa er)<m+1,(mR nx pa er).nx<ws.len],nw:=[(0,.orow 75 ((lpS P en ws dp (mR nx pa er))).e.d),(1,.orow 75 ((lpS P en ws dp (mR nx pa er))).c.l.d),(2,.orow 75 ((lpS P en ws dp (mR nx pa er))).c.r.d),(3,.orow 80 ((lpS P en ws dp (mR nx pa er))).b),(4,.orow 80 ((lpS P en ws dp (mR nx pa er))).el),(5,.orow 141 ((lpS P en ws dp (mR nx pa er))).ar)]},[.c (.rows 124 ws),.c (.int .i64 (.sym ((((lpA P en ws dp (mR nx pa er)).2)).nx))),.c (.int .i64 (.sym en)),.c (.int .i64 (.sym ((((lpA P en ws dp (mR nx pa er)).2)).pa))),.c (.int .i64 (.sym ((((lpA P en ws dp (mR nx pa er)).2)).er)))])
 |_=>none
noncomputable def y7 (P:PB) (m:Nat):Con:=ba 85 [.c (.rows 124),.c (.int .i64),.c (.int .i64),.c (.int .i64),.c (.int .i64)] [.sc (.int .i64)] (y6 P m)
theorem Hw {P:PB} {m:Nat} (hP:ConOK Tryz.prog 81 (ft P m)) (hPa:∀ en ws dp,PbOK ws (P en ws dp)):ConOK Tryz.prog 89 (y7 P m):=by
 refine bk tt_ok au Tryz.func89 rfl (fun _ _=>by kernel_rfl) (A:=fun ds=>⟨fun _=>Cons.of [(101,(pd P m)),(100,o8),(80,dy)],fun _=>none,fun _=>none⟩) (fun _ _=>(af (sC hP hPa) (af sB (af dJ aq)))) (by kernel_rfl) ?_
 intro ds;unfold y6;split
 ·rename_i ws nx en pa er dp;refine kmp (q:=ac (exR ws en (ByteArray.mk #[119,104,105,108,101]) (mR nx pa er)) fun Ea=>ac (lpS P en ws dp (mR nx pa er)) fun Eb=>ac (exR ws en {data:=#[(119:UInt8),(104:UInt8),(105:UInt8),(108:UInt8),(101:UInt8)]} (mR nx pa er)) fun Ec=>ac (blF P en ws dp (cdR ws en Ec)) fun Ed=>ac (lpA P en ws dp (mR nx pa er)) fun Ee=>aa ws nx->aH ws (mR nx pa er) dp->left ws (mR nx pa er)<m+1->(mR nx pa er).nx<(ws.len:Int)->aa ws nx/\0<(ByteArray.mk #[119,104,105,108,101]).size/\aa ws Ea.nx/\aa ws (cdR ws en Ea).nx/\cB ws (cdR ws en Ea) dp/\left ws (cdR ws en Ea)<m/\(3:Int)=Eb.k/\Value.string ByteArray.empty=Value.string Eb.nm/\Value.string ByteArray.empty=Value.string Eb.tg/\(0:Int)=Eb.e.k/\(0:Int)=Eb.e.n/\Value.string ByteArray.empty=Value.string Eb.e.s/\Eb.e.d.len=0/\(cdC ws en Ea).op=Eb.c.op/\(cdC ws en Ea).l.k=Eb.c.l.k/\(cdC ws en Ea).l.n=Eb.c.l.n/\Value.string (cdC ws en Ea).l.s=Value.string Eb.c.l.s/\(cdC ws en Ea).l.d.len=Eb.c.l.d.len/\(cdC ws en Ea).r.k=Eb.c.r.k/\(cdC ws en Ea).r.n=Eb.c.r.n/\Value.string (cdC ws en Ea).r.s=Value.string Eb.c.r.s/\(cdC ws en Ea).r.d.len=Eb.c.r.d.len/\(blF P en ws dp (cdR ws en Ea)).fst.len=Eb.b.len/\Eb.el.len=0/\Eb.ar.len=0/\ws.rows=ws.rows/\Ed.snd.nx=Ee.snd.nx/\en=en/\Ed.snd.pa=Ee.snd.pa/\Ed.snd.er=Ee.snd.er/\([]:List (List D))=[]/\(cdC ws en Ec).l.d.rows=Eb.c.l.d.rows/\(cdC ws en Ec).r.d.rows=Eb.c.r.d.rows/\Ed.fst.rows=Eb.b.rows/\([]:List (List D))=[]/\([]:List (List D))=[]) (by kernel_rfl) ?_
  dsimp +instances only [ac]
  intro h hd hl hn;have a0:=(a9 en (t:=kwW) (r:=mR nx pa er) h (by decide)).1;obtain ⟨_,_,_,_,a5,a6⟩:=jz en a0;obtain ⟨b1,b2,b3,b4,b5⟩:=gc (hPa en ws) (dp:=dp) a5;have q1:=kK hd h hn (Int.lt_of_lt_of_le (gG en hn) a6);have q2:=q1.1;have q3:left ws (cdR ws en (exR ws en kwW (mR nx pa er)))<m:=by have:=q1.2;omega
  (repeat' with_reducible constructor)<;>first |assumption |decide |rfl
 ·trivial
noncomputable def y8 (P:PB) (m:Nat):List Dat->Option (Eff × List Seg):=fun ds=>match ds with
 | [.d ws,.i nx,.i en,.i pa,.i er,.i dp]=>some ({val:=.one (.agg [.c (.raw (.string (amS P en ws dp (mR nx pa er)).tg)),.c (.raw (.string (amS P en ws dp (mR nx pa er)).vr)),.c (.osl 80 0 (.lit 0) (.sym (amS P en ws dp (mR nx pa er)).b.len))]),vc:=[aa ws nx,cB ws (mR nx pa er) dp,left ws (mR nx pa er)<m],nw:=[(0,.orow 80 ((amS P en ws dp (mR nx pa er)).b))]},[.c (.rows 124 ws),.c (.int .i64 (.sym ((((amA P en ws dp (mR nx pa er)).2)).nx))),.c (.int .i64 (.sym en)),.c (.int .i64 (.sym ((((amA P en ws dp (mR nx pa er)).2)).pa))),.c (.int .i64 (.sym ((((amA P en ws dp (mR nx pa er)).2)).er)))])
 |_=>none
noncomputable def y9 (P:PB) (m:Nat):Con:=ba 85 [.c (.rows 124),.c (.int .i64),.c (.int .i64),.c (.int .i64),.c (.int .i64)] [.sc (.int .i64)] (y8 P m)
theorem Hy {P:PB} {m:Nat} (hP:ConOK Tryz.prog 81 (ft P m)) (hPa:∀ en ws dp,PbOK ws (P en ws dp)):ConOK Tryz.prog 103 (y9 P m):=by
 refine bk tt_ok au Tryz.func103 rfl (fun _ _=>by kernel_rfl) (A:=fun ds=>⟨fun _=>Cons.of [(101,(pd P m)),(77,f9),(80,dy)],fun _=>none,fun _=>none⟩) (fun _ _=>(af (sC hP hPa) (af gD (af dJ aq)))) (by kernel_rfl) ?_
 intro ds;unfold y8;split
 ·rename_i ws nx en pa er dp;refine kmp (q:=ac (exR ws en (ByteArray.mk #[41]) (nmR ws en (exR ws en (ByteArray.mk #[40]) (nmR ws en (mR nx pa er))))) fun Ea=>ac (exR ws en (ByteArray.mk #[40]) (nmR ws en (mR nx pa er))) fun Eb=>ac (amS P en ws dp (mR nx pa er)) fun Ec=>ac (amA P en ws dp (mR nx pa er)) fun Ed=>aa ws nx->cB ws (mR nx pa er) dp->left ws (mR nx pa er)<m->aa ws nx/\aa ws (nmR ws en (mR nx pa er)).nx/\0<(ByteArray.mk #[40]).size/\aa ws Eb.nx/\aa ws (nmR ws en Eb).nx/\0<(ByteArray.mk #[41]).size/\aa ws Ea.nx/\cB ws Ea dp/\left ws Ea<m/\Value.string (nmS ws (mR nx pa er))=Value.string Ec.tg/\Value.string (nmS ws Eb)=Value.string Ec.vr/\(blF P en ws dp Ea).fst.len=Ec.b.len/\ws.rows=ws.rows/\(blF P en ws dp Ea).snd.nx=Ed.snd.nx/\en=en/\(blF P en ws dp Ea).snd.pa=Ed.snd.pa/\(blF P en ws dp Ea).snd.er=Ed.snd.er/\(blF P en ws dp Ea).fst.rows=Ec.b.rows) (by kernel_rfl) ?_
  dsimp +instances only [ac]
  intro h hd hl;have a0:=bT en (r:=mR nx pa er) h;have a1:=a9 en (t:=opB) a0.1 (by decide);have a2:=bT en a1.1;have a3:=a9 en (t:=clB) a2.1 (by decide);have a4:=Int.le_trans a0.2 (Int.le_trans a1.2 (Int.le_trans a2.2 a3.2));have a5:=a0.1;have a6:=a1.1;have a7:=a2.1;have a8:=a3.1;have d1:=o9 hd a4;have d2:=Nat.lt_of_le_of_lt (cv (ws:=ws) a4) hl
  (repeat' with_reducible constructor)<;>first |assumption |decide |rfl
 ·trivial
end Go.Proofs.YtbhbjhejkamlnaaGreat.Sx.Z
namespace Go.Proofs.YtbhbjhejkamlnaaGreat.Sx
def cT (s:St) (t j:Nat):Nat:=match ad s.hp (bj s t) with |some (.own _ l)=>(match l[j]? with |some (.c (.osl _ id _ _))=>id |_=>0) |_=>0
end Go.Proofs.YtbhbjhejkamlnaaGreat.Sx
namespace Go.Proofs.YtbhbjhejkamlnaaGreat.Sx.Z
open Go.RowKit
def cj (go:Rd->Bool) (F:Rd->List D × Rd):Nat->D->Rd->D × Rd
 | 0,d,r=>(d,r)
 |n+1,d,r=>if go r=true then cj go F n (.l (d.rows++[(F r).1])) (F r).2 else (d,r)
def aj (go:Rd->Bool) (F:Rd->List D × Rd) (ws d:D) (r:Rd):D × Rd:=cj go F (left ws r) d r
structure SqOK (ws:D) (go:Rd->Bool) (F:Rd->List D × Rd):Prop where
 up:∀ r,aa ws r.nx->go r=true->aa ws (F r).2.nx/\r.nx<(F r).2.nx
theorem da {ws:D} {r q:Rd} (h:aa ws q.nx) (h0:aa ws r.nx) (hl:r.nx<q.nx):left ws q<left ws r:=by
 obtain ⟨a,b,c⟩:=h;have:=h0.1;unfold left;omega
theorem ir {go:Rd->Bool} {F:Rd->List D × Rd} {d:D} {r:Rd} (h:go r=false):∀ n,cj go F n d r=(d,r)
 | 0=>rfl
 |n+1=>if_neg (by rw[h];decide)
theorem Hz {ws:D} {go:Rd->Bool} {F:Rd->List D × Rd} (hF:SqOK ws go F):∀ (n:Nat) (d:D) (r:Rd),aa ws r.nx->left ws r<=n->cj go F n d r=cj go F (left ws r) d r:=by
 intro n
 induction n using Nat.strongRecOn with
 |ind n ih=>
  intro d r h hl
  cases hg:go r with
  |false=>rw[ir hg,ir hg]
  |true=>
   obtain ⟨u1,u2⟩:=hF.up r h hg;have u3:=da u1 h u2
   cases n with
   |zero=>omega
   |succ k=>
    obtain ⟨j,hj⟩:∃ j,left ws r=j+1:=⟨left ws r-1,by omega⟩;rw[hj,cj,if_pos hg,cj,if_pos hg,ih k (by omega) _ _ u1 (by omega),ih j (by omega) _ _ u1 (by omega)]
theorem bv {ws:D} {go:Rd->Bool} {F:Rd->List D × Rd} {d:D} {r:Rd} (h:go r=false):aj go F ws d r=(d,r):=ir h _
theorem cL {ws:D} {go:Rd->Bool} {F:Rd->List D × Rd} (hF:SqOK ws go F) {d:D} {r:Rd} (h:aa ws r.nx) (hg:go r=true):aj go F ws (.l (d.rows++[(F r).1])) (F r).2=aj go F ws d r:=by
 obtain ⟨u1,u2⟩:=hF.up r h hg;have u3:=da u1 h u2;obtain ⟨j,hj⟩:∃ j,left ws r=j+1:=⟨left ws r-1,by omega⟩;unfold aj;rw[hj,cj,if_pos hg,Hz hF j _ _ u1 (by omega)]
theorem za {ws:D} {go:Rd->Bool} {F:Rd->List D × Rd} (hF:SqOK ws go F):∀ (n:Nat) (d:D) (r:Rd),aa ws r.nx->aa ws (cj go F n d r).2.nx/\r.nx<=(cj go F n d r).2.nx
 | 0,d,r,h=>⟨h,Int.le_refl _⟩
 |n+1,d,r,h=>by
  cases hg:go r with
  |false=>
   rw[ir hg];exact ⟨h,Int.le_refl _⟩
  |true=>
   obtain ⟨u1,u2⟩:=hF.up r h hg;have:=za hF n (.l (d.rows++[(F r).1])) (F r).2 u1;rw[cj,if_pos hg];exact ⟨this.1,by omega⟩
theorem dz {ws:D} {go:Rd->Bool} {F:Rd->List D × Rd} (hF:SqOK ws go F) (d:D) {r:Rd} (h:aa ws r.nx):aa ws (aj go F ws d r).2.nx/\r.nx<=(aj go F ws d r).2.nx:=za hF _ d r h
theorem bf (d:D) (x:List D):(D.l (d.rows++[x])).len=d.len+1:=by
 show (d.rows++[x]).length=d.rows.length+1;rw[List.length_append];rfl
def amG (ws:D) (r:Rd):Bool:=decide (pkK ws r.nx=1)
def amF (P:PB) (en:Int) (ws:D) (dp:Int) (r:Rd):List D × Rd:=((amS P en ws dp r).row,(amA P en ws dp r).2)
def rvX (en:Int) (ws:D) (r:Rd):Rd:=exR ws en obB (nmR ws en (exR ws en kwR r))
def rvA (P:PB) (en:Int) (ws:D) (dp:Int) (r:Rd):D × Rd:=aj (amG ws) (amF P en ws dp) ws (.l [(amS P en ws dp (rvX en ws r)).row]) (amA P en ws dp (rvX en ws r)).2
def rvS (P:PB) (en:Int) (ws:D) (dp:Int) (r:Rd):St:=⟨5,nmS ws (exR ws en kwR r),ByteArray.empty,X00,C00,.l [],.l [],(rvA P en ws dp r).1⟩
def rvR (P:PB) (en:Int) (ws:D) (dp:Int) (r:Rd):Rd:=exR ws en cbB (rvA P en ws dp r).2
theorem zc {P:PB} {ws:D} {en:Int} (hPa:∀ dp,PbOK ws (P en ws dp)) {dp:Int} {r:Rd} (h:aa ws r.nx):aa ws (amA P en ws dp r).2.nx/\r.nx<=(amA P en ws dp r).2.nx:=by
 have a0:=bT en h;have a1:=a9 en (t:=opB) a0.1 (by decide);have a2:=bT en a1.1;have a3:=a9 en (t:=clB) a2.1 (by decide);obtain ⟨b1,b2,b3,b4,b5⟩:=gc hPa (dp:=dp) a3.1;exact ⟨b4,Int.le_trans a0.2 (Int.le_trans a1.2 (Int.le_trans a2.2 (Int.le_trans a3.2 b5)))⟩
theorem mJ {P:PB} {ws:D} {en:Int} (hPa:∀ dp,PbOK ws (P en ws dp)) (dp:Int):SqOK ws (amG ws) (amF P en ws dp):=⟨fun r h hg=>by
 have hk:pkK ws r.nx=1:=of_decide_eq_true hg;have hl:=kB (ws:=ws) (nx:=r.nx) (by rw[hk];decide);have e:nmR ws en r=gx r:=if_pos hk;have a0:=bT en h;have a1:=a9 en (t:=opB) a0.1 (by decide);have a2:=bT en a1.1;have a3:=a9 en (t:=clB) a2.1 (by decide);obtain ⟨b1,b2,b3,b4,b5⟩:=gc hPa (dp:=dp) a3.1;have e2:(nmR ws en r).nx=r.nx+1:=by rw[e];rfl
 have h9:(nmR ws en r).nx<=(amA P en ws dp r).2.nx:=Int.le_trans a1.2 (Int.le_trans a2.2 (Int.le_trans a3.2 b5));exact ⟨b4,by show r.nx<(amA P en ws dp r).2.nx;omega⟩⟩
theorem pe {P:PB} {ws:D} {en:Int} (hPa:∀ dp,PbOK ws (P en ws dp)) {dp:Int} {r:Rd} (h:aa ws r.nx):aa ws (exR ws en kwR r).nx/\aa ws (nmR ws en (exR ws en kwR r)).nx/\aa ws (rvX en ws r).nx/\(exR ws en kwR r).nx<=(rvX en ws r).nx/\aa ws (rvA P en ws dp r).2.nx/\(rvX en ws r).nx<=(rvA P en ws dp r).2.nx/\aa ws (rvR P en ws dp r).nx/\(rvX en ws r).nx<=(rvR P en ws dp r).nx:=by
 have a0:=a9 en (t:=kwR) h (by decide);have a1:=bT en a0.1;have a2:=a9 en (t:=obB) a1.1 (by decide);have b:=zc hPa (dp:=dp) a2.1;have c:=dz (mJ hPa dp) (.l [(amS P en ws dp (rvX en ws r)).row]) b.1;have d:=a9 en (t:=cbB) c.1 (by decide);exact ⟨a0.1,a1.1,a2.1,Int.le_trans a1.2 a2.2,c.1,Int.le_trans b.2 c.2,d.1,Int.le_trans b.2 (Int.le_trans c.2 d.2)⟩
noncomputable def ze (P:PB) (m:Nat):List Dat->Option (Eff × List Seg):=fun ds=>match ds with
 | [.d ws,.i nx,.i en,.i pa,.i er,.i dp]=>some ({val:=.one (.agg [.c (.int .i64 (.sym ((rvS P en ws dp (mR nx pa er))).k)),.c (.raw (.string ((rvS P en ws dp (mR nx pa er))).nm)),.c (.raw (.string ((rvS P en ws dp (mR nx pa er))).tg)),.c (.int .i64 (.sym (((rvS P en ws dp (mR nx pa er))).e).k)),.c (.int .i64 (.sym (((rvS P en ws dp (mR nx pa er))).e).n)),.c (.raw (.string (((rvS P en ws dp (mR nx pa er))).e).s)),.c (.osl 75 0 (.lit 0) (.sym (((rvS P en ws dp (mR nx pa er))).e).d.len)),.c (.int .i64 (.sym ((rvS P en ws dp (mR nx pa er))).c.op)),.c (.int .i64 (.sym (((rvS P en ws dp (mR nx pa er))).c.l).k)),.c (.int .i64 (.sym (((rvS P en ws dp (mR nx pa er))).c.l).n)),.c (.raw (.string (((rvS P en ws dp (mR nx pa er))).c.l).s)),.c (.osl 75 1 (.lit 0) (.sym (((rvS P en ws dp (mR nx pa er))).c.l).d.len)),.c (.int .i64 (.sym (((rvS P en ws dp (mR nx pa er))).c.r).k)),.c (.int .i64 (.sym (((rvS P en ws dp (mR nx pa er))).c.r).n)),.c (.raw (.string (((rvS P en ws dp (mR nx pa er))).c.r).s)),.c (.osl 75 2 (.lit 0) (.sym (((rvS P en ws dp (mR nx pa er))).c.r).d.len)),.c (.osl 80 3 (.lit 0) (.sym ((rvS P en ws dp (mR nx pa er))).b.len)),.c (.osl 80 4 (.lit 0) (.sym ((rvS P en ws dp (mR nx pa er))).el.len)),.c (.osl 141 5 (.lit 0) (.sym ((rvS P en ws dp (mR nx pa er))).ar.len))]),vc:=[aa ws nx,aH ws (mR nx pa er) dp,left ws (mR nx pa er)<m+1,(mR nx pa er).nx<ws.len],nw:=[(0,.orow 75 ((rvS P en ws dp (mR nx pa er))).e.d),(1,.orow 75 ((rvS P en ws dp (mR nx pa er))).c.l.d),(2,.orow 75 ((rvS P en ws dp (mR nx pa er))).c.r.d),(3,.orow 80 ((rvS P en ws dp (mR nx pa er))).b),(4,.orow 80 ((rvS P en ws dp (mR nx pa er))).el),(5,.orow 141 ((rvS P en ws dp (mR nx pa er))).ar)]},[.c (.rows 124 ws),.c (.int .i64 (.sym (((rvR P en ws dp (mR nx pa er))).nx))),.c (.int .i64 (.sym en)),.c (.int .i64 (.sym (((rvR P en ws dp (mR nx pa er))).pa))),.c (.int .i64 (.sym (((rvR P en ws dp (mR nx pa er))).er)))])
 |_=>none
noncomputable def zf (P:PB) (m:Nat):Con:=ba 85 [.c (.rows 124),.c (.int .i64),.c (.int .i64),.c (.int .i64),.c (.int .i64)] [.sc (.int .i64)] (ze P m)
theorem HA {P:PB} {m:Nat} (hP:ConOK Tryz.prog 81 (ft P m)) (hPa:∀ en ws dp,PbOK ws (P en ws dp)):ConOK Tryz.prog 91 (zf P m):=by
 refine bk tt_ok au Tryz.func91 rfl (fun _ _=>by kernel_rfl) (A:=fun ds=>⟨fun _=>Cons.of [(103,(y9 P m)),(76,eD),(77,f9),(80,dy)],fun k=>match k,ds with | 5,[.d ws,.i nx,.i en,.i pa,.i er,.i dp]=>some {ι:=D × Rd,pre:=fun _ q=>aa ws q.2.nx/\(aj (amG ws) (amF P en ws dp) ws q.1 q.2=rvA P en ws dp (mR nx pa er))/\q.1.len+left ws q.2<=1000001/\(rvX en ws (mR nx pa er)).nx<=q.2.nx,μ:=fun q=>left ws q.2,st:=fun s q=>aV s [] [0,1,4,5] [(0,.own 85 ([.c (.rows 124 ws),.c (.int .i64 (.sym ((q.2).nx))),.c (.int .i64 (.sym en)),.c (.int .i64 (.sym ((q.2).pa))),.c (.int .i64 (.sym ((q.2).er)))])),(bj s 5,.own 80 ([.c (.int .i64 (.sym 5)),.c (.raw (.string (nmS ws (exR ws en kwR (mR nx pa er))))),.c (.raw (.string ByteArray.empty)),.c (.int .i64 (.sym 0)),.c (.int .i64 (.sym 0)),.c (.raw (.string ByteArray.empty)),.c .nils,.c (.int .i64 (.sym 0)),.c (.int .i64 (.sym 0)),.c (.int .i64 (.sym 0)),.c (.raw (.string ByteArray.empty)),.c .nils,.c (.int .i64 (.sym 0)),.c (.int .i64 (.sym 0)),.c (.raw (.string ByteArray.empty)),.c .nils,.c .nils,.c .nils,.c (.osl 141 (cT s 5 18) (.lit 0) (.sym (q.1.len)))])),(cT s 5 18,.orow 141 (q.1))] [4]} |_,_=>none,fun _=>none⟩) (fun _ _=>(af (Hy hP hPa) (af eT (af gD (af dJ aq))))) (by kernel_rfl) ?_
 intro ds;unfold ze;split
 ·rename_i ws nx en pa er dp
  refine kmp (q:=ac (exR ws en obB (nmR ws en (exR ws en kwR (mR nx pa er)))) fun Ea=>ac (rvS P en ws dp (mR nx pa er)) fun Eb=>ac (fun (i:D × Rd)=>D.l [[D.s (amS P en ws dp i.snd).tg,D.s (amS P en ws dp i.snd).vr,(amS P en ws dp i.snd).b.sub 0 ((0:Nat)+(amS P en ws dp i.snd).b.len)]]) fun Ec=>ac (exR ws en kwR (mR nx pa er)) fun Ed=>ac (D.l [[D.s (amS P en ws dp Ea).tg,D.s (amS P en ws dp Ea).vr,(amS P en ws dp Ea).b.sub 0 ((0:Nat)+(amS P en ws dp Ea).b.len)]]) fun Ee=>ac (rvR P en ws dp (mR nx pa er)) fun Ef=>aa ws nx->aH ws (mR nx pa er) dp->left ws (mR nx pa er)<m+1->(mR nx pa er).nx<(ws.len:Int)->aa ws nx/\0<kwR.size/\aa ws Ed.nx/\aa ws (nmR ws en Ed).nx/\0<obB.size/\aa ws Ea.nx/\cB ws Ea dp/\left ws Ea<m/\0+(amS P en ws dp Ea).b.len<=(amS P en ws dp Ea).b.len/\((0:Nat)+(Ee.sub 0 1).len)*56<=140737488355328/\0+1<=Ee.len/\(∃ (i:D × Rd),(aa ws i.snd.nx/\aj (amG ws) (amF P en ws dp) ws i.fst i.snd=rvA P en ws dp (mR nx pa er)/\i.fst.len+left ws i.snd<=1000001/\(rvX en ws (mR nx pa er)).nx<=i.snd.nx)/\dp=dp/\ws.rows=ws.rows/\(amA P en ws dp Ea).snd.nx=i.snd.nx/\en=en/\(amA P en ws dp Ea).snd.pa=i.snd.pa/\(amA P en ws dp Ea).snd.er=i.snd.er/\(5:Int)=5/\Value.string (nmS ws Ed)=Value.string (nmS ws Ed)/\Value.string ByteArray.empty=Value.string ByteArray.empty/\(0:Int)=0/\(0:Int)=0/\Value.string ByteArray.empty=Value.string ByteArray.empty/\(0:Int)=0/\(0:Int)=0/\(0:Int)=0/\Value.string ByteArray.empty=Value.string ByteArray.empty/\(0:Int)=0/\(0:Int)=0/\Value.string ByteArray.empty=Value.string ByteArray.empty/\1=i.fst.len /\ []++List.drop 0 (List.take 1 [[D.s (amS P en ws dp Ea).tg,D.s (amS P en ws dp Ea).vr,(amS P en ws dp Ea).b.sub 0 ((0:Nat)+(amS P en ws dp Ea).b.len)]])=i.fst.rows/\(0:Int)=0/\Value.string ByteArray.empty=Value.string ByteArray.empty/\Value.string ByteArray.empty=Value.string ByteArray.empty/\(0:Int)=0/\(0:Int)=0/\Value.string ByteArray.empty=Value.string ByteArray.empty/\(0:Int)=0/\(0:Int)=0/\(0:Int)=0/\Value.string ByteArray.empty=Value.string ByteArray.empty/\(0:Int)=0/\(0:Int)=0/\Value.string ByteArray.empty=Value.string ByteArray.empty)/\∀ (i:D × Rd),aa ws i.snd.nx/\aj (amG ws) (amF P en ws dp) ws i.fst i.snd=rvA P en ws dp (mR nx pa er)/\i.fst.len+left ws i.snd<=1000001/\(rvX en ws (mR nx pa er)).nx<=i.snd.nx->aa ws i.snd.nx/\((pkK ws i.snd.nx==(1:Int))=true->aa ws i.snd.nx/\cB ws i.snd dp/\left ws i.snd<m/\0+(amS P en ws dp i.snd).b.len<=(amS P en ws dp i.snd).b.len/\i.fst.len=i.fst.len/\(i.fst.len+((Ec i).sub 0 1).len)*56<=140737488355328/\0+1<=(Ec i).len/\∃ (j:D × Rd),(aa ws j.snd.nx/\aj (amG ws) (amF P en ws dp) ws j.fst j.snd=rvA P en ws dp (mR nx pa er)/\j.fst.len+left ws j.snd<=1000001/\(rvX en ws (mR nx pa er)).nx<=j.snd.nx)/\left ws j.snd<left ws i.snd/\dp=dp/\ws.rows=ws.rows/\(amA P en ws dp i.snd).snd.nx=j.snd.nx/\en=en/\(amA P en ws dp i.snd).snd.pa=j.snd.pa/\(amA P en ws dp i.snd).snd.er=j.snd.er/\(5:Int)=5/\Value.string (nmS ws Ed)=Value.string (nmS ws Ed)/\Value.string ByteArray.empty=Value.string ByteArray.empty/\(0:Int)=0/\(0:Int)=0/\Value.string ByteArray.empty=Value.string ByteArray.empty/\(0:Int)=0/\(0:Int)=0/\(0:Int)=0/\Value.string ByteArray.empty=Value.string ByteArray.empty/\(0:Int)=0/\(0:Int)=0/\Value.string ByteArray.empty=Value.string ByteArray.empty/\i.fst.len+((Ec i).sub 0 1).len=j.fst.len/\i.fst.rows++List.drop 0 (List.take 1 [[D.s (amS P en ws dp i.snd).tg,D.s (amS P en ws dp i.snd).vr,(amS P en ws dp i.snd).b.sub 0 ((0:Nat)+(amS P en ws dp i.snd).b.len)]])=j.fst.rows/\(0:Int)=0/\Value.string ByteArray.empty=Value.string ByteArray.empty/\Value.string ByteArray.empty=Value.string ByteArray.empty/\(0:Int)=0/\(0:Int)=0/\Value.string ByteArray.empty=Value.string ByteArray.empty/\(0:Int)=0/\(0:Int)=0/\(0:Int)=0/\Value.string ByteArray.empty=Value.string ByteArray.empty/\(0:Int)=0/\(0:Int)=0/\Value.string ByteArray.empty=Value.string ByteArray.empty)/\((pkK ws i.snd.nx==(1:Int))=false->aa ws i.snd.nx/\0<cbB.size/\(5:Int)=Eb.k/\Value.string (nmS ws Ed)=Value.string Eb.nm/\Value.string ByteArray.empty=Value.string Eb.tg/\(0:Int)=Eb.e.k/\(0:Int)=Eb.e.n/\Value.string ByteArray.empty=Value.string Eb.e.s/\Eb.e.d.len=0/\(0:Int)=Eb.c.op/\(0:Int)=Eb.c.l.k/\(0:Int)=Eb.c.l.n/\Value.string ByteArray.empty=Value.string Eb.c.l.s/\Eb.c.l.d.len=0/\(0:Int)=Eb.c.r.k/\(0:Int)=Eb.c.r.n/\Value.string ByteArray.empty=Value.string Eb.c.r.s/\Eb.c.r.d.len=0/\Eb.b.len=0/\Eb.el.len=0/\i.fst.len=Eb.ar.len/\ws.rows=ws.rows/\(exR ws en cbB i.snd).nx=Ef.nx/\en=en/\(exR ws en cbB i.snd).pa=Ef.pa/\(exR ws en cbB i.snd).er=Ef.er/\([]:List (List D))=[]/\([]:List (List D))=[]/\([]:List (List D))=[]/\([]:List (List D))=[]/\([]:List (List D))=[]/\i.fst.rows=Eb.ar.rows)) (by kernel_rfl) ?_
  dsimp +instances only [ac]
  intro h hd hl hn;obtain ⟨a0,a1,a2,a3,a4,a5,a6,a7⟩:=pe (hPa en ws) (dp:=dp) (r:=mR nx pa er) h;have q1:=kK hd h hn (Int.lt_of_lt_of_le (gG en hn) a3);have q2:=q1.1;have q3:left ws (rvX en ws (mR nx pa er))<m:=by have:=q1.2;omega
  have b:=zc (hPa en ws) (dp:=dp) a2;have l0:=(bo b.1).2;refine ⟨h,by decide,a0,a1,by decide,a2,q2,q3,Nat.le_of_eq (Nat.zero_add _),(by show (0+1)*56<=140737488355328;decide),Nat.le_refl 1,⟨(.l [(amS P en ws dp (rvX en ws (mR nx pa er))).row],(amA P en ws dp (rvX en ws (mR nx pa er))).2),⟨b.1,rfl,(by show 1+left ws (amA P en ws dp (rvX en ws (mR nx pa er))).2<=1000001;omega),b.2⟩,?_⟩,?_⟩
  ·simp only[bu]
   (repeat' with_reducible constructor)<;>first |assumption |decide |rfl
  rintro q ⟨h1,h2,h3,h4⟩;have l1:=cv (ws:=ws) h4;refine ⟨h1,fun hc=>?_,fun hc=>?_⟩
  ·have hk:pkK ws q.2.nx=1:=eq_of_beq hc;have hg:amG ws q.2=true:=decide_eq_true hk;obtain ⟨u1,u2⟩:=(mJ (hPa en ws) dp).up q.2 h1 hg;have u3:=da u1 h1 u2;have hs:=cL (mJ (hPa en ws) dp) (d:=q.1) h1 hg;refine ⟨h1,o9 q2 h4,by omega,Nat.le_of_eq (Nat.zero_add _),rfl,(by show (q.1.len+1)*56<=140737488355328;omega),Nat.le_refl 1,(.l (q.1.rows++[(amS P en ws dp q.2).row]),(amA P en ws dp q.2).2),⟨u1,hs.trans h2,?_,Int.le_trans h4 (Int.le_of_lt u2)⟩,u3,?_⟩
   ·have u4:left ws (amA P en ws dp q.2).2<left ws q.2:=u3;show (D.l (q.1.rows++[(amS P en ws dp q.2).row])).len+left ws (amA P en ws dp q.2).2<=1000001;rw[bf];omega
   ·simp only[bu]
    (repeat' (with_reducible apply And.intro))<;>first |with_reducible rfl |exact True.intro |exact (bf _ _).symm |rfl
  ·have hk:pkK ws q.2.nx≠1:=ne_of_beq_false hc;have hg:amG ws q.2=false:=decide_eq_false hk;have h2:(q.1,q.2)=rvA P en ws dp (mR nx pa er):=(bv hg).symm.trans h2;simp only[rvS,rvR,<- h2]
   (repeat' with_reducible constructor)<;>first |assumption |decide |rfl
 ·trivial
end Go.Proofs.YtbhbjhejkamlnaaGreat.Sx.Z
