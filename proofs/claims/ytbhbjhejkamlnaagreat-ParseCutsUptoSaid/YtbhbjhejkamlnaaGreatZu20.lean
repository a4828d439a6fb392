import Derived.Test.YtbhbjhejkamlnaaGreatZu19
set_option linter.unusedVariables false
set_option linter.unusedSimpArgs false
namespace Go.Proofs.YtbhbjhejkamlnaaGreat.Sx
def famN (s:St) (sl:Slots) (ks:List Nat) (es:Heap) (hs:List Nat):St:={tm:=sl++keepS s.tm ks,hp:=es++keepH s.hp (hs.map (idOf s)),nx:=s.nx+1}
end Go.Proofs.YtbhbjhejkamlnaaGreat.Sx
namespace Go.Proofs.YtbhbjhejkamlnaaGreat.Sx.Z
open Go.RowKit
def asS (ws:D) (en:Int) (r:Rd):St:=⟨1,nmS ws r,ByteArray.empty,(asE ws en r).1,C00,.l [],.l [],.l []⟩
def snS (ws:D) (en:Int) (r:Rd):St:=⟨4,nmS ws (snN ws en r),nmS ws (snT ws en r),(snE ws en r).1,C00,.l [],.l [],.l []⟩
def atS (ws:D) (en:Int) (r:Rd):St:=⟨6,ByteArray.empty,ByteArray.empty,X00,atC ws en r,.l [],.l [],.l []⟩
def inS (ws:D) (en:Int) (r:Rd):St:=⟨7,nmS ws (exR ws en kwI r),ByteArray.empty,X00,C00,.l [],.l [],.l []⟩
def stF (P:PB) (en:Int) (ws:D) (dp:Int) (r:Rd):St × Rd:=
 if acB ws r.nx kwF=true then (cfS P en ws dp r,(cfB P en ws dp r).2)
 else if acB ws r.nx kwW=true then (lpS P en ws dp r,(lpA P en ws dp r).2)
 else if acB ws r.nx kwS=true then (snS ws en r,snR ws en r)
 else if acB ws r.nx kwR=true then (rvS P en ws dp r,rvR P en ws dp r)
 else if acB ws r.nx kwA=true then (atS ws en r,atR ws en r)
 else if acB ws r.nx kwI=true then (inS ws en r,inR ws en r)
 else (asS ws en r,asR ws en r)
def stH (P:PB) (en:Int) (ws:D) (dp:Int) (r:Rd):List D × Rd:=((stF P en ws dp r).1.row,(stF P en ws dp r).2)
def stG (ws:D) (r:Rd):Bool:=acB ws r.nx kwF ||acB ws r.nx kwW ||acB ws r.nx kwS ||acB ws r.nx kwR ||acB ws r.nx kwA ||acB ws r.nx kwI ||decide (pkK ws r.nx=1)
def smA (P:PB):PB:=fun en ws dp r=>seqA (stG ws) (stH P en ws dp) ws (.l []) r
theorem cf_up {P:PB} {ws:D} {en:Int} (hPa:∀ dp,PbOK ws (P en ws dp)) {dp:Int} {r:Rd} (h:rdOK ws r.nx):rdOK ws (cfB P en ws dp r).2.nx/\(exR ws en kwF r).nx<=(cfB P en ws dp r).2.nx:=by
 have a0:=(ex_up en (t:=kwF) h (by decide)).1
 obtain ⟨_,_,_,_,a5,a6⟩:=cd_up en a0;obtain ⟨b1,b2,b3,b4,b5⟩:=blF_up hPa (dp:=dp) a5;have c1:=ac_up (t:=kwL) b4 (by decide)
 obtain ⟨d3,d4,d5,d6,d7⟩:=blF_up hPa (dp:=dp) c1.1;unfold cfB;split
 ·exact ⟨d6,Int.le_trans a6 (Int.le_trans b5 (Int.le_trans c1.2 d7))⟩
 ·exact ⟨c1.1,Int.le_trans a6 (Int.le_trans b5 c1.2)⟩
theorem lp_up {P:PB} {ws:D} {en:Int} (hPa:∀ dp,PbOK ws (P en ws dp)) {dp:Int} {r:Rd} (h:rdOK ws r.nx):rdOK ws (lpA P en ws dp r).2.nx/\(exR ws en kwW r).nx<=(lpA P en ws dp r).2.nx:=by
 have a0:=(ex_up en (t:=kwW) h (by decide)).1
 obtain ⟨_,_,_,_,a5,a6⟩:=cd_up en a0;obtain ⟨b1,b2,b3,b4,b5⟩:=blF_up hPa (dp:=dp) a5;exact ⟨b4,Int.le_trans a6 b5⟩
theorem sn_up {ws:D} (en:Int) {r:Rd} (h:rdOK ws r.nx):rdOK ws (snR ws en r).nx/\(exR ws en kwS r).nx<=(snR ws en r).nx:=by
 have a1:=ex_up en (t:=kwS) h (by decide)
 have a2:=nm_up en a1.1;have a3:=ex_up en (t:=doB) a2.1 (by decide)
 have a4:=nm_up en a3.1;have a5:=ex_up en (t:=opB) a4.1 (by decide)
 have a6:=(smX_up en ws 0).up _ a5.1;have a7:=ex_up en (t:=clB) a6.2.1 (by decide)
 have a8:=ex_up en (t:=seB) a7.1 (by decide)
 exact ⟨a8.1,Int.le_trans a2.2 (Int.le_trans a3.2 (Int.le_trans a4.2 (Int.le_trans a5.2 (Int.le_trans a6.1 (Int.le_trans a7.2 a8.2)))))⟩
theorem at_up {ws:D} (en:Int) {r:Rd} (h:rdOK ws r.nx):rdOK ws (atR ws en r).nx/\(exR ws en kwA r).nx<=(atR ws en r).nx:=by
 have a1:=ex_up en (t:=kwA) h (by decide)
 obtain ⟨_,_,_,_,a5,a6⟩:=cd_up en a1.1;have a8:=ex_up en (t:=seB) a5 (by decide)
 exact ⟨a8.1,Int.le_trans a6 a8.2⟩
theorem in_up {ws:D} (en:Int) {r:Rd} (h:rdOK ws r.nx):rdOK ws (inR ws en r).nx/\(exR ws en kwI r).nx<=(inR ws en r).nx:=by
 have a1:=ex_up en (t:=kwI) h (by decide)
 have a2:=nm_up en a1.1;have a8:=ex_up en (t:=seB) a2.1 (by decide)
 exact ⟨a8.1,Int.le_trans a2.2 a8.2⟩
theorem as_up {ws:D} (en:Int) {r:Rd} (h:rdOK ws r.nx):rdOK ws (asR ws en r).nx/\(nmR ws en r).nx<=(asR ws en r).nx:=by
 have a2:=nm_up en h;have a3:=ex_up en (t:=eqB) a2.1 (by decide)
 have a6:=(smX_up en ws 0).up _ a3.1;have a8:=ex_up en (t:=seB) a6.2.1 (by decide)
 exact ⟨a8.1,Int.le_trans a3.2 (Int.le_trans a6.1 a8.2)⟩
theorem st_sq {P:PB} {ws:D} {en:Int} (hPa:∀ dp,PbOK ws (P en ws dp)) (dp:Int):SqOK ws (stG ws) (stH P en ws dp):=⟨fun r h hg=>by
 unfold stH stF
 by_cases k0:acB ws r.nx kwF=true
 ·simp only [if_pos k0];have u:rdOK ws ((cfB P en ws dp r).2).nx/\(exR ws en kwF r).nx<=((cfB P en ws dp r).2).nx:=cf_up hPa h;exact ⟨u.1,Int.lt_of_lt_of_le (ex_lt en (ac_lt (by decide) k0)) u.2⟩
 by_cases k1:acB ws r.nx kwW=true
 ·simp only [if_neg k0,if_pos k1];have u:rdOK ws ((lpA P en ws dp r).2).nx/\(exR ws en kwW r).nx<=((lpA P en ws dp r).2).nx:=lp_up hPa h;exact ⟨u.1,Int.lt_of_lt_of_le (ex_lt en (ac_lt (by decide) k1)) u.2⟩
 by_cases k2:acB ws r.nx kwS=true
 ·simp only [if_neg k0,if_neg k1,if_pos k2];have u:rdOK ws (snR ws en r).nx/\(exR ws en kwS r).nx<=(snR ws en r).nx:=sn_up en h;exact ⟨u.1,Int.lt_of_lt_of_le (ex_lt en (ac_lt (by decide) k2)) u.2⟩
 by_cases k3:acB ws r.nx kwR=true
 ·simp only [if_neg k0,if_neg k1,if_neg k2,if_pos k3];have u:rdOK ws (rvR P en ws dp r).nx/\(exR ws en kwR r).nx<=(rvR P en ws dp r).nx:=⟨(rv_up hPa h).2.2.2.2.2.2.1,Int.le_trans (rv_up hPa (dp:=dp) h).2.2.2.1 (rv_up hPa h).2.2.2.2.2.2.2⟩;exact ⟨u.1,Int.lt_of_lt_of_le (ex_lt en (ac_lt (by decide) k3)) u.2⟩
 by_cases k4:acB ws r.nx kwA=true
 ·simp only [if_neg k0,if_neg k1,if_neg k2,if_neg k3,if_pos k4];have u:rdOK ws (atR ws en r).nx/\(exR ws en kwA r).nx<=(atR ws en r).nx:=at_up en h;exact ⟨u.1,Int.lt_of_lt_of_le (ex_lt en (ac_lt (by decide) k4)) u.2⟩
 by_cases k5:acB ws r.nx kwI=true
 ·simp only [if_neg k0,if_neg k1,if_neg k2,if_neg k3,if_neg k4,if_pos k5];have u:rdOK ws (inR ws en r).nx/\(exR ws en kwI r).nx<=(inR ws en r).nx:=in_up en h;exact ⟨u.1,Int.lt_of_lt_of_le (ex_lt en (ac_lt (by decide) k5)) u.2⟩
 have hk:pkK ws r.nx=1:=by
  simpa [stG,k0,k1,k2,k3,k4,k5] using hg
 simp only [if_neg k0,if_neg k1,if_neg k2,if_neg k3,if_neg k4,if_neg k5];have u:=as_up en h;have e:(nmR ws en r).nx=r.nx+1:=by rw [show nmR ws en r=gx r from if_pos hk];rfl
 exact ⟨u.1,by omega⟩⟩
theorem smA_up {P:PB} (hPa:∀ en ws dp,PbOK ws (P en ws dp)) (en:Int) (ws:D) (dp:Int):PbOK ws (smA P en ws dp):=⟨fun r h=>by
 have:=seq_up (st_sq (hPa en ws) dp) (.l []) h;exact ⟨this.2,this.1⟩⟩
def p1x0 (P:PB) (en:Int) (ws:D) (dp:Int) (i:D × Rd):List D:=[D.i (cfS P en ws dp i.snd).k,D.s (cfS P en ws dp i.snd).nm,D.s (cfS P en ws dp i.snd).tg,D.i (cfS P en ws dp i.snd).e.k,D.i (cfS P en ws dp i.snd).e.n,D.s (cfS P en ws dp i.snd).e.s,(cfS P en ws dp i.snd).e.d.sub 0 ((0:Nat)+(cfS P en ws dp i.snd).e.d.len),D.i (cfS P en ws dp i.snd).c.op,D.i (cfS P en ws dp i.snd).c.l.k,D.i (cfS P en ws dp i.snd).c.l.n,D.s (cfS P en ws dp i.snd).c.l.s,(cfS P en ws dp i.snd).c.l.d.sub 0 ((0:Nat)+(cfS P en ws dp i.snd).c.l.d.len),D.i (cfS P en ws dp i.snd).c.r.k,D.i (cfS P en ws dp i.snd).c.r.n,D.s (cfS P en ws dp i.snd).c.r.s,(cfS P en ws dp i.snd).c.r.d.sub 0 ((0:Nat)+(cfS P en ws dp i.snd).c.r.d.len),(cfS P en ws dp i.snd).b.sub 0 ((0:Nat)+(cfS P en ws dp i.snd).b.len),(cfS P en ws dp i.snd).el.sub 0 ((0:Nat)+(cfS P en ws dp i.snd).el.len),(cfS P en ws dp i.snd).ar.sub 0 ((0:Nat)+(cfS P en ws dp i.snd).ar.len)]
def p1x1 (P:PB) (en:Int) (ws:D) (dp:Int) (i:D × Rd):List D:=[D.i (lpS P en ws dp i.snd).k,D.s (lpS P en ws dp i.snd).nm,D.s (lpS P en ws dp i.snd).tg,D.i (lpS P en ws dp i.snd).e.k,D.i (lpS P en ws dp i.snd).e.n,D.s (lpS P en ws dp i.snd).e.s,(lpS P en ws dp i.snd).e.d.sub 0 ((0:Nat)+(lpS P en ws dp i.snd).e.d.len),D.i (lpS P en ws dp i.snd).c.op,D.i (lpS P en ws dp i.snd).c.l.k,D.i (lpS P en ws dp i.snd).c.l.n,D.s (lpS P en ws dp i.snd).c.l.s,(lpS P en ws dp i.snd).c.l.d.sub 0 ((0:Nat)+(lpS P en ws dp i.snd).c.l.d.len),D.i (lpS P en ws dp i.snd).c.r.k,D.i (lpS P en ws dp i.snd).c.r.n,D.s (lpS P en ws dp i.snd).c.r.s,(lpS P en ws dp i.snd).c.r.d.sub 0 ((0:Nat)+(lpS P en ws dp i.snd).c.r.d.len),(lpS P en ws dp i.snd).b.sub 0 ((0:Nat)+(lpS P en ws dp i.snd).b.len),(lpS P en ws dp i.snd).el.sub 0 ((0:Nat)+(lpS P en ws dp i.snd).el.len),(lpS P en ws dp i.snd).ar.sub 0 ((0:Nat)+(lpS P en ws dp i.snd).ar.len)]
def p1x2 (P:PB) (en:Int) (ws:D) (dp:Int) (i:D × Rd):List D:=[D.i (rvS P en ws dp i.snd).k,D.s (rvS P en ws dp i.snd).nm,D.s (rvS P en ws dp i.snd).tg,D.i (rvS P en ws dp i.snd).e.k,D.i (rvS P en ws dp i.snd).e.n,D.s (rvS P en ws dp i.snd).e.s,(rvS P en ws dp i.snd).e.d.sub 0 ((0:Nat)+(rvS P en ws dp i.snd).e.d.len),D.i (rvS P en ws dp i.snd).c.op,D.i (rvS P en ws dp i.snd).c.l.k,D.i (rvS P en ws dp i.snd).c.l.n,D.s (rvS P en ws dp i.snd).c.l.s,(rvS P en ws dp i.snd).c.l.d.sub 0 ((0:Nat)+(rvS P en ws dp i.snd).c.l.d.len),D.i (rvS P en ws dp i.snd).c.r.k,D.i (rvS P en ws dp i.snd).c.r.n,D.s (rvS P en ws dp i.snd).c.r.s,(rvS P en ws dp i.snd).c.r.d.sub 0 ((0:Nat)+(rvS P en ws dp i.snd).c.r.d.len),(rvS P en ws dp i.snd).b.sub 0 ((0:Nat)+(rvS P en ws dp i.snd).b.len),(rvS P en ws dp i.snd).el.sub 0 ((0:Nat)+(rvS P en ws dp i.snd).el.len),(rvS P en ws dp i.snd).ar.sub 0 ((0:Nat)+(rvS P en ws dp i.snd).ar.len)]
def p1x3 (en:Int) (ws:D) (i:D × Rd):List D:=[D.i (6:Int),D.s ByteArray.empty,D.s ByteArray.empty,D.i (0:Int),D.i (0:Int),D.s ByteArray.empty,D.l [],D.i (atC ws en i.snd).op,D.i (atC ws en i.snd).l.k,D.i (atC ws en i.snd).l.n,D.s (atC ws en i.snd).l.s,(atC ws en i.snd).l.d.sub 0 ((0:Nat)+(atC ws en i.snd).l.d.len),D.i (atC ws en i.snd).r.k,D.i (atC ws en i.snd).r.n,D.s (atC ws en i.snd).r.s,(atC ws en i.snd).r.d.sub 0 ((0:Nat)+(atC ws en i.snd).r.d.len),D.l [],D.l [],D.l []]
def p1x4 (en:Int) (ws:D) (i:D × Rd):List D:=[D.i (4:Int),D.s (nmS ws (snN ws en i.snd)),D.s (nmS ws (snT ws en i.snd)),D.i (snE ws en i.snd).fst.k,D.i (snE ws en i.snd).fst.n,D.s (snE ws en i.snd).fst.s,(snE ws en i.snd).fst.d.sub 0 ((0:Nat)+(snE ws en i.snd).fst.d.len),D.i (0:Int),D.i (0:Int),D.i (0:Int),D.s ByteArray.empty,D.l [],D.i (0:Int),D.i (0:Int),D.s ByteArray.empty,D.l [],D.l [],D.l [],D.l []]
def p1x5 (en:Int) (ws:D) (i:D × Rd):List D:=[D.i (1:Int),D.s (nmS ws i.snd),D.s ByteArray.empty,D.i (asE ws en i.snd).fst.k,D.i (asE ws en i.snd).fst.n,D.s (asE ws en i.snd).fst.s,(asE ws en i.snd).fst.d.sub 0 ((0:Nat)+(asE ws en i.snd).fst.d.len),D.i (0:Int),D.i (0:Int),D.i (0:Int),D.s ByteArray.empty,D.l [],D.i (0:Int),D.i (0:Int),D.s ByteArray.empty,D.l [],D.l [],D.l [],D.l []]
def p1x6 (en:Int) (ws:D) (i:D × Rd):List D:=[D.i (7:Int),D.s (nmS ws (exR ws en kwI i.snd)),D.s ByteArray.empty,D.i (0:Int),D.i (0:Int),D.s ByteArray.empty,D.l [],D.i (0:Int),D.i (0:Int),D.i (0:Int),D.s ByteArray.empty,D.l [],D.i (0:Int),D.i (0:Int),D.s ByteArray.empty,D.l [],D.l [],D.l [],D.l []]
noncomputable def stnS (P:PB) (m:Nat):List Dat->Option (Eff × List Seg):=fun ds=>match ds with
 | [.d ws,.i nx,.i en,.i pa,.i er,.i dp]=>some ({val:=.one (.sc (.osl 80 (0) (.lit 0) (.sym ((smA P en ws dp (mR nx pa er)).1.len)))),vc:=[rdOK ws nx,dpOK ws (mR nx pa er) dp,left ws (mR nx pa er)<m+1],nw:=[(0,.orow 80 ((smA P en ws dp (mR nx pa er)).1))]},[.c (.rows 124 ws),.c (.int .i64 (.sym ((((smA P en ws dp (mR nx pa er)).2)).nx))),.c (.int .i64 (.sym en)),.c (.int .i64 (.sym ((((smA P en ws dp (mR nx pa er)).2)).pa))),.c (.int .i64 (.sym ((((smA P en ws dp (mR nx pa er)).2)).er)))])
 |_=>none
noncomputable def stnC (P:PB) (m:Nat):Con:=conM 85 [.c (.rows 124),.c (.int .i64),.c (.int .i64),.c (.int .i64),.c (.int .i64)] [.sc (.int .i64)] (stnS P m)
theorem stn_ok {P:PB} {m:Nat} (hP:ConOK Tryz.prog 81 (stmC P m)) (hPa:∀ en ws dp,PbOK ws (P en ws dp)):ConOK Tryz.prog 81 (stnC P m):=by
 refine fn_obM tt_ok mixed Tryz.func81 rfl (fun _ _=>by kernel_rfl) (A:=fun ds=>⟨fun _=>Cons.of [(88,(choC P m)),(89,(lopC P m)),(91,(rcvC P m)),(90,sndC),(92,assC),(93,inpC),(94,asgC),(76,pekC)],fun k=>match k,ds with | 2,[.d ws,.i nx,.i en,.i pa,.i er,.i dp]=>some {ι:=D × Rd,pre:=fun _ q=>rdOK ws q.2.nx/\(seqA (stG ws) (stH P en ws dp) ws q.1 q.2=smA P en ws dp (mR nx pa er))/\q.1.len+left ws q.2<=1000001/\nx<=q.2.nx,μ:=fun q=>left ws q.2,st:=fun s q=>famN s [(5,.one (.sc (.osl 80 (s.nx) (.lit 0) (.sym (q.1.len)))))] [0,1] [(0,.own 85 ([.c (.rows 124 ws),.c (.int .i64 (.sym ((q.2).nx))),.c (.int .i64 (.sym en)),.c (.int .i64 (.sym ((q.2).pa))),.c (.int .i64 (.sym ((q.2).er)))])),(s.nx,.orow 80 (q.1))] []} |_,_=>none,fun _=>none⟩) (fun _ _=>(cons_cons (cho_ok hP hPa) (cons_cons (lop_ok hP hPa) (cons_cons (rcv_ok hP hPa) (cons_cons snd_ok (cons_cons ass_ok (cons_cons inp_ok (cons_cons asg_ok (cons_cons pek_ok cons_nil))))))))) (by kernel_rfl) ?_
 intro ds;unfold stnS;split
 ·rename_i ws nx en pa er dp
  refine kmp (q:=rdOK ws nx->dpOK ws (mR nx pa er) dp->left ws (mR nx pa er)<m+1->(∃ (i:D × Rd),(rdOK ws i.snd.nx/\seqA (stG ws) (stH P en ws dp) ws i.fst i.snd=smA P en ws dp (mR nx pa er)/\i.fst.len+left ws i.snd<=1000001/\nx<=i.snd.nx)/\i.fst.len=0/\dp=dp/\ws.rows=ws.rows/\nx=i.snd.nx/\en=en/\pa=i.snd.pa/\er=i.snd.er/\i.fst.rows=[])/\∀ (i:D × Rd),rdOK ws i.snd.nx/\seqA (stG ws) (stH P en ws dp) ws i.fst i.snd=smA P en ws dp (mR nx pa er)/\i.fst.len+left ws i.snd<=1000001/\nx<=i.snd.nx->rdOK ws i.snd.nx/\(((pkS ws i.snd.nx).toList==kwF.toList)=true->rdOK ws i.snd.nx/\dpOK ws i.snd dp/\left ws i.snd<m+1/\i.snd.nx<(ws.len:Int)/\0+(cfS P en ws dp i.snd).e.d.len<=(cfS P en ws dp i.snd).e.d.len/\0+(cfS P en ws dp i.snd).c.l.d.len<=(cfS P en ws dp i.snd).c.l.d.len/\0+(cfS P en ws dp i.snd).c.r.d.len<=(cfS P en ws dp i.snd).c.r.d.len/\0+(cfS P en ws dp i.snd).b.len<=(cfS P en ws dp i.snd).b.len/\0+(cfS P en ws dp i.snd).el.len<=(cfS P en ws dp i.snd).el.len/\0+(cfS P en ws dp i.snd).ar.len<=(cfS P en ws dp i.snd).ar.len/\i.fst.len=i.fst.len/\(i.fst.len+((D.l [(p1x0 P en ws dp i)]).sub 0 1).len)*288<=140737488355328/\0+1<=(D.l [(p1x0 P en ws dp i)]).len/\∃ (j:D × Rd),(rdOK ws j.snd.nx/\seqA (stG ws) (stH P en ws dp) ws j.fst j.snd=smA P en ws dp (mR nx pa er)/\j.fst.len+left ws j.snd<=1000001/\nx<=j.snd.nx)/\left ws j.snd<left ws i.snd/\i.fst.len+((D.l [(p1x0 P en ws dp i)]).sub 0 1).len=j.fst.len/\dp=dp/\ws.rows=ws.rows/\(cfB P en ws dp i.snd).snd.nx=j.snd.nx/\en=en/\(cfB P en ws dp i.snd).snd.pa=j.snd.pa/\(cfB P en ws dp i.snd).snd.er=j.snd.er/\i.fst.rows++List.drop 0 (List.take 1 [(p1x0 P en ws dp i)])=j.fst.rows)/\(((pkS ws i.snd.nx).toList==kwF.toList)=false->(((pkS ws i.snd.nx).toList==kwW.toList)=true->rdOK ws i.snd.nx/\dpOK ws i.snd dp/\left ws i.snd<m+1/\i.snd.nx<(ws.len:Int)/\0+(lpS P en ws dp i.snd).e.d.len<=(lpS P en ws dp i.snd).e.d.len/\0+(lpS P en ws dp i.snd).c.l.d.len<=(lpS P en ws dp i.snd).c.l.d.len/\0+(lpS P en ws dp i.snd).c.r.d.len<=(lpS P en ws dp i.snd).c.r.d.len/\0+(lpS P en ws dp i.snd).b.len<=(lpS P en ws dp i.snd).b.len/\0+(lpS P en ws dp i.snd).el.len<=(lpS P en ws dp i.snd).el.len/\0+(lpS P en ws dp i.snd).ar.len<=(lpS P en ws dp i.snd).ar.len/\i.fst.len=i.fst.len/\(i.fst.len+((D.l [(p1x1 P en ws dp i)]).sub 0 1).len)*288<=140737488355328/\0+1<=(D.l [(p1x1 P en ws dp i)]).len/\∃ (j:D × Rd),(rdOK ws j.snd.nx/\seqA (stG ws) (stH P en ws dp) ws j.fst j.snd=smA P en ws dp (mR nx pa er)/\j.fst.len+left ws j.snd<=1000001/\nx<=j.snd.nx)/\left ws j.snd<left ws i.snd/\i.fst.len+((D.l [(p1x1 P en ws dp i)]).sub 0 1).len=j.fst.len/\dp=dp/\ws.rows=ws.rows/\(lpA P en ws dp i.snd).snd.nx=j.snd.nx/\en=en/\(lpA P en ws dp i.snd).snd.pa=j.snd.pa/\(lpA P en ws dp i.snd).snd.er=j.snd.er/\i.fst.rows++List.drop 0 (List.take 1 [(p1x1 P en ws dp i)])=j.fst.rows)/\(((pkS ws i.snd.nx).toList==kwW.toList)=false->(((pkS ws i.snd.nx).toList==kwS.toList)=true->rdOK ws i.snd.nx/\0+(snE ws en i.snd).fst.d.len<=(snE ws en i.snd).fst.d.len/\i.fst.len=i.fst.len/\(i.fst.len+((D.l [(p1x4 en ws i)]).sub 0 1).len)*288<=140737488355328/\0+1<=(D.l [(p1x4 en ws i)]).len/\∃ (j:D × Rd),(rdOK ws j.snd.nx/\seqA (stG ws) (stH P en ws dp) ws j.fst j.snd=smA P en ws dp (mR nx pa er)/\j.fst.len+left ws j.snd<=1000001/\nx<=j.snd.nx)/\left ws j.snd<left ws i.snd/\i.fst.len+((D.l [(p1x4 en ws i)]).sub 0 1).len=j.fst.len/\dp=dp/\ws.rows=ws.rows/\(snR ws en i.snd).nx=j.snd.nx/\en=en/\(snR ws en i.snd).pa=j.snd.pa/\(snR ws en i.snd).er=j.snd.er/\i.fst.rows++List.drop 0 (List.take 1 [(p1x4 en ws i)])=j.fst.rows)/\(((pkS ws i.snd.nx).toList==kwS.toList)=false->(((pkS ws i.snd.nx).toList==kwR.toList)=true->rdOK ws i.snd.nx/\dpOK ws i.snd dp/\left ws i.snd<m+1/\i.snd.nx<(ws.len:Int)/\0+(rvS P en ws dp i.snd).e.d.len<=(rvS P en ws dp i.snd).e.d.len/\0+(rvS P en ws dp i.snd).c.l.d.len<=(rvS P en ws dp i.snd).c.l.d.len/\0+(rvS P en ws dp i.snd).c.r.d.len<=(rvS P en ws dp i.snd).c.r.d.len/\0+(rvS P en ws dp i.snd).b.len<=(rvS P en ws dp i.snd).b.len/\0+(rvS P en ws dp i.snd).el.len<=(rvS P en ws dp i.snd).el.len/\0+(rvS P en ws dp i.snd).ar.len<=(rvS P en ws dp i.snd).ar.len/\i.fst.len=i.fst.len/\(i.fst.len+((D.l [(p1x2 P en ws dp i)]).sub 0 1).len)*288<=140737488355328/\0+1<=(D.l [(p1x2 P en ws dp i)]).len/\∃ (j:D × Rd),(rdOK ws j.snd.nx/\seqA (stG ws) (stH P en ws dp) ws j.fst j.snd=smA P en ws dp (mR nx pa er)/\j.fst.len+left ws j.snd<=1000001/\nx<=j.snd.nx)/\left ws j.snd<left ws i.snd/\i.fst.len+((D.l [(p1x2 P en ws dp i)]).sub 0 1).len=j.fst.len/\dp=dp/\ws.rows=ws.rows/\(rvR P en ws dp i.snd).nx=j.snd.nx/\en=en/\(rvR P en ws dp i.snd).pa=j.snd.pa/\(rvR P en ws dp i.snd).er=j.snd.er/\i.fst.rows++List.drop 0 (List.take 1 [(p1x2 P en ws dp i)])=j.fst.rows)/\(((pkS ws i.snd.nx).toList==kwR.toList)=false->(((pkS ws i.snd.nx).toList==kwA.toList)=true->rdOK ws i.snd.nx/\0+(atC ws en i.snd).l.d.len<=(atC ws en i.snd).l.d.len/\0+(atC ws en i.snd).r.d.len<=(atC ws en i.snd).r.d.len/\i.fst.len=i.fst.len/\(i.fst.len+((D.l [(p1x3 en ws i)]).sub 0 1).len)*288<=140737488355328/\0+1<=(D.l [(p1x3 en ws i)]).len/\∃ (j:D × Rd),(rdOK ws j.snd.nx/\seqA (stG ws) (stH P en ws dp) ws j.fst j.snd=smA P en ws dp (mR nx pa er)/\j.fst.len+left ws j.snd<=1000001/\nx<=j.snd.nx)/\left ws j.snd<left ws i.snd/\i.fst.len+((D.l [(p1x3 en ws i)]).sub 0 1).len=j.fst.len/\dp=dp/\ws.rows=ws.rows/\(atR ws en i.snd).nx=j.snd.nx/\en=en/\(atR ws en i.snd).pa=j.snd.pa/\(atR ws en i.snd).er=j.snd.er/\i.fst.rows++List.drop 0 (List.take 1 [(p1x3 en ws i)])=j.fst.rows)/\(((pkS ws i.snd.nx).toList==kwA.toList)=false->(((pkS ws i.snd.nx).toList==kwI.toList)=true->rdOK ws i.snd.nx/\i.fst.len=i.fst.len/\(i.fst.len+((D.l [(p1x6 en ws i)]).sub 0 1).len)*288<=140737488355328/\0+1<=(D.l [(p1x6 en ws i)]).len/\∃ (j:D × Rd),(rdOK ws j.snd.nx/\seqA (stG ws) (stH P en ws dp) ws j.fst j.snd=smA P en ws dp (mR nx pa er)/\j.fst.len+left ws j.snd<=1000001/\nx<=j.snd.nx)/\left ws j.snd<left ws i.snd/\i.fst.len+((D.l [(p1x6 en ws i)]).sub 0 1).len=j.fst.len/\dp=dp/\ws.rows=ws.rows/\(inR ws en i.snd).nx=j.snd.nx/\en=en/\(inR ws en i.snd).pa=j.snd.pa/\(inR ws en i.snd).er=j.snd.er/\i.fst.rows++List.drop 0 (List.take 1 [(p1x6 en ws i)])=j.fst.rows)/\(((pkS ws i.snd.nx).toList==kwI.toList)=false->rdOK ws i.snd.nx/\((pkK ws i.snd.nx != (1:Int))=true->i.fst.len=(smA P en ws dp (mR nx pa er)).fst.len/\ws.rows=ws.rows/\i.snd.nx=(smA P en ws dp (mR nx pa er)).snd.nx/\en=en/\i.snd.pa=(smA P en ws dp (mR nx pa er)).snd.pa/\i.snd.er=(smA P en ws dp (mR nx pa er)).snd.er/\i.fst.rows=(smA P en ws dp (mR nx pa er)).fst.rows)/\((pkK ws i.snd.nx != (1:Int))=false->rdOK ws i.snd.nx/\0+(asE ws en i.snd).fst.d.len<=(asE ws en i.snd).fst.d.len/\i.fst.len=i.fst.len/\(i.fst.len+((D.l [(p1x5 en ws i)]).sub 0 1).len)*288<=140737488355328/\0+1<=(D.l [(p1x5 en ws i)]).len/\∃ (j:D × Rd),(rdOK ws j.snd.nx/\seqA (stG ws) (stH P en ws dp) ws j.fst j.snd=smA P en ws dp (mR nx pa er)/\j.fst.len+left ws j.snd<=1000001/\nx<=j.snd.nx)/\left ws j.snd<left ws i.snd/\i.fst.len+((D.l [(p1x5 en ws i)]).sub 0 1).len=j.fst.len/\dp=dp/\ws.rows=ws.rows/\(asR ws en i.snd).nx=j.snd.nx/\en=en/\(asR ws en i.snd).pa=j.snd.pa/\(asR ws en i.snd).er=j.snd.er/\i.fst.rows++List.drop 0 (List.take 1 [(p1x5 en ws i)])=j.fst.rows)))))))) (by kernel_rfl) ?_
  intro h hd hl;refine ⟨⟨(.l [],mR nx pa er),⟨h,rfl,(by show 0+left ws (mR nx pa er)<=1000001;have:=(lf_lt (r:=mR nx pa er) h).2;omega),Int.le_refl _⟩,(by (repeat' (with_reducible apply And.intro))<;>first |with_reducible rfl |exact True.intro |with_reducible assumption |decide |assumption |rfl)⟩,?_⟩
  rintro q ⟨h1,h2,h3,h4⟩;have l1:=left_le (ws:=ws) (r:=mR nx pa er) (q:=q.2) h4;have hd2:dpOK ws q.2 dp:=⟨hd.1,by have:=hd.2;omega⟩
  have lm:left ws q.2<m+1:=Nat.lt_of_le_of_lt l1 hl;have z:∀ n:Nat,0+n<=n:=fun n=>Nat.le_of_eq (Nat.zero_add n)
  have zb:(q.1.len+1)*288<=140737488355328:=by omega
  have fin:∀ (x:St) (r':Rd),stF P en ws dp q.2=(x,r')->stG ws q.2=true->(rdOK ws r'.nx/\seqA (stG ws) (stH P en ws dp) ws (.l (q.1.rows++[x.row])) r'=smA P en ws dp (mR nx pa er)/\(D.l (q.1.rows++[x.row])).len+left ws r'<=1000001/\nx<=r'.nx)/\left ws r'<left ws q.2:=by
   intro x r' e hg;obtain ⟨u1,u2⟩:=(st_sq (hPa en ws) dp).up q.2 h1 hg;have hs:=seq_step (st_sq (hPa en ws) dp) (d:=q.1) h1 hg;have e2:stH P en ws dp q.2=(x.row,r'):=by unfold stH;rw [e]
   rw [e2] at u1 u2 hs;have u3:=lt_left u1 h1 u2;exact ⟨⟨u1,hs.trans h2,(by rw [ap_len];have u4:left ws r'<left ws q.2:=u3;omega),Int.le_trans h4 (Int.le_of_lt u2)⟩,u3⟩
  refine ⟨h1,fun k0=>?_,fun k0=>?_⟩
  ·have k0:acB ws q.2.nx kwF=true:=k0;have hF:stF P en ws dp q.2=(cfS P en ws dp q.2,(cfB P en ws dp q.2).2):=if_pos k0;obtain ⟨f1,f2⟩:=fin _ _ hF (by simp only [stG,k0,Bool.true_or,Bool.or_true])
   refine ⟨h1,hd2,lm,ac_lt (by decide) k0,z _,z _,z _,z _,z _,z _,rfl,zb,Nat.le_refl 1,(.l (q.1.rows++[St.row (cfS P en ws dp q.2)]),(cfB P en ws dp q.2).2),f1,f2,?_⟩
   simp only [p1x0,p1x1,p1x2,p1x3,p1x4,p1x5,p1x6,subAll]
   (repeat' (with_reducible apply And.intro))<;>first |with_reducible rfl |exact True.intro |exact (ap_len _ _).symm |rfl
  have n0:¬ acB ws q.2.nx kwF=true:=by rw [show acB ws q.2.nx kwF=false from k0];decide
  refine ⟨fun k1=>?_,fun k1=>?_⟩
  ·have k1:acB ws q.2.nx kwW=true:=k1;have hF:stF P en ws dp q.2=(lpS P en ws dp q.2,(lpA P en ws dp q.2).2):=(if_neg n0).trans (if_pos k1);obtain ⟨f1,f2⟩:=fin _ _ hF (by simp only [stG,k1,Bool.true_or,Bool.or_true])
   refine ⟨h1,hd2,lm,ac_lt (by decide) k1,z _,z _,z _,z _,z _,z _,rfl,zb,Nat.le_refl 1,(.l (q.1.rows++[St.row (lpS P en ws dp q.2)]),(lpA P en ws dp q.2).2),f1,f2,?_⟩
   simp only [p1x0,p1x1,p1x2,p1x3,p1x4,p1x5,p1x6,subAll]
   (repeat' (with_reducible apply And.intro))<;>first |with_reducible rfl |exact True.intro |exact (ap_len _ _).symm |rfl
  have n1:¬ acB ws q.2.nx kwW=true:=by rw [show acB ws q.2.nx kwW=false from k1];decide
  refine ⟨fun k2=>?_,fun k2=>?_⟩
  ·have k2:acB ws q.2.nx kwS=true:=k2;have hF:stF P en ws dp q.2=(snS ws en q.2,snR ws en q.2):=(if_neg n0).trans ((if_neg n1).trans (if_pos k2));obtain ⟨f1,f2⟩:=fin _ _ hF (by simp only [stG,k2,Bool.true_or,Bool.or_true])
   refine ⟨h1,z _,rfl,zb,Nat.le_refl 1,(.l (q.1.rows++[St.row (snS ws en q.2)]),snR ws en q.2),f1,f2,?_⟩;simp only [p1x0,p1x1,p1x2,p1x3,p1x4,p1x5,p1x6,subAll]
   (repeat' (with_reducible apply And.intro))<;>first |with_reducible rfl |exact True.intro |exact (ap_len _ _).symm |rfl
  have n2:¬ acB ws q.2.nx kwS=true:=by rw [show acB ws q.2.nx kwS=false from k2];decide
  refine ⟨fun k3=>?_,fun k3=>?_⟩
  ·have k3:acB ws q.2.nx kwR=true:=k3;have hF:stF P en ws dp q.2=(rvS P en ws dp q.2,rvR P en ws dp q.2):=(if_neg n0).trans ((if_neg n1).trans ((if_neg n2).trans (if_pos k3)));obtain ⟨f1,f2⟩:=fin _ _ hF (by simp only [stG,k3,Bool.true_or,Bool.or_true])
   refine ⟨h1,hd2,lm,ac_lt (by decide) k3,z _,z _,z _,z _,z _,z _,rfl,zb,Nat.le_refl 1,(.l (q.1.rows++[St.row (rvS P en ws dp q.2)]),rvR P en ws dp q.2),f1,f2,?_⟩
   simp only [p1x0,p1x1,p1x2,p1x3,p1x4,p1x5,p1x6,subAll]
   (repeat' (with_reducible apply And.intro))<;>first |with_reducible rfl |exact True.intro |exact (ap_len _ _).symm |rfl
  have n3:¬ acB ws q.2.nx kwR=true:=by rw [show acB ws q.2.nx kwR=false from k3];decide
  refine ⟨fun k4=>?_,fun k4=>?_⟩
  ·have k4:acB ws q.2.nx kwA=true:=k4;have hF:stF P en ws dp q.2=(atS ws en q.2,atR ws en q.2):=(if_neg n0).trans ((if_neg n1).trans ((if_neg n2).trans ((if_neg n3).trans (if_pos k4))));obtain ⟨f1,f2⟩:=fin _ _ hF (by simp only [stG,k4,Bool.true_or,Bool.or_true])
   refine ⟨h1,z _,z _,rfl,zb,Nat.le_refl 1,(.l (q.1.rows++[St.row (atS ws en q.2)]),atR ws en q.2),f1,f2,?_⟩;simp only [p1x0,p1x1,p1x2,p1x3,p1x4,p1x5,p1x6,subAll]
   (repeat' (with_reducible apply And.intro))<;>first |with_reducible rfl |exact True.intro |exact (ap_len _ _).symm |rfl
  have n4:¬ acB ws q.2.nx kwA=true:=by rw [show acB ws q.2.nx kwA=false from k4];decide
  refine ⟨fun k5=>?_,fun k5=>?_⟩
  ·have k5:acB ws q.2.nx kwI=true:=k5;have hF:stF P en ws dp q.2=(inS ws en q.2,inR ws en q.2):=(if_neg n0).trans ((if_neg n1).trans ((if_neg n2).trans ((if_neg n3).trans ((if_neg n4).trans (if_pos k5)))));obtain ⟨f1,f2⟩:=fin _ _ hF (by simp only [stG,k5,Bool.true_or,Bool.or_true])
   refine ⟨h1,rfl,zb,Nat.le_refl 1,(.l (q.1.rows++[St.row (inS ws en q.2)]),inR ws en q.2),f1,f2,?_⟩;simp only [p1x0,p1x1,p1x2,p1x3,p1x4,p1x5,p1x6,subAll]
   (repeat' (with_reducible apply And.intro))<;>first |with_reducible rfl |exact True.intro |exact (ap_len _ _).symm |rfl
  have n5:¬ acB ws q.2.nx kwI=true:=by rw [show acB ws q.2.nx kwI=false from k5];decide
  refine ⟨h1,fun hc=>?_,fun hc=>?_⟩
  ·have hk:pkK ws q.2.nx≠1:=by simpa using hc
   have hg:stG ws q.2=false:=by simp only [stG,Bool.eq_false_iff.2 n0,Bool.eq_false_iff.2 n1,Bool.eq_false_iff.2 n2,Bool.eq_false_iff.2 n3,Bool.eq_false_iff.2 n4,Bool.eq_false_iff.2 n5,decide_eq_false hk,Bool.or_false]
   have h2:(q.1,q.2)=smA P en ws dp (mR nx pa er):=(seq_end hg).symm.trans h2;rw [<- h2]
   (repeat' (with_reducible apply And.intro))<;>first |with_reducible rfl |exact True.intro |with_reducible assumption |decide |assumption |rfl
  ·have hk:pkK ws q.2.nx=1:=by simpa using hc
   have hF:stF P en ws dp q.2=(asS ws en q.2,asR ws en q.2):=(if_neg n0).trans ((if_neg n1).trans ((if_neg n2).trans ((if_neg n3).trans ((if_neg n4).trans (if_neg n5)))));obtain ⟨f1,f2⟩:=fin _ _ hF (by simp only [stG,decide_eq_true hk,Bool.or_true])
   refine ⟨h1,z _,rfl,zb,Nat.le_refl 1,(.l (q.1.rows++[St.row (asS ws en q.2)]),asR ws en q.2),f1,f2,?_⟩;simp only [p1x0,p1x1,p1x2,p1x3,p1x4,p1x5,p1x6,subAll]
   (repeat' (with_reducible apply And.intro))<;>first |with_reducible rfl |exact True.intro |exact (ap_len _ _).symm |rfl
 ·trivial
end Go.Proofs.YtbhbjhejkamlnaaGreat.Sx.Z
namespace Go.Proofs.YtbhbjhejkamlnaaGreat.Sx.Z
open Go.RowKit
def stR:Nat->PB
 | 0=>fun _ _ _ r=>(.l [],r)
 |m+1=>smA (stR m)
theorem stR_up:∀ (m:Nat) (en:Int) (ws:D) (dp:Int),PbOK ws (stR m en ws dp)
 | 0,_,_,_=>⟨fun _ h=>⟨Int.le_refl _,h⟩⟩
 |m+1,en,ws,dp=>smA_up (stR_up m) en ws dp
theorem stm_zero {F:PB}:ConOK Tryz.prog 81 (stmC F 0):=by
 refine ⟨fun _ _=>by kernel_rfl,fun hp fr args e he hv=>?_,fun hp fr caps e h=>by cases h⟩
 exfalso;obtain ⟨ds,e1,sg,ps1,ps2,hs,hvc,_⟩:=conM_in he;rw [hvc] at hv;obtain ⟨_,hv⟩:=all_append.1 hv;obtain ⟨_,hv⟩:=all_append.1 hv;unfold stmS at hs
 split at hs
 ·simp only [Option.some.injEq,Prod.mk.injEq] at hs;obtain ⟨rfl,rfl⟩:=hs;exact Nat.not_lt_zero _ hv.2.2.1
 ·cases hs
theorem stm_all:∀ m,ConOK Tryz.prog 81 (stmC (stR m) m)
 | 0=>stm_zero
 |m+1=>stn_ok (P:=stR m) (m:=m) (stm_all m) (stR_up m)
def stX:PB:=stR 1000001
theorem stX_ok:ConOK Tryz.prog 81 (stmC stX 1000001):=stm_all 1000001
theorem stX_up (en:Int) (ws:D) (dp:Int):PbOK ws (stX en ws dp):=stR_up 1000001 en ws dp
attribute [irreducible] stX
def kwC:ByteArray:=⟨#[99,104,97,110]⟩
def kwU:ByteArray:=⟨#[114,117,108,101]⟩
def kwP:ByteArray:=⟨#[112,114,111,99]⟩
def kwV:ByteArray:=⟨#[118,97,114]⟩
def coB:ByteArray:=⟨#[44]⟩
def kwO:ByteArray:=⟨#[102,114,111,109]⟩
def kwT:ByteArray:=⟨#[116,111]⟩
def kwB:ByteArray:=⟨#[98,108,111,99,107]⟩
def kwD:ByteArray:=⟨#[100,114,111,112]⟩
def kwY:ByteArray:=⟨#[108,111,115,115,121]⟩
def acG (t:ByteArray) (ws:D) (r:Rd):Bool:=acB ws r.nx t
theorem ac_lt2 {ws:D} {t:ByteArray} {r:Rd} (ha:acB ws r.nx t=true):r.nx<(acR ws t r).nx:=by
 rw [acR_yes ha];exact Int.lt_succ _
def ckK (ws:D) (r:Rd):Int:=if acB ws r.nx kwB=true then 0 else if acB ws (acR ws kwB r).nx kwD=true then 1 else 2
def ckR (ws:D) (en:Int) (r:Rd):Rd:=if acB ws r.nx kwB=true then acR ws kwB r else if acB ws (acR ws kwB r).nx kwD=true then acR ws kwD (acR ws kwB r) else exR ws en kwY (acR ws kwD (acR ws kwB r))
theorem ck_up {ws:D} (en:Int) {r:Rd} (h:rdOK ws r.nx):rdOK ws (acR ws kwB r).nx/\rdOK ws (acR ws kwD (acR ws kwB r)).nx/\rdOK ws (ckR ws en r).nx/\r.nx<=(ckR ws en r).nx:=by
 have a:=ac_up (t:=kwB) h (by decide)
 have b:=ac_up (t:=kwD) a.1 (by decide)
 have c:=ex_up en (t:=kwY) b.1 (by decide)
 refine ⟨a.1,b.1,?_⟩;unfold ckR;split
 ·exact a
 ·split
  ·exact ⟨b.1,Int.le_trans a.2 b.2⟩
  ·exact ⟨c.1,Int.le_trans a.2 (Int.le_trans b.2 c.2)⟩
structure Ch where
 nm:ByteArray
 k:Int
 n:Int
 fr:ByteArray
 to:ByteArray
 tg:D
def Ch.row (c:Ch):List D:=[.s c.nm,.i c.k,.i c.n,.s c.fr,.s c.to,.l c.tg.rows]
def chA1 (ws:D) (en:Int) (r:Rd):Rd:=ckR ws en (nmR ws en r)
def chA2 (ws:D) (en:Int) (r:Rd):Rd:=exR ws en kwO (nuR ws en (chA1 ws en r))
def chA3 (ws:D) (en:Int) (r:Rd):Rd:=exR ws en kwT (nmR ws en (chA2 ws en r))
def chA4 (ws:D) (en:Int) (r:Rd):Rd:=exR ws en obB (nmR ws en (chA3 ws en r))
def tgF (ws:D) (en:Int) (r:Rd):List D × Rd:=([.s (nmS ws (acR ws coB r))],nmR ws en (acR ws coB r))
def chT (ws:D) (en:Int) (r:Rd):D × Rd:=seqA (acG coB ws) (tgF ws en) ws (.l [[.s (nmS ws (chA4 ws en r))]]) (nmR ws en (chA4 ws en r))
def chZ (ws:D) (en:Int) (r:Rd):Ch:=⟨nmS ws r,ckK ws (nmR ws en r),nuN ws (chA1 ws en r),nmS ws (chA2 ws en r),nmS ws (chA3 ws en r),(chT ws en r).1⟩
def chR (ws:D) (en:Int) (r:Rd):Rd:=exR ws en seB (exR ws en cbB (chT ws en r).2)
theorem tg_sq {ws:D} (en:Int):SqOK ws (acG coB ws) (tgF ws en):=⟨fun r h hg=>by
 have a:=ac_up (t:=coB) h (by decide)
 have b:=nm_up en a.1;exact ⟨b.1,Int.lt_of_lt_of_le (ac_lt2 hg) b.2⟩⟩
theorem ch_up {ws:D} (en:Int) {r:Rd} (h:rdOK ws r.nx):(rdOK ws (nmR ws en r).nx/\rdOK ws (chA1 ws en r).nx/\rdOK ws (nuR ws en (chA1 ws en r)).nx/\rdOK ws (chA2 ws en r).nx/\rdOK ws (nmR ws en (chA2 ws en r)).nx/\rdOK ws (chA3 ws en r).nx/\rdOK ws (nmR ws en (chA3 ws en r)).nx/\rdOK ws (chA4 ws en r).nx/\rdOK ws (nmR ws en (chA4 ws en r)).nx)/\rdOK ws (chT ws en r).2.nx/\rdOK ws (exR ws en cbB (chT ws en r).2).nx/\rdOK ws (chR ws en r).nx/\r.nx<=(chR ws en r).nx:=by
 have a:=nm_up en h;have b:=(ck_up en a.1).2.2;have c:=nu_up en b.1;have d:=ex_up en (t:=kwO) c.1 (by decide)
 have e:=nm_up en d.1;have f:=ex_up en (t:=kwT) e.1 (by decide)
 have g:=nm_up en f.1;have i:=ex_up en (t:=obB) g.1 (by decide)
 have j:=nm_up en i.1;have k:=seq_up (tg_sq en) (.l [[.s (nmS ws (chA4 ws en r))]]) j.1;have l:=ex_up en (t:=cbB) k.1 (by decide)
 have m:=ex_up en (t:=seB) l.1 (by decide)
 exact ⟨⟨a.1,b.1,c.1,d.1,e.1,f.1,g.1,i.1,j.1⟩,k.1,l.1,m.1,Int.le_trans a.2 (Int.le_trans b.2 (Int.le_trans c.2 (Int.le_trans d.2 (Int.le_trans e.2 (Int.le_trans f.2 (Int.le_trans g.2 (Int.le_trans i.2 (Int.le_trans j.2 (Int.le_trans k.2 (Int.le_trans l.2 m.2))))))))))⟩
noncomputable def chkS:List Dat->Option (Eff × List Seg):=fun ds=>match ds with
 | [.d ws,.i nx,.i en,.i pa,.i er]=>some ({val:=.one (.sc (.int .i64 (.sym (ckK ws (mR nx pa er))))),vc:=[rdOK ws nx]},[.c (.rows 124 ws),.c (.int .i64 (.sym ((ckR ws en (mR nx pa er)).nx))),.c (.int .i64 (.sym en)),.c (.int .i64 (.sym ((ckR ws en (mR nx pa er)).pa))),.c (.int .i64 (.sym ((ckR ws en (mR nx pa er)).er)))])
 |_=>none
noncomputable def chkC:Con:=conM 85 [.c (.rows 124),.c (.int .i64),.c (.int .i64),.c (.int .i64),.c (.int .i64)] [] chkS
theorem chk_ok:ConOK Tryz.prog 78 chkC:=by
 refine fn_obM tt_ok mixed Tryz.func78 rfl (fun _ _=>by kernel_rfl) (A:=fun ds=>⟨fun _=>Cons.of [(45,accC),(80,expC)],fun _=>none,fun _=>none⟩) (fun _ _=>(cons_cons acc_ok (cons_cons exp_ok cons_nil))) (by kernel_rfl) ?_
 intro ds;unfold chkS;split
 ·rename_i ws nx en pa er;refine kmp (q:=withv (acR ws kwB (mR nx pa er)) fun E78=>withv (ckR ws en (mR nx pa er)) fun E79=>withv (exR ws en kwY (acR ws kwD E78)) fun E80=>rdOK ws nx->rdOK ws nx/\0<kwB.size/\(acB ws nx kwB=true->(0:Int)=ckK ws (mR nx pa er)/\ws.rows=ws.rows/\E78.nx=E79.nx/\en=en/\E78.pa=E79.pa/\E78.er=E79.er)/\(acB ws nx kwB=false->rdOK ws E78.nx/\0<kwD.size/\(acB ws E78.nx kwD=true->(1:Int)=ckK ws (mR nx pa er)/\ws.rows=ws.rows/\(acR ws kwD E78).nx=E79.nx/\en=en/\(acR ws kwD E78).pa=E79.pa/\(acR ws kwD E78).er=E79.er)/\(acB ws E78.nx kwD=false->rdOK ws (acR ws kwD E78).nx/\0<kwY.size/\(2:Int)=ckK ws (mR nx pa er)/\ws.rows=ws.rows/\E80.nx=E79.nx/\en=en/\E80.pa=E79.pa/\E80.er=E79.er))) (by kernel_rfl) ?_
  dsimp +instances only [withv]
  intro h;obtain ⟨a,b,c,d⟩:=ck_up en (r:=mR nx pa er) h;refine ⟨h,by decide,fun hc=>?_,fun hc=>?_⟩
  ·have hc:acB ws (mR nx pa er).nx kwB=true:=hc;simp only [ckR,ckK,if_pos hc]
   (repeat' (with_reducible apply And.intro))<;>first |with_reducible rfl |exact True.intro |with_reducible assumption |decide |assumption |rfl
  ·have hc:¬ acB ws (mR nx pa er).nx kwB=true:=by rw [show acB ws (mR nx pa er).nx kwB=false from hc];decide
   refine ⟨a,by decide,fun hd=>?_,fun hd=>?_⟩
   ·have hd:acB ws (acR ws kwB (mR nx pa er)).nx kwD=true:=hd;simp only [ckR,ckK,if_neg hc,if_pos hd]
    (repeat' (with_reducible apply And.intro))<;>first |with_reducible rfl |exact True.intro |with_reducible assumption |decide |assumption |rfl
   ·have hd:¬ acB ws (acR ws kwB (mR nx pa er)).nx kwD=true:=by rw [show acB ws (acR ws kwB (mR nx pa er)).nx kwD=false from hd];decide
    simp only [ckR,ckK,if_neg hc,if_neg hd]
    (repeat' (with_reducible apply And.intro))<;>first |with_reducible rfl |exact True.intro |with_reducible assumption |decide |assumption |rfl
 ·trivial
noncomputable def chnS:List Dat->Option (Eff × List Seg):=fun ds=>match ds with
 | [.d ws,.i nx,.i en,.i pa,.i er]=>some ({val:=.one (.agg [.c (.raw (.string ((chZ ws en (mR nx pa er)).nm))),.c (.int .i64 (.sym ((chZ ws en (mR nx pa er)).k))),.c (.int .i64 (.sym ((chZ ws en (mR nx pa er)).n))),.c (.raw (.string ((chZ ws en (mR nx pa er)).fr))),.c (.raw (.string ((chZ ws en (mR nx pa er)).to))),.c (.osl 9 0 (.lit 0) (.sym ((chZ ws en (mR nx pa er)).tg.len)))]),vc:=[rdOK ws nx],nw:=[(0,.orow 9 ((chZ ws en (mR nx pa er)).tg))]},[.c (.rows 124 ws),.c (.int .i64 (.sym ((chR ws en (mR nx pa er)).nx))),.c (.int .i64 (.sym en)),.c (.int .i64 (.sym ((chR ws en (mR nx pa er)).pa))),.c (.int .i64 (.sym ((chR ws en (mR nx pa er)).er)))])
 |_=>none
noncomputable def chnC:Con:=conM 85 [.c (.rows 124),.c (.int .i64),.c (.int .i64),.c (.int .i64),.c (.int .i64)] [] chnS
theorem chn_ok:ConOK Tryz.prog 46 chnC:=by
 refine fn_obM tt_ok mixed Tryz.func46 rfl (fun _ _=>by kernel_rfl) (A:=fun ds=>⟨fun _=>Cons.of [(77,namC),(78,chkC),(79,numC),(80,expC),(45,accC)],fun k=>match k,ds with | 8,[.d ws,.i nx,.i en,.i pa,.i er]=>some {ι:=D × Rd,pre:=fun _ q=>rdOK ws q.2.nx/\(seqA (acG coB ws) (tgF ws en) ws q.1 q.2=chT ws en (mR nx pa er))/\q.1.len+left ws q.2<=1000001,μ:=fun q=>left ws q.2,st:=fun s q=>famR s [] [0,2,3] [(0,.own 85 ([.c (.rows 124 ws),.c (.int .i64 (.sym ((q.2).nx))),.c (.int .i64 (.sym en)),.c (.int .i64 (.sym ((q.2).pa))),.c (.int .i64 (.sym ((q.2).er)))])),(idOf s 3,.own 101 ([.c (.raw (.string ((chZ ws en (mR nx pa er)).nm))),.c (.int .i64 (.sym ((chZ ws en (mR nx pa er)).k))),.c (.int .i64 (.sym ((chZ ws en (mR nx pa er)).n))),.c (.raw (.string ((chZ ws en (mR nx pa er)).fr))),.c (.raw (.string ((chZ ws en (mR nx pa er)).to))),.c (.osl 9 (cellIdP s 3 5) (.lit 0) (.sym (q.1.len)))])),(cellIdP s 3 5,.orow 9 (q.1))] [2]} |_,_=>none,fun _=>none⟩) (fun _ _=>(cons_cons nam_ok (cons_cons chk_ok (cons_cons num_ok (cons_cons exp_ok (cons_cons acc_ok cons_nil)))))) (by kernel_rfl) ?_
 intro ds;unfold chnS;split
 ·rename_i ws nx en pa er
  refine kmp (q:=withv (exR ws en kwT (nmR ws en (exR ws en kwO (nuR ws en (ckR ws en (nmR ws en (mR nx pa er))))))) fun E81=>withv (chZ ws en (mR nx pa er)) fun E82=>withv (ckR ws en (nmR ws en (mR nx pa er))) fun E83=>withv (exR ws en obB (nmR ws en E81)) fun E84=>withv (fun (i:D × Rd)=>exR ws en seB (exR ws en cbB (acR ws coB i.snd))) fun E85=>withv (exR ws en kwO (nuR ws en E83)) fun E86=>withv (fun (i:D × Rd)=>D.l [[D.s (nmS ws (acR ws coB i.snd))]]) fun E87=>rdOK ws nx->rdOK ws nx/\rdOK ws (nmR ws en (mR nx pa er)).nx/\rdOK ws E83.nx/\rdOK ws (nuR ws en E83).nx/\0<kwO.size/\rdOK ws E86.nx/\rdOK ws (nmR ws en E86).nx/\0<kwT.size/\rdOK ws E81.nx/\rdOK ws (nmR ws en E81).nx/\0<obB.size/\rdOK ws E84.nx/\((0:Nat)+((D.l [[D.s (nmS ws E84)]]).sub 0 1).len)*16<=140737488355328/\0+1<=(D.l [[D.s (nmS ws E84)]]).len/\(∃ (i:D × Rd),(rdOK ws i.snd.nx/\seqA (acG coB ws) (tgF ws en) ws i.fst i.snd=chT ws en (mR nx pa er)/\i.fst.len+left ws i.snd<=(1000001:Nat))/\ws.rows=ws.rows/\(nmR ws en E84).nx=i.snd.nx/\en=en/\(nmR ws en E84).pa=i.snd.pa/\(nmR ws en E84).er=i.snd.er/\Value.string (nmS ws (mR nx pa er))=Value.string E82.nm/\ckK ws (nmR ws en (mR nx pa er))=E82.k/\nuN ws E83=E82.n/\Value.string (nmS ws E86)=Value.string E82.fr/\Value.string (nmS ws E81)=Value.string E82.to/\1=i.fst.len /\ []++List.drop 0 (List.take 1 [[D.s (nmS ws E84)]])=i.fst.rows/\Value.string ByteArray.empty=Value.string ByteArray.empty/\(0:Int)=(0:Int)/\(0:Int)=(0:Int)/\Value.string ByteArray.empty=Value.string ByteArray.empty/\Value.string ByteArray.empty=Value.string ByteArray.empty)/\∀ (i:D × Rd),rdOK ws i.snd.nx/\seqA (acG coB ws) (tgF ws en) ws i.fst i.snd=chT ws en (mR nx pa er)/\i.fst.len+left ws i.snd<=1000001->rdOK ws i.snd.nx/\0<coB.size/\(acB ws i.snd.nx coB=true->rdOK ws (acR ws coB i.snd).nx/\i.fst.len=i.fst.len/\(i.fst.len+((E87 i).sub 0 1).len)*16<=140737488355328/\0+1<=(E87 i).len/\∃ (j:D × Rd),(rdOK ws j.snd.nx/\seqA (acG coB ws) (tgF ws en) ws j.fst j.snd=chT ws en (mR nx pa er)/\j.fst.len+left ws j.snd<=(1000001:Nat))/\left ws j.snd<left ws i.snd/\ws.rows=ws.rows/\(nmR ws en (acR ws coB i.snd)).nx=j.snd.nx/\en=en/\(nmR ws en (acR ws coB i.snd)).pa=j.snd.pa/\(nmR ws en (acR ws coB i.snd)).er=j.snd.er/\Value.string E82.nm=Value.string E82.nm/\E82.k=E82.k/\E82.n=E82.n/\Value.string E82.fr=Value.string E82.fr/\Value.string E82.to=Value.string E82.to/\i.fst.len+((E87 i).sub 0 1).len=j.fst.len/\i.fst.rows++List.drop 0 (List.take 1 [[D.s (nmS ws (acR ws coB i.snd))]])=j.fst.rows/\Value.string ByteArray.empty=Value.string ByteArray.empty/\(0:Int)=(0:Int)/\(0:Int)=(0:Int)/\Value.string ByteArray.empty=Value.string ByteArray.empty/\Value.string ByteArray.empty=Value.string ByteArray.empty)/\(acB ws i.snd.nx coB=false->rdOK ws (acR ws coB i.snd).nx/\0<cbB.size/\rdOK ws (exR ws en cbB (acR ws coB i.snd)).nx/\0<seB.size/\Value.string E82.nm=Value.string E82.nm/\E82.k=E82.k/\E82.n=E82.n/\Value.string E82.fr=Value.string E82.fr/\Value.string E82.to=Value.string E82.to/\i.fst.len=E82.tg.len/\ws.rows=ws.rows/\(E85 i).nx=(chR ws en (mR nx pa er)).nx/\en=en/\(E85 i).pa=(chR ws en (mR nx pa er)).pa/\(E85 i).er=(chR ws en (mR nx pa er)).er/\i.fst.rows=E82.tg.rows)) (by kernel_rfl) ?_
  dsimp +instances only [withv]
  intro h;obtain ⟨⟨a,b,c,d,e,f,g,i,j⟩,k,l,m,n⟩:=ch_up en (r:=mR nx pa er) h;have l0:=(lf_lt j).2;refine ⟨h,a,b,c,by decide,d,e,by decide,f,g,by decide,i,(by show (0+1)*16<=140737488355328;decide),Nat.le_refl 1,⟨(.l [[.s (nmS ws (chA4 ws en (mR nx pa er)))]],nmR ws en (chA4 ws en (mR nx pa er))),⟨j,rfl,(by show 1+left ws (nmR ws en (chA4 ws en (mR nx pa er)))<=1000001;omega)⟩,?_⟩,?_⟩
  ·(repeat' (with_reducible apply And.intro))<;>first |with_reducible rfl |exact True.intro |with_reducible assumption |decide |assumption |rfl
  rintro q ⟨h1,h2,h3⟩;refine ⟨h1,by decide,fun hc=>?_,fun hc=>?_⟩
  ·have hg:acG coB ws q.2=true:=hc;obtain ⟨u1,u2⟩:=(tg_sq en).up q.2 h1 hg;have u3:=lt_left u1 h1 u2;have hs:=seq_step (tg_sq en) (d:=q.1) h1 hg;have hz:(q.1.len+1)*16<=140737488355328:=by omega
   have hl:(D.l (q.1.rows++[(tgF ws en q.2).1])).len+left ws (tgF ws en q.2).2<=1000001:=by rw [ap_len];omega
   refine ⟨(ac_up (t:=coB) h1 (by decide)).1,rfl,hz,Nat.le_refl 1,(.l (q.1.rows++[(tgF ws en q.2).1]),(tgF ws en q.2).2),⟨u1,hs.trans h2,hl⟩,u3,?_⟩
   (repeat' (with_reducible apply And.intro))<;>first |with_reducible rfl |exact True.intro |exact (ap_len _ _).symm |rfl
  ·have hg:acG coB ws q.2=false:=hc;have h2:(q.1,q.2)=chT ws en (mR nx pa er):=(seq_end hg).symm.trans h2;have f1:=(ex_up en (t:=cbB) h1 (by decide)).1
   rw [acR_no (r:=q.2) hc];simp only [chZ,chR,<- h2]
   (repeat' (with_reducible apply And.intro))<;>first |with_reducible rfl |exact True.intro |with_reducible assumption |decide |assumption |rfl
 ·trivial
end Go.Proofs.YtbhbjhejkamlnaaGreat.Sx.Z
namespace Go.Proofs.YtbhbjhejkamlnaaGreat.Sx.Z
open Go.RowKit
structure Ru where
 ch:ByteArray
 mv:D
def Ru.row (c:Ru):List D:=[.s c.ch,.l c.mv.rows]
def ruA (ws:D) (en:Int) (r:Rd):Rd:=exR ws en obB (nmR ws en r)
def mvG (ws:D) (r:Rd):Bool:=decide (pkK ws r.nx=2)
def mvX (ws:D) (en:Int) (r:Rd):Rd:=nuR ws en (nmR ws en (nuR ws en r))
def mvF (ws:D) (en:Int) (r:Rd):List D × Rd:=([.i (nuN ws r),.s (nmS ws (nuR ws en r)),.i (nuN ws (nmR ws en (nuR ws en r)))],exR ws en seB (mvX ws en r))
def ruM (ws:D) (en:Int) (r:Rd):D × Rd:=seqA (mvG ws) (mvF ws en) ws (.l []) (ruA ws en r)
def ruZ (ws:D) (en:Int) (r:Rd):Ru:=⟨nmS ws r,(ruM ws en r).1⟩
def ruR (ws:D) (en:Int) (r:Rd):Rd:=exR ws en cbB (ruM ws en r).2
theorem mv_sq {ws:D} (en:Int):SqOK ws (mvG ws) (mvF ws en):=⟨fun r h hg=>by
 have hk:pkK ws r.nx=2:=of_decide_eq_true hg;have a:=nu_up en h;have e:(nuR ws en r).nx=r.nx+1:=by rw [show nuR ws en r=gx r from if_pos hk];rfl
 have b:=nm_up en a.1;have c:=nu_up en b.1;have d:=ex_up en (t:=seB) c.1 (by decide)
 refine ⟨d.1,?_⟩;have h9:(nuR ws en r).nx<=(exR ws en seB (mvX ws en r)).nx:=Int.le_trans b.2 (Int.le_trans c.2 d.2);show r.nx<(exR ws en seB (mvX ws en r)).nx
 omega⟩
theorem ru_up {ws:D} (en:Int) {r:Rd} (h:rdOK ws r.nx):rdOK ws (nmR ws en r).nx/\rdOK ws (ruA ws en r).nx/\rdOK ws (ruM ws en r).2.nx/\rdOK ws (ruR ws en r).nx/\r.nx<=(ruR ws en r).nx:=by
 have a:=nm_up en h;have b:=ex_up en (t:=obB) a.1 (by decide)
 have k:=seq_up (mv_sq en) (.l []) b.1;have l:=ex_up en (t:=cbB) k.1 (by decide)
 exact ⟨a.1,b.1,k.1,l.1,Int.le_trans a.2 (Int.le_trans b.2 (Int.le_trans k.2 l.2))⟩
structure Po where
 nm:ByteArray
 vs:D
 b:D
def Po.row (c:Po):List D:=[.s c.nm,.l c.vs.rows,.l c.b.rows]
def vrF (ws:D) (en:Int) (r:Rd):List D × Rd:=([.s (nmS ws (acR ws kwV r))],exR ws en seB (nmR ws en (acR ws kwV r)))
def poV (ws:D) (en:Int) (r:Rd):D × Rd:=seqA (acG kwV ws) (vrF ws en) ws (.l []) (ruA ws en r)
def poB (ws:D) (en:Int) (r:Rd):D × Rd:=stX en ws 0 (poV ws en r).2
def poZ (ws:D) (en:Int) (r:Rd):Po:=⟨nmS ws r,(poV ws en r).1,(poB ws en r).1⟩
def poR (ws:D) (en:Int) (r:Rd):Rd:=exR ws en cbB (poB ws en r).2
theorem vr_sq {ws:D} (en:Int):SqOK ws (acG kwV ws) (vrF ws en):=⟨fun r h hg=>by
 have a:=ac_up (t:=kwV) h (by decide)
 have b:=nm_up en a.1;have d:=ex_up en (t:=seB) b.1 (by decide)
 exact ⟨d.1,Int.lt_of_lt_of_le (ac_lt2 hg) (Int.le_trans b.2 d.2)⟩⟩
theorem po_up {ws:D} (en:Int) {r:Rd} (h:rdOK ws r.nx):rdOK ws (nmR ws en r).nx/\rdOK ws (ruA ws en r).nx/\rdOK ws (poV ws en r).2.nx/\rdOK ws (poB ws en r).2.nx/\rdOK ws (poR ws en r).nx/\r.nx<=(poR ws en r).nx:=by
 have a:=nm_up en h;have b:=ex_up en (t:=obB) a.1 (by decide)
 have k:=seq_up (vr_sq en) (.l []) b.1;have m:=(stX_up en ws 0).up _ k.1;have l:=ex_up en (t:=cbB) m.2 (by decide)
 exact ⟨a.1,b.1,k.1,m.2,l.1,Int.le_trans a.2 (Int.le_trans b.2 (Int.le_trans k.2 (Int.le_trans m.1 l.2)))⟩
noncomputable def rulS:List Dat->Option (Eff × List Seg):=fun ds=>match ds with
 | [.d ws,.i nx,.i en,.i pa,.i er]=>some ({val:=.one (.agg [.c (.raw (.string ((ruZ ws en (mR nx pa er)).ch))),.c (.osl 110 0 (.lit 0) (.sym ((ruZ ws en (mR nx pa er)).mv.len)))]),vc:=[rdOK ws nx],nw:=[(0,.orow 110 ((ruZ ws en (mR nx pa er)).mv))]},[.c (.rows 124 ws),.c (.int .i64 (.sym ((ruR ws en (mR nx pa er)).nx))),.c (.int .i64 (.sym en)),.c (.int .i64 (.sym ((ruR ws en (mR nx pa er)).pa))),.c (.int .i64 (.sym ((ruR ws en (mR nx pa er)).er)))])
 |_=>none
noncomputable def rulC:Con:=conM 85 [.c (.rows 124),.c (.int .i64),.c (.int .i64),.c (.int .i64),.c (.int .i64)] [] rulS
theorem rul_ok:ConOK Tryz.prog 47 rulC:=by
 refine fn_obM tt_ok mixed Tryz.func47 rfl (fun _ _=>by kernel_rfl) (A:=fun ds=>⟨fun _=>Cons.of [(77,namC),(79,numC),(80,expC),(76,pekC)],fun k=>match k,ds with | 3,[.d ws,.i nx,.i en,.i pa,.i er]=>some {ι:=D × Rd,pre:=fun _ q=>rdOK ws q.2.nx/\(seqA (mvG ws) (mvF ws en) ws q.1 q.2=ruM ws en (mR nx pa er))/\q.1.len+left ws q.2<=1000001,μ:=fun q=>left ws q.2,st:=fun s q=>famN s [] [0,2,3] [(0,.own 85 ([.c (.rows 124 ws),.c (.int .i64 (.sym ((q.2).nx))),.c (.int .i64 (.sym en)),.c (.int .i64 (.sym ((q.2).pa))),.c (.int .i64 (.sym ((q.2).er)))])),(idOf s 3,.own 106 ([.c (.raw (.string ((ruZ ws en (mR nx pa er)).ch))),.c (.osl 110 s.nx (.lit 0) (.sym (q.1.len)))])),(s.nx,.orow 110 (q.1))] [2]} |_,_=>none,fun _=>none⟩) (fun _ _=>(cons_cons nam_ok (cons_cons num_ok (cons_cons exp_ok (cons_cons pek_ok cons_nil))))) (by kernel_rfl) ?_
 intro ds;unfold rulS;split
 ·rename_i ws nx en pa er;refine kmp (q:=withv (fun (i:D × Rd)=>D.l [[D.i (nuN ws i.snd),D.s (nmS ws (nuR ws en i.snd)),D.i (nuN ws (nmR ws en (nuR ws en i.snd)))]]) fun E88=>withv (ruZ ws en (mR nx pa er)) fun E89=>withv (fun (i:D × Rd)=>nmR ws en (nuR ws en i.snd)) fun E90=>withv (exR ws en obB (nmR ws en (mR nx pa er))) fun E91=>rdOK ws nx->rdOK ws nx/\rdOK ws (nmR ws en (mR nx pa er)).nx/\0<obB.size/\(∃ (i:D × Rd),(rdOK ws i.snd.nx/\seqA (mvG ws) (mvF ws en) ws i.fst i.snd=ruM ws en (mR nx pa er)/\i.fst.len+left ws i.snd<=(1000001:Nat))/\ws.rows=ws.rows/\E91.nx=i.snd.nx/\en=en/\E91.pa=i.snd.pa/\E91.er=i.snd.er/\Value.string (nmS ws (mR nx pa er))=Value.string E89.ch/\i.fst.len=0/\i.fst.rows=[]/\Value.string ByteArray.empty=Value.string ByteArray.empty)/\∀ (i:D × Rd),rdOK ws i.snd.nx/\seqA (mvG ws) (mvF ws en) ws i.fst i.snd=ruM ws en (mR nx pa er)/\i.fst.len+left ws i.snd<=1000001->rdOK ws i.snd.nx/\((pkK ws i.snd.nx==(2:Int))=true->rdOK ws i.snd.nx/\rdOK ws (nuR ws en i.snd).nx/\rdOK ws (E90 i).nx/\i.fst.len=i.fst.len/\(i.fst.len+((E88 i).sub 0 1).len)*32<=140737488355328/\0+1<=(E88 i).len/\rdOK ws (nuR ws en (E90 i)).nx/\0<seB.size/\∃ (j:D × Rd),(rdOK ws j.snd.nx/\seqA (mvG ws) (mvF ws en) ws j.fst j.snd=ruM ws en (mR nx pa er)/\j.fst.len+left ws j.snd<=(1000001:Nat))/\left ws j.snd<left ws i.snd/\ws.rows=ws.rows/\(exR ws en seB (nuR ws en (E90 i))).nx=j.snd.nx/\en=en/\(exR ws en seB (nuR ws en (E90 i))).pa=j.snd.pa/\(exR ws en seB (nuR ws en (E90 i))).er=j.snd.er/\Value.string E89.ch=Value.string E89.ch/\i.fst.len+((E88 i).sub 0 1).len=j.fst.len/\i.fst.rows++List.drop 0 (List.take 1 [[D.i (nuN ws i.snd),D.s (nmS ws (nuR ws en i.snd)),D.i (nuN ws (E90 i))]])=j.fst.rows/\Value.string ByteArray.empty=Value.string ByteArray.empty)/\((pkK ws i.snd.nx==(2:Int))=false->rdOK ws i.snd.nx/\0<cbB.size/\Value.string E89.ch=Value.string E89.ch/\i.fst.len=E89.mv.len/\ws.rows=ws.rows/\(exR ws en cbB i.snd).nx=(ruR ws en (mR nx pa er)).nx/\en=en/\(exR ws en cbB i.snd).pa=(ruR ws en (mR nx pa er)).pa/\(exR ws en cbB i.snd).er=(ruR ws en (mR nx pa er)).er/\i.fst.rows=E89.mv.rows)) (by kernel_rfl) ?_
  dsimp +instances only [withv]
  intro h;obtain ⟨a,b,c,d,e⟩:=ru_up en (r:=mR nx pa er) h;have l0:=(lf_lt b).2;refine ⟨h,a,by decide,⟨(.l [],ruA ws en (mR nx pa er)),⟨b,rfl,(by show 0+left ws (ruA ws en (mR nx pa er))<=1000001;omega)⟩,?_⟩,?_⟩
  ·(repeat' (with_reducible apply And.intro))<;>first |with_reducible rfl |exact True.intro |with_reducible assumption |decide |assumption |rfl
  rintro q ⟨h1,h2,h3⟩;refine ⟨h1,fun hc=>?_,fun hc=>?_⟩
  ·have hg:mvG ws q.2=true:=decide_eq_true (eq_of_beq hc);obtain ⟨u1,u2⟩:=(mv_sq en).up q.2 h1 hg;have u3:=lt_left u1 h1 u2;have hs:=seq_step (mv_sq en) (d:=q.1) h1 hg;have hz:(q.1.len+1)*32<=140737488355328:=by omega
   have hl:(D.l (q.1.rows++[(mvF ws en q.2).1])).len+left ws (mvF ws en q.2).2<=1000001:=by rw [ap_len];omega
   have m1:=(nu_up en h1).1;have m2:=(nm_up en m1).1;have m3:=(nu_up en m2).1;refine ⟨h1,m1,m2,rfl,hz,Nat.le_refl 1,m3,by decide,(.l (q.1.rows++[(mvF ws en q.2).1]),(mvF ws en q.2).2),⟨u1,hs.trans h2,hl⟩,u3,?_⟩
   (repeat' (with_reducible apply And.intro))<;>first |with_reducible rfl |exact True.intro |exact (ap_len _ _).symm |rfl
  ·have hg:mvG ws q.2=false:=decide_eq_false (ne_of_beq_false hc);have h2:(q.1,q.2)=ruM ws en (mR nx pa er):=(seq_end hg).symm.trans h2;simp only [ruZ,ruR,<- h2]
   (repeat' (with_reducible apply And.intro))<;>first |with_reducible rfl |exact True.intro |with_reducible assumption |decide |assumption |rfl
 ·trivial
noncomputable def proS:List Dat->Option (Eff × List Seg):=fun ds=>match ds with
 | [.d ws,.i nx,.i en,.i pa,.i er]=>some ({val:=.one (.agg [.c (.raw (.string ((poZ ws en (mR nx pa er)).nm))),.c (.osl 9 0 (.lit 0) (.sym ((poZ ws en (mR nx pa er)).vs.len))),.c (.osl 80 1 (.lit 0) (.sym ((poZ ws en (mR nx pa er)).b.len)))]),vc:=[rdOK ws nx],nw:=[(0,.orow 9 ((poZ ws en (mR nx pa er)).vs)),(1,.orow 80 ((poZ ws en (mR nx pa er)).b))]},[.c (.rows 124 ws),.c (.int .i64 (.sym ((poR ws en (mR nx pa er)).nx))),.c (.int .i64 (.sym en)),.c (.int .i64 (.sym ((poR ws en (mR nx pa er)).pa))),.c (.int .i64 (.sym ((poR ws en (mR nx pa er)).er)))])
 |_=>none
noncomputable def proC:Con:=conM 85 [.c (.rows 124),.c (.int .i64),.c (.int .i64),.c (.int .i64),.c (.int .i64)] [] proS
theorem pro_ok:ConOK Tryz.prog 48 proC:=by
 refine fn_obM tt_ok mixed Tryz.func48 rfl (fun _ _=>by kernel_rfl) (A:=fun ds=>⟨fun _=>Cons.of [(77,namC),(45,accC),(80,expC),(81,(stmC stX 1000001))],fun k=>match k,ds with | 3,[.d ws,.i nx,.i en,.i pa,.i er]=>some {ι:=D × Rd,pre:=fun _ q=>rdOK ws q.2.nx/\(seqA (acG kwV ws) (vrF ws en) ws q.1 q.2=poV ws en (mR nx pa er))/\q.1.len+left ws q.2<=1000001,μ:=fun q=>left ws q.2,st:=fun s q=>famN s [] [0,2,3] [(0,.own 85 ([.c (.rows 124 ws),.c (.int .i64 (.sym ((q.2).nx))),.c (.int .i64 (.sym en)),.c (.int .i64 (.sym ((q.2).pa))),.c (.int .i64 (.sym ((q.2).er)))])),(idOf s 3,.own 72 ([.c (.raw (.string ((poZ ws en (mR nx pa er)).nm))),.c (.osl 9 s.nx (.lit 0) (.sym (q.1.len))),.c .nils])),(s.nx,.orow 9 (q.1))] [2]} |_,_=>none,fun _=>none⟩) (fun _ _=>(cons_cons nam_ok (cons_cons acc_ok (cons_cons exp_ok (cons_cons stX_ok cons_nil))))) (by kernel_rfl) ?_
 intro ds;unfold proS;split
 ·rename_i ws nx en pa er;refine kmp (q:=withv (poZ ws en (mR nx pa er)) fun E92=>withv (fun (i:D × Rd)=>stX en ws (0:Int) (acR ws kwV i.snd)) fun E93=>withv (exR ws en obB (nmR ws en (mR nx pa er))) fun E94=>withv (fun (i:D × Rd)=>exR ws en seB (nmR ws en (acR ws kwV i.snd))) fun E95=>withv (fun (i:D × Rd)=>D.l [[D.s (nmS ws (acR ws kwV i.snd))]]) fun E96=>rdOK ws nx->rdOK ws nx/\rdOK ws (nmR ws en (mR nx pa er)).nx/\0<obB.size/\(∃ (i:D × Rd),(rdOK ws i.snd.nx/\seqA (acG kwV ws) (vrF ws en) ws i.fst i.snd=poV ws en (mR nx pa er)/\i.fst.len+left ws i.snd<=(1000001:Nat))/\ws.rows=ws.rows/\E94.nx=i.snd.nx/\en=en/\E94.pa=i.snd.pa/\E94.er=i.snd.er/\Value.string (nmS ws (mR nx pa er))=Value.string E92.nm/\i.fst.len=0/\i.fst.rows=[]/\Value.string ByteArray.empty=Value.string ByteArray.empty)/\∀ (i:D × Rd),rdOK ws i.snd.nx/\seqA (acG kwV ws) (vrF ws en) ws i.fst i.snd=poV ws en (mR nx pa er)/\i.fst.len+left ws i.snd<=1000001->rdOK ws i.snd.nx/\0<kwV.size/\(acB ws i.snd.nx kwV=true->rdOK ws (acR ws kwV i.snd).nx/\i.fst.len=i.fst.len/\(i.fst.len+((E96 i).sub 0 1).len)*16<=140737488355328/\0+1<=(E96 i).len/\rdOK ws (nmR ws en (acR ws kwV i.snd)).nx/\0<seB.size/\∃ (j:D × Rd),(rdOK ws j.snd.nx/\seqA (acG kwV ws) (vrF ws en) ws j.fst j.snd=poV ws en (mR nx pa er)/\j.fst.len+left ws j.snd<=(1000001:Nat))/\left ws j.snd<left ws i.snd/\ws.rows=ws.rows/\(E95 i).nx=j.snd.nx/\en=en/\(E95 i).pa=j.snd.pa/\(E95 i).er=j.snd.er/\Value.string E92.nm=Value.string E92.nm/\i.fst.len+((E96 i).sub 0 1).len=j.fst.len/\i.fst.rows++List.drop 0 (List.take 1 [[D.s (nmS ws (acR ws kwV i.snd))]])=j.fst.rows/\Value.string ByteArray.empty=Value.string ByteArray.empty)/\(acB ws i.snd.nx kwV=false->rdOK ws (acR ws kwV i.snd).nx/\dpOK ws (acR ws kwV i.snd) (0:Int)/\left ws (acR ws kwV i.snd)<1000001/\rdOK ws (E93 i).snd.nx/\0<cbB.size/\Value.string E92.nm=Value.string E92.nm/\i.fst.len=E92.vs.len/\(E93 i).fst.len=E92.b.len/\ws.rows=ws.rows/\(exR ws en cbB (E93 i).snd).nx=(poR ws en (mR nx pa er)).nx/\en=en/\(exR ws en cbB (E93 i).snd).pa=(poR ws en (mR nx pa er)).pa/\(exR ws en cbB (E93 i).snd).er=(poR ws en (mR nx pa er)).er/\i.fst.rows=E92.vs.rows/\(E93 i).fst.rows=E92.b.rows)) (by kernel_rfl) ?_
  dsimp +instances only [withv]
  intro h;obtain ⟨a,b,c,d,e,f⟩:=po_up en (r:=mR nx pa er) h;have l0:=(lf_lt b).2;refine ⟨h,a,by decide,⟨(.l [],ruA ws en (mR nx pa er)),⟨b,rfl,(by show 0+left ws (ruA ws en (mR nx pa er))<=1000001;omega)⟩,?_⟩,?_⟩
  ·(repeat' (with_reducible apply And.intro))<;>first |with_reducible rfl |exact True.intro |with_reducible assumption |decide |assumption |rfl
  rintro q ⟨h1,h2,h3⟩;refine ⟨h1,by decide,fun hc=>?_,fun hc=>?_⟩
  ·have hg:acG kwV ws q.2=true:=hc;obtain ⟨u1,u2⟩:=(vr_sq en).up q.2 h1 hg;have u3:=lt_left u1 h1 u2;have hs:=seq_step (vr_sq en) (d:=q.1) h1 hg;have hz:(q.1.len+1)*16<=140737488355328:=by omega
   have hl:(D.l (q.1.rows++[(vrF ws en q.2).1])).len+left ws (vrF ws en q.2).2<=1000001:=by rw [ap_len];omega
   have m1:=(ac_up (t:=kwV) h1 (by decide)).1
   have m2:=(nm_up en m1).1;refine ⟨m1,rfl,hz,Nat.le_refl 1,m2,by decide,(.l (q.1.rows++[(vrF ws en q.2).1]),(vrF ws en q.2).2),⟨u1,hs.trans h2,hl⟩,u3,?_⟩
   (repeat' (with_reducible apply And.intro))<;>first |with_reducible rfl |exact True.intro |exact (ap_len _ _).symm |rfl
  ·have hg:acG kwV ws q.2=false:=hc;have h2:(q.1,q.2)=poV ws en (mR nx pa er):=(seq_end hg).symm.trans h2;rw [acR_no (r:=q.2) hc];have f1:=(lf_lt h1).1;have f2:=(lf_lt h1).2;have f3:=((stX_up en ws 0).up _ h1).2;simp only [etR,poZ,poR,poB,<- h2]
   (repeat' (with_reducible apply And.intro))<;>first |with_reducible rfl |exact True.intro |with_reducible assumption |decide |assumption |rfl
 ·trivial
end Go.Proofs.YtbhbjhejkamlnaaGreat.Sx.Z
