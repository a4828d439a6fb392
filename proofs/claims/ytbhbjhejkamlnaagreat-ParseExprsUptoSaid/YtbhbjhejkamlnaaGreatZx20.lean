import Derived.Test.YtbhbjhejkamlnaaGreatZx19
set_option linter.unusedVariables false
set_option linter.unusedSimpArgs false
namespace Go.Proofs.YtbhbjhejkamlnaaGreat.Sx
def gh (s:St) (sl:aT) (ks:List Nat) (es:ah) (hs:List Nat):St:={tm:=sl++jh s.tm ks,hp:=es++mt s.hp (hs.map (bj s)),nx:=s.nx+1}
end Go.Proofs.YtbhbjhejkamlnaaGreat.Sx
namespace Go.Proofs.YtbhbjhejkamlnaaGreat.Sx.Z
open Go.RowKit
def asS (ws:D) (en:Int) (r:Rd):St:=⟨1,nmS ws r,ByteArray.empty,(asE ws en r).1,C00,.l [],.l [],.l []⟩
def snS (ws:D) (en:Int) (r:Rd):St:=⟨4,nmS ws (snN ws en r),nmS ws (snT ws en r),(snE ws en r).1,C00,.l [],.l [],.l []⟩
def atS (ws:D) (en:Int) (r:Rd):St:=⟨6,ByteArray.empty,ByteArray.empty,X00,atC ws en r,.l [],.l [],.l []⟩
def inS (ws:D) (en:Int) (r:Rd):St:=⟨7,nmS ws (exR ws en kwI r),ByteArray.empty,X00,C00,.l [],.l [],.l []⟩
def stF (P:PB) (en:Int) (ws:D) (dp:Int) (r:Rd):St × Rd:=
 if acB ws r.nx kwF=true then (cfS P en ws dp r,(cfB P en ws dp r).2)
 else if acB ws r.nx kwW=true then (lpS P en ws dp r,(lpA P en ws dp r).2)
 else if acB ws r.nx kwS=true then (snS ws en r,snR ws en r)
 else if acB ws r.nx kwR=true then (rvS P en ws dp r,rvR P en ws dp r)
 else if acB ws r.nx kwA=true then (atS ws en r,atR ws en r)
 else if acB ws r.nx kwI=true then (inS ws en r,inR ws en r)
 else (asS ws en r,asR ws en r)
def stH (P:PB) (en:Int) (ws:D) (dp:Int) (r:Rd):List D × Rd:=((stF P en ws dp r).1.row,(stF P en ws dp r).2)
def stG (ws:D) (r:Rd):Bool:=acB ws r.nx kwF ||acB ws r.nx kwW ||acB ws r.nx kwS ||acB ws r.nx kwR ||acB ws r.nx kwA ||acB ws r.nx kwI ||decide (pkK ws r.nx=1)
def smA (P:PB):PB:=fun en ws dp r=>aj (stG ws) (stH P en ws dp) ws (.l []) r
theorem HG {P:PB} {ws:D} {en:Int} (hPa:∀ dp,PbOK ws (P en ws dp)) {dp:Int} {r:Rd} (h:aa ws r.nx):aa ws (cfB P en ws dp r).2.nx/\(exR ws en kwF r).nx<=(cfB P en ws dp r).2.nx:=by
 have a0:=(a9 en (t:=kwF) h (by decide)).1;obtain ⟨_,_,_,_,a5,a6⟩:=jz en a0;obtain ⟨b1,b2,b3,b4,b5⟩:=gc hPa (dp:=dp) a5;have c1:=dK (t:=kwL) b4 (by decide);obtain ⟨d3,d4,d5,d6,d7⟩:=gc hPa (dp:=dp) c1.1;unfold cfB;split
 ·exact ⟨d6,Int.le_trans a6 (Int.le_trans b5 (Int.le_trans c1.2 d7))⟩
 ·exact ⟨c1.1,Int.le_trans a6 (Int.le_trans b5 c1.2)⟩
theorem HH {P:PB} {ws:D} {en:Int} (hPa:∀ dp,PbOK ws (P en ws dp)) {dp:Int} {r:Rd} (h:aa ws r.nx):aa ws (lpA P en ws dp r).2.nx/\(exR ws en kwW r).nx<=(lpA P en ws dp r).2.nx:=by
 have a0:=(a9 en (t:=kwW) h (by decide)).1;obtain ⟨_,_,_,_,a5,a6⟩:=jz en a0;obtain ⟨b1,b2,b3,b4,b5⟩:=gc hPa (dp:=dp) a5;exact ⟨b4,Int.le_trans a6 b5⟩
theorem HI {ws:D} (en:Int) {r:Rd} (h:aa ws r.nx):aa ws (snR ws en r).nx/\(exR ws en kwS r).nx<=(snR ws en r).nx:=by
 have a1:=a9 en (t:=kwS) h (by decide);have a2:=bT en a1.1;have a3:=a9 en (t:=doB) a2.1 (by decide);have a4:=bT en a3.1;have a5:=a9 en (t:=opB) a4.1 (by decide);have a6:=(kJ en ws 0).up _ a5.1;have a7:=a9 en (t:=clB) a6.2.1 (by decide);have a8:=a9 en (t:=seB) a7.1 (by decide);exact ⟨a8.1,Int.le_trans a2.2 (Int.le_trans a3.2 (Int.le_trans a4.2 (Int.le_trans a5.2 (Int.le_trans a6.1 (Int.le_trans a7.2 a8.2)))))⟩
theorem HJ {ws:D} (en:Int) {r:Rd} (h:aa ws r.nx):aa ws (atR ws en r).nx/\(exR ws en kwA r).nx<=(atR ws en r).nx:=by
 have a1:=a9 en (t:=kwA) h (by decide);obtain ⟨_,_,_,_,a5,a6⟩:=jz en a1.1;have a8:=a9 en (t:=seB) a5 (by decide);exact ⟨a8.1,Int.le_trans a6 a8.2⟩
theorem HK {ws:D} (en:Int) {r:Rd} (h:aa ws r.nx):aa ws (inR ws en r).nx/\(exR ws en kwI r).nx<=(inR ws en r).nx:=by
 have a1:=a9 en (t:=kwI) h (by decide);have a2:=bT en a1.1;have a8:=a9 en (t:=seB) a2.1 (by decide);exact ⟨a8.1,Int.le_trans a2.2 a8.2⟩
theorem HL {ws:D} (en:Int) {r:Rd} (h:aa ws r.nx):aa ws (asR ws en r).nx/\(nmR ws en r).nx<=(asR ws en r).nx:=by
 have a2:=bT en h;have a3:=a9 en (t:=eqB) a2.1 (by decide);have a6:=(kJ en ws 0).up _ a3.1;have a8:=a9 en (t:=seB) a6.2.1 (by decide);exact ⟨a8.1,Int.le_trans a3.2 (Int.le_trans a6.1 a8.2)⟩
theorem pm {P:PB} {ws:D} {en:Int} (hPa:∀ dp,PbOK ws (P en ws dp)) (dp:Int):SqOK ws (stG ws) (stH P en ws dp):=⟨fun r h hg=>by
 unfold stH stF
 by_cases k0:acB ws r.nx kwF=true
 ·simp only[if_pos k0];have u:aa ws ((cfB P en ws dp r).2).nx/\(exR ws en kwF r).nx<=((cfB P en ws dp r).2).nx:=HG hPa h;exact ⟨u.1,Int.lt_of_lt_of_le (gG en (cK (by decide) k0)) u.2⟩
 by_cases k1:acB ws r.nx kwW=true
 ·simp only[if_neg k0,if_pos k1];have u:aa ws ((lpA P en ws dp r).2).nx/\(exR ws en kwW r).nx<=((lpA P en ws dp r).2).nx:=HH hPa h;exact ⟨u.1,Int.lt_of_lt_of_le (gG en (cK (by decide) k1)) u.2⟩
 by_cases k2:acB ws r.nx kwS=true
 ·simp only[if_neg k0,if_neg k1,if_pos k2];have u:aa ws (snR ws en r).nx/\(exR ws en kwS r).nx<=(snR ws en r).nx:=HI en h;exact ⟨u.1,Int.lt_of_lt_of_le (gG en (cK (by decide) k2)) u.2⟩
 by_cases k3:acB ws r.nx kwR=true
 ·simp only[if_neg k0,if_neg k1,if_neg k2,if_pos k3];have u:aa ws (rvR P en ws dp r).nx/\(exR ws en kwR r).nx<=(rvR P en ws dp r).nx:=⟨(pe hPa h).2.2.2.2.2.2.1,Int.le_trans (pe hPa (dp:=dp) h).2.2.2.1 (pe hPa h).2.2.2.2.2.2.2⟩;exact ⟨u.1,Int.lt_of_lt_of_le (gG en (cK (by decide) k3)) u.2⟩
 by_cases k4:acB ws r.nx kwA=true
 ·simp only[if_neg k0,if_neg k1,if_neg k2,if_neg k3,if_pos k4];have u:aa ws (atR ws en r).nx/\(exR ws en kwA r).nx<=(atR ws en r).nx:=HJ en h;exact ⟨u.1,Int.lt_of_lt_of_le (gG en (cK (by decide) k4)) u.2⟩
 by_cases k5:acB ws r.nx kwI=true
 ·simp only[if_neg k0,if_neg k1,if_neg k2,if_neg k3,if_neg k4,if_pos k5];have u:aa ws (inR ws en r).nx/\(exR ws en kwI r).nx<=(inR ws en r).nx:=HK en h;exact ⟨u.1,Int.lt_of_lt_of_le (gG en (cK (by decide) k5)) u.2⟩
 have hk:pkK ws r.nx=1:=by
  simpa [stG,k0,k1,k2,k3,k4,k5] using hg
 simp only[if_neg k0,if_neg k1,if_neg k2,if_neg k3,if_neg k4,if_neg k5];have u:=HL en h;have e:(nmR ws en r).nx=r.nx+1:=by rw[show nmR ws en r=gx r from if_pos hk];rfl
 exact ⟨u.1,by omega⟩⟩
theorem HM {P:PB} (hPa:∀ en ws dp,PbOK ws (P en ws dp)) (en:Int) (ws:D) (dp:Int):PbOK ws (smA P en ws dp):=⟨fun r h=>by
 have:=dz (pm (hPa en ws) dp) (.l []) h;exact ⟨this.2,this.1⟩⟩
def fu (P:PB) (en:Int) (ws:D) (dp:Int) (i:D × Rd):List D:=[D.i (cfS P en ws dp i.snd).k,D.s (cfS P en ws dp i.snd).nm,D.s (cfS P en ws dp i.snd).tg,D.i (cfS P en ws dp i.snd).e.k,D.i (cfS P en ws dp i.snd).e.n,D.s (cfS P en ws dp i.snd).e.s,(cfS P en ws dp i.snd).e.d.sub 0 ((0:Nat)+(cfS P en ws dp i.snd).e.d.len),D.i (cfS P en ws dp i.snd).c.op,D.i (cfS P en ws dp i.snd).c.l.k,D.i (cfS P en ws dp i.snd).c.l.n,D.s (cfS P en ws dp i.snd).c.l.s,(cfS P en ws dp i.snd).c.l.d.sub 0 ((0:Nat)+(cfS P en ws dp i.snd).c.l.d.len),D.i (cfS P en ws dp i.snd).c.r.k,D.i (cfS P en ws dp i.snd).c.r.n,D.s (cfS P en ws dp i.snd).c.r.s,(cfS P en ws dp i.snd).c.r.d.sub 0 ((0:Nat)+(cfS P en ws dp i.snd).c.r.d.len),(cfS P en ws dp i.snd).b.sub 0 ((0:Nat)+(cfS P en ws dp i.snd).b.len),(cfS P en ws dp i.snd).el.sub 0 ((0:Nat)+(cfS P en ws dp i.snd).el.len),(cfS P en ws dp i.snd).ar.sub 0 ((0:Nat)+(cfS P en ws dp i.snd).ar.len)]
def fv (P:PB) (en:Int) (ws:D) (dp:Int) (i:D × Rd):List D:=[D.i (lpS P en ws dp i.snd).k,D.s (lpS P en ws dp i.snd).nm,D.s (lpS P en ws dp i.snd).tg,D.i (lpS P en ws dp i.snd).e.k,D.i (lpS P en ws dp i.snd).e.n,D.s (lpS P en ws dp i.snd).e.s,(lpS P en ws dp i.snd).e.d.sub 0 ((0:Nat)+(lpS P en ws dp i.snd).e.d.len),D.i (lpS P en ws dp i.snd).c.op,D.i (lpS P en ws dp i.snd).c.l.k,D.i (lpS P en ws dp i.snd).c.l.n,D.s (lpS P en ws dp i.snd).c.l.s,(lpS P en ws dp i.snd).c.l.d.sub 0 ((0:Nat)+(lpS P en ws dp i.snd).c.l.d.len),D.i (lpS P en ws dp i.snd).c.r.k,D.i (lpS P en ws dp i.snd).c.r.n,D.s (lpS P en ws dp i.snd).c.r.s,(lpS P en ws dp i.snd).c.r.d.sub 0 ((0:Nat)+(lpS P en ws dp i.snd).c.r.d.len),(lpS P en ws dp i.snd).b.sub 0 ((0:Nat)+(lpS P en ws dp i.snd).b.len),(lpS P en ws dp i.snd).el.sub 0 ((0:Nat)+(lpS P en ws dp i.snd).el.len),(lpS P en ws dp i.snd).ar.sub 0 ((0:Nat)+(lpS P en ws dp i.snd).ar.len)]
def fw (P:PB) (en:Int) (ws:D) (dp:Int) (i:D × Rd):List D:=[D.i (rvS P en ws dp i.snd).k,D.s (rvS P en ws dp i.snd).nm,D.s (rvS P en ws dp i.snd).tg,D.i (rvS P en ws dp i.snd).e.k,D.i (rvS P en ws dp i.snd).e.n,D.s (rvS P en ws dp i.snd).e.s,(rvS P en ws dp i.snd).e.d.sub 0 ((0:Nat)+(rvS P en ws dp i.snd).e.d.len),D.i (rvS P en ws dp i.snd).c.op,D.i (rvS P en ws dp i.snd).c.l.k,D.i (rvS P en ws dp i.snd).c.l.n,D.s (rvS P en ws dp i.snd).c.l.s,(rvS P en ws dp i.snd).c.l.d.sub 0 ((0:Nat)+(rvS P en ws dp i.snd).c.l.d.len),D.i (rvS P en ws dp i.snd).c.r.k,D.i (rvS P en ws dp i.snd).c.r.n,D.s (rvS P en ws dp i.snd).c.r.s,(rvS P en ws dp i.snd).c.r.d.sub 0 ((0:Nat)+(rvS P en ws dp i.snd).c.r.d.len),(rvS P en ws dp i.snd).b.sub 0 ((0:Nat)+(rvS P en ws dp i.snd).b.len),(rvS P en ws dp i.snd).el.sub 0 ((0:Nat)+(rvS P en ws dp i.snd).el.len),(rvS P en ws dp i.snd).ar.sub 0 ((0:Nat)+(rvS P en ws dp i.snd).ar.len)]
def fx (en:Int) (ws:D) (i:D × Rd):List D:=[D.i (6:Int),D.s ByteArray.empty,D.s ByteArray.empty,D.i (0:Int),D.i (0:Int),D.s ByteArray.empty,D.l [],D.i (atC ws en i.snd).op,D.i (atC ws en i.snd).l.k,D.i (atC ws en i.snd).l.n,D.s (atC ws en i.snd).l.s,(atC ws en i.snd).l.d.sub 0 ((0:Nat)+(atC ws en i.snd).l.d.len),D.i (atC ws en i.snd).r.k,D.i (atC ws en i.snd).r.n,D.s (atC ws en i.snd).r.s,(atC ws en i.snd).r.d.sub 0 ((0:Nat)+(atC ws en i.snd).r.d.len),D.l [],D.l [],D.l []]
def fy (en:Int) (ws:D) (i:D × Rd):List D:=[D.i (4:Int),D.s (nmS ws (snN ws en i.snd)),D.s (nmS ws (snT ws en i.snd)),D.i (snE ws en i.snd).fst.k,D.i (snE ws en i.snd).fst.n,D.s (snE ws en i.snd).fst.s,(snE ws en i.snd).fst.d.sub 0 ((0:Nat)+(snE ws en i.snd).fst.d.len),D.i (0:Int),D.i (0:Int),D.i (0:Int),D.s ByteArray.empty,D.l [],D.i (0:Int),D.i (0:Int),D.s ByteArray.empty,D.l [],D.l [],D.l [],D.l []]
def fA (en:Int) (ws:D) (i:D × Rd):List D:=[D.i (1:Int),D.s (nmS ws i.snd),D.s ByteArray.empty,D.i (asE ws en i.snd).fst.k,D.i (asE ws en i.snd).fst.n,D.s (asE ws en i.snd).fst.s,(asE ws en i.snd).fst.d.sub 0 ((0:Nat)+(asE ws en i.snd).fst.d.len),D.i (0:Int),D.i (0:Int),D.i (0:Int),D.s ByteArray.empty,D.l [],D.i (0:Int),D.i (0:Int),D.s ByteArray.empty,D.l [],D.l [],D.l [],D.l []]
def fB (en:Int) (ws:D) (i:D × Rd):List D:=[D.i (7:Int),D.s (nmS ws (exR ws en kwI i.snd)),D.s ByteArray.empty,D.i (0:Int),D.i (0:Int),D.s ByteArray.empty,D.l [],D.i (0:Int),D.i (0:Int),D.i (0:Int),D.s ByteArray.empty,D.l [],D.i (0:Int),D.i (0:Int),D.s ByteArray.empty,D.l [],D.l [],D.l [],D.l []]
noncomputable def zo (P:PB) (m:Nat):List Dat->Option (Eff × List Seg):=fun ds=>match ds with
 | [.d ws,.i nx,.i en,.i pa,.i er,.i dp]=>some ({val:=.one (.sc (.osl 80 (0) (.lit 0) (.sym ((smA P en ws dp (mR nx pa er)).1.len)))),vc:=[aa ws nx,aH ws (mR nx pa er) dp,left ws (mR nx pa er)<m+1],nw:=[(0,.orow 80 ((smA P en ws dp (mR nx pa er)).1))]},[.c (.rows 124 ws),.c (.int .i64 (.sym ((((smA P en ws dp (mR nx pa er)).2)).nx))),.c (.int .i64 (.sym en)),.c (.int .i64 (.sym ((((smA P en ws dp (mR nx pa er)).2)).pa))),.c (.int .i64 (.sym ((((smA P en ws dp (mR nx pa er)).2)).er)))])
 |_=>none
noncomputable def HN (P:PB) (m:Nat):Con:=ba 85 [.c (.rows 124),.c (.int .i64),.c (.int .i64),.c (.int .i64),.c (.int .i64)] [.sc (.int .i64)] (zo P m)
theorem HO {P:PB} {m:Nat} (hP:ConOK Tryz.prog 81 (ft P m)) (hPa:∀ en ws dp,PbOK ws (P en ws dp)):ConOK Tryz.prog 81 (HN P m):=by
 refine bk tt_ok au Tryz.func81 rfl (fun _ _=>by kernel_rfl) (A:=fun ds=>⟨fun _=>Cons.of [(88,(y5 P m)),(89,(y7 P m)),(91,(zf P m)),(90,yZ),(92,yV),(93,yX),(94,yT),(76,eD)],fun k=>match k,ds with | 2,[.d ws,.i nx,.i en,.i pa,.i er,.i dp]=>some {ι:=D × Rd,pre:=fun _ q=>aa ws q.2.nx/\(aj (stG ws) (stH P en ws dp) ws q.1 q.2=smA P en ws dp (mR nx pa er))/\q.1.len+left ws q.2<=1000001/\nx<=q.2.nx,μ:=fun q=>left ws q.2,st:=fun s q=>gh s [(5,.one (.sc (.osl 80 (s.nx) (.lit 0) (.sym (q.1.len)))))] [0,1] [(0,.own 85 ([.c (.rows 124 ws),.c (.int .i64 (.sym ((q.2).nx))),.c (.int .i64 (.sym en)),.c (.int .i64 (.sym ((q.2).pa))),.c (.int .i64 (.sym ((q.2).er)))])),(s.nx,.orow 80 (q.1))] []} |_,_=>none,fun _=>none⟩) (fun _ _=>(af (Hu hP hPa) (af (Hw hP hPa) (af (HA hP hPa) (af Hr (af Hp (af Hq (af Ho (af eT aq))))))))) (by kernel_rfl) ?_
 intro ds;unfold zo;split
 ·rename_i ws nx en pa er dp
  refine kmp (q:=aa ws nx->aH ws (mR nx pa er) dp->left ws (mR nx pa er)<m+1->(∃ (i:D × Rd),(aa ws i.snd.nx/\aj (stG ws) (stH P en ws dp) ws i.fst i.snd=smA P en ws dp (mR nx pa er)/\i.fst.len+left ws i.snd<=1000001/\nx<=i.snd.nx)/\i.fst.len=0/\dp=dp/\ws.rows=ws.rows/\nx=i.snd.nx/\en=en/\pa=i.snd.pa/\er=i.snd.er/\i.fst.rows=[])/\∀ (i:D × Rd),aa ws i.snd.nx/\aj (stG ws) (stH P en ws dp) ws i.fst i.snd=smA P en ws dp (mR nx pa er)/\i.fst.len+left ws i.snd<=1000001/\nx<=i.snd.nx->aa ws i.snd.nx/\(((pkS ws i.snd.nx).toList==kwF.toList)=true->aa ws i.snd.nx/\aH ws i.snd dp/\left ws i.snd<m+1/\i.snd.nx<(ws.len:Int)/\0+(cfS P en ws dp i.snd).e.d.len<=(cfS P en ws dp i.snd).e.d.len/\0+(cfS P en ws dp i.snd).c.l.d.len<=(cfS P en ws dp i.snd).c.l.d.len/\0+(cfS P en ws dp i.snd).c.r.d.len<=(cfS P en ws dp i.snd).c.r.d.len/\0+(cfS P en ws dp i.snd).b.len<=(cfS P en ws dp i.snd).b.len/\0+(cfS P en ws dp i.snd).el.len<=(cfS P en ws dp i.snd).el.len/\0+(cfS P en ws dp i.snd).ar.len<=(cfS P en ws dp i.snd).ar.len/\i.fst.len=i.fst.len/\(i.fst.len+((D.l [(fu P en ws dp i)]).sub 0 1).len)*288<=140737488355328/\0+1<=(D.l [(fu P en ws dp i)]).len/\∃ (j:D × Rd),(aa ws j.snd.nx/\aj (stG ws) (stH P en ws dp) ws j.fst j.snd=smA P en ws dp (mR nx pa er)/\j.fst.len+left ws j.snd<=1000001/\nx<=j.snd.nx)/\left ws j.snd<left ws i.snd/\i.fst.len+((D.l [(fu P en ws dp i)]).sub 0 1).len=j.fst.len/\dp=dp/\ws.rows=ws.rows/\(cfB P en ws dp i.snd).snd.nx=j.snd.nx/\en=en/\(cfB P en ws dp i.snd).snd.pa=j.snd.pa/\(cfB P en ws dp i.snd).snd.er=j.snd.er/\i.fst.rows++List.drop 0 (List.take 1 [(fu P en ws dp i)])=j.fst.rows)/\(((pkS ws i.snd.nx).toList==kwF.toList)=false->(((pkS ws i.snd.nx).toList==kwW.toList)=true->aa ws i.snd.nx/\aH ws i.snd dp/\left ws i.snd<m+1/\i.snd.nx<(ws.len:Int)/\0+(lpS P en ws dp i.snd).e.d.len<=(lpS P en ws dp i.snd).e.d.len/\0+(lpS P en ws dp i.snd).c.l.d.len<=(lpS P en ws dp i.snd).c.l.d.len/\0+(lpS P en ws dp i.snd).c.r.d.len<=(lpS P en ws dp i.snd).c.r.d.len/\0+(lpS P en ws dp i.snd).b.len<=(lpS P en ws dp i.snd).b.len/\0+(lpS P en ws dp i.snd).el.len<=(lpS P en ws dp i.snd).el.len/\0+(lpS P en ws dp i.snd).ar.len<=(lpS P en ws dp i.snd).ar.len/\i.fst.len=i.fst.len/\(i.fst.len+((D.l [(fv P en ws dp i)]).sub 0 1).len)*288<=140737488355328/\0+1<=(D.l [(fv P en ws dp i)]).len/\∃ (j:D × Rd),(aa ws j.snd.nx/\aj (stG ws) (stH P en ws dp) ws j.fst j.snd=smA P en ws dp (mR nx pa er)/\j.fst.len+left ws j.snd<=1000001/\nx<=j.snd.nx)/\left ws j.snd<left ws i.snd/\i.fst.len+((D.l [(fv P en ws dp i)]).sub 0 1).len=j.fst.len/\dp=dp/\ws.rows=ws.rows/\(lpA P en ws dp i.snd).snd.nx=j.snd.nx/\en=en/\(lpA P en ws dp i.snd).snd.pa=j.snd.pa/\(lpA P en ws dp i.snd).snd.er=j.snd.er/\i.fst.rows++List.drop 0 (List.take 1 [(fv P en ws dp i)])=j.fst.rows)/\(((pkS ws i.snd.nx).toList==kwW.toList)=false->(((pkS ws i.snd.nx).toList==kwS.toList)=true->aa ws i.snd.nx/\0+(snE ws en i.snd).fst.d.len<=(snE ws en i.snd).fst.d.len/\i.fst.len=i.fst.len/\(i.fst.len+((D.l [(fy en ws i)]).sub 0 1).len)*288<=140737488355328/\0+1<=(D.l [(fy en ws i)]).len/\∃ (j:D × Rd),(aa ws j.snd.nx/\aj (stG ws) (stH P en ws dp) ws j.fst j.snd=smA P en ws dp (mR nx pa er)/\j.fst.len+left ws j.snd<=1000001/\nx<=j.snd.nx)/\left ws j.snd<left ws i.snd/\i.fst.len+((D.l [(fy en ws i)]).sub 0 1).len=j.fst.len/\dp=dp/\ws.rows=ws.rows/\(snR ws en i.snd).nx=j.snd.nx/\en=en/\(snR ws en i.snd).pa=j.snd.pa/\(snR ws en i.snd).er=j.snd.er/\i.fst.rows++List.drop 0 (List.take 1 [(fy en ws i)])=j.fst.rows)/\(((pkS ws i.snd.nx).toList==kwS.toList)=false->(((pkS ws i.snd.nx).toList==kwR.toList)=true->aa ws i.snd.nx/\aH ws i.snd dp/\left ws i.snd<m+1/\i.snd.nx<(ws.len:Int)/\0+(rvS P en ws dp i.snd).e.d.len<=(rvS P en ws dp i.snd).e.d.len/\0+(rvS P en ws dp i.snd).c.l.d.len<=(rvS P en ws dp i.snd).c.l.d.len/\0+(rvS P en ws dp i.snd).c.r.d.len<=(rvS P en ws dp i.snd).c.r.d.len/\0+(rvS P en ws dp i.snd).b.len<=(rvS P en ws dp i.snd).b.len/\0+(rvS P en ws dp i.snd).el.len<=(rvS P en ws dp i.snd).el.len/\0+(rvS P en ws dp i.snd).ar.len<=(rvS P en ws dp i.snd).ar.len/\i.fst.len=i.fst.len/\(i.fst.len+((D.l [(fw P en ws dp i)]).sub 0 1).len)*288<=140737488355328/\0+1<=(D.l [(fw P en ws dp i)]).len/\∃ (j:D × Rd),(aa ws j.snd.nx/\aj (stG ws) (stH P en ws dp) ws j.fst j.snd=smA P en ws dp (mR nx pa er)/\j.fst.len+left ws j.snd<=1000001/\nx<=j.snd.nx)/\left ws j.snd<left ws i.snd/\i.fst.len+((D.l [(fw P en ws dp i)]).sub 0 1).len=j.fst.len/\dp=dp/\ws.rows=ws.rows/\(rvR P en ws dp i.snd).nx=j.snd.nx/\en=en/\(rvR P en ws dp i.snd).pa=j.snd.pa/\(rvR P en ws dp i.snd).er=j.snd.er/\i.fst.rows++List.drop 0 (List.take 1 [(fw P en ws dp i)])=j.fst.rows)/\(((pkS ws i.snd.nx).toList==kwR.toList)=false->(((pkS ws i.snd.nx).toList==kwA.toList)=true->aa ws i.snd.nx/\0+(atC ws en i.snd).l.d.len<=(atC ws en i.snd).l.d.len/\0+(atC ws en i.snd).r.d.len<=(atC ws en i.snd).r.d.len/\i.fst.len=i.fst.len/\(i.fst.len+((D.l [(fx en ws i)]).sub 0 1).len)*288<=140737488355328/\0+1<=(D.l [(fx en ws i)]).len/\∃ (j:D × Rd),(aa ws j.snd.nx/\aj (stG ws) (stH P en ws dp) ws j.fst j.snd=smA P en ws dp (mR nx pa er)/\j.fst.len+left ws j.snd<=1000001/\nx<=j.snd.nx)/\left ws j.snd<left ws i.snd/\i.fst.len+((D.l [(fx en ws i)]).sub 0 1).len=j.fst.len/\dp=dp/\ws.rows=ws.rows/\(atR ws en i.snd).nx=j.snd.nx/\en=en/\(atR ws en i.snd).pa=j.snd.pa/\(atR ws en i.snd).er=j.snd.er/\i.fst.rows++List.drop 0 (List.take 1 [(fx en ws i)])=j.fst.rows)/\(((pkS ws i.snd.nx).toList==kwA.toList)=false->(((pkS ws i.snd.nx).toList==kwI.toList)=true->aa ws i.snd.nx/\i.fst.len=i.fst.len/\(i.fst.len+((D.l [(fB en ws i)]).sub 0 1).len)*288<=140737488355328/\0+1<=(D.l [(fB en ws i)]).len/\∃ (j:D × Rd),(aa ws j.snd.nx/\aj (stG ws) (stH P en ws dp) ws j.fst j.snd=smA P en ws dp (mR nx pa er)/\j.fst.len+left ws j.snd<=1000001/\nx<=j.snd.nx)/\left ws j.snd<left ws i.snd/\i.fst.len+((D.l [(fB en ws i)]).sub 0 1).len=j.fst.len/\dp=dp/\ws.rows=ws.rows/\(inR ws en i.snd).nx=j.snd.nx/\en=en/\(inR ws en i.snd).pa=j.snd.pa/\(inR ws en i.snd).er=j.snd.er/\i.fst.rows++List.drop 0 (List.take 1 [(fB en ws i)])=j.fst.rows)/\(((pkS ws i.snd.nx).toList==kwI.toList)=false->aa ws i.snd.nx/\((pkK ws i.snd.nx != (1:Int))=true->i.fst.len=(smA P en ws dp (mR nx pa er)).fst.len/\ws.rows=ws.rows/\i.snd.nx=(smA P en ws dp (mR nx pa er)).snd.nx/\en=en/\i.snd.pa=(smA P en ws dp (mR nx pa er)).snd.pa/\i.snd.er=(smA P en ws dp (mR nx pa er)).snd.er/\i.fst.rows=(smA P en ws dp (mR nx pa er)).fst.rows)/\((pkK ws i.snd.nx != (1:Int))=false->aa ws i.snd.nx/\0+(asE ws en i.snd).fst.d.len<=(asE ws en i.snd).fst.d.len/\i.fst.len=i.fst.len/\(i.fst.len+((D.l [(fA en ws i)]).sub 0 1).len)*288<=140737488355328/\0+1<=(D.l [(fA en ws i)]).len/\∃ (j:D × Rd),(aa ws j.snd.nx/\aj (stG ws) (stH P en ws dp) ws j.fst j.snd=smA P en ws dp (mR nx pa er)/\j.fst.len+left ws j.snd<=1000001/\nx<=j.snd.nx)/\left ws j.snd<left ws i.snd/\i.fst.len+((D.l [(fA en ws i)]).sub 0 1).len=j.fst.len/\dp=dp/\ws.rows=ws.rows/\(asR ws en i.snd).nx=j.snd.nx/\en=en/\(asR ws en i.snd).pa=j.snd.pa/\(asR ws en i.snd).er=j.snd.er/\i.fst.rows++List.drop 0 (List.take 1 [(fA en ws i)])=j.fst.rows)))))))) (by kernel_rfl) ?_
  intro h hd hl;refine ⟨⟨(.l [],mR nx pa er),⟨h,rfl,(by show 0+left ws (mR nx pa er)<=1000001;have:=(bo (r:=mR nx pa er) h).2;omega),Int.le_refl _⟩,(by (repeat' with_reducible constructor)<;>first |assumption |decide |rfl)⟩,?_⟩;rintro q ⟨h1,h2,h3,h4⟩;have l1:=cv (ws:=ws) (r:=mR nx pa er) (q:=q.2) h4;have hd2:aH ws q.2 dp:=⟨hd.1,by have:=hd.2;omega⟩;have lm:left ws q.2<m+1:=Nat.lt_of_le_of_lt l1 hl;have z:∀ n:Nat,0+n<=n:=fun n=>Nat.le_of_eq (Nat.zero_add n)
  have zb:(q.1.len+1)*288<=140737488355328:=by omega
  have fin:∀ (x:St) (r':Rd),stF P en ws dp q.2=(x,r')->stG ws q.2=true->(aa ws r'.nx/\aj (stG ws) (stH P en ws dp) ws (.l (q.1.rows++[x.row])) r'=smA P en ws dp (mR nx pa er)/\(D.l (q.1.rows++[x.row])).len+left ws r'<=1000001/\nx<=r'.nx)/\left ws r'<left ws q.2:=by
   intro x r' e hg;obtain ⟨u1,u2⟩:=(pm (hPa en ws) dp).up q.2 h1 hg;have hs:=cL (pm (hPa en ws) dp) (d:=q.1) h1 hg;have e2:stH P en ws dp q.2=(x.row,r'):=by unfold stH;rw[e]
   rw[e2] at u1 u2 hs;have u3:=da u1 h1 u2;exact ⟨⟨u1,hs.trans h2,(by rw[bf];have u4:left ws r'<left ws q.2:=u3;omega),Int.le_trans h4 (Int.le_of_lt u2)⟩,u3⟩
  refine ⟨h1,fun k0=>?_,fun k0=>?_⟩
  ·have k0:acB ws q.2.nx kwF=true:=k0;have hF:stF P en ws dp q.2=(cfS P en ws dp q.2,(cfB P en ws dp q.2).2):=if_pos k0;obtain ⟨f1,f2⟩:=fin _ _ hF (by simp only[stG,k0,Bool.true_or,Bool.or_true]);refine ⟨h1,hd2,lm,cK (by decide) k0,z _,z _,z _,z _,z _,z _,rfl,zb,Nat.le_refl 1,(.l (q.1.rows++[St.row (cfS P en ws dp q.2)]),(cfB P en ws dp q.2).2),f1,f2,?_⟩;simp only[fu,fv,fw,fx,fy,fA,fB,bu]
   (repeat' (with_reducible apply And.intro))<;>first |with_reducible rfl |exact True.intro |exact (bf _ _).symm |rfl
  have n0:¬ acB ws q.2.nx kwF=true:=by rw[show acB ws q.2.nx kwF=false from k0];decide
  refine ⟨fun k1=>?_,fun k1=>?_⟩
  ·have k1:acB ws q.2.nx kwW=true:=k1;have hF:stF P en ws dp q.2=(lpS P en ws dp q.2,(lpA P en ws dp q.2).2):=(if_neg n0).trans (if_pos k1);obtain ⟨f1,f2⟩:=fin _ _ hF (by simp only[stG,k1,Bool.true_or,Bool.or_true]);refine ⟨h1,hd2,lm,cK (by decide) k1,z _,z _,z _,z _,z _,z _,rfl,zb,Nat.le_refl 1,(.l (q.1.rows++[St.row (lpS P en ws dp q.2)]),(lpA P en ws dp q.2).2),f1,f2,?_⟩;simp only[fu,fv,fw,fx,fy,fA,fB,bu]
   (repeat' (with_reducible apply And.intro))<;>first |with_reducible rfl |exact True.intro |exact (bf _ _).symm |rfl
  have n1:¬ acB ws q.2.nx kwW=true:=by rw[show acB ws q.2.nx kwW=false from k1];decide
  refine ⟨fun k2=>?_,fun k2=>?_⟩
  ·have k2:acB ws q.2.nx kwS=true:=k2;have hF:stF P en ws dp q.2=(snS ws en q.2,snR ws en q.2):=(if_neg n0).trans ((if_neg n1).trans (if_pos k2));obtain ⟨f1,f2⟩:=fin _ _ hF (by simp only[stG,k2,Bool.true_or,Bool.or_true]);refine ⟨h1,z _,rfl,zb,Nat.le_refl 1,(.l (q.1.rows++[St.row (snS ws en q.2)]),snR ws en q.2),f1,f2,?_⟩;simp only[fu,fv,fw,fx,fy,fA,fB,bu]
   (repeat' (with_reducible apply And.intro))<;>first |with_reducible rfl |exact True.intro |exact (bf _ _).symm |rfl
  have n2:¬ acB ws q.2.nx kwS=true:=by rw[show acB ws q.2.nx kwS=false from k2];decide
  refine ⟨fun k3=>?_,fun k3=>?_⟩
  ·have k3:acB ws q.2.nx kwR=true:=k3;have hF:stF P en ws dp q.2=(rvS P en ws dp q.2,rvR P en ws dp q.2):=(if_neg n0).trans ((if_neg n1).trans ((if_neg n2).trans (if_pos k3)));obtain ⟨f1,f2⟩:=fin _ _ hF (by simp only[stG,k3,Bool.true_or,Bool.or_true]);refine ⟨h1,hd2,lm,cK (by decide) k3,z _,z _,z _,z _,z _,z _,rfl,zb,Nat.le_refl 1,(.l (q.1.rows++[St.row (rvS P en ws dp q.2)]),rvR P en ws dp q.2),f1,f2,?_⟩;simp only[fu,fv,fw,fx,fy,fA,fB,bu]
   (repeat' (with_reducible apply And.intro))<;>first |with_reducible rfl |exact True.intro |exact (bf _ _).symm |rfl
  have n3:¬ acB ws q.2.nx kwR=true:=by rw[show acB ws q.2.nx kwR=false from k3];decide
  refine ⟨fun k4=>?_,fun k4=>?_⟩
  ·have k4:acB ws q.2.nx kwA=true:=k4;have hF:stF P en ws dp q.2=(atS ws en q.2,atR ws en q.2):=(if_neg n0).trans ((if_neg n1).trans ((if_neg n2).trans ((if_neg n3).trans (if_pos k4))));obtain ⟨f1,f2⟩:=fin _ _ hF (by simp only[stG,k4,Bool.true_or,Bool.or_true]);refine ⟨h1,z _,z _,rfl,zb,Nat.le_refl 1,(.l (q.1.rows++[St.row (atS ws en q.2)]),atR ws en q.2),f1,f2,?_⟩;simp only[fu,fv,fw,fx,fy,fA,fB,bu]
   (repeat' (with_reducible apply And.intro))<;>first |with_reducible rfl |exact True.intro |exact (bf _ _).symm |rfl
  have n4:¬ acB ws q.2.nx kwA=true:=by rw[show acB ws q.2.nx kwA=false from k4];decide
  refine ⟨fun k5=>?_,fun k5=>?_⟩
  ·have k5:acB ws q.2.nx kwI=true:=k5;have hF:stF P en ws dp q.2=(inS ws en q.2,inR ws en q.2):=(if_neg n0).trans ((if_neg n1).trans ((if_neg n2).trans ((if_neg n3).trans ((if_neg n4).trans (if_pos k5)))));obtain ⟨f1,f2⟩:=fin _ _ hF (by simp only[stG,k5,Bool.true_or,Bool.or_true]);refine ⟨h1,rfl,zb,Nat.le_refl 1,(.l (q.1.rows++[St.row (inS ws en q.2)]),inR ws en q.2),f1,f2,?_⟩;simp only[fu,fv,fw,fx,fy,fA,fB,bu]
   (repeat' (with_reducible apply And.intro))<;>first |with_reducible rfl |exact True.intro |exact (bf _ _).symm |rfl
  have n5:¬ acB ws q.2.nx kwI=true:=by rw[show acB ws q.2.nx kwI=false from k5];decide
  refine ⟨h1,fun hc=>?_,fun hc=>?_⟩
  ·have hk:pkK ws q.2.nx≠1:=by simpa using hc
   have hg:stG ws q.2=false:=by simp only[stG,Bool.eq_false_iff.2 n0,Bool.eq_false_iff.2 n1,Bool.eq_false_iff.2 n2,Bool.eq_false_iff.2 n3,Bool.eq_false_iff.2 n4,Bool.eq_false_iff.2 n5,decide_eq_false hk,Bool.or_false]
   have h2:(q.1,q.2)=smA P en ws dp (mR nx pa er):=(bv hg).symm.trans h2;rw[<- h2]
   (repeat' with_reducible constructor)<;>first |assumption |decide |rfl
  ·have hk:pkK ws q.2.nx=1:=by simpa using hc
   have hF:stF P en ws dp q.2=(asS ws en q.2,asR ws en q.2):=(if_neg n0).trans ((if_neg n1).trans ((if_neg n2).trans ((if_neg n3).trans ((if_neg n4).trans (if_neg n5)))));obtain ⟨f1,f2⟩:=fin _ _ hF (by simp only[stG,decide_eq_true hk,Bool.or_true]);refine ⟨h1,z _,rfl,zb,Nat.le_refl 1,(.l (q.1.rows++[St.row (asS ws en q.2)]),asR ws en q.2),f1,f2,?_⟩;simp only[fu,fv,fw,fx,fy,fA,fB,bu]
   (repeat' (with_reducible apply And.intro))<;>first |with_reducible rfl |exact True.intro |exact (bf _ _).symm |rfl
 ·trivial
def stR:Nat->PB
 | 0=>fun _ _ _ r=>(.l [],r)
 |m+1=>smA (stR m)
theorem pn:∀ (m:Nat) (en:Int) (ws:D) (dp:Int),PbOK ws (stR m en ws dp)
 | 0,_,_,_=>⟨fun _ h=>⟨Int.le_refl _,h⟩⟩
 |m+1,en,ws,dp=>HM (pn m) en ws dp
theorem HP {F:PB}:ConOK Tryz.prog 81 (ft F 0):=by
 refine ⟨fun _ _=>by kernel_rfl,fun hp fr args e he hv=>?_,fun hp fr caps e h=>by cases h⟩;exfalso;obtain ⟨ds,e1,sg,ps1,ps2,hs,hvc,_⟩:=oZ he;rw[hvc] at hv;obtain ⟨_,hv⟩:=all_append.1 hv;obtain ⟨_,hv⟩:=all_append.1 hv;unfold y2 at hs
 split at hs
 ·simp only[Option.some.injEq,Prod.mk.injEq] at hs;obtain ⟨rfl,rfl⟩:=hs;exact Nat.not_lt_zero _ hv.2.2.1
 ·cases hs
theorem zp:∀ m,ConOK Tryz.prog 81 (ft (stR m) m)
 | 0=>HP
 |m+1=>HO (P:=stR m) (m:=m) (zp m) (pn m)
def stX:PB:=stR 1000001
theorem HQ:ConOK Tryz.prog 81 (ft stX 1000001):=zp 1000001
theorem zr (en:Int) (ws:D) (dp:Int):PbOK ws (stX en ws dp):=pn 1000001 en ws dp
attribute [irreducible] stX
def kwC:ByteArray:=⟨#[99,104,97,110]⟩
def kwU:ByteArray:=⟨#[114,117,108,101]⟩
def kwP:ByteArray:=⟨#[112,114,111,99]⟩
def kwV:ByteArray:=⟨#[118,97,114]⟩
def coB:ByteArray:=⟨#[44]⟩
def kwO:ByteArray:=⟨#[102,114,111,109]⟩
def kwT:ByteArray:=⟨#[116,111]⟩
def kwB:ByteArray:=⟨#[98,108,111,99,107]⟩
def kwD:ByteArray:=⟨#[100,114,111,112]⟩
def kwY:ByteArray:=⟨#[108,111,115,115,121]⟩
def acG (t:ByteArray) (ws:D) (r:Rd):Bool:=acB ws r.nx t
theorem mP {ws:D} {t:ByteArray} {r:Rd} (ha:acB ws r.nx t=true):r.nx<(acR ws t r).nx:=by
 rw[ju ha];exact Int.lt_succ _
def ckK (ws:D) (r:Rd):Int:=if acB ws r.nx kwB=true then 0 else if acB ws (acR ws kwB r).nx kwD=true then 1 else 2
def ckR (ws:D) (en:Int) (r:Rd):Rd:=if acB ws r.nx kwB=true then acR ws kwB r else if acB ws (acR ws kwB r).nx kwD=true then acR ws kwD (acR ws kwB r) else exR ws en kwY (acR ws kwD (acR ws kwB r))
theorem sO {ws:D} (en:Int) {r:Rd} (h:aa ws r.nx):aa ws (acR ws kwB r).nx/\aa ws (acR ws kwD (acR ws kwB r)).nx/\aa ws (ckR ws en r).nx/\r.nx<=(ckR ws en r).nx:=by
 have a:=dK (t:=kwB) h (by decide);have b:=dK (t:=kwD) a.1 (by decide);have c:=a9 en (t:=kwY) b.1 (by decide);refine ⟨a.1,b.1,?_⟩;unfold ckR;split
 ·exact a
 ·split
  ·exact ⟨b.1,Int.le_trans a.2 b.2⟩
  ·exact ⟨c.1,Int.le_trans a.2 (Int.le_trans b.2 c.2)⟩
structure Ch where
 nm:ByteArray
 k:Int
 n:Int
 fr:ByteArray
 to:ByteArray
 tg:D
def Ch.row (c:Ch):List D:=[.s c.nm,.i c.k,.i c.n,.s c.fr,.s c.to,.l c.tg.rows]
def po (ws:D) (en:Int) (r:Rd):Rd:=ckR ws en (nmR ws en r)
def pp (ws:D) (en:Int) (r:Rd):Rd:=exR ws en kwO (nuR ws en (po ws en r))
def pq (ws:D) (en:Int) (r:Rd):Rd:=exR ws en kwT (nmR ws en (pp ws en r))
def gJ (ws:D) (en:Int) (r:Rd):Rd:=exR ws en obB (nmR ws en (pq ws en r))
def tgF (ws:D) (en:Int) (r:Rd):List D × Rd:=([.s (nmS ws (acR ws coB r))],nmR ws en (acR ws coB r))
def chT (ws:D) (en:Int) (r:Rd):D × Rd:=aj (acG coB ws) (tgF ws en) ws (.l [[.s (nmS ws (gJ ws en r))]]) (nmR ws en (gJ ws en r))
def chZ (ws:D) (en:Int) (r:Rd):Ch:=⟨nmS ws r,ckK ws (nmR ws en r),nuN ws (po ws en r),nmS ws (pp ws en r),nmS ws (pq ws en r),(chT ws en r).1⟩
def chR (ws:D) (en:Int) (r:Rd):Rd:=exR ws en seB (exR ws en cbB (chT ws en r).2)
theorem pu {ws:D} (en:Int):SqOK ws (acG coB ws) (tgF ws en):=⟨fun r h hg=>by
 have a:=dK (t:=coB) h (by decide);have b:=bT en a.1;exact ⟨b.1,Int.lt_of_lt_of_le (mP hg) b.2⟩⟩
theorem zt {ws:D} (en:Int) {r:Rd} (h:aa ws r.nx):(aa ws (nmR ws en r).nx/\aa ws (po ws en r).nx/\aa ws (nuR ws en (po ws en r)).nx/\aa ws (pp ws en r).nx/\aa ws (nmR ws en (pp ws en r)).nx/\aa ws (pq ws en r).nx/\aa ws (nmR ws en (pq ws en r)).nx/\aa ws (gJ ws en r).nx/\aa ws (nmR ws en (gJ ws en r)).nx)/\aa ws (chT ws en r).2.nx/\aa ws (exR ws en cbB (chT ws en r).2).nx/\aa ws (chR ws en r).nx/\r.nx<=(chR ws en r).nx:=by
 have a:=bT en h;have b:=(sO en a.1).2.2;have c:=jy en b.1;have d:=a9 en (t:=kwO) c.1 (by decide);have e:=bT en d.1;have f:=a9 en (t:=kwT) e.1 (by decide);have g:=bT en f.1;have i:=a9 en (t:=obB) g.1 (by decide);have j:=bT en i.1;have k:=dz (pu en) (.l [[.s (nmS ws (gJ ws en r))]]) j.1;have l:=a9 en (t:=cbB) k.1 (by decide);have m:=a9 en (t:=seB) l.1 (by decide);exact ⟨⟨a.1,b.1,c.1,d.1,e.1,f.1,g.1,i.1,j.1⟩,k.1,l.1,m.1,Int.le_trans a.2 (Int.le_trans b.2 (Int.le_trans c.2 (Int.le_trans d.2 (Int.le_trans e.2 (Int.le_trans f.2 (Int.le_trans g.2 (Int.le_trans i.2 (Int.le_trans j.2 (Int.le_trans k.2 (Int.le_trans l.2 m.2))))))))))⟩
noncomputable def zu:List Dat->Option (Eff × List Seg):=fun ds=>match ds with
 | [.d ws,.i nx,.i en,.i pa,.i er]=>some ({val:=.one (.sc (.int .i64 (.sym (ckK ws (mR nx pa er))))),vc:=[aa ws nx]},[.c (.rows 124 ws),.c (.int .i64 (.sym ((ckR ws en (mR nx pa er)).nx))),.c (.int .i64 (.sym en)),.c (.int .i64 (.sym ((ckR ws en (mR nx pa er)).pa))),.c (.int .i64 (.sym ((ckR ws en (mR nx pa er)).er)))])
 |_=>none
noncomputable def zw:Con:=ba 85 [.c (.rows 124),.c (.int .i64),.c (.int .i64),.c (.int .i64),.c (.int .i64)] [] zu
theorem HS:ConOK Tryz.prog 78 zw:=by
 refine bk tt_ok au Tryz.func78 rfl (fun _ _=>by kernel_rfl) (A:=fun ds=>⟨fun _=>Cons.of [(45,jx),(80,dy)],fun _=>none,fun _=>none⟩) (fun _ _=>(af kE (af dJ aq))) (by kernel_rfl) ?_
 intro ds;unfold zu;split
 ·rename_i ws nx en pa er;refine kmp (q:=ac (acR ws kwB (mR nx pa er)) fun Ea=>ac (ckR ws en (mR nx pa er)) fun Eb=>ac (exR ws en kwY (acR ws kwD Ea)) fun Ec=>aa ws nx->aa ws nx/\0<kwB.size/\(acB ws nx kwB=true->(0:Int)=ckK ws (mR nx pa er)/\ws.rows=ws.rows/\Ea.nx=Eb.nx/\en=en/\Ea.pa=Eb.pa/\Ea.er=Eb.er)/\(acB ws nx kwB=false->aa ws Ea.nx/\0<kwD.size/\(acB ws Ea.nx kwD=true->(1:Int)=ckK ws (mR nx pa er)/\ws.rows=ws.rows/\(acR ws kwD Ea).nx=Eb.nx/\en=en/\(acR ws kwD Ea).pa=Eb.pa/\(acR ws kwD Ea).er=Eb.er)/\(acB ws Ea.nx kwD=false->aa ws (acR ws kwD Ea).nx/\0<kwY.size/\(2:Int)=ckK ws (mR nx pa er)/\ws.rows=ws.rows/\Ec.nx=Eb.nx/\en=en/\Ec.pa=Eb.pa/\Ec.er=Eb.er))) (by kernel_rfl) ?_
  dsimp +instances only [ac]
  intro h;obtain ⟨a,b,c,d⟩:=sO en (r:=mR nx pa er) h;refine ⟨h,by decide,fun hc=>?_,fun hc=>?_⟩
  ·have hc:acB ws (mR nx pa er).nx kwB=true:=hc;simp only[ckR,ckK,if_pos hc]
   (repeat' with_reducible constructor)<;>first |assumption |decide |rfl
  ·have hc:¬ acB ws (mR nx pa er).nx kwB=true:=by rw[show acB ws (mR nx pa er).nx kwB=false from hc];decide
   refine ⟨a,by decide,fun hd=>?_,fun hd=>?_⟩
   ·have hd:acB ws (acR ws kwB (mR nx pa er)).nx kwD=true:=hd;simp only[ckR,ckK,if_neg hc,if_pos hd]
    (repeat' with_reducible constructor)<;>first |assumption |decide |rfl
   ·have hd:¬ acB ws (acR ws kwB (mR nx pa er)).nx kwD=true:=by rw[show acB ws (acR ws kwB (mR nx pa er)).nx kwD=false from hd];decide
    simp only[ckR,ckK,if_neg hc,if_neg hd]
    (repeat' with_reducible constructor)<;>first |assumption |decide |rfl
 ·trivial
noncomputable def zx:List Dat->Option (Eff × List Seg):=fun ds=>match ds with
 | [.d ws,.i nx,.i en,.i pa,.i er]=>some ({val:=.one (.agg [.c (.raw (.string ((chZ ws en (mR nx pa er)).nm))),.c (.int .i64 (.sym ((chZ ws en (mR nx pa er)).k))),.c (.int .i64 (.sym ((chZ ws en (mR nx pa er)).n))),.c (.raw (.string ((chZ ws en (mR nx pa er)).fr))),.c (.raw (.string ((chZ ws en (mR nx pa er)).to))),.c (.osl 9 0 (.lit 0) (.sym ((chZ ws en (mR nx pa er)).tg.len)))]),vc:=[aa ws nx],nw:=[(0,.orow 9 ((chZ ws en (mR nx pa er)).tg))]},[.c (.rows 124 ws),.c (.int .i64 (.sym ((chR ws en (mR nx pa er)).nx))),.c (.int .i64 (.sym en)),.c (.int .i64 (.sym ((chR ws en (mR nx pa er)).pa))),.c (.int .i64 (.sym ((chR ws en (mR nx pa er)).er)))])
 |_=>none
noncomputable def zy:Con:=ba 85 [.c (.rows 124),.c (.int .i64),.c (.int .i64),.c (.int .i64),.c (.int .i64)] [] zx
theorem HU:ConOK Tryz.prog 46 zy:=by
 refine bk tt_ok au Tryz.func46 rfl (fun _ _=>by kernel_rfl) (A:=fun ds=>⟨fun _=>Cons.of [(77,f9),(78,zw),(79,o6),(80,dy),(45,jx)],fun k=>match k,ds with | 8,[.d ws,.i nx,.i en,.i pa,.i er]=>some {ι:=D × Rd,pre:=fun _ q=>aa ws q.2.nx/\(aj (acG coB ws) (tgF ws en) ws q.1 q.2=chT ws en (mR nx pa er))/\q.1.len+left ws q.2<=1000001,μ:=fun q=>left ws q.2,st:=fun s q=>aV s [] [0,2,3] [(0,.own 85 ([.c (.rows 124 ws),.c (.int .i64 (.sym ((q.2).nx))),.c (.int .i64 (.sym en)),.c (.int .i64 (.sym ((q.2).pa))),.c (.int .i64 (.sym ((q.2).er)))])),(bj s 3,.own 101 ([.c (.raw (.string ((chZ ws en (mR nx pa er)).nm))),.c (.int .i64 (.sym ((chZ ws en (mR nx pa er)).k))),.c (.int .i64 (.sym ((chZ ws en (mR nx pa er)).n))),.c (.raw (.string ((chZ ws en (mR nx pa er)).fr))),.c (.raw (.string ((chZ ws en (mR nx pa er)).to))),.c (.osl 9 (cT s 3 5) (.lit 0) (.sym (q.1.len)))])),(cT s 3 5,.orow 9 (q.1))] [2]} |_,_=>none,fun _=>none⟩) (fun _ _=>(af gD (af HS (af sr (af dJ (af kE aq)))))) (by kernel_rfl) ?_
 intro ds;unfold zx;split
 ·rename_i ws nx en pa er
  refine kmp (q:=ac (exR ws en kwT (nmR ws en (exR ws en kwO (nuR ws en (ckR ws en (nmR ws en (mR nx pa er))))))) fun Ea=>ac (chZ ws en (mR nx pa er)) fun Eb=>ac (ckR ws en (nmR ws en (mR nx pa er))) fun Ec=>ac (exR ws en obB (nmR ws en Ea)) fun Ed=>ac (fun (i:D × Rd)=>exR ws en seB (exR ws en cbB (acR ws coB i.snd))) fun Ee=>ac (exR ws en kwO (nuR ws en Ec)) fun Ef=>ac (fun (i:D × Rd)=>D.l [[D.s (nmS ws (acR ws coB i.snd))]]) fun Eg=>aa ws nx->aa ws nx/\aa ws (nmR ws en (mR nx pa er)).nx/\aa ws Ec.nx/\aa ws (nuR ws en Ec).nx/\0<kwO.size/\aa ws Ef.nx/\aa ws (nmR ws en Ef).nx/\0<kwT.size/\aa ws Ea.nx/\aa ws (nmR ws en Ea).nx/\0<obB.size/\aa ws Ed.nx/\((0:Nat)+((D.l [[D.s (nmS ws Ed)]]).sub 0 1).len)*16<=140737488355328/\0+1<=(D.l [[D.s (nmS ws Ed)]]).len/\(∃ (i:D × Rd),(aa ws i.snd.nx/\aj (acG coB ws) (tgF ws en) ws i.fst i.snd=chT ws en (mR nx pa er)/\i.fst.len+left ws i.snd<=(1000001:Nat))/\ws.rows=ws.rows/\(nmR ws en Ed).nx=i.snd.nx/\en=en/\(nmR ws en Ed).pa=i.snd.pa/\(nmR ws en Ed).er=i.snd.er/\Value.string (nmS ws (mR nx pa er))=Value.string Eb.nm/\ckK ws (nmR ws en (mR nx pa er))=Eb.k/\nuN ws Ec=Eb.n/\Value.string (nmS ws Ef)=Value.string Eb.fr/\Value.string (nmS ws Ea)=Value.string Eb.to/\1=i.fst.len /\ []++List.drop 0 (List.take 1 [[D.s (nmS ws Ed)]])=i.fst.rows/\Value.string ByteArray.empty=Value.string ByteArray.empty/\(0:Int)=0/\(0:Int)=0/\Value.string ByteArray.empty=Value.string ByteArray.empty/\Value.string ByteArray.empty=Value.string ByteArray.empty)/\∀ (i:D × Rd),aa ws i.snd.nx/\aj (acG coB ws) (tgF ws en) ws i.fst i.snd=chT ws en (mR nx pa er)/\i.fst.len+left ws i.snd<=1000001->aa ws i.snd.nx/\0<coB.size/\(acB ws i.snd.nx coB=true->aa ws (acR ws coB i.snd).nx/\i.fst.len=i.fst.len/\(i.fst.len+((Eg i).sub 0 1).len)*16<=140737488355328/\0+1<=(Eg i).len/\∃ (j:D × Rd),(aa ws j.snd.nx/\aj (acG coB ws) (tgF ws en) ws j.fst j.snd=chT ws en (mR nx pa er)/\j.fst.len+left ws j.snd<=(1000001:Nat))/\left ws j.snd<left ws i.snd/\ws.rows=ws.rows/\(nmR ws en (acR ws coB i.snd)).nx=j.snd.nx/\en=en/\(nmR ws en (acR ws coB i.snd)).pa=j.snd.pa/\(nmR ws en (acR ws coB i.snd)).er=j.snd.er/\Value.string Eb.nm=Value.string Eb.nm/\Eb.k=Eb.k/\Eb.n=Eb.n/\Value.string Eb.fr=Value.string Eb.fr/\Value.string Eb.to=Value.string Eb.to/\i.fst.len+((Eg i).sub 0 1).len=j.fst.len/\i.fst.rows++List.drop 0 (List.take 1 [[D.s (nmS ws (acR ws coB i.snd))]])=j.fst.rows/\Value.string ByteArray.empty=Value.string ByteArray.empty/\(0:Int)=0/\(0:Int)=0/\Value.string ByteArray.empty=Value.string ByteArray.empty/\Value.string ByteArray.empty=Value.string ByteArray.empty)/\(acB ws i.snd.nx coB=false->aa ws (acR ws coB i.snd).nx/\0<cbB.size/\aa ws (exR ws en cbB (acR ws coB i.snd)).nx/\0<seB.size/\Value.string Eb.nm=Value.string Eb.nm/\Eb.k=Eb.k/\Eb.n=Eb.n/\Value.string Eb.fr=Value.string Eb.fr/\Value.string Eb.to=Value.string Eb.to/\i.fst.len=Eb.tg.len/\ws.rows=ws.rows/\(Ee i).nx=(chR ws en (mR nx pa er)).nx/\en=en/\(Ee i).pa=(chR ws en (mR nx pa er)).pa/\(Ee i).er=(chR ws en (mR nx pa er)).er/\i.fst.rows=Eb.tg.rows)) (by kernel_rfl) ?_
  dsimp +instances only [ac]
  intro h;obtain ⟨⟨a,b,c,d,e,f,g,i,j⟩,k,l,m,n⟩:=zt en (r:=mR nx pa er) h;have l0:=(bo j).2;refine ⟨h,a,b,c,by decide,d,e,by decide,f,g,by decide,i,(by show (0+1)*16<=140737488355328;decide),Nat.le_refl 1,⟨(.l [[.s (nmS ws (gJ ws en (mR nx pa er)))]],nmR ws en (gJ ws en (mR nx pa er))),⟨j,rfl,(by show 1+left ws (nmR ws en (gJ ws en (mR nx pa er)))<=1000001;omega)⟩,?_⟩,?_⟩
  ·(repeat' with_reducible constructor)<;>first |assumption |decide |rfl
  rintro q ⟨h1,h2,h3⟩;refine ⟨h1,by decide,fun hc=>?_,fun hc=>?_⟩
  ·have hg:acG coB ws q.2=true:=hc;obtain ⟨u1,u2⟩:=(pu en).up q.2 h1 hg;have u3:=da u1 h1 u2;have hs:=cL (pu en) (d:=q.1) h1 hg;have hz:(q.1.len+1)*16<=140737488355328:=by omega
   have hl:(D.l (q.1.rows++[(tgF ws en q.2).1])).len+left ws (tgF ws en q.2).2<=1000001:=by rw[bf];omega
   refine ⟨(dK (t:=coB) h1 (by decide)).1,rfl,hz,Nat.le_refl 1,(.l (q.1.rows++[(tgF ws en q.2).1]),(tgF ws en q.2).2),⟨u1,hs.trans h2,hl⟩,u3,?_⟩
   (repeat' (with_reducible apply And.intro))<;>first |with_reducible rfl |exact True.intro |exact (bf _ _).symm |rfl
  ·have hg:acG coB ws q.2=false:=hc;have h2:(q.1,q.2)=chT ws en (mR nx pa er):=(bv hg).symm.trans h2;have f1:=(a9 en (t:=cbB) h1 (by decide)).1;rw[dI (r:=q.2) hc];simp only[chZ,chR,<- h2]
   (repeat' with_reducible constructor)<;>first |assumption |decide |rfl
 ·trivial
structure Ru where
 ch:ByteArray
 mv:D
def Ru.row (c:Ru):List D:=[.s c.ch,.l c.mv.rows]
def ruA (ws:D) (en:Int) (r:Rd):Rd:=exR ws en obB (nmR ws en r)
def mvG (ws:D) (r:Rd):Bool:=decide (pkK ws r.nx=2)
def mvX (ws:D) (en:Int) (r:Rd):Rd:=nuR ws en (nmR ws en (nuR ws en r))
def mvF (ws:D) (en:Int) (r:Rd):List D × Rd:=([.i (nuN ws r),.s (nmS ws (nuR ws en r)),.i (nuN ws (nmR ws en (nuR ws en r)))],exR ws en seB (mvX ws en r))
def ruM (ws:D) (en:Int) (r:Rd):D × Rd:=aj (mvG ws) (mvF ws en) ws (.l []) (ruA ws en r)
def ruZ (ws:D) (en:Int) (r:Rd):Ru:=⟨nmS ws r,(ruM ws en r).1⟩
def ruR (ws:D) (en:Int) (r:Rd):Rd:=exR ws en cbB (ruM ws en r).2
theorem mQ {ws:D} (en:Int):SqOK ws (mvG ws) (mvF ws en):=⟨fun r h hg=>by
 have hk:pkK ws r.nx=2:=of_decide_eq_true hg;have a:=jy en h;have e:(nuR ws en r).nx=r.nx+1:=by rw[show nuR ws en r=gx r from if_pos hk];rfl
 have b:=bT en a.1;have c:=jy en b.1;have d:=a9 en (t:=seB) c.1 (by decide);refine ⟨d.1,?_⟩;have h9:(nuR ws en r).nx<=(exR ws en seB (mvX ws en r)).nx:=Int.le_trans b.2 (Int.le_trans c.2 d.2);show r.nx<(exR ws en seB (mvX ws en r)).nx
 omega⟩
theorem zA {ws:D} (en:Int) {r:Rd} (h:aa ws r.nx):aa ws (nmR ws en r).nx/\aa ws (ruA ws en r).nx/\aa ws (ruM ws en r).2.nx/\aa ws (ruR ws en r).nx/\r.nx<=(ruR ws en r).nx:=by
 have a:=bT en h;have b:=a9 en (t:=obB) a.1 (by decide);have k:=dz (mQ en) (.l []) b.1;have l:=a9 en (t:=cbB) k.1 (by decide);exact ⟨a.1,b.1,k.1,l.1,Int.le_trans a.2 (Int.le_trans b.2 (Int.le_trans k.2 l.2))⟩
structure Po where
 nm:ByteArray
 vs:D
 b:D
def Po.row (c:Po):List D:=[.s c.nm,.l c.vs.rows,.l c.b.rows]
def vrF (ws:D) (en:Int) (r:Rd):List D × Rd:=([.s (nmS ws (acR ws kwV r))],exR ws en seB (nmR ws en (acR ws kwV r)))
def poV (ws:D) (en:Int) (r:Rd):D × Rd:=aj (acG kwV ws) (vrF ws en) ws (.l []) (ruA ws en r)
def poB (ws:D) (en:Int) (r:Rd):D × Rd:=stX en ws 0 (poV ws en r).2
def poZ (ws:D) (en:Int) (r:Rd):Po:=⟨nmS ws r,(poV ws en r).1,(poB ws en r).1⟩
def poR (ws:D) (en:Int) (r:Rd):Rd:=exR ws en cbB (poB ws en r).2
theorem pw {ws:D} (en:Int):SqOK ws (acG kwV ws) (vrF ws en):=⟨fun r h hg=>by
 have a:=dK (t:=kwV) h (by decide);have b:=bT en a.1;have d:=a9 en (t:=seB) b.1 (by decide);exact ⟨d.1,Int.lt_of_lt_of_le (mP hg) (Int.le_trans b.2 d.2)⟩⟩
theorem zB {ws:D} (en:Int) {r:Rd} (h:aa ws r.nx):aa ws (nmR ws en r).nx/\aa ws (ruA ws en r).nx/\aa ws (poV ws en r).2.nx/\aa ws (poB ws en r).2.nx/\aa ws (poR ws en r).nx/\r.nx<=(poR ws en r).nx:=by
 have a:=bT en h;have b:=a9 en (t:=obB) a.1 (by decide);have k:=dz (pw en) (.l []) b.1;have m:=(zr en ws 0).up _ k.1;have l:=a9 en (t:=cbB) m.2 (by decide);exact ⟨a.1,b.1,k.1,m.2,l.1,Int.le_trans a.2 (Int.le_trans b.2 (Int.le_trans k.2 (Int.le_trans m.1 l.2)))⟩
noncomputable def zC:List Dat->Option (Eff × List Seg):=fun ds=>match ds with
 | [.d ws,.i nx,.i en,.i pa,.i er]=>some ({val:=.one (.agg [.c (.raw (.string ((ruZ ws en (mR nx pa er)).ch))),.c (.osl 110 0 (.lit 0) (.sym ((ruZ ws en (mR nx pa er)).mv.len)))]),vc:=[aa ws nx],nw:=[(0,.orow 110 ((ruZ ws en (mR nx pa er)).mv))]},[.c (.rows 124 ws),.c (.int .i64 (.sym ((ruR ws en (mR nx pa er)).nx))),.c (.int .i64 (.sym en)),.c (.int .i64 (.sym ((ruR ws en (mR nx pa er)).pa))),.c (.int .i64 (.sym ((ruR ws en (mR nx pa er)).er)))])
 |_=>none
noncomputable def zD:Con:=ba 85 [.c (.rows 124),.c (.int .i64),.c (.int .i64),.c (.int .i64),.c (.int .i64)] [] zC
theorem HV:ConOK Tryz.prog 47 zD:=by
 refine bk tt_ok au Tryz.func47 rfl (fun _ _=>by kernel_rfl) (A:=fun ds=>⟨fun _=>Cons.of [(77,f9),(79,o6),(80,dy),(76,eD)],fun k=>match k,ds with | 3,[.d ws,.i nx,.i en,.i pa,.i er]=>some {ι:=D × Rd,pre:=fun _ q=>aa ws q.2.nx/\(aj (mvG ws) (mvF ws en) ws q.1 q.2=ruM ws en (mR nx pa er))/\q.1.len+left ws q.2<=1000001,μ:=fun q=>left ws q.2,st:=fun s q=>gh s [] [0,2,3] [(0,.own 85 ([.c (.rows 124 ws),.c (.int .i64 (.sym ((q.2).nx))),.c (.int .i64 (.sym en)),.c (.int .i64 (.sym ((q.2).pa))),.c (.int .i64 (.sym ((q.2).er)))])),(bj s 3,.own 106 ([.c (.raw (.string ((ruZ ws en (mR nx pa er)).ch))),.c (.osl 110 s.nx (.lit 0) (.sym (q.1.len)))])),(s.nx,.orow 110 (q.1))] [2]} |_,_=>none,fun _=>none⟩) (fun _ _=>(af gD (af sr (af dJ (af eT aq))))) (by kernel_rfl) ?_
 intro ds;unfold zC;split
 ·rename_i ws nx en pa er;refine kmp (q:=ac (fun (i:D × Rd)=>D.l [[D.i (nuN ws i.snd),D.s (nmS ws (nuR ws en i.snd)),D.i (nuN ws (nmR ws en (nuR ws en i.snd)))]]) fun Ea=>ac (ruZ ws en (mR nx pa er)) fun Eb=>ac (fun (i:D × Rd)=>nmR ws en (nuR ws en i.snd)) fun Ec=>ac (exR ws en obB (nmR ws en (mR nx pa er))) fun Ed=>aa ws nx->aa ws nx/\aa ws (nmR ws en (mR nx pa er)).nx/\0<obB.size/\(∃ (i:D × Rd),(aa ws i.snd.nx/\aj (mvG ws) (mvF ws en) ws i.fst i.snd=ruM ws en (mR nx pa er)/\i.fst.len+left ws i.snd<=(1000001:Nat))/\ws.rows=ws.rows/\Ed.nx=i.snd.nx/\en=en/\Ed.pa=i.snd.pa/\Ed.er=i.snd.er/\Value.string (nmS ws (mR nx pa er))=Value.string Eb.ch/\i.fst.len=0/\i.fst.rows=[]/\Value.string ByteArray.empty=Value.string ByteArray.empty)/\∀ (i:D × Rd),aa ws i.snd.nx/\aj (mvG ws) (mvF ws en) ws i.fst i.snd=ruM ws en (mR nx pa er)/\i.fst.len+left ws i.snd<=1000001->aa ws i.snd.nx/\((pkK ws i.snd.nx==(2:Int))=true->aa ws i.snd.nx/\aa ws (nuR ws en i.snd).nx/\aa ws (Ec i).nx/\i.fst.len=i.fst.len/\(i.fst.len+((Ea i).sub 0 1).len)*32<=140737488355328/\0+1<=(Ea i).len/\aa ws (nuR ws en (Ec i)).nx/\0<seB.size/\∃ (j:D × Rd),(aa ws j.snd.nx/\aj (mvG ws) (mvF ws en) ws j.fst j.snd=ruM ws en (mR nx pa er)/\j.fst.len+left ws j.snd<=(1000001:Nat))/\left ws j.snd<left ws i.snd/\ws.rows=ws.rows/\(exR ws en seB (nuR ws en (Ec i))).nx=j.snd.nx/\en=en/\(exR ws en seB (nuR ws en (Ec i))).pa=j.snd.pa/\(exR ws en seB (nuR ws en (Ec i))).er=j.snd.er/\Value.string Eb.ch=Value.string Eb.ch/\i.fst.len+((Ea i).sub 0 1).len=j.fst.len/\i.fst.rows++List.drop 0 (List.take 1 [[D.i (nuN ws i.snd),D.s (nmS ws (nuR ws en i.snd)),D.i (nuN ws (Ec i))]])=j.fst.rows/\Value.string ByteArray.empty=Value.string ByteArray.empty)/\((pkK ws i.snd.nx==(2:Int))=false->aa ws i.snd.nx/\0<cbB.size/\Value.string Eb.ch=Value.string Eb.ch/\i.fst.len=Eb.mv.len/\ws.rows=ws.rows/\(exR ws en cbB i.snd).nx=(ruR ws en (mR nx pa er)).nx/\en=en/\(exR ws en cbB i.snd).pa=(ruR ws en (mR nx pa er)).pa/\(exR ws en cbB i.snd).er=(ruR ws en (mR nx pa er)).er/\i.fst.rows=Eb.mv.rows)) (by kernel_rfl) ?_
  dsimp +instances only [ac]
  intro h;obtain ⟨a,b,c,d,e⟩:=zA en (r:=mR nx pa er) h;have l0:=(bo b).2;refine ⟨h,a,by decide,⟨(.l [],ruA ws en (mR nx pa er)),⟨b,rfl,(by show 0+left ws (ruA ws en (mR nx pa er))<=1000001;omega)⟩,?_⟩,?_⟩
  ·(repeat' with_reducible constructor)<;>first |assumption |decide |rfl
  rintro q ⟨h1,h2,h3⟩;refine ⟨h1,fun hc=>?_,fun hc=>?_⟩
  ·have hg:mvG ws q.2=true:=decide_eq_true (eq_of_beq hc);obtain ⟨u1,u2⟩:=(mQ en).up q.2 h1 hg;have u3:=da u1 h1 u2;have hs:=cL (mQ en) (d:=q.1) h1 hg;have hz:(q.1.len+1)*32<=140737488355328:=by omega
   have hl:(D.l (q.1.rows++[(mvF ws en q.2).1])).len+left ws (mvF ws en q.2).2<=1000001:=by rw[bf];omega
   have m1:=(jy en h1).1;have m2:=(bT en m1).1;have m3:=(jy en m2).1;refine ⟨h1,m1,m2,rfl,hz,Nat.le_refl 1,m3,by decide,(.l (q.1.rows++[(mvF ws en q.2).1]),(mvF ws en q.2).2),⟨u1,hs.trans h2,hl⟩,u3,?_⟩
   (repeat' (with_reducible apply And.intro))<;>first |with_reducible rfl |exact True.intro |exact (bf _ _).symm |rfl
  ·have hg:mvG ws q.2=false:=decide_eq_false (ne_of_beq_false hc);have h2:(q.1,q.2)=ruM ws en (mR nx pa er):=(bv hg).symm.trans h2;simp only[ruZ,ruR,<- h2]
   (repeat' with_reducible constructor)<;>first |assumption |decide |rfl
 ·trivial
noncomputable def zE:List Dat->Option (Eff × List Seg):=fun ds=>match ds with
 | [.d ws,.i nx,.i en,.i pa,.i er]=>some ({val:=.one (.agg [.c (.raw (.string ((poZ ws en (mR nx pa er)).nm))),.c (.osl 9 0 (.lit 0) (.sym ((poZ ws en (mR nx pa er)).vs.len))),.c (.osl 80 1 (.lit 0) (.sym ((poZ ws en (mR nx pa er)).b.len)))]),vc:=[aa ws nx],nw:=[(0,.orow 9 ((poZ ws en (mR nx pa er)).vs)),(1,.orow 80 ((poZ ws en (mR nx pa er)).b))]},[.c (.rows 124 ws),.c (.int .i64 (.sym ((poR ws en (mR nx pa er)).nx))),.c (.int .i64 (.sym en)),.c (.int .i64 (.sym ((poR ws en (mR nx pa er)).pa))),.c (.int .i64 (.sym ((poR ws en (mR nx pa er)).er)))])
 |_=>none
noncomputable def zF:Con:=ba 85 [.c (.rows 124),.c (.int .i64),.c (.int .i64),.c (.int .i64),.c (.int .i64)] [] zE
theorem HW:ConOK Tryz.prog 48 zF:=by
 refine bk tt_ok au Tryz.func48 rfl (fun _ _=>by kernel_rfl) (A:=fun ds=>⟨fun _=>Cons.of [(77,f9),(45,jx),(80,dy),(81,(ft stX 1000001))],fun k=>match k,ds with | 3,[.d ws,.i nx,.i en,.i pa,.i er]=>some {ι:=D × Rd,pre:=fun _ q=>aa ws q.2.nx/\(aj (acG kwV ws) (vrF ws en) ws q.1 q.2=poV ws en (mR nx pa er))/\q.1.len+left ws q.2<=1000001,μ:=fun q=>left ws q.2,st:=fun s q=>gh s [] [0,2,3] [(0,.own 85 ([.c (.rows 124 ws),.c (.int .i64 (.sym ((q.2).nx))),.c (.int .i64 (.sym en)),.c (.int .i64 (.sym ((q.2).pa))),.c (.int .i64 (.sym ((q.2).er)))])),(bj s 3,.own 72 ([.c (.raw (.string ((poZ ws en (mR nx pa er)).nm))),.c (.osl 9 s.nx (.lit 0) (.sym (q.1.len))),.c .nils])),(s.nx,.orow 9 (q.1))] [2]} |_,_=>none,fun _=>none⟩) (fun _ _=>(af gD (af kE (af dJ (af HQ aq))))) (by kernel_rfl) ?_
 intro ds;unfold zE;split
 ·rename_i ws nx en pa er;refine kmp (q:=ac (poZ ws en (mR nx pa er)) fun Ea=>ac (fun (i:D × Rd)=>stX en ws (0:Int) (acR ws kwV i.snd)) fun Eb=>ac (exR ws en obB (nmR ws en (mR nx pa er))) fun Ec=>ac (fun (i:D × Rd)=>exR ws en seB (nmR ws en (acR ws kwV i.snd))) fun Ed=>ac (fun (i:D × Rd)=>D.l [[D.s (nmS ws (acR ws kwV i.snd))]]) fun Ee=>aa ws nx->aa ws nx/\aa ws (nmR ws en (mR nx pa er)).nx/\0<obB.size/\(∃ (i:D × Rd),(aa ws i.snd.nx/\aj (acG kwV ws) (vrF ws en) ws i.fst i.snd=poV ws en (mR nx pa er)/\i.fst.len+left ws i.snd<=(1000001:Nat))/\ws.rows=ws.rows/\Ec.nx=i.snd.nx/\en=en/\Ec.pa=i.snd.pa/\Ec.er=i.snd.er/\Value.string (nmS ws (mR nx pa er))=Value.string Ea.nm/\i.fst.len=0/\i.fst.rows=[]/\Value.string ByteArray.empty=Value.string ByteArray.empty)/\∀ (i:D × Rd),aa ws i.snd.nx/\aj (acG kwV ws) (vrF ws en) ws i.fst i.snd=poV ws en (mR nx pa er)/\i.fst.len+left ws i.snd<=1000001->aa ws i.snd.nx/\0<kwV.size/\(acB ws i.snd.nx kwV=true->aa ws (acR ws kwV i.snd).nx/\i.fst.len=i.fst.len/\(i.fst.len+((Ee i).sub 0 1).len)*16<=140737488355328/\0+1<=(Ee i).len/\aa ws (nmR ws en (acR ws kwV i.snd)).nx/\0<seB.size/\∃ (j:D × Rd),(aa ws j.snd.nx/\aj (acG kwV ws) (vrF ws en) ws j.fst j.snd=poV ws en (mR nx pa er)/\j.fst.len+left ws j.snd<=(1000001:Nat))/\left ws j.snd<left ws i.snd/\ws.rows=ws.rows/\(Ed i).nx=j.snd.nx/\en=en/\(Ed i).pa=j.snd.pa/\(Ed i).er=j.snd.er/\Value.string Ea.nm=Value.string Ea.nm/\i.fst.len+((Ee i).sub 0 1).len=j.fst.len/\i.fst.rows++List.drop 0 (List.take 1 [[D.s (nmS ws (acR ws kwV i.snd))]])=j.fst.rows/\Value.string ByteArray.empty=Value.string ByteArray.empty)/\(acB ws i.snd.nx kwV=false->aa ws (acR ws kwV i.snd).nx/\aH ws (acR ws kwV i.snd) (0:Int)/\left ws (acR ws kwV i.snd)<1000001/\aa ws (Eb i).snd.nx/\0<cbB.size/\Value.string Ea.nm=Value.string Ea.nm/\i.fst.len=Ea.vs.len/\(Eb i).fst.len=Ea.b.len/\ws.rows=ws.rows/\(exR ws en cbB (Eb i).snd).nx=(poR ws en (mR nx pa er)).nx/\en=en/\(exR ws en cbB (Eb i).snd).pa=(poR ws en (mR nx pa er)).pa/\(exR ws en cbB (Eb i).snd).er=(poR ws en (mR nx pa er)).er/\i.fst.rows=Ea.vs.rows/\(Eb i).fst.rows=Ea.b.rows)) (by kernel_rfl) ?_
  dsimp +instances only [ac]
  intro h;obtain ⟨a,b,c,d,e,f⟩:=zB en (r:=mR nx pa er) h;have l0:=(bo b).2;refine ⟨h,a,by decide,⟨(.l [],ruA ws en (mR nx pa er)),⟨b,rfl,(by show 0+left ws (ruA ws en (mR nx pa er))<=1000001;omega)⟩,?_⟩,?_⟩
  ·(repeat' with_reducible constructor)<;>first |assumption |decide |rfl
  rintro q ⟨h1,h2,h3⟩;refine ⟨h1,by decide,fun hc=>?_,fun hc=>?_⟩
  ·have hg:acG kwV ws q.2=true:=hc;obtain ⟨u1,u2⟩:=(pw en).up q.2 h1 hg;have u3:=da u1 h1 u2;have hs:=cL (pw en) (d:=q.1) h1 hg;have hz:(q.1.len+1)*16<=140737488355328:=by omega
   have hl:(D.l (q.1.rows++[(vrF ws en q.2).1])).len+left ws (vrF ws en q.2).2<=1000001:=by rw[bf];omega
   have m1:=(dK (t:=kwV) h1 (by decide)).1;have m2:=(bT en m1).1;refine ⟨m1,rfl,hz,Nat.le_refl 1,m2,by decide,(.l (q.1.rows++[(vrF ws en q.2).1]),(vrF ws en q.2).2),⟨u1,hs.trans h2,hl⟩,u3,?_⟩
   (repeat' (with_reducible apply And.intro))<;>first |with_reducible rfl |exact True.intro |exact (bf _ _).symm |rfl
  ·have hg:acG kwV ws q.2=false:=hc;have h2:(q.1,q.2)=poV ws en (mR nx pa er):=(bv hg).symm.trans h2;rw[dI (r:=q.2) hc];have f1:=(bo h1).1;have f2:=(bo h1).2;have f3:=((zr en ws 0).up _ h1).2;simp only[etR,poZ,poR,poB,<- h2]
   (repeat' with_reducible constructor)<;>first |assumption |decide |rfl
 ·trivial
end Go.Proofs.YtbhbjhejkamlnaaGreat.Sx.Z
