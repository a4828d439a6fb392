import Derived.Test.YtbhbjhejkamlnaaGreatZx23
import Derived.Deep.QuietTactic
import Derived.BigQuiet
import Derived.Test.YtbhbjhejkamlnaaGreatZx21
import Derived.Test.YtbhbjhejkamlnaaGreatZx1
import Derived.Laws.IdiomStrings
import Derived.Deep.CutBlock
import Derived.Deep.DeepCutAuto
import Derived.RegionTactic
import Derived.Deep.LoopGhost
set_option linter.all false
namespace Go.Proofs.YtbhbjhejkamlnaaGreat.Sx.Z
open Go.RowKit
def wtR:Nat->PB
 | 0=>fun _ _ _ r=>(.l [],r)
 |m+1=>wtA (wtR m)
theorem nl:∀ (m:Nat) (en:Int) (ws:D) (dp:Int) (r:Rd),(wtR m en ws dp r).2.er=0->r.er=0
 | 0,_,_,_,_,h=>h
 |m+1,en,ws,dp,r,h=>IJ en ws dp r h
theorem kZ:∀ (m:Nat) (en:Int) (ws:D) (dp:Int),PbOK ws (wtR m en ws dp)
 | 0,_,_,_=>⟨fun _ h=>⟨Int.le_refl _,h⟩⟩
 |m+1,en,ws,dp=>II (kZ m) (nl m) en ws dp
theorem IM {F:PB}:ConOK Tryz.prog 24 (jF F 0):=by
 refine ⟨fun _ _=>by kernel_rfl,fun hp fr args e he hv=>?_,fun hp fr caps e h=>by cases h⟩;exfalso;obtain ⟨ds,e1,sg,ps1,ps2,hs,hvc,_⟩:=oZ he;rw[hvc] at hv;obtain ⟨_,hv⟩:=all_append.1 hv;obtain ⟨_,hv⟩:=all_append.1 hv;unfold Aq at hs
 split at hs
 ·simp only[Option.some.injEq,Prod.mk.injEq] at hs;obtain ⟨rfl,rfl⟩:=hs;exact Nat.not_lt_zero _ hv.2.2.1
 ·cases hs
theorem AE:∀ m,ConOK Tryz.prog 24 (jF (wtR m) m)
 | 0=>IM
 |m+1=>IL (P:=wtR m) (m:=m) (AE m) (kZ m) (nl m)
def wtX:PB:=wtR 1000001
theorem IN:ConOK Tryz.prog 24 (jF wtX 1000001):=AE 1000001
theorem AF (en:Int) (ws:D) (dp:Int):PbOK ws (wtX en ws dp):=kZ 1000001 en ws dp
attribute [irreducible] wtX
def sgK:D:=.l [[.s kwB],[.s kwD],[.s kwY]]
def wk0 (ws:D) (en:Int) (r:Rd):Rd:=wnR ws en 1 r
def wkK (ws:D) (en:Int) (r:Rd):Int:=ixR ws sgK (wk0 ws en r) 3
def wk1 (ws:D) (en:Int) (r:Rd):Rd:=gx (wk0 ws en r)
def wk2 (ws:D) (en:Int) (r:Rd):Rd:=muR ws en kwO (wnR ws en 2 (wk1 ws en r))
def wk3 (ws:D) (en:Int) (r:Rd):Rd:=muR ws en kwT (wnR ws en 1 (wk2 ws en r))
def wk4 (ws:D) (en:Int) (r:Rd):Rd:=muR ws en obB (wnR ws en 1 (wk3 ws en r))
def wkG (t:ByteArray) (ws:D) (r:Rd):Bool:=isB ws t r
def wkF (ws:D) (en:Int) (r:Rd):List D × Rd:=([.s (wnS ws (gx r))],wnR ws en 1 (gx r))
def wkT (ws:D) (en:Int) (r:Rd):D × Rd:=aj (wkG coB ws) (wkF ws en) ws (.l [[.s (wnS ws (wk4 ws en r))]]) (wnR ws en 1 (wk4 ws en r))
def wkZ (ws:D) (en:Int) (r:Rd):Ch:=if wkK ws en r<0 then ⟨wnS ws r,wkK ws en r,0,ByteArray.empty,ByteArray.empty,.l []⟩ else ⟨wnS ws r,wkK ws en r,wnN ws (wk1 ws en r),wnS ws (wk2 ws en r),wnS ws (wk3 ws en r),(wkT ws en r).1⟩
def wkR (ws:D) (en:Int) (r:Rd):Rd:=if wkK ws en r<0 then ffR ws en 5 (wk0 ws en r) else muR ws en seB (muR ws en cbB (wkT ws en r).2)
theorem pR {ws:D} (en:Int):SqOK ws (wkG coB ws) (wkF ws en):=⟨fun r h hg=>by
 have g:=bx h (bw hg).2;have b:=cw en 1 g.1;have e:(gx r).nx=r.nx+1:=rfl;have b2:(gx r).nx<=(wkF ws en r).2.nx:=b.2;exact ⟨b.1,by omega⟩⟩
theorem AI {ws:D} (en:Int) {r:Rd} (h:aa ws (wk1 ws en r).nx):(aa ws (wnR ws en 2 (wk1 ws en r)).nx/\aa ws (wk2 ws en r).nx/\aa ws (wnR ws en 1 (wk2 ws en r)).nx/\aa ws (wk3 ws en r).nx/\aa ws (wnR ws en 1 (wk3 ws en r)).nx/\aa ws (wk4 ws en r).nx/\aa ws (wnR ws en 1 (wk4 ws en r)).nx)/\aa ws (wkT ws en r).2.nx/\aa ws (muR ws en cbB (wkT ws en r).2).nx/\aa ws (muR ws en seB (muR ws en cbB (wkT ws en r).2)).nx/\(wk1 ws en r).nx<=(muR ws en seB (muR ws en cbB (wkT ws en r).2)).nx:=by
 have c:=cw en 2 h;have d:=bR en (t:=kwO) c.1;have e:=cw en 1 d.1;have f:=bR en (t:=kwT) e.1;have g:=cw en 1 f.1;have i:=bR en (t:=obB) g.1;have j:=cw en 1 i.1;have k:=dz (pR en) (.l [[.s (wnS ws (wk4 ws en r))]]) j.1;have l:=bR en (t:=cbB) k.1;have m:=bR en (t:=seB) l.1;exact ⟨⟨c.1,d.1,e.1,f.1,g.1,i.1,j.1⟩,k.1,l.1,m.1,Int.le_trans c.2 (Int.le_trans d.2 (Int.le_trans e.2 (Int.le_trans f.2 (Int.le_trans g.2 (Int.le_trans i.2 (Int.le_trans j.2 (Int.le_trans k.2 (Int.le_trans l.2 m.2))))))))⟩
theorem IO {ws:D} (en:Int) {r:Rd} (h:aa ws r.nx):aa ws (wkR ws en r).nx/\r.nx<=(wkR ws en r).nx:=by
 have a:=cw en 1 h;unfold wkR;split
 ·have:=kU en 5 a.1;exact ⟨this.1,Int.le_trans a.2 this.2⟩
 ·rename_i hk;have hx:=iz (ws:=ws) (sg:=sgK) (r:=wk0 ws en r) 3 (by unfold wkK at hk;omega);have g:=bx a.1 hx.2.1;have w:=(AI en (r:=r) g.1).2.2.2;exact ⟨w.1,Int.le_trans a.2 (Int.le_trans g.2 w.2)⟩
noncomputable def AJ:List Dat->Option (Eff × List Seg):=fun ds=>match ds with
 | [.d ws,.i nx,.i en,.i er,.i pa]=>some ({val:=.one (.agg [.c (.raw (.string ((wkZ ws en (mR nx pa er)).nm))),.c (.int .i64 (.sym ((wkZ ws en (mR nx pa er)).k))),.c (.int .i64 (.sym ((wkZ ws en (mR nx pa er)).n))),.c (.raw (.string ((wkZ ws en (mR nx pa er)).fr))),.c (.raw (.string ((wkZ ws en (mR nx pa er)).to))),.c (.osl 9 0 (.lit 0) (.sym ((wkZ ws en (mR nx pa er)).tg.len)))]),vc:=[aa ws nx],nw:=[(0,.orow 9 ((wkZ ws en (mR nx pa er)).tg))]},[.c (.rows 132 ws),.c (.int .i64 (.sym ((wkR ws en (mR nx pa er)).nx))),.c (.int .i64 (.sym en)),.c (.int .i64 (.sym ((wkR ws en (mR nx pa er)).er))),.c (.int .i64 (.sym ((wkR ws en (mR nx pa er)).pa)))])
 |_=>none
noncomputable def AK:Con:=ba 92 [.c (.rows 132),.c (.int .i64),.c (.int .i64),.c (.int .i64),.c (.int .i64)] [] AJ
theorem IP:ConOK Tryz.prog 20 AK:=by
 refine bk tt_ok au Tryz.func20 rfl (fun _ _=>by kernel_rfl) (A:=fun ds=>⟨fun _=>Cons.of [(21,mX),(19,kV),(23,pK),(22,jD),(25,gM)],fun k=>match k,ds with | 4,[.d ws,.i nx,.i en,.i er,.i pa]=>some {ι:=Nat,pre:=fun _ i=>i<=3/\True,μ:=fun i=>4-i,st:=fun s i=>aV s [(5,.one (.sc (.int .i64 (.sym ((i:Nat))))))] [0,2,3,4] [(0,.own 92 ([.c (.rows 132 ws),.c (.int .i64 (.sym (((wk0 ws en (mR nx pa er))).nx))),.c (.int .i64 (.sym en)),.c (.int .i64 (.sym (((wk0 ws en (mR nx pa er))).er))),.c (.int .i64 (.sym (((wk0 ws en (mR nx pa er))).pa)))])),(bj s 3,.own 62 ([.c (.raw (.string (wnS ws (mR nx pa er)))),.c (.int .i64 (.sym (ixR ws sgK (wk0 ws en (mR nx pa er)) i))),.c (.int .i64 (.sym (0))),.c (.raw (.string (ByteArray.empty))),.c (.raw (.string (ByteArray.empty))),.c .nils]))] [2,4]} | 19,[.d ws,.i nx,.i en,.i er,.i pa]=>some {ι:=D × Rd,pre:=fun _ q=>aa ws q.2.nx/\(aj (wkG coB ws) (wkF ws en) ws q.1 q.2=wkT ws en (mR nx pa er))/\q.1.len+left ws q.2<=1000001,μ:=fun q=>left ws q.2,st:=fun s q=>aV s [] [0,2,3] [(0,.own 92 ([.c (.rows 132 ws),.c (.int .i64 (.sym ((q.2).nx))),.c (.int .i64 (.sym en)),.c (.int .i64 (.sym ((q.2).er))),.c (.int .i64 (.sym ((q.2).pa)))])),(bj s 3,.own 62 ([.c (.raw (.string (wnS ws (mR nx pa er)))),.c (.int .i64 (.sym (wkK ws en (mR nx pa er)))),.c (.int .i64 (.sym (wnN ws (wk1 ws en (mR nx pa er))))),.c (.raw (.string (wnS ws (wk2 ws en (mR nx pa er))))),.c (.raw (.string (wnS ws (wk3 ws en (mR nx pa er))))),.c (.osl 9 (cT s 3 5) (.lit 0) (.sym (q.1.len)))])),(cT s 3 5,.orow 9 (q.1))] [2]} |_,_=>none,fun _=>none⟩) (fun _ _=>(af pJ (af mY (af sY (af kP (af iy aq)))))) (by kernel_rfl) ?_
 intro ds;unfold AJ;split
 ·rename_i ws nx en er pa
  refine kmp (q:=ac (muR ws en kwO (wnR ws en (2:Int) (mR (IntKind.i64.wrap ((wk0 ws en (mR nx pa er)).nx+1)) (wk0 ws en (mR nx pa er)).pa (wk0 ws en (mR nx pa er)).er))) fun Ea=>ac (wk0 ws en (mR nx pa er)) fun Eb=>ac (muR ws en obB (wnR ws en (1:Int) (muR ws en kwT (wnR ws en (1:Int) Ea)))) fun Ec=>ac (wkZ ws en (mR nx pa er)) fun Ed=>ac (wkR ws en (mR nx pa er)) fun Ee=>ac (wnS ws (wk2 ws en (mR nx pa er))) fun Ef=>ac (wnS ws (wk3 ws en (mR nx pa er))) fun Eg=>ac (muR ws en kwT (wnR ws en (1:Int) Ea)) fun Eh=>ac (D.l [[D.s kwB],[D.s kwD],[D.s kwY]]) fun Ei=>ac (wk1 ws en (mR nx pa er)) fun Ej=>ac (wnR ws en (1:Int) (mR nx pa er)) fun Ek=>ac (IntKind.i64.wrap (Eb.nx+1)) fun El=>aa ws nx->aa ws nx/\(∃ (i:Nat),(i<=3/\True)/\0=(i:Int)/\3=3/\ws.rows=ws.rows/\Ek.nx=Eb.nx/\en=en/\Ek.er=Eb.er/\Ek.pa=Eb.pa/\Value.string (wnS ws (mR nx pa er))=Value.string (wnS ws (mR nx pa er))/\(-1:Int)=ixR ws sgK Eb i/\(0:Int)=0/\Value.string ByteArray.empty=Value.string ByteArray.empty/\Value.string ByteArray.empty=Value.string ByteArray.empty/\Value.string ByteArray.empty=Value.string ByteArray.empty/\(0:Int)=0/\(0:Int)=0/\Value.string ByteArray.empty=Value.string ByteArray.empty/\Value.string ByteArray.empty=Value.string ByteArray.empty /\ [[D.s kwB],[D.s kwD],[D.s kwY]]=[[D.s kwB],[D.s kwD],[D.s kwY]])/\∀ (i:Nat),i<=3/\True->(decide ((i:Int)<3)=true->(0<=(i:Int)/\(i:Int)<3)/\(i:Int).toNat<Ei.len/\aa ws Eb.nx/\(isB ws (Ei.el (i:Int).toNat 0).toS Eb=true->∃ (j:Nat),(j<=3/\True)/\4-j<4-i/\IntKind.i64.wrap ((i:Int)+1)=(j:Int)/\3=3/\ws.rows=ws.rows/\Eb.nx=Eb.nx/\en=en/\Eb.er=Eb.er/\Eb.pa=Eb.pa/\Value.string (wnS ws (mR nx pa er))=Value.string (wnS ws (mR nx pa er))/\(i:Int)=ixR ws sgK Eb j/\(0:Int)=0/\Value.string ByteArray.empty=Value.string ByteArray.empty/\Value.string ByteArray.empty=Value.string ByteArray.empty/\Value.string ByteArray.empty=Value.string ByteArray.empty/\(0:Int)=0/\(0:Int)=0/\Value.string ByteArray.empty=Value.string ByteArray.empty/\Value.string ByteArray.empty=Value.string ByteArray.empty /\ [[D.s kwB],[D.s kwD],[D.s kwY]]=[[D.s kwB],[D.s kwD],[D.s kwY]])/\(isB ws (Ei.el (i:Int).toNat 0).toS Eb=false->∃ (j:Nat),(j<=3/\True)/\4-j<4-i/\IntKind.i64.wrap ((i:Int)+1)=(j:Int)/\3=3/\ws.rows=ws.rows/\Eb.nx=Eb.nx/\en=en/\Eb.er=Eb.er/\Eb.pa=Eb.pa/\Value.string (wnS ws (mR nx pa er))=Value.string (wnS ws (mR nx pa er))/\ixR ws sgK Eb i=ixR ws sgK Eb j/\(0:Int)=0/\Value.string ByteArray.empty=Value.string ByteArray.empty/\Value.string ByteArray.empty=Value.string ByteArray.empty/\Value.string ByteArray.empty=Value.string ByteArray.empty/\(0:Int)=0/\(0:Int)=0/\Value.string ByteArray.empty=Value.string ByteArray.empty/\Value.string ByteArray.empty=Value.string ByteArray.empty /\ [[D.s kwB],[D.s kwD],[D.s kwY]]=[[D.s kwB],[D.s kwD],[D.s kwY]]))/\(decide ((i:Int)<3)=false->(decide (ixR ws sgK Eb i<(0:Int))=true->aa ws Eb.nx/\Value.string (wnS ws (mR nx pa er))=Value.string Ed.nm/\ixR ws sgK Eb i=Ed.k/\(0:Int)=Ed.n/\Value.string ByteArray.empty=Value.string Ed.fr/\Value.string ByteArray.empty=Value.string Ed.to/\Ed.tg.len=0/\ws.rows=ws.rows/\(ffR ws en (5:Int) Eb).nx=Ee.nx/\en=en/\(ffR ws en (5:Int) Eb).er=Ee.er/\(ffR ws en (5:Int) Eb).pa=Ee.pa/\Ed.tg.rows=[])/\(decide (ixR ws sgK Eb i<(0:Int))=false->aa ws El/\aa ws (wnR ws en (2:Int) (mR El Eb.pa Eb.er)).nx/\aa ws Ea.nx/\aa ws (wnR ws en (1:Int) Ea).nx/\aa ws Eh.nx/\aa ws (wnR ws en (1:Int) Eh).nx/\aa ws Ec.nx/\((0:Nat)+((D.l [[D.s (wnS ws Ec)]]).sub 0 1).len)*16<=140737488355328/\0+1<=(D.l [[D.s (wnS ws Ec)]]).len/\(∃ (i_1:D × Rd),(aa ws i_1.snd.nx/\aj (wkG coB ws) (wkF ws en) ws i_1.fst i_1.snd=wkT ws en (mR nx pa er)/\i_1.fst.len+left ws i_1.snd<=(1000001:Nat))/\ws.rows=ws.rows/\(wnR ws en (1:Int) Ec).nx=i_1.snd.nx/\en=en/\(wnR ws en (1:Int) Ec).er=i_1.snd.er/\(wnR ws en (1:Int) Ec).pa=i_1.snd.pa/\Value.string (wnS ws (mR nx pa er))=Value.string (wnS ws (mR nx pa er))/\ixR ws sgK Eb i=wkK ws en (mR nx pa er)/\wnN ws (mR El Eb.pa Eb.er)=wnN ws Ej/\Value.string (wnS ws Ea)=Value.string Ef/\Value.string (wnS ws Eh)=Value.string Eg/\1=i_1.fst.len /\ []++List.drop 0 (List.take 1 [[D.s (wnS ws Ec)]])=i_1.fst.rows/\Value.string ByteArray.empty=Value.string ByteArray.empty/\(0:Int)=0/\(0:Int)=0/\Value.string ByteArray.empty=Value.string ByteArray.empty/\Value.string ByteArray.empty=Value.string ByteArray.empty)/\∀ (i:D × Rd),aa ws i.snd.nx/\aj (wkG coB ws) (wkF ws en) ws i.fst i.snd=wkT ws en (mR nx pa er)/\i.fst.len+left ws i.snd<=1000001->aa ws i.snd.nx/\(isB ws coB i.snd=true->aa ws (IntKind.i64.wrap (i.snd.nx+1))/\i.fst.len=i.fst.len/\(i.fst.len+((D.l [[D.s (wnS ws (mR (IntKind.i64.wrap (i.snd.nx+1)) i.snd.pa i.snd.er))]]).sub 0 1).len)*16<=140737488355328/\0+1<=(D.l [[D.s (wnS ws (mR (IntKind.i64.wrap (i.snd.nx+1)) i.snd.pa i.snd.er))]]).len/\∃ (j:D × Rd),(aa ws j.snd.nx/\aj (wkG coB ws) (wkF ws en) ws j.fst j.snd=wkT ws en (mR nx pa er)/\j.fst.len+left ws j.snd<=(1000001:Nat))/\left ws j.snd<left ws i.snd/\ws.rows=ws.rows/\(wnR ws en (1:Int) (mR (IntKind.i64.wrap (i.snd.nx+1)) i.snd.pa i.snd.er)).nx=j.snd.nx/\en=en/\(wnR ws en (1:Int) (mR (IntKind.i64.wrap (i.snd.nx+1)) i.snd.pa i.snd.er)).er=j.snd.er/\(wnR ws en (1:Int) (mR (IntKind.i64.wrap (i.snd.nx+1)) i.snd.pa i.snd.er)).pa=j.snd.pa/\Value.string (wnS ws (mR nx pa er))=Value.string (wnS ws (mR nx pa er))/\wkK ws en (mR nx pa er)=wkK ws en (mR nx pa er)/\wnN ws Ej=wnN ws Ej/\Value.string Ef=Value.string Ef/\Value.string Eg=Value.string Eg/\i.fst.len+((D.l [[D.s (wnS ws (mR (IntKind.i64.wrap (i.snd.nx+1)) i.snd.pa i.snd.er))]]).sub 0 1).len=j.fst.len/\i.fst.rows++List.drop 0 (List.take 1 [[D.s (wnS ws (mR (IntKind.i64.wrap (i.snd.nx+1)) i.snd.pa i.snd.er))]])=j.fst.rows/\Value.string ByteArray.empty=Value.string ByteArray.empty/\(0:Int)=0/\(0:Int)=0/\Value.string ByteArray.empty=Value.string ByteArray.empty/\Value.string ByteArray.empty=Value.string ByteArray.empty)/\(isB ws coB i.snd=false->aa ws i.snd.nx/\aa ws (muR ws en cbB i.snd).nx/\Value.string (wnS ws (mR nx pa er))=Value.string Ed.nm/\wkK ws en (mR nx pa er)=Ed.k/\wnN ws Ej=Ed.n/\Value.string Ef=Value.string Ed.fr/\Value.string Eg=Value.string Ed.to/\i.fst.len=Ed.tg.len/\ws.rows=ws.rows/\(muR ws en seB (muR ws en cbB i.snd)).nx=Ee.nx/\en=en/\(muR ws en seB (muR ws en cbB i.snd)).er=Ee.er/\(muR ws en seB (muR ws en cbB i.snd)).pa=Ee.pa/\i.fst.rows=Ed.tg.rows)))) (by kernel_rfl) ?_
  dsimp +instances only [ac]
  intro h;have a:=(cw en 1 (r:=mR nx pa er) h).1;refine ⟨h,⟨0,⟨by decide,trivial⟩,(by (repeat' (with_reducible apply And.intro))<;>first |with_reducible rfl |exact True.intro |assumption |(symm;assumption) |rfl)⟩,fun i hi=>⟨fun hc=>?_,fun hc=>?_⟩⟩
  ·have hc:=of_decide_eq_true hc;have hi2:i<3:=by omega
   have hw:IntKind.i64.wrap ((i:Int)+1)=((i+1:Nat):Int):=by rw[IntWalk.i64_in _ (by omega)];omega
   refine ⟨⟨by omega,by omega⟩,hi2,a,fun hb=>⟨i+1,⟨hi2,trivial⟩,by omega,hw,?_⟩,fun hb=>⟨i+1,⟨hi2,trivial⟩,by omega,hw,?_⟩⟩
   ·have hb:isB ws (sgK.el i 0).toS (wk0 ws en (mR nx pa er))=true:=hb;have e:ixR ws sgK (wk0 ws en (mR nx pa er)) (i+1)=(i:Int):=if_pos hb;rw[e]
    (repeat' (with_reducible apply And.intro))<;>first |with_reducible rfl |exact True.intro |assumption |(symm;assumption) |rfl
   ·have hb:isB ws (sgK.el i 0).toS (wk0 ws en (mR nx pa er))=false:=hb;have e:ixR ws sgK (wk0 ws en (mR nx pa er)) (i+1)=ixR ws sgK (wk0 ws en (mR nx pa er)) i:=if_neg (by rw[hb];decide);rw[e]
    (repeat' (with_reducible apply And.intro))<;>first |with_reducible rfl |exact True.intro |assumption |(symm;assumption) |rfl
  have hc:=of_decide_eq_false hc;obtain rfl:i=3:=by have:=hi.1;omega
  refine ⟨fun hz=>?_,fun hz=>?_⟩
  ·have hz:wkK ws en (mR nx pa er)<0:=of_decide_eq_true hz;have e:wkZ ws en (mR nx pa er)=⟨wnS ws (mR nx pa er),wkK ws en (mR nx pa er),0,ByteArray.empty,ByteArray.empty,.l []⟩:=if_pos hz;have e2:wkR ws en (mR nx pa er)=ffR ws en 5 (wk0 ws en (mR nx pa er)):=if_pos hz;rw[e,e2]
   (repeat' (with_reducible apply And.intro))<;>first |with_reducible rfl |exact True.intro |assumption |(symm;assumption) |rfl
  have hz:¬ wkK ws en (mR nx pa er)<0:=of_decide_eq_false hz;have hx:=iz (ws:=ws) (sg:=sgK) (r:=wk0 ws en (mR nx pa er)) 3 (by unfold wkK at hz;omega);have g:=(bx a hx.2.1).1;have a2:aa ws (wk0 ws en (mR nx pa er)).nx:=a;rw[nx1 a2 hx.2.1];have e4:mR ((wk0 ws en (mR nx pa er)).nx+1) (wk0 ws en (mR nx pa er)).pa (wk0 ws en (mR nx pa er)).er=wk1 ws en (mR nx pa er):=rfl;rw[e4];obtain ⟨⟨b1,b2,b3,b4,b5,b6,b7⟩,c1,c2,c3,c4⟩:=AI en (r:=mR nx pa er) g;have l0:=(bo b7).2;refine ⟨g,b1,b2,b3,b4,b5,b6,(by show (0+1)*16<=140737488355328;decide),Nat.le_refl 1,⟨(.l [[.s (wnS ws (wk4 ws en (mR nx pa er)))]],wnR ws en 1 (wk4 ws en (mR nx pa er))),⟨b7,rfl,(by show 1+left ws (wnR ws en 1 (wk4 ws en (mR nx pa er)))<=1000001;omega)⟩,(by (repeat' (with_reducible apply And.intro))<;>first |with_reducible rfl |exact True.intro |assumption |(symm;assumption) |rfl)⟩,?_⟩;rintro q ⟨h1,h2,h3⟩;refine ⟨h1,fun hc=>?_,fun hc=>?_⟩
  ·have hg:wkG coB ws q.2=true:=hc;obtain ⟨u1,u2⟩:=(pR en).up q.2 h1 hg;have u3:=da u1 h1 u2;have hs:=cL (pR en) (d:=q.1) h1 hg;have hz:(q.1.len+1)*16<=140737488355328:=by omega
   have hl:(D.l (q.1.rows++[(wkF ws en q.2).1])).len+left ws (wkF ws en q.2).2<=1000001:=by rw[bf];omega
   rw[nx1 h1 (bw hc).2];have e3:mR (q.2.nx+1) q.2.pa q.2.er=gx q.2:=rfl;rw[e3];have m1:=(bx h1 (bw hc).2).1;refine ⟨m1,rfl,hz,Nat.le_refl 1,(.l (q.1.rows++[(wkF ws en q.2).1]),(wkF ws en q.2).2),⟨u1,hs.trans h2,hl⟩,u3,?_⟩
   (repeat' (with_reducible apply And.intro))<;>first |with_reducible rfl |exact True.intro |exact (bf _ _).symm |rfl
  ·have hg:wkG coB ws q.2=false:=hc;have h2:(q.1,q.2)=wkT ws en (mR nx pa er):=(bv hg).symm.trans h2;have f1:=(bR en (t:=cbB) h1).1;have e:wkZ ws en (mR nx pa er)=⟨wnS ws (mR nx pa er),wkK ws en (mR nx pa er),wnN ws (wk1 ws en (mR nx pa er)),wnS ws (wk2 ws en (mR nx pa er)),wnS ws (wk3 ws en (mR nx pa er)),q.1⟩:=(if_neg hz).trans (by rw[<- h2]);have e2:wkR ws en (mR nx pa er)=muR ws en seB (muR ws en cbB q.2):=(if_neg hz).trans (by rw[<- h2]);rw[e,e2]
   (repeat' (with_reducible apply And.intro))<;>first |with_reducible rfl |exact True.intro |assumption |(symm;assumption) |rfl
 ·trivial
end Go.Proofs.YtbhbjhejkamlnaaGreat.Sx.Z
namespace Go.Proofs.YtbhbjhejkamlnaaGreat
open Go.RowKit
theorem dl (n:Int) (w:World):Calls Tryz.prog 50 #[.int .u8 n] w fun e w'=>e = .returned (.bool (bQ n))/\w=w':=by
 unfold bQ
 go_enter Tryz.func50,Tryz.ntmps50
 go_wp2
 all_goals
  go_ret
  exact ⟨by first |(simp [*];done) |(simp [*];omega),rfl⟩
theorem dN (n:Int) (w:World):Calls Tryz.prog 51 #[.int .u8 n] w fun e w'=>e = .returned (.bool (bF n))/\w=w':=by
 unfold bF
 go_enter Tryz.func51,Tryz.ntmps51
 go_wp2
 all_goals
  go_ret
  exact ⟨by first |(simp [*];done) |(simp [*];omega),rfl⟩
def fH:List ByteArray:=[⟨#[99,104,97,110]⟩,⟨#[98,108,111,99,107]⟩,⟨#[100,114,111,112]⟩,⟨#[108,111,115,115,121]⟩,⟨#[102,114,111,109]⟩,⟨#[116,111]⟩,
 ⟨#[114,117,108,101]⟩,⟨#[112,114,111,99]⟩,⟨#[118,97,114]⟩,⟨#[105,102]⟩,⟨#[101,108,115,101]⟩,⟨#[119,104,105,108,101]⟩,
 ⟨#[115,101,110,100]⟩,⟨#[114,101,99,118]⟩,⟨#[97,115,115,101,114,116]⟩,⟨#[105,110,112,117,116]⟩]
def k8:Array Value:=(fH.map Value.string).toArray
theorem AL (s:ByteArray):et s.toList=fH.any fun x=>x.toList==s.toList:=by
 rw[Bool.eq_iff_iff];simp only[fH,et,List.any_cons,List.any_nil,Bool.or_false,Bool.or_eq_true,beq_iff_eq,Lib.toList_data];simp only[or_assoc,eq_comm (b:=s.data.toList)]
theorem IQ (w:World):Calls Tryz.prog 83 #[] w fun e w'=>e = .returned (.slice (some ⟨w.heap.size,0,none⟩) 16 16)/\w.alloc (.cells k8 9)=w':=by
 go_enter Tryz.func83,Tryz.ntmps83
 go_wp2
 go_ret
 exact ⟨rfl,rfl⟩
def AN (s:ByteArray) (k:Nat):Prop:=∀ j,j<k->((fH.getD j ⟨#[]⟩).toList==s.toList)=false
set_option maxHeartbeats 1000000 in
theorem AO (s:ByteArray) (w:World):Calls Tryz.prog 52 #[.string s] w fun e w'=>e = .returned (.bool (et s.toList))/\Below w.heap.size w w':=by
 have hcells:∀ k,k<16->(w.alloc (.cells k8 9)).cell? ⟨w.heap.size,k,none⟩=some (.string (fH.getD k ⟨#[]⟩)):=by
  intro k hk;have h:=cell_of_row (w.alloc (.cells k8 9)) w.heap.size k k8 9 (0,0) (heap_alloc_new w _);rw[h]
  match k,hk with
  | 0,_=>rfl
  | 1,_=>rfl
  | 2,_=>rfl
  | 3,_=>rfl
  | 4,_=>rfl
  | 5,_=>rfl
  | 6,_=>rfl
  | 7,_=>rfl
  | 8,_=>rfl
  | 9,_=>rfl
  | 10,_=>rfl
  | 11,_=>rfl
  | 12,_=>rfl
  | 13,_=>rfl
  | 14,_=>rfl
  | 15,_=>rfl
  |n+16,h=>omega
 have hb:Below w.heap.size w (w.alloc (.cells k8 9)):=(Below.refl _ _).alloc (Nat.le_refl _) _;have Hcells:=Lib.hid hcells;clear hcells
 go_enter Tryz.func52,Tryz.ntmps52
 go_wp2_with (go_at_call 83;refine (IQ _).mono ?_;rintro e w1 ⟨rfl,hw1⟩)
 generalize hW:w.alloc (.cells k8 9)=W at *;subst hw1;clear hW
 go_loop [4] (fun i=>∃ k:Nat,k<=16/\AN s k/\i = .int .i64 k) (fun i=>16-(intOf i).toNat)
 case atStart=>exact ⟨0,by omega,fun j h=>by omega,rfl⟩
 case round=>
  obtain ⟨k,hk,hnone,rfl⟩:=hrel
  by_cases hlt:k<16
  ·have hc:=Hcells.out k hlt
   rcases Bool.eq_false_or_eq_true ((fH.getD k ⟨#[]⟩).toList==s.toList) with he |he
   ·have Hfin:=Lib.hid (show et s.toList=true by
     rw[AL,List.any_eq_true];have hl:k<fH.length:=hlt;exact ⟨fH.getD k ⟨#[]⟩,by rw[List.getD_eq_getElem?_getD,List.getElem?_eq_getElem hl];exact List.getElem_mem _,he⟩)
    generalize fH.getD k ⟨#[]⟩=x at *
    go_wp2_with fail
    go_ret
    exact ⟨by rw[Hfin.out];rfl,hb⟩
   ·have hnone':AN s (k+1):=fun j hj=>by
     rcases Nat.lt_or_ge j k with h |h
     ·exact hnone j h
     ·rw[show j=k from by omega];exact he
    generalize fH.getD k ⟨#[]⟩=x at *
    go_wp2_with fail
    go_round
    case rel=>exact ⟨k+1,by omega,hnone',by go_num⟩
    case measure=>simp [intOf];omega
  ·have Hfin:=Lib.hid (show et s.toList=false by
    rw[AL,List.any_eq_false];intro x hx;obtain ⟨j,hj,rfl⟩:=List.getElem_of_mem hx;have h1:=hnone j (by have:fH.length=16:=rfl;omega);rw[List.getD_eq_getElem?_getD,List.getElem?_eq_getElem hj] at h1
    simpa using h1)
   go_wp2_with fail
   go_ret
   exact ⟨by rw[Hfin.out];rfl,hb⟩
theorem gN {B:Nat} {a w:World} (h:Below B a w) (n:Nat):Below B a (w.drewN n):=⟨h.os,h.tape,h.output,h.size,h.block⟩
theorem sT {s:ByteArray} {acc:List Tok} (h:ai s=(acc,0,0)):acc.length<=2000:=by
 unfold ai at h
 split at h
 ·injection h with h _
  subst h;exact Nat.zero_le _
 ·split at h
  ·injection h with h _
   subst h;exact Nat.zero_le _
  ·injection h with h _
   subst h;omega
def gO:List ByteArray:=[⟨#[61,61]⟩,⟨#[33,61]⟩,⟨#[60,61]⟩,⟨#[62,61]⟩]
def nn:Array Value:=(gO.map Value.string).toArray
def gP:List UInt8:=[123,125,40,41,59,44,46,61,60,62,43,45,42,47,37]
theorem te (a:UInt8) (n:UInt8):((a.toNat:Int)=(n.toNat:Int))↔a=n:=by
 constructor
 ·intro h;exact UInt8.toNat_inj.1 (by omega)
 ·rintro rfl;rfl
theorem pS (a:UInt8) (p:Bool):de (a.toNat:Int) p =
 if a=61 ∨ a=60 ∨ a=62 then (if p then 2 else 1) else if a=33 then (if p then 2 else 0)
 else if a=123 ∨ a=125 ∨ a=40 ∨ a=41 ∨ a=59 ∨ a=44 ∨ a=46 ∨ a=43 ∨ a=45 ∨ a=42 ∨ a=47 ∨ a=37 then 1 else 0:=by
 unfold de;have h:∀ n:UInt8,((a.toNat:Int)=(n.toNat:Int))=(a=n):=fun n=>propext (te a n)
 have e:((a.toNat:Int)=61)=(a=61):=h 61;have e1:((a.toNat:Int)=60)=(a=60):=h 60;have e2:((a.toNat:Int)=62)=(a=62):=h 62;have e3:((a.toNat:Int)=33)=(a=33):=h 33;have e4:((a.toNat:Int)=123)=(a=123):=h 123;have e5:((a.toNat:Int)=125)=(a=125):=h 125;have e6:((a.toNat:Int)=40)=(a=40):=h 40;have e7:((a.toNat:Int)=41)=(a=41):=h 41;have e8:((a.toNat:Int)=59)=(a=59):=h 59;have e9:((a.toNat:Int)=44)=(a=44):=h 44;have e10:((a.toNat:Int)=46)=(a=46):=h 46;have e11:((a.toNat:Int)=43)=(a=43):=h 43;have e12:((a.toNat:Int)=45)=(a=45):=h 45;have e13:((a.toNat:Int)=42)=(a=42):=h 42;have e14:((a.toNat:Int)=47)=(a=47):=h 47;have e15:((a.toNat:Int)=37)=(a=37):=h 37;simp only[e,e1,e2,e3,e4,e5,e6,e7,e8,e9,e10,e11,e12,e13,e14,e15]
theorem IR (r:List UInt8) (j:Nat) (hj:j<4) (h:r.take 2=(gO.getD j ⟨#[]⟩).data.toList):cP r=2:=by
 have hr:∃ a t,r=a::61::t/\(a=61 ∨ a=33 ∨ a=60 ∨ a=62):=by
  match r,j,hj with
  | [],0,_=>cases h
  | [],1,_=>cases h
  | [],2,_=>cases h
  | [],3,_=>cases h
  | [a],0,_=>cases h
  | [a],1,_=>cases h
  | [a],2,_=>cases h
  | [a],3,_=>cases h
  |a::b::t,0,_=>
   have h : [a,b]=[61,61]:=h;simp at h;obtain ⟨rfl,rfl⟩:=h;exact ⟨_,t,rfl,.inl rfl⟩
  |a::b::t,1,_=>
   have h : [a,b]=[33,61]:=h;simp at h;obtain ⟨rfl,rfl⟩:=h;exact ⟨_,t,rfl,.inr (.inl rfl)⟩
  |a::b::t,2,_=>
   have h : [a,b]=[60,61]:=h;simp at h;obtain ⟨rfl,rfl⟩:=h;exact ⟨_,t,rfl,.inr (.inr (.inl rfl))⟩
  |a::b::t,3,_=>
   have h : [a,b]=[62,61]:=h;simp at h;obtain ⟨rfl,rfl⟩:=h;exact ⟨_,t,rfl,.inr (.inr (.inr rfl))⟩
  |_,j+4,h=>omega
 obtain ⟨a,t,rfl,ha⟩:=hr;show de (a.toNat:Int) ((61:UInt8)==61)=2;rw[pS]
 rcases ha with rfl |rfl |rfl |rfl<;>decide
theorem IS (r:List UInt8) (h0:0<r.length) (h:∀ j,j<4->r.take 2≠(gO.getD j ⟨#[]⟩).data.toList):cP r=if r.headD 0∈gP then 1 else 0:=by
 have key:∀ a:UInt8,de (a.toNat:Int) false=if a∈gP then 1 else 0:=by
  intro a;rw[pS];simp only[gP,List.mem_cons,List.not_mem_nil,or_false,Bool.false_eq_true,if_false]
  by_cases h1:a=61 ∨ a=60 ∨ a=62
  ·rw[if_pos h1,if_pos (by rcases h1 with h |h |h<;>simp [h])]
  ·rw[if_neg h1]
   by_cases h2:a=33
   ·subst h2;decide
   ·rw[if_neg h2];have e:(a=123 ∨ a=125 ∨ a=40 ∨ a=41 ∨ a=59 ∨ a=44 ∨ a=46 ∨ a=43 ∨ a=45 ∨ a=42 ∨ a=47 ∨ a=37)↔(a=123 ∨ a=125 ∨ a=40 ∨ a=41 ∨ a=59 ∨ a=44 ∨ a=46 ∨ a=61 ∨ a=60 ∨ a=62 ∨ a=43 ∨ a=45 ∨ a=42 ∨ a=47 ∨ a=37):=by
     have n1:a≠61:=fun e=>h1 (.inl e)
     have n2:a≠60:=fun e=>h1 (.inr (.inl e))
     have n3:a≠62:=fun e=>h1 (.inr (.inr e))
     simp [n1,n2,n3]
    by_cases h3:(a=123 ∨ a=125 ∨ a=40 ∨ a=41 ∨ a=59 ∨ a=44 ∨ a=46 ∨ a=43 ∨ a=45 ∨ a=42 ∨ a=47 ∨ a=37)
    ·rw[if_pos h3,if_pos (e.1 h3)]
    ·rw[if_neg h3,if_neg (fun hx=>h3 (e.2 hx))]
 match r,h0 with
 | [a],_=>exact key a
 |a::b::t,_=>
  show de (a.toNat:Int) (b==61)=if a∈gP then 1 else 0
  by_cases hb:b=61
  ·subst hb;have m0:a≠61:=fun e=>h 0 (by omega) (by rw[e];rfl)
   have m1:a≠33:=fun e=>h 1 (by omega) (by rw[e];rfl)
   have m2:a≠60:=fun e=>h 2 (by omega) (by rw[e];rfl)
   have m3:a≠62:=fun e=>h 3 (by omega) (by rw[e];rfl)
   rw[<- key a,pS,pS];simp [m0,m1,m2,m3]
  ·rw[<- key a];have:(b==61)=false:=by simpa using hb
   rw[this]
def tf (s:ByteArray) (p k:Nat):Prop:=∀ j,j<k->(s.data.toList.drop p).take 2≠(gO.getD j ⟨#[]⟩).data.toList
def AQ (b:UInt8) (k:Nat):Prop:=∀ j,j<k->gP.getD j 0≠b
set_option maxRecDepth 100000 in
set_option maxHeartbeats 4000000 in
theorem IT (s:ByteArray) (p:Nat) (w:World) (hs:s.size<=140737488351232) (hp:p<s.size) :
 Calls Tryz.prog 53 #[.string s,.int .i64 p] w fun e w'=>e = .returned (.int .i64 (cP (s.data.toList.drop p)))/\Below w.heap.size w w':=by
 have hcells:∀ k,k<4->(w.alloc (.cells nn 9)).cell? ⟨w.heap.size,k,none⟩=some (.string (gO.getD k ⟨#[]⟩)):=by
  intro k hk;have h:=cell_of_row (w.alloc (.cells nn 9)) w.heap.size k nn 9 (0,0) (heap_alloc_new w _);rw[h]
  match k,hk with
  | 0,_=>rfl
  | 1,_=>rfl
  | 2,_=>rfl
  | 3,_=>rfl
  |n+4,h=>omega
 have hb:Below w.heap.size w (w.alloc (.cells nn 9)):=(Below.refl _ _).alloc (Nat.le_refl _) _;have Hcells:=Lib.hid hcells;clear hcells;have hlen:(s.data.toList.drop p).length=s.size-p:=by simp
 have Hlen:=Lib.hid hlen;clear hlen
 go_enter Tryz.func53,Tryz.ntmps53
 go_wp2_with fail
 generalize hW:w.alloc (.cells #[Value.string ⟨#[61,61]⟩,Value.string ⟨#[33,61]⟩,Value.string ⟨#[60,61]⟩,Value.string ⟨#[62,61]⟩] 9)=W at *;have hW':w.alloc (.cells nn 9)=W:=hW;rw[hW'] at Hcells hb;clear hW hW'
 go_loopw [6] (fun i wr=>∃ (k m:Nat),k<=4/\tf s p k/\i = .int .i64 k/\wr=W.drewN m) (fun i _=>4-(intOf i).toNat)
 case atStart=>exact ⟨0,0,by omega,fun j h=>by omega,rfl,rfl⟩
 case round=>
  obtain ⟨k,m,hk,hno,rfl,rfl⟩:=hrel
  by_cases hlt:k<4
  ·have hc:=Hcells.out k hlt
   by_cases h2:p+2<=s.size
   ·have ht:(s.extract p (p+2)).toList=(s.data.toList.drop p).take 2:=by
     have:=Lib.extract_toList s p (p+2);rw[show p+2-p=2 from by omega] at this;exact this
    have hd:(p:Int)+2<=(s.size:Int):=by omega
    rcases Bool.eq_false_or_eq_true ((s.extract p (p+2)).toList==(gO.getD k ⟨#[]⟩).toList) with he |he
    ·have Hfin:=Lib.hid (IR (s.data.toList.drop p) k hlt (by rw[<- ht,beq_iff_eq.1 he,Lib.toList_data]));generalize gO.getD k ⟨#[]⟩=x at *;clear ht
     go_wp2_with fail
     go_quiet (fail)
     go_wp2_with fail
     go_ret
     exact ⟨by rw[Hfin.out];rfl,gN (gN hb _) _⟩
    ·have hno':tf s p (k+1):=fun j hj=>by
      rcases Nat.lt_or_ge j k with h |h
      ·exact hno j h
      ·rw[show j=k from by omega,<- ht,<- Lib.toList_data];exact beq_eq_false_iff_ne.1 he
     generalize gO.getD k ⟨#[]⟩=x at *;clear ht
     go_wp2_with fail
     go_quiet (fail)
     go_wp2_with fail
     go_roundw
     case rel=>exact ⟨k+1,_,by omega,hno',by go_num,rfl⟩
     case measure=>simp [intOf];omega
   ·have hno':tf s p (k+1):=fun j hj=>by
     rcases Nat.lt_or_ge j k with h |h
     ·exact hno j h
     ·intro e;have e2:=congrArg List.length e;rw[List.length_take,Hlen.out] at e2;have:∀ j,j<4->(gO.getD j ⟨#[]⟩).data.toList.length=2:=fun j hj=>by
       match j,hj with
       | 0,_=>rfl
       | 1,_=>rfl
       | 2,_=>rfl
       | 3,_=>rfl
       |n+4,h=>omega
      rw[this j (by omega)] at e2;omega
    have hd:decide ((p:Int)+2<=(s.size:Int))=false:=by simp;omega
    go_wp2_with fail
    go_quiet (fail)
    go_wp2_with fail
    go_roundw
    case rel=>exact ⟨k+1,_,by omega,hno',by go_num,rfl⟩
    case measure=>simp [intOf];omega
  ·obtain rfl:k=4:=by omega
   have hsn:=IS (s.data.toList.drop p) (by rw[Hlen.out];omega) hno;rw[ke,dF s p hp] at hsn;have Hsn:=Lib.hid hsn;clear hsn;have hbm:=gN hb m;generalize W.drewN m=W1 at *
   go_wp2_with fail
   obtain ⟨O,hO,hOs,hOd⟩:∃ O:ByteArray,(⟨#[123,125,40,41,59,44,46,61,60,62,43,45,42,47,37]⟩:ByteArray)=O/\O.size=15/\O.data.toList=gP:=⟨_,rfl,rfl,rfl⟩;rw[hO];have HOd:=Lib.hid hOd;clear hO hOd
   go_loopw [8] (fun i wr=>∃ (k m:Nat),k<=15/\AQ s[p] k/\i = .int .i64 k/\wr=W1.drewN m) (fun i _=>15-(intOf i).toNat)
   case atStart=>exact ⟨0,0,by omega,fun j h=>by omega,rfl,rfl⟩
   case round=>
    obtain ⟨k,m2,hk2,hno2,rfl,rfl⟩:=hrel
    by_cases hlt2:k<15
    ·have hkO:k<O.size:=by rw[hOs];exact hlt2
     have hget:gP.getD k 0=O[k]:=by rw[<- HOd.out,dF O k hkO]
     have hmem:O[k]∈gP:=by
      rw[<- hget,List.getD_eq_getElem?_getD,List.getElem?_eq_getElem (show k<gP.length from hlt2)];exact List.getElem_mem _
     rcases Bool.eq_false_or_eq_true ((O[k].toNat:Int)==(s[p].toNat:Int)) with he |he
     ·have hes:O[k]=s[p]:=(te _ _).1 (beq_iff_eq.1 he);have Hfin:=Lib.hid (show cP (s.data.toList.drop p)=1 by rw[Hsn.out,if_pos (by rw[<- hes];exact hmem)]);clear hes hmem hget
      go_wp2_with fail
      go_quiet (fail)
      go_wp2_with fail
      go_ret
      exact ⟨by rw[Hfin.out];rfl,gN (gN hbm _) _⟩
     ·have hno2':AQ s[p] (k+1):=fun j hj=>by
       rcases Nat.lt_or_ge j k with h |h
       ·exact hno2 j h
       ·rw[show j=k from by omega,hget];exact fun e=>beq_eq_false_iff_ne.1 he (by rw[e])
      clear hmem hget
      go_wp2_with fail
      go_quiet (fail)
      go_wp2_with fail
      go_roundw
      case rel=>exact ⟨k+1,_,by omega,hno2',by go_num,rfl⟩
      case measure=>simp [intOf];omega
    ·have Hfin:=Lib.hid (show cP (s.data.toList.drop p)=0 by
      rw[Hsn.out,if_neg];intro hx;obtain ⟨j,hj,e⟩:=List.getElem_of_mem hx;have hj15:j<15:=hj;have h1:=hno2 j (by omega);rw[List.getD_eq_getElem?_getD,List.getElem?_eq_getElem hj] at h1;exact h1 e)
     go_wp2_with fail
     go_ret
     exact ⟨by rw[Hfin.out];rfl,gN hbm _⟩
theorem IU:(Tryz.prog.info? 132).map (fun i=>(i.zero,i.size,i.bytes))=some (some (.agg #[.int .i64 0,.string ⟨#[]⟩,.int .i64 0,.int .i64 0]),4,40):=by kernel_rfl
def RLexPost (s:ByteArray) (w:World) (e:Ending) (w':World):Prop:=
 ∃ A c,e = .returned (.tuple #[.slice A (ai s).1.length c,.int .i64 ((ai s).2.1:Nat),.int .i64 (ai s).2.2]) /\
   w'.ownsRow w.heap.size 132 4 (.slice A (ai s).1.length c) (ai s).1.length (di (ai s).1)/\Below w.heap.size w w'
theorem RLexPost.bad {s:ByteArray} {w w':World} {p:Nat} {x:Int} (h:ai s=([],p,x)) (hb:Below w.heap.size w w'):RLexPost s w (.returned (.tuple #[.slice none 0 0,.int .i64 p,.int .i64 x])) w':=by
 unfold RLexPost;rw[h];exact ⟨none,0,rfl,World.ownsRow_nil _ _ _ _,hb⟩
theorem RLexPost.good {s:ByteArray} {w w':World} {A:Option Addr} {n c:Nat} {acc:List Tok} (h:ai s=(acc,0,0)) (hn:n=acc.length) (ho:w'.ownsRow w.heap.size 132 4 (.slice A n c) n (di acc)) (hb:Below w.heap.size w w') :
 RLexPost s w (.returned (.tuple #[.slice A n c,.int .i64 0,.int .i64 0])) w':=by
 unfold RLexPost;rw[h];subst hn;exact ⟨A,c,rfl,ho,hb⟩
theorem AR (s:ByteArray) (p:Nat) (w:World) (hs:s.size<=140737488351232) (hp:p<s.size) {d:Nat} (hd:cP (s.data.toList.drop p)=d) :
 Calls Tryz.prog 53 #[.string s,.int .i64 p] w fun e w'=>e = .returned (.int .i64 d)/\Below w.heap.size w w':=by
 subst hd;exact IT s p w hs hp
theorem AS (wr:World) (t:TypeId) (a b c d e:Value) (m:Nat):((wr.alloc (.cells #[a,b,c,d] t)).drewN m).setCell ⟨wr.heap.size,2,none⟩ e=(wr.alloc (.cells #[a,b,e,d] t)).drewN m:=by
 show ((wr.alloc (.cells #[a,b,c,d] t)).setCell ⟨wr.heap.size,2,none⟩ e).drewN m=_;rw[World.setCell_alloc_at _ _ _ _ _ rfl];rfl
def th (wr wx:World) (g:Nat) (k:Int) (T:ByteArray) (m:Int) (p:Nat):Prop:=
 Below wr.heap.size wr wx/\g<wx.heap.size/\wx.cell? ⟨g,0,none⟩=some (.int .i64 k)/\wx.cell? ⟨g,1,none⟩=some (.string T)/\wx.cell? ⟨g,2,none⟩=some (.int .i64 m)/\wx.cell? ⟨g,3,none⟩=some (.int .i64 p)
set_option maxRecDepth 100000 in
set_option maxHeartbeats 8000000 in
theorem IV (s:ByteArray) (w:World) (hs:s.size<=2147483647) :
 Calls Tryz.prog 18 #[.string s] w fun e w'=>RLexPost s w e w':=by
 obtain ⟨i0,hi,hz0,hz1,hz2⟩:=info_parts IU;obtain ⟨R,hR⟩:∃ R,bI s s.size 0 []=R:=⟨_,rfl⟩;have HR:=Lib.hid hR
 go_enter Tryz.func18,Tryz.ntmps18
 go_wp2_with fail
 go_loopw [5,6] (fun v i wr=>∃ (p f:Nat) (acc:List Tok) (A:Option Addr) (n c:Nat),p<=s.size/\s.size<=p+f/\bI s f p acc=R/\n=acc.length/\n<=p/\i = .int .i64 p/\v = .slice A n c /\
  wr.ownsRow w.heap.size 132 4 (.slice A n c) n (di acc)/\Below w.heap.size w wr)
  (fun _ i _=>s.size-(intOf i).toNat)
 case atStart=>exact ⟨0,s.size,[],none,0,0,by omega,by omega,hR,rfl,by omega,rfl,rfl,World.ownsRow_nil _ _ _ _,Below.refl _ _⟩
 case round=>
  obtain ⟨p,f,acc,A,n,c,hp,hf,hgo,hn,hnp,rfl,rfl,hown,hbw⟩:=hrel;clear hR;have Hn:=Lib.hid hn;clear hn;have Hgo:=Lib.hid hgo;clear hgo
  by_cases hlt:p<s.size
  ·have hgd:=dF s p hlt
   rcases Bool.eq_false_or_eq_true (hH (s[p].toNat:Int)) with hg |hg
   ·have Hst:=Lib.hid (wI hlt (by rw[hgd];exact hg) hf Hgo.out);have hg2:(s[p].toNat:Int)==32 ∨ (((s[p].toNat:Int)==32)=false/\((s[p].toNat:Int)==10)=true):=by
     rcases Bool.eq_false_or_eq_true ((s[p].toNat:Int)==32) with h |h
     ·exact .inl h
     ·refine .inr ⟨h,?_⟩;unfold hH at hg;rw[h,Bool.false_or] at hg;exact hg
    clear hgd hg
    rcases hg2 with h32 |⟨h32,h10⟩
    all_goals
     go_wp2_with fail
     go_roundw
     case rel=>
      obtain ⟨f',hf',hgo'⟩:=Hst.out;exact ⟨p+1,f',acc,A,n,c,by omega,hf',hgo',Hn.out,by omega,by go_num,rfl,hown,hbw⟩
     case measure=>simp [intOf];omega
   ·have hgU:cy (s.data.toList.getD p 0)=false:=by rw[hgd];exact hg
    have hhd:(s.data.toList.drop p).headD 0=s[p]:=by rw[ke,hgd]
    have h32:((s[p].toNat:Int)==32)=false/\((s[p].toNat:Int)==10)=false:=by
     unfold hH at hg
     rcases Bool.eq_false_or_eq_true ((s[p].toNat:Int)==32) with h |h
     ·rw[h] at hg;cases hg
     ·rw[h,Bool.false_or] at hg;exact ⟨h,hg⟩
    obtain ⟨h32,h10⟩:=h32;clear hgd hg
    rcases Bool.eq_false_or_eq_true (bQ (s[p].toNat:Int)) with hl |hl
    ·
     have hE0:bb (s.data.toList.drop p)=cQ (s.data.toList.drop p):=by
      unfold bb;rw[hhd,if_pos (show bG s[p]=true from hl)]
     obtain ⟨d,hd⟩:∃ d,lenOf aU (s.data.toList.drop p)=d:=⟨_,rfl⟩;have hd1:p+d<=s.size:=by
      have h1:=fj aU (s.data.toList.drop p);have hl0:s.data.toList.length=s.size:=Array.length_toList;rw[hd,List.length_drop,hl0] at h1;omega
     have Hd:=Lib.hid hd;have HE0:=Lib.hid hE0;clear hd hE0 hhd
     go_upto_block 2 with fail
     go_cut [8] from 12 to 146 (fun e8 wx=>e8 = .int .i64 ((p+d:Nat):Int)/\wx=wr)
     case first=>
      go_wp2_with fail
      go_loop [8] (fun e=>∃ k:Nat,Run aU s p k/\e = .int .i64 k) (fun e=>s.size-(intOf e).toNat)
      case atStart=>exact ⟨p,Run.start (by omega),rfl⟩
      case round=>
       obtain ⟨k,hk,rfl⟩:=hrel;have hk1:=hk.1;have hk2:=hk.2.1
       by_cases hlt2:k<s.size
       ·rcases Bool.eq_false_or_eq_true (bQ (s[k].toNat:Int)) with hl2 |hl2
        ·go_wp2_with (first |(go_at_call 50;refine (dl _ _).mono ?_;rintro e w' ⟨rfl,rfl⟩) |(go_at_call 51;refine (dN _ _).mono ?_;rintro e w' ⟨rfl,rfl⟩))
         go_round
         case rel=>exact ⟨k+1,hk.step hlt2 (by simp [aU,bG,hl2]),by go_num⟩
         case measure=>simp [intOf];omega
        ·rcases Bool.eq_false_or_eq_true (bF (s[k].toNat:Int)) with hd2 |hd2
         ·go_wp2_with (first |(go_at_call 50;refine (dl _ _).mono ?_;rintro e w' ⟨rfl,rfl⟩) |(go_at_call 51;refine (dN _ _).mono ?_;rintro e w' ⟨rfl,rfl⟩))
          go_round
          case rel=>exact ⟨k+1,hk.step hlt2 (by simp [aU,ay,hd2]),by go_num⟩
          case measure=>simp [intOf];omega
         ·have hn2:=hk.len (fun h=>by rw[dF s k h];simp [aU,bG,ay,hl2,hd2]);rw[Hd.out] at hn2;have Hkd:=Lib.hid (show p+d=k by omega);clear hn2
          go_wp2_with (first |(go_at_call 50;refine (dl _ _).mono ?_;rintro e w' ⟨rfl,rfl⟩) |(go_at_call 51;refine (dN _ _).mono ?_;rintro e w' ⟨rfl,rfl⟩))
          go_meet
          case rel=>exact ⟨by rw[Hkd.out],rfl⟩
       ·have hn2:=hk.len (fun h=>absurd h hlt2);rw[Hd.out] at hn2;have Hkd:=Lib.hid (show p+d=k by omega);clear hn2
        go_wp2_with fail
        go_meet
        case rel=>exact ⟨by rw[Hkd.out],rfl⟩
     case rest=>
      obtain ⟨rfl,hwc⟩:=hcut;have hwc2:=hwc.symm;subst hwc2;clear hwc;obtain ⟨T,hT⟩:∃ T,s.extract p (p+d)=T:=⟨_,rfl⟩;have hTs:T.size=d:=by rw[<- hT];simp;omega
      have hTl:T.toList=(s.data.toList.drop p).take d:=by
       rw[<- hT,Lib.extract_toList,show p+d-p=d from by omega]
      have HTl:=Lib.hid hTl;clear hTl;have hb0:Below wr.heap.size wr (wr.alloc (.cells #[.int .i64 1,.string T,.int .i64 0,.int .i64 p] 132)).drew:=(dA (Below.refl _ wr) (Nat.le_refl _) _).drew;have hsz0:(wr.alloc (.cells #[.int .i64 1,.string T,.int .i64 0,.int .i64 p] 132)).drew.heap.size=wr.heap.size+1:=by simp
      by_cases h12:12<d
      ·have Hfin:=Lib.hid (gK HR.out (j9 hlt hgU (e:=3) (by rw[HE0.out];unfold cQ;rw[Hd.out,if_pos h12]) hf Hgo.out))
       go_upto_block 4 with fail
       go_wp2_with (go_at_call 50;refine (dl _ _).mono ?_;rintro e w' ⟨rfl,rfl⟩)
       go_region
       go_wp2_with fail
       refine (AO T _).mono ?_
       rintro e w2 ⟨rfl,hb2⟩;obtain ⟨hc,hfz⟩:=iw hb2;have hz:wr.heap.size<w2.heap.size:=by have:=hb2.size;rw[hsz0] at this;omega
       have hb3:Below w.heap.size w w2:=(hbw.trans (hb0.mono hbw.size)).trans (hb2.mono (by rw[hsz0];have:=hbw.size;omega));clear hb2 hb0 hsz0
       rcases Bool.eq_false_or_eq_true (et T.toList) with hr |hr
       ·go_wp2_with fail
        go_ret3
        exact RLexPost.bad Hfin.out (hb3.setCell hbw.size _)
       ·go_wp2_with fail
        go_ret3
        exact RLexPost.bad Hfin.out hb3
      ·obtain ⟨kd,hkd⟩:∃ kd:Int,(if et T.toList then 4 else 1)=kd:=⟨_,rfl⟩;have hEok:bb (s.data.toList.drop p) = .ok (kd,d,0):=by
        rw[HE0.out];unfold cQ;rw[Hd.out,if_neg h12,<- HTl.out,hkd]
       have hdp:1<=d:=(gr (by have hl0:s.data.toList.length=s.size:=Array.length_toList;rw[List.length_drop,hl0];omega) hEok).1;have Hst:=Lib.hid (od hlt hgU hEok hf hdp Hgo.out);have Hkd:=Lib.hid hkd;clear hEok hkd
       go_upto_block 4 with fail
       go_cut [8] from 12 to 146 (fun e8 wx=>e8 = .int .i64 ((p+d:Nat):Int)/\th wr wx wr.heap.size kd T 0 p)
       case first=>
        go_wp2_with (go_at_call 50;refine (dl _ _).mono ?_;rintro e w' ⟨rfl,rfl⟩)
        go_region
        go_wp2_with fail
        refine (AO T _).mono ?_
        rintro e w2 ⟨rfl,hb2⟩;obtain ⟨hc,hfz⟩:=iw hb2;have hz:wr.heap.size<w2.heap.size:=by have:=hb2.size;rw[hsz0] at this;omega
        have hb3:Below wr.heap.size wr w2:=hb0.trans (hb2.mono (by rw[hsz0];omega));have hc0:=hc wr.heap.size 0 (by rw[hsz0];omega);have hc1:=hc wr.heap.size 1 (by rw[hsz0];omega);have hc2:=hc wr.heap.size 2 (by rw[hsz0];omega);have hc3:=hc wr.heap.size 3 (by rw[hsz0];omega);simp at hc0 hc1 hc2 hc3;clear hb2 hb0 hsz0
        rcases Bool.eq_false_or_eq_true (et T.toList) with hr |hr
        ·go_wp2_with fail
         go_meet
         case rel=>
          have hk:=Hkd.out;rw[if_pos hr] at hk;refine ⟨by go_num,hb3.setCell (Nat.le_refl _) _,by simpa using hz,?_,?_,?_,?_⟩
          ·rw[<- hk];go_simp
          ·go_simp
          ·go_simp
          ·go_simp
        ·go_wp2_with fail
         go_meet
         case rel=>
          have hk:=Hkd.out;rw[if_neg (by rw[hr];decide)] at hk;refine ⟨by go_num,hb3,hz,?_,hc1,hc2,hc3⟩;rw[hc0,hk]
       case rest=>
        obtain ⟨rfl,hb4,hg4,t0,t1,t2,t3⟩:=hcut
        go_wp2_with (at_builtin;refine wpList_append_own _ rfl (.tmp 142) (.tmp 144) _ rfl w.heap.size 132 i0 _ 4 40 Tryz.underlying87 hi hz0 hz1 hz2 rfl (by decide) (.slice A n c) n _ rfl (mS hown (dA hb4 (Nat.le_refl _) _)) ⟨wc.heap.size,0,none⟩ 1 1 [.int .i64 kd,.string T,.int .i64 0,.int .i64 p] rfl rfl ?c1 ?c2 ?c3 ?c4 ?c5 ?_)
        case c1=>exact pE _ _ _
        case c2=>
         intro u hu;simp at hu
         rcases hu with rfl |rfl |rfl |rfl<;>rfl
        case c3=>unfold maxLen;omega
        case c4=>omega
        case c5=>have:=hb4.size;have:=hbw.size;simp;omega
        intro v' w3 hown' hgrow _;obtain ⟨g,cap,hv⟩:=pD hown' (by omega);have Hv:=Lib.hid hv;have Hl:Hid (n+1=(acc++[(⟨kd,T,0,p⟩:Tok)]).length):=by
         show n+1=_;rw[List.length_append,<- Hn.out];rfl
        have hown2:w3.ownsRow w.heap.size 132 4 (.slice (some ⟨g,0,none⟩) (n+1) cap) (n+1) (di (acc++[(⟨kd,T,0,p⟩:Tok)])):=by
         rw[pC,<- hv];exact hown'
        have hB3:Below w.heap.size w w3:=(hbw.trans ((dA hb4 (Nat.le_refl _) _).mono hbw.size)).grown hgrow (by have:=hb4.size;have:=hbw.size;simp;omega) (fun b hb=>(hown.lt b hb).1);clear hv hown' hgrow hown
        go_wp2_with fail
        go_roundw
        case rel=>
         obtain ⟨f',hf',hgo'⟩:=Hst.out;exact ⟨p+d,f',acc++[(⟨kd,T,0,p⟩:Tok)],some ⟨g,0,none⟩,n+1,cap,by omega,hf',by rw[<- hT];exact hgo',Hl,by omega,by go_num,Hv.out,hown2,hB3⟩
        case measure=>simp [intOf];omega
    ·rcases Bool.eq_false_or_eq_true (bF (s[p].toNat:Int)) with hdg |hdg
     ·
      have hE0:bb (s.data.toList.drop p)=cq (s.data.toList.drop p):=by
       unfold bb;rw[hhd,if_neg (show ¬ bG s[p]=true by show ¬ bQ _=true;rw[hl];decide),if_pos (show ay s[p]=true from hdg)]
      obtain ⟨d,hd⟩:∃ d,lenOf aU (s.data.toList.drop p)=d:=⟨_,rfl⟩;have hd1:p+d<=s.size:=by
       have h1:=fj aU (s.data.toList.drop p);have hl0:s.data.toList.length=s.size:=Array.length_toList;rw[hd,List.length_drop,hl0] at h1;omega
      obtain ⟨T,hT⟩:∃ T,s.extract p (p+d)=T:=⟨_,rfl⟩;have hTs:T.size=d:=by rw[<- hT];simp;omega
      have hTl:(s.data.toList.drop p).take d=T.data.toList:=by
       rw[<- hT,Lib.extract_data,show p+d-p=d from by omega]
      have hnum:=Gi (s.data.toList.drop p) T.data.toList d (by rw[hhd];exact hdg) hd hTl;rw[hhd] at hnum;have h48:s[p]=48↔((s[p].toNat:Int)==48)=true:=by
       rw[beq_iff_eq];exact (te s[p] 48).symm
      simp only[h48] at hnum;have Hd:=Lib.hid hd;have HE0:=Lib.hid hE0;have Hnum:=Lib.hid hnum;clear hd hE0 hhd hTl hnum h48
      go_upto_block 2 with fail
      go_cut [8] from 12 to 146 (fun e8 wx=>e8 = .int .i64 ((p+d:Nat):Int)/\wx=wr)
      case first=>
       go_wp2_with fail
       go_loop [8] (fun e=>∃ k:Nat,Run aU s p k/\e = .int .i64 k) (fun e=>s.size-(intOf e).toNat)
       case atStart=>exact ⟨p,Run.start (by omega),rfl⟩
       case round=>
        obtain ⟨k,hk,rfl⟩:=hrel;have hk1:=hk.1;have hk2:=hk.2.1
        by_cases hlt2:k<s.size
        ·rcases Bool.eq_false_or_eq_true (bQ (s[k].toNat:Int)) with hl2 |hl2
         ·go_wp2_with (first |(go_at_call 50;refine (dl _ _).mono ?_;rintro e w' ⟨rfl,rfl⟩) |(go_at_call 51;refine (dN _ _).mono ?_;rintro e w' ⟨rfl,rfl⟩))
          go_round
          case rel=>exact ⟨k+1,hk.step hlt2 (by simp [aU,bG,hl2]),by go_num⟩
          case measure=>simp [intOf];omega
         ·rcases Bool.eq_false_or_eq_true (bF (s[k].toNat:Int)) with hd2 |hd2
          ·go_wp2_with (first |(go_at_call 50;refine (dl _ _).mono ?_;rintro e w' ⟨rfl,rfl⟩) |(go_at_call 51;refine (dN _ _).mono ?_;rintro e w' ⟨rfl,rfl⟩))
           go_round
           case rel=>exact ⟨k+1,hk.step hlt2 (by simp [aU,ay,hd2]),by go_num⟩
           case measure=>simp [intOf];omega
          ·have hn2:=hk.len (fun h=>by rw[dF s k h];simp [aU,bG,ay,hl2,hd2]);rw[Hd.out] at hn2;have Hkd:=Lib.hid (show p+d=k by omega);clear hn2
           go_wp2_with (first |(go_at_call 50;refine (dl _ _).mono ?_;rintro e w' ⟨rfl,rfl⟩) |(go_at_call 51;refine (dN _ _).mono ?_;rintro e w' ⟨rfl,rfl⟩))
           go_meet
           case rel=>exact ⟨by rw[Hkd.out],rfl⟩
        ·have hn2:=hk.len (fun h=>absurd h hlt2);rw[Hd.out] at hn2;have Hkd:=Lib.hid (show p+d=k by omega);clear hn2
         go_wp2_with fail
         go_meet
         case rel=>exact ⟨by rw[Hkd.out],rfl⟩
      case rest=>
       obtain ⟨rfl,hwc⟩:=hcut;have hwc2:=hwc.symm;subst hwc2;clear hwc
       go_upto_block 4 with fail
       by_cases h10d:10<d
       ·have Hfin:=Lib.hid (gK HR.out (j9 hlt hgU (e:=3) (by rw[HE0.out,Hnum.out,if_pos (.inl h10d)]) hf Hgo.out))
        go_wp2_with (first |(go_at_call 50;refine (dl _ _).mono ?_;rintro e w' ⟨rfl,rfl⟩) |(go_at_call 51;refine (dN _ _).mono ?_;rintro e w' ⟨rfl,rfl⟩))
        go_region
        go_wp2_with fail
        go_ret3
        exact RLexPost.bad Hfin.out (dA hbw (by omega) _).drew
       ·by_cases hz48:1<d/\((s[p].toNat:Int)==48)=true
        ·obtain ⟨hz1,hz2⟩:=hz48;have Hfin:=Lib.hid (gK HR.out (j9 hlt hgU (e:=3) (by rw[HE0.out,Hnum.out,if_pos (.inr (.inl ⟨hz1,hz2⟩))]) hf Hgo.out))
         go_wp2_with (first |(go_at_call 50;refine (dl _ _).mono ?_;rintro e w' ⟨rfl,rfl⟩) |(go_at_call 51;refine (dN _ _).mono ?_;rintro e w' ⟨rfl,rfl⟩))
         go_region
         go_wp2_with fail
         go_ret3
         exact RLexPost.bad Hfin.out (dA hbw (by omega) _).drew
        ·have hz:d<=1 ∨ (1<d/\((s[p].toNat:Int)==48)=false):=by
          rcases Bool.eq_false_or_eq_true ((s[p].toNat:Int)==48) with h |h
          ·exact .inl (by have:¬ 1<d:=fun hx=>hz48 ⟨hx,h⟩;omega)
          ·by_cases h1:1<d
           ·exact .inr ⟨h1,h⟩
           ·exact .inl (by omega)
         by_cases hbad:lenOf ay T.data.toList<d ∨ 2147483647<val T.data.toList
         ·have Hfin:=Lib.hid (gK HR.out (j9 hlt hgU (e:=3) (by rw[HE0.out,Hnum.out,if_pos (.inr (.inr hbad))]) hf Hgo.out));have Hbad:=Lib.hid hbad;clear hbad hz48
          rcases hz with hz |⟨hz,hz'⟩
          all_goals
           go_wp2_with (first |(go_at_call 50;refine (dl _ _).mono ?_;rintro e w' ⟨rfl,rfl⟩) |(go_at_call 51;refine (dN _ _).mono ?_;rintro e w' ⟨rfl,rfl⟩))
           go_region
           go_wp2_with fail
           go_loopw [10] (fun i wx=>∃ (k m:Nat) (v:Int),Run ay T 0 k/\Hid ((vl T 0 k:Int)=v)/\0<=v/\v<10000000000/\i = .int .i64 k/\wx=(wr.alloc (.cells #[.int .i64 2,.string T,.int .i64 v,.int .i64 p] 132)).drewN m) (fun i _=>d-(intOf i).toNat)
           case atStart=>exact ⟨0,1,0,Run.start (by omega),(show ((vl T 0 0:Nat):Int)=0 by rw[rf];rfl),by omega,by omega,rfl,rfl⟩
           case round=>
            obtain ⟨k,m,v,hk,hv,hv0,hv1,rfl,rfl⟩:=hrel;have hk2:=hk.2.1
            by_cases hkd:k<d
            ·have hkT:k<T.size:=by omega
             rcases Bool.eq_false_or_eq_true (bF (T[k].toNat:Int)) with hdk |hdk
             ·have hb48:48<=(T[k].toNat:Int)/\(T[k].toNat:Int)<=57:=by simpa [bF] using hdk
              obtain ⟨hb1,hb2⟩:=hb48;have hst:=rg T 0 k (by omega) hkT;have hrun:=hk.step hkT (show ay T[k]=true from hdk);have hfew:=hrun.few (by omega);have Hst:=Lib.hid (show ((vl T 0 (k+1):Nat):Int)=10*v+((T[k].toNat:Int)-48) by rw[hst];have:=hv.out;omega);have hnew0:0<=10*v+((T[k].toNat:Int)-48):=by omega
              have hnew1:10*v+((T[k].toNat:Int)-48)<10000000000:=by rw[<- Hst.out];omega
              clear hst hfew
              go_wp2_with (first |(go_at_call 50;refine (dl _ _).mono ?_;rintro e w' ⟨rfl,rfl⟩) |(go_at_call 51;refine (dN _ _).mono ?_;rintro e w' ⟨rfl,rfl⟩))
              go_region
              go_wp2_with fail
              go_roundw
              case rel=>exact ⟨k+1,_,_,hrun,Hst.out,hnew0,hnew1,by go_num,AS _ _ _ _ _ _ _ _⟩
              case measure=>simp [intOf];omega
             ·go_wp2_with (first |(go_at_call 50;refine (dl _ _).mono ?_;rintro e w' ⟨rfl,rfl⟩) |(go_at_call 51;refine (dN _ _).mono ?_;rintro e w' ⟨rfl,rfl⟩))
              go_ret3
              exact RLexPost.bad Hfin.out (gN (dA hbw (by omega) _) _)
            ·have hkd2:k=d:=by omega
             have hlast:2147483647<v:=by
              have h1:lenOf ay T.data.toList=d:=by rw[<- hkd2];exact hk.whole (by omega)
              have h2:=Hbad.out.resolve_left (by omega);have h3:=hk.val_whole (by omega);have h4:=hv.out;omega
             clear hkd2
             go_wp2_with fail
             go_ret3
             exact RLexPost.bad Hfin.out (gN (dA hbw (by omega) _) _)
         ·have hlen:lenOf ay T.data.toList=d:=by
           have h1:=fj ay T.data.toList;have h2:T.data.toList.length=d:=by rw[<- hTs];exact Array.length_toList
           omega
          have hvb:¬ 2147483647<val T.data.toList:=fun h=>hbad (.inr h)
          obtain ⟨vv,hvv⟩:∃ vv:Int,(val T.data.toList:Int)=vv:=⟨_,rfl⟩;have hEok:bb (s.data.toList.drop p) = .ok (2,d,vv):=by
           rw[HE0.out,Hnum.out,if_neg (fun h=>h.elim h10d (fun h=>h.elim hz48 hbad)),hvv]
          have hdp:1<=d:=(gr (by have hl0:s.data.toList.length=s.size:=Array.length_toList;rw[List.length_drop,hl0];omega) hEok).1;have Hst:=Lib.hid (od hlt hgU hEok hf hdp Hgo.out);have Hvv:=Lib.hid hvv;clear hEok hvv hbad hz48
          go_cut [8] from 12 to 146 (fun e8 wx=>e8 = .int .i64 ((p+d:Nat):Int)/\th wr wx wr.heap.size 2 T vv p)
          case first=>
           rcases hz with hz |⟨hz,hz'⟩
           all_goals
            go_wp2_with (first |(go_at_call 50;refine (dl _ _).mono ?_;rintro e w' ⟨rfl,rfl⟩) |(go_at_call 51;refine (dN _ _).mono ?_;rintro e w' ⟨rfl,rfl⟩))
            go_region
            go_wp2_with fail
            go_loopw [10] (fun i wx=>∃ (k m:Nat) (v:Int),Run ay T 0 k/\Hid ((vl T 0 k:Int)=v)/\0<=v/\v<10000000000/\i = .int .i64 k/\wx=(wr.alloc (.cells #[.int .i64 2,.string T,.int .i64 v,.int .i64 p] 132)).drewN m) (fun i _=>d-(intOf i).toNat)
            case atStart=>exact ⟨0,1,0,Run.start (by omega),(show ((vl T 0 0:Nat):Int)=0 by rw[rf];rfl),by omega,by omega,rfl,rfl⟩
            case round=>
             obtain ⟨k,m,v,hk,hv,hv0,hv1,rfl,rfl⟩:=hrel;have hk2:=hk.2.1
             by_cases hkd:k<d
             ·have hkT:k<T.size:=by omega
              rcases Bool.eq_false_or_eq_true (bF (T[k].toNat:Int)) with hdk |hdk
              ·have hb48:48<=(T[k].toNat:Int)/\(T[k].toNat:Int)<=57:=by simpa [bF] using hdk
               obtain ⟨hb1,hb2⟩:=hb48;have hst:=rg T 0 k (by omega) hkT;have hrun:=hk.step hkT (show ay T[k]=true from hdk);have hfew:=hrun.few (by omega);have Hst:=Lib.hid (show ((vl T 0 (k+1):Nat):Int)=10*v+((T[k].toNat:Int)-48) by rw[hst];have:=hv.out;omega);have hnew0:0<=10*v+((T[k].toNat:Int)-48):=by omega
               have hnew1:10*v+((T[k].toNat:Int)-48)<10000000000:=by rw[<- Hst.out];omega
               clear hst hfew
               go_wp2_with (first |(go_at_call 50;refine (dl _ _).mono ?_;rintro e w' ⟨rfl,rfl⟩) |(go_at_call 51;refine (dN _ _).mono ?_;rintro e w' ⟨rfl,rfl⟩))
               go_region
               go_wp2_with fail
               go_roundw
               case rel=>exact ⟨k+1,_,_,hrun,Hst.out,hnew0,hnew1,by go_num,AS _ _ _ _ _ _ _ _⟩
               case measure=>simp [intOf];omega
              ·exact absurd (hk.part hkT hdk hlen) (by omega)
             ·have hkd2:k=d:=by omega
              have hveq:v=vv:=by
               have h3:=hk.val_whole (by omega);rw[<- hv.out,<- Hvv.out,h3]
              have Hveq:=Lib.hid hveq;have hlast:v<=2147483647:=by
               have h1:=Hvv.out;have h2:=Hveq.out;omega
              clear hkd2 hveq
              go_wp2_with fail
              go_meet
              case rel=>
               refine ⟨by go_num,gN (dA (Below.refl _ _) (Nat.le_refl _) _) _,by simp,?_,?_,?_,?_⟩
               ·go_simp
               ·go_simp
               ·rw[<- Hveq.out];go_simp
               ·go_simp
          case rest=>
           obtain ⟨rfl,hb4,hg4,t0,t1,t2,t3⟩:=hcut
           go_wp2_with (at_builtin;refine wpList_append_own _ rfl (.tmp 142) (.tmp 144) _ rfl w.heap.size 132 i0 _ 4 40 Tryz.underlying87 hi hz0 hz1 hz2 rfl (by decide) (.slice A n c) n _ rfl (mS hown (dA hb4 (Nat.le_refl _) _)) ⟨wc.heap.size,0,none⟩ 1 1 [.int .i64 2,.string T,.int .i64 vv,.int .i64 p] rfl rfl ?c1 ?c2 ?c3 ?c4 ?c5 ?_)
           case c1=>exact pE _ _ _
           case c2=>
            intro u hu;simp at hu
            rcases hu with rfl |rfl |rfl |rfl<;>rfl
           case c3=>unfold maxLen;omega
           case c4=>omega
           case c5=>have:=hb4.size;have:=hbw.size;simp;omega
           intro v' w3 hown' hgrow _;obtain ⟨g,cap,hv⟩:=pD hown' (by omega);have Hv:=Lib.hid hv;have Hl:Hid (n+1=(acc++[(⟨2,T,vv,p⟩:Tok)]).length):=by
            show n+1=_;rw[List.length_append,<- Hn.out];rfl
           have hown2:w3.ownsRow w.heap.size 132 4 (.slice (some ⟨g,0,none⟩) (n+1) cap) (n+1) (di (acc++[(⟨2,T,vv,p⟩:Tok)])):=by
            rw[pC,<- hv];exact hown'
           have hB3:Below w.heap.size w w3:=(hbw.trans ((dA hb4 (Nat.le_refl _) _).mono hbw.size)).grown hgrow (by have:=hb4.size;have:=hbw.size;simp;omega) (fun b hb=>(hown.lt b hb).1);clear hv hown' hgrow hown
           go_wp2_with fail
           go_roundw
           case rel=>
            obtain ⟨f',hf',hgo'⟩:=Hst.out;exact ⟨p+d,f',acc++[(⟨2,T,vv,p⟩:Tok)],some ⟨g,0,none⟩,n+1,cap,by omega,hf',by rw[<- hT];exact hgo',Hl,by omega,by go_num,Hv.out,hown2,hB3⟩
           case measure=>simp [intOf];omega
     ·
      have hE0:bb (s.data.toList.drop p)=dY (s.data.toList.drop p):=by
       unfold bb;rw[hhd,if_neg (show ¬ bG s[p]=true by show ¬ bQ _=true;rw[hl];decide),if_neg (show ¬ ay s[p]=true by show ¬ bF _=true;rw[hdg];decide)]
      obtain ⟨d,hd⟩:∃ d,cP (s.data.toList.drop p)=d:=⟨_,rfl⟩;have hd1:p+d<=s.size:=by
       have h1:=wH (s.data.toList.drop p);have hl0:s.data.toList.length=s.size:=Array.length_toList;rw[hd,List.length_drop,hl0] at h1;omega
      have Hd:=Lib.hid hd;have HE0:=Lib.hid hE0;clear hd hE0 hhd
      go_upto_block 2 with fail
      go_cut [8] from 12 to 146 (fun e8 wx=>e8 = .int .i64 p/\wx=wr)
      case first=>
       go_wp2_with fail
       go_loop [8] (fun e=>e = .int .i64 p) (fun _=>0)
       case atStart=>rfl
       case round=>
        subst hrel
        go_wp2_with (first |(go_at_call 50;refine (dl _ _).mono ?_;rintro e w' ⟨rfl,rfl⟩) |(go_at_call 51;refine (dN _ _).mono ?_;rintro e w' ⟨rfl,rfl⟩))
        go_meet
        case rel=>exact ⟨rfl,rfl⟩
      case rest=>
       obtain ⟨rfl,hwc⟩:=hcut;have hwc2:=hwc.symm;subst hwc2;clear hwc
       go_upto_block 4 with fail
       have hsz0:(wr.alloc (.cells #[.int .i64 0,.string ⟨#[]⟩,.int .i64 0,.int .i64 p] 132)).heap.size=wr.heap.size+1:=by simp
       have hb0:Below wr.heap.size wr (wr.alloc (.cells #[.int .i64 0,.string ⟨#[]⟩,.int .i64 0,.int .i64 p] 132)):=dA (Below.refl _ wr) (Nat.le_refl _) _
       by_cases hd0:d=0
       ·have Hfin:=Lib.hid (gK HR.out (j9 hlt hgU (e:=2) (by rw[HE0.out];unfold dY;rw[Hd.out,if_pos hd0]) hf Hgo.out));subst hd0
        go_wp2_with (first |(go_at_call 50;refine (dl _ _).mono ?_;rintro e w' ⟨rfl,rfl⟩) |(go_at_call 51;refine (dN _ _).mono ?_;rintro e w' ⟨rfl,rfl⟩))
        refine (AR s p _ (by omega) hlt Hd.out).mono ?_
        rintro e w2 ⟨rfl,hb2⟩
        go_wp2_with fail
        go_ret3
        exact RLexPost.bad Hfin.out ((hbw.trans (hb0.mono hbw.size)).trans (hb2.mono (by rw[hsz0];have:=hbw.size;omega)))
       ·have hEok:bb (s.data.toList.drop p) = .ok (3,d,0):=by rw[HE0.out];unfold dY;rw[Hd.out,if_neg hd0]
        have hdp:1<=d:=by omega
        have hnz:((d:Int)==0)=false:=by rw[beq_eq_false_iff_ne];omega
        obtain ⟨T,hT⟩:∃ T,s.extract p (p+d)=T:=⟨_,rfl⟩;have Hst:=Lib.hid (od hlt hgU hEok hf hdp Hgo.out);clear hEok hd0
        go_cut [8] from 12 to 146 (fun e8 wx=>e8 = .int .i64 ((p+d:Nat):Int)/\th wr wx wr.heap.size 3 T 0 p)
        case first=>
         go_wp2_with (first |(go_at_call 50;refine (dl _ _).mono ?_;rintro e w' ⟨rfl,rfl⟩) |(go_at_call 51;refine (dN _ _).mono ?_;rintro e w' ⟨rfl,rfl⟩))
         refine (AR s p _ (by omega) hlt Hd.out).mono ?_
         rintro e w2 ⟨rfl,hb2⟩;obtain ⟨hc,hfz⟩:=iw hb2;have hz:wr.heap.size<w2.heap.size:=by have:=hb2.size;rw[hsz0] at this;omega
         have hb3:Below wr.heap.size wr w2:=hb0.trans (hb2.mono (by rw[hsz0];omega));have hc0:=hc wr.heap.size 0 (by rw[hsz0];omega);have hc1:=hc wr.heap.size 1 (by rw[hsz0];omega);have hc2:=hc wr.heap.size 2 (by rw[hsz0];omega);have hc3:=hc wr.heap.size 3 (by rw[hsz0];omega);have hf0:=hfz wr.heap.size 0 (by rw[hsz0];omega);have hf1:=hfz wr.heap.size 1 (by rw[hsz0];omega);simp at hc0 hc1 hc2 hc3;rw[World.frozen?_alloc_at _ _ _ _ rfl] at hf0 hf1;clear hb2 hb0 hsz0 hc hfz
         go_wp2_with fail
         go_region
         go_wp2_with fail
         go_meet
         case rel=>
          refine ⟨by go_num,((hb3.setCell (Nat.le_refl _) _).setCell (Nat.le_refl _) _).drew,by simpa using hz,?_,?_,?_,?_⟩
          ·go_simp
          ·go_simp
          ·go_simp
          ·go_simp
        case rest=>
         obtain ⟨rfl,hb4,hg4,t0,t1,t2,t3⟩:=hcut
         go_wp2_with (at_builtin;refine wpList_append_own _ rfl (.tmp 142) (.tmp 144) _ rfl w.heap.size 132 i0 _ 4 40 Tryz.underlying87 hi hz0 hz1 hz2 rfl (by decide) (.slice A n c) n _ rfl (mS hown (dA hb4 (Nat.le_refl _) _)) ⟨wc.heap.size,0,none⟩ 1 1 [.int .i64 3,.string T,.int .i64 0,.int .i64 p] rfl rfl ?c1 ?c2 ?c3 ?c4 ?c5 ?_)
         case c1=>exact pE _ _ _
         case c2=>
          intro u hu;simp at hu
          rcases hu with rfl |rfl |rfl |rfl<;>rfl
         case c3=>unfold maxLen;omega
         case c4=>omega
         case c5=>have:=hb4.size;have:=hbw.size;simp;omega
         intro v' w3 hown' hgrow _;obtain ⟨g,cap,hv⟩:=pD hown' (by omega);have Hv:=Lib.hid hv;have Hl:Hid (n+1=(acc++[(⟨3,T,0,p⟩:Tok)]).length):=by
          show n+1=_;rw[List.length_append,<- Hn.out];rfl
         have hown2:w3.ownsRow w.heap.size 132 4 (.slice (some ⟨g,0,none⟩) (n+1) cap) (n+1) (di (acc++[(⟨3,T,0,p⟩:Tok)])):=by
          rw[pC,<- hv];exact hown'
         have hB3:Below w.heap.size w w3:=(hbw.trans ((dA hb4 (Nat.le_refl _) _).mono hbw.size)).grown hgrow (by have:=hb4.size;have:=hbw.size;simp;omega) (fun b hb=>(hown.lt b hb).1);clear hv hown' hgrow hown
         go_wp2_with fail
         go_roundw
         case rel=>
          obtain ⟨f',hf',hgo'⟩:=Hst.out;exact ⟨p+d,f',acc++[(⟨3,T,0,p⟩:Tok)],some ⟨g,0,none⟩,n+1,cap,by omega,hf',by rw[<- hT];exact hgo',Hl,by omega,by go_num,Hv.out,hown2,hB3⟩
         case measure=>simp [intOf];omega
  ·have hend:=wJ (by omega) Hgo.out
   by_cases hn2:n<=2000
   ·have Hfin:=Lib.hid (mU HR.out hend (by rw[<- Hn.out];exact hn2));clear hend
    go_wp2_with fail
    go_ret3
    exact RLexPost.good Hfin.out Hn.out hown hbw
   ·have Hfin:=Lib.hid (mT HR.out hend (by rw[<- Hn.out];omega));clear hend
    go_wp2_with fail
    go_ret3
    exact RLexPost.bad Hfin.out hbw
end Go.Proofs.YtbhbjhejkamlnaaGreat
