import Derived.Test.YtbhbjhejkamlnaaGreatZx22
set_option linter.all false
namespace Go.Proofs.YtbhbjhejkamlnaaGreat.Sx.Z
open Go.RowKit
def sgC:D:=.l [[.s ⟨#[61,61]⟩],[.s ⟨#[33,61]⟩],[.s ⟨#[60]⟩],[.s ⟨#[60,61]⟩],[.s ⟨#[62]⟩],[.s ⟨#[62,61]⟩]]
def wcA (ws:D) (en:Int) (r:Rd):Xp × Rd:=wsX en ws 0 (muR ws en opB r)
def wcO (ws:D) (en:Int) (r:Rd):Int:=ixR ws sgC (wcA ws en r).2 6+1
def wcB (ws:D) (en:Int) (r:Rd):Xp × Rd:=wsX en ws 0 (gx (wcA ws en r).2)
def wcC (ws:D) (en:Int) (r:Rd):Cd:=if wcO ws en r=0 then ⟨0,(wcA ws en r).1,X00⟩ else ⟨wcO ws en r,(wcA ws en r).1,(wcB ws en r).1⟩
def wcR (ws:D) (en:Int) (r:Rd):Rd:=if wcO ws en r=0 then ffR ws en 5 (wcA ws en r).2 else muR ws en clB (wcB ws en r).2
theorem Al {ws:D} (en:Int) {r:Rd} (h:aa ws r.nx):aa ws (muR ws en opB r).nx/\aa ws (wcA ws en r).2.nx/\r.nx<=(wcA ws en r).2.nx:=by
 have a:=bR en (t:=opB) h;have b:=(mZ en ws 0).up _ a.1;exact ⟨a.1,b.2.1,Int.le_trans a.2 b.1⟩
theorem An {ws:D} (en:Int) {r:Rd} (h:aa ws r.nx):aa ws (wcR ws en r).nx/\r.nx<=(wcR ws en r).nx:=by
 obtain ⟨a,b,c⟩:=Al en h;unfold wcR;split
 ·have:=kU en 5 b;exact ⟨this.1,Int.le_trans c this.2⟩
 ·rename_i h0;have hx:=iz (ws:=ws) (sg:=sgC) (r:=(wcA ws en r).2) 6 (by unfold wcO at h0;have:=z8 (ws:=ws) (sg:=sgC) (r:=(wcA ws en r).2) 6;omega);have g:=bx b hx.2.1;have d:=(mZ en ws 0).up _ g.1;have e:=bR en (t:=clB) d.2.1;exact ⟨e.1,Int.le_trans c (Int.le_trans g.2 (Int.le_trans d.1 e.2))⟩
noncomputable def Ao:List Dat->Option (Eff × List Seg):=fun ds=>match ds with
 | [.d ws,.i nx,.i en,.i er,.i pa]=>some ({val:=.one (.agg [.c (.int .i64 (.sym ((wcC ws en (mR nx pa er)).op))),.c (.int .i64 (.sym ((wcC ws en (mR nx pa er)).l).k)),.c (.int .i64 (.sym ((wcC ws en (mR nx pa er)).l).n)),.c (.raw (.string ((wcC ws en (mR nx pa er)).l).s)),.c (.osl 24 0 (.lit 0) (.sym ((wcC ws en (mR nx pa er)).l).d.len)),.c (.int .i64 (.sym ((wcC ws en (mR nx pa er)).r).k)),.c (.int .i64 (.sym ((wcC ws en (mR nx pa er)).r).n)),.c (.raw (.string ((wcC ws en (mR nx pa er)).r).s)),.c (.osl 24 1 (.lit 0) (.sym ((wcC ws en (mR nx pa er)).r).d.len))]),vc:=[aa ws nx],nw:=[(0,.orow 24 (wcC ws en (mR nx pa er)).l.d),(1,.orow 24 (wcC ws en (mR nx pa er)).r.d)]},[.c (.rows 132 ws),.c (.int .i64 (.sym ((wcR ws en (mR nx pa er)).nx))),.c (.int .i64 (.sym en)),.c (.int .i64 (.sym ((wcR ws en (mR nx pa er)).er))),.c (.int .i64 (.sym ((wcR ws en (mR nx pa er)).pa)))])
 |_=>none
noncomputable def Ap:Con:=ba 92 [.c (.rows 132),.c (.int .i64),.c (.int .i64),.c (.int .i64),.c (.int .i64)] [] Ao
theorem IC:ConOK Tryz.prog 54 Ap:=by
 refine bk tt_ok au Tryz.func54 rfl (fun _ _=>by kernel_rfl) (A:=fun ds=>⟨fun _=>Cons.of [(56,(fE wsX 1000001)),(19,mW),(22,jD),(25,gM)],fun k=>match k,ds with | 5,[.d ws,.i nx,.i en,.i er,.i pa]=>some {ι:=Nat,pre:=fun _ i=>i<=6/\True,μ:=fun i=>7-i,st:=fun s i=>aV s [(5,.one (.sc (.int .i64 (.sym ((i:Nat))))))] [0,2,3,4] [(0,.own 92 ([.c (.rows 132 ws),.c (.int .i64 (.sym (((wcA ws en (mR nx pa er)).2).nx))),.c (.int .i64 (.sym en)),.c (.int .i64 (.sym (((wcA ws en (mR nx pa er)).2).er))),.c (.int .i64 (.sym (((wcA ws en (mR nx pa er)).2).pa)))])),(bj s 3,.own 27 ([.c (.int .i64 (.sym (ixR ws sgC (wcA ws en (mR nx pa er)).2 i+1))),.c (.int .i64 (.sym ((wcA ws en (mR nx pa er)).1).k)),.c (.int .i64 (.sym ((wcA ws en (mR nx pa er)).1).n)),.c (.raw (.string ((wcA ws en (mR nx pa er)).1).s)),.c (.osl 24 (cT s 3 4) (.lit 0) (.sym ((wcA ws en (mR nx pa er)).1).d.len)),.c (.int .i64 (.sym 0)),.c (.int .i64 (.sym 0)),.c (.raw (.string ByteArray.empty)),.c .nils])),(cT s 3 4,.orow 24 ((wcA ws en (mR nx pa er)).1.d))] [2,4]} |_,_=>none,fun _=>none⟩) (fun _ _=>(af Ak (af pI (af kP (af iy aq))))) (by kernel_rfl) ?_
 intro ds;unfold Ao;split
 ·rename_i ws nx en er pa
  refine kmp (q:=ac (wcA ws en (mR nx pa er)) fun Ea=>ac (wsX en ws (0:Int) (mR (IntKind.i64.wrap (Ea.snd.nx+1)) Ea.snd.pa Ea.snd.er)) fun Eb=>ac (D.l [[D.s ⟨#[61,61]⟩],[D.s ⟨#[33,61]⟩],[D.s ⟨#[60]⟩],[D.s ⟨#[60,61]⟩],[D.s ⟨#[62]⟩],[D.s ⟨#[62,61]⟩]]) fun Ec=>ac (wcC ws en (mR nx pa er)) fun Ed=>ac (wsX en ws (0:Int) (muR ws en opB (mR nx pa er))) fun Ee=>ac (wcR ws en (mR nx pa er)) fun Ef=>ac (IntKind.i64.wrap (Ea.snd.nx+1)) fun Eg=>ac (ffR ws en (5:Int) Ea.snd) fun Eh=>ac (muR ws en opB (mR nx pa er)) fun Ei=>aa ws nx->aa ws nx/\aa ws Ei.nx/\aH ws Ei (0:Int)/\left ws Ei<1000001/\(∃ (i:Nat),(i<=6/\True)/\0=(i:Int)/\6=6/\ws.rows=ws.rows/\Ee.snd.nx=Ea.snd.nx/\en=en/\Ee.snd.er=Ea.snd.er/\Ee.snd.pa=Ea.snd.pa/\(0:Int)=ixR ws sgC Ea.snd i+1/\Ee.fst.k=Ea.fst.k/\Ee.fst.n=Ea.fst.n/\Value.string Ee.fst.s=Value.string Ea.fst.s/\Ee.fst.d.len=Ea.fst.d.len/\(0:Int)=0/\(0:Int)=0/\Value.string ByteArray.empty=Value.string ByteArray.empty/\Ee.fst.d.rows=Ea.fst.d.rows/\(0:Int)=0/\(0:Int)=0/\(0:Int)=0/\Value.string ByteArray.empty=Value.string ByteArray.empty/\(0:Int)=0/\(0:Int)=0/\Value.string ByteArray.empty=Value.string ByteArray.empty /\ [[D.s ⟨#[61,61]⟩],[D.s ⟨#[33,61]⟩],[D.s ⟨#[60]⟩],[D.s ⟨#[60,61]⟩],[D.s ⟨#[62]⟩],[D.s ⟨#[62,61]⟩]]=[[D.s ⟨#[61,61]⟩],[D.s ⟨#[33,61]⟩],[D.s ⟨#[60]⟩],[D.s ⟨#[60,61]⟩],[D.s ⟨#[62]⟩],[D.s ⟨#[62,61]⟩]])/\∀ (i:Nat),i<=6/\True->(decide ((i:Int)<6)=true->(0<=(i:Int)/\(i:Int)<6)/\(i:Int).toNat<Ec.len/\aa ws Ea.snd.nx/\(isB ws (Ec.el (i:Int).toNat 0).toS Ea.snd=true->∃ (j:Nat),(j<=6/\True)/\7-j<7-i/\IntKind.i64.wrap ((i:Int)+1)=(j:Int)/\6=6/\ws.rows=ws.rows/\Ea.snd.nx=Ea.snd.nx/\en=en/\Ea.snd.er=Ea.snd.er/\Ea.snd.pa=Ea.snd.pa/\IntKind.i64.wrap ((i:Int)+1)=ixR ws sgC Ea.snd j+1/\Ea.fst.k=Ea.fst.k/\Ea.fst.n=Ea.fst.n/\Value.string Ea.fst.s=Value.string Ea.fst.s/\Ea.fst.d.len=Ea.fst.d.len/\(0:Int)=0/\(0:Int)=0/\Value.string ByteArray.empty=Value.string ByteArray.empty/\Ea.fst.d.rows=Ea.fst.d.rows/\(0:Int)=0/\(0:Int)=0/\(0:Int)=0/\Value.string ByteArray.empty=Value.string ByteArray.empty/\(0:Int)=0/\(0:Int)=0/\Value.string ByteArray.empty=Value.string ByteArray.empty /\ [[D.s ⟨#[61,61]⟩],[D.s ⟨#[33,61]⟩],[D.s ⟨#[60]⟩],[D.s ⟨#[60,61]⟩],[D.s ⟨#[62]⟩],[D.s ⟨#[62,61]⟩]]=[[D.s ⟨#[61,61]⟩],[D.s ⟨#[33,61]⟩],[D.s ⟨#[60]⟩],[D.s ⟨#[60,61]⟩],[D.s ⟨#[62]⟩],[D.s ⟨#[62,61]⟩]])/\(isB ws (Ec.el (i:Int).toNat 0).toS Ea.snd=false->∃ (j:Nat),(j<=6/\True)/\7-j<7-i/\IntKind.i64.wrap ((i:Int)+1)=(j:Int)/\6=6/\ws.rows=ws.rows/\Ea.snd.nx=Ea.snd.nx/\en=en/\Ea.snd.er=Ea.snd.er/\Ea.snd.pa=Ea.snd.pa/\ixR ws sgC Ea.snd i+1=ixR ws sgC Ea.snd j+1/\Ea.fst.k=Ea.fst.k/\Ea.fst.n=Ea.fst.n/\Value.string Ea.fst.s=Value.string Ea.fst.s/\Ea.fst.d.len=Ea.fst.d.len/\(0:Int)=0/\(0:Int)=0/\Value.string ByteArray.empty=Value.string ByteArray.empty/\Ea.fst.d.rows=Ea.fst.d.rows/\(0:Int)=0/\(0:Int)=0/\(0:Int)=0/\Value.string ByteArray.empty=Value.string ByteArray.empty/\(0:Int)=0/\(0:Int)=0/\Value.string ByteArray.empty=Value.string ByteArray.empty /\ [[D.s ⟨#[61,61]⟩],[D.s ⟨#[33,61]⟩],[D.s ⟨#[60]⟩],[D.s ⟨#[60,61]⟩],[D.s ⟨#[62]⟩],[D.s ⟨#[62,61]⟩]]=[[D.s ⟨#[61,61]⟩],[D.s ⟨#[33,61]⟩],[D.s ⟨#[60]⟩],[D.s ⟨#[60,61]⟩],[D.s ⟨#[62]⟩],[D.s ⟨#[62,61]⟩]]))/\(decide ((i:Int)<6)=false->((ixR ws sgC Ea.snd i+1==(0:Int))=true->aa ws Ea.snd.nx/\ixR ws sgC Ea.snd i+1=Ed.op/\Ea.fst.k=Ed.l.k/\Ea.fst.n=Ed.l.n/\Value.string Ea.fst.s=Value.string Ed.l.s/\Ea.fst.d.len=Ed.l.d.len/\(0:Int)=Ed.r.k/\(0:Int)=Ed.r.n/\Value.string ByteArray.empty=Value.string Ed.r.s/\Ed.r.d.len=0/\ws.rows=ws.rows/\Eh.nx=Ef.nx/\en=en/\Eh.er=Ef.er/\Eh.pa=Ef.pa/\Ea.fst.d.rows=Ed.l.d.rows/\Ed.r.d.rows=[])/\((ixR ws sgC Ea.snd i+1==(0:Int))=false->aa ws Eg/\aH ws (mR Eg Ea.snd.pa Ea.snd.er) (0:Int)/\left ws (mR Eg Ea.snd.pa Ea.snd.er)<1000001/\aa ws Eb.snd.nx/\ixR ws sgC Ea.snd i+1=Ed.op/\Ea.fst.k=Ed.l.k/\Ea.fst.n=Ed.l.n/\Value.string Ea.fst.s=Value.string Ed.l.s/\Ea.fst.d.len=Ed.l.d.len/\Eb.fst.k=Ed.r.k/\Eb.fst.n=Ed.r.n/\Value.string Eb.fst.s=Value.string Ed.r.s/\Eb.fst.d.len=Ed.r.d.len/\ws.rows=ws.rows/\(muR ws en clB Eb.snd).nx=Ef.nx/\en=en/\(muR ws en clB Eb.snd).er=Ef.er/\(muR ws en clB Eb.snd).pa=Ef.pa/\Ea.fst.d.rows=Ed.l.d.rows/\Eb.fst.d.rows=Ed.r.d.rows))) (by kernel_rfl) ?_
  dsimp +instances only [ac]
  intro h;obtain ⟨a,b,c⟩:=Al en (r:=mR nx pa er) h;have h6:ixR ws sgC (wcA ws en (mR nx pa er)).2 6<6:=by
   rcases sZ (ws:=ws) (sg:=sgC) (r:=(wcA ws en (mR nx pa er)).2) 6 with h |h
   ·exact h.2
   ·cases h
  refine ⟨h,a,(bo a).1,(bo a).2,⟨0,⟨by decide,trivial⟩,(by (repeat' (with_reducible apply And.intro))<;>first |with_reducible rfl |exact True.intro |assumption |(symm;assumption) |rfl)⟩,fun i hi=>⟨fun hc=>?_,fun hc=>?_⟩⟩
  ·have hc:=of_decide_eq_true hc;have hi2:i<6:=by omega
   have hw:IntKind.i64.wrap ((i:Int)+1)=((i+1:Nat):Int):=by rw[IntWalk.i64_in _ (by omega)];omega
   have hw2:IntKind.i64.wrap ((i:Int)+1)=(i:Int)+1:=by rw[IntWalk.i64_in _ (by omega)]
   refine ⟨⟨by omega,by omega⟩,hi2,b,fun hb=>⟨i+1,⟨hi2,trivial⟩,by omega,hw,?_⟩,fun hb=>⟨i+1,⟨hi2,trivial⟩,by omega,hw,?_⟩⟩
   ·have hb:isB ws (sgC.el i 0).toS (wcA ws en (mR nx pa er)).2=true:=hb;have e:ixR ws sgC (wcA ws en (mR nx pa er)).2 (i+1)=(i:Int):=if_pos hb;rw[e,hw2]
    (repeat' (with_reducible apply And.intro))<;>first |with_reducible rfl |exact True.intro |assumption |(symm;assumption) |rfl
   ·have hb:isB ws (sgC.el i 0).toS (wcA ws en (mR nx pa er)).2=false:=hb;have e:ixR ws sgC (wcA ws en (mR nx pa er)).2 (i+1)=ixR ws sgC (wcA ws en (mR nx pa er)).2 i:=if_neg (by rw[hb];decide);rw[e]
    (repeat' (with_reducible apply And.intro))<;>first |with_reducible rfl |exact True.intro |assumption |(symm;assumption) |rfl
  ·have hc:=of_decide_eq_false hc;obtain rfl:i=6:=by have:=hi.1;omega
   refine ⟨fun hz=>?_,fun hz=>?_⟩
   ·have hz:wcO ws en (mR nx pa er)=0:=eq_of_beq hz;have e1:ixR ws sgC (wcA ws en (mR nx pa er)).2 6+1=0:=hz;have e:wcC ws en (mR nx pa er)=⟨0,(wcA ws en (mR nx pa er)).1,X00⟩:=if_pos hz;have e2:wcR ws en (mR nx pa er)=ffR ws en 5 (wcA ws en (mR nx pa er)).2:=if_pos hz;rw[e,e2,e1]
    (repeat' (with_reducible apply And.intro))<;>first |with_reducible rfl |exact True.intro |assumption |(symm;assumption) |rfl
   ·have hz:wcO ws en (mR nx pa er)≠0:=ne_of_beq_false hz;have e:wcC ws en (mR nx pa er)=⟨wcO ws en (mR nx pa er),(wcA ws en (mR nx pa er)).1,(wcB ws en (mR nx pa er)).1⟩:=if_neg hz;have e2:wcR ws en (mR nx pa er)=muR ws en clB (wcB ws en (mR nx pa er)).2:=if_neg hz;have hx:=iz (ws:=ws) (sg:=sgC) (r:=(wcA ws en (mR nx pa er)).2) 6 (by unfold wcO at hz;have:=z8 (ws:=ws) (sg:=sgC) (r:=(wcA ws en (mR nx pa er)).2) 6;omega);have g:=bx b hx.2.1;have d:=(mZ en ws 0).up _ g.1;rw[nx1 b hx.2.1];have e3:mR ((wcA ws en (mR nx pa er)).2.nx+1) (wcA ws en (mR nx pa er)).2.pa (wcA ws en (mR nx pa er)).2.er=gx (wcA ws en (mR nx pa er)).2:=rfl;rw[e3,e,e2];exact ⟨g.1,(bo g.1).1,(bo g.1).2,d.2.1,(by (repeat' (with_reducible apply And.intro))<;>first |with_reducible rfl |exact True.intro |assumption |(symm;assumption) |rfl)⟩
 ·trivial
noncomputable def Aq (P:PB) (m:Nat):List Dat->Option (Eff × List Seg):=fun ds=>match ds with
 | [.d ws,.i nx,.i en,.i er,.i pa,.i dp]=>some ({val:=.one (.sc (.osl 31 (0) (.lit 0) (.sym ((P en ws dp (mR nx pa er)).1.len)))),vc:=[aa ws nx,aH ws (mR nx pa er) dp,left ws (mR nx pa er)<m],nw:=[(0,.orow 31 ((P en ws dp (mR nx pa er)).1))]},[.c (.rows 132 ws),.c (.int .i64 (.sym ((((P en ws dp (mR nx pa er)).2)).nx))),.c (.int .i64 (.sym en)),.c (.int .i64 (.sym ((((P en ws dp (mR nx pa er)).2)).er))),.c (.int .i64 (.sym ((((P en ws dp (mR nx pa er)).2)).pa)))])
 |_=>none
noncomputable def jF (P:PB) (m:Nat):Con:=ba 92 [.c (.rows 132),.c (.int .i64),.c (.int .i64),.c (.int .i64),.c (.int .i64)] [.sc (.int .i64)] (Aq P m)
def aQ (P:PB):PB:=fun en ws dp r=>if isB ws obB r=true/\24<=dp then (.l [],ffR ws en 6 r) else ((P en ws (dp+1) (muR ws en obB r)).1,muR ws en cbB (P en ws (dp+1) (muR ws en obB r)).2)
theorem m9 {P:PB} {ws:D} {en:Int} (hPa:∀ dp,PbOK ws (P en ws dp)) {dp:Int} {r:Rd} (h:aa ws r.nx):aa ws (muR ws en obB r).nx/\r.nx<=(muR ws en obB r).nx/\aa ws (P en ws (dp+1) (muR ws en obB r)).2.nx/\aa ws (aQ P en ws dp r).2.nx/\r.nx<=(aQ P en ws dp r).2.nx:=by
 have a:=bR en (t:=obB) h;have b:=(hPa (dp+1)).up _ a.1;have c:=bR en (t:=cbB) b.2;refine ⟨a.1,a.2,b.2,?_⟩;unfold aQ;split
 ·exact kU en 6 h
 ·exact ⟨c.1,Int.le_trans a.2 (Int.le_trans b.1 c.2)⟩
def lfm (ws:D) (r:Rd):Nat:=if r.er=0 then left ws r+1 else 0
def cm (go:Rd->Bool) (F:Rd->List D × Rd) (ws d:D) (r:Rd):D × Rd:=cj go F (lfm ws r) d r
structure SeOK (ws:D) (go:Rd->Bool) (F:Rd->List D × Rd):Prop where
 up:∀ r,aa ws r.nx->go r=true->aa ws (F r).2.nx/\r.nx<=(F r).2.nx/\lfm ws (F r).2<lfm ws r
theorem ID {ws:D} {go:Rd->Bool} {F:Rd->List D × Rd} (hF:SeOK ws go F):∀ (n:Nat) (d:D) (r:Rd),aa ws r.nx->lfm ws r<=n->cj go F n d r=cj go F (lfm ws r) d r:=by
 intro n
 induction n using Nat.strongRecOn with
 |ind n ih=>
  intro d r h hl
  cases hg:go r with
  |false=>rw[ir hg,ir hg]
  |true=>
   obtain ⟨u1,_,u3⟩:=hF.up r h hg
   cases n with
   |zero=>omega
   |succ k=>
    obtain ⟨j,hj⟩:∃ j,lfm ws r=j+1:=⟨lfm ws r-1,by omega⟩;rw[hj,cj,if_pos hg,cj,if_pos hg,ih k (by omega) _ _ u1 (by omega),ih j (by omega) _ _ u1 (by omega)]
theorem jG {ws:D} {go:Rd->Bool} {F:Rd->List D × Rd} {d:D} {r:Rd} (h:go r=false):cm go F ws d r=(d,r):=ir h _
theorem pM {ws:D} {go:Rd->Bool} {F:Rd->List D × Rd} (hF:SeOK ws go F) {d:D} {r:Rd} (h:aa ws r.nx) (hg:go r=true):cm go F ws (.l (d.rows++[(F r).1])) (F r).2=cm go F ws d r:=by
 obtain ⟨u1,_,u3⟩:=hF.up r h hg;obtain ⟨j,hj⟩:∃ j,lfm ws r=j+1:=⟨lfm ws r-1,by omega⟩;unfold cm;rw[hj,cj,if_pos hg,ID hF j _ _ u1 (by omega)]
theorem Ar {ws:D} {go:Rd->Bool} {F:Rd->List D × Rd} (hF:SeOK ws go F):∀ (n:Nat) (d:D) (r:Rd),aa ws r.nx->aa ws (cj go F n d r).2.nx/\r.nx<=(cj go F n d r).2.nx
 | 0,d,r,h=>⟨h,Int.le_refl _⟩
 |n+1,d,r,h=>by
  cases hg:go r with
  |false=>
   rw[ir hg];exact ⟨h,Int.le_refl _⟩
  |true=>
   obtain ⟨u1,u2,_⟩:=hF.up r h hg;have:=Ar hF n (.l (d.rows++[(F r).1])) (F r).2 u1;rw[cj,if_pos hg];exact ⟨this.1,by omega⟩
theorem s9 {ws:D} {go:Rd->Bool} {F:Rd->List D × Rd} (hF:SeOK ws go F) (d:D) {r:Rd} (h:aa ws r.nx):aa ws (cm go F ws d r).2.nx/\r.nx<=(cm go F ws d r).2.nx:=Ar hF _ d r h
theorem As {ws:D} {r q:Rd} (h0:r.er=0) (h:aa ws r.nx) (hq:aa ws q.nx) (hn:q.er=0->r.nx<q.nx):lfm ws q<lfm ws r:=by
 unfold lfm;rw[if_pos h0];split
 ·rename_i h1;have:=da hq h (hn h1);omega
 ·omega
theorem Au (ws:D) {r:Rd} (h:aa ws r.nx):lfm ws r<=1000001:=by
 have:=(bo h).2;unfold lfm
 split<;>omega
noncomputable def Av (P:PB) (m:Nat):List Dat->Option (Eff × List Seg):=fun ds=>match ds with
 | [.d ws,.i nx,.i en,.i er,.i pa,.i dp]=>some ({val:=.one (.sc (.osl 31 (0) (.lit 0) (.sym ((aQ P en ws dp (mR nx pa er)).1.len)))),vc:=[aa ws nx,cB ws (mR nx pa er) dp,left ws (mR nx pa er)<m],nw:=[(0,.orow 31 ((aQ P en ws dp (mR nx pa er)).1))]},[.c (.rows 132 ws),.c (.int .i64 (.sym (((aQ P en ws dp (mR nx pa er)).2).nx))),.c (.int .i64 (.sym en)),.c (.int .i64 (.sym (((aQ P en ws dp (mR nx pa er)).2).er))),.c (.int .i64 (.sym (((aQ P en ws dp (mR nx pa er)).2).pa)))])
 |_=>none
noncomputable def Aw (P:PB) (m:Nat):Con:=ba 92 [.c (.rows 132),.c (.int .i64),.c (.int .i64),.c (.int .i64),.c (.int .i64)] [.sc (.int .i64)] (Av P m)
theorem IE {P:PB} {m:Nat} (hP:ConOK Tryz.prog 24 (jF P m)) (hPa:∀ en ws dp,PbOK ws (P en ws dp)):ConOK Tryz.prog 55 (Aw P m):=by
 refine bk tt_ok au Tryz.func55 rfl (fun _ _=>by kernel_rfl) (A:=fun ds=>⟨fun _=>Cons.of [(19,kV),(22,jD),(25,gM),(24,(jF P m))],fun _=>none,fun _=>none⟩) (fun _ _=>(af mY (af kP (af iy (af hP aq))))) (by kernel_rfl) ?_
 intro ds;unfold Av;split
 ·rename_i ws nx en er pa dp;refine kmp (q:=ac (P en ws (IntKind.i64.wrap (dp+1)) (muR ws en obB (mR nx pa er))) fun Ea=>ac (aQ P en ws dp (mR nx pa er)) fun Eb=>ac (ffR ws en (6:Int) (mR nx pa er)) fun Ec=>ac (isB ws obB (mR nx pa er)&&decide (dp>=(24:Int))) fun Ed=>ac (muR ws en obB (mR nx pa er)) fun Ee=>aa ws nx->cB ws (mR nx pa er) dp->left ws (mR nx pa er)<m->aa ws nx/\(Ed=true->aa ws nx/\Eb.fst.len=0/\ws.rows=ws.rows/\Ec.nx=Eb.snd.nx/\en=en/\Ec.er=Eb.snd.er/\Ec.pa=Eb.snd.pa/\Eb.fst.rows=[])/\(Ed=false->aa ws nx/\aa ws Ee.nx/\aH ws Ee (IntKind.i64.wrap (dp+1))/\left ws Ee<m/\aa ws Ea.snd.nx/\Ea.fst.len=Eb.fst.len/\ws.rows=ws.rows/\(muR ws en cbB Ea.snd).nx=Eb.snd.nx/\en=en/\(muR ws en cbB Ea.snd).er=Eb.snd.er/\(muR ws en cbB Ea.snd).pa=Eb.snd.pa/\Ea.fst.rows=Eb.fst.rows)) (by kernel_rfl) ?_
  dsimp +instances only [ac]
  intro h hd hl;have e1:IntKind.i64.wrap (dp+1)=dp+1:=wr1 hd.1 (by have:=hd.2;omega);simp only[e1];obtain ⟨a,b,c,d,e⟩:=m9 (hPa en ws) (dp:=dp) (r:=mR nx pa er) h;have f:=y1 (q:=muR ws en obB (mR nx pa er)) hd b;have g:left ws (muR ws en obB (mR nx pa er))<m:=Nat.lt_of_le_of_lt (cv b) hl;refine ⟨h,fun hc=>?_,fun hc=>?_⟩
  ·have hc2:isB ws obB (mR nx pa er)=true/\24<=dp:=by
    simp only[Bool.and_eq_true] at hc;exact ⟨hc.1,of_decide_eq_true hc.2⟩
   have e2:aQ P en ws dp (mR nx pa er)=(.l [],ffR ws en 6 (mR nx pa er)):=if_pos hc2;rw[e2]
   (repeat' (with_reducible apply And.intro))<;>first |with_reducible rfl |exact True.intro |assumption |(symm;assumption) |rfl
  ·have hc2:¬ (isB ws obB (mR nx pa er)=true/\24<=dp):=by
    intro hx;rw[hx.1,decide_eq_true (show dp>=24 from hx.2)] at hc
    cases hc
   have e2:aQ P en ws dp (mR nx pa er)=((P en ws (dp+1) (muR ws en obB (mR nx pa er))).1,muR ws en cbB (P en ws (dp+1) (muR ws en obB (mR nx pa er))).2):=if_neg hc2;rw[e2]
   (repeat' (with_reducible apply And.intro))<;>first |with_reducible rfl |exact True.intro |assumption |(symm;assumption) |rfl
 ·trivial
end Go.Proofs.YtbhbjhejkamlnaaGreat.Sx.Z
namespace Go.Proofs.YtbhbjhejkamlnaaGreat.Sx
def ta (s:St) (t j:Nat):ByteArray:=match ad s.hp (bj s t) with |some (.own _ l)=>(match l[j]? with |some (.c (.raw (.string b)))=>b |_=>ByteArray.empty) |_=>ByteArray.empty
end Go.Proofs.YtbhbjhejkamlnaaGreat.Sx
namespace Go.Proofs.YtbhbjhejkamlnaaGreat.Sx.Z
open Go.RowKit
def wiA (P:PB) (en:Int) (ws:D) (dp:Int) (r:Rd):D × Rd:=aQ P en ws dp (wcR ws en (gx r))
def wiB (P:PB) (en:Int) (ws:D) (dp:Int) (r:Rd):D × Rd:=if isB ws kwL (wiA P en ws dp r).2=true then aQ P en ws dp (gx (wiA P en ws dp r).2) else (.l [],(wiA P en ws dp r).2)
def wiS (P:PB) (en:Int) (ws:D) (dp:Int) (r:Rd):St:=⟨2,ByteArray.empty,ByteArray.empty,X00,wcC ws en (gx r),(wiA P en ws dp r).1,(wiB P en ws dp r).1,.l []⟩
def whA (P:PB) (en:Int) (ws:D) (dp:Int) (r:Rd):D × Rd:=aQ P en ws dp (wcR ws en (gx r))
def whS (P:PB) (en:Int) (ws:D) (dp:Int) (r:Rd):St:=⟨3,ByteArray.empty,ByteArray.empty,X00,wcC ws en (gx r),(whA P en ws dp r).1,.l [],.l []⟩
def wd1 (ws:D) (en:Int) (r:Rd):Rd:=muR ws en doB (wnR ws en 1 (gx r))
def pN (ws:D) (en:Int) (r:Rd):Xp × Rd:=wsX en ws 0 (muR ws en opB (wnR ws en 1 (wd1 ws en r)))
def wdR (ws:D) (en:Int) (r:Rd):Rd:=muR ws en seB (muR ws en clB (pN ws en r).2)
def wdS (ws:D) (en:Int) (r:Rd):St:=⟨4,wnS ws (gx r),wnS ws (wd1 ws en r),(pN ws en r).1,C00,.l [],.l [],.l []⟩
def wmX (en:Int) (ws:D) (r:Rd):Rd:=muR ws en opB (wnR ws en 1 r)
def wmA (P:PB) (en:Int) (ws:D) (dp:Int) (r:Rd):D × Rd:=aQ P en ws dp (muR ws en clB (wnR ws en 1 (wmX en ws r)))
def wmS (P:PB) (en:Int) (ws:D) (dp:Int) (r:Rd):Am:=⟨wnS ws r,wnS ws (wmX en ws r),(wmA P en ws dp r).1⟩
def wmG (ws:D) (r:Rd):Bool:=r.er==0 && !isB ws cbB r
def wmF (P:PB) (en:Int) (ws:D) (dp:Int) (r:Rd):List D × Rd:=((wmS P en ws dp r).row,(wmA P en ws dp r).2)
def wmL (P:PB) (en:Int) (ws:D) (dp:Int) (d:D) (r:Rd):D × Rd:=if d.len=0 then (if r.er=0 then cm (wmG ws) (wmF P en ws dp) ws (.l (d.rows++[(wmF P en ws dp r).1])) (wmF P en ws dp r).2 else (d,r)) else cm (wmG ws) (wmF P en ws dp) ws d r
def wv1 (ws:D) (en:Int) (r:Rd):Rd:=muR ws en obB (wnR ws en 1 (gx r))
def wvA (P:PB) (en:Int) (ws:D) (dp:Int) (r:Rd):D × Rd:=wmL P en ws dp (.l []) (wv1 ws en r)
def wvS (P:PB) (en:Int) (ws:D) (dp:Int) (r:Rd):St:=⟨5,wnS ws (gx r),ByteArray.empty,X00,C00,.l [],.l [],(wvA P en ws dp r).1⟩
def wvR (P:PB) (en:Int) (ws:D) (dp:Int) (r:Rd):Rd:=muR ws en cbB (wvA P en ws dp r).2
def waS (ws:D) (en:Int) (r:Rd):St:=⟨6,ByteArray.empty,ByteArray.empty,X00,wcC ws en (gx r),.l [],.l [],.l []⟩
def waR (ws:D) (en:Int) (r:Rd):Rd:=muR ws en seB (wcR ws en (gx r))
def wnI (ws:D) (_en:Int) (r:Rd):St:=⟨7,wnS ws (gx r),ByteArray.empty,X00,C00,.l [],.l [],.l []⟩
def wnZ (ws:D) (en:Int) (r:Rd):Rd:=muR ws en seB (wnR ws en 1 (gx r))
def wgE (ws:D) (en:Int) (r:Rd):Xp × Rd:=wsX en ws 0 (muR ws en eqB (wnR ws en 1 r))
def wgS (ws:D) (en:Int) (r:Rd):St:=⟨1,wnS ws r,ByteArray.empty,(wgE ws en r).1,C00,.l [],.l [],.l []⟩
def wgR (ws:D) (en:Int) (r:Rd):Rd:=muR ws en seB (wgE ws en r).2
def wtF (P:PB) (en:Int) (ws:D) (dp:Int) (r:Rd):St × Rd:=
 if isB ws kwF r=true then (wiS P en ws dp r,(wiB P en ws dp r).2)
 else if isB ws kwW r=true then (whS P en ws dp r,(whA P en ws dp r).2)
 else if isB ws kwS r=true then (wdS ws en r,wdR ws en r)
 else if isB ws kwR r=true then (wvS P en ws dp r,wvR P en ws dp r)
 else if isB ws kwA r=true then (waS ws en r,waR ws en r)
 else if isB ws kwI r=true then (wnI ws en r,wnZ ws en r)
 else (wgS ws en r,wgR ws en r)
def wtH (P:PB) (en:Int) (ws:D) (dp:Int) (r:Rd):List D × Rd:=((wtF P en ws dp r).1.row,(wtF P en ws dp r).2)
def wtG (ws:D) (r:Rd):Bool:=isB ws kwF r ||isB ws kwW r ||isB ws kwS r ||isB ws kwR r ||isB ws kwA r ||isB ws kwI r ||kiB ws 1 r
def wtA (P:PB):PB:=fun en ws dp r=>aj (wtG ws) (wtH P en ws dp) ws (.l []) r
def gw (r:Rd):Rd:=mR (IntKind.i64.wrap (r.nx+1)) r.pa r.er
theorem fG {ws:D} {r:Rd} (h:aa ws r.nx) (hl:r.nx<ws.len):gw r=gx r:=by
 unfold gw;rw[nx1 h hl];rfl
theorem tb {ws:D} {en e:Int} (he:e≠0) {r:Rd}:(ffR ws en e r).er≠0:=by
 unfold ffR;split
 ·exact he
 ·rename_i h;exact h
theorem na {ws:D} {en:Int} {t:ByteArray} {r:Rd} (h:(muR ws en t r).er=0):isB ws t r=true:=by
 unfold muR at h
 split at h
 ·rename_i hb;exact hb
 ·exact absurd h (tb (by decide))
theorem nb {ws:D} {en k:Int} {r:Rd} (h:(wnR ws en k r).er=0):kiB ws k r=true:=by
 unfold wnR at h
 split at h
 ·rename_i hb;exact hb
 ·exact absurd h (tb (by decide))
theorem IF {P:PB} (hPe:∀ en ws dp r,(P en ws dp r).2.er=0->r.er=0) {en:Int} {ws:D} {dp:Int} {r:Rd} (h:(aQ P en ws dp r).2.er=0):r.er=0:=by
 unfold aQ at h
 split at h
 ·exact absurd h (tb (by decide))
 ·exact (bw (na (hPe _ _ _ _ (bw (na h)).1))).1
theorem pO {P:PB} {ws:D} {en:Int} (hPa:∀ dp,PbOK ws (P en ws dp)) {dp:Int} {r:Rd} (h:aa ws r.nx):aa ws (wnR ws en 1 r).nx/\aa ws (wmX en ws r).nx/\aa ws (wnR ws en 1 (wmX en ws r)).nx/\aa ws (muR ws en clB (wnR ws en 1 (wmX en ws r))).nx/\r.nx<=(muR ws en clB (wnR ws en 1 (wmX en ws r))).nx/\aa ws (wmA P en ws dp r).2.nx/\(wnR ws en 1 r).nx<=(wmA P en ws dp r).2.nx/\r.nx<=(wmA P en ws dp r).2.nx:=by
 have a:=cw en 1 h;have b:=bR en (t:=opB) a.1;have c:=cw en 1 b.1;have d:=bR en (t:=clB) c.1;obtain ⟨_,_,_,e1,e2⟩:=m9 hPa (dp:=dp) d.1;exact ⟨a.1,b.1,c.1,d.1,Int.le_trans a.2 (Int.le_trans b.2 (Int.le_trans c.2 d.2)),e1,Int.le_trans b.2 (Int.le_trans c.2 (Int.le_trans d.2 e2)),Int.le_trans a.2 (Int.le_trans b.2 (Int.le_trans c.2 (Int.le_trans d.2 e2)))⟩
theorem Ax {P:PB} {ws:D} {en:Int} (hPa:∀ dp,PbOK ws (P en ws dp)) (hPe:∀ en ws dp r,(P en ws dp r).2.er=0->r.er=0) {dp:Int} {r:Rd} (h:aa ws r.nx) (h0:r.er=0):lfm ws (wmA P en ws dp r).2<lfm ws r:=by
 obtain ⟨_,_,_,_,_,e1,e2,_⟩:=pO hPa (dp:=dp) h;refine As h0 h e1 fun hz=>?_
 have k1:=IF hPe hz;have k2:=bw (na (k1:(muR ws en clB (wnR ws en 1 (wmX en ws r))).er=0));have k3:=ix (nb k2.1);have k4:=bw (na (k3.1:(muR ws en opB (wnR ws en 1 r)).er=0));have k5:=nb k4.1;have e:(wnR ws en 1 r).nx=r.nx+1:=by rw[show wnR ws en 1 r=gx r from if_pos k5];rfl
 omega
theorem pP {P:PB} {ws:D} {en:Int} (hPa:∀ dp,PbOK ws (P en ws dp)) (hPe:∀ en ws dp r,(P en ws dp r).2.er=0->r.er=0) (dp:Int):SeOK ws (wmG ws) (wmF P en ws dp):=⟨fun r h hg=>by
 have h0:r.er=0:=by
  unfold wmG at hg;simp only[Bool.and_eq_true] at hg;exact eq_of_beq hg.1
 obtain ⟨_,_,_,_,_,e1,_,e3⟩:=pO hPa (dp:=dp) h;exact ⟨e1,e3,Ax hPa hPe h h0⟩⟩
theorem IG {P:PB} {ws:D} {en:Int} (hPa:∀ dp,PbOK ws (P en ws dp)) (hPe:∀ en ws dp r,(P en ws dp r).2.er=0->r.er=0) {dp:Int} {d:D} {r:Rd} (h:aa ws r.nx) (h0:r.er=0) (hc:d.len=0 ∨ isB ws cbB r=false):wmL P en ws dp (.l (d.rows++[(wmF P en ws dp r).1])) (wmF P en ws dp r).2=wmL P en ws dp d r:=by
 have hn:(D.l (d.rows++[(wmF P en ws dp r).1])).len≠0:=by rw[bf];omega
 unfold wmL;rw[if_neg hn]
 by_cases hz:d.len=0
 ·rw[if_pos hz,if_pos h0]
 ·rw[if_neg hz];have hb:isB ws cbB r=false:=hc.resolve_left hz;exact pM (pP hPa hPe dp) h (by unfold wmG;rw[h0,hb];rfl)
theorem Ay {P:PB} {ws:D} {en dp:Int} {d:D} {r:Rd} (hc:r.er≠0 ∨ (d.len≠0/\isB ws cbB r=true)):wmL P en ws dp d r=(d,r):=by
 have hg:wmG ws r=false:=by
  unfold wmG
  rcases hc with hc |hc
  ·rw[show (r.er==0)=false from beq_false_of_ne hc];rfl
  ·rw[hc.2];cases (r.er==0)<;>rfl
 unfold wmL;split
 ·rename_i hz;split
  ·rename_i h0
   rcases hc with hc |hc
   ·exact absurd h0 hc
   ·exact absurd hz hc.1
  ·rfl
 ·exact jG hg
theorem IH {P:PB} {ws:D} {en:Int} (hPa:∀ dp,PbOK ws (P en ws dp)) (hPe:∀ en ws dp r,(P en ws dp r).2.er=0->r.er=0) {dp:Int} {d:D} {r:Rd} (h:aa ws r.nx):aa ws (wmL P en ws dp d r).2.nx/\r.nx<=(wmL P en ws dp d r).2.nx:=by
 unfold wmL;split
 ·split
  ·obtain ⟨_,_,_,_,_,e1,_,e3⟩:=pO hPa (dp:=dp) h;have:=s9 (pP hPa hPe dp) (.l (d.rows++[(wmF P en ws dp r).1])) e1;exact ⟨this.1,Int.le_trans e3 this.2⟩
  ·exact ⟨h,Int.le_refl _⟩
 ·exact s9 (pP hPa hPe dp) d h
theorem kX {P:PB} {ws:D} {en:Int} (hPa:∀ dp,PbOK ws (P en ws dp)) {dp:Int} {r:Rd} (h:aa ws (gx r).nx):aa ws (wcR ws en (gx r)).nx/\(gx r).nx<=(wcR ws en (gx r)).nx/\aa ws (wiA P en ws dp r).2.nx/\(gx r).nx<=(wiA P en ws dp r).2.nx/\aa ws (wiB P en ws dp r).2.nx/\(gx r).nx<=(wiB P en ws dp r).2.nx:=by
 have a:=An en h;obtain ⟨_,_,_,e1,e2⟩:=m9 hPa (dp:=dp) a.1;have e3:=Int.le_trans a.2 e2;refine ⟨a.1,a.2,e1,e3,?_⟩;unfold wiB;split
 ·rename_i hb;have g:=bx e1 (bw hb).2;obtain ⟨_,_,_,f1,f2⟩:=m9 hPa (dp:=dp) g.1;exact ⟨f1,Int.le_trans e3 (Int.le_trans g.2 f2)⟩
 ·exact ⟨e1,e3⟩
theorem tc {ws:D} (en:Int) {r:Rd} (h:aa ws (gx r).nx):aa ws (wnR ws en 1 (gx r)).nx/\aa ws (wd1 ws en r).nx/\aa ws (wnR ws en 1 (wd1 ws en r)).nx/\aa ws (muR ws en opB (wnR ws en 1 (wd1 ws en r))).nx/\aa ws (pN ws en r).2.nx/\aa ws (muR ws en clB (pN ws en r).2).nx/\aa ws (wdR ws en r).nx/\(gx r).nx<=(wdR ws en r).nx:=by
 have a:=cw en 1 h;have b:=bR en (t:=doB) a.1;have c:=cw en 1 b.1;have d:=bR en (t:=opB) c.1;have e:=(mZ en ws 0).up _ d.1;have f:=bR en (t:=clB) e.2.1;have g:=bR en (t:=seB) f.1;exact ⟨a.1,b.1,c.1,d.1,e.2.1,f.1,g.1,Int.le_trans a.2 (Int.le_trans b.2 (Int.le_trans c.2 (Int.le_trans d.2 (Int.le_trans e.1 (Int.le_trans f.2 g.2)))))⟩
theorem td {P:PB} {ws:D} {en:Int} (hPa:∀ dp,PbOK ws (P en ws dp)) (hPe:∀ en ws dp r,(P en ws dp r).2.er=0->r.er=0) {dp:Int} {r:Rd} (h:aa ws (gx r).nx):aa ws (wnR ws en 1 (gx r)).nx/\aa ws (wv1 ws en r).nx/\(gx r).nx<=(wv1 ws en r).nx/\aa ws (wvA P en ws dp r).2.nx/\aa ws (wvR P en ws dp r).nx/\(gx r).nx<=(wvR P en ws dp r).nx:=by
 have a:=cw en 1 h;have b:=bR en (t:=obB) a.1;have c:=IH hPa hPe (dp:=dp) (d:=.l []) b.1;have d:=bR en (t:=cbB) c.1;exact ⟨a.1,b.1,Int.le_trans a.2 b.2,c.1,d.1,Int.le_trans a.2 (Int.le_trans b.2 (Int.le_trans c.2 d.2))⟩
theorem Az {ws:D} (en:Int) {r:Rd} (h:aa ws (gx r).nx):aa ws (wcR ws en (gx r)).nx/\aa ws (waR ws en r).nx/\(gx r).nx<=(waR ws en r).nx:=by
 have a:=An en h;have b:=bR en (t:=seB) a.1;exact ⟨a.1,b.1,Int.le_trans a.2 b.2⟩
theorem AA {ws:D} (en:Int) {r:Rd} (h:aa ws (gx r).nx):aa ws (wnR ws en 1 (gx r)).nx/\aa ws (wnZ ws en r).nx/\(gx r).nx<=(wnZ ws en r).nx:=by
 have a:=cw en 1 h;have b:=bR en (t:=seB) a.1;exact ⟨a.1,b.1,Int.le_trans a.2 b.2⟩
theorem AB {ws:D} (en:Int) {r:Rd} (h:aa ws r.nx):aa ws (wnR ws en 1 r).nx/\aa ws (muR ws en eqB (wnR ws en 1 r)).nx/\aa ws (wgE ws en r).2.nx/\aa ws (wgR ws en r).nx/\(wnR ws en 1 r).nx<=(wgR ws en r).nx:=by
 have a:=cw en 1 h;have b:=bR en (t:=eqB) a.1;have e:=(mZ en ws 0).up _ b.1;have g:=bR en (t:=seB) e.2.1;exact ⟨a.1,b.1,e.2.1,g.1,Int.le_trans b.2 (Int.le_trans e.1 g.2)⟩
theorem kY {P:PB} {ws:D} {en:Int} (hPa:∀ dp,PbOK ws (P en ws dp)) (hPe:∀ en ws dp r,(P en ws dp r).2.er=0->r.er=0) (dp:Int):SqOK ws (wtG ws) (wtH P en ws dp):=⟨fun r h hg=>by
 unfold wtH wtF;have g1:(gx r).nx=r.nx+1:=rfl
 by_cases k0:isB ws kwF r=true
 ·simp only[if_pos k0];have g:=(bx h (bw k0).2).1;have u:aa ws ((wiB P en ws dp r).2).nx/\(gx r).nx<=((wiB P en ws dp r).2).nx:=⟨(kX hPa (dp:=dp) g).2.2.2.2.1,(kX hPa (dp:=dp) g).2.2.2.2.2⟩;exact ⟨u.1,by omega⟩
 by_cases k1:isB ws kwW r=true
 ·simp only[if_neg k0,if_pos k1];have g:=(bx h (bw k1).2).1;have u:aa ws ((whA P en ws dp r).2).nx/\(gx r).nx<=((whA P en ws dp r).2).nx:=⟨(kX hPa (dp:=dp) g).2.2.1,(kX hPa (dp:=dp) g).2.2.2.1⟩;exact ⟨u.1,by omega⟩
 by_cases k2:isB ws kwS r=true
 ·simp only[if_neg k0,if_neg k1,if_pos k2];have g:=(bx h (bw k2).2).1;have u:aa ws (wdR ws en r).nx/\(gx r).nx<=(wdR ws en r).nx:=⟨(tc en g).2.2.2.2.2.2.1,(tc en g).2.2.2.2.2.2.2⟩;exact ⟨u.1,by omega⟩
 by_cases k3:isB ws kwR r=true
 ·simp only[if_neg k0,if_neg k1,if_neg k2,if_pos k3];have g:=(bx h (bw k3).2).1;have u:aa ws (wvR P en ws dp r).nx/\(gx r).nx<=(wvR P en ws dp r).nx:=⟨(td hPa hPe g).2.2.2.2.1,(td hPa hPe g).2.2.2.2.2⟩;exact ⟨u.1,by omega⟩
 by_cases k4:isB ws kwA r=true
 ·simp only[if_neg k0,if_neg k1,if_neg k2,if_neg k3,if_pos k4];have g:=(bx h (bw k4).2).1;have u:aa ws (waR ws en r).nx/\(gx r).nx<=(waR ws en r).nx:=(Az en g).2;exact ⟨u.1,by omega⟩
 by_cases k5:isB ws kwI r=true
 ·simp only[if_neg k0,if_neg k1,if_neg k2,if_neg k3,if_neg k4,if_pos k5];have g:=(bx h (bw k5).2).1;have u:aa ws (wnZ ws en r).nx/\(gx r).nx<=(wnZ ws en r).nx:=(AA en g).2;exact ⟨u.1,by omega⟩
 have hk:kiB ws 1 r=true:=by
  simpa [wtG,k0,k1,k2,k3,k4,k5] using hg
 simp only[if_neg k0,if_neg k1,if_neg k2,if_neg k3,if_neg k4,if_neg k5];have u:=(AB en h).2.2.2;have e:(wnR ws en 1 r).nx=r.nx+1:=by rw[show wnR ws en 1 r=gx r from if_pos hk];rfl
 exact ⟨u.1,by omega⟩⟩
theorem II {P:PB} (hPa:∀ en ws dp,PbOK ws (P en ws dp)) (hPe:∀ en ws dp r,(P en ws dp r).2.er=0->r.er=0) (en:Int) (ws:D) (dp:Int):PbOK ws (wtA P en ws dp):=⟨fun r h=>by
 have:=dz (kY (hPa en ws) hPe dp) (.l []) h;exact ⟨this.2,this.1⟩⟩
theorem pQ {ws:D} {r:Rd} (h:r.er≠0):wtG ws r=false:=by
 have hb:∀ t,isB ws t r=false:=fun t=>by
  cases hq:isB ws t r with
  |false=>rfl
  |true=>exact absurd (bw hq).1 h
 have hk:kiB ws 1 r=false:=by
  cases hq:kiB ws 1 r with
  |false=>rfl
  |true=>exact absurd (ix hq).1 h
 simp only[wtG,hb,hk,Bool.or_false]
theorem IJ {P:PB} (en:Int) (ws:D) (dp:Int) (r:Rd) (h:(wtA P en ws dp r).2.er=0):r.er=0:=by
 apply Decidable.byContradiction
 intro hn;unfold wtA at h;rw[bv (pQ hn)] at h;exact hn h
def nc (en:Int) (ws:D) (i:D × Rd):List D:=[D.i (4:Int),D.s (wnS ws (gw i.snd)),D.s (wnS ws (muR ws en doB (wnR ws en (1:Int) (gw i.snd)))),D.i (wsX en ws (0:Int) (muR ws en opB (wnR ws en (1:Int) (muR ws en doB (wnR ws en (1:Int) (gw i.snd)))))).fst.k,D.i (wsX en ws (0:Int) (muR ws en opB (wnR ws en (1:Int) (muR ws en doB (wnR ws en (1:Int) (gw i.snd)))))).fst.n,D.s (wsX en ws (0:Int) (muR ws en opB (wnR ws en (1:Int) (muR ws en doB (wnR ws en (1:Int) (gw i.snd)))))).fst.s,(wsX en ws (0:Int) (muR ws en opB (wnR ws en (1:Int) (muR ws en doB (wnR ws en (1:Int) (gw i.snd)))))).fst.d.sub 0 ((0:Nat)+(wsX en ws (0:Int) (muR ws en opB (wnR ws en (1:Int) (muR ws en doB (wnR ws en (1:Int) (gw i.snd)))))).fst.d.len),D.i (0:Int),D.i (0:Int),D.i (0:Int),D.s ByteArray.empty,D.l [],D.i (0:Int),D.i (0:Int),D.s ByteArray.empty,D.l [],D.l [],D.l [],D.l []]
def nd (P:PB) (en:Int) (ws:D) (dp:Int) (i:D × Rd):List D:=[D.i (2:Int),D.s ByteArray.empty,D.s ByteArray.empty,D.i (0:Int),D.i (0:Int),D.s ByteArray.empty,D.l [],D.i (wcC ws en (gw i.snd)).op,D.i (wcC ws en (gw i.snd)).l.k,D.i (wcC ws en (gw i.snd)).l.n,D.s (wcC ws en (gw i.snd)).l.s,(wcC ws en (gw i.snd)).l.d.sub 0 ((0:Nat)+(wcC ws en (gw i.snd)).l.d.len),D.i (wcC ws en (gw i.snd)).r.k,D.i (wcC ws en (gw i.snd)).r.n,D.s (wcC ws en (gw i.snd)).r.s,(wcC ws en (gw i.snd)).r.d.sub 0 ((0:Nat)+(wcC ws en (gw i.snd)).r.d.len),(aQ P en ws dp (wcR ws en (gw i.snd))).fst.sub 0 ((0:Nat)+(aQ P en ws dp (wcR ws en (gw i.snd))).fst.len),(aQ P en ws dp (gw (aQ P en ws dp (wcR ws en (gw i.snd))).snd)).fst.sub 0 ((0:Nat)+(aQ P en ws dp (gw (aQ P en ws dp (wcR ws en (gw i.snd))).snd)).fst.len),D.l []]
def ne (P:PB) (en:Int) (ws:D) (dp:Int) (i:D × Rd):List D:=[D.i (2:Int),D.s ByteArray.empty,D.s ByteArray.empty,D.i (0:Int),D.i (0:Int),D.s ByteArray.empty,D.l [],D.i (wcC ws en (gw i.snd)).op,D.i (wcC ws en (gw i.snd)).l.k,D.i (wcC ws en (gw i.snd)).l.n,D.s (wcC ws en (gw i.snd)).l.s,(wcC ws en (gw i.snd)).l.d.sub 0 ((0:Nat)+(wcC ws en (gw i.snd)).l.d.len),D.i (wcC ws en (gw i.snd)).r.k,D.i (wcC ws en (gw i.snd)).r.n,D.s (wcC ws en (gw i.snd)).r.s,(wcC ws en (gw i.snd)).r.d.sub 0 ((0:Nat)+(wcC ws en (gw i.snd)).r.d.len),(aQ P en ws dp (wcR ws en (gw i.snd))).fst.sub 0 ((0:Nat)+(aQ P en ws dp (wcR ws en (gw i.snd))).fst.len),D.l [],D.l []]
def nf (P:PB) (en:Int) (ws:D) (dp:Int) (i:D × Rd):List D:=[D.i (3:Int),D.s ByteArray.empty,D.s ByteArray.empty,D.i (0:Int),D.i (0:Int),D.s ByteArray.empty,D.l [],D.i (wcC ws en (gw i.snd)).op,D.i (wcC ws en (gw i.snd)).l.k,D.i (wcC ws en (gw i.snd)).l.n,D.s (wcC ws en (gw i.snd)).l.s,(wcC ws en (gw i.snd)).l.d.sub 0 ((0:Nat)+(wcC ws en (gw i.snd)).l.d.len),D.i (wcC ws en (gw i.snd)).r.k,D.i (wcC ws en (gw i.snd)).r.n,D.s (wcC ws en (gw i.snd)).r.s,(wcC ws en (gw i.snd)).r.d.sub 0 ((0:Nat)+(wcC ws en (gw i.snd)).r.d.len),(aQ P en ws dp (wcR ws en (gw i.snd))).fst.sub 0 ((0:Nat)+(aQ P en ws dp (wcR ws en (gw i.snd))).fst.len),D.l [],D.l []]
def ng (en:Int) (ws:D) (i:D × Rd):List D:=[D.i (1:Int),D.s (wnS ws i.snd),D.s ByteArray.empty,D.i (wsX en ws (0:Int) (muR ws en eqB (wnR ws en (1:Int) i.snd))).fst.k,D.i (wsX en ws (0:Int) (muR ws en eqB (wnR ws en (1:Int) i.snd))).fst.n,D.s (wsX en ws (0:Int) (muR ws en eqB (wnR ws en (1:Int) i.snd))).fst.s,(wsX en ws (0:Int) (muR ws en eqB (wnR ws en (1:Int) i.snd))).fst.d.sub 0 ((0:Nat)+(wsX en ws (0:Int) (muR ws en eqB (wnR ws en (1:Int) i.snd))).fst.d.len),D.i (0:Int),D.i (0:Int),D.i (0:Int),D.s ByteArray.empty,D.l [],D.i (0:Int),D.i (0:Int),D.s ByteArray.empty,D.l [],D.l [],D.l [],D.l []]
def nh (en:Int) (ws:D) (i:D × Rd):List D:=[D.i (6:Int),D.s ByteArray.empty,D.s ByteArray.empty,D.i (0:Int),D.i (0:Int),D.s ByteArray.empty,D.l [],D.i (wcC ws en (gw i.snd)).op,D.i (wcC ws en (gw i.snd)).l.k,D.i (wcC ws en (gw i.snd)).l.n,D.s (wcC ws en (gw i.snd)).l.s,(wcC ws en (gw i.snd)).l.d.sub 0 ((0:Nat)+(wcC ws en (gw i.snd)).l.d.len),D.i (wcC ws en (gw i.snd)).r.k,D.i (wcC ws en (gw i.snd)).r.n,D.s (wcC ws en (gw i.snd)).r.s,(wcC ws en (gw i.snd)).r.d.sub 0 ((0:Nat)+(wcC ws en (gw i.snd)).r.d.len),D.l [],D.l [],D.l []]
def ni (P:PB) (en:Int) (ws:D) (dp:Int) (i_1:D × Rd):List D:=[D.s (wnS ws i_1.snd),D.s (wnS ws (muR ws en opB (wnR ws en (1:Int) i_1.snd))),(aQ P en ws dp (muR ws en clB (wnR ws en (1:Int) (muR ws en opB (wnR ws en (1:Int) i_1.snd))))).fst.sub 0 ((0:Nat)+(aQ P en ws dp (muR ws en clB (wnR ws en (1:Int) (muR ws en opB (wnR ws en (1:Int) i_1.snd))))).fst.len)]
def nj (ws:D) (i:D × Rd) (i_1:D × Rd):List D:=[D.i (5:Int),D.s (wnS ws (gw i.snd)),D.s ByteArray.empty,D.i (0:Int),D.i (0:Int),D.s ByteArray.empty,D.l [],D.i (0:Int),D.i (0:Int),D.i (0:Int),D.s ByteArray.empty,D.l [],D.i (0:Int),D.i (0:Int),D.s ByteArray.empty,D.l [],D.l [],D.l [],i_1.fst.sub 0 ((0:Nat)+i_1.fst.len)]
def nk (ws:D) (i:D × Rd):List D:=[D.i (7:Int),D.s (wnS ws (gw i.snd)),D.s ByteArray.empty,D.i (0:Int),D.i (0:Int),D.s ByteArray.empty,D.l [],D.i (0:Int),D.i (0:Int),D.i (0:Int),D.s ByteArray.empty,D.l [],D.i (0:Int),D.i (0:Int),D.s ByteArray.empty,D.l [],D.l [],D.l [],D.l []]
noncomputable def AD (P:PB) (m:Nat):List Dat->Option (Eff × List Seg):=fun ds=>match ds with
 | [.d ws,.i nx,.i en,.i er,.i pa,.i dp]=>some ({val:=.one (.sc (.osl 31 (0) (.lit 0) (.sym ((wtA P en ws dp (mR nx pa er)).1.len)))),vc:=[aa ws nx,aH ws (mR nx pa er) dp,left ws (mR nx pa er)<m+1],nw:=[(0,.orow 31 ((wtA P en ws dp (mR nx pa er)).1))]},[.c (.rows 132 ws),.c (.int .i64 (.sym (((wtA P en ws dp (mR nx pa er)).2).nx))),.c (.int .i64 (.sym en)),.c (.int .i64 (.sym (((wtA P en ws dp (mR nx pa er)).2).er))),.c (.int .i64 (.sym (((wtA P en ws dp (mR nx pa er)).2).pa)))])
 |_=>none
noncomputable def IK (P:PB) (m:Nat):Con:=ba 92 [.c (.rows 132),.c (.int .i64),.c (.int .i64),.c (.int .i64),.c (.int .i64)] [.sc (.int .i64)] (AD P m)
theorem IL {P:PB} {m:Nat} (hP:ConOK Tryz.prog 24 (jF P m)) (hPa:∀ en ws dp,PbOK ws (P en ws dp)) (hPe:∀ en ws dp r,(P en ws dp r).2.er=0->r.er=0):ConOK Tryz.prog 24 (IK P m):=by
 refine bk tt_ok au Tryz.func24 rfl (fun _ _=>by kernel_rfl) (A:=fun ds=>⟨fun _=>Cons.of [(56,(fE wsX 1000001)),(55,(Aw P m)),(54,Ap),(19,kV),(22,jD),(21,mX)],fun k=>match k,ds with | 2,[.d ws,.i nx,.i en,.i er,.i pa,.i dp]=>some {ι:=D × Rd,pre:=fun _ q=>aa ws q.2.nx/\(aj (wtG ws) (wtH P en ws dp) ws q.1 q.2=(wtA P en ws dp (mR nx pa er)))/\q.1.len+left ws q.2<=1000001/\nx<=q.2.nx,μ:=fun q=>left ws q.2,st:=fun s q=>gh s [(5,.one (.sc (.osl 31 (s.nx) (.lit 0) (.sym (q.1.len)))))] [0,1] [(0,.own 92 ([.c (.rows 132 ws),.c (.int .i64 (.sym ((q.2).nx))),.c (.int .i64 (.sym en)),.c (.int .i64 (.sym ((q.2).er))),.c (.int .i64 (.sym ((q.2).pa)))])),(s.nx,.orow 31 (q.1))] []} | 29,[.d ws,.i nx,.i en,.i er,.i pa,.i dp]=>some {ι:=D × Rd,pre:=fun s q=>aa ws q.2.nx/\(wmL P en ws dp q.1 q.2=wmL P en ws dp (.l []) (mR (dj s 0 1) (dj s 0 4) (dj s 0 3)))/\q.1.len+lfm ws q.2<=1000002/\(mR (dj s 0 1) (dj s 0 4) (dj s 0 3)).nx<=q.2.nx,μ:=fun q=>lfm ws q.2,st:=fun s q=>{tm:=jh s.tm [0,1,5,6],hp:=[(0,.own 92 ([.c (.rows 132 ws),.c (.int .i64 (.sym ((q.2).nx))),.c (.int .i64 (.sym en)),.c (.int .i64 (.sym ((q.2).er))),.c (.int .i64 (.sym ((q.2).pa)))])),(bj s 6,.own 31 ([.c (.int .i64 (.sym (5))),.c (.raw (.string (ta s 6 1))),.c (.raw (.string ByteArray.empty)),.c (.int .i64 (.sym 0)),.c (.int .i64 (.sym 0)),.c (.raw (.string ByteArray.empty)),.c .nils,.c (.int .i64 (.sym (0))),.c (.int .i64 (.sym 0)),.c (.int .i64 (.sym 0)),.c (.raw (.string ByteArray.empty)),.c .nils,.c (.int .i64 (.sym 0)),.c (.int .i64 (.sym 0)),.c (.raw (.string ByteArray.empty)),.c .nils,.c .nils,.c .nils,(.c (.osl 119 s.nx (.lit 0) (.sym (q.1.len))))])),(s.nx,.orow 119 (q.1))]++mt s.hp ([5].map (bj s)),nx:=s.nx+1}} |_,_=>none,fun _=>none⟩) (fun _ _=>(af Ak (af (IE hP hPa) (af IC (af mY (af kP (af pJ aq))))))) (by kernel_rfl) ?_
 intro ds;unfold AD;split
 ·rename_i ws nx en er pa dp
  refine kmp (q:=ac (fun (i:D × Rd)=>aQ P en ws dp (wcR ws en (gw i.snd))) fun Ea=>ac (fun (i:D × Rd)=>muR ws en opB (wnR ws en (1:Int) (muR ws en doB (wnR ws en (1:Int) (gw i.snd))))) fun Eb=>ac (fun (i_1:D × Rd)=>muR ws en clB (wnR ws en (1:Int) (muR ws en opB (wnR ws en (1:Int) i_1.snd)))) fun Ec=>ac (fun (i:D × Rd)=>wnR ws en (1:Int) (gw i.snd)) fun Ed=>ac (fun (i:D × Rd)=>wsX en ws (0:Int) (muR ws en eqB (wnR ws en (1:Int) i.snd))) fun Ee=>ac (wtA P en ws dp (mR nx pa er)) fun Ef=>ac (fun (i:D × Rd)=>wsX en ws (0:Int) (Eb i)) fun Eg=>ac (fun (i:D × Rd)=>muR ws en obB (Ed i)) fun Eh=>ac (fun (i:D × Rd)=>IntKind.i64.wrap (i.snd.nx+1)) fun Ei=>ac (fun (i:D × Rd)=>aQ P en ws dp (gw (Ea i).snd)) fun Ej=>ac (fun (i_1:D × Rd)=>i_1.snd.er==(0:Int)&&((i_1.fst.len:Int)==0 || !isB ws cbB i_1.snd)) fun Ek=>ac (fun (i:D × Rd)=>muR ws en seB (muR ws en clB (Eg i).snd)) fun El=>ac (fun (i_1:D × Rd)=>aQ P en ws dp (Ec i_1)) fun Em=>ac (fun (i:D × Rd)=>muR ws en eqB (wnR ws en (1:Int) i.snd)) fun En=>aa ws nx->aH ws (mR nx pa er) dp->left ws (mR nx pa er)<m+1->(∃ (i:D × Rd),(aa ws i.snd.nx/\aj (wtG ws) (wtH P en ws dp) ws i.fst i.snd=wtA P en ws dp (mR nx pa er)/\i.fst.len+left ws i.snd<=1000001/\nx<=i.snd.nx)/\i.fst.len=0/\dp=dp/\ws.rows=ws.rows/\nx=i.snd.nx/\en=en/\er=i.snd.er/\pa=i.snd.pa/\i.fst.rows=[])/\∀ (i:D × Rd),aa ws i.snd.nx/\aj (wtG ws) (wtH P en ws dp) ws i.fst i.snd=wtA P en ws dp (mR nx pa er)/\i.fst.len+left ws i.snd<=1000001/\nx<=i.snd.nx->((i.snd.er==(0:Int))=true->aa ws i.snd.nx/\(isB ws kwF i.snd=true->aa ws (Ei i)/\aa ws (wcR ws en (gw i.snd)).nx/\cB ws (wcR ws en (gw i.snd)) dp/\left ws (wcR ws en (gw i.snd))<m/\aa ws (Ea i).snd.nx/\(isB ws kwL (Ea i).snd=true->aa ws (IntKind.i64.wrap ((Ea i).snd.nx+1))/\cB ws (gw (Ea i).snd) dp/\left ws (gw (Ea i).snd)<m/\0+(wcC ws en (gw i.snd)).l.d.len<=(wcC ws en (gw i.snd)).l.d.len/\0+(wcC ws en (gw i.snd)).r.d.len<=(wcC ws en (gw i.snd)).r.d.len/\0+(Ea i).fst.len<=(Ea i).fst.len/\0+(Ej i).fst.len<=(Ej i).fst.len/\i.fst.len=i.fst.len/\(i.fst.len+((D.l [(nd P en ws dp i)]).sub 0 1).len)*288<=140737488355328/\0+1<=(D.l [(nd P en ws dp i)]).len/\∃ (j:D × Rd),(aa ws j.snd.nx/\aj (wtG ws) (wtH P en ws dp) ws j.fst j.snd=wtA P en ws dp (mR nx pa er)/\j.fst.len+left ws j.snd<=1000001/\nx<=j.snd.nx)/\left ws j.snd<left ws i.snd/\i.fst.len+((D.l [(nd P en ws dp i)]).sub 0 1).len=j.fst.len/\dp=dp/\ws.rows=ws.rows/\(Ej i).snd.nx=j.snd.nx/\en=en/\(Ej i).snd.er=j.snd.er/\(Ej i).snd.pa=j.snd.pa/\i.fst.rows++List.drop 0 (List.take 1 [(nd P en ws dp i)])=j.fst.rows)/\(isB ws kwL (Ea i).snd=false->0+(wcC ws en (gw i.snd)).l.d.len<=(wcC ws en (gw i.snd)).l.d.len/\0+(wcC ws en (gw i.snd)).r.d.len<=(wcC ws en (gw i.snd)).r.d.len/\0+(Ea i).fst.len<=(Ea i).fst.len/\i.fst.len=i.fst.len/\(i.fst.len+((D.l [(ne P en ws dp i)]).sub 0 1).len)*288<=140737488355328/\0+1<=(D.l [(ne P en ws dp i)]).len/\∃ (j:D × Rd),(aa ws j.snd.nx/\aj (wtG ws) (wtH P en ws dp) ws j.fst j.snd=wtA P en ws dp (mR nx pa er)/\j.fst.len+left ws j.snd<=1000001/\nx<=j.snd.nx)/\left ws j.snd<left ws i.snd/\i.fst.len+((D.l [(ne P en ws dp i)]).sub 0 1).len=j.fst.len/\dp=dp/\ws.rows=ws.rows/\(Ea i).snd.nx=j.snd.nx/\en=en/\(Ea i).snd.er=j.snd.er/\(Ea i).snd.pa=j.snd.pa/\i.fst.rows++List.drop 0 (List.take 1 [(ne P en ws dp i)])=j.fst.rows))/\(isB ws kwF i.snd=false->aa ws i.snd.nx/\(isB ws kwW i.snd=true->aa ws (Ei i)/\aa ws (wcR ws en (gw i.snd)).nx/\cB ws (wcR ws en (gw i.snd)) dp/\left ws (wcR ws en (gw i.snd))<m/\0+(wcC ws en (gw i.snd)).l.d.len<=(wcC ws en (gw i.snd)).l.d.len/\0+(wcC ws en (gw i.snd)).r.d.len<=(wcC ws en (gw i.snd)).r.d.len/\0+(Ea i).fst.len<=(Ea i).fst.len/\i.fst.len=i.fst.len/\(i.fst.len+((D.l [(nf P en ws dp i)]).sub 0 1).len)*288<=140737488355328/\0+1<=(D.l [(nf P en ws dp i)]).len/\∃ (j:D × Rd),(aa ws j.snd.nx/\aj (wtG ws) (wtH P en ws dp) ws j.fst j.snd=wtA P en ws dp (mR nx pa er)/\j.fst.len+left ws j.snd<=1000001/\nx<=j.snd.nx)/\left ws j.snd<left ws i.snd/\i.fst.len+((D.l [(nf P en ws dp i)]).sub 0 1).len=j.fst.len/\dp=dp/\ws.rows=ws.rows/\(Ea i).snd.nx=j.snd.nx/\en=en/\(Ea i).snd.er=j.snd.er/\(Ea i).snd.pa=j.snd.pa/\i.fst.rows++List.drop 0 (List.take 1 [(nf P en ws dp i)])=j.fst.rows)/\(isB ws kwW i.snd=false->aa ws i.snd.nx/\(isB ws kwS i.snd=true->aa ws (Ei i)/\aa ws (Ed i).nx/\aa ws (muR ws en doB (Ed i)).nx/\aa ws (wnR ws en (1:Int) (muR ws en doB (Ed i))).nx/\aa ws (Eb i).nx/\aH ws (Eb i) (0:Int)/\left ws (Eb i)<1000001/\aa ws (Eg i).snd.nx/\aa ws (muR ws en clB (Eg i).snd).nx/\0+(Eg i).fst.d.len<=(Eg i).fst.d.len/\i.fst.len=i.fst.len/\(i.fst.len+((D.l [(nc en ws i)]).sub 0 1).len)*288<=140737488355328/\0+1<=(D.l [(nc en ws i)]).len/\∃ (j:D × Rd),(aa ws j.snd.nx/\aj (wtG ws) (wtH P en ws dp) ws j.fst j.snd=wtA P en ws dp (mR nx pa er)/\j.fst.len+left ws j.snd<=1000001/\nx<=j.snd.nx)/\left ws j.snd<left ws i.snd/\i.fst.len+((D.l [(nc en ws i)]).sub 0 1).len=j.fst.len/\dp=dp/\ws.rows=ws.rows/\(El i).nx=j.snd.nx/\en=en/\(El i).er=j.snd.er/\(El i).pa=j.snd.pa/\i.fst.rows++List.drop 0 (List.take 1 [(nc en ws i)])=j.fst.rows)/\(isB ws kwS i.snd=false->aa ws i.snd.nx/\(isB ws kwR i.snd=true->aa ws (Ei i)/\aa ws (Ed i).nx/\(∃ (i_1:D × Rd),(aa ws i_1.snd.nx/\wmL P en ws dp i_1.fst i_1.snd=wmL P en ws dp (D.l []) (Eh i)/\i_1.fst.len+lfm ws i_1.snd<=1000002/\(Eh i).nx<=i_1.snd.nx)/\dp=dp/\i.fst.len=i.fst.len/\ws.rows=ws.rows/\(Eh i).nx=i_1.snd.nx/\en=en/\(Eh i).er=i_1.snd.er/\(Eh i).pa=i_1.snd.pa/\(5:Int)=5/\Value.string (wnS ws (gw i.snd))=Value.string (wnS ws (gw i.snd))/\Value.string ByteArray.empty=Value.string ByteArray.empty/\(0:Int)=0/\(0:Int)=0/\Value.string ByteArray.empty=Value.string ByteArray.empty/\(0:Int)=0/\(0:Int)=0/\(0:Int)=0/\Value.string ByteArray.empty=Value.string ByteArray.empty/\(0:Int)=0/\(0:Int)=0/\Value.string ByteArray.empty=Value.string ByteArray.empty/\i_1.fst.len=0/\i_1.fst.rows=[]/\i.fst.rows=i.fst.rows)/\∀ (i_1:D × Rd),aa ws i_1.snd.nx/\wmL P en ws dp i_1.fst i_1.snd=wmL P en ws dp (D.l []) (Eh i)/\i_1.fst.len+lfm ws i_1.snd<=1000002/\(Eh i).nx<=i_1.snd.nx->(((i_1.fst.len:Int)==0)=false/\(i_1.snd.er==(0:Int))=true/\True->aa ws i_1.snd.nx)/\((Ek i_1)=true->aa ws i_1.snd.nx/\aa ws (wnR ws en (1:Int) i_1.snd).nx/\aa ws (muR ws en opB (wnR ws en (1:Int) i_1.snd)).nx/\aa ws (wnR ws en (1:Int) (muR ws en opB (wnR ws en (1:Int) i_1.snd))).nx/\aa ws (Ec i_1).nx/\cB ws (Ec i_1) dp/\left ws (Ec i_1)<m/\0+(Em i_1).fst.len<=(Em i_1).fst.len/\i_1.fst.len=i_1.fst.len/\(i_1.fst.len+((D.l [(ni P en ws dp i_1)]).sub 0 1).len)*56<=140737488355328/\0+1<=(D.l [(ni P en ws dp i_1)]).len/\∃ (j:D × Rd),(aa ws j.snd.nx/\wmL P en ws dp j.fst j.snd=wmL P en ws dp (D.l []) (Eh i)/\j.fst.len+lfm ws j.snd<=1000002/\(Eh i).nx<=j.snd.nx)/\lfm ws j.snd<lfm ws i_1.snd/\dp=dp/\i.fst.len=i.fst.len/\ws.rows=ws.rows/\(Em i_1).snd.nx=j.snd.nx/\en=en/\(Em i_1).snd.er=j.snd.er/\(Em i_1).snd.pa=j.snd.pa/\(5:Int)=5/\Value.string (wnS ws (gw i.snd))=Value.string (wnS ws (gw i.snd))/\Value.string ByteArray.empty=Value.string ByteArray.empty/\(0:Int)=0/\(0:Int)=0/\Value.string ByteArray.empty=Value.string ByteArray.empty/\(0:Int)=0/\(0:Int)=0/\(0:Int)=0/\Value.string ByteArray.empty=Value.string ByteArray.empty/\(0:Int)=0/\(0:Int)=0/\Value.string ByteArray.empty=Value.string ByteArray.empty/\i_1.fst.len+((D.l [(ni P en ws dp i_1)]).sub 0 1).len=j.fst.len/\i_1.fst.rows++List.drop 0 (List.take 1 [(ni P en ws dp i_1)])=j.fst.rows/\i.fst.rows=i.fst.rows)/\((Ek i_1)=false->aa ws i_1.snd.nx/\0+i_1.fst.len<=i_1.fst.len/\i.fst.len=i.fst.len/\(i.fst.len+((D.l [(nj ws i i_1)]).sub 0 1).len)*288<=140737488355328/\0+1<=(D.l [(nj ws i i_1)]).len/\∃ (j:D × Rd),(aa ws j.snd.nx/\aj (wtG ws) (wtH P en ws dp) ws j.fst j.snd=wtA P en ws dp (mR nx pa er)/\j.fst.len+left ws j.snd<=1000001/\nx<=j.snd.nx)/\left ws j.snd<left ws i.snd/\i.fst.len+((D.l [(nj ws i i_1)]).sub 0 1).len=j.fst.len/\dp=dp/\ws.rows=ws.rows/\(muR ws en cbB i_1.snd).nx=j.snd.nx/\en=en/\(muR ws en cbB i_1.snd).er=j.snd.er/\(muR ws en cbB i_1.snd).pa=j.snd.pa/\i.fst.rows++List.drop 0 (List.take 1 [(nj ws i i_1)])=j.fst.rows))/\(isB ws kwR i.snd=false->aa ws i.snd.nx/\(isB ws kwA i.snd=true->aa ws (Ei i)/\aa ws (wcR ws en (gw i.snd)).nx/\0+(wcC ws en (gw i.snd)).l.d.len<=(wcC ws en (gw i.snd)).l.d.len/\0+(wcC ws en (gw i.snd)).r.d.len<=(wcC ws en (gw i.snd)).r.d.len/\i.fst.len=i.fst.len/\(i.fst.len+((D.l [(nh en ws i)]).sub 0 1).len)*288<=140737488355328/\0+1<=(D.l [(nh en ws i)]).len/\∃ (j:D × Rd),(aa ws j.snd.nx/\aj (wtG ws) (wtH P en ws dp) ws j.fst j.snd=wtA P en ws dp (mR nx pa er)/\j.fst.len+left ws j.snd<=1000001/\nx<=j.snd.nx)/\left ws j.snd<left ws i.snd/\i.fst.len+((D.l [(nh en ws i)]).sub 0 1).len=j.fst.len/\dp=dp/\ws.rows=ws.rows/\(muR ws en seB (wcR ws en (gw i.snd))).nx=j.snd.nx/\en=en/\(muR ws en seB (wcR ws en (gw i.snd))).er=j.snd.er/\(muR ws en seB (wcR ws en (gw i.snd))).pa=j.snd.pa/\i.fst.rows++List.drop 0 (List.take 1 [(nh en ws i)])=j.fst.rows)/\(isB ws kwA i.snd=false->aa ws i.snd.nx/\(isB ws kwI i.snd=true->aa ws (Ei i)/\aa ws (Ed i).nx/\i.fst.len=i.fst.len/\(i.fst.len+((D.l [(nk ws i)]).sub 0 1).len)*288<=140737488355328/\0+1<=(D.l [(nk ws i)]).len/\∃ (j:D × Rd),(aa ws j.snd.nx/\aj (wtG ws) (wtH P en ws dp) ws j.fst j.snd=wtA P en ws dp (mR nx pa er)/\j.fst.len+left ws j.snd<=1000001/\nx<=j.snd.nx)/\left ws j.snd<left ws i.snd/\i.fst.len+((D.l [(nk ws i)]).sub 0 1).len=j.fst.len/\dp=dp/\ws.rows=ws.rows/\(muR ws en seB (Ed i)).nx=j.snd.nx/\en=en/\(muR ws en seB (Ed i)).er=j.snd.er/\(muR ws en seB (Ed i)).pa=j.snd.pa/\i.fst.rows++List.drop 0 (List.take 1 [(nk ws i)])=j.fst.rows)/\(isB ws kwI i.snd=false->(decide (i.snd.nx<(ws.len:Int))=true/\True->(0:Int)<=i.snd.nx/\i.snd.nx<(ws.len:Int))/\((decide (i.snd.nx<(ws.len:Int))&&(ws.el i.snd.nx.toNat (0+0:Nat)).toI==1)=true->aa ws i.snd.nx/\aa ws (wnR ws en (1:Int) i.snd).nx/\aa ws (En i).nx/\aH ws (En i) (0:Int)/\left ws (En i)<1000001/\aa ws (Ee i).snd.nx/\0+(Ee i).fst.d.len<=(Ee i).fst.d.len/\i.fst.len=i.fst.len/\(i.fst.len+((D.l [(ng en ws i)]).sub 0 1).len)*288<=140737488355328/\0+1<=(D.l [(ng en ws i)]).len/\∃ (j:D × Rd),(aa ws j.snd.nx/\aj (wtG ws) (wtH P en ws dp) ws j.fst j.snd=wtA P en ws dp (mR nx pa er)/\j.fst.len+left ws j.snd<=1000001/\nx<=j.snd.nx)/\left ws j.snd<left ws i.snd/\i.fst.len+((D.l [(ng en ws i)]).sub 0 1).len=j.fst.len/\dp=dp/\ws.rows=ws.rows/\(muR ws en seB (Ee i).snd).nx=j.snd.nx/\en=en/\(muR ws en seB (Ee i).snd).er=j.snd.er/\(muR ws en seB (Ee i).snd).pa=j.snd.pa/\i.fst.rows++List.drop 0 (List.take 1 [(ng en ws i)])=j.fst.rows)/\((decide (i.snd.nx<(ws.len:Int))&&(ws.el i.snd.nx.toNat (0+0:Nat)).toI==1)=false->i.fst.len=Ef.fst.len/\ws.rows=ws.rows/\i.snd.nx=Ef.snd.nx/\en=en/\i.snd.er=Ef.snd.er/\i.snd.pa=Ef.snd.pa/\i.fst.rows=Ef.fst.rows))))))))/\((i.snd.er==(0:Int))=false->i.fst.len=Ef.fst.len/\ws.rows=ws.rows/\i.snd.nx=Ef.snd.nx/\en=en/\i.snd.er=Ef.snd.er/\i.snd.pa=Ef.snd.pa/\i.fst.rows=Ef.fst.rows)) (by kernel_rfl) ?_
  dsimp +instances only [ac]
  delta nc nd ne nf ng nh ni nj nk
  intro h hd hl;refine ⟨⟨(.l [],mR nx pa er),⟨h,rfl,(by show 0+left ws (mR nx pa er)<=1000001;have:=(bo (r:=mR nx pa er) h).2;omega),Int.le_refl _⟩,(by (repeat' (with_reducible apply And.intro))<;>first |with_reducible rfl |exact True.intro |assumption |(symm;assumption) |rfl)⟩,?_⟩;rintro q ⟨h1,h2,h3,h4⟩;have l1:=cv (ws:=ws) (r:=mR nx pa er) (q:=q.2) h4;have hd2:aH ws q.2 dp:=⟨hd.1,by have:=hd.2;omega⟩;have lm:left ws q.2<m+1:=Nat.lt_of_le_of_lt l1 hl;have z:∀ n:Nat,0+n<=n:=fun n=>Nat.le_of_eq (Nat.zero_add n)
  have zb:(q.1.len+1)*288<=140737488355328:=by omega
  have fin:∀ (x:St) (r':Rd),wtF P en ws dp q.2=(x,r')->wtG ws q.2=true->(aa ws r'.nx/\aj (wtG ws) (wtH P en ws dp) ws (.l (q.1.rows++[x.row])) r'=wtA P en ws dp (mR nx pa er)/\(D.l (q.1.rows++[x.row])).len+left ws r'<=1000001/\nx<=r'.nx)/\left ws r'<left ws q.2:=by
   intro x r' e hg;obtain ⟨u1,u2⟩:=(kY (hPa en ws) hPe dp).up q.2 h1 hg;have hs:=cL (kY (hPa en ws) hPe dp) (d:=q.1) h1 hg;have e2:wtH P en ws dp q.2=(x.row,r'):=by unfold wtH;rw[e]
   rw[e2] at u1 u2 hs;have u3:=da u1 h1 u2;exact ⟨⟨u1,hs.trans h2,(by rw[bf];have u4:left ws r'<left ws q.2:=u3;omega),Int.le_trans h4 (Int.le_of_lt u2)⟩,u3⟩
  have e3:mR (q.2.nx+1) q.2.pa q.2.er=gx q.2:=rfl;have e5:(gx q.2).nx=q.2.nx+1:=rfl;refine ⟨fun h0=>?_,fun h0=>?_⟩
  rotate_left
  ·have h0:q.2.er≠0:=ne_of_beq_false h0;have h2:(q.1,q.2)=wtA P en ws dp (mR nx pa er):=(bv (pQ h0)).symm.trans h2;rw[<- h2]
   (repeat' (with_reducible apply And.intro))<;>first |with_reducible rfl |exact True.intro |assumption |(symm;assumption) |rfl
  have h0:q.2.er=0:=eq_of_beq h0;refine ⟨h1,fun k0=>?_,fun k0=>?_⟩
  ·have hlt:=(bw k0).2;rw[fG h1 hlt,nx1 h1 hlt];obtain ⟨g1,g2⟩:=c9 h1 hlt;have hG:wtG ws q.2=true:=by simp only[wtG,k0,Bool.true_or,Bool.or_true]
   obtain ⟨a1,a2,a3,a4,a5,a6⟩:=kX (hPa en ws) (dp:=dp) (r:=q.2) g1;have dq:cB ws (wcR ws en (gx q.2)) dp/\left ws (wcR ws en (gx q.2))<left ws q.2:=kK hd2 h1 hlt (by omega);have d1:=dq.1;have d2:left ws (wcR ws en (gx q.2))<m:=by have:=dq.2;omega
   have a3:aa ws (aQ P en ws dp (wcR ws en (gx q.2))).2.nx:=a3;have w2:=(m9 (hPa en ws) (dp:=dp) a1).2.2.2.2;refine ⟨g1,a1,d1,d2,a3,fun kl=>?_,fun kl=>?_⟩
   ·have hl2:=(bw kl).2;rw[fG a3 hl2,nx1 a3 hl2];have g4:=bx a3 hl2;have w3:=Int.le_trans w2 g4.2;have d3:=o9 d1 w3;have d4:=Nat.lt_of_le_of_lt (cv (ws:=ws) w3) d2;have eB:wiB P en ws dp q.2=aQ P en ws dp (gx (aQ P en ws dp (wcR ws en (gx q.2))).2):=if_pos kl;have hF:wtF P en ws dp q.2=(⟨2,ByteArray.empty,ByteArray.empty,X00,wcC ws en (gx q.2),(aQ P en ws dp (wcR ws en (gx q.2))).1,(aQ P en ws dp (gx (aQ P en ws dp (wcR ws en (gx q.2))).2)).1,.l []⟩,(aQ P en ws dp (gx (aQ P en ws dp (wcR ws en (gx q.2))).2)).2):=(if_pos k0).trans (by unfold wiS;rw[eB];rfl);obtain ⟨f1,f2⟩:=fin _ _ hF hG;refine ⟨g4.1,d3,d4,z _,z _,z _,z _,rfl,zb,Nat.le_refl 1,(.l (q.1.rows++[St.row _]),_),f1,f2,?_⟩;simp only[bu]
    (repeat' (with_reducible apply And.intro))<;>first |with_reducible rfl |exact True.intro |exact (bf _ _).symm |rfl
   ·have eB:wiB P en ws dp q.2=(.l [],(aQ P en ws dp (wcR ws en (gx q.2))).2):=if_neg (fun hx=>by rw[show isB ws kwL (wiA P en ws dp q.2).2=false from kl] at hx;cases hx);have hF:wtF P en ws dp q.2=(⟨2,ByteArray.empty,ByteArray.empty,X00,wcC ws en (gx q.2),(aQ P en ws dp (wcR ws en (gx q.2))).1,.l [],.l []⟩,(aQ P en ws dp (wcR ws en (gx q.2))).2):=(if_pos k0).trans (by unfold wiS;rw[eB];rfl);obtain ⟨f1,f2⟩:=fin _ _ hF hG;refine ⟨z _,z _,z _,rfl,zb,Nat.le_refl 1,(.l (q.1.rows++[St.row _]),_),f1,f2,?_⟩;simp only[bu]
    (repeat' (with_reducible apply And.intro))<;>first |with_reducible rfl |exact True.intro |exact (bf _ _).symm |rfl
  have n0:¬ isB ws kwF q.2=true:=by rw[k0];decide
  refine ⟨h1,fun k1=>?_,fun k1=>?_⟩
  ·have hlt:=(bw k1).2;rw[fG h1 hlt,nx1 h1 hlt];obtain ⟨g1,g2⟩:=c9 h1 hlt;have hG:wtG ws q.2=true:=by simp only[wtG,k1,Bool.true_or,Bool.or_true]
   have hF:wtF P en ws dp q.2=(whS P en ws dp q.2,(whA P en ws dp q.2).2):=(if_neg n0).trans (if_pos k1);obtain ⟨f1,f2⟩:=fin _ _ hF hG;obtain ⟨a1,a2,a3,a4,a5,a6⟩:=kX (hPa en ws) (dp:=dp) (r:=q.2) g1;have dq:cB ws (wcR ws en (gx q.2)) dp/\left ws (wcR ws en (gx q.2))<left ws q.2:=kK hd2 h1 hlt (by omega);have d1:=dq.1;have d2:left ws (wcR ws en (gx q.2))<m:=by have:=dq.2;omega
   refine ⟨g1,a1,d1,d2,z _,z _,z _,rfl,zb,Nat.le_refl 1,(.l (q.1.rows++[St.row (whS P en ws dp q.2)]),(whA P en ws dp q.2).2),f1,f2,?_⟩;simp only[bu]
   (repeat' (with_reducible apply And.intro))<;>first |with_reducible rfl |exact True.intro |exact (bf _ _).symm |rfl
  have n1:¬ isB ws kwW q.2=true:=by rw[k1];decide
  refine ⟨h1,fun k2=>?_,fun k2=>?_⟩
  ·have hlt:=(bw k2).2;rw[fG h1 hlt,nx1 h1 hlt];obtain ⟨g1,g2⟩:=c9 h1 hlt;have hG:wtG ws q.2=true:=by simp only[wtG,k2,Bool.true_or,Bool.or_true]
   have hF:wtF P en ws dp q.2=(wdS ws en q.2,wdR ws en q.2):=(if_neg n0).trans ((if_neg n1).trans (if_pos k2));obtain ⟨f1,f2⟩:=fin _ _ hF hG;obtain ⟨b1,b2,b3,b4,b5,b6,b7,b8⟩:=tc en (r:=q.2) g1;refine ⟨g1,b1,b2,b3,b4,(bo b4).1,(bo b4).2,b5,b6,z _,rfl,zb,Nat.le_refl 1,(.l (q.1.rows++[St.row (wdS ws en q.2)]),wdR ws en q.2),f1,f2,?_⟩;simp only[bu]
   (repeat' (with_reducible apply And.intro))<;>first |with_reducible rfl |exact True.intro |exact (bf _ _).symm |rfl
  have n2:¬ isB ws kwS q.2=true:=by rw[k2];decide
  refine ⟨h1,fun k3=>?_,fun k3=>?_⟩
  ·have hlt:=(bw k3).2;rw[fG h1 hlt,nx1 h1 hlt];obtain ⟨g1,g2⟩:=c9 h1 hlt;have hG:wtG ws q.2=true:=by simp only[wtG,k3,Bool.true_or,Bool.or_true]
   obtain ⟨b1,b2,b3,b4,b5,b6⟩:=td (hPa en ws) hPe (dp:=dp) (r:=q.2) g1;refine ⟨g1,b1,⟨(.l [],muR ws en obB (wnR ws en 1 (gx q.2))),⟨b2,rfl,(by show 0+lfm ws (wv1 ws en q.2)<=1000002;have:=Au ws b2;omega),Int.le_refl _⟩,(by (repeat' (with_reducible apply And.intro))<;>first |with_reducible rfl |exact True.intro |assumption |(symm;assumption) |rfl)⟩,?_⟩;rintro p ⟨p1,p2,p3,p4⟩;refine ⟨fun _=>p1,fun hc=>?_,fun hc=>?_⟩
   ·have c0:p.2.er=0/\(p.1.len=0 ∨ isB ws cbB p.2=false):=by
     simp only[Bool.and_eq_true,Bool.or_eq_true,beq_iff_eq,Bool.not_eq_true'] at hc;exact ⟨hc.1,hc.2.imp (fun x=>by omega) id⟩
    obtain ⟨m1,m2,m3,m4,m5,m6,m7,m8⟩:=pO (hPa en ws) (dp:=dp) p1;have b3:(gx q.2).nx<=(wv1 ws en q.2).nx:=b3;have p4:(wv1 ws en q.2).nx<=p.2.nx:=p4;have dq:=kK (q:=muR ws en clB (wnR ws en 1 (wmX en ws p.2))) hd2 h1 hlt (by omega);have d1:=dq.1;have d2:left ws (muR ws en clB (wnR ws en 1 (wmX en ws p.2)))<m:=by have:=dq.2;omega
    have s:=IG (hPa en ws) hPe (dp:=dp) (d:=p.1) p1 c0.1 c0.2;have lt:=Ax (hPa en ws) hPe (dp:=dp) p1 c0.1;have lt2:lfm ws (wmF P en ws dp p.2).2<lfm ws p.2:=lt;have hl3:(D.l (p.1.rows++[(wmF P en ws dp p.2).1])).len+lfm ws (wmF P en ws dp p.2).2<=1000002:=by rw[bf];omega
    refine ⟨p1,m1,m2,m3,m4,d1,d2,z _,rfl,(by show (p.1.len+1)*56<=140737488355328;omega),Nat.le_refl 1,(.l (p.1.rows++[(wmF P en ws dp p.2).1]),(wmF P en ws dp p.2).2),⟨m6,s.trans p2,hl3,Int.le_trans p4 m8⟩,lt,?_⟩;simp only[bu]
    (repeat' (with_reducible apply And.intro))<;>first |with_reducible rfl |exact True.intro |exact (bf _ _).symm |rfl
   ·have c0:p.2.er≠0 ∨ (p.1.len≠0/\isB ws cbB p.2=true):=by
     simp only[Bool.and_eq_false_iff,Bool.or_eq_false_iff,beq_eq_false_iff_ne,Bool.not_eq_false'] at hc;exact hc.imp id (fun x=>⟨by have:=x.1;omega,x.2⟩)
    have eA:(p.1,p.2)=wvA P en ws dp q.2:=(Ay c0).symm.trans p2;have hF:wtF P en ws dp q.2=(⟨5,wnS ws (gx q.2),ByteArray.empty,X00,C00,.l [],.l [],p.1⟩,muR ws en cbB p.2):=(if_neg n0).trans ((if_neg n1).trans ((if_neg n2).trans ((if_pos k3).trans (by unfold wvS wvR;rw[<- eA]))));obtain ⟨f1,f2⟩:=fin _ _ hF hG;refine ⟨p1,z _,rfl,zb,Nat.le_refl 1,(.l (q.1.rows++[St.row _]),_),f1,f2,?_⟩;simp only[bu]
    (repeat' (with_reducible apply And.intro))<;>first |with_reducible rfl |exact True.intro |exact (bf _ _).symm |rfl
  have n3:¬ isB ws kwR q.2=true:=by rw[k3];decide
  refine ⟨h1,fun k4=>?_,fun k4=>?_⟩
  ·have hlt:=(bw k4).2;rw[fG h1 hlt,nx1 h1 hlt];obtain ⟨g1,g2⟩:=c9 h1 hlt;have hG:wtG ws q.2=true:=by simp only[wtG,k4,Bool.true_or,Bool.or_true]
   have hF:wtF P en ws dp q.2=(waS ws en q.2,waR ws en q.2):=(if_neg n0).trans ((if_neg n1).trans ((if_neg n2).trans ((if_neg n3).trans (if_pos k4))));obtain ⟨f1,f2⟩:=fin _ _ hF hG;obtain ⟨a1,a2,a3⟩:=Az en (r:=q.2) g1;refine ⟨g1,a1,z _,z _,rfl,zb,Nat.le_refl 1,(.l (q.1.rows++[St.row (waS ws en q.2)]),waR ws en q.2),f1,f2,?_⟩;simp only[bu]
   (repeat' (with_reducible apply And.intro))<;>first |with_reducible rfl |exact True.intro |exact (bf _ _).symm |rfl
  have n4:¬ isB ws kwA q.2=true:=by rw[k4];decide
  refine ⟨h1,fun k5=>?_,fun k5=>?_⟩
  ·have hlt:=(bw k5).2;rw[fG h1 hlt,nx1 h1 hlt];obtain ⟨g1,g2⟩:=c9 h1 hlt;have hG:wtG ws q.2=true:=by simp only[wtG,k5,Bool.true_or,Bool.or_true]
   have hF:wtF P en ws dp q.2=(wnI ws en q.2,wnZ ws en q.2):=(if_neg n0).trans ((if_neg n1).trans ((if_neg n2).trans ((if_neg n3).trans ((if_neg n4).trans (if_pos k5)))));obtain ⟨f1,f2⟩:=fin _ _ hF hG;obtain ⟨a1,a2,a3⟩:=AA en (r:=q.2) g1;refine ⟨g1,a1,rfl,zb,Nat.le_refl 1,(.l (q.1.rows++[St.row (wnI ws en q.2)]),wnZ ws en q.2),f1,f2,?_⟩;simp only[bu]
   (repeat' (with_reducible apply And.intro))<;>first |with_reducible rfl |exact True.intro |exact (bf _ _).symm |rfl
  have n5:¬ isB ws kwI q.2=true:=by rw[k5];decide
  refine ⟨fun hx=>⟨h1.1,of_decide_eq_true hx.1⟩,fun hc=>?_,fun hc=>?_⟩
  ·have hk:kiB ws 1 q.2=true:=(s8 ws 1 q.2.nx q.2.pa q.2.er).symm.trans (by simp only[Bool.and_eq_true] at hc ⊢;exact ⟨⟨by rw[h0];rfl,hc.1⟩,hc.2⟩);have hF:wtF P en ws dp q.2=(wgS ws en q.2,wgR ws en q.2):=(if_neg n0).trans ((if_neg n1).trans ((if_neg n2).trans ((if_neg n3).trans ((if_neg n4).trans (if_neg n5)))));obtain ⟨f1,f2⟩:=fin _ _ hF (by simp only[wtG,hk,Bool.or_true]);obtain ⟨b1,b2,b3,b4,b5⟩:=AB en h1;refine ⟨h1,b1,b2,(bo b2).1,(bo b2).2,b3,z _,rfl,zb,Nat.le_refl 1,(.l (q.1.rows++[St.row (wgS ws en q.2)]),wgR ws en q.2),f1,f2,?_⟩;simp only[bu]
   (repeat' (with_reducible apply And.intro))<;>first |with_reducible rfl |exact True.intro |exact (bf _ _).symm |rfl
  ·have hk:kiB ws 1 q.2=false:=(s8 ws 1 q.2.nx q.2.pa q.2.er).symm.trans (by rw[show (q.2.er==0)=true by rw[h0];rfl,Bool.true_and];exact hc);have hg:wtG ws q.2=false:=by simp only[wtG,k0,k1,k2,k3,k4,k5,hk,Bool.or_false]
   have h2:(q.1,q.2)=wtA P en ws dp (mR nx pa er):=(bv hg).symm.trans h2;rw[<- h2]
   (repeat' (with_reducible apply And.intro))<;>first |with_reducible rfl |exact True.intro |assumption |(symm;assumption) |rfl
 ·trivial
end Go.Proofs.YtbhbjhejkamlnaaGreat.Sx.Z
