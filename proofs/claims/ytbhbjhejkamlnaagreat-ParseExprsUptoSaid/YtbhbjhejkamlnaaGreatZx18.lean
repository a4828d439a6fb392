import Derived.Test.YtbhbjhejkamlnaaGreatZx17
set_option linter.unusedVariables false
set_option linter.unusedSimpArgs false
namespace Go.Proofs.YtbhbjhejkamlnaaGreat.Sx.Z
open Go.RowKit
def ga (n:Nat) (v:Value):Bool:=match v with
 | .func (.func m) a b=>Nat.beq m n&&Nat.beq a.size 0&&Nat.beq b.size 0
 |_=>false
theorem ip {n:Nat} {v:Value} (h:ga n v=true):v = .func (.func n) #[] #[]:=by
 unfold ga at h
 split at h
 ·rename_i m a b;simp only[Bool.and_eq_true] at h;obtain ⟨⟨h1,h2⟩,h3⟩:=h;rw[Nat.eq_of_beq_eq_true h1,Array.eq_empty_of_size_eq_zero (Nat.eq_of_beq_eq_true h2),Array.eq_empty_of_size_eq_zero (Nat.eq_of_beq_eq_true h3)]
 ·cases h
structure Xp where
 k:Int
 n:Int
 s:ByteArray
 d:D
def Xp.row (x:Xp):List D:=[.i x.k,.i x.n,.s x.s,.l x.d.rows]
def X2 (k:Int) (a b:Xp):Xp:=⟨k,0,ByteArray.empty,.l [a.row,b.row]⟩
def left (ws:D) (r:Rd):Nat:=ws.len-r.nx.toNat
def chL (P:Rd->Xp × Rd) (K:ByteArray->Int) (ws:D):Nat->Xp->Rd->Xp × Rd
 | 0,x,r=>(x,r)
 |m+1,x,r=>if K (pkS ws r.nx)=0 then (x,r) else chL P K ws m (X2 (K (pkS ws r.nx)) x (P (gx r)).1) (P (gx r)).2
def chA (P:Rd->Xp × Rd) (K:ByteArray->Int) (ws:D) (r:Rd):Xp × Rd:=chL P K ws (left ws (P r).2) (P r).1 (P r).2
def aH (ws:D) (r:Rd) (dp:Int):Prop:=0<=dp/\dp+(left ws r:Int)<=2000000
structure PaOK (ws:D) (P:Rd->Xp × Rd):Prop where
 up:∀ r,aa ws r.nx->r.nx<=(P r).2.nx/\aa ws (P r).2.nx/\(P r).1.d.len<=2
theorem bu (d:D):d.sub 0 (0+d.len) = .l d.rows:=by
 show D.l ((d.rows.take (0+d.rows.length)).drop 0)=_;rw[Nat.zero_add,List.take_length,List.drop_zero]
theorem gF {P:Rd->Xp × Rd} {K:ByteArray->Int} {ws:D} {x:Xp} {r:Rd} (h:K (pkS ws r.nx)=0):∀ m,chL P K ws m x r=(x,r)
 | 0=>rfl
 |m+1=>if_pos h
theorem c9 {ws:D} {r:Rd} (h:aa ws r.nx) (hl:r.nx<ws.len):aa ws (gx r).nx/\left ws r=left ws (gx r)+1:=by
 obtain ⟨a,b,c⟩:=h;have e:(gx r).nx=r.nx+1:=rfl;unfold left aa;rw[e];exact ⟨⟨by omega,by omega,c⟩,by omega⟩
theorem cv {ws:D} {r q:Rd} (h:r.nx<=q.nx):left ws q<=left ws r:=by unfold left;omega
theorem G7 {P:Rd->Xp × Rd} {K:ByteArray->Int} {ws:D} (hP:PaOK ws P) (he:K ByteArray.empty=0):∀ (n:Nat) (r:Rd) (x:Xp),aa ws r.nx->left ws r<=n->chL P K ws n x r=chL P K ws (left ws r) x r:=by
 intro n
 induction n using Nat.strongRecOn with
 |ind n ih=>
  intro r x h hl
  by_cases hk:K (pkS ws r.nx)=0
  ·rw[gF hk,gF hk]
  ·obtain ⟨g1,g2⟩:=c9 h (io he hk);obtain ⟨u1,u2,_⟩:=hP.up (gx r) g1;have u3:=cv (ws:=ws) u1
   cases n with
   |zero=>omega
   |succ k=>
    rw[g2,chL,if_neg hk,chL,if_neg hk,ih k (by omega) _ _ u2 (by omega),ih (left ws (gx r)) (by omega) _ _ u2 u3]
theorem sw {P:Rd->Xp × Rd} {K:ByteArray->Int} {ws:D} (hP:PaOK ws P) (he:K ByteArray.empty=0) {r:Rd} (x:Xp) (h:aa ws r.nx) (hk:K (pkS ws r.nx)≠0):chL P K ws (left ws (P (gx r)).2) (X2 (K (pkS ws r.nx)) x (P (gx r)).1) (P (gx r)).2=chL P K ws (left ws r) x r:=by
 obtain ⟨g1,g2⟩:=c9 h (io he hk);obtain ⟨u1,u2,_⟩:=hP.up (gx r) g1;rw[g2,chL,if_neg hk,G7 hP he (left ws (gx r)) _ _ u2 (cv u1)]
theorem yD {P:Rd->Xp × Rd} {K:ByteArray->Int} {ws:D} (hP:PaOK ws P) (he:K ByteArray.empty=0):∀ (m:Nat) (x:Xp) (r:Rd),aa ws r.nx->x.d.len<=2->r.nx<=(chL P K ws m x r).2.nx/\aa ws (chL P K ws m x r).2.nx/\(chL P K ws m x r).1.d.len<=2
 | 0,x,r,h,hx=>⟨Int.le_refl _,h,hx⟩
 |m+1,x,r,h,hx=>by
  by_cases hk:K (pkS ws r.nx)=0
  ·rw[gF hk];exact ⟨Int.le_refl _,h,hx⟩
  ·obtain ⟨g1,g2⟩:=c9 h (io he hk);obtain ⟨u1,u2,u3⟩:=hP.up (gx r) g1;rw[chL,if_neg hk];obtain ⟨w1,w2,w3⟩:=yD hP he m (X2 (K (pkS ws r.nx)) x (P (gx r)).1) (P (gx r)).2 u2 (Nat.le_refl _);have e5:(gx r).nx=r.nx+1:=rfl;exact ⟨by omega,w2,w3⟩
theorem mH {P:Rd->Xp × Rd} {K:ByteArray->Int} {ws:D} (hP:PaOK ws P) (he:K ByteArray.empty=0):PaOK ws (chA P K ws):=⟨fun r h=>by
 obtain ⟨u1,u2,u3⟩:=hP.up r h;obtain ⟨w1,w2,w3⟩:=yD hP he (left ws (P r).2) (P r).1 (P r).2 u2 u3;exact ⟨Int.le_trans u1 w1,w2,w3⟩⟩
noncomputable def yE (P:Int->D->Int->Rd->Xp × Rd) (m:Nat):List Dat->Option (Eff × List Seg):=fun ds=>match ds with
 | [.d ws,.i nx,.i en,.i pa,.i er,.i dp]=>some ({val:=.one (.agg [.c (.int .i64 (.sym ((P en ws dp (mR nx pa er)).1).k)),.c (.int .i64 (.sym ((P en ws dp (mR nx pa er)).1).n)),.c (.raw (.string ((P en ws dp (mR nx pa er)).1).s)),.c (.osl 75 0 (.lit 0) (.sym ((P en ws dp (mR nx pa er)).1).d.len))]),vc:=[aa ws nx,aH ws (mR nx pa er) dp,left ws (mR nx pa er)<m],nw:=[(0,.orow 75 (P en ws dp (mR nx pa er)).1.d)]},[.c (.rows 124 ws),.c (.int .i64 (.sym ((((P en ws dp (mR nx pa er)).2)).nx))),.c (.int .i64 (.sym en)),.c (.int .i64 (.sym ((((P en ws dp (mR nx pa er)).2)).pa))),.c (.int .i64 (.sym ((((P en ws dp (mR nx pa er)).2)).er)))])
 |_=>none
noncomputable def dh (P:Int->D->Int->Rd->Xp × Rd) (m:Nat):Con:=ba 85 [.c (.rows 124),.c (.int .i64),.c (.int .i64),.c (.int .i64),.c (.int .i64)] [.sc (.int .i64)] (yE P m)
noncomputable def yF (P:Int->D->Int->Rd->Xp × Rd) (m:Nat):List Dat->Option (Eff × List Seg):=fun ds=>match ds with
 | [.d ws,.i nx,.i en,.i pa,.i er,.v kf,.i dp]=>(match ga 110 kf with |true=>some ({val:=.one (.agg [.c (.int .i64 (.sym ((chA (P en ws dp) skK ws (mR nx pa er)).1).k)),.c (.int .i64 (.sym ((chA (P en ws dp) skK ws (mR nx pa er)).1).n)),.c (.raw (.string ((chA (P en ws dp) skK ws (mR nx pa er)).1).s)),.c (.osl 75 0 (.lit 0) (.sym ((chA (P en ws dp) skK ws (mR nx pa er)).1).d.len))]),vc:=[aa ws nx,aH ws (mR nx pa er) dp,left ws (mR nx pa er)<m,PaOK ws (P en ws dp)],nw:=[(0,.orow 75 (chA (P en ws dp) skK ws (mR nx pa er)).1.d)]},[.c (.rows 124 ws),.c (.int .i64 (.sym (((chA (P en ws dp) skK ws (mR nx pa er)).2).nx))),.c (.int .i64 (.sym en)),.c (.int .i64 (.sym (((chA (P en ws dp) skK ws (mR nx pa er)).2).pa))),.c (.int .i64 (.sym (((chA (P en ws dp) skK ws (mR nx pa er)).2).er)))]) |false=>none)
 |_=>none
noncomputable def yG (P:Int->D->Int->Rd->Xp × Rd) (m:Nat):Con:=mG 85 [.c (.rows 124),.c (.int .i64),.c (.int .i64),.c (.int .i64),.c (.int .i64)] 109 [.sc .any,.sc (.int .i64)] (yF P m)
theorem G8 {P:Int->D->Int->Rd->Xp × Rd} {m:Nat} (hP:ConOK Tryz.prog 109 (dh P m)):ConOK Tryz.prog 108 (yG P m):=by
 refine yi tt_ok au Tryz.func108 rfl (fun _ _=>by kernel_rfl) (A:=fun ds=>⟨fun _=>Cons.of [(76,eD),(110,yw),(109,(dh P m))],fun k=>match k,ds with | 2,[.d ws,.i nx,.i en,.i pa,.i er,.v _,.i dp]=>some {ι:=Xp × Rd,pre:=fun _ q=>aa ws q.2.nx/\(chL (P en ws dp) skK ws (left ws q.2) q.1 q.2=chA (P en ws dp) skK ws (mR nx pa er))/\q.1.d.len<=2/\nx<=q.2.nx,μ:=fun q=>left ws q.2,st:=fun s q=>aV s [] [0,1,2,3,8,9] [(0,.own 85 ([.c (.rows 124 ws),.c (.int .i64 (.sym ((q.2).nx))),.c (.int .i64 (.sym en)),.c (.int .i64 (.sym ((q.2).pa))),.c (.int .i64 (.sym ((q.2).er)))])),(bj s 9,.own 75 ([.c (.int .i64 (.sym q.1.k)),.c (.int .i64 (.sym q.1.n)),.c (.raw (.string q.1.s)),.c (.osl 75 (s.nx-1) (.lit 0) (.sym q.1.d.len))])),(s.nx-1,.orow 75 (q.1.d))] [8]} |_,_=>none,fun _=>none⟩) (fun _ _=>(af eT (af G3 (af hP aq)))) (by kernel_rfl) ?_
 intro ds;unfold yF;split
 ·rename_i ws nx en pa er kf dp;split
  ·rename_i hg;obtain rfl:=ip hg;refine kmp (q:=ac (fun (i:Xp × Rd)=>P en ws dp (mR (IntKind.i64.wrap (i.snd.nx+1)) i.snd.pa i.snd.er)) fun Ea=>ac (chA (P en ws dp) skK ws (mR nx pa er)) fun Eb=>ac (P en ws dp (mR nx pa er)) fun Ec=>aa ws nx->aH ws (mR nx pa er) dp->left ws (mR nx pa er)<m->PaOK ws (P en ws dp)->aa ws nx/\aH ws (mR nx pa er) dp/\left ws (mR nx pa er)<m/\(∃ (i:Xp × Rd),(aa ws i.snd.nx/\chL (P en ws dp) skK ws (left ws i.snd) i.fst i.snd=chA (P en ws dp) skK ws (mR nx pa er)/\i.fst.d.len<=2/\nx<=i.snd.nx)/\Value.func (Fn.func (110:Nat)) #[] #[]=Value.func (Fn.func (110:Nat)) #[] #[]/\dp=dp/\ws.rows=ws.rows/\Ec.snd.nx=i.snd.nx/\en=en/\Ec.snd.pa=i.snd.pa/\Ec.snd.er=i.snd.er/\Ec.fst.k=i.fst.k/\Ec.fst.n=i.fst.n/\Value.string Ec.fst.s=Value.string i.fst.s/\Ec.fst.d.len=i.fst.d.len/\Ec.fst.d.rows=i.fst.d.rows/\(0:Int)=0/\(0:Int)=0/\Value.string ByteArray.empty=Value.string ByteArray.empty)/\∀ (i:Xp × Rd),aa ws i.snd.nx/\chL (P en ws dp) skK ws (left ws i.snd) i.fst i.snd=chA (P en ws dp) skK ws (mR nx pa er)/\i.fst.d.len<=2/\nx<=i.snd.nx->aa ws i.snd.nx/\((skK (pkS ws i.snd.nx)==(0:Int))=true->i.fst.k=Eb.fst.k/\i.fst.n=Eb.fst.n/\Value.string i.fst.s=Value.string Eb.fst.s/\i.fst.d.len=Eb.fst.d.len/\ws.rows=ws.rows/\i.snd.nx=Eb.snd.nx/\en=en/\i.snd.pa=Eb.snd.pa/\i.snd.er=Eb.snd.er/\i.fst.d.rows=Eb.fst.d.rows)/\((skK (pkS ws i.snd.nx)==(0:Int))=false->aa ws (IntKind.i64.wrap (i.snd.nx+1))/\aH ws (mR (IntKind.i64.wrap (i.snd.nx+1)) i.snd.pa i.snd.er) dp/\left ws (mR (IntKind.i64.wrap (i.snd.nx+1)) i.snd.pa i.snd.er)<m/\0+i.fst.d.len<=i.fst.d.len/\0+(Ea i).fst.d.len<=(Ea i).fst.d.len/\∃ (j:Xp × Rd),(aa ws j.snd.nx/\chL (P en ws dp) skK ws (left ws j.snd) j.fst j.snd=chA (P en ws dp) skK ws (mR nx pa er)/\j.fst.d.len<=2/\nx<=j.snd.nx)/\left ws j.snd<left ws i.snd/\Value.func (Fn.func (110:Nat)) #[] #[]=Value.func (Fn.func (110:Nat)) #[] #[]/\dp=dp/\ws.rows=ws.rows/\(Ea i).snd.nx=j.snd.nx/\en=en/\(Ea i).snd.pa=j.snd.pa/\(Ea i).snd.er=j.snd.er/\skK (pkS ws i.snd.nx)=j.fst.k/\(0:Int)=j.fst.n/\Value.string ByteArray.empty=Value.string j.fst.s/\2=j.fst.d.len /\ [[D.i i.fst.k,D.i i.fst.n,D.s i.fst.s,i.fst.d.sub 0 ((0:Nat)+i.fst.d.len)],[D.i (Ea i).fst.k,D.i (Ea i).fst.n,D.s (Ea i).fst.s,(Ea i).fst.d.sub 0 ((0:Nat)+(Ea i).fst.d.len)]]=j.fst.d.rows/\(0:Int)=0/\(0:Int)=0/\Value.string ByteArray.empty=Value.string ByteArray.empty)) (by kernel_rfl) ?_
   dsimp +instances only [ac]
   intro h hd hl hP;obtain ⟨v1,v2,v3⟩:=hP.up (mR nx pa er) h;refine ⟨h,hd,hl,⟨P en ws dp (mR nx pa er),⟨v2,rfl,v3,v1⟩,(by (repeat' (with_reducible apply And.intro))<;>first |with_reducible rfl |exact True.intro |assumption |(symm;assumption) |rfl)⟩,?_⟩;rintro q ⟨h1,h2,h3,h4⟩;refine ⟨h1,fun hc=>?_,fun hc=>?_⟩
   ·have hc:skK (pkS ws q.2.nx)=0:=by simpa using hc
    rw[gF hc] at h2;rw[<- h2]
    (repeat' (with_reducible apply And.intro))<;>first |with_reducible rfl |exact True.intro |assumption |(symm;assumption) |rfl
   ·have hc:skK (pkS ws q.2.nx)≠0:=by simpa using hc
    have hlt:=io o7 hc;obtain ⟨g1,g2⟩:=c9 h1 hlt;obtain ⟨u1,u2,u3⟩:=hP.up (gx q.2) g1;rw[nx1 h1 hlt,bu,bu];have e3:mR (q.2.nx+1) q.2.pa q.2.er=gx q.2:=rfl;rw[e3];have l0:left ws q.2<=left ws (mR nx pa er):=cv h4;have l1:=cv (ws:=ws) u1;have e5:(gx q.2).nx=q.2.nx+1:=rfl;have hd2:aH ws (gx q.2) dp:=⟨hd.1,by have:=hd.2;omega⟩;refine ⟨g1,hd2,by omega,by omega,by omega,⟨(X2 (skK (pkS ws q.2.nx)) q.1 (P en ws dp (gx q.2)).1,(P en ws dp (gx q.2)).2),⟨u2,(sw hP o7 q.1 h1 hc).trans h2,Nat.le_refl _,(by show nx<=(P en ws dp (gx q.2)).2.nx;omega)⟩,(by show left ws (P en ws dp (gx q.2)).2<left ws q.2;omega),(by (repeat' (with_reducible apply And.intro))<;>first |with_reducible rfl |exact True.intro |assumption |(symm;assumption) |rfl)⟩⟩
  ·trivial
 ·trivial
noncomputable def yH (P:Int->D->Int->Rd->Xp × Rd) (m:Nat):List Dat->Option (Eff × List Seg):=fun ds=>match ds with
 | [.d ws,.i nx,.i en,.i pa,.i er,.v kf,.i dp]=>(match ga 113 kf with |true=>some ({val:=.one (.agg [.c (.int .i64 (.sym ((chA (P en ws dp) pdK ws (mR nx pa er)).1).k)),.c (.int .i64 (.sym ((chA (P en ws dp) pdK ws (mR nx pa er)).1).n)),.c (.raw (.string ((chA (P en ws dp) pdK ws (mR nx pa er)).1).s)),.c (.osl 75 0 (.lit 0) (.sym ((chA (P en ws dp) pdK ws (mR nx pa er)).1).d.len))]),vc:=[aa ws nx,aH ws (mR nx pa er) dp,left ws (mR nx pa er)<m,PaOK ws (P en ws dp)],nw:=[(0,.orow 75 (chA (P en ws dp) pdK ws (mR nx pa er)).1.d)]},[.c (.rows 124 ws),.c (.int .i64 (.sym (((chA (P en ws dp) pdK ws (mR nx pa er)).2).nx))),.c (.int .i64 (.sym en)),.c (.int .i64 (.sym (((chA (P en ws dp) pdK ws (mR nx pa er)).2).pa))),.c (.int .i64 (.sym (((chA (P en ws dp) pdK ws (mR nx pa er)).2).er)))]) |false=>none)
 |_=>none
noncomputable def yI (P:Int->D->Int->Rd->Xp × Rd) (m:Nat):Con:=mG 85 [.c (.rows 124),.c (.int .i64),.c (.int .i64),.c (.int .i64),.c (.int .i64)] 112 [.sc .any,.sc (.int .i64)] (yH P m)
theorem G9 {P:Int->D->Int->Rd->Xp × Rd} {m:Nat} (hP:ConOK Tryz.prog 112 (dh P m)):ConOK Tryz.prog 108 (yI P m):=by
 refine yi tt_ok au Tryz.func108 rfl (fun _ _=>by kernel_rfl) (A:=fun ds=>⟨fun _=>Cons.of [(76,eD),(113,yy),(112,(dh P m))],fun k=>match k,ds with | 2,[.d ws,.i nx,.i en,.i pa,.i er,.v _,.i dp]=>some {ι:=Xp × Rd,pre:=fun _ q=>aa ws q.2.nx/\(chL (P en ws dp) pdK ws (left ws q.2) q.1 q.2=chA (P en ws dp) pdK ws (mR nx pa er))/\q.1.d.len<=2/\nx<=q.2.nx,μ:=fun q=>left ws q.2,st:=fun s q=>aV s [] [0,1,2,3,8,9] [(0,.own 85 ([.c (.rows 124 ws),.c (.int .i64 (.sym ((q.2).nx))),.c (.int .i64 (.sym en)),.c (.int .i64 (.sym ((q.2).pa))),.c (.int .i64 (.sym ((q.2).er)))])),(bj s 9,.own 75 ([.c (.int .i64 (.sym q.1.k)),.c (.int .i64 (.sym q.1.n)),.c (.raw (.string q.1.s)),.c (.osl 75 (s.nx-1) (.lit 0) (.sym q.1.d.len))])),(s.nx-1,.orow 75 (q.1.d))] [8]} |_,_=>none,fun _=>none⟩) (fun _ _=>(af eT (af G4 (af hP aq)))) (by kernel_rfl) ?_
 intro ds;unfold yH;split
 ·rename_i ws nx en pa er kf dp;split
  ·rename_i hg;obtain rfl:=ip hg;refine kmp (q:=ac (fun (i:Xp × Rd)=>P en ws dp (mR (IntKind.i64.wrap (i.snd.nx+1)) i.snd.pa i.snd.er)) fun Ea=>ac (chA (P en ws dp) pdK ws (mR nx pa er)) fun Eb=>ac (P en ws dp (mR nx pa er)) fun Ec=>aa ws nx->aH ws (mR nx pa er) dp->left ws (mR nx pa er)<m->PaOK ws (P en ws dp)->aa ws nx/\aH ws (mR nx pa er) dp/\left ws (mR nx pa er)<m/\(∃ (i:Xp × Rd),(aa ws i.snd.nx/\chL (P en ws dp) pdK ws (left ws i.snd) i.fst i.snd=chA (P en ws dp) pdK ws (mR nx pa er)/\i.fst.d.len<=2/\nx<=i.snd.nx)/\Value.func (Fn.func (113:Nat)) #[] #[]=Value.func (Fn.func (113:Nat)) #[] #[]/\dp=dp/\ws.rows=ws.rows/\Ec.snd.nx=i.snd.nx/\en=en/\Ec.snd.pa=i.snd.pa/\Ec.snd.er=i.snd.er/\Ec.fst.k=i.fst.k/\Ec.fst.n=i.fst.n/\Value.string Ec.fst.s=Value.string i.fst.s/\Ec.fst.d.len=i.fst.d.len/\Ec.fst.d.rows=i.fst.d.rows/\(0:Int)=0/\(0:Int)=0/\Value.string ByteArray.empty=Value.string ByteArray.empty)/\∀ (i:Xp × Rd),aa ws i.snd.nx/\chL (P en ws dp) pdK ws (left ws i.snd) i.fst i.snd=chA (P en ws dp) pdK ws (mR nx pa er)/\i.fst.d.len<=2/\nx<=i.snd.nx->aa ws i.snd.nx/\((pdK (pkS ws i.snd.nx)==(0:Int))=true->i.fst.k=Eb.fst.k/\i.fst.n=Eb.fst.n/\Value.string i.fst.s=Value.string Eb.fst.s/\i.fst.d.len=Eb.fst.d.len/\ws.rows=ws.rows/\i.snd.nx=Eb.snd.nx/\en=en/\i.snd.pa=Eb.snd.pa/\i.snd.er=Eb.snd.er/\i.fst.d.rows=Eb.fst.d.rows)/\((pdK (pkS ws i.snd.nx)==(0:Int))=false->aa ws (IntKind.i64.wrap (i.snd.nx+1))/\aH ws (mR (IntKind.i64.wrap (i.snd.nx+1)) i.snd.pa i.snd.er) dp/\left ws (mR (IntKind.i64.wrap (i.snd.nx+1)) i.snd.pa i.snd.er)<m/\0+i.fst.d.len<=i.fst.d.len/\0+(Ea i).fst.d.len<=(Ea i).fst.d.len/\∃ (j:Xp × Rd),(aa ws j.snd.nx/\chL (P en ws dp) pdK ws (left ws j.snd) j.fst j.snd=chA (P en ws dp) pdK ws (mR nx pa er)/\j.fst.d.len<=2/\nx<=j.snd.nx)/\left ws j.snd<left ws i.snd/\Value.func (Fn.func (113:Nat)) #[] #[]=Value.func (Fn.func (113:Nat)) #[] #[]/\dp=dp/\ws.rows=ws.rows/\(Ea i).snd.nx=j.snd.nx/\en=en/\(Ea i).snd.pa=j.snd.pa/\(Ea i).snd.er=j.snd.er/\pdK (pkS ws i.snd.nx)=j.fst.k/\(0:Int)=j.fst.n/\Value.string ByteArray.empty=Value.string j.fst.s/\2=j.fst.d.len /\ [[D.i i.fst.k,D.i i.fst.n,D.s i.fst.s,i.fst.d.sub 0 ((0:Nat)+i.fst.d.len)],[D.i (Ea i).fst.k,D.i (Ea i).fst.n,D.s (Ea i).fst.s,(Ea i).fst.d.sub 0 ((0:Nat)+(Ea i).fst.d.len)]]=j.fst.d.rows/\(0:Int)=0/\(0:Int)=0/\Value.string ByteArray.empty=Value.string ByteArray.empty)) (by kernel_rfl) ?_
   dsimp +instances only [ac]
   intro h hd hl hP;obtain ⟨v1,v2,v3⟩:=hP.up (mR nx pa er) h;refine ⟨h,hd,hl,⟨P en ws dp (mR nx pa er),⟨v2,rfl,v3,v1⟩,(by (repeat' (with_reducible apply And.intro))<;>first |with_reducible rfl |exact True.intro |assumption |(symm;assumption) |rfl)⟩,?_⟩;rintro q ⟨h1,h2,h3,h4⟩;refine ⟨h1,fun hc=>?_,fun hc=>?_⟩
   ·have hc:pdK (pkS ws q.2.nx)=0:=by simpa using hc
    rw[gF hc] at h2;rw[<- h2]
    (repeat' (with_reducible apply And.intro))<;>first |with_reducible rfl |exact True.intro |assumption |(symm;assumption) |rfl
   ·have hc:pdK (pkS ws q.2.nx)≠0:=by simpa using hc
    have hlt:=io kG hc;obtain ⟨g1,g2⟩:=c9 h1 hlt;obtain ⟨u1,u2,u3⟩:=hP.up (gx q.2) g1;rw[nx1 h1 hlt,bu,bu];have e3:mR (q.2.nx+1) q.2.pa q.2.er=gx q.2:=rfl;rw[e3];have l0:left ws q.2<=left ws (mR nx pa er):=cv h4;have l1:=cv (ws:=ws) u1;have e5:(gx q.2).nx=q.2.nx+1:=rfl;have hd2:aH ws (gx q.2) dp:=⟨hd.1,by have:=hd.2;omega⟩;refine ⟨g1,hd2,by omega,by omega,by omega,⟨(X2 (pdK (pkS ws q.2.nx)) q.1 (P en ws dp (gx q.2)).1,(P en ws dp (gx q.2)).2),⟨u2,(sw hP kG q.1 h1 hc).trans h2,Nat.le_refl _,(by show nx<=(P en ws dp (gx q.2)).2.nx;omega)⟩,(by show left ws (P en ws dp (gx q.2)).2<left ws q.2;omega),(by (repeat' (with_reducible apply And.intro))<;>first |with_reducible rfl |exact True.intro |assumption |(symm;assumption) |rfl)⟩⟩
  ·trivial
 ·trivial
noncomputable def yJ (P:Int->D->Int->Rd->Xp × Rd) (m:Nat):List Dat->Option (Eff × List Seg):=fun ds=>match ds with
 | [.d ws,.i nx,.i en,.i pa,.i er,.i dp]=>some ({val:=.one (.agg [.c (.int .i64 (.sym ((chA (P en ws dp) skK ws (mR nx pa er)).1).k)),.c (.int .i64 (.sym ((chA (P en ws dp) skK ws (mR nx pa er)).1).n)),.c (.raw (.string ((chA (P en ws dp) skK ws (mR nx pa er)).1).s)),.c (.osl 75 0 (.lit 0) (.sym ((chA (P en ws dp) skK ws (mR nx pa er)).1).d.len))]),vc:=[aa ws nx,aH ws (mR nx pa er) dp,left ws (mR nx pa er)<m],nw:=[(0,.orow 75 (chA (P en ws dp) skK ws (mR nx pa er)).1.d)]},[.c (.rows 124 ws),.c (.int .i64 (.sym (((chA (P en ws dp) skK ws (mR nx pa er)).2).nx))),.c (.int .i64 (.sym en)),.c (.int .i64 (.sym (((chA (P en ws dp) skK ws (mR nx pa er)).2).pa))),.c (.int .i64 (.sym (((chA (P en ws dp) skK ws (mR nx pa er)).2).er)))])
 |_=>none
noncomputable def Hc (P:Int->D->Int->Rd->Xp × Rd) (m:Nat):Con:=ba 85 [.c (.rows 124),.c (.int .i64),.c (.int .i64),.c (.int .i64),.c (.int .i64)] [.sc (.int .i64)] (yJ P m)
theorem Hf {P:Int->D->Int->Rd->Xp × Rd} {m:Nat} (hP:ConOK Tryz.prog 109 (dh P m)) (hPa:∀ en ws dp,PaOK ws (P en ws dp)):ConOK Tryz.prog 102 (Hc P m):=by
 refine bk tt_ok au Tryz.func102 rfl (fun _ _=>by kernel_rfl) (A:=fun ds=>⟨fun _=>Cons.of [(108,(yG P m))],fun _=>none,fun _=>none⟩) (fun _ _=>(af (G8 hP) aq)) (by kernel_rfl) ?_
 intro ds;unfold yJ;split
 ·rename_i ws nx en pa er dp;refine kmp (q:=ac (chA (P en ws dp) skK ws (mR nx pa er)) fun Ea=>aa ws nx->aH ws (mR nx pa er) dp->left ws (mR nx pa er)<m->aa ws nx/\aH ws (mR nx pa er) dp/\left ws (mR nx pa er)<m/\PaOK ws (P en ws dp)/\Ea.fst.k=Ea.fst.k/\Ea.fst.n=Ea.fst.n/\Value.string Ea.fst.s=Value.string Ea.fst.s/\Ea.fst.d.len=Ea.fst.d.len/\ws.rows=ws.rows/\Ea.snd.nx=Ea.snd.nx/\en=en/\Ea.snd.pa=Ea.snd.pa/\Ea.snd.er=Ea.snd.er/\Ea.fst.d.rows=Ea.fst.d.rows) (by kernel_rfl) ?_
  dsimp +instances only [ac]
  intro h hd hl;have hQ:=hPa en ws dp;refine ⟨h,hd,hl,hQ,?_⟩
  (repeat' (with_reducible apply And.intro))<;>first |with_reducible rfl |exact True.intro |assumption |(symm;assumption) |rfl
 ·trivial
noncomputable def yK (P:Int->D->Int->Rd->Xp × Rd) (m:Nat):List Dat->Option (Eff × List Seg):=fun ds=>match ds with
 | [.d ws,.i nx,.i en,.i pa,.i er,.i dp]=>some ({val:=.one (.agg [.c (.int .i64 (.sym ((chA (P en ws dp) pdK ws (mR nx pa er)).1).k)),.c (.int .i64 (.sym ((chA (P en ws dp) pdK ws (mR nx pa er)).1).n)),.c (.raw (.string ((chA (P en ws dp) pdK ws (mR nx pa er)).1).s)),.c (.osl 75 0 (.lit 0) (.sym ((chA (P en ws dp) pdK ws (mR nx pa er)).1).d.len))]),vc:=[aa ws nx,aH ws (mR nx pa er) dp,left ws (mR nx pa er)<m],nw:=[(0,.orow 75 (chA (P en ws dp) pdK ws (mR nx pa er)).1.d)]},[.c (.rows 124 ws),.c (.int .i64 (.sym (((chA (P en ws dp) pdK ws (mR nx pa er)).2).nx))),.c (.int .i64 (.sym en)),.c (.int .i64 (.sym (((chA (P en ws dp) pdK ws (mR nx pa er)).2).pa))),.c (.int .i64 (.sym (((chA (P en ws dp) pdK ws (mR nx pa er)).2).er)))])
 |_=>none
noncomputable def Hg (P:Int->D->Int->Rd->Xp × Rd) (m:Nat):Con:=ba 85 [.c (.rows 124),.c (.int .i64),.c (.int .i64),.c (.int .i64),.c (.int .i64)] [.sc (.int .i64)] (yK P m)
theorem Hh {P:Int->D->Int->Rd->Xp × Rd} {m:Nat} (hP:ConOK Tryz.prog 112 (dh P m)) (hPa:∀ en ws dp,PaOK ws (P en ws dp)):ConOK Tryz.prog 109 (Hg P m):=by
 refine bk tt_ok au Tryz.func109 rfl (fun _ _=>by kernel_rfl) (A:=fun ds=>⟨fun _=>Cons.of [(108,(yI P m))],fun _=>none,fun _=>none⟩) (fun _ _=>(af (G9 hP) aq)) (by kernel_rfl) ?_
 intro ds;unfold yK;split
 ·rename_i ws nx en pa er dp;refine kmp (q:=ac (chA (P en ws dp) pdK ws (mR nx pa er)) fun Ea=>aa ws nx->aH ws (mR nx pa er) dp->left ws (mR nx pa er)<m->aa ws nx/\aH ws (mR nx pa er) dp/\left ws (mR nx pa er)<m/\PaOK ws (P en ws dp)/\Ea.fst.k=Ea.fst.k/\Ea.fst.n=Ea.fst.n/\Value.string Ea.fst.s=Value.string Ea.fst.s/\Ea.fst.d.len=Ea.fst.d.len/\ws.rows=ws.rows/\Ea.snd.nx=Ea.snd.nx/\en=en/\Ea.snd.pa=Ea.snd.pa/\Ea.snd.er=Ea.snd.er/\Ea.fst.d.rows=Ea.fst.d.rows) (by kernel_rfl) ?_
  dsimp +instances only [ac]
  intro h hd hl;have hQ:=hPa en ws dp;refine ⟨h,hd,hl,hQ,?_⟩
  (repeat' (with_reducible apply And.intro))<;>first |with_reducible rfl |exact True.intro |assumption |(symm;assumption) |rfl
 ·trivial
abbrev PF:=Int->D->Int->Rd->Xp × Rd
def prF (P:PF):PF:=fun en ws dp r=>chA (P en ws dp) pdK ws r
def smF (P:PF):PF:=fun en ws dp r=>chA (prF P en ws dp) skK ws r
def miB:ByteArray:=⟨#[45]⟩
def opB:ByteArray:=⟨#[40]⟩
def clB:ByteArray:=⟨#[41]⟩
def fcB (P:PF):PF:=fun en ws dp r=>
 if pkK ws r.nx=2 then (⟨1,nuN ws r,ByteArray.empty,.l []⟩,nuR ws en r)
 else if acB ws r.nx miB=true then (⟨3,0,ByteArray.empty,.l [(P en ws (dp+1) (neR ws en miB dp r)).1.row]⟩,(P en ws (dp+1) (neR ws en miB dp r)).2)
 else if acB ws r.nx opB=true then ((smF P en ws (dp+1) (neR ws en opB dp r)).1,exR ws en clB (smF P en ws (dp+1) (neR ws en opB dp r)).2)
 else (⟨2,0,nmS ws r,.l []⟩,nmR ws en r)
theorem mI {ws:D} {en dp:Int} {t:ByteArray} {r:Rd} (h:aa ws r.nx) (ht:0<t.size) (ha:acB ws r.nx t=true):aa ws (neR ws en t dp r).nx/\left ws (neR ws en t dp r)<left ws r/\r.nx<=(neR ws en t dp r).nx:=by
 have hl:=cK ht ha;obtain ⟨a,b,c⟩:=h;have key:(neR ws en t dp r).nx=ws.len ∨ (neR ws en t dp r).nx=r.nx+1:=by
  unfold neR;split
  ·left
   unfold fl
   split<;>rfl
  ·right
   rw[fZ ha];rfl
 have hr:aa ws (neR ws en t dp r).nx/\r.nx<(neR ws en t dp r).nx:=by
  rcases key with k |k<;>rw[k]<;>exact ⟨⟨by omega,by omega,c⟩,by omega⟩
 refine ⟨hr.1,?_,Int.le_of_lt hr.2⟩;have:=hr.1.2.1;unfold left;omega
theorem etR (r:Rd):mR r.nx r.pa r.er=r:=rfl
theorem yL {P:PF} {m:Nat} (hP:ConOK Tryz.prog 112 (dh P m)) (hPa:∀ en ws dp,PaOK ws (P en ws dp)):ConOK Tryz.prog 102 (dh (smF P) m):=
 Hf (P:=prF P) (m:=m) (Hh (P:=P) (m:=m) hP hPa) (fun en ws dp=>mH (hPa en ws dp) kG)
theorem sy {P:PF} (hPa:∀ en ws dp,PaOK ws (P en ws dp)) (en:Int) (ws:D) (dp:Int):PaOK ws (smF P en ws dp):=mH (mH (hPa en ws dp) kG) o7
noncomputable def yM (P:PF) (m:Nat):List Dat->Option (Eff × List Seg):=fun ds=>match ds with
 | [.d ws,.i nx,.i en,.i pa,.i er,.i dp]=>some ({val:=.one (.agg [.c (.int .i64 (.sym ((fcB P en ws dp (mR nx pa er)).1).k)),.c (.int .i64 (.sym ((fcB P en ws dp (mR nx pa er)).1).n)),.c (.raw (.string ((fcB P en ws dp (mR nx pa er)).1).s)),.c (.osl 75 0 (.lit 0) (.sym ((fcB P en ws dp (mR nx pa er)).1).d.len))]),vc:=[aa ws nx,aH ws (mR nx pa er) dp,left ws (mR nx pa er)<m+1],nw:=[(0,.orow 75 (fcB P en ws dp (mR nx pa er)).1.d)]},[.c (.rows 124 ws),.c (.int .i64 (.sym (((fcB P en ws dp (mR nx pa er)).2).nx))),.c (.int .i64 (.sym en)),.c (.int .i64 (.sym (((fcB P en ws dp (mR nx pa er)).2).pa))),.c (.int .i64 (.sym (((fcB P en ws dp (mR nx pa er)).2).er)))])
 |_=>none
noncomputable def Hi (P:PF) (m:Nat):Con:=ba 85 [.c (.rows 124),.c (.int .i64),.c (.int .i64),.c (.int .i64),.c (.int .i64)] [.sc (.int .i64)] (yM P m)
theorem Hj {P:PF} {m:Nat} (hP:ConOK Tryz.prog 112 (dh P m)) (hPa:∀ en ws dp,PaOK ws (P en ws dp)):ConOK Tryz.prog 112 (Hi P m):=by
 refine bk tt_ok au Tryz.func112 rfl (fun _ _=>by kernel_rfl) (A:=fun ds=>⟨fun _=>Cons.of [(76,eD),(79,o6),(107,sp),(112,(dh P m)),(102,(dh (smF P) m)),(80,dy),(77,f9)],fun _=>none,fun _=>none⟩) (fun _ _=>(af eT (af sr (af yo (af hP (af (yL hP hPa) (af dJ (af gD aq)))))))) (by kernel_rfl) ?_
 intro ds;unfold yM;split
 ·rename_i ws nx en pa er dp;refine kmp (q:=ac (fcB P en ws dp (mR nx pa er)) fun Ea=>ac (P en ws (IntKind.i64.wrap (dp+1)) (neR ws en miB dp (mR nx pa er))) fun Eb=>ac (smF P en ws (IntKind.i64.wrap (dp+1)) (neR ws en opB dp (mR nx pa er))) fun Ec=>ac (neR ws en miB dp (mR nx pa er)) fun Ed=>ac (neR ws en opB dp (mR nx pa er)) fun Ee=>aa ws nx->aH ws (mR nx pa er) dp->left ws (mR nx pa er)<m+1->aa ws nx/\((pkK ws nx==(2:Int))=true->aa ws nx/\(1:Int)=Ea.fst.k/\nuN ws (mR nx pa er)=Ea.fst.n/\Value.string ByteArray.empty=Value.string Ea.fst.s/\Ea.fst.d.len=0/\ws.rows=ws.rows/\(nuR ws en (mR nx pa er)).nx=Ea.snd.nx/\en=en/\(nuR ws en (mR nx pa er)).pa=Ea.snd.pa/\(nuR ws en (mR nx pa er)).er=Ea.snd.er/\Ea.fst.d.rows=[])/\((pkK ws nx==(2:Int))=false->(((pkS ws nx).toList==miB.toList)=true->aa ws nx/\0<miB.size/\aa ws Ed.nx/\aH ws Ed (IntKind.i64.wrap (dp+1))/\left ws Ed<m/\0+Eb.fst.d.len<=Eb.fst.d.len/\(3:Int)=Ea.fst.k/\(0:Int)=Ea.fst.n/\Value.string ByteArray.empty=Value.string Ea.fst.s/\1=Ea.fst.d.len/\ws.rows=ws.rows/\Eb.snd.nx=Ea.snd.nx/\en=en/\Eb.snd.pa=Ea.snd.pa/\Eb.snd.er=Ea.snd.er /\ [[D.i Eb.fst.k,D.i Eb.fst.n,D.s Eb.fst.s,Eb.fst.d.sub 0 ((0:Nat)+Eb.fst.d.len)]]=Ea.fst.d.rows)/\(((pkS ws nx).toList==miB.toList)=false->(((pkS ws nx).toList==opB.toList)=true->aa ws nx/\0<opB.size/\aa ws Ee.nx/\aH ws Ee (IntKind.i64.wrap (dp+1))/\left ws Ee<m/\aa ws Ec.snd.nx/\0<clB.size/\Ec.fst.k=Ea.fst.k/\Ec.fst.n=Ea.fst.n/\Value.string Ec.fst.s=Value.string Ea.fst.s/\Ec.fst.d.len=Ea.fst.d.len/\ws.rows=ws.rows/\(exR ws en clB Ec.snd).nx=Ea.snd.nx/\en=en/\(exR ws en clB Ec.snd).pa=Ea.snd.pa/\(exR ws en clB Ec.snd).er=Ea.snd.er/\Ec.fst.d.rows=Ea.fst.d.rows)/\(((pkS ws nx).toList==opB.toList)=false->aa ws nx/\(2:Int)=Ea.fst.k/\(0:Int)=Ea.fst.n/\Value.string (nmS ws (mR nx pa er))=Value.string Ea.fst.s/\Ea.fst.d.len=0/\ws.rows=ws.rows/\(nmR ws en (mR nx pa er)).nx=Ea.snd.nx/\en=en/\(nmR ws en (mR nx pa er)).pa=Ea.snd.pa/\(nmR ws en (mR nx pa er)).er=Ea.snd.er/\Ea.fst.d.rows=[])))) (by kernel_rfl) ?_
  dsimp +instances only [ac]
  intro h hd hl;have e1:IntKind.i64.wrap (dp+1)=dp+1:=by
   have:=hd.1;have:=hd.2;rw[IntWalk.i64_in _ (by omega)]
  simp only[etR,e1,bu];refine ⟨h,fun hk=>?_,fun hk=>⟨fun hm=>?_,fun hm=>⟨fun ho=>?_,fun ho=>?_⟩⟩⟩
  ·have hk:pkK ws nx=2:=by simpa using hk
   have e:fcB P en ws dp (mR nx pa er)=(⟨1,nuN ws (mR nx pa er),ByteArray.empty,.l []⟩,nuR ws en (mR nx pa er)):=if_pos hk;rw[e]
   (repeat' (with_reducible apply And.intro))<;>first |with_reducible rfl |exact True.intro |assumption |(symm;assumption) |rfl
  ·have hk:pkK ws nx≠2:=by simpa using hk
   have hm:acB ws nx miB=true:=hm;obtain ⟨n1,n2,n3⟩:=mI (r:=mR nx pa er) (en:=en) (dp:=dp) h (show 0<miB.size by decide) hm;have e:fcB P en ws dp (mR nx pa er)=(⟨3,0,ByteArray.empty,.l [(P en ws (dp+1) (neR ws en miB dp (mR nx pa er))).1.row]⟩,(P en ws (dp+1) (neR ws en miB dp (mR nx pa er))).2):=(if_neg hk).trans (if_pos hm);rw[e];have d1:aH ws (neR ws en miB dp (mR nx pa er)) (dp+1):=⟨by have:=hd.1;omega,by have:=hd.2;omega⟩;have l1:left ws (neR ws en miB dp (mR nx pa er))<m:=by omega
   exact ⟨h,(by decide),n1,d1,l1,(by omega),(by (repeat' (with_reducible apply And.intro))<;>first |with_reducible rfl |exact True.intro |assumption |(symm;assumption) |rfl)⟩
  ·have hk:pkK ws nx≠2:=by simpa using hk
   have hm:¬ acB ws nx miB=true:=by rw[show acB ws nx miB=false from hm];decide
   have ho:acB ws nx opB=true:=ho;obtain ⟨n1,n2,n3⟩:=mI (r:=mR nx pa er) (en:=en) (dp:=dp) h (show 0<opB.size by decide) ho;have e:fcB P en ws dp (mR nx pa er)=((smF P en ws (dp+1) (neR ws en opB dp (mR nx pa er))).1,exR ws en clB (smF P en ws (dp+1) (neR ws en opB dp (mR nx pa er))).2):=(if_neg hk).trans ((if_neg hm).trans (if_pos ho));rw[e];have d1:aH ws (neR ws en opB dp (mR nx pa er)) (dp+1):=⟨by have:=hd.1;omega,by have:=hd.2;omega⟩;have l1:left ws (neR ws en opB dp (mR nx pa er))<m:=by omega
   have u:=(sy hPa en ws (dp+1)).up _ n1;exact ⟨h,(by decide),n1,d1,l1,u.2.1,(by decide),(by (repeat' (with_reducible apply And.intro))<;>first |with_reducible rfl |exact True.intro |assumption |(symm;assumption) |rfl)⟩
  ·have hk:pkK ws nx≠2:=by simpa using hk
   have hm:¬ acB ws nx miB=true:=by rw[show acB ws nx miB=false from hm];decide
   have ho:¬ acB ws nx opB=true:=by rw[show acB ws nx opB=false from ho];decide
   have e:fcB P en ws dp (mR nx pa er)=(⟨2,0,nmS ws (mR nx pa er),.l []⟩,nmR ws en (mR nx pa er)):=(if_neg hk).trans ((if_neg hm).trans (if_neg ho));rw[e]
   (repeat' (with_reducible apply And.intro))<;>first |with_reducible rfl |exact True.intro |assumption |(symm;assumption) |rfl
 ·trivial
theorem yN (ws:D) (en e:Int) (r:Rd):(fl ws en e r).nx=ws.len:=by
 unfold fl
 split<;>rfl
theorem kH {ws:D} (en e:Int) {r:Rd} (h:aa ws r.nx):aa ws (fl ws en e r).nx/\r.nx<=(fl ws en e r).nx:=by
 obtain ⟨a,b,c⟩:=h;rw[yN];exact ⟨⟨by omega,by omega,c⟩,b⟩
theorem bx {ws:D} {r:Rd} (h:aa ws r.nx) (hl:r.nx<ws.len):aa ws (gx r).nx/\r.nx<=(gx r).nx:=by
 have e5:(gx r).nx=r.nx+1:=rfl;exact ⟨(c9 h hl).1,by omega⟩
theorem a9 {ws:D} (en:Int) {t:ByteArray} {r:Rd} (h:aa ws r.nx) (ht:0<t.size):aa ws (exR ws en t r).nx/\r.nx<=(exR ws en t r).nx:=by
 cases ha:acB ws r.nx t with
 |true=>
  rw[fZ ha];exact bx h (cK ht ha)
 |false=>
  rw[im ha];exact kH en 5 h
theorem bT {ws:D} (en:Int) {r:Rd} (h:aa ws r.nx):aa ws (nmR ws en r).nx/\r.nx<=(nmR ws en r).nx:=by
 unfold nmR;split
 ·rename_i hk;exact bx h (kB (by rw[hk];decide))
 ·exact kH en 5 h
theorem jy {ws:D} (en:Int) {r:Rd} (h:aa ws r.nx):aa ws (nuR ws en r).nx/\r.nx<=(nuR ws en r).nx:=by
 unfold nuR;split
 ·rename_i hk;exact bx h (kB (by rw[hk];decide))
 ·exact kH en 5 h
theorem yO {P:PF} (hPa:∀ en ws dp,PaOK ws (P en ws dp)) (en:Int) (ws:D) (dp:Int):PaOK ws (fcB P en ws dp):=⟨fun r h=>by
 unfold fcB;split
 ·have u:=jy en h;exact ⟨u.2,u.1,Nat.zero_le _⟩
 ·split
  ·rename_i hm;obtain ⟨n1,n2,n3⟩:=mI (en:=en) (dp:=dp) h (show 0<miB.size by decide) hm;obtain ⟨u1,u2,u3⟩:=(hPa en ws (dp+1)).up _ n1;exact ⟨Int.le_trans n3 u1,u2,(show 1<=2 by decide)⟩
  ·split
   ·rename_i hm;obtain ⟨n1,n2,n3⟩:=mI (en:=en) (dp:=dp) h (show 0<opB.size by decide) hm;obtain ⟨u1,u2,u3⟩:=(sy hPa en ws (dp+1)).up _ n1;obtain ⟨w1,w2⟩:=a9 en (t:=clB) u2 (by decide);exact ⟨Int.le_trans n3 (Int.le_trans u1 w2),w1,u3⟩
   ·have u:=bT en h;exact ⟨u.2,u.1,Nat.zero_le _⟩⟩
def fcR:Nat->PF
 | 0=>fun _ _ _ r=>(⟨0,0,ByteArray.empty,.l []⟩,r)
 |m+1=>fcB (fcR m)
theorem kI:∀ (m:Nat) (en:Int) (ws:D) (dp:Int),PaOK ws (fcR m en ws dp)
 | 0,_,_,_=>⟨fun _ h=>⟨Int.le_refl _,h,Nat.zero_le _⟩⟩
 |m+1,en,ws,dp=>yO (kI m) en ws dp
theorem Hk {F:PF}:ConOK Tryz.prog 112 (dh F 0):=by
 refine ⟨fun _ _=>by kernel_rfl,fun hp fr args e he hv=>?_,fun hp fr caps e h=>by cases h⟩;exfalso;obtain ⟨ds,e1,sg,ps1,ps2,hs,hvc,_⟩:=oZ he;rw[hvc] at hv;obtain ⟨_,hv⟩:=all_append.1 hv;obtain ⟨_,hv⟩:=all_append.1 hv;unfold yE at hs
 split at hs
 ·simp only[Option.some.injEq,Prod.mk.injEq] at hs;obtain ⟨rfl,rfl⟩:=hs;exact Nat.not_lt_zero _ hv.2.2.1
 ·cases hs
theorem yP:∀ m,ConOK Tryz.prog 112 (dh (fcR m) m)
 | 0=>Hk
 |m+1=>Hj (P:=fcR m) (m:=m) (yP m) (kI m)
theorem Hm (m:Nat):ConOK Tryz.prog 102 (dh (smF (fcR m)) m):=yL (yP m) (kI m)
def smX:PF:=smF (fcR 1000001)
theorem sA:ConOK Tryz.prog 102 (dh smX 1000001):=Hm 1000001
theorem kJ (en:Int) (ws:D) (dp:Int):PaOK ws (smX en ws dp):=sy (kI 1000001) en ws dp
attribute [irreducible] smX
theorem bo {ws:D} {r:Rd} (h:aa ws r.nx):aH ws r 0/\left ws r<1000001:=by
 obtain ⟨a,b,c⟩:=h;unfold aH left;exact ⟨⟨by omega,by omega⟩,by omega⟩
theorem yQ {ws:D} (en:Int) {r:Rd} (h:aa ws r.nx):aa ws (cmR ws en r).nx/\r.nx<=(cmR ws en r).nx:=by
 unfold cmR;split
 ·exact kH en 5 h
 ·rename_i hk;exact bx h (io su hk)
structure Cd where
 op:Int
 l:Xp
 r:Xp
def cdA (ws:D) (en:Int) (r:Rd):Xp × Rd:=smX en ws 0 (exR ws en opB r)
def cdB (ws:D) (en:Int) (r:Rd):Xp × Rd:=smX en ws 0 (cmR ws en (cdA ws en r).2)
def cdC (ws:D) (en:Int) (r:Rd):Cd:=⟨coK (pkS ws (cdA ws en r).2.nx),(cdA ws en r).1,(cdB ws en r).1⟩
def cdR (ws:D) (en:Int) (r:Rd):Rd:=exR ws en clB (cdB ws en r).2
theorem jz {ws:D} (en:Int) {r:Rd} (h:aa ws r.nx):aa ws (exR ws en opB r).nx/\aa ws (cdA ws en r).2.nx/\aa ws (cmR ws en (cdA ws en r).2).nx/\aa ws (cdB ws en r).2.nx/\aa ws (cdR ws en r).nx/\r.nx<=(cdR ws en r).nx:=by
 have a:=a9 en (t:=opB) h (by decide);have b:=(kJ en ws 0).up _ a.1;have c:=yQ en b.2.1;have d:=(kJ en ws 0).up _ c.1;have e:=a9 en (t:=clB) d.2.1 (by decide);exact ⟨a.1,b.2.1,c.1,d.2.1,e.1,Int.le_trans a.2 (Int.le_trans b.1 (Int.le_trans c.2 (Int.le_trans d.1 e.2)))⟩
noncomputable def yR:List Dat->Option (Eff × List Seg):=fun ds=>match ds with
 | [.d ws,.i nx,.i en,.i pa,.i er]=>some ({val:=.one (.agg [.c (.int .i64 (.sym (cdC ws en (mR nx pa er)).op)),.c (.int .i64 (.sym ((cdC ws en (mR nx pa er)).l).k)),.c (.int .i64 (.sym ((cdC ws en (mR nx pa er)).l).n)),.c (.raw (.string ((cdC ws en (mR nx pa er)).l).s)),.c (.osl 75 0 (.lit 0) (.sym ((cdC ws en (mR nx pa er)).l).d.len)),.c (.int .i64 (.sym ((cdC ws en (mR nx pa er)).r).k)),.c (.int .i64 (.sym ((cdC ws en (mR nx pa er)).r).n)),.c (.raw (.string ((cdC ws en (mR nx pa er)).r).s)),.c (.osl 75 1 (.lit 0) (.sym ((cdC ws en (mR nx pa er)).r).d.len))]),vc:=[aa ws nx],nw:=[(0,.orow 75 (cdC ws en (mR nx pa er)).l.d),(1,.orow 75 (cdC ws en (mR nx pa er)).r.d)]},[.c (.rows 124 ws),.c (.int .i64 (.sym ((cdR ws en (mR nx pa er)).nx))),.c (.int .i64 (.sym en)),.c (.int .i64 (.sym ((cdR ws en (mR nx pa er)).pa))),.c (.int .i64 (.sym ((cdR ws en (mR nx pa er)).er)))])
 |_=>none
noncomputable def o8:Con:=ba 85 [.c (.rows 124),.c (.int .i64),.c (.int .i64),.c (.int .i64),.c (.int .i64)] [] yR
theorem sB:ConOK Tryz.prog 100 o8:=by
 refine bk tt_ok au Tryz.func100 rfl (fun _ _=>by kernel_rfl) (A:=fun ds=>⟨fun _=>Cons.of [(102,(dh smX 1000001)),(80,dy),(106,yC)],fun _=>none,fun _=>none⟩) (fun _ _=>(af sA (af dJ (af G6 aq)))) (by kernel_rfl) ?_
 intro ds;unfold yR;split
 ·rename_i ws nx en pa er;refine kmp (q:=ac (smX en ws (0:Int) (exR ws en opB (mR nx pa er))) fun Ea=>ac (smX en ws (0:Int) (cmR ws en Ea.snd)) fun Eb=>ac (cdC ws en (mR nx pa er)) fun Ec=>ac (exR ws en opB (mR nx pa er)) fun Ed=>aa ws nx->aa ws nx/\0<opB.size/\aa ws Ed.nx/\aH ws Ed (0:Int)/\left ws Ed<1000001/\aa ws Ea.snd.nx/\aa ws (cmR ws en Ea.snd).nx/\aH ws (cmR ws en Ea.snd) (0:Int)/\left ws (cmR ws en Ea.snd)<1000001/\aa ws Eb.snd.nx/\0<clB.size/\coK (pkS ws Ea.snd.nx)=Ec.op/\Ea.fst.k=Ec.l.k/\Ea.fst.n=Ec.l.n/\Value.string Ea.fst.s=Value.string Ec.l.s/\Ea.fst.d.len=Ec.l.d.len/\Eb.fst.k=Ec.r.k/\Eb.fst.n=Ec.r.n/\Value.string Eb.fst.s=Value.string Ec.r.s/\Eb.fst.d.len=Ec.r.d.len/\ws.rows=ws.rows/\(exR ws en clB Eb.snd).nx=(cdR ws en (mR nx pa er)).nx/\en=en/\(exR ws en clB Eb.snd).pa=(cdR ws en (mR nx pa er)).pa/\(exR ws en clB Eb.snd).er=(cdR ws en (mR nx pa er)).er/\Ea.fst.d.rows=Ec.l.d.rows/\Eb.fst.d.rows=Ec.r.d.rows) (by kernel_rfl) ?_
  dsimp +instances only [ac]
  intro h;obtain ⟨a,b,c,d,e,f⟩:=jz en (r:=mR nx pa er) h
  try simp only[etR]
  exact ⟨h,(by decide),a,(bo a).1,(bo a).2,b,c,(bo c).1,(bo c).2,d,(by decide),(by (repeat' (with_reducible apply And.intro))<;>first |with_reducible rfl |exact True.intro |assumption |(symm;assumption) |rfl)⟩
 ·trivial
def eqB:ByteArray:=⟨#[61]⟩
def seB:ByteArray:=⟨#[59]⟩
def doB:ByteArray:=⟨#[46]⟩
def kwS:ByteArray:=⟨#[115,101,110,100]⟩
def kwA:ByteArray:=⟨#[97,115,115,101,114,116]⟩
def kwI:ByteArray:=⟨#[105,110,112,117,116]⟩
def asE (ws:D) (en:Int) (r:Rd):Xp × Rd:=smX en ws 0 (exR ws en eqB (nmR ws en r))
def asR (ws:D) (en:Int) (r:Rd):Rd:=exR ws en seB (asE ws en r).2
def snN (ws:D) (en:Int) (r:Rd):Rd:=exR ws en kwS r
def snT (ws:D) (en:Int) (r:Rd):Rd:=exR ws en doB (nmR ws en (snN ws en r))
def snE (ws:D) (en:Int) (r:Rd):Xp × Rd:=smX en ws 0 (exR ws en opB (nmR ws en (snT ws en r)))
def snR (ws:D) (en:Int) (r:Rd):Rd:=exR ws en seB (exR ws en clB (snE ws en r).2)
def atC (ws:D) (en:Int) (r:Rd):Cd:=cdC ws en (exR ws en kwA r)
def atR (ws:D) (en:Int) (r:Rd):Rd:=exR ws en seB (cdR ws en (exR ws en kwA r))
def inR (ws:D) (en:Int) (r:Rd):Rd:=exR ws en seB (nmR ws en (exR ws en kwI r))
noncomputable def yS:List Dat->Option (Eff × List Seg):=fun ds=>match ds with
 | [.d ws,.i nx,.i en,.i pa,.i er]=>some ({val:=.one (.agg [.c (.int .i64 (.sym 1)),.c (.raw (.string (nmS ws (mR nx pa er)))),.c (.raw (.string (ByteArray.empty))),.c (.int .i64 (.sym ((asE ws en (mR nx pa er)).1).k)),.c (.int .i64 (.sym ((asE ws en (mR nx pa er)).1).n)),.c (.raw (.string ((asE ws en (mR nx pa er)).1).s)),.c (.osl 75 0 (.lit 0) (.sym ((asE ws en (mR nx pa er)).1).d.len)),.c (.int .i64 (.sym 0)),.c (.int .i64 (.sym 0)),.c (.int .i64 (.sym 0)),.c (.raw (.string ByteArray.empty)),.c .nils,.c (.int .i64 (.sym 0)),.c (.int .i64 (.sym 0)),.c (.raw (.string ByteArray.empty)),.c .nils,.c .nils,.c .nils,.c .nils]),vc:=[aa ws nx],nw:=[(0,.orow 75 (asE ws en (mR nx pa er)).1.d)]},[.c (.rows 124 ws),.c (.int .i64 (.sym ((asR ws en (mR nx pa er)).nx))),.c (.int .i64 (.sym en)),.c (.int .i64 (.sym ((asR ws en (mR nx pa er)).pa))),.c (.int .i64 (.sym ((asR ws en (mR nx pa er)).er)))])
 |_=>none
noncomputable def yT:Con:=ba 85 [.c (.rows 124),.c (.int .i64),.c (.int .i64),.c (.int .i64),.c (.int .i64)] [] yS
theorem Ho:ConOK Tryz.prog 94 yT:=by
 refine bk tt_ok au Tryz.func94 rfl (fun _ _=>by kernel_rfl) (A:=fun ds=>⟨fun _=>Cons.of [(102,(dh smX 1000001)),(80,dy),(77,f9)],fun _=>none,fun _=>none⟩) (fun _ _=>(af sA (af dJ (af gD aq)))) (by kernel_rfl) ?_
 intro ds;unfold yS;split
 ·rename_i ws nx en pa er;refine kmp (q:=ac (smX en ws (0:Int) (exR ws en eqB (nmR ws en (mR nx pa er)))) fun Ea=>ac (asE ws en (mR nx pa er)) fun Eb=>ac (exR ws en eqB (nmR ws en (mR nx pa er))) fun Ec=>aa ws nx->aa ws nx/\aa ws (nmR ws en (mR nx pa er)).nx/\0<eqB.size/\aa ws Ec.nx/\aH ws Ec (0:Int)/\left ws Ec<1000001/\aa ws Ea.snd.nx/\0<seB.size/\(1:Int)=1/\Value.string (nmS ws (mR nx pa er))=Value.string (nmS ws (mR nx pa er))/\Value.string ByteArray.empty=Value.string ByteArray.empty/\Ea.fst.k=Eb.fst.k/\Ea.fst.n=Eb.fst.n/\Value.string Ea.fst.s=Value.string Eb.fst.s/\Ea.fst.d.len=Eb.fst.d.len/\(0:Int)=0/\(0:Int)=0/\(0:Int)=0/\Value.string ByteArray.empty=Value.string ByteArray.empty/\(0:Int)=0/\(0:Int)=0/\Value.string ByteArray.empty=Value.string ByteArray.empty/\ws.rows=ws.rows/\(exR ws en seB Ea.snd).nx=(asR ws en (mR nx pa er)).nx/\en=en/\(exR ws en seB Ea.snd).pa=(asR ws en (mR nx pa er)).pa/\(exR ws en seB Ea.snd).er=(asR ws en (mR nx pa er)).er/\Ea.fst.d.rows=Eb.fst.d.rows) (by kernel_rfl) ?_
  dsimp +instances only [ac]
  intro h;have a:=(bT en (r:=mR nx pa er) h).1;have b:=(a9 en (t:=eqB) a (by decide)).1;have c:=((kJ en ws 0).up _ b).2.1
  try simp only[etR]
  (repeat' (with_reducible apply And.intro))<;>first |with_reducible rfl |exact True.intro |assumption |exact (bo (by assumption)).1 |exact (bo (by assumption)).2 |decide |rfl
 ·trivial
noncomputable def yU:List Dat->Option (Eff × List Seg):=fun ds=>match ds with
 | [.d ws,.i nx,.i en,.i pa,.i er]=>some ({val:=.one (.agg [.c (.int .i64 (.sym 6)),.c (.raw (.string (ByteArray.empty))),.c (.raw (.string (ByteArray.empty))),.c (.int .i64 (.sym 0)),.c (.int .i64 (.sym 0)),.c (.raw (.string ByteArray.empty)),.c .nils,.c (.int .i64 (.sym (atC ws en (mR nx pa er)).op)),.c (.int .i64 (.sym ((atC ws en (mR nx pa er)).l).k)),.c (.int .i64 (.sym ((atC ws en (mR nx pa er)).l).n)),.c (.raw (.string ((atC ws en (mR nx pa er)).l).s)),.c (.osl 75 0 (.lit 0) (.sym ((atC ws en (mR nx pa er)).l).d.len)),.c (.int .i64 (.sym ((atC ws en (mR nx pa er)).r).k)),.c (.int .i64 (.sym ((atC ws en (mR nx pa er)).r).n)),.c (.raw (.string ((atC ws en (mR nx pa er)).r).s)),.c (.osl 75 1 (.lit 0) (.sym ((atC ws en (mR nx pa er)).r).d.len)),.c .nils,.c .nils,.c .nils]),vc:=[aa ws nx],nw:=[(0,.orow 75 (atC ws en (mR nx pa er)).l.d),(1,.orow 75 (atC ws en (mR nx pa er)).r.d)]},[.c (.rows 124 ws),.c (.int .i64 (.sym ((atR ws en (mR nx pa er)).nx))),.c (.int .i64 (.sym en)),.c (.int .i64 (.sym ((atR ws en (mR nx pa er)).pa))),.c (.int .i64 (.sym ((atR ws en (mR nx pa er)).er)))])
 |_=>none
noncomputable def yV:Con:=ba 85 [.c (.rows 124),.c (.int .i64),.c (.int .i64),.c (.int .i64),.c (.int .i64)] [] yU
theorem Hp:ConOK Tryz.prog 92 yV:=by
 refine bk tt_ok au Tryz.func92 rfl (fun _ _=>by kernel_rfl) (A:=fun ds=>⟨fun _=>Cons.of [(100,o8),(80,dy)],fun _=>none,fun _=>none⟩) (fun _ _=>(af sB (af dJ aq))) (by kernel_rfl) ?_
 intro ds;unfold yU;split
 ·rename_i ws nx en pa er;refine kmp (q:=ac (exR ws en kwA (mR nx pa er)) fun Ea=>ac (atC ws en (mR nx pa er)) fun Eb=>ac (exR ws en seB (cdR ws en Ea)) fun Ec=>aa ws nx->aa ws nx/\0<kwA.size/\aa ws Ea.nx/\aa ws (cdR ws en Ea).nx/\0<seB.size/\(6:Int)=6/\Value.string ByteArray.empty=Value.string ByteArray.empty/\Value.string ByteArray.empty=Value.string ByteArray.empty/\(0:Int)=0/\(0:Int)=0/\Value.string ByteArray.empty=Value.string ByteArray.empty/\(cdC ws en Ea).op=Eb.op/\(cdC ws en Ea).l.k=Eb.l.k/\(cdC ws en Ea).l.n=Eb.l.n/\Value.string (cdC ws en Ea).l.s=Value.string Eb.l.s/\(cdC ws en Ea).l.d.len=Eb.l.d.len/\(cdC ws en Ea).r.k=Eb.r.k/\(cdC ws en Ea).r.n=Eb.r.n/\Value.string (cdC ws en Ea).r.s=Value.string Eb.r.s/\(cdC ws en Ea).r.d.len=Eb.r.d.len/\ws.rows=ws.rows/\Ec.nx=(atR ws en (mR nx pa er)).nx/\en=en/\Ec.pa=(atR ws en (mR nx pa er)).pa/\Ec.er=(atR ws en (mR nx pa er)).er/\(cdC ws en Ea).l.d.rows=Eb.l.d.rows/\(cdC ws en Ea).r.d.rows=Eb.r.d.rows) (by kernel_rfl) ?_
  dsimp +instances only [ac]
  intro h;have a1:=(a9 en (t:=kwA) (r:=mR nx pa er) h (by decide)).1;obtain ⟨_,_,_,_,a2,_⟩:=jz en a1
  try simp only[etR]
  (repeat' (with_reducible apply And.intro))<;>first |with_reducible rfl |exact True.intro |assumption |exact (bo (by assumption)).1 |exact (bo (by assumption)).2 |decide |rfl
 ·trivial
noncomputable def yW:List Dat->Option (Eff × List Seg):=fun ds=>match ds with
 | [.d ws,.i nx,.i en,.i pa,.i er]=>some ({val:=.one (.agg [.c (.int .i64 (.sym 7)),.c (.raw (.string (nmS ws (exR ws en kwI (mR nx pa er))))),.c (.raw (.string (ByteArray.empty))),.c (.int .i64 (.sym 0)),.c (.int .i64 (.sym 0)),.c (.raw (.string ByteArray.empty)),.c .nils,.c (.int .i64 (.sym 0)),.c (.int .i64 (.sym 0)),.c (.int .i64 (.sym 0)),.c (.raw (.string ByteArray.empty)),.c .nils,.c (.int .i64 (.sym 0)),.c (.int .i64 (.sym 0)),.c (.raw (.string ByteArray.empty)),.c .nils,.c .nils,.c .nils,.c .nils]),vc:=[aa ws nx]},[.c (.rows 124 ws),.c (.int .i64 (.sym ((inR ws en (mR nx pa er)).nx))),.c (.int .i64 (.sym en)),.c (.int .i64 (.sym ((inR ws en (mR nx pa er)).pa))),.c (.int .i64 (.sym ((inR ws en (mR nx pa er)).er)))])
 |_=>none
noncomputable def yX:Con:=ba 85 [.c (.rows 124),.c (.int .i64),.c (.int .i64),.c (.int .i64),.c (.int .i64)] [] yW
theorem Hq:ConOK Tryz.prog 93 yX:=by
 refine bk tt_ok au Tryz.func93 rfl (fun _ _=>by kernel_rfl) (A:=fun ds=>⟨fun _=>Cons.of [(77,f9),(80,dy)],fun _=>none,fun _=>none⟩) (fun _ _=>(af gD (af dJ aq))) (by kernel_rfl) ?_
 intro ds;unfold yW;split
 ·rename_i ws nx en pa er;refine kmp (q:=ac (exR ws en kwI (mR nx pa er)) fun Ea=>ac (exR ws en seB (nmR ws en Ea)) fun Eb=>aa ws nx->aa ws nx/\0<kwI.size/\aa ws Ea.nx/\aa ws (nmR ws en Ea).nx/\0<seB.size/\(7:Int)=7/\Value.string (nmS ws Ea)=Value.string (nmS ws Ea)/\Value.string ByteArray.empty=Value.string ByteArray.empty/\(0:Int)=0/\(0:Int)=0/\Value.string ByteArray.empty=Value.string ByteArray.empty/\(0:Int)=0/\(0:Int)=0/\(0:Int)=0/\Value.string ByteArray.empty=Value.string ByteArray.empty/\(0:Int)=0/\(0:Int)=0/\Value.string ByteArray.empty=Value.string ByteArray.empty/\ws.rows=ws.rows/\Eb.nx=(inR ws en (mR nx pa er)).nx/\en=en/\Eb.pa=(inR ws en (mR nx pa er)).pa/\Eb.er=(inR ws en (mR nx pa er)).er) (by kernel_rfl) ?_
  dsimp +instances only [ac]
  intro h;have a1:=(a9 en (t:=kwI) (r:=mR nx pa er) h (by decide)).1;have a2:=(bT en a1).1
  try simp only[etR]
  (repeat' (with_reducible apply And.intro))<;>first |with_reducible rfl |exact True.intro |assumption |exact (bo (by assumption)).1 |exact (bo (by assumption)).2 |decide |rfl
 ·trivial
noncomputable def yY:List Dat->Option (Eff × List Seg):=fun ds=>match ds with
 | [.d ws,.i nx,.i en,.i pa,.i er]=>some ({val:=.one (.agg [.c (.int .i64 (.sym 4)),.c (.raw (.string (nmS ws (snN ws en (mR nx pa er))))),.c (.raw (.string (nmS ws (snT ws en (mR nx pa er))))),.c (.int .i64 (.sym ((snE ws en (mR nx pa er)).1).k)),.c (.int .i64 (.sym ((snE ws en (mR nx pa er)).1).n)),.c (.raw (.string ((snE ws en (mR nx pa er)).1).s)),.c (.osl 75 0 (.lit 0) (.sym ((snE ws en (mR nx pa er)).1).d.len)),.c (.int .i64 (.sym 0)),.c (.int .i64 (.sym 0)),.c (.int .i64 (.sym 0)),.c (.raw (.string ByteArray.empty)),.c .nils,.c (.int .i64 (.sym 0)),.c (.int .i64 (.sym 0)),.c (.raw (.string ByteArray.empty)),.c .nils,.c .nils,.c .nils,.c .nils]),vc:=[aa ws nx],nw:=[(0,.orow 75 (snE ws en (mR nx pa er)).1.d)]},[.c (.rows 124 ws),.c (.int .i64 (.sym ((snR ws en (mR nx pa er)).nx))),.c (.int .i64 (.sym en)),.c (.int .i64 (.sym ((snR ws en (mR nx pa er)).pa))),.c (.int .i64 (.sym ((snR ws en (mR nx pa er)).er)))])
 |_=>none
noncomputable def yZ:Con:=ba 85 [.c (.rows 124),.c (.int .i64),.c (.int .i64),.c (.int .i64),.c (.int .i64)] [] yY
theorem Hr:ConOK Tryz.prog 90 yZ:=by
 refine bk tt_ok au Tryz.func90 rfl (fun _ _=>by kernel_rfl) (A:=fun ds=>⟨fun _=>Cons.of [(102,(dh smX 1000001)),(80,dy),(77,f9)],fun _=>none,fun _=>none⟩) (fun _ _=>(af sA (af dJ (af gD aq)))) (by kernel_rfl) ?_
 intro ds;unfold yY;split
 ·rename_i ws nx en pa er;refine kmp (q:=ac (exR ws en (ByteArray.mk #[40]) (nmR ws en (exR ws en (ByteArray.mk #[46]) (nmR ws en (exR ws en (ByteArray.mk #[115,101,110,100]) (mR nx pa er)))))) fun Ea=>ac (exR ws en (ByteArray.mk #[115,101,110,100]) (mR nx pa er)) fun Eb=>ac (smX en ws (0:Int) (exR ws en (ByteArray.mk #[40]) (nmR ws en (exR ws en (ByteArray.mk #[46]) (nmR ws en (exR ws en {data:=#[(115:UInt8),(101:UInt8),(110:UInt8),(100:UInt8)]} (mR nx pa er))))))) fun Ec=>ac (smX en ws (0:Int) Ea) fun Ed=>ac (exR ws en (ByteArray.mk #[46]) (nmR ws en Eb)) fun Ee=>ac (exR ws en (ByteArray.mk #[59]) (exR ws en (ByteArray.mk #[41]) Ec.snd)) fun Ef=>ac (snE ws en (mR nx pa er)) fun Eg=>aa ws nx->aa ws nx/\0<(ByteArray.mk #[115,101,110,100]).size/\aa ws Eb.nx/\aa ws (nmR ws en Eb).nx/\0<(ByteArray.mk #[46]).size/\aa ws Ee.nx/\aa ws (nmR ws en Ee).nx/\0<(ByteArray.mk #[40]).size/\aa ws Ea.nx/\aH ws Ea (0:Int)/\left ws Ea<1000001/\aa ws Ed.snd.nx/\0<(ByteArray.mk #[41]).size/\aa ws (exR ws en (ByteArray.mk #[41]) Ed.snd).nx/\0<(ByteArray.mk #[59]).size/\(4:Int)=4/\Value.string (nmS ws Eb)=Value.string (nmS ws (snN ws en (mR nx pa er)))/\Value.string (nmS ws Ee)=Value.string (nmS ws (snT ws en (mR nx pa er)))/\Ed.fst.k=Eg.fst.k/\Ed.fst.n=Eg.fst.n/\Value.string Ed.fst.s=Value.string Eg.fst.s/\Ed.fst.d.len=Eg.fst.d.len/\(0:Int)=0/\(0:Int)=0/\(0:Int)=0/\Value.string ByteArray.empty=Value.string ByteArray.empty/\(0:Int)=0/\(0:Int)=0/\Value.string ByteArray.empty=Value.string ByteArray.empty/\ws.rows=ws.rows/\(exR ws en (ByteArray.mk #[59]) (exR ws en (ByteArray.mk #[41]) Ed.snd)).nx=(snR ws en (mR nx pa er)).nx/\en=en/\Ef.pa=(snR ws en (mR nx pa er)).pa/\Ef.er=(snR ws en (mR nx pa er)).er/\Ec.fst.d.rows=Eg.fst.d.rows) (by kernel_rfl) ?_
  dsimp +instances only [ac]
  intro h;have a1:=(a9 en (t:=kwS) (r:=mR nx pa er) h (by decide)).1;have a2:=(bT en a1).1;have a3:=(a9 en (t:=doB) a2 (by decide)).1;have a4:=(bT en a3).1;have a5:=(a9 en (t:=opB) a4 (by decide)).1;have a6:=((kJ en ws 0).up _ a5).2.1;have a7:=(a9 en (t:=clB) a6 (by decide)).1
  (repeat' (with_reducible apply And.intro))<;>first |with_reducible rfl |exact True.intro |assumption |exact (bo (by assumption)).1 |exact (bo (by assumption)).2 |decide |rfl
 ·trivial
end Go.Proofs.YtbhbjhejkamlnaaGreat.Sx.Z
