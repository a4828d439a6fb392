import Derived.Test.YtbhbjhejkamlnaaGreatZu17
set_option linter.unusedVariables false
set_option linter.unusedSimpArgs false
namespace Go.Proofs.YtbhbjhejkamlnaaGreat.Sx.Z
open Go.RowKit
def isFn (n:Nat) (v:Value):Bool:=match v with
 | .func (.func m) a b=>Nat.beq m n&&Nat.beq a.size 0&&Nat.beq b.size 0
 |_=>false
theorem isFn_eq {n:Nat} {v:Value} (h:isFn n v=true):v = .func (.func n) #[] #[]:=by
 unfold isFn at h
 split at h
 ·rename_i m a b;simp only [Bool.and_eq_true] at h;obtain ⟨⟨h1,h2⟩,h3⟩:=h;rw [Nat.eq_of_beq_eq_true h1,Array.eq_empty_of_size_eq_zero (Nat.eq_of_beq_eq_true h2),Array.eq_empty_of_size_eq_zero (Nat.eq_of_beq_eq_true h3)]
 ·cases h
structure Xp where
 k:Int
 n:Int
 s:ByteArray
 d:D
def Xp.row (x:Xp):List D:=[.i x.k,.i x.n,.s x.s,.l x.d.rows]
def X2 (k:Int) (a b:Xp):Xp:=⟨k,0,ByteArray.empty,.l [a.row,b.row]⟩
def left (ws:D) (r:Rd):Nat:=ws.len-r.nx.toNat
def chL (P:Rd->Xp × Rd) (K:ByteArray->Int) (ws:D):Nat->Xp->Rd->Xp × Rd
 | 0,x,r=>(x,r)
 |m+1,x,r=>if K (pkS ws r.nx)=0 then (x,r) else chL P K ws m (X2 (K (pkS ws r.nx)) x (P (gx r)).1) (P (gx r)).2
def chA (P:Rd->Xp × Rd) (K:ByteArray->Int) (ws:D) (r:Rd):Xp × Rd:=chL P K ws (left ws (P r).2) (P r).1 (P r).2
def dpOK (ws:D) (r:Rd) (dp:Int):Prop:=0<=dp/\dp+(left ws r:Int)<=2000000
structure PaOK (ws:D) (P:Rd->Xp × Rd):Prop where
 up:∀ r,rdOK ws r.nx->r.nx<=(P r).2.nx/\rdOK ws (P r).2.nx/\(P r).1.d.len<=2
theorem subAll (d:D):d.sub 0 (0+d.len) = .l d.rows:=by
 show D.l ((d.rows.take (0+d.rows.length)).drop 0)=_;rw [Nat.zero_add,List.take_length,List.drop_zero]
theorem chL_end {P:Rd->Xp × Rd} {K:ByteArray->Int} {ws:D} {x:Xp} {r:Rd} (h:K (pkS ws r.nx)=0):∀ m,chL P K ws m x r=(x,r)
 | 0=>rfl
 |m+1=>if_pos h
theorem gx_ok {ws:D} {r:Rd} (h:rdOK ws r.nx) (hl:r.nx<ws.len):rdOK ws (gx r).nx/\left ws r=left ws (gx r)+1:=by
 obtain ⟨a,b,c⟩:=h;have e:(gx r).nx=r.nx+1:=rfl;unfold left rdOK;rw [e];exact ⟨⟨by omega,by omega,c⟩,by omega⟩
theorem left_le {ws:D} {r q:Rd} (h:r.nx<=q.nx):left ws q<=left ws r:=by unfold left;omega
theorem chL_fuel {P:Rd->Xp × Rd} {K:ByteArray->Int} {ws:D} (hP:PaOK ws P) (he:K ByteArray.empty=0):∀ (n:Nat) (r:Rd) (x:Xp),rdOK ws r.nx->left ws r<=n->chL P K ws n x r=chL P K ws (left ws r) x r:=by
 intro n
 induction n using Nat.strongRecOn with
 |ind n ih=>
  intro r x h hl
  by_cases hk:K (pkS ws r.nx)=0
  ·rw [chL_end hk,chL_end hk]
  ·obtain ⟨g1,g2⟩:=gx_ok h (pk_of he hk);obtain ⟨u1,u2,_⟩:=hP.up (gx r) g1;have u3:=left_le (ws:=ws) u1
   cases n with
   |zero=>omega
   |succ k=>
    rw [g2,chL,if_neg hk,chL,if_neg hk,ih k (by omega) _ _ u2 (by omega),ih (left ws (gx r)) (by omega) _ _ u2 u3]
theorem chL_step {P:Rd->Xp × Rd} {K:ByteArray->Int} {ws:D} (hP:PaOK ws P) (he:K ByteArray.empty=0) {r:Rd} (x:Xp) (h:rdOK ws r.nx) (hk:K (pkS ws r.nx)≠0):chL P K ws (left ws (P (gx r)).2) (X2 (K (pkS ws r.nx)) x (P (gx r)).1) (P (gx r)).2=chL P K ws (left ws r) x r:=by
 obtain ⟨g1,g2⟩:=gx_ok h (pk_of he hk);obtain ⟨u1,u2,_⟩:=hP.up (gx r) g1;rw [g2,chL,if_neg hk,chL_fuel hP he (left ws (gx r)) _ _ u2 (left_le u1)]
theorem chL_up {P:Rd->Xp × Rd} {K:ByteArray->Int} {ws:D} (hP:PaOK ws P) (he:K ByteArray.empty=0):∀ (m:Nat) (x:Xp) (r:Rd),rdOK ws r.nx->x.d.len<=2->r.nx<=(chL P K ws m x r).2.nx/\rdOK ws (chL P K ws m x r).2.nx/\(chL P K ws m x r).1.d.len<=2
 | 0,x,r,h,hx=>⟨Int.le_refl _,h,hx⟩
 |m+1,x,r,h,hx=>by
  by_cases hk:K (pkS ws r.nx)=0
  ·rw [chL_end hk];exact ⟨Int.le_refl _,h,hx⟩
  ·obtain ⟨g1,g2⟩:=gx_ok h (pk_of he hk);obtain ⟨u1,u2,u3⟩:=hP.up (gx r) g1;rw [chL,if_neg hk];obtain ⟨w1,w2,w3⟩:=chL_up hP he m (X2 (K (pkS ws r.nx)) x (P (gx r)).1) (P (gx r)).2 u2 (Nat.le_refl _);have e5:(gx r).nx=r.nx+1:=rfl;exact ⟨by omega,w2,w3⟩
theorem chA_up {P:Rd->Xp × Rd} {K:ByteArray->Int} {ws:D} (hP:PaOK ws P) (he:K ByteArray.empty=0):PaOK ws (chA P K ws):=⟨fun r h=>by
 obtain ⟨u1,u2,u3⟩:=hP.up r h;obtain ⟨w1,w2,w3⟩:=chL_up hP he (left ws (P r).2) (P r).1 (P r).2 u2 u3;exact ⟨Int.le_trans u1 w1,w2,w3⟩⟩
noncomputable def partS (P:Int->D->Int->Rd->Xp × Rd) (m:Nat):List Dat->Option (Eff × List Seg):=fun ds=>match ds with
 | [.d ws,.i nx,.i en,.i pa,.i er,.i dp]=>some ({val:=.one (.agg [.c (.int .i64 (.sym ((P en ws dp (mR nx pa er)).1).k)),.c (.int .i64 (.sym ((P en ws dp (mR nx pa er)).1).n)),.c (.raw (.string ((P en ws dp (mR nx pa er)).1).s)),.c (.osl 75 0 (.lit 0) (.sym ((P en ws dp (mR nx pa er)).1).d.len))]),vc:=[rdOK ws nx,dpOK ws (mR nx pa er) dp,left ws (mR nx pa er)<m],nw:=[(0,.orow 75 (P en ws dp (mR nx pa er)).1.d)]},[.c (.rows 124 ws),.c (.int .i64 (.sym ((((P en ws dp (mR nx pa er)).2)).nx))),.c (.int .i64 (.sym en)),.c (.int .i64 (.sym ((((P en ws dp (mR nx pa er)).2)).pa))),.c (.int .i64 (.sym ((((P en ws dp (mR nx pa er)).2)).er)))])
 |_=>none
noncomputable def partC (P:Int->D->Int->Rd->Xp × Rd) (m:Nat):Con:=conM 85 [.c (.rows 124),.c (.int .i64),.c (.int .i64),.c (.int .i64),.c (.int .i64)] [.sc (.int .i64)] (partS P m)
noncomputable def chSS (P:Int->D->Int->Rd->Xp × Rd) (m:Nat):List Dat->Option (Eff × List Seg):=fun ds=>match ds with
 | [.d ws,.i nx,.i en,.i pa,.i er,.v kf,.i dp]=>(match isFn 110 kf with |true=>some ({val:=.one (.agg [.c (.int .i64 (.sym ((chA (P en ws dp) skK ws (mR nx pa er)).1).k)),.c (.int .i64 (.sym ((chA (P en ws dp) skK ws (mR nx pa er)).1).n)),.c (.raw (.string ((chA (P en ws dp) skK ws (mR nx pa er)).1).s)),.c (.osl 75 0 (.lit 0) (.sym ((chA (P en ws dp) skK ws (mR nx pa er)).1).d.len))]),vc:=[rdOK ws nx,dpOK ws (mR nx pa er) dp,left ws (mR nx pa er)<m,PaOK ws (P en ws dp)],nw:=[(0,.orow 75 (chA (P en ws dp) skK ws (mR nx pa er)).1.d)]},[.c (.rows 124 ws),.c (.int .i64 (.sym (((chA (P en ws dp) skK ws (mR nx pa er)).2).nx))),.c (.int .i64 (.sym en)),.c (.int .i64 (.sym (((chA (P en ws dp) skK ws (mR nx pa er)).2).pa))),.c (.int .i64 (.sym (((chA (P en ws dp) skK ws (mR nx pa er)).2).er)))]) |false=>none)
 |_=>none
noncomputable def chSC (P:Int->D->Int->Rd->Xp × Rd) (m:Nat):Con:=conB 85 [.c (.rows 124),.c (.int .i64),.c (.int .i64),.c (.int .i64),.c (.int .i64)] 109 [.sc .any,.sc (.int .i64)] (chSS P m)
theorem chS_ok {P:Int->D->Int->Rd->Xp × Rd} {m:Nat} (hP:ConOK Tryz.prog 109 (partC P m)):ConOK Tryz.prog 108 (chSC P m):=by
 refine fn_obB tt_ok mixed Tryz.func108 rfl (fun _ _=>by kernel_rfl) (A:=fun ds=>⟨fun _=>Cons.of [(76,pekC),(110,skdC),(109,(partC P m))],fun k=>match k,ds with | 2,[.d ws,.i nx,.i en,.i pa,.i er,.v _,.i dp]=>some {ι:=Xp × Rd,pre:=fun _ q=>rdOK ws q.2.nx/\(chL (P en ws dp) skK ws (left ws q.2) q.1 q.2=chA (P en ws dp) skK ws (mR nx pa er))/\q.1.d.len<=2/\nx<=q.2.nx,μ:=fun q=>left ws q.2,st:=fun s q=>famR s [] [0,1,2,3,8,9] [(0,.own 85 ([.c (.rows 124 ws),.c (.int .i64 (.sym ((q.2).nx))),.c (.int .i64 (.sym en)),.c (.int .i64 (.sym ((q.2).pa))),.c (.int .i64 (.sym ((q.2).er)))])),(idOf s 9,.own 75 ([.c (.int .i64 (.sym q.1.k)),.c (.int .i64 (.sym q.1.n)),.c (.raw (.string q.1.s)),.c (.osl 75 (s.nx-1) (.lit 0) (.sym q.1.d.len))])),(s.nx-1,.orow 75 (q.1.d))] [8]} |_,_=>none,fun _=>none⟩) (fun _ _=>(cons_cons pek_ok (cons_cons skd_ok (cons_cons hP cons_nil)))) (by kernel_rfl) ?_
 intro ds;unfold chSS;split
 ·rename_i ws nx en pa er kf dp;split
  ·rename_i hg;obtain rfl:=isFn_eq hg;refine kmp (q:=withv (fun (i:Xp × Rd)=>P en ws dp (mR (IntKind.i64.wrap (i.snd.nx+1)) i.snd.pa i.snd.er)) fun E20=>withv (chA (P en ws dp) skK ws (mR nx pa er)) fun E21=>withv (P en ws dp (mR nx pa er)) fun E22=>rdOK ws nx->dpOK ws (mR nx pa er) dp->left ws (mR nx pa er)<m->PaOK ws (P en ws dp)->rdOK ws nx/\dpOK ws (mR nx pa er) dp/\left ws (mR nx pa er)<m/\(∃ (i:Xp × Rd),(rdOK ws i.snd.nx/\chL (P en ws dp) skK ws (left ws i.snd) i.fst i.snd=chA (P en ws dp) skK ws (mR nx pa er)/\i.fst.d.len<=2/\nx<=i.snd.nx)/\Value.func (Fn.func (110:Nat)) #[] #[]=Value.func (Fn.func (110:Nat)) #[] #[]/\dp=dp/\ws.rows=ws.rows/\E22.snd.nx=i.snd.nx/\en=en/\E22.snd.pa=i.snd.pa/\E22.snd.er=i.snd.er/\E22.fst.k=i.fst.k/\E22.fst.n=i.fst.n/\Value.string E22.fst.s=Value.string i.fst.s/\E22.fst.d.len=i.fst.d.len/\E22.fst.d.rows=i.fst.d.rows/\(0:Int)=(0:Int)/\(0:Int)=(0:Int)/\Value.string ByteArray.empty=Value.string ByteArray.empty)/\∀ (i:Xp × Rd),rdOK ws i.snd.nx/\chL (P en ws dp) skK ws (left ws i.snd) i.fst i.snd=chA (P en ws dp) skK ws (mR nx pa er)/\i.fst.d.len<=2/\nx<=i.snd.nx->rdOK ws i.snd.nx/\((skK (pkS ws i.snd.nx)==(0:Int))=true->i.fst.k=E21.fst.k/\i.fst.n=E21.fst.n/\Value.string i.fst.s=Value.string E21.fst.s/\i.fst.d.len=E21.fst.d.len/\ws.rows=ws.rows/\i.snd.nx=E21.snd.nx/\en=en/\i.snd.pa=E21.snd.pa/\i.snd.er=E21.snd.er/\i.fst.d.rows=E21.fst.d.rows)/\((skK (pkS ws i.snd.nx)==(0:Int))=false->rdOK ws (IntKind.i64.wrap (i.snd.nx+1))/\dpOK ws (mR (IntKind.i64.wrap (i.snd.nx+1)) i.snd.pa i.snd.er) dp/\left ws (mR (IntKind.i64.wrap (i.snd.nx+1)) i.snd.pa i.snd.er)<m/\0+i.fst.d.len<=i.fst.d.len/\0+(E20 i).fst.d.len<=(E20 i).fst.d.len/\∃ (j:Xp × Rd),(rdOK ws j.snd.nx/\chL (P en ws dp) skK ws (left ws j.snd) j.fst j.snd=chA (P en ws dp) skK ws (mR nx pa er)/\j.fst.d.len<=2/\nx<=j.snd.nx)/\left ws j.snd<left ws i.snd/\Value.func (Fn.func (110:Nat)) #[] #[]=Value.func (Fn.func (110:Nat)) #[] #[]/\dp=dp/\ws.rows=ws.rows/\(E20 i).snd.nx=j.snd.nx/\en=en/\(E20 i).snd.pa=j.snd.pa/\(E20 i).snd.er=j.snd.er/\skK (pkS ws i.snd.nx)=j.fst.k/\(0:Int)=j.fst.n/\Value.string ByteArray.empty=Value.string j.fst.s/\2=j.fst.d.len /\ [[D.i i.fst.k,D.i i.fst.n,D.s i.fst.s,i.fst.d.sub 0 ((0:Nat)+i.fst.d.len)],[D.i (E20 i).fst.k,D.i (E20 i).fst.n,D.s (E20 i).fst.s,(E20 i).fst.d.sub 0 ((0:Nat)+(E20 i).fst.d.len)]]=j.fst.d.rows/\(0:Int)=(0:Int)/\(0:Int)=(0:Int)/\Value.string ByteArray.empty=Value.string ByteArray.empty)) (by kernel_rfl) ?_
   dsimp +instances only [withv]
   intro h hd hl hP;obtain ⟨v1,v2,v3⟩:=hP.up (mR nx pa er) h;refine ⟨h,hd,hl,⟨P en ws dp (mR nx pa er),⟨v2,rfl,v3,v1⟩,(by (repeat' (with_reducible apply And.intro))<;>first |with_reducible rfl |exact True.intro |assumption |(symm;assumption) |rfl)⟩,?_⟩
   rintro q ⟨h1,h2,h3,h4⟩;refine ⟨h1,fun hc=>?_,fun hc=>?_⟩
   ·have hc:skK (pkS ws q.2.nx)=0:=by simpa using hc
    rw [chL_end hc] at h2;rw [<- h2]
    (repeat' (with_reducible apply And.intro))<;>first |with_reducible rfl |exact True.intro |assumption |(symm;assumption) |rfl
   ·have hc:skK (pkS ws q.2.nx)≠0:=by simpa using hc
    have hlt:=pk_of sk_e hc;obtain ⟨g1,g2⟩:=gx_ok h1 hlt;obtain ⟨u1,u2,u3⟩:=hP.up (gx q.2) g1;rw [nx1 h1 hlt,subAll,subAll];have e3:mR (q.2.nx+1) q.2.pa q.2.er=gx q.2:=rfl;rw [e3];have l0:left ws q.2<=left ws (mR nx pa er):=left_le h4;have l1:=left_le (ws:=ws) u1;have e5:(gx q.2).nx=q.2.nx+1:=rfl;have hd2:dpOK ws (gx q.2) dp:=⟨hd.1,by have:=hd.2;omega⟩
    refine ⟨g1,hd2,by omega,by omega,by omega,⟨(X2 (skK (pkS ws q.2.nx)) q.1 (P en ws dp (gx q.2)).1,(P en ws dp (gx q.2)).2),⟨u2,(chL_step hP sk_e q.1 h1 hc).trans h2,Nat.le_refl _,(by show nx<=(P en ws dp (gx q.2)).2.nx;omega)⟩,(by show left ws (P en ws dp (gx q.2)).2<left ws q.2;omega),(by (repeat' (with_reducible apply And.intro))<;>first |with_reducible rfl |exact True.intro |assumption |(symm;assumption) |rfl)⟩⟩
  ·trivial
 ·trivial
noncomputable def chPS (P:Int->D->Int->Rd->Xp × Rd) (m:Nat):List Dat->Option (Eff × List Seg):=fun ds=>match ds with
 | [.d ws,.i nx,.i en,.i pa,.i er,.v kf,.i dp]=>(match isFn 113 kf with |true=>some ({val:=.one (.agg [.c (.int .i64 (.sym ((chA (P en ws dp) pdK ws (mR nx pa er)).1).k)),.c (.int .i64 (.sym ((chA (P en ws dp) pdK ws (mR nx pa er)).1).n)),.c (.raw (.string ((chA (P en ws dp) pdK ws (mR nx pa er)).1).s)),.c (.osl 75 0 (.lit 0) (.sym ((chA (P en ws dp) pdK ws (mR nx pa er)).1).d.len))]),vc:=[rdOK ws nx,dpOK ws (mR nx pa er) dp,left ws (mR nx pa er)<m,PaOK ws (P en ws dp)],nw:=[(0,.orow 75 (chA (P en ws dp) pdK ws (mR nx pa er)).1.d)]},[.c (.rows 124 ws),.c (.int .i64 (.sym (((chA (P en ws dp) pdK ws (mR nx pa er)).2).nx))),.c (.int .i64 (.sym en)),.c (.int .i64 (.sym (((chA (P en ws dp) pdK ws (mR nx pa er)).2).pa))),.c (.int .i64 (.sym (((chA (P en ws dp) pdK ws (mR nx pa er)).2).er)))]) |false=>none)
 |_=>none
noncomputable def chPC (P:Int->D->Int->Rd->Xp × Rd) (m:Nat):Con:=conB 85 [.c (.rows 124),.c (.int .i64),.c (.int .i64),.c (.int .i64),.c (.int .i64)] 112 [.sc .any,.sc (.int .i64)] (chPS P m)
theorem chP_ok {P:Int->D->Int->Rd->Xp × Rd} {m:Nat} (hP:ConOK Tryz.prog 112 (partC P m)):ConOK Tryz.prog 108 (chPC P m):=by
 refine fn_obB tt_ok mixed Tryz.func108 rfl (fun _ _=>by kernel_rfl) (A:=fun ds=>⟨fun _=>Cons.of [(76,pekC),(113,pkdC),(112,(partC P m))],fun k=>match k,ds with | 2,[.d ws,.i nx,.i en,.i pa,.i er,.v _,.i dp]=>some {ι:=Xp × Rd,pre:=fun _ q=>rdOK ws q.2.nx/\(chL (P en ws dp) pdK ws (left ws q.2) q.1 q.2=chA (P en ws dp) pdK ws (mR nx pa er))/\q.1.d.len<=2/\nx<=q.2.nx,μ:=fun q=>left ws q.2,st:=fun s q=>famR s [] [0,1,2,3,8,9] [(0,.own 85 ([.c (.rows 124 ws),.c (.int .i64 (.sym ((q.2).nx))),.c (.int .i64 (.sym en)),.c (.int .i64 (.sym ((q.2).pa))),.c (.int .i64 (.sym ((q.2).er)))])),(idOf s 9,.own 75 ([.c (.int .i64 (.sym q.1.k)),.c (.int .i64 (.sym q.1.n)),.c (.raw (.string q.1.s)),.c (.osl 75 (s.nx-1) (.lit 0) (.sym q.1.d.len))])),(s.nx-1,.orow 75 (q.1.d))] [8]} |_,_=>none,fun _=>none⟩) (fun _ _=>(cons_cons pek_ok (cons_cons pkd_ok (cons_cons hP cons_nil)))) (by kernel_rfl) ?_
 intro ds;unfold chPS;split
 ·rename_i ws nx en pa er kf dp;split
  ·rename_i hg;obtain rfl:=isFn_eq hg;refine kmp (q:=withv (fun (i:Xp × Rd)=>P en ws dp (mR (IntKind.i64.wrap (i.snd.nx+1)) i.snd.pa i.snd.er)) fun E23=>withv (chA (P en ws dp) pdK ws (mR nx pa er)) fun E24=>withv (P en ws dp (mR nx pa er)) fun E25=>rdOK ws nx->dpOK ws (mR nx pa er) dp->left ws (mR nx pa er)<m->PaOK ws (P en ws dp)->rdOK ws nx/\dpOK ws (mR nx pa er) dp/\left ws (mR nx pa er)<m/\(∃ (i:Xp × Rd),(rdOK ws i.snd.nx/\chL (P en ws dp) pdK ws (left ws i.snd) i.fst i.snd=chA (P en ws dp) pdK ws (mR nx pa er)/\i.fst.d.len<=2/\nx<=i.snd.nx)/\Value.func (Fn.func (113:Nat)) #[] #[]=Value.func (Fn.func (113:Nat)) #[] #[]/\dp=dp/\ws.rows=ws.rows/\E25.snd.nx=i.snd.nx/\en=en/\E25.snd.pa=i.snd.pa/\E25.snd.er=i.snd.er/\E25.fst.k=i.fst.k/\E25.fst.n=i.fst.n/\Value.string E25.fst.s=Value.string i.fst.s/\E25.fst.d.len=i.fst.d.len/\E25.fst.d.rows=i.fst.d.rows/\(0:Int)=(0:Int)/\(0:Int)=(0:Int)/\Value.string ByteArray.empty=Value.string ByteArray.empty)/\∀ (i:Xp × Rd),rdOK ws i.snd.nx/\chL (P en ws dp) pdK ws (left ws i.snd) i.fst i.snd=chA (P en ws dp) pdK ws (mR nx pa er)/\i.fst.d.len<=2/\nx<=i.snd.nx->rdOK ws i.snd.nx/\((pdK (pkS ws i.snd.nx)==(0:Int))=true->i.fst.k=E24.fst.k/\i.fst.n=E24.fst.n/\Value.string i.fst.s=Value.string E24.fst.s/\i.fst.d.len=E24.fst.d.len/\ws.rows=ws.rows/\i.snd.nx=E24.snd.nx/\en=en/\i.snd.pa=E24.snd.pa/\i.snd.er=E24.snd.er/\i.fst.d.rows=E24.fst.d.rows)/\((pdK (pkS ws i.snd.nx)==(0:Int))=false->rdOK ws (IntKind.i64.wrap (i.snd.nx+1))/\dpOK ws (mR (IntKind.i64.wrap (i.snd.nx+1)) i.snd.pa i.snd.er) dp/\left ws (mR (IntKind.i64.wrap (i.snd.nx+1)) i.snd.pa i.snd.er)<m/\0+i.fst.d.len<=i.fst.d.len/\0+(E23 i).fst.d.len<=(E23 i).fst.d.len/\∃ (j:Xp × Rd),(rdOK ws j.snd.nx/\chL (P en ws dp) pdK ws (left ws j.snd) j.fst j.snd=chA (P en ws dp) pdK ws (mR nx pa er)/\j.fst.d.len<=2/\nx<=j.snd.nx)/\left ws j.snd<left ws i.snd/\Value.func (Fn.func (113:Nat)) #[] #[]=Value.func (Fn.func (113:Nat)) #[] #[]/\dp=dp/\ws.rows=ws.rows/\(E23 i).snd.nx=j.snd.nx/\en=en/\(E23 i).snd.pa=j.snd.pa/\(E23 i).snd.er=j.snd.er/\pdK (pkS ws i.snd.nx)=j.fst.k/\(0:Int)=j.fst.n/\Value.string ByteArray.empty=Value.string j.fst.s/\2=j.fst.d.len /\ [[D.i i.fst.k,D.i i.fst.n,D.s i.fst.s,i.fst.d.sub 0 ((0:Nat)+i.fst.d.len)],[D.i (E23 i).fst.k,D.i (E23 i).fst.n,D.s (E23 i).fst.s,(E23 i).fst.d.sub 0 ((0:Nat)+(E23 i).fst.d.len)]]=j.fst.d.rows/\(0:Int)=(0:Int)/\(0:Int)=(0:Int)/\Value.string ByteArray.empty=Value.string ByteArray.empty)) (by kernel_rfl) ?_
   dsimp +instances only [withv]
   intro h hd hl hP;obtain ⟨v1,v2,v3⟩:=hP.up (mR nx pa er) h;refine ⟨h,hd,hl,⟨P en ws dp (mR nx pa er),⟨v2,rfl,v3,v1⟩,(by (repeat' (with_reducible apply And.intro))<;>first |with_reducible rfl |exact True.intro |assumption |(symm;assumption) |rfl)⟩,?_⟩
   rintro q ⟨h1,h2,h3,h4⟩;refine ⟨h1,fun hc=>?_,fun hc=>?_⟩
   ·have hc:pdK (pkS ws q.2.nx)=0:=by simpa using hc
    rw [chL_end hc] at h2;rw [<- h2]
    (repeat' (with_reducible apply And.intro))<;>first |with_reducible rfl |exact True.intro |assumption |(symm;assumption) |rfl
   ·have hc:pdK (pkS ws q.2.nx)≠0:=by simpa using hc
    have hlt:=pk_of pd_e hc;obtain ⟨g1,g2⟩:=gx_ok h1 hlt;obtain ⟨u1,u2,u3⟩:=hP.up (gx q.2) g1;rw [nx1 h1 hlt,subAll,subAll];have e3:mR (q.2.nx+1) q.2.pa q.2.er=gx q.2:=rfl;rw [e3];have l0:left ws q.2<=left ws (mR nx pa er):=left_le h4;have l1:=left_le (ws:=ws) u1;have e5:(gx q.2).nx=q.2.nx+1:=rfl;have hd2:dpOK ws (gx q.2) dp:=⟨hd.1,by have:=hd.2;omega⟩
    refine ⟨g1,hd2,by omega,by omega,by omega,⟨(X2 (pdK (pkS ws q.2.nx)) q.1 (P en ws dp (gx q.2)).1,(P en ws dp (gx q.2)).2),⟨u2,(chL_step hP pd_e q.1 h1 hc).trans h2,Nat.le_refl _,(by show nx<=(P en ws dp (gx q.2)).2.nx;omega)⟩,(by show left ws (P en ws dp (gx q.2)).2<left ws q.2;omega),(by (repeat' (with_reducible apply And.intro))<;>first |with_reducible rfl |exact True.intro |assumption |(symm;assumption) |rfl)⟩⟩
  ·trivial
 ·trivial
noncomputable def sumS (P:Int->D->Int->Rd->Xp × Rd) (m:Nat):List Dat->Option (Eff × List Seg):=fun ds=>match ds with
 | [.d ws,.i nx,.i en,.i pa,.i er,.i dp]=>some ({val:=.one (.agg [.c (.int .i64 (.sym ((chA (P en ws dp) skK ws (mR nx pa er)).1).k)),.c (.int .i64 (.sym ((chA (P en ws dp) skK ws (mR nx pa er)).1).n)),.c (.raw (.string ((chA (P en ws dp) skK ws (mR nx pa er)).1).s)),.c (.osl 75 0 (.lit 0) (.sym ((chA (P en ws dp) skK ws (mR nx pa er)).1).d.len))]),vc:=[rdOK ws nx,dpOK ws (mR nx pa er) dp,left ws (mR nx pa er)<m],nw:=[(0,.orow 75 (chA (P en ws dp) skK ws (mR nx pa er)).1.d)]},[.c (.rows 124 ws),.c (.int .i64 (.sym (((chA (P en ws dp) skK ws (mR nx pa er)).2).nx))),.c (.int .i64 (.sym en)),.c (.int .i64 (.sym (((chA (P en ws dp) skK ws (mR nx pa er)).2).pa))),.c (.int .i64 (.sym (((chA (P en ws dp) skK ws (mR nx pa er)).2).er)))])
 |_=>none
noncomputable def sumC (P:Int->D->Int->Rd->Xp × Rd) (m:Nat):Con:=conM 85 [.c (.rows 124),.c (.int .i64),.c (.int .i64),.c (.int .i64),.c (.int .i64)] [.sc (.int .i64)] (sumS P m)
theorem sum_ok {P:Int->D->Int->Rd->Xp × Rd} {m:Nat} (hP:ConOK Tryz.prog 109 (partC P m)) (hPa:∀ en ws dp,PaOK ws (P en ws dp)):ConOK Tryz.prog 102 (sumC P m):=by
 refine fn_obM tt_ok mixed Tryz.func102 rfl (fun _ _=>by kernel_rfl) (A:=fun ds=>⟨fun _=>Cons.of [(108,(chSC P m))],fun _=>none,fun _=>none⟩) (fun _ _=>(cons_cons (chS_ok hP) cons_nil)) (by kernel_rfl) ?_
 intro ds;unfold sumS;split
 ·rename_i ws nx en pa er dp;refine kmp (q:=withv (chA (P en ws dp) skK ws (mR nx pa er)) fun E26=>rdOK ws nx->dpOK ws (mR nx pa er) dp->left ws (mR nx pa er)<m->rdOK ws nx/\dpOK ws (mR nx pa er) dp/\left ws (mR nx pa er)<m/\PaOK ws (P en ws dp)/\E26.fst.k=E26.fst.k/\E26.fst.n=E26.fst.n/\Value.string E26.fst.s=Value.string E26.fst.s/\E26.fst.d.len=E26.fst.d.len/\ws.rows=ws.rows/\E26.snd.nx=E26.snd.nx/\en=en/\E26.snd.pa=E26.snd.pa/\E26.snd.er=E26.snd.er/\E26.fst.d.rows=E26.fst.d.rows) (by kernel_rfl) ?_
  dsimp +instances only [withv]
  intro h hd hl;have hQ:=hPa en ws dp;refine ⟨h,hd,hl,hQ,?_⟩
  (repeat' (with_reducible apply And.intro))<;>first |with_reducible rfl |exact True.intro |assumption |(symm;assumption) |rfl
 ·trivial
noncomputable def prdS (P:Int->D->Int->Rd->Xp × Rd) (m:Nat):List Dat->Option (Eff × List Seg):=fun ds=>match ds with
 | [.d ws,.i nx,.i en,.i pa,.i er,.i dp]=>some ({val:=.one (.agg [.c (.int .i64 (.sym ((chA (P en ws dp) pdK ws (mR nx pa er)).1).k)),.c (.int .i64 (.sym ((chA (P en ws dp) pdK ws (mR nx pa er)).1).n)),.c (.raw (.string ((chA (P en ws dp) pdK ws (mR nx pa er)).1).s)),.c (.osl 75 0 (.lit 0) (.sym ((chA (P en ws dp) pdK ws (mR nx pa er)).1).d.len))]),vc:=[rdOK ws nx,dpOK ws (mR nx pa er) dp,left ws (mR nx pa er)<m],nw:=[(0,.orow 75 (chA (P en ws dp) pdK ws (mR nx pa er)).1.d)]},[.c (.rows 124 ws),.c (.int .i64 (.sym (((chA (P en ws dp) pdK ws (mR nx pa er)).2).nx))),.c (.int .i64 (.sym en)),.c (.int .i64 (.sym (((chA (P en ws dp) pdK ws (mR nx pa er)).2).pa))),.c (.int .i64 (.sym (((chA (P en ws dp) pdK ws (mR nx pa er)).2).er)))])
 |_=>none
noncomputable def prdC (P:Int->D->Int->Rd->Xp × Rd) (m:Nat):Con:=conM 85 [.c (.rows 124),.c (.int .i64),.c (.int .i64),.c (.int .i64),.c (.int .i64)] [.sc (.int .i64)] (prdS P m)
theorem prd_ok {P:Int->D->Int->Rd->Xp × Rd} {m:Nat} (hP:ConOK Tryz.prog 112 (partC P m)) (hPa:∀ en ws dp,PaOK ws (P en ws dp)):ConOK Tryz.prog 109 (prdC P m):=by
 refine fn_obM tt_ok mixed Tryz.func109 rfl (fun _ _=>by kernel_rfl) (A:=fun ds=>⟨fun _=>Cons.of [(108,(chPC P m))],fun _=>none,fun _=>none⟩) (fun _ _=>(cons_cons (chP_ok hP) cons_nil)) (by kernel_rfl) ?_
 intro ds;unfold prdS;split
 ·rename_i ws nx en pa er dp;refine kmp (q:=withv (chA (P en ws dp) pdK ws (mR nx pa er)) fun E27=>rdOK ws nx->dpOK ws (mR nx pa er) dp->left ws (mR nx pa er)<m->rdOK ws nx/\dpOK ws (mR nx pa er) dp/\left ws (mR nx pa er)<m/\PaOK ws (P en ws dp)/\E27.fst.k=E27.fst.k/\E27.fst.n=E27.fst.n/\Value.string E27.fst.s=Value.string E27.fst.s/\E27.fst.d.len=E27.fst.d.len/\ws.rows=ws.rows/\E27.snd.nx=E27.snd.nx/\en=en/\E27.snd.pa=E27.snd.pa/\E27.snd.er=E27.snd.er/\E27.fst.d.rows=E27.fst.d.rows) (by kernel_rfl) ?_
  dsimp +instances only [withv]
  intro h hd hl;have hQ:=hPa en ws dp;refine ⟨h,hd,hl,hQ,?_⟩
  (repeat' (with_reducible apply And.intro))<;>first |with_reducible rfl |exact True.intro |assumption |(symm;assumption) |rfl
 ·trivial
end Go.Proofs.YtbhbjhejkamlnaaGreat.Sx.Z
namespace Go.Proofs.YtbhbjhejkamlnaaGreat.Sx.Z
open Go.RowKit
abbrev PF:=Int->D->Int->Rd->Xp × Rd
def prF (P:PF):PF:=fun en ws dp r=>chA (P en ws dp) pdK ws r
def smF (P:PF):PF:=fun en ws dp r=>chA (prF P en ws dp) skK ws r
def miB:ByteArray:=⟨#[45]⟩
def opB:ByteArray:=⟨#[40]⟩
def clB:ByteArray:=⟨#[41]⟩
def fcB (P:PF):PF:=fun en ws dp r=>
 if pkK ws r.nx=2 then (⟨1,nuN ws r,ByteArray.empty,.l []⟩,nuR ws en r)
 else if acB ws r.nx miB=true then (⟨3,0,ByteArray.empty,.l [(P en ws (dp+1) (neR ws en miB dp r)).1.row]⟩,(P en ws (dp+1) (neR ws en miB dp r)).2)
 else if acB ws r.nx opB=true then ((smF P en ws (dp+1) (neR ws en opB dp r)).1,exR ws en clB (smF P en ws (dp+1) (neR ws en opB dp r)).2)
 else (⟨2,0,nmS ws r,.l []⟩,nmR ws en r)
theorem ne_up {ws:D} {en dp:Int} {t:ByteArray} {r:Rd} (h:rdOK ws r.nx) (ht:0<t.size) (ha:acB ws r.nx t=true):rdOK ws (neR ws en t dp r).nx/\left ws (neR ws en t dp r)<left ws r/\r.nx<=(neR ws en t dp r).nx:=by
 have hl:=ac_lt ht ha;obtain ⟨a,b,c⟩:=h;have key:(neR ws en t dp r).nx=ws.len ∨ (neR ws en t dp r).nx=r.nx+1:=by
  unfold neR;split
  ·left
   unfold fl
   split<;>rfl
  ·right
   rw [exR_yes ha];rfl
 have hr:rdOK ws (neR ws en t dp r).nx/\r.nx<(neR ws en t dp r).nx:=by
  rcases key with k |k<;>rw [k]<;>exact ⟨⟨by omega,by omega,c⟩,by omega⟩
 refine ⟨hr.1,?_,Int.le_of_lt hr.2⟩;have:=hr.1.2.1;unfold left;omega
theorem etR (r:Rd):mR r.nx r.pa r.er=r:=rfl
theorem smF_ok {P:PF} {m:Nat} (hP:ConOK Tryz.prog 112 (partC P m)) (hPa:∀ en ws dp,PaOK ws (P en ws dp)):ConOK Tryz.prog 102 (partC (smF P) m):=
 sum_ok (P:=prF P) (m:=m) (prd_ok (P:=P) (m:=m) hP hPa) (fun en ws dp=>chA_up (hPa en ws dp) pd_e)
theorem smF_up {P:PF} (hPa:∀ en ws dp,PaOK ws (P en ws dp)) (en:Int) (ws:D) (dp:Int):PaOK ws (smF P en ws dp):=chA_up (chA_up (hPa en ws dp) pd_e) sk_e
noncomputable def facS (P:PF) (m:Nat):List Dat->Option (Eff × List Seg):=fun ds=>match ds with
 | [.d ws,.i nx,.i en,.i pa,.i er,.i dp]=>some ({val:=.one (.agg [.c (.int .i64 (.sym ((fcB P en ws dp (mR nx pa er)).1).k)),.c (.int .i64 (.sym ((fcB P en ws dp (mR nx pa er)).1).n)),.c (.raw (.string ((fcB P en ws dp (mR nx pa er)).1).s)),.c (.osl 75 0 (.lit 0) (.sym ((fcB P en ws dp (mR nx pa er)).1).d.len))]),vc:=[rdOK ws nx,dpOK ws (mR nx pa er) dp,left ws (mR nx pa er)<m+1],nw:=[(0,.orow 75 (fcB P en ws dp (mR nx pa er)).1.d)]},[.c (.rows 124 ws),.c (.int .i64 (.sym (((fcB P en ws dp (mR nx pa er)).2).nx))),.c (.int .i64 (.sym en)),.c (.int .i64 (.sym (((fcB P en ws dp (mR nx pa er)).2).pa))),.c (.int .i64 (.sym (((fcB P en ws dp (mR nx pa er)).2).er)))])
 |_=>none
noncomputable def facC (P:PF) (m:Nat):Con:=conM 85 [.c (.rows 124),.c (.int .i64),.c (.int .i64),.c (.int .i64),.c (.int .i64)] [.sc (.int .i64)] (facS P m)
theorem fac_ok {P:PF} {m:Nat} (hP:ConOK Tryz.prog 112 (partC P m)) (hPa:∀ en ws dp,PaOK ws (P en ws dp)):ConOK Tryz.prog 112 (facC P m):=by
 refine fn_obM tt_ok mixed Tryz.func112 rfl (fun _ _=>by kernel_rfl) (A:=fun ds=>⟨fun _=>Cons.of [(76,pekC),(79,numC),(107,nstC),(112,(partC P m)),(102,(partC (smF P) m)),(80,expC),(77,namC)],fun _=>none,fun _=>none⟩) (fun _ _=>(cons_cons pek_ok (cons_cons num_ok (cons_cons nst_ok (cons_cons hP (cons_cons (smF_ok hP hPa) (cons_cons exp_ok (cons_cons nam_ok cons_nil)))))))) (by kernel_rfl) ?_
 intro ds;unfold facS;split
 ·rename_i ws nx en pa er dp;refine kmp (q:=withv (fcB P en ws dp (mR nx pa er)) fun E28=>withv (P en ws (IntKind.i64.wrap (dp+1)) (neR ws en miB dp (mR nx pa er))) fun E29=>withv (smF P en ws (IntKind.i64.wrap (dp+1)) (neR ws en opB dp (mR nx pa er))) fun E30=>withv (neR ws en miB dp (mR nx pa er)) fun E31=>withv (neR ws en opB dp (mR nx pa er)) fun E32=>rdOK ws nx->dpOK ws (mR nx pa er) dp->left ws (mR nx pa er)<m+1->rdOK ws nx/\((pkK ws nx==(2:Int))=true->rdOK ws nx/\(1:Int)=E28.fst.k/\nuN ws (mR nx pa er)=E28.fst.n/\Value.string ByteArray.empty=Value.string E28.fst.s/\E28.fst.d.len=0/\ws.rows=ws.rows/\(nuR ws en (mR nx pa er)).nx=E28.snd.nx/\en=en/\(nuR ws en (mR nx pa er)).pa=E28.snd.pa/\(nuR ws en (mR nx pa er)).er=E28.snd.er/\E28.fst.d.rows=[])/\((pkK ws nx==(2:Int))=false->(((pkS ws nx).toList==miB.toList)=true->rdOK ws nx/\0<miB.size/\rdOK ws E31.nx/\dpOK ws E31 (IntKind.i64.wrap (dp+1))/\left ws E31<m/\0+E29.fst.d.len<=E29.fst.d.len/\(3:Int)=E28.fst.k/\(0:Int)=E28.fst.n/\Value.string ByteArray.empty=Value.string E28.fst.s/\1=E28.fst.d.len/\ws.rows=ws.rows/\E29.snd.nx=E28.snd.nx/\en=en/\E29.snd.pa=E28.snd.pa/\E29.snd.er=E28.snd.er /\ [[D.i E29.fst.k,D.i E29.fst.n,D.s E29.fst.s,E29.fst.d.sub 0 ((0:Nat)+E29.fst.d.len)]]=E28.fst.d.rows)/\(((pkS ws nx).toList==miB.toList)=false->(((pkS ws nx).toList==opB.toList)=true->rdOK ws nx/\0<opB.size/\rdOK ws E32.nx/\dpOK ws E32 (IntKind.i64.wrap (dp+1))/\left ws E32<m/\rdOK ws E30.snd.nx/\0<clB.size/\E30.fst.k=E28.fst.k/\E30.fst.n=E28.fst.n/\Value.string E30.fst.s=Value.string E28.fst.s/\E30.fst.d.len=E28.fst.d.len/\ws.rows=ws.rows/\(exR ws en clB E30.snd).nx=E28.snd.nx/\en=en/\(exR ws en clB E30.snd).pa=E28.snd.pa/\(exR ws en clB E30.snd).er=E28.snd.er/\E30.fst.d.rows=E28.fst.d.rows)/\(((pkS ws nx).toList==opB.toList)=false->rdOK ws nx/\(2:Int)=E28.fst.k/\(0:Int)=E28.fst.n/\Value.string (nmS ws (mR nx pa er))=Value.string E28.fst.s/\E28.fst.d.len=0/\ws.rows=ws.rows/\(nmR ws en (mR nx pa er)).nx=E28.snd.nx/\en=en/\(nmR ws en (mR nx pa er)).pa=E28.snd.pa/\(nmR ws en (mR nx pa er)).er=E28.snd.er/\E28.fst.d.rows=[])))) (by kernel_rfl) ?_
  dsimp +instances only [withv]
  intro h hd hl;have e1:IntKind.i64.wrap (dp+1)=dp+1:=by
   have:=hd.1;have:=hd.2;rw [IntWalk.i64_in _ (by omega)]
  simp only [etR,e1,subAll];refine ⟨h,fun hk=>?_,fun hk=>⟨fun hm=>?_,fun hm=>⟨fun ho=>?_,fun ho=>?_⟩⟩⟩
  ·have hk:pkK ws nx=2:=by simpa using hk
   have e:fcB P en ws dp (mR nx pa er)=(⟨1,nuN ws (mR nx pa er),ByteArray.empty,.l []⟩,nuR ws en (mR nx pa er)):=if_pos hk;rw [e]
   (repeat' (with_reducible apply And.intro))<;>first |with_reducible rfl |exact True.intro |assumption |(symm;assumption) |rfl
  ·have hk:pkK ws nx≠2:=by simpa using hk
   have hm:acB ws nx miB=true:=hm;obtain ⟨n1,n2,n3⟩:=ne_up (r:=mR nx pa er) (en:=en) (dp:=dp) h (show 0<miB.size by decide) hm
   have e:fcB P en ws dp (mR nx pa er)=(⟨3,0,ByteArray.empty,.l [(P en ws (dp+1) (neR ws en miB dp (mR nx pa er))).1.row]⟩,(P en ws (dp+1) (neR ws en miB dp (mR nx pa er))).2):=(if_neg hk).trans (if_pos hm);rw [e];have d1:dpOK ws (neR ws en miB dp (mR nx pa er)) (dp+1):=⟨by have:=hd.1;omega,by have:=hd.2;omega⟩
   have l1:left ws (neR ws en miB dp (mR nx pa er))<m:=by omega
   exact ⟨h,(by decide),n1,d1,l1,(by omega),(by (repeat' (with_reducible apply And.intro))<;>first |with_reducible rfl |exact True.intro |assumption |(symm;assumption) |rfl)⟩
  ·have hk:pkK ws nx≠2:=by simpa using hk
   have hm:¬ acB ws nx miB=true:=by rw [show acB ws nx miB=false from hm];decide
   have ho:acB ws nx opB=true:=ho;obtain ⟨n1,n2,n3⟩:=ne_up (r:=mR nx pa er) (en:=en) (dp:=dp) h (show 0<opB.size by decide) ho
   have e:fcB P en ws dp (mR nx pa er)=((smF P en ws (dp+1) (neR ws en opB dp (mR nx pa er))).1,exR ws en clB (smF P en ws (dp+1) (neR ws en opB dp (mR nx pa er))).2):=(if_neg hk).trans ((if_neg hm).trans (if_pos ho));rw [e];have d1:dpOK ws (neR ws en opB dp (mR nx pa er)) (dp+1):=⟨by have:=hd.1;omega,by have:=hd.2;omega⟩
   have l1:left ws (neR ws en opB dp (mR nx pa er))<m:=by omega
   have u:=(smF_up hPa en ws (dp+1)).up _ n1;exact ⟨h,(by decide),n1,d1,l1,u.2.1,(by decide),(by (repeat' (with_reducible apply And.intro))<;>first |with_reducible rfl |exact True.intro |assumption |(symm;assumption) |rfl)⟩
  ·have hk:pkK ws nx≠2:=by simpa using hk
   have hm:¬ acB ws nx miB=true:=by rw [show acB ws nx miB=false from hm];decide
   have ho:¬ acB ws nx opB=true:=by rw [show acB ws nx opB=false from ho];decide
   have e:fcB P en ws dp (mR nx pa er)=(⟨2,0,nmS ws (mR nx pa er),.l []⟩,nmR ws en (mR nx pa er)):=(if_neg hk).trans ((if_neg hm).trans (if_neg ho));rw [e]
   (repeat' (with_reducible apply And.intro))<;>first |with_reducible rfl |exact True.intro |assumption |(symm;assumption) |rfl
 ·trivial
end Go.Proofs.YtbhbjhejkamlnaaGreat.Sx.Z
namespace Go.Proofs.YtbhbjhejkamlnaaGreat.Sx.Z
open Go.RowKit
theorem fl_nx (ws:D) (en e:Int) (r:Rd):(fl ws en e r).nx=ws.len:=by
 unfold fl
 split<;>rfl
theorem fl_up {ws:D} (en e:Int) {r:Rd} (h:rdOK ws r.nx):rdOK ws (fl ws en e r).nx/\r.nx<=(fl ws en e r).nx:=by
 obtain ⟨a,b,c⟩:=h;rw [fl_nx];exact ⟨⟨by omega,by omega,c⟩,b⟩
theorem gx_up {ws:D} {r:Rd} (h:rdOK ws r.nx) (hl:r.nx<ws.len):rdOK ws (gx r).nx/\r.nx<=(gx r).nx:=by
 have e5:(gx r).nx=r.nx+1:=rfl;exact ⟨(gx_ok h hl).1,by omega⟩
theorem ex_up {ws:D} (en:Int) {t:ByteArray} {r:Rd} (h:rdOK ws r.nx) (ht:0<t.size):rdOK ws (exR ws en t r).nx/\r.nx<=(exR ws en t r).nx:=by
 cases ha:acB ws r.nx t with
 |true=>
  rw [exR_yes ha];exact gx_up h (ac_lt ht ha)
 |false=>
  rw [exR_no ha];exact fl_up en 5 h
theorem nm_up {ws:D} (en:Int) {r:Rd} (h:rdOK ws r.nx):rdOK ws (nmR ws en r).nx/\r.nx<=(nmR ws en r).nx:=by
 unfold nmR;split
 ·rename_i hk;exact gx_up h (pk_lt (by rw [hk];decide))
 ·exact fl_up en 5 h
theorem nu_up {ws:D} (en:Int) {r:Rd} (h:rdOK ws r.nx):rdOK ws (nuR ws en r).nx/\r.nx<=(nuR ws en r).nx:=by
 unfold nuR;split
 ·rename_i hk;exact gx_up h (pk_lt (by rw [hk];decide))
 ·exact fl_up en 5 h
theorem fcB_up {P:PF} (hPa:∀ en ws dp,PaOK ws (P en ws dp)) (en:Int) (ws:D) (dp:Int):PaOK ws (fcB P en ws dp):=⟨fun r h=>by
 unfold fcB;split
 ·have u:=nu_up en h;exact ⟨u.2,u.1,Nat.zero_le _⟩
 ·split
  ·rename_i hm;obtain ⟨n1,n2,n3⟩:=ne_up (en:=en) (dp:=dp) h (show 0<miB.size by decide) hm
   obtain ⟨u1,u2,u3⟩:=(hPa en ws (dp+1)).up _ n1;exact ⟨Int.le_trans n3 u1,u2,(show 1<=2 by decide)⟩
  ·split
   ·rename_i hm;obtain ⟨n1,n2,n3⟩:=ne_up (en:=en) (dp:=dp) h (show 0<opB.size by decide) hm
    obtain ⟨u1,u2,u3⟩:=(smF_up hPa en ws (dp+1)).up _ n1;obtain ⟨w1,w2⟩:=ex_up en (t:=clB) u2 (by decide)
    exact ⟨Int.le_trans n3 (Int.le_trans u1 w2),w1,u3⟩
   ·have u:=nm_up en h;exact ⟨u.2,u.1,Nat.zero_le _⟩⟩
def fcR:Nat->PF
 | 0=>fun _ _ _ r=>(⟨0,0,ByteArray.empty,.l []⟩,r)
 |m+1=>fcB (fcR m)
theorem fcR_up:∀ (m:Nat) (en:Int) (ws:D) (dp:Int),PaOK ws (fcR m en ws dp)
 | 0,_,_,_=>⟨fun _ h=>⟨Int.le_refl _,h,Nat.zero_le _⟩⟩
 |m+1,en,ws,dp=>fcB_up (fcR_up m) en ws dp
theorem part_zero {F:PF}:ConOK Tryz.prog 112 (partC F 0):=by
 refine ⟨fun _ _=>by kernel_rfl,fun hp fr args e he hv=>?_,fun hp fr caps e h=>by cases h⟩
 exfalso;obtain ⟨ds,e1,sg,ps1,ps2,hs,hvc,_⟩:=conM_in he;rw [hvc] at hv;obtain ⟨_,hv⟩:=all_append.1 hv;obtain ⟨_,hv⟩:=all_append.1 hv;unfold partS at hs
 split at hs
 ·simp only [Option.some.injEq,Prod.mk.injEq] at hs;obtain ⟨rfl,rfl⟩:=hs;exact Nat.not_lt_zero _ hv.2.2.1
 ·cases hs
theorem fac_all:∀ m,ConOK Tryz.prog 112 (partC (fcR m) m)
 | 0=>part_zero
 |m+1=>fac_ok (P:=fcR m) (m:=m) (fac_all m) (fcR_up m)
theorem sum_all (m:Nat):ConOK Tryz.prog 102 (partC (smF (fcR m)) m):=smF_ok (fac_all m) (fcR_up m)
end Go.Proofs.YtbhbjhejkamlnaaGreat.Sx.Z
namespace Go.Proofs.YtbhbjhejkamlnaaGreat.Sx.Z
open Go.RowKit
def smX:PF:=smF (fcR 1000001)
theorem smX_ok:ConOK Tryz.prog 102 (partC smX 1000001):=sum_all 1000001
theorem smX_up (en:Int) (ws:D) (dp:Int):PaOK ws (smX en ws dp):=smF_up (fcR_up 1000001) en ws dp
attribute [irreducible] smX
theorem lf_lt {ws:D} {r:Rd} (h:rdOK ws r.nx):dpOK ws r 0/\left ws r<1000001:=by
 obtain ⟨a,b,c⟩:=h;unfold dpOK left;exact ⟨⟨by omega,by omega⟩,by omega⟩
theorem cm_up {ws:D} (en:Int) {r:Rd} (h:rdOK ws r.nx):rdOK ws (cmR ws en r).nx/\r.nx<=(cmR ws en r).nx:=by
 unfold cmR;split
 ·exact fl_up en 5 h
 ·rename_i hk;exact gx_up h (pk_of co_e hk)
structure Cd where
 op:Int
 l:Xp
 r:Xp
def cdA (ws:D) (en:Int) (r:Rd):Xp × Rd:=smX en ws 0 (exR ws en opB r)
def cdB (ws:D) (en:Int) (r:Rd):Xp × Rd:=smX en ws 0 (cmR ws en (cdA ws en r).2)
def cdC (ws:D) (en:Int) (r:Rd):Cd:=⟨coK (pkS ws (cdA ws en r).2.nx),(cdA ws en r).1,(cdB ws en r).1⟩
def cdR (ws:D) (en:Int) (r:Rd):Rd:=exR ws en clB (cdB ws en r).2
theorem cd_up {ws:D} (en:Int) {r:Rd} (h:rdOK ws r.nx):rdOK ws (exR ws en opB r).nx/\rdOK ws (cdA ws en r).2.nx/\rdOK ws (cmR ws en (cdA ws en r).2).nx/\rdOK ws (cdB ws en r).2.nx/\rdOK ws (cdR ws en r).nx/\r.nx<=(cdR ws en r).nx:=by
 have a:=ex_up en (t:=opB) h (by decide)
 have b:=(smX_up en ws 0).up _ a.1;have c:=cm_up en b.2.1;have d:=(smX_up en ws 0).up _ c.1;have e:=ex_up en (t:=clB) d.2.1 (by decide)
 exact ⟨a.1,b.2.1,c.1,d.2.1,e.1,Int.le_trans a.2 (Int.le_trans b.1 (Int.le_trans c.2 (Int.le_trans d.1 e.2)))⟩
noncomputable def cndS:List Dat->Option (Eff × List Seg):=fun ds=>match ds with
 | [.d ws,.i nx,.i en,.i pa,.i er]=>some ({val:=.one (.agg [.c (.int .i64 (.sym (cdC ws en (mR nx pa er)).op)),.c (.int .i64 (.sym ((cdC ws en (mR nx pa er)).l).k)),.c (.int .i64 (.sym ((cdC ws en (mR nx pa er)).l).n)),.c (.raw (.string ((cdC ws en (mR nx pa er)).l).s)),.c (.osl 75 0 (.lit 0) (.sym ((cdC ws en (mR nx pa er)).l).d.len)),.c (.int .i64 (.sym ((cdC ws en (mR nx pa er)).r).k)),.c (.int .i64 (.sym ((cdC ws en (mR nx pa er)).r).n)),.c (.raw (.string ((cdC ws en (mR nx pa er)).r).s)),.c (.osl 75 1 (.lit 0) (.sym ((cdC ws en (mR nx pa er)).r).d.len))]),vc:=[rdOK ws nx],nw:=[(0,.orow 75 (cdC ws en (mR nx pa er)).l.d),(1,.orow 75 (cdC ws en (mR nx pa er)).r.d)]},[.c (.rows 124 ws),.c (.int .i64 (.sym ((cdR ws en (mR nx pa er)).nx))),.c (.int .i64 (.sym en)),.c (.int .i64 (.sym ((cdR ws en (mR nx pa er)).pa))),.c (.int .i64 (.sym ((cdR ws en (mR nx pa er)).er)))])
 |_=>none
noncomputable def cndC:Con:=conM 85 [.c (.rows 124),.c (.int .i64),.c (.int .i64),.c (.int .i64),.c (.int .i64)] [] cndS
theorem cnd_ok:ConOK Tryz.prog 100 cndC:=by
 refine fn_obM tt_ok mixed Tryz.func100 rfl (fun _ _=>by kernel_rfl) (A:=fun ds=>⟨fun _=>Cons.of [(102,(partC smX 1000001)),(80,expC),(106,cmpC)],fun _=>none,fun _=>none⟩) (fun _ _=>(cons_cons smX_ok (cons_cons exp_ok (cons_cons cmp_ok cons_nil)))) (by kernel_rfl) ?_
 intro ds;unfold cndS;split
 ·rename_i ws nx en pa er;refine kmp (q:=withv (smX en ws (0:Int) (exR ws en opB (mR nx pa er))) fun E33=>withv (smX en ws (0:Int) (cmR ws en E33.snd)) fun E34=>withv (cdC ws en (mR nx pa er)) fun E35=>withv (exR ws en opB (mR nx pa er)) fun E36=>rdOK ws nx->rdOK ws nx/\0<opB.size/\rdOK ws E36.nx/\dpOK ws E36 (0:Int)/\left ws E36<1000001/\rdOK ws E33.snd.nx/\rdOK ws (cmR ws en E33.snd).nx/\dpOK ws (cmR ws en E33.snd) (0:Int)/\left ws (cmR ws en E33.snd)<1000001/\rdOK ws E34.snd.nx/\0<clB.size/\coK (pkS ws E33.snd.nx)=E35.op/\E33.fst.k=E35.l.k/\E33.fst.n=E35.l.n/\Value.string E33.fst.s=Value.string E35.l.s/\E33.fst.d.len=E35.l.d.len/\E34.fst.k=E35.r.k/\E34.fst.n=E35.r.n/\Value.string E34.fst.s=Value.string E35.r.s/\E34.fst.d.len=E35.r.d.len/\ws.rows=ws.rows/\(exR ws en clB E34.snd).nx=(cdR ws en (mR nx pa er)).nx/\en=en/\(exR ws en clB E34.snd).pa=(cdR ws en (mR nx pa er)).pa/\(exR ws en clB E34.snd).er=(cdR ws en (mR nx pa er)).er/\E33.fst.d.rows=E35.l.d.rows/\E34.fst.d.rows=E35.r.d.rows) (by kernel_rfl) ?_
  dsimp +instances only [withv]
  intro h;obtain ⟨a,b,c,d,e,f⟩:=cd_up en (r:=mR nx pa er) h
  try simp only [etR]
  exact ⟨h,(by decide),a,(lf_lt a).1,(lf_lt a).2,b,c,(lf_lt c).1,(lf_lt c).2,d,(by decide),(by (repeat' (with_reducible apply And.intro))<;>first |with_reducible rfl |exact True.intro |assumption |(symm;assumption) |rfl)⟩
 ·trivial
end Go.Proofs.YtbhbjhejkamlnaaGreat.Sx.Z
namespace Go.Proofs.YtbhbjhejkamlnaaGreat.Sx.Z
open Go.RowKit
def eqB:ByteArray:=⟨#[61]⟩
def seB:ByteArray:=⟨#[59]⟩
def doB:ByteArray:=⟨#[46]⟩
def kwS:ByteArray:=⟨#[115,101,110,100]⟩
def kwA:ByteArray:=⟨#[97,115,115,101,114,116]⟩
def kwI:ByteArray:=⟨#[105,110,112,117,116]⟩
def asE (ws:D) (en:Int) (r:Rd):Xp × Rd:=smX en ws 0 (exR ws en eqB (nmR ws en r))
def asR (ws:D) (en:Int) (r:Rd):Rd:=exR ws en seB (asE ws en r).2
def snN (ws:D) (en:Int) (r:Rd):Rd:=exR ws en kwS r
def snT (ws:D) (en:Int) (r:Rd):Rd:=exR ws en doB (nmR ws en (snN ws en r))
def snE (ws:D) (en:Int) (r:Rd):Xp × Rd:=smX en ws 0 (exR ws en opB (nmR ws en (snT ws en r)))
def snR (ws:D) (en:Int) (r:Rd):Rd:=exR ws en seB (exR ws en clB (snE ws en r).2)
def atC (ws:D) (en:Int) (r:Rd):Cd:=cdC ws en (exR ws en kwA r)
def atR (ws:D) (en:Int) (r:Rd):Rd:=exR ws en seB (cdR ws en (exR ws en kwA r))
def inR (ws:D) (en:Int) (r:Rd):Rd:=exR ws en seB (nmR ws en (exR ws en kwI r))
noncomputable def asgS:List Dat->Option (Eff × List Seg):=fun ds=>match ds with
 | [.d ws,.i nx,.i en,.i pa,.i er]=>some ({val:=.one (.agg [.c (.int .i64 (.sym 1)),.c (.raw (.string (nmS ws (mR nx pa er)))),.c (.raw (.string (ByteArray.empty))),.c (.int .i64 (.sym ((asE ws en (mR nx pa er)).1).k)),.c (.int .i64 (.sym ((asE ws en (mR nx pa er)).1).n)),.c (.raw (.string ((asE ws en (mR nx pa er)).1).s)),.c (.osl 75 0 (.lit 0) (.sym ((asE ws en (mR nx pa er)).1).d.len)),.c (.int .i64 (.sym 0)),.c (.int .i64 (.sym 0)),.c (.int .i64 (.sym 0)),.c (.raw (.string ByteArray.empty)),.c .nils,.c (.int .i64 (.sym 0)),.c (.int .i64 (.sym 0)),.c (.raw (.string ByteArray.empty)),.c .nils,.c .nils,.c .nils,.c .nils]),vc:=[rdOK ws nx],nw:=[(0,.orow 75 (asE ws en (mR nx pa er)).1.d)]},[.c (.rows 124 ws),.c (.int .i64 (.sym ((asR ws en (mR nx pa er)).nx))),.c (.int .i64 (.sym en)),.c (.int .i64 (.sym ((asR ws en (mR nx pa er)).pa))),.c (.int .i64 (.sym ((asR ws en (mR nx pa er)).er)))])
 |_=>none
noncomputable def asgC:Con:=conM 85 [.c (.rows 124),.c (.int .i64),.c (.int .i64),.c (.int .i64),.c (.int .i64)] [] asgS
theorem asg_ok:ConOK Tryz.prog 94 asgC:=by
 refine fn_obM tt_ok mixed Tryz.func94 rfl (fun _ _=>by kernel_rfl) (A:=fun ds=>⟨fun _=>Cons.of [(102,(partC smX 1000001)),(80,expC),(77,namC)],fun _=>none,fun _=>none⟩) (fun _ _=>(cons_cons smX_ok (cons_cons exp_ok (cons_cons nam_ok cons_nil)))) (by kernel_rfl) ?_
 intro ds;unfold asgS;split
 ·rename_i ws nx en pa er;refine kmp (q:=withv (smX en ws (0:Int) (exR ws en eqB (nmR ws en (mR nx pa er)))) fun E37=>withv (asE ws en (mR nx pa er)) fun E38=>withv (exR ws en eqB (nmR ws en (mR nx pa er))) fun E39=>rdOK ws nx->rdOK ws nx/\rdOK ws (nmR ws en (mR nx pa er)).nx/\0<eqB.size/\rdOK ws E39.nx/\dpOK ws E39 (0:Int)/\left ws E39<1000001/\rdOK ws E37.snd.nx/\0<seB.size/\(1:Int)=(1:Int)/\Value.string (nmS ws (mR nx pa er))=Value.string (nmS ws (mR nx pa er))/\Value.string ByteArray.empty=Value.string ByteArray.empty/\E37.fst.k=E38.fst.k/\E37.fst.n=E38.fst.n/\Value.string E37.fst.s=Value.string E38.fst.s/\E37.fst.d.len=E38.fst.d.len/\(0:Int)=(0:Int)/\(0:Int)=(0:Int)/\(0:Int)=(0:Int)/\Value.string ByteArray.empty=Value.string ByteArray.empty/\(0:Int)=(0:Int)/\(0:Int)=(0:Int)/\Value.string ByteArray.empty=Value.string ByteArray.empty/\ws.rows=ws.rows/\(exR ws en seB E37.snd).nx=(asR ws en (mR nx pa er)).nx/\en=en/\(exR ws en seB E37.snd).pa=(asR ws en (mR nx pa er)).pa/\(exR ws en seB E37.snd).er=(asR ws en (mR nx pa er)).er/\E37.fst.d.rows=E38.fst.d.rows) (by kernel_rfl) ?_
  dsimp +instances only [withv]
  intro h;have a:=(nm_up en (r:=mR nx pa er) h).1;have b:=(ex_up en (t:=eqB) a (by decide)).1
  have c:=((smX_up en ws 0).up _ b).2.1
  try simp only [etR]
  (repeat' (with_reducible apply And.intro))<;>first |with_reducible rfl |exact True.intro |assumption |exact (lf_lt (by assumption)).1 |exact (lf_lt (by assumption)).2 |decide |rfl
 ·trivial
noncomputable def assS:List Dat->Option (Eff × List Seg):=fun ds=>match ds with
 | [.d ws,.i nx,.i en,.i pa,.i er]=>some ({val:=.one (.agg [.c (.int .i64 (.sym 6)),.c (.raw (.string (ByteArray.empty))),.c (.raw (.string (ByteArray.empty))),.c (.int .i64 (.sym 0)),.c (.int .i64 (.sym 0)),.c (.raw (.string ByteArray.empty)),.c .nils,.c (.int .i64 (.sym (atC ws en (mR nx pa er)).op)),.c (.int .i64 (.sym ((atC ws en (mR nx pa er)).l).k)),.c (.int .i64 (.sym ((atC ws en (mR nx pa er)).l).n)),.c (.raw (.string ((atC ws en (mR nx pa er)).l).s)),.c (.osl 75 0 (.lit 0) (.sym ((atC ws en (mR nx pa er)).l).d.len)),.c (.int .i64 (.sym ((atC ws en (mR nx pa er)).r).k)),.c (.int .i64 (.sym ((atC ws en (mR nx pa er)).r).n)),.c (.raw (.string ((atC ws en (mR nx pa er)).r).s)),.c (.osl 75 1 (.lit 0) (.sym ((atC ws en (mR nx pa er)).r).d.len)),.c .nils,.c .nils,.c .nils]),vc:=[rdOK ws nx],nw:=[(0,.orow 75 (atC ws en (mR nx pa er)).l.d),(1,.orow 75 (atC ws en (mR nx pa er)).r.d)]},[.c (.rows 124 ws),.c (.int .i64 (.sym ((atR ws en (mR nx pa er)).nx))),.c (.int .i64 (.sym en)),.c (.int .i64 (.sym ((atR ws en (mR nx pa er)).pa))),.c (.int .i64 (.sym ((atR ws en (mR nx pa er)).er)))])
 |_=>none
noncomputable def assC:Con:=conM 85 [.c (.rows 124),.c (.int .i64),.c (.int .i64),.c (.int .i64),.c (.int .i64)] [] assS
theorem ass_ok:ConOK Tryz.prog 92 assC:=by
 refine fn_obM tt_ok mixed Tryz.func92 rfl (fun _ _=>by kernel_rfl) (A:=fun ds=>⟨fun _=>Cons.of [(100,cndC),(80,expC)],fun _=>none,fun _=>none⟩) (fun _ _=>(cons_cons cnd_ok (cons_cons exp_ok cons_nil))) (by kernel_rfl) ?_
 intro ds;unfold assS;split
 ·rename_i ws nx en pa er;refine kmp (q:=withv (exR ws en kwA (mR nx pa er)) fun E40=>withv (atC ws en (mR nx pa er)) fun E41=>withv (exR ws en seB (cdR ws en E40)) fun E42=>rdOK ws nx->rdOK ws nx/\0<kwA.size/\rdOK ws E40.nx/\rdOK ws (cdR ws en E40).nx/\0<seB.size/\(6:Int)=(6:Int)/\Value.string ByteArray.empty=Value.string ByteArray.empty/\Value.string ByteArray.empty=Value.string ByteArray.empty/\(0:Int)=(0:Int)/\(0:Int)=(0:Int)/\Value.string ByteArray.empty=Value.string ByteArray.empty/\(cdC ws en E40).op=E41.op/\(cdC ws en E40).l.k=E41.l.k/\(cdC ws en E40).l.n=E41.l.n/\Value.string (cdC ws en E40).l.s=Value.string E41.l.s/\(cdC ws en E40).l.d.len=E41.l.d.len/\(cdC ws en E40).r.k=E41.r.k/\(cdC ws en E40).r.n=E41.r.n/\Value.string (cdC ws en E40).r.s=Value.string E41.r.s/\(cdC ws en E40).r.d.len=E41.r.d.len/\ws.rows=ws.rows/\E42.nx=(atR ws en (mR nx pa er)).nx/\en=en/\E42.pa=(atR ws en (mR nx pa er)).pa/\E42.er=(atR ws en (mR nx pa er)).er/\(cdC ws en E40).l.d.rows=E41.l.d.rows/\(cdC ws en E40).r.d.rows=E41.r.d.rows) (by kernel_rfl) ?_
  dsimp +instances only [withv]
  intro h;have a1:=(ex_up en (t:=kwA) (r:=mR nx pa er) h (by decide)).1
  obtain ⟨_,_,_,_,a2,_⟩:=cd_up en a1
  try simp only [etR]
  (repeat' (with_reducible apply And.intro))<;>first |with_reducible rfl |exact True.intro |assumption |exact (lf_lt (by assumption)).1 |exact (lf_lt (by assumption)).2 |decide |rfl
 ·trivial
noncomputable def inpS:List Dat->Option (Eff × List Seg):=fun ds=>match ds with
 | [.d ws,.i nx,.i en,.i pa,.i er]=>some ({val:=.one (.agg [.c (.int .i64 (.sym 7)),.c (.raw (.string (nmS ws (exR ws en kwI (mR nx pa er))))),.c (.raw (.string (ByteArray.empty))),.c (.int .i64 (.sym 0)),.c (.int .i64 (.sym 0)),.c (.raw (.string ByteArray.empty)),.c .nils,.c (.int .i64 (.sym 0)),.c (.int .i64 (.sym 0)),.c (.int .i64 (.sym 0)),.c (.raw (.string ByteArray.empty)),.c .nils,.c (.int .i64 (.sym 0)),.c (.int .i64 (.sym 0)),.c (.raw (.string ByteArray.empty)),.c .nils,.c .nils,.c .nils,.c .nils]),vc:=[rdOK ws nx]},[.c (.rows 124 ws),.c (.int .i64 (.sym ((inR ws en (mR nx pa er)).nx))),.c (.int .i64 (.sym en)),.c (.int .i64 (.sym ((inR ws en (mR nx pa er)).pa))),.c (.int .i64 (.sym ((inR ws en (mR nx pa er)).er)))])
 |_=>none
noncomputable def inpC:Con:=conM 85 [.c (.rows 124),.c (.int .i64),.c (.int .i64),.c (.int .i64),.c (.int .i64)] [] inpS
theorem inp_ok:ConOK Tryz.prog 93 inpC:=by
 refine fn_obM tt_ok mixed Tryz.func93 rfl (fun _ _=>by kernel_rfl) (A:=fun ds=>⟨fun _=>Cons.of [(77,namC),(80,expC)],fun _=>none,fun _=>none⟩) (fun _ _=>(cons_cons nam_ok (cons_cons exp_ok cons_nil))) (by kernel_rfl) ?_
 intro ds;unfold inpS;split
 ·rename_i ws nx en pa er;refine kmp (q:=withv (exR ws en kwI (mR nx pa er)) fun E43=>withv (exR ws en seB (nmR ws en E43)) fun E44=>rdOK ws nx->rdOK ws nx/\0<kwI.size/\rdOK ws E43.nx/\rdOK ws (nmR ws en E43).nx/\0<seB.size/\(7:Int)=(7:Int)/\Value.string (nmS ws E43)=Value.string (nmS ws E43)/\Value.string ByteArray.empty=Value.string ByteArray.empty/\(0:Int)=(0:Int)/\(0:Int)=(0:Int)/\Value.string ByteArray.empty=Value.string ByteArray.empty/\(0:Int)=(0:Int)/\(0:Int)=(0:Int)/\(0:Int)=(0:Int)/\Value.string ByteArray.empty=Value.string ByteArray.empty/\(0:Int)=(0:Int)/\(0:Int)=(0:Int)/\Value.string ByteArray.empty=Value.string ByteArray.empty/\ws.rows=ws.rows/\E44.nx=(inR ws en (mR nx pa er)).nx/\en=en/\E44.pa=(inR ws en (mR nx pa er)).pa/\E44.er=(inR ws en (mR nx pa er)).er) (by kernel_rfl) ?_
  dsimp +instances only [withv]
  intro h;have a1:=(ex_up en (t:=kwI) (r:=mR nx pa er) h (by decide)).1
  have a2:=(nm_up en a1).1
  try simp only [etR]
  (repeat' (with_reducible apply And.intro))<;>first |with_reducible rfl |exact True.intro |assumption |exact (lf_lt (by assumption)).1 |exact (lf_lt (by assumption)).2 |decide |rfl
 ·trivial
end Go.Proofs.YtbhbjhejkamlnaaGreat.Sx.Z
namespace Go.Proofs.YtbhbjhejkamlnaaGreat.Sx.Z
open Go.RowKit
noncomputable def sndS:List Dat->Option (Eff × List Seg):=fun ds=>match ds with
 | [.d ws,.i nx,.i en,.i pa,.i er]=>some ({val:=.one (.agg [.c (.int .i64 (.sym 4)),.c (.raw (.string (nmS ws (snN ws en (mR nx pa er))))),.c (.raw (.string (nmS ws (snT ws en (mR nx pa er))))),.c (.int .i64 (.sym ((snE ws en (mR nx pa er)).1).k)),.c (.int .i64 (.sym ((snE ws en (mR nx pa er)).1).n)),.c (.raw (.string ((snE ws en (mR nx pa er)).1).s)),.c (.osl 75 0 (.lit 0) (.sym ((snE ws en (mR nx pa er)).1).d.len)),.c (.int .i64 (.sym 0)),.c (.int .i64 (.sym 0)),.c (.int .i64 (.sym 0)),.c (.raw (.string ByteArray.empty)),.c .nils,.c (.int .i64 (.sym 0)),.c (.int .i64 (.sym 0)),.c (.raw (.string ByteArray.empty)),.c .nils,.c .nils,.c .nils,.c .nils]),vc:=[rdOK ws nx],nw:=[(0,.orow 75 (snE ws en (mR nx pa er)).1.d)]},[.c (.rows 124 ws),.c (.int .i64 (.sym ((snR ws en (mR nx pa er)).nx))),.c (.int .i64 (.sym en)),.c (.int .i64 (.sym ((snR ws en (mR nx pa er)).pa))),.c (.int .i64 (.sym ((snR ws en (mR nx pa er)).er)))])
 |_=>none
noncomputable def sndC:Con:=conM 85 [.c (.rows 124),.c (.int .i64),.c (.int .i64),.c (.int .i64),.c (.int .i64)] [] sndS
theorem snd_ok:ConOK Tryz.prog 90 sndC:=by
 refine fn_obM tt_ok mixed Tryz.func90 rfl (fun _ _=>by kernel_rfl) (A:=fun ds=>⟨fun _=>Cons.of [(102,(partC smX 1000001)),(80,expC),(77,namC)],fun _=>none,fun _=>none⟩) (fun _ _=>(cons_cons smX_ok (cons_cons exp_ok (cons_cons nam_ok cons_nil)))) (by kernel_rfl) ?_
 intro ds;unfold sndS;split
 ·rename_i ws nx en pa er;refine kmp (q:=withv (exR ws en (ByteArray.mk #[40]) (nmR ws en (exR ws en (ByteArray.mk #[46]) (nmR ws en (exR ws en (ByteArray.mk #[115,101,110,100]) (mR nx pa er)))))) fun E45=>withv (exR ws en (ByteArray.mk #[115,101,110,100]) (mR nx pa er)) fun E46=>withv (smX en ws (0:Int) (exR ws en (ByteArray.mk #[40]) (nmR ws en (exR ws en (ByteArray.mk #[46]) (nmR ws en (exR ws en {data:=#[(115:UInt8),(101:UInt8),(110:UInt8),(100:UInt8)]} (mR nx pa er))))))) fun E47=>withv (smX en ws (0:Int) E45) fun E48=>withv (exR ws en (ByteArray.mk #[46]) (nmR ws en E46)) fun E49=>withv (exR ws en (ByteArray.mk #[59]) (exR ws en (ByteArray.mk #[41]) E47.snd)) fun E50=>withv (snE ws en (mR nx pa er)) fun E51=>rdOK ws nx->rdOK ws nx/\0<(ByteArray.mk #[115,101,110,100]).size/\rdOK ws E46.nx/\rdOK ws (nmR ws en E46).nx/\0<(ByteArray.mk #[46]).size/\rdOK ws E49.nx/\rdOK ws (nmR ws en E49).nx/\0<(ByteArray.mk #[40]).size/\rdOK ws E45.nx/\dpOK ws E45 (0:Int)/\left ws E45<1000001/\rdOK ws E48.snd.nx/\0<(ByteArray.mk #[41]).size/\rdOK ws (exR ws en (ByteArray.mk #[41]) E48.snd).nx/\0<(ByteArray.mk #[59]).size/\(4:Int)=(4:Int)/\Value.string (nmS ws E46)=Value.string (nmS ws (snN ws en (mR nx pa er)))/\Value.string (nmS ws E49)=Value.string (nmS ws (snT ws en (mR nx pa er)))/\E48.fst.k=E51.fst.k/\E48.fst.n=E51.fst.n/\Value.string E48.fst.s=Value.string E51.fst.s/\E48.fst.d.len=E51.fst.d.len/\(0:Int)=(0:Int)/\(0:Int)=(0:Int)/\(0:Int)=(0:Int)/\Value.string ByteArray.empty=Value.string ByteArray.empty/\(0:Int)=(0:Int)/\(0:Int)=(0:Int)/\Value.string ByteArray.empty=Value.string ByteArray.empty/\ws.rows=ws.rows/\(exR ws en (ByteArray.mk #[59]) (exR ws en (ByteArray.mk #[41]) E48.snd)).nx=(snR ws en (mR nx pa er)).nx/\en=en/\E50.pa=(snR ws en (mR nx pa er)).pa/\E50.er=(snR ws en (mR nx pa er)).er/\E47.fst.d.rows=E51.fst.d.rows) (by kernel_rfl) ?_
  dsimp +instances only [withv]
  intro h;have a1:=(ex_up en (t:=kwS) (r:=mR nx pa er) h (by decide)).1
  have a2:=(nm_up en a1).1;have a3:=(ex_up en (t:=doB) a2 (by decide)).1
  have a4:=(nm_up en a3).1;have a5:=(ex_up en (t:=opB) a4 (by decide)).1
  have a6:=((smX_up en ws 0).up _ a5).2.1;have a7:=(ex_up en (t:=clB) a6 (by decide)).1
  (repeat' (with_reducible apply And.intro))<;>first |with_reducible rfl |exact True.intro |assumption |exact (lf_lt (by assumption)).1 |exact (lf_lt (by assumption)).2 |decide |rfl
 ·trivial
end Go.Proofs.YtbhbjhejkamlnaaGreat.Sx.Z
