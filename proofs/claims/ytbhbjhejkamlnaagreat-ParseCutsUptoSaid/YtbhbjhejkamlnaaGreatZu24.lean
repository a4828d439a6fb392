import Derived.Test.YtbhbjhejkamlnaaGreatZu23
import Derived.Deep.QuietTactic
import Derived.BigQuiet
import Derived.Test.YtbhbjhejkamlnaaGreatZu21
import Derived.Test.YtbhbjhejkamlnaaGreatZu1
import Derived.Laws.IdiomStrings
import Derived.Deep.CutBlock
import Derived.Deep.DeepCutAuto
import Derived.RegionTactic
import Derived.Deep.LoopGhost
set_option linter.unusedVariables false
set_option linter.unusedSimpArgs false
namespace Go.Proofs.YtbhbjhejkamlnaaGreat.Sx.Z
open Go.RowKit
def wtR:Nat->PB
 | 0=>fun _ _ _ r=>(.l [],r)
 |m+1=>wtA (wtR m)
theorem wtR_er:∀ (m:Nat) (en:Int) (ws:D) (dp:Int) (r:Rd),(wtR m en ws dp r).2.er=0->r.er=0
 | 0,_,_,_,_,h=>h
 |m+1,en,ws,dp,r,h=>wtA_er en ws dp r h
theorem wtR_up:∀ (m:Nat) (en:Int) (ws:D) (dp:Int),PbOK ws (wtR m en ws dp)
 | 0,_,_,_=>⟨fun _ h=>⟨Int.le_refl _,h⟩⟩
 |m+1,en,ws,dp=>wtA_up (wtR_up m) (wtR_er m) en ws dp
theorem wst_zero {F:PB}:ConOK Tryz.prog 24 (wstC F 0):=by
 refine ⟨fun _ _=>by kernel_rfl,fun hp fr args e he hv=>?_,fun hp fr caps e h=>by cases h⟩
 exfalso;obtain ⟨ds,e1,sg,ps1,ps2,hs,hvc,_⟩:=conM_in he;rw [hvc] at hv;obtain ⟨_,hv⟩:=all_append.1 hv;obtain ⟨_,hv⟩:=all_append.1 hv;unfold wstS at hs
 split at hs
 ·simp only [Option.some.injEq,Prod.mk.injEq] at hs;obtain ⟨rfl,rfl⟩:=hs;exact Nat.not_lt_zero _ hv.2.2.1
 ·cases hs
theorem wst_all:∀ m,ConOK Tryz.prog 24 (wstC (wtR m) m)
 | 0=>wst_zero
 |m+1=>wsn_ok (P:=wtR m) (m:=m) (wst_all m) (wtR_up m) (wtR_er m)
def wtX:PB:=wtR 1000001
theorem wtX_ok:ConOK Tryz.prog 24 (wstC wtX 1000001):=wst_all 1000001
theorem wtX_up (en:Int) (ws:D) (dp:Int):PbOK ws (wtX en ws dp):=wtR_up 1000001 en ws dp
attribute [irreducible] wtX
def sgK:D:=.l [[.s kwB],[.s kwD],[.s kwY]]
def wk0 (ws:D) (en:Int) (r:Rd):Rd:=wnR ws en 1 r
def wkK (ws:D) (en:Int) (r:Rd):Int:=ixR ws sgK (wk0 ws en r) 3
def wk1 (ws:D) (en:Int) (r:Rd):Rd:=gx (wk0 ws en r)
def wk2 (ws:D) (en:Int) (r:Rd):Rd:=muR ws en kwO (wnR ws en 2 (wk1 ws en r))
def wk3 (ws:D) (en:Int) (r:Rd):Rd:=muR ws en kwT (wnR ws en 1 (wk2 ws en r))
def wk4 (ws:D) (en:Int) (r:Rd):Rd:=muR ws en obB (wnR ws en 1 (wk3 ws en r))
def wkG (t:ByteArray) (ws:D) (r:Rd):Bool:=isB ws t r
def wkF (ws:D) (en:Int) (r:Rd):List D × Rd:=([.s (wnS ws (gx r))],wnR ws en 1 (gx r))
def wkT (ws:D) (en:Int) (r:Rd):D × Rd:=seqA (wkG coB ws) (wkF ws en) ws (.l [[.s (wnS ws (wk4 ws en r))]]) (wnR ws en 1 (wk4 ws en r))
def wkZ (ws:D) (en:Int) (r:Rd):Ch:=if wkK ws en r<0 then ⟨wnS ws r,wkK ws en r,0,ByteArray.empty,ByteArray.empty,.l []⟩ else ⟨wnS ws r,wkK ws en r,wnN ws (wk1 ws en r),wnS ws (wk2 ws en r),wnS ws (wk3 ws en r),(wkT ws en r).1⟩
def wkR (ws:D) (en:Int) (r:Rd):Rd:=if wkK ws en r<0 then ffR ws en 5 (wk0 ws en r) else muR ws en seB (muR ws en cbB (wkT ws en r).2)
theorem wk_sq {ws:D} (en:Int):SqOK ws (wkG coB ws) (wkF ws en):=⟨fun r h hg=>by
 have g:=gx_up h (isB_lt hg).2;have b:=wn_up en 1 g.1;have e:(gx r).nx=r.nx+1:=rfl;have b2:(gx r).nx<=(wkF ws en r).2.nx:=b.2;exact ⟨b.1,by omega⟩⟩
theorem wk_up {ws:D} (en:Int) {r:Rd} (h:rdOK ws (wk1 ws en r).nx):(rdOK ws (wnR ws en 2 (wk1 ws en r)).nx/\rdOK ws (wk2 ws en r).nx/\rdOK ws (wnR ws en 1 (wk2 ws en r)).nx/\rdOK ws (wk3 ws en r).nx/\rdOK ws (wnR ws en 1 (wk3 ws en r)).nx/\rdOK ws (wk4 ws en r).nx/\rdOK ws (wnR ws en 1 (wk4 ws en r)).nx)/\rdOK ws (wkT ws en r).2.nx/\rdOK ws (muR ws en cbB (wkT ws en r).2).nx/\rdOK ws (muR ws en seB (muR ws en cbB (wkT ws en r).2)).nx/\(wk1 ws en r).nx<=(muR ws en seB (muR ws en cbB (wkT ws en r).2)).nx:=by
 have c:=wn_up en 2 h;have d:=mu_up en (t:=kwO) c.1;have e:=wn_up en 1 d.1;have f:=mu_up en (t:=kwT) e.1;have g:=wn_up en 1 f.1;have i:=mu_up en (t:=obB) g.1;have j:=wn_up en 1 i.1;have k:=seq_up (wk_sq en) (.l [[.s (wnS ws (wk4 ws en r))]]) j.1;have l:=mu_up en (t:=cbB) k.1;have m:=mu_up en (t:=seB) l.1;exact ⟨⟨c.1,d.1,e.1,f.1,g.1,i.1,j.1⟩,k.1,l.1,m.1,Int.le_trans c.2 (Int.le_trans d.2 (Int.le_trans e.2 (Int.le_trans f.2 (Int.le_trans g.2 (Int.le_trans i.2 (Int.le_trans j.2 (Int.le_trans k.2 (Int.le_trans l.2 m.2))))))))⟩
theorem wkR_up {ws:D} (en:Int) {r:Rd} (h:rdOK ws r.nx):rdOK ws (wkR ws en r).nx/\r.nx<=(wkR ws en r).nx:=by
 have a:=wn_up en 1 h;unfold wkR;split
 ·have:=ff_up en 5 a.1;exact ⟨this.1,Int.le_trans a.2 this.2⟩
 ·rename_i hk;have hx:=ix_lt (ws:=ws) (sg:=sgK) (r:=wk0 ws en r) 3 (by unfold wkK at hk;omega)
  have g:=gx_up a.1 hx.2.1;have w:=(wk_up en (r:=r) g.1).2.2.2;exact ⟨w.1,Int.le_trans a.2 (Int.le_trans g.2 w.2)⟩
noncomputable def wchS:List Dat->Option (Eff × List Seg):=fun ds=>match ds with
 | [.d ws,.i nx,.i en,.i er,.i pa]=>some ({val:=.one (.agg [.c (.raw (.string ((wkZ ws en (mR nx pa er)).nm))),.c (.int .i64 (.sym ((wkZ ws en (mR nx pa er)).k))),.c (.int .i64 (.sym ((wkZ ws en (mR nx pa er)).n))),.c (.raw (.string ((wkZ ws en (mR nx pa er)).fr))),.c (.raw (.string ((wkZ ws en (mR nx pa er)).to))),.c (.osl 9 0 (.lit 0) (.sym ((wkZ ws en (mR nx pa er)).tg.len)))]),vc:=[rdOK ws nx],nw:=[(0,.orow 9 ((wkZ ws en (mR nx pa er)).tg))]},[.c (.rows 132 ws),.c (.int .i64 (.sym ((wkR ws en (mR nx pa er)).nx))),.c (.int .i64 (.sym en)),.c (.int .i64 (.sym ((wkR ws en (mR nx pa er)).er))),.c (.int .i64 (.sym ((wkR ws en (mR nx pa er)).pa)))])
 |_=>none
noncomputable def wchC:Con:=conM 92 [.c (.rows 132),.c (.int .i64),.c (.int .i64),.c (.int .i64),.c (.int .i64)] [] wchS
theorem wch_ok:ConOK Tryz.prog 20 wchC:=by
 refine fn_obM tt_ok mixed Tryz.func20 rfl (fun _ _=>by kernel_rfl) (A:=fun ds=>⟨fun _=>Cons.of [(21,wnaC),(19,wiqC),(23,wnuC),(22,wmuC),(25,wfaC)],fun k=>match k,ds with | 4,[.d ws,.i nx,.i en,.i er,.i pa]=>some {ι:=Nat,pre:=fun _ i=>i<=3/\True,μ:=fun i=>4-i,st:=fun s i=>famR s [(5,.one (.sc (.int .i64 (.sym ((i:Nat))))))] [0,2,3,4] [(0,.own 92 ([.c (.rows 132 ws),.c (.int .i64 (.sym (((wk0 ws en (mR nx pa er))).nx))),.c (.int .i64 (.sym en)),.c (.int .i64 (.sym (((wk0 ws en (mR nx pa er))).er))),.c (.int .i64 (.sym (((wk0 ws en (mR nx pa er))).pa)))])),(idOf s 3,.own 62 ([.c (.raw (.string (wnS ws (mR nx pa er)))),.c (.int .i64 (.sym (ixR ws sgK (wk0 ws en (mR nx pa er)) i))),.c (.int .i64 (.sym (0))),.c (.raw (.string (ByteArray.empty))),.c (.raw (.string (ByteArray.empty))),.c .nils]))] [2,4]} | 19,[.d ws,.i nx,.i en,.i er,.i pa]=>some {ι:=D × Rd,pre:=fun _ q=>rdOK ws q.2.nx/\(seqA (wkG coB ws) (wkF ws en) ws q.1 q.2=wkT ws en (mR nx pa er))/\q.1.len+left ws q.2<=1000001,μ:=fun q=>left ws q.2,st:=fun s q=>famR s [] [0,2,3] [(0,.own 92 ([.c (.rows 132 ws),.c (.int .i64 (.sym ((q.2).nx))),.c (.int .i64 (.sym en)),.c (.int .i64 (.sym ((q.2).er))),.c (.int .i64 (.sym ((q.2).pa)))])),(idOf s 3,.own 62 ([.c (.raw (.string (wnS ws (mR nx pa er)))),.c (.int .i64 (.sym (wkK ws en (mR nx pa er)))),.c (.int .i64 (.sym (wnN ws (wk1 ws en (mR nx pa er))))),.c (.raw (.string (wnS ws (wk2 ws en (mR nx pa er))))),.c (.raw (.string (wnS ws (wk3 ws en (mR nx pa er))))),.c (.osl 9 (cellIdP s 3 5) (.lit 0) (.sym (q.1.len)))])),(cellIdP s 3 5,.orow 9 (q.1))] [2]} |_,_=>none,fun _=>none⟩) (fun _ _=>(cons_cons wna_ok (cons_cons wiq_ok (cons_cons wnu_ok (cons_cons wmu_ok (cons_cons wfa_ok cons_nil)))))) (by kernel_rfl) ?_
 intro ds;unfold wchS;split
 ·rename_i ws nx en er pa
  refine kmp (q:=withv (muR ws en kwO (wnR ws en (2:Int) (mR (IntKind.i64.wrap ((wk0 ws en (mR nx pa er)).nx+1)) (wk0 ws en (mR nx pa er)).pa (wk0 ws en (mR nx pa er)).er))) fun E168=>withv (wk0 ws en (mR nx pa er)) fun E169=>withv (muR ws en obB (wnR ws en (1:Int) (muR ws en kwT (wnR ws en (1:Int) E168)))) fun E170=>withv (wkZ ws en (mR nx pa er)) fun E171=>withv (wkR ws en (mR nx pa er)) fun E172=>withv (wnS ws (wk2 ws en (mR nx pa er))) fun E173=>withv (wnS ws (wk3 ws en (mR nx pa er))) fun E174=>withv (muR ws en kwT (wnR ws en (1:Int) E168)) fun E175=>withv (D.l [[D.s kwB],[D.s kwD],[D.s kwY]]) fun E176=>withv (wk1 ws en (mR nx pa er)) fun E177=>withv (wnR ws en (1:Int) (mR nx pa er)) fun E178=>withv (IntKind.i64.wrap (E169.nx+1)) fun E179=>rdOK ws nx->rdOK ws nx/\(∃ (i:Nat),(i<=3/\True)/\(0:Int)=(i:Int)/\3=3/\ws.rows=ws.rows/\E178.nx=E169.nx/\en=en/\E178.er=E169.er/\E178.pa=E169.pa/\Value.string (wnS ws (mR nx pa er))=Value.string (wnS ws (mR nx pa er))/\(-1:Int)=ixR ws sgK E169 i/\(0:Int)=(0:Int)/\Value.string ByteArray.empty=Value.string ByteArray.empty/\Value.string ByteArray.empty=Value.string ByteArray.empty/\Value.string ByteArray.empty=Value.string ByteArray.empty/\(0:Int)=(0:Int)/\(0:Int)=(0:Int)/\Value.string ByteArray.empty=Value.string ByteArray.empty/\Value.string ByteArray.empty=Value.string ByteArray.empty /\ [[D.s kwB],[D.s kwD],[D.s kwY]]=[[D.s kwB],[D.s kwD],[D.s kwY]])/\∀ (i:Nat),i<=3/\True->(decide ((i:Int)<(3:Int))=true->((0:Int)<=(i:Int)/\(i:Int)<(3:Int))/\(i:Int).toNat<E176.len/\rdOK ws E169.nx/\(isB ws (E176.el (i:Int).toNat 0).toS E169=true->∃ (j:Nat),(j<=3/\True)/\4-j<4-i/\IntKind.i64.wrap ((i:Int)+1)=(j:Int)/\3=3/\ws.rows=ws.rows/\E169.nx=E169.nx/\en=en/\E169.er=E169.er/\E169.pa=E169.pa/\Value.string (wnS ws (mR nx pa er))=Value.string (wnS ws (mR nx pa er))/\(i:Int)=ixR ws sgK E169 j/\(0:Int)=(0:Int)/\Value.string ByteArray.empty=Value.string ByteArray.empty/\Value.string ByteArray.empty=Value.string ByteArray.empty/\Value.string ByteArray.empty=Value.string ByteArray.empty/\(0:Int)=(0:Int)/\(0:Int)=(0:Int)/\Value.string ByteArray.empty=Value.string ByteArray.empty/\Value.string ByteArray.empty=Value.string ByteArray.empty /\ [[D.s kwB],[D.s kwD],[D.s kwY]]=[[D.s kwB],[D.s kwD],[D.s kwY]])/\(isB ws (E176.el (i:Int).toNat 0).toS E169=false->∃ (j:Nat),(j<=3/\True)/\4-j<4-i/\IntKind.i64.wrap ((i:Int)+1)=(j:Int)/\3=3/\ws.rows=ws.rows/\E169.nx=E169.nx/\en=en/\E169.er=E169.er/\E169.pa=E169.pa/\Value.string (wnS ws (mR nx pa er))=Value.string (wnS ws (mR nx pa er))/\ixR ws sgK E169 i=ixR ws sgK E169 j/\(0:Int)=(0:Int)/\Value.string ByteArray.empty=Value.string ByteArray.empty/\Value.string ByteArray.empty=Value.string ByteArray.empty/\Value.string ByteArray.empty=Value.string ByteArray.empty/\(0:Int)=(0:Int)/\(0:Int)=(0:Int)/\Value.string ByteArray.empty=Value.string ByteArray.empty/\Value.string ByteArray.empty=Value.string ByteArray.empty /\ [[D.s kwB],[D.s kwD],[D.s kwY]]=[[D.s kwB],[D.s kwD],[D.s kwY]]))/\(decide ((i:Int)<(3:Int))=false->(decide (ixR ws sgK E169 i<(0:Int))=true->rdOK ws E169.nx/\Value.string (wnS ws (mR nx pa er))=Value.string E171.nm/\ixR ws sgK E169 i=E171.k/\(0:Int)=E171.n/\Value.string ByteArray.empty=Value.string E171.fr/\Value.string ByteArray.empty=Value.string E171.to/\E171.tg.len=0/\ws.rows=ws.rows/\(ffR ws en (5:Int) E169).nx=E172.nx/\en=en/\(ffR ws en (5:Int) E169).er=E172.er/\(ffR ws en (5:Int) E169).pa=E172.pa/\E171.tg.rows=[])/\(decide (ixR ws sgK E169 i<(0:Int))=false->rdOK ws E179/\rdOK ws (wnR ws en (2:Int) (mR E179 E169.pa E169.er)).nx/\rdOK ws E168.nx/\rdOK ws (wnR ws en (1:Int) E168).nx/\rdOK ws E175.nx/\rdOK ws (wnR ws en (1:Int) E175).nx/\rdOK ws E170.nx/\((0:Nat)+((D.l [[D.s (wnS ws E170)]]).sub 0 1).len)*16<=140737488355328/\0+1<=(D.l [[D.s (wnS ws E170)]]).len/\(∃ (i_1:D × Rd),(rdOK ws i_1.snd.nx/\seqA (wkG coB ws) (wkF ws en) ws i_1.fst i_1.snd=wkT ws en (mR nx pa er)/\i_1.fst.len+left ws i_1.snd<=(1000001:Nat))/\ws.rows=ws.rows/\(wnR ws en (1:Int) E170).nx=i_1.snd.nx/\en=en/\(wnR ws en (1:Int) E170).er=i_1.snd.er/\(wnR ws en (1:Int) E170).pa=i_1.snd.pa/\Value.string (wnS ws (mR nx pa er))=Value.string (wnS ws (mR nx pa er))/\ixR ws sgK E169 i=wkK ws en (mR nx pa er)/\wnN ws (mR E179 E169.pa E169.er)=wnN ws E177/\Value.string (wnS ws E168)=Value.string E173/\Value.string (wnS ws E175)=Value.string E174/\1=i_1.fst.len /\ []++List.drop 0 (List.take 1 [[D.s (wnS ws E170)]])=i_1.fst.rows/\Value.string ByteArray.empty=Value.string ByteArray.empty/\(0:Int)=(0:Int)/\(0:Int)=(0:Int)/\Value.string ByteArray.empty=Value.string ByteArray.empty/\Value.string ByteArray.empty=Value.string ByteArray.empty)/\∀ (i:D × Rd),rdOK ws i.snd.nx/\seqA (wkG coB ws) (wkF ws en) ws i.fst i.snd=wkT ws en (mR nx pa er)/\i.fst.len+left ws i.snd<=1000001->rdOK ws i.snd.nx/\(isB ws coB i.snd=true->rdOK ws (IntKind.i64.wrap (i.snd.nx+1))/\i.fst.len=i.fst.len/\(i.fst.len+((D.l [[D.s (wnS ws (mR (IntKind.i64.wrap (i.snd.nx+1)) i.snd.pa i.snd.er))]]).sub 0 1).len)*16<=140737488355328/\0+1<=(D.l [[D.s (wnS ws (mR (IntKind.i64.wrap (i.snd.nx+1)) i.snd.pa i.snd.er))]]).len/\∃ (j:D × Rd),(rdOK ws j.snd.nx/\seqA (wkG coB ws) (wkF ws en) ws j.fst j.snd=wkT ws en (mR nx pa er)/\j.fst.len+left ws j.snd<=(1000001:Nat))/\left ws j.snd<left ws i.snd/\ws.rows=ws.rows/\(wnR ws en (1:Int) (mR (IntKind.i64.wrap (i.snd.nx+1)) i.snd.pa i.snd.er)).nx=j.snd.nx/\en=en/\(wnR ws en (1:Int) (mR (IntKind.i64.wrap (i.snd.nx+1)) i.snd.pa i.snd.er)).er=j.snd.er/\(wnR ws en (1:Int) (mR (IntKind.i64.wrap (i.snd.nx+1)) i.snd.pa i.snd.er)).pa=j.snd.pa/\Value.string (wnS ws (mR nx pa er))=Value.string (wnS ws (mR nx pa er))/\wkK ws en (mR nx pa er)=wkK ws en (mR nx pa er)/\wnN ws E177=wnN ws E177/\Value.string E173=Value.string E173/\Value.string E174=Value.string E174/\i.fst.len+((D.l [[D.s (wnS ws (mR (IntKind.i64.wrap (i.snd.nx+1)) i.snd.pa i.snd.er))]]).sub 0 1).len=j.fst.len/\i.fst.rows++List.drop 0 (List.take 1 [[D.s (wnS ws (mR (IntKind.i64.wrap (i.snd.nx+1)) i.snd.pa i.snd.er))]])=j.fst.rows/\Value.string ByteArray.empty=Value.string ByteArray.empty/\(0:Int)=(0:Int)/\(0:Int)=(0:Int)/\Value.string ByteArray.empty=Value.string ByteArray.empty/\Value.string ByteArray.empty=Value.string ByteArray.empty)/\(isB ws coB i.snd=false->rdOK ws i.snd.nx/\rdOK ws (muR ws en cbB i.snd).nx/\Value.string (wnS ws (mR nx pa er))=Value.string E171.nm/\wkK ws en (mR nx pa er)=E171.k/\wnN ws E177=E171.n/\Value.string E173=Value.string E171.fr/\Value.string E174=Value.string E171.to/\i.fst.len=E171.tg.len/\ws.rows=ws.rows/\(muR ws en seB (muR ws en cbB i.snd)).nx=E172.nx/\en=en/\(muR ws en seB (muR ws en cbB i.snd)).er=E172.er/\(muR ws en seB (muR ws en cbB i.snd)).pa=E172.pa/\i.fst.rows=E171.tg.rows)))) (by kernel_rfl) ?_
  dsimp +instances only [withv]
  intro h;have a:=(wn_up en 1 (r:=mR nx pa er) h).1;refine ⟨h,⟨0,⟨by decide,trivial⟩,(by (repeat' (with_reducible apply And.intro))<;>first |with_reducible rfl |exact True.intro |assumption |(symm;assumption) |rfl)⟩,fun i hi=>⟨fun hc=>?_,fun hc=>?_⟩⟩
  ·have hc:=of_decide_eq_true hc;have hi2:i<3:=by omega
   have hw:IntKind.i64.wrap ((i:Int)+1)=((i+1:Nat):Int):=by rw [IntWalk.i64_in _ (by omega)];omega
   refine ⟨⟨by omega,by omega⟩,hi2,a,fun hb=>⟨i+1,⟨hi2,trivial⟩,by omega,hw,?_⟩,fun hb=>⟨i+1,⟨hi2,trivial⟩,by omega,hw,?_⟩⟩
   ·have hb:isB ws (sgK.el i 0).toS (wk0 ws en (mR nx pa er))=true:=hb;have e:ixR ws sgK (wk0 ws en (mR nx pa er)) (i+1)=(i:Int):=if_pos hb;rw [e]
    (repeat' (with_reducible apply And.intro))<;>first |with_reducible rfl |exact True.intro |assumption |(symm;assumption) |rfl
   ·have hb:isB ws (sgK.el i 0).toS (wk0 ws en (mR nx pa er))=false:=hb;have e:ixR ws sgK (wk0 ws en (mR nx pa er)) (i+1)=ixR ws sgK (wk0 ws en (mR nx pa er)) i:=if_neg (by rw [hb];decide)
    rw [e]
    (repeat' (with_reducible apply And.intro))<;>first |with_reducible rfl |exact True.intro |assumption |(symm;assumption) |rfl
  have hc:=of_decide_eq_false hc;obtain rfl:i=3:=by have:=hi.1;omega
  refine ⟨fun hz=>?_,fun hz=>?_⟩
  ·have hz:wkK ws en (mR nx pa er)<0:=of_decide_eq_true hz;have e:wkZ ws en (mR nx pa er)=⟨wnS ws (mR nx pa er),wkK ws en (mR nx pa er),0,ByteArray.empty,ByteArray.empty,.l []⟩:=if_pos hz;have e2:wkR ws en (mR nx pa er)=ffR ws en 5 (wk0 ws en (mR nx pa er)):=if_pos hz;rw [e,e2]
   (repeat' (with_reducible apply And.intro))<;>first |with_reducible rfl |exact True.intro |assumption |(symm;assumption) |rfl
  have hz:¬ wkK ws en (mR nx pa er)<0:=of_decide_eq_false hz;have hx:=ix_lt (ws:=ws) (sg:=sgK) (r:=wk0 ws en (mR nx pa er)) 3 (by unfold wkK at hz;omega)
  have g:=(gx_up a hx.2.1).1;have a2:rdOK ws (wk0 ws en (mR nx pa er)).nx:=a;rw [nx1 a2 hx.2.1];have e4:mR ((wk0 ws en (mR nx pa er)).nx+1) (wk0 ws en (mR nx pa er)).pa (wk0 ws en (mR nx pa er)).er=wk1 ws en (mR nx pa er):=rfl;rw [e4];obtain ⟨⟨b1,b2,b3,b4,b5,b6,b7⟩,c1,c2,c3,c4⟩:=wk_up en (r:=mR nx pa er) g;have l0:=(lf_lt b7).2;refine ⟨g,b1,b2,b3,b4,b5,b6,(by show (0+1)*16<=140737488355328;decide),Nat.le_refl 1,⟨(.l [[.s (wnS ws (wk4 ws en (mR nx pa er)))]],wnR ws en 1 (wk4 ws en (mR nx pa er))),⟨b7,rfl,(by show 1+left ws (wnR ws en 1 (wk4 ws en (mR nx pa er)))<=1000001;omega)⟩,(by (repeat' (with_reducible apply And.intro))<;>first |with_reducible rfl |exact True.intro |assumption |(symm;assumption) |rfl)⟩,?_⟩
  rintro q ⟨h1,h2,h3⟩;refine ⟨h1,fun hc=>?_,fun hc=>?_⟩
  ·have hg:wkG coB ws q.2=true:=hc;obtain ⟨u1,u2⟩:=(wk_sq en).up q.2 h1 hg;have u3:=lt_left u1 h1 u2;have hs:=seq_step (wk_sq en) (d:=q.1) h1 hg;have hz:(q.1.len+1)*16<=140737488355328:=by omega
   have hl:(D.l (q.1.rows++[(wkF ws en q.2).1])).len+left ws (wkF ws en q.2).2<=1000001:=by rw [ap_len];omega
   rw [nx1 h1 (isB_lt hc).2];have e3:mR (q.2.nx+1) q.2.pa q.2.er=gx q.2:=rfl;rw [e3];have m1:=(gx_up h1 (isB_lt hc).2).1;refine ⟨m1,rfl,hz,Nat.le_refl 1,(.l (q.1.rows++[(wkF ws en q.2).1]),(wkF ws en q.2).2),⟨u1,hs.trans h2,hl⟩,u3,?_⟩
   (repeat' (with_reducible apply And.intro))<;>first |with_reducible rfl |exact True.intro |exact (ap_len _ _).symm |rfl
  ·have hg:wkG coB ws q.2=false:=hc;have h2:(q.1,q.2)=wkT ws en (mR nx pa er):=(seq_end hg).symm.trans h2;have f1:=(mu_up en (t:=cbB) h1).1;have e:wkZ ws en (mR nx pa er)=⟨wnS ws (mR nx pa er),wkK ws en (mR nx pa er),wnN ws (wk1 ws en (mR nx pa er)),wnS ws (wk2 ws en (mR nx pa er)),wnS ws (wk3 ws en (mR nx pa er)),q.1⟩:=(if_neg hz).trans (by rw [<- h2])
   have e2:wkR ws en (mR nx pa er)=muR ws en seB (muR ws en cbB q.2):=(if_neg hz).trans (by rw [<- h2])
   rw [e,e2]
   (repeat' (with_reducible apply And.intro))<;>first |with_reducible rfl |exact True.intro |assumption |(symm;assumption) |rfl
 ·trivial
end Go.Proofs.YtbhbjhejkamlnaaGreat.Sx.Z
namespace Go.Proofs.YtbhbjhejkamlnaaGreat
open Go.RowKit
theorem rlet_any (n:Int) (w:World):Calls Tryz.prog 50 #[.int .u8 n] w fun e w'=>e = .returned (.bool (letB n))/\w=w':=by
 unfold letB
 go_enter Tryz.func50,Tryz.ntmps50
 go_wp2
 all_goals
  go_ret
  exact ⟨by first |(simp [*];done) |(simp [*];omega),rfl⟩
theorem rdig_any (n:Int) (w:World):Calls Tryz.prog 51 #[.int .u8 n] w fun e w'=>e = .returned (.bool (digB n))/\w=w':=by
 unfold digB
 go_enter Tryz.func51,Tryz.ntmps51
 go_wp2
 all_goals
  go_ret
  exact ⟨by first |(simp [*];done) |(simp [*];omega),rfl⟩
def resW:List ByteArray:=[⟨#[99,104,97,110]⟩,⟨#[98,108,111,99,107]⟩,⟨#[100,114,111,112]⟩,⟨#[108,111,115,115,121]⟩,⟨#[102,114,111,109]⟩,⟨#[116,111]⟩,
 ⟨#[114,117,108,101]⟩,⟨#[112,114,111,99]⟩,⟨#[118,97,114]⟩,⟨#[105,102]⟩,⟨#[101,108,115,101]⟩,⟨#[119,104,105,108,101]⟩,
 ⟨#[115,101,110,100]⟩,⟨#[114,101,99,118]⟩,⟨#[97,115,115,101,114,116]⟩,⟨#[105,110,112,117,116]⟩]
def resCells:Array Value:=(resW.map Value.string).toArray
theorem resB_any (s:ByteArray):resB s.toList=resW.any fun x=>x.toList==s.toList:=by
 rw [Bool.eq_iff_iff];simp only [resW,resB,List.any_cons,List.any_nil,Bool.or_false,Bool.or_eq_true,beq_iff_eq,Lib.toList_data];simp only [or_assoc,eq_comm (b:=s.data.toList)]
theorem rwords_any (w:World):Calls Tryz.prog 83 #[] w fun e w'=>e = .returned (.slice (some ⟨w.heap.size,0,none⟩) 16 16)/\w.alloc (.cells resCells 9)=w':=by
 go_enter Tryz.func83,Tryz.ntmps83
 go_wp2
 go_ret
 exact ⟨rfl,rfl⟩
def NoneOf (s:ByteArray) (k:Nat):Prop:=∀ j,j<k->((resW.getD j ⟨#[]⟩).toList==s.toList)=false
set_option maxHeartbeats 1000000 in
theorem rres_any (s:ByteArray) (w:World):Calls Tryz.prog 52 #[.string s] w fun e w'=>e = .returned (.bool (resB s.toList))/\Below w.heap.size w w':=by
 have hcells:∀ k,k<16->(w.alloc (.cells resCells 9)).cell? ⟨w.heap.size,k,none⟩=some (.string (resW.getD k ⟨#[]⟩)):=by
  intro k hk;have h:=cell_of_row (w.alloc (.cells resCells 9)) w.heap.size k resCells 9 (0,0) (heap_alloc_new w _);rw [h]
  match k,hk with
  | 0,_=>rfl
  | 1,_=>rfl
  | 2,_=>rfl
  | 3,_=>rfl
  | 4,_=>rfl
  | 5,_=>rfl
  | 6,_=>rfl
  | 7,_=>rfl
  | 8,_=>rfl
  | 9,_=>rfl
  | 10,_=>rfl
  | 11,_=>rfl
  | 12,_=>rfl
  | 13,_=>rfl
  | 14,_=>rfl
  | 15,_=>rfl
  |n+16,h=>omega
 have hb:Below w.heap.size w (w.alloc (.cells resCells 9)):=(Below.refl _ _).alloc (Nat.le_refl _) _;have Hcells:=Lib.hid hcells;clear hcells
 go_enter Tryz.func52,Tryz.ntmps52
 go_wp2_with (go_at_call 83;refine (rwords_any _).mono ?_;rintro e w1 ⟨rfl,hw1⟩)
 generalize hW:w.alloc (.cells resCells 9)=W at *;subst hw1;clear hW
 go_loop [4] (fun i=>∃ k:Nat,k<=16/\NoneOf s k/\i = .int .i64 k) (fun i=>16-(intOf i).toNat)
 case atStart=>exact ⟨0,by omega,fun j h=>by omega,rfl⟩
 case round=>
  obtain ⟨k,hk,hnone,rfl⟩:=hrel
  by_cases hlt:k<16
  ·have hc:=Hcells.out k hlt
   rcases Bool.eq_false_or_eq_true ((resW.getD k ⟨#[]⟩).toList==s.toList) with he |he
   ·have Hfin:=Lib.hid (show resB s.toList=true by
     rw [resB_any,List.any_eq_true];have hl:k<resW.length:=hlt;exact ⟨resW.getD k ⟨#[]⟩,by rw [List.getD_eq_getElem?_getD,List.getElem?_eq_getElem hl];exact List.getElem_mem _,he⟩)
    generalize resW.getD k ⟨#[]⟩=x at *
    go_wp2_with fail
    go_ret
    exact ⟨by rw [Hfin.out];rfl,hb⟩
   ·have hnone':NoneOf s (k+1):=fun j hj=>by
     rcases Nat.lt_or_ge j k with h |h
     ·exact hnone j h
     ·rw [show j=k from by omega];exact he
    generalize resW.getD k ⟨#[]⟩=x at *
    go_wp2_with fail
    go_round
    case rel=>exact ⟨k+1,by omega,hnone',by go_num⟩
    case measure=>simp [intOf];omega
  ·have Hfin:=Lib.hid (show resB s.toList=false by
    rw [resB_any,List.any_eq_false];intro x hx;obtain ⟨j,hj,rfl⟩:=List.getElem_of_mem hx;have h1:=hnone j (by have:resW.length=16:=rfl;omega)
    rw [List.getD_eq_getElem?_getD,List.getElem?_eq_getElem hj] at h1
    simpa using h1)
   go_wp2_with fail
   go_ret
   exact ⟨by rw [Hfin.out];rfl,hb⟩
end Go.Proofs.YtbhbjhejkamlnaaGreat
namespace Go.Proofs.YtbhbjhejkamlnaaGreat
open Go.RowKit
theorem below_drewN {B:Nat} {a w:World} (h:Below B a w) (n:Nat):Below B a (w.drewN n):=⟨h.os,h.tape,h.output,h.size,h.block⟩
theorem lexR_len {s:ByteArray} {acc:List Tok} (h:lexR s=(acc,0,0)):acc.length<=2000:=by
 unfold lexR at h
 split at h
 ·injection h with h _
  subst h;exact Nat.zero_le _
 ·split at h
  ·injection h with h _
   subst h;exact Nat.zero_le _
  ·injection h with h _
   subst h;omega
end Go.Proofs.YtbhbjhejkamlnaaGreat
namespace Go.Proofs.YtbhbjhejkamlnaaGreat
open Go.RowKit
def twoW:List ByteArray:=[⟨#[61,61]⟩,⟨#[33,61]⟩,⟨#[60,61]⟩,⟨#[62,61]⟩]
def twoCells:Array Value:=(twoW.map Value.string).toArray
def oneL:List UInt8:=[123,125,40,41,59,44,46,61,60,62,43,45,42,47,37]
theorem u8_int (a:UInt8) (n:UInt8):((a.toNat:Int)=(n.toNat:Int))↔a=n:=by
 constructor
 ·intro h;exact UInt8.toNat_inj.1 (by omega)
 ·rintro rfl;rfl
theorem sgnB_u8 (a:UInt8) (p:Bool):sgnB (a.toNat:Int) p =
 if a=61 ∨ a=60 ∨ a=62 then (if p then 2 else 1) else if a=33 then (if p then 2 else 0)
 else if a=123 ∨ a=125 ∨ a=40 ∨ a=41 ∨ a=59 ∨ a=44 ∨ a=46 ∨ a=43 ∨ a=45 ∨ a=42 ∨ a=47 ∨ a=37 then 1 else 0:=by
 unfold sgnB;have h:∀ n:UInt8,((a.toNat:Int)=(n.toNat:Int))=(a=n):=fun n=>propext (u8_int a n)
 have e:((a.toNat:Int)=61)=(a=61):=h 61;have e1:((a.toNat:Int)=60)=(a=60):=h 60;have e2:((a.toNat:Int)=62)=(a=62):=h 62;have e3:((a.toNat:Int)=33)=(a=33):=h 33;have e4:((a.toNat:Int)=123)=(a=123):=h 123;have e5:((a.toNat:Int)=125)=(a=125):=h 125;have e6:((a.toNat:Int)=40)=(a=40):=h 40;have e7:((a.toNat:Int)=41)=(a=41):=h 41;have e8:((a.toNat:Int)=59)=(a=59):=h 59;have e9:((a.toNat:Int)=44)=(a=44):=h 44;have e10:((a.toNat:Int)=46)=(a=46):=h 46;have e11:((a.toNat:Int)=43)=(a=43):=h 43;have e12:((a.toNat:Int)=45)=(a=45):=h 45;have e13:((a.toNat:Int)=42)=(a=42):=h 42;have e14:((a.toNat:Int)=47)=(a=47):=h 47;have e15:((a.toNat:Int)=37)=(a=37):=h 37;simp only [e,e1,e2,e3,e4,e5,e6,e7,e8,e9,e10,e11,e12,e13,e14,e15]
theorem sgn_yes (r:List UInt8) (j:Nat) (hj:j<4) (h:r.take 2=(twoW.getD j ⟨#[]⟩).data.toList):sgnLen r=2:=by
 have hr:∃ a t,r=a::61::t/\(a=61 ∨ a=33 ∨ a=60 ∨ a=62):=by
  match r,j,hj with
  | [],0,_=>cases h
  | [],1,_=>cases h
  | [],2,_=>cases h
  | [],3,_=>cases h
  | [a],0,_=>cases h
  | [a],1,_=>cases h
  | [a],2,_=>cases h
  | [a],3,_=>cases h
  |a::b::t,0,_=>
   have h : [a,b]=[61,61]:=h;simp at h;obtain ⟨rfl,rfl⟩:=h;exact ⟨_,t,rfl,.inl rfl⟩
  |a::b::t,1,_=>
   have h : [a,b]=[33,61]:=h;simp at h;obtain ⟨rfl,rfl⟩:=h;exact ⟨_,t,rfl,.inr (.inl rfl)⟩
  |a::b::t,2,_=>
   have h : [a,b]=[60,61]:=h;simp at h;obtain ⟨rfl,rfl⟩:=h;exact ⟨_,t,rfl,.inr (.inr (.inl rfl))⟩
  |a::b::t,3,_=>
   have h : [a,b]=[62,61]:=h;simp at h;obtain ⟨rfl,rfl⟩:=h;exact ⟨_,t,rfl,.inr (.inr (.inr rfl))⟩
  |_,j+4,h=>omega
 obtain ⟨a,t,rfl,ha⟩:=hr;show sgnB (a.toNat:Int) ((61:UInt8)==61)=2;rw [sgnB_u8]
 rcases ha with rfl |rfl |rfl |rfl<;>decide
theorem sgn_no (r:List UInt8) (h0:0<r.length) (h:∀ j,j<4->r.take 2≠(twoW.getD j ⟨#[]⟩).data.toList):sgnLen r=if r.headD 0∈oneL then 1 else 0:=by
 have key:∀ a:UInt8,sgnB (a.toNat:Int) false=if a∈oneL then 1 else 0:=by
  intro a;rw [sgnB_u8];simp only [oneL,List.mem_cons,List.not_mem_nil,or_false,Bool.false_eq_true,if_false]
  by_cases h1:a=61 ∨ a=60 ∨ a=62
  ·rw [if_pos h1,if_pos (by rcases h1 with h |h |h<;>simp [h])]
  ·rw [if_neg h1]
   by_cases h2:a=33
   ·subst h2;decide
   ·rw [if_neg h2];have e:(a=123 ∨ a=125 ∨ a=40 ∨ a=41 ∨ a=59 ∨ a=44 ∨ a=46 ∨ a=43 ∨ a=45 ∨ a=42 ∨ a=47 ∨ a=37)↔(a=123 ∨ a=125 ∨ a=40 ∨ a=41 ∨ a=59 ∨ a=44 ∨ a=46 ∨ a=61 ∨ a=60 ∨ a=62 ∨ a=43 ∨ a=45 ∨ a=42 ∨ a=47 ∨ a=37):=by
     have n1:a≠61:=fun e=>h1 (.inl e)
     have n2:a≠60:=fun e=>h1 (.inr (.inl e))
     have n3:a≠62:=fun e=>h1 (.inr (.inr e))
     simp [n1,n2,n3]
    by_cases h3:(a=123 ∨ a=125 ∨ a=40 ∨ a=41 ∨ a=59 ∨ a=44 ∨ a=46 ∨ a=43 ∨ a=45 ∨ a=42 ∨ a=47 ∨ a=37)
    ·rw [if_pos h3,if_pos (e.1 h3)]
    ·rw [if_neg h3,if_neg (fun hx=>h3 (e.2 hx))]
 match r,h0 with
 | [a],_=>exact key a
 |a::b::t,_=>
  show sgnB (a.toNat:Int) (b==61)=if a∈oneL then 1 else 0
  by_cases hb:b=61
  ·subst hb;have m0:a≠61:=fun e=>h 0 (by omega) (by rw [e];rfl)
   have m1:a≠33:=fun e=>h 1 (by omega) (by rw [e];rfl)
   have m2:a≠60:=fun e=>h 2 (by omega) (by rw [e];rfl)
   have m3:a≠62:=fun e=>h 3 (by omega) (by rw [e];rfl)
   rw [<- key a,sgnB_u8,sgnB_u8];simp [m0,m1,m2,m3]
  ·rw [<- key a];have:(b==61)=false:=by simpa using hb
   rw [this]
def NoTwo (s:ByteArray) (p k:Nat):Prop:=∀ j,j<k->(s.data.toList.drop p).take 2≠(twoW.getD j ⟨#[]⟩).data.toList
def NoOne (b:UInt8) (k:Nat):Prop:=∀ j,j<k->oneL.getD j 0≠b
set_option maxRecDepth 100000 in
set_option maxHeartbeats 4000000 in
theorem rsign_any (s:ByteArray) (p:Nat) (w:World) (hs:s.size<=140737488351232) (hp:p<s.size) :
 Calls Tryz.prog 53 #[.string s,.int .i64 p] w fun e w'=>e = .returned (.int .i64 (sgnLen (s.data.toList.drop p)))/\Below w.heap.size w w':=by
 have hcells:∀ k,k<4->(w.alloc (.cells twoCells 9)).cell? ⟨w.heap.size,k,none⟩=some (.string (twoW.getD k ⟨#[]⟩)):=by
  intro k hk;have h:=cell_of_row (w.alloc (.cells twoCells 9)) w.heap.size k twoCells 9 (0,0) (heap_alloc_new w _);rw [h]
  match k,hk with
  | 0,_=>rfl
  | 1,_=>rfl
  | 2,_=>rfl
  | 3,_=>rfl
  |n+4,h=>omega
 have hb:Below w.heap.size w (w.alloc (.cells twoCells 9)):=(Below.refl _ _).alloc (Nat.le_refl _) _;have Hcells:=Lib.hid hcells;clear hcells;have hlen:(s.data.toList.drop p).length=s.size-p:=by simp
 have Hlen:=Lib.hid hlen;clear hlen
 go_enter Tryz.func53,Tryz.ntmps53
 go_wp2_with fail
 generalize hW:w.alloc (.cells #[Value.string ⟨#[61,61]⟩,Value.string ⟨#[33,61]⟩,Value.string ⟨#[60,61]⟩,Value.string ⟨#[62,61]⟩] 9)=W at *;have hW':w.alloc (.cells twoCells 9)=W:=hW;rw [hW'] at Hcells hb;clear hW hW'
 go_loopw [6] (fun i wr=>∃ (k m:Nat),k<=4/\NoTwo s p k/\i = .int .i64 k/\wr=W.drewN m) (fun i _=>4-(intOf i).toNat)
 case atStart=>exact ⟨0,0,by omega,fun j h=>by omega,rfl,rfl⟩
 case round=>
  obtain ⟨k,m,hk,hno,rfl,rfl⟩:=hrel
  by_cases hlt:k<4
  ·have hc:=Hcells.out k hlt
   by_cases h2:p+2<=s.size
   ·have ht:(s.extract p (p+2)).toList=(s.data.toList.drop p).take 2:=by
     have:=Lib.extract_toList s p (p+2);rw [show p+2-p=2 from by omega] at this
     exact this
    have hd:(p:Int)+2<=(s.size:Int):=by omega
    rcases Bool.eq_false_or_eq_true ((s.extract p (p+2)).toList==(twoW.getD k ⟨#[]⟩).toList) with he |he
    ·have Hfin:=Lib.hid (sgn_yes (s.data.toList.drop p) k hlt (by rw [<- ht,beq_iff_eq.1 he,Lib.toList_data]))
     generalize twoW.getD k ⟨#[]⟩=x at *;clear ht
     go_wp2_with fail
     go_quiet (fail)
     go_wp2_with fail
     go_ret
     exact ⟨by rw [Hfin.out];rfl,below_drewN (below_drewN hb _) _⟩
    ·have hno':NoTwo s p (k+1):=fun j hj=>by
      rcases Nat.lt_or_ge j k with h |h
      ·exact hno j h
      ·rw [show j=k from by omega,<- ht,<- Lib.toList_data]
       exact beq_eq_false_iff_ne.1 he
     generalize twoW.getD k ⟨#[]⟩=x at *;clear ht
     go_wp2_with fail
     go_quiet (fail)
     go_wp2_with fail
     go_roundw
     case rel=>exact ⟨k+1,_,by omega,hno',by go_num,rfl⟩
     case measure=>simp [intOf];omega
   ·have hno':NoTwo s p (k+1):=fun j hj=>by
     rcases Nat.lt_or_ge j k with h |h
     ·exact hno j h
     ·intro e;have e2:=congrArg List.length e;rw [List.length_take,Hlen.out] at e2;have:∀ j,j<4->(twoW.getD j ⟨#[]⟩).data.toList.length=2:=fun j hj=>by
       match j,hj with
       | 0,_=>rfl
       | 1,_=>rfl
       | 2,_=>rfl
       | 3,_=>rfl
       |n+4,h=>omega
      rw [this j (by omega)] at e2
      omega
    have hd:decide ((p:Int)+2<=(s.size:Int))=false:=by simp;omega
    go_wp2_with fail
    go_quiet (fail)
    go_wp2_with fail
    go_roundw
    case rel=>exact ⟨k+1,_,by omega,hno',by go_num,rfl⟩
    case measure=>simp [intOf];omega
  ·obtain rfl:k=4:=by omega
   have hsn:=sgn_no (s.data.toList.drop p) (by rw [Hlen.out];omega) hno
   rw [head_drop,getD_eq s p hp] at hsn;have Hsn:=Lib.hid hsn;clear hsn;have hbm:=below_drewN hb m;generalize W.drewN m=W1 at *
   go_wp2_with fail
   obtain ⟨O,hO,hOs,hOd⟩:∃ O:ByteArray,(⟨#[123,125,40,41,59,44,46,61,60,62,43,45,42,47,37]⟩:ByteArray)=O/\O.size=15/\O.data.toList=oneL:=⟨_,rfl,rfl,rfl⟩;rw [hO];have HOd:=Lib.hid hOd;clear hO hOd
   go_loopw [8] (fun i wr=>∃ (k m:Nat),k<=15/\NoOne s[p] k/\i = .int .i64 k/\wr=W1.drewN m) (fun i _=>15-(intOf i).toNat)
   case atStart=>exact ⟨0,0,by omega,fun j h=>by omega,rfl,rfl⟩
   case round=>
    obtain ⟨k,m2,hk2,hno2,rfl,rfl⟩:=hrel
    by_cases hlt2:k<15
    ·have hkO:k<O.size:=by rw [hOs];exact hlt2
     have hget:oneL.getD k 0=O[k]:=by rw [<- HOd.out,getD_eq O k hkO]
     have hmem:O[k]∈oneL:=by
      rw [<- hget,List.getD_eq_getElem?_getD,List.getElem?_eq_getElem (show k<oneL.length from hlt2)]
      exact List.getElem_mem _
     rcases Bool.eq_false_or_eq_true ((O[k].toNat:Int)==(s[p].toNat:Int)) with he |he
     ·have hes:O[k]=s[p]:=(u8_int _ _).1 (beq_iff_eq.1 he);have Hfin:=Lib.hid (show sgnLen (s.data.toList.drop p)=1 by rw [Hsn.out,if_pos (by rw [<- hes];exact hmem)])
      clear hes hmem hget
      go_wp2_with fail
      go_quiet (fail)
      go_wp2_with fail
      go_ret
      exact ⟨by rw [Hfin.out];rfl,below_drewN (below_drewN hbm _) _⟩
     ·have hno2':NoOne s[p] (k+1):=fun j hj=>by
       rcases Nat.lt_or_ge j k with h |h
       ·exact hno2 j h
       ·rw [show j=k from by omega,hget]
        exact fun e=>beq_eq_false_iff_ne.1 he (by rw [e])
      clear hmem hget
      go_wp2_with fail
      go_quiet (fail)
      go_wp2_with fail
      go_roundw
      case rel=>exact ⟨k+1,_,by omega,hno2',by go_num,rfl⟩
      case measure=>simp [intOf];omega
    ·have Hfin:=Lib.hid (show sgnLen (s.data.toList.drop p)=0 by
      rw [Hsn.out,if_neg];intro hx;obtain ⟨j,hj,e⟩:=List.getElem_of_mem hx;have hj15:j<15:=hj;have h1:=hno2 j (by omega)
      rw [List.getD_eq_getElem?_getD,List.getElem?_eq_getElem hj] at h1;exact h1 e)
     go_wp2_with fail
     go_ret
     exact ⟨by rw [Hfin.out];rfl,below_drewN hbm _⟩
end Go.Proofs.YtbhbjhejkamlnaaGreat
namespace Go.Proofs.YtbhbjhejkamlnaaGreat
open Go.RowKit
theorem info_rtok:(Tryz.prog.info? 132).map (fun i=>(i.zero,i.size,i.bytes))=some (some (.agg #[.int .i64 0,.string ⟨#[]⟩,.int .i64 0,.int .i64 0]),4,40):=by kernel_rfl
def RLexPost (s:ByteArray) (w:World) (e:Ending) (w':World):Prop:=
 ∃ A c,e = .returned (.tuple #[.slice A (lexR s).1.length c,.int .i64 ((lexR s).2.1:Nat),.int .i64 (lexR s).2.2]) /\
   w'.ownsRow w.heap.size 132 4 (.slice A (lexR s).1.length c) (lexR s).1.length (tcells (lexR s).1)/\Below w.heap.size w w'
theorem RLexPost.bad {s:ByteArray} {w w':World} {p:Nat} {x:Int} (h:lexR s=([],p,x)) (hb:Below w.heap.size w w'):RLexPost s w (.returned (.tuple #[.slice none 0 0,.int .i64 p,.int .i64 x])) w':=by
 unfold RLexPost;rw [h];exact ⟨none,0,rfl,World.ownsRow_nil _ _ _ _,hb⟩
theorem RLexPost.good {s:ByteArray} {w w':World} {A:Option Addr} {n c:Nat} {acc:List Tok} (h:lexR s=(acc,0,0)) (hn:n=acc.length) (ho:w'.ownsRow w.heap.size 132 4 (.slice A n c) n (tcells acc)) (hb:Below w.heap.size w w') :
 RLexPost s w (.returned (.tuple #[.slice A n c,.int .i64 0,.int .i64 0])) w':=by
 unfold RLexPost;rw [h];subst hn;exact ⟨A,c,rfl,ho,hb⟩
theorem rsign_at (s:ByteArray) (p:Nat) (w:World) (hs:s.size<=140737488351232) (hp:p<s.size) {d:Nat} (hd:sgnLen (s.data.toList.drop p)=d) :
 Calls Tryz.prog 53 #[.string s,.int .i64 p] w fun e w'=>e = .returned (.int .i64 d)/\Below w.heap.size w w':=by
 subst hd;exact rsign_any s p w hs hp
theorem set_num (wr:World) (t:TypeId) (a b c d e:Value) (m:Nat):((wr.alloc (.cells #[a,b,c,d] t)).drewN m).setCell ⟨wr.heap.size,2,none⟩ e=(wr.alloc (.cells #[a,b,e,d] t)).drewN m:=by
 show ((wr.alloc (.cells #[a,b,c,d] t)).setCell ⟨wr.heap.size,2,none⟩ e).drewN m=_;rw [World.setCell_alloc_at _ _ _ _ _ rfl];rfl
def TokAt (wr wx:World) (g:Nat) (k:Int) (T:ByteArray) (m:Int) (p:Nat):Prop:=
 Below wr.heap.size wr wx/\g<wx.heap.size/\wx.cell? ⟨g,0,none⟩=some (.int .i64 k)/\wx.cell? ⟨g,1,none⟩=some (.string T)/\wx.cell? ⟨g,2,none⟩=some (.int .i64 m)/\wx.cell? ⟨g,3,none⟩=some (.int .i64 p)
set_option maxRecDepth 100000 in
set_option maxHeartbeats 8000000 in
theorem rlex_any (s:ByteArray) (w:World) (hs:s.size<=2147483647) :
 Calls Tryz.prog 18 #[.string s] w fun e w'=>RLexPost s w e w':=by
 obtain ⟨i0,hi,hz0,hz1,hz2⟩:=info_parts info_rtok;obtain ⟨R,hR⟩:∃ R,lexGo s s.size 0 []=R:=⟨_,rfl⟩;have HR:=Lib.hid hR
 go_enter Tryz.func18,Tryz.ntmps18
 go_wp2_with fail
 go_loopw [5,6] (fun v i wr=>∃ (p f:Nat) (acc:List Tok) (A:Option Addr) (n c:Nat),p<=s.size/\s.size<=p+f/\lexGo s f p acc=R/\n=acc.length/\n<=p/\i = .int .i64 p/\v = .slice A n c /\
  wr.ownsRow w.heap.size 132 4 (.slice A n c) n (tcells acc)/\Below w.heap.size w wr)
  (fun _ i _=>s.size-(intOf i).toNat)
 case atStart=>exact ⟨0,s.size,[],none,0,0,by omega,by omega,hR,rfl,by omega,rfl,rfl,World.ownsRow_nil _ _ _ _,Below.refl _ _⟩
 case round=>
  obtain ⟨p,f,acc,A,n,c,hp,hf,hgo,hn,hnp,rfl,rfl,hown,hbw⟩:=hrel;clear hR;have Hn:=Lib.hid hn;clear hn;have Hgo:=Lib.hid hgo;clear hgo
  by_cases hlt:p<s.size
  ·have hgd:=getD_eq s p hlt
   rcases Bool.eq_false_or_eq_true (gapB (s[p].toNat:Int)) with hg |hg
   ·have Hst:=Lib.hid (go_gap hlt (by rw [hgd];exact hg) hf Hgo.out)
    have hg2:(s[p].toNat:Int)==32 ∨ (((s[p].toNat:Int)==32)=false/\((s[p].toNat:Int)==10)=true):=by
     rcases Bool.eq_false_or_eq_true ((s[p].toNat:Int)==32) with h |h
     ·exact .inl h
     ·refine .inr ⟨h,?_⟩;unfold gapB at hg;rw [h,Bool.false_or] at hg;exact hg
    clear hgd hg
    rcases hg2 with h32 |⟨h32,h10⟩
    all_goals
     go_wp2_with fail
     go_roundw
     case rel=>
      obtain ⟨f',hf',hgo'⟩:=Hst.out;exact ⟨p+1,f',acc,A,n,c,by omega,hf',hgo',Hn.out,by omega,by go_num,rfl,hown,hbw⟩
     case measure=>simp [intOf];omega
   ·have hgU:gapU (s.data.toList.getD p 0)=false:=by rw [hgd];exact hg
    have hhd:(s.data.toList.drop p).headD 0=s[p]:=by rw [head_drop,hgd]
    have h32:((s[p].toNat:Int)==32)=false/\((s[p].toNat:Int)==10)=false:=by
     unfold gapB at hg
     rcases Bool.eq_false_or_eq_true ((s[p].toNat:Int)==32) with h |h
     ·rw [h] at hg;cases hg
     ·rw [h,Bool.false_or] at hg;exact ⟨h,hg⟩
    obtain ⟨h32,h10⟩:=h32;clear hgd hg
    rcases Bool.eq_false_or_eq_true (letB (s[p].toNat:Int)) with hl |hl
    ·
     have hE0:wordE (s.data.toList.drop p)=nameE (s.data.toList.drop p):=by
      unfold wordE;rw [hhd,if_pos (show letU s[p]=true from hl)]
     obtain ⟨d,hd⟩:∃ d,lenOf alnU (s.data.toList.drop p)=d:=⟨_,rfl⟩;have hd1:p+d<=s.size:=by
      have h1:=lenOf_le alnU (s.data.toList.drop p);have hl0:s.data.toList.length=s.size:=Array.length_toList;rw [hd,List.length_drop,hl0] at h1;omega
     have Hd:=Lib.hid hd;have HE0:=Lib.hid hE0;clear hd hE0 hhd
     go_upto_block 2 with fail
     go_cut [8] from 12 to 146 (fun e8 wx=>e8 = .int .i64 ((p+d:Nat):Int)/\wx=wr)
     case first=>
      go_wp2_with fail
      go_loop [8] (fun e=>∃ k:Nat,Run alnU s p k/\e = .int .i64 k) (fun e=>s.size-(intOf e).toNat)
      case atStart=>exact ⟨p,Run.start (by omega),rfl⟩
      case round=>
       obtain ⟨k,hk,rfl⟩:=hrel;have hk1:=hk.1;have hk2:=hk.2.1
       by_cases hlt2:k<s.size
       ·rcases Bool.eq_false_or_eq_true (letB (s[k].toNat:Int)) with hl2 |hl2
        ·go_wp2_with (first |(go_at_call 50;refine (rlet_any _ _).mono ?_;rintro e w' ⟨rfl,rfl⟩) |(go_at_call 51;refine (rdig_any _ _).mono ?_;rintro e w' ⟨rfl,rfl⟩))
         go_round
         case rel=>exact ⟨k+1,hk.step hlt2 (by simp [alnU,letU,hl2]),by go_num⟩
         case measure=>simp [intOf];omega
        ·rcases Bool.eq_false_or_eq_true (digB (s[k].toNat:Int)) with hd2 |hd2
         ·go_wp2_with (first |(go_at_call 50;refine (rlet_any _ _).mono ?_;rintro e w' ⟨rfl,rfl⟩) |(go_at_call 51;refine (rdig_any _ _).mono ?_;rintro e w' ⟨rfl,rfl⟩))
          go_round
          case rel=>exact ⟨k+1,hk.step hlt2 (by simp [alnU,digU,hd2]),by go_num⟩
          case measure=>simp [intOf];omega
         ·have hn2:=hk.len (fun h=>by rw [getD_eq s k h];simp [alnU,letU,digU,hl2,hd2])
          rw [Hd.out] at hn2;have Hkd:=Lib.hid (show p+d=k by omega)
          clear hn2
          go_wp2_with (first |(go_at_call 50;refine (rlet_any _ _).mono ?_;rintro e w' ⟨rfl,rfl⟩) |(go_at_call 51;refine (rdig_any _ _).mono ?_;rintro e w' ⟨rfl,rfl⟩))
          go_meet
          case rel=>exact ⟨by rw [Hkd.out],rfl⟩
       ·have hn2:=hk.len (fun h=>absurd h hlt2)
        rw [Hd.out] at hn2;have Hkd:=Lib.hid (show p+d=k by omega)
        clear hn2
        go_wp2_with fail
        go_meet
        case rel=>exact ⟨by rw [Hkd.out],rfl⟩
     case rest=>
      obtain ⟨rfl,hwc⟩:=hcut;have hwc2:=hwc.symm;subst hwc2;clear hwc;obtain ⟨T,hT⟩:∃ T,s.extract p (p+d)=T:=⟨_,rfl⟩;have hTs:T.size=d:=by rw [<- hT];simp;omega
      have hTl:T.toList=(s.data.toList.drop p).take d:=by
       rw [<- hT,Lib.extract_toList,show p+d-p=d from by omega]
      have HTl:=Lib.hid hTl;clear hTl;have hb0:Below wr.heap.size wr (wr.alloc (.cells #[.int .i64 1,.string T,.int .i64 0,.int .i64 p] 132)).drew:=(below_new (Below.refl _ wr) (Nat.le_refl _) _).drew;have hsz0:(wr.alloc (.cells #[.int .i64 1,.string T,.int .i64 0,.int .i64 p] 132)).drew.heap.size=wr.heap.size+1:=by simp
      by_cases h12:12<d
      ·have Hfin:=Lib.hid (lexR_err HR.out (go_err hlt hgU (e:=3) (by rw [HE0.out];unfold nameE;rw [Hd.out,if_pos h12]) hf Hgo.out))
       go_upto_block 4 with fail
       go_wp2_with (go_at_call 50;refine (rlet_any _ _).mono ?_;rintro e w' ⟨rfl,rfl⟩)
       go_region
       go_wp2_with fail
       refine (rres_any T _).mono ?_
       rintro e w2 ⟨rfl,hb2⟩;obtain ⟨hc,hfz⟩:=bcell hb2;have hz:wr.heap.size<w2.heap.size:=by have:=hb2.size;rw [hsz0] at this;omega
       have hb3:Below w.heap.size w w2:=(hbw.trans (hb0.mono hbw.size)).trans (hb2.mono (by rw [hsz0];have:=hbw.size;omega))
       clear hb2 hb0 hsz0
       rcases Bool.eq_false_or_eq_true (resB T.toList) with hr |hr
       ·go_wp2_with fail
        go_ret3
        exact RLexPost.bad Hfin.out (hb3.setCell hbw.size _)
       ·go_wp2_with fail
        go_ret3
        exact RLexPost.bad Hfin.out hb3
      ·obtain ⟨kd,hkd⟩:∃ kd:Int,(if resB T.toList then 4 else 1)=kd:=⟨_,rfl⟩
       have hEok:wordE (s.data.toList.drop p) = .ok (kd,d,0):=by
        rw [HE0.out];unfold nameE;rw [Hd.out,if_neg h12,<- HTl.out,hkd]
       have hdp:1<=d:=(wordE_ok (by have hl0:s.data.toList.length=s.size:=Array.length_toList;rw [List.length_drop,hl0];omega) hEok).1
       have Hst:=Lib.hid (go_word hlt hgU hEok hf hdp Hgo.out);have Hkd:=Lib.hid hkd;clear hEok hkd
       go_upto_block 4 with fail
       go_cut [8] from 12 to 146 (fun e8 wx=>e8 = .int .i64 ((p+d:Nat):Int)/\TokAt wr wx wr.heap.size kd T 0 p)
       case first=>
        go_wp2_with (go_at_call 50;refine (rlet_any _ _).mono ?_;rintro e w' ⟨rfl,rfl⟩)
        go_region
        go_wp2_with fail
        refine (rres_any T _).mono ?_
        rintro e w2 ⟨rfl,hb2⟩;obtain ⟨hc,hfz⟩:=bcell hb2;have hz:wr.heap.size<w2.heap.size:=by have:=hb2.size;rw [hsz0] at this;omega
        have hb3:Below wr.heap.size wr w2:=hb0.trans (hb2.mono (by rw [hsz0];omega))
        have hc0:=hc wr.heap.size 0 (by rw [hsz0];omega)
        have hc1:=hc wr.heap.size 1 (by rw [hsz0];omega)
        have hc2:=hc wr.heap.size 2 (by rw [hsz0];omega)
        have hc3:=hc wr.heap.size 3 (by rw [hsz0];omega)
        simp at hc0 hc1 hc2 hc3;clear hb2 hb0 hsz0
        rcases Bool.eq_false_or_eq_true (resB T.toList) with hr |hr
        ·go_wp2_with fail
         go_meet
         case rel=>
          have hk:=Hkd.out;rw [if_pos hr] at hk;refine ⟨by go_num,hb3.setCell (Nat.le_refl _) _,by simpa using hz,?_,?_,?_,?_⟩
          ·rw [<- hk];go_simp
          ·go_simp
          ·go_simp
          ·go_simp
        ·go_wp2_with fail
         go_meet
         case rel=>
          have hk:=Hkd.out;rw [if_neg (by rw [hr];decide)] at hk
          refine ⟨by go_num,hb3,hz,?_,hc1,hc2,hc3⟩
          rw [hc0,hk]
       case rest=>
        obtain ⟨rfl,hb4,hg4,t0,t1,t2,t3⟩:=hcut
        go_wp2_with (at_builtin;refine wpList_append_own _ rfl (.tmp 142) (.tmp 144) _ rfl w.heap.size 132 i0 _ 4 40 Tryz.underlying87 hi hz0 hz1 hz2 rfl (by decide) (.slice A n c) n _ rfl (own_later hown (below_new hb4 (Nat.le_refl _) _)) ⟨wc.heap.size,0,none⟩ 1 1 [.int .i64 kd,.string T,.int .i64 0,.int .i64 p] rfl rfl ?c1 ?c2 ?c3 ?c4 ?c5 ?_)
        case c1=>exact cells_new _ _ _
        case c2=>
         intro u hu;simp at hu
         rcases hu with rfl |rfl |rfl |rfl<;>rfl
        case c3=>unfold maxLen;omega
        case c4=>omega
        case c5=>have:=hb4.size;have:=hbw.size;simp;omega
        intro v' w3 hown' hgrow _;obtain ⟨g,cap,hv⟩:=own_form hown' (by omega)
        have Hv:=Lib.hid hv;have Hl:Hid (n+1=(acc++[(⟨kd,T,0,p⟩:Tok)]).length):=by
         show n+1=_;rw [List.length_append,<- Hn.out];rfl
        have hown2:w3.ownsRow w.heap.size 132 4 (.slice (some ⟨g,0,none⟩) (n+1) cap) (n+1) (tcells (acc++[(⟨kd,T,0,p⟩:Tok)])):=by
         rw [tcells_snoc,<- hv];exact hown'
        have hB3:Below w.heap.size w w3:=(hbw.trans ((below_new hb4 (Nat.le_refl _) _).mono hbw.size)).grown hgrow (by have:=hb4.size;have:=hbw.size;simp;omega) (fun b hb=>(hown.lt b hb).1)
        clear hv hown' hgrow hown
        go_wp2_with fail
        go_roundw
        case rel=>
         obtain ⟨f',hf',hgo'⟩:=Hst.out;exact ⟨p+d,f',acc++[(⟨kd,T,0,p⟩:Tok)],some ⟨g,0,none⟩,n+1,cap,by omega,hf',by rw [<- hT];exact hgo',Hl,by omega,by go_num,Hv.out,hown2,hB3⟩
        case measure=>simp [intOf];omega
    ·rcases Bool.eq_false_or_eq_true (digB (s[p].toNat:Int)) with hdg |hdg
     ·
      have hE0:wordE (s.data.toList.drop p)=numE (s.data.toList.drop p):=by
       unfold wordE;rw [hhd,if_neg (show ¬ letU s[p]=true by show ¬ letB _=true;rw [hl];decide),if_pos (show digU s[p]=true from hdg)]
      obtain ⟨d,hd⟩:∃ d,lenOf alnU (s.data.toList.drop p)=d:=⟨_,rfl⟩;have hd1:p+d<=s.size:=by
       have h1:=lenOf_le alnU (s.data.toList.drop p);have hl0:s.data.toList.length=s.size:=Array.length_toList;rw [hd,List.length_drop,hl0] at h1;omega
      obtain ⟨T,hT⟩:∃ T,s.extract p (p+d)=T:=⟨_,rfl⟩;have hTs:T.size=d:=by rw [<- hT];simp;omega
      have hTl:(s.data.toList.drop p).take d=T.data.toList:=by
       rw [<- hT,Lib.extract_data,show p+d-p=d from by omega]
      have hnum:=numE_run (s.data.toList.drop p) T.data.toList d (by rw [hhd];exact hdg) hd hTl
      rw [hhd] at hnum;have h48:s[p]=48↔((s[p].toNat:Int)==48)=true:=by
       rw [beq_iff_eq];exact (u8_int s[p] 48).symm
      simp only [h48] at hnum;have Hd:=Lib.hid hd;have HE0:=Lib.hid hE0;have Hnum:=Lib.hid hnum;clear hd hE0 hhd hTl hnum h48
      go_upto_block 2 with fail
      go_cut [8] from 12 to 146 (fun e8 wx=>e8 = .int .i64 ((p+d:Nat):Int)/\wx=wr)
      case first=>
       go_wp2_with fail
       go_loop [8] (fun e=>∃ k:Nat,Run alnU s p k/\e = .int .i64 k) (fun e=>s.size-(intOf e).toNat)
       case atStart=>exact ⟨p,Run.start (by omega),rfl⟩
       case round=>
        obtain ⟨k,hk,rfl⟩:=hrel;have hk1:=hk.1;have hk2:=hk.2.1
        by_cases hlt2:k<s.size
        ·rcases Bool.eq_false_or_eq_true (letB (s[k].toNat:Int)) with hl2 |hl2
         ·go_wp2_with (first |(go_at_call 50;refine (rlet_any _ _).mono ?_;rintro e w' ⟨rfl,rfl⟩) |(go_at_call 51;refine (rdig_any _ _).mono ?_;rintro e w' ⟨rfl,rfl⟩))
          go_round
          case rel=>exact ⟨k+1,hk.step hlt2 (by simp [alnU,letU,hl2]),by go_num⟩
          case measure=>simp [intOf];omega
         ·rcases Bool.eq_false_or_eq_true (digB (s[k].toNat:Int)) with hd2 |hd2
          ·go_wp2_with (first |(go_at_call 50;refine (rlet_any _ _).mono ?_;rintro e w' ⟨rfl,rfl⟩) |(go_at_call 51;refine (rdig_any _ _).mono ?_;rintro e w' ⟨rfl,rfl⟩))
           go_round
           case rel=>exact ⟨k+1,hk.step hlt2 (by simp [alnU,digU,hd2]),by go_num⟩
           case measure=>simp [intOf];omega
          ·have hn2:=hk.len (fun h=>by rw [getD_eq s k h];simp [alnU,letU,digU,hl2,hd2])
           rw [Hd.out] at hn2;have Hkd:=Lib.hid (show p+d=k by omega)
           clear hn2
           go_wp2_with (first |(go_at_call 50;refine (rlet_any _ _).mono ?_;rintro e w' ⟨rfl,rfl⟩) |(go_at_call 51;refine (rdig_any _ _).mono ?_;rintro e w' ⟨rfl,rfl⟩))
           go_meet
           case rel=>exact ⟨by rw [Hkd.out],rfl⟩
        ·have hn2:=hk.len (fun h=>absurd h hlt2)
         rw [Hd.out] at hn2;have Hkd:=Lib.hid (show p+d=k by omega)
         clear hn2
         go_wp2_with fail
         go_meet
         case rel=>exact ⟨by rw [Hkd.out],rfl⟩
      case rest=>
       obtain ⟨rfl,hwc⟩:=hcut;have hwc2:=hwc.symm;subst hwc2;clear hwc
       go_upto_block 4 with fail
       by_cases h10d:10<d
       ·have Hfin:=Lib.hid (lexR_err HR.out (go_err hlt hgU (e:=3) (by rw [HE0.out,Hnum.out,if_pos (.inl h10d)]) hf Hgo.out))
        go_wp2_with (first |(go_at_call 50;refine (rlet_any _ _).mono ?_;rintro e w' ⟨rfl,rfl⟩) |(go_at_call 51;refine (rdig_any _ _).mono ?_;rintro e w' ⟨rfl,rfl⟩))
        go_region
        go_wp2_with fail
        go_ret3
        exact RLexPost.bad Hfin.out (below_new hbw (by omega) _).drew
       ·by_cases hz48:1<d/\((s[p].toNat:Int)==48)=true
        ·obtain ⟨hz1,hz2⟩:=hz48;have Hfin:=Lib.hid (lexR_err HR.out (go_err hlt hgU (e:=3) (by rw [HE0.out,Hnum.out,if_pos (.inr (.inl ⟨hz1,hz2⟩))]) hf Hgo.out))
         go_wp2_with (first |(go_at_call 50;refine (rlet_any _ _).mono ?_;rintro e w' ⟨rfl,rfl⟩) |(go_at_call 51;refine (rdig_any _ _).mono ?_;rintro e w' ⟨rfl,rfl⟩))
         go_region
         go_wp2_with fail
         go_ret3
         exact RLexPost.bad Hfin.out (below_new hbw (by omega) _).drew
        ·have hz:d<=1 ∨ (1<d/\((s[p].toNat:Int)==48)=false):=by
          rcases Bool.eq_false_or_eq_true ((s[p].toNat:Int)==48) with h |h
          ·exact .inl (by have:¬ 1<d:=fun hx=>hz48 ⟨hx,h⟩;omega)
          ·by_cases h1:1<d
           ·exact .inr ⟨h1,h⟩
           ·exact .inl (by omega)
         by_cases hbad:lenOf digU T.data.toList<d ∨ 2147483647<val T.data.toList
         ·have Hfin:=Lib.hid (lexR_err HR.out (go_err hlt hgU (e:=3) (by rw [HE0.out,Hnum.out,if_pos (.inr (.inr hbad))]) hf Hgo.out))
          have Hbad:=Lib.hid hbad;clear hbad hz48
          rcases hz with hz |⟨hz,hz'⟩
          all_goals
           go_wp2_with (first |(go_at_call 50;refine (rlet_any _ _).mono ?_;rintro e w' ⟨rfl,rfl⟩) |(go_at_call 51;refine (rdig_any _ _).mono ?_;rintro e w' ⟨rfl,rfl⟩))
           go_region
           go_wp2_with fail
           go_loopw [10] (fun i wx=>∃ (k m:Nat) (v:Int),Run digU T 0 k/\Hid ((vl T 0 k:Int)=v)/\0<=v/\v<10000000000/\i = .int .i64 k/\wx=(wr.alloc (.cells #[.int .i64 2,.string T,.int .i64 v,.int .i64 p] 132)).drewN m) (fun i _=>d-(intOf i).toNat)
           case atStart=>exact ⟨0,1,0,Run.start (by omega),(show ((vl T 0 0:Nat):Int)=0 by rw [vl_start];rfl),by omega,by omega,rfl,rfl⟩
           case round=>
            obtain ⟨k,m,v,hk,hv,hv0,hv1,rfl,rfl⟩:=hrel;have hk2:=hk.2.1
            by_cases hkd:k<d
            ·have hkT:k<T.size:=by omega
             rcases Bool.eq_false_or_eq_true (digB (T[k].toNat:Int)) with hdk |hdk
             ·have hb48:48<=(T[k].toNat:Int)/\(T[k].toNat:Int)<=57:=by simpa [digB] using hdk
              obtain ⟨hb1,hb2⟩:=hb48;have hst:=vl_step T 0 k (by omega) hkT
              have hrun:=hk.step hkT (show digU T[k]=true from hdk)
              have hfew:=hrun.few (by omega)
              have Hst:=Lib.hid (show ((vl T 0 (k+1):Nat):Int)=10*v+((T[k].toNat:Int)-48) by rw [hst];have:=hv.out;omega)
              have hnew0:0<=10*v+((T[k].toNat:Int)-48):=by omega
              have hnew1:10*v+((T[k].toNat:Int)-48)<10000000000:=by rw [<- Hst.out];omega
              clear hst hfew
              go_wp2_with (first |(go_at_call 50;refine (rlet_any _ _).mono ?_;rintro e w' ⟨rfl,rfl⟩) |(go_at_call 51;refine (rdig_any _ _).mono ?_;rintro e w' ⟨rfl,rfl⟩))
              go_region
              go_wp2_with fail
              go_roundw
              case rel=>exact ⟨k+1,_,_,hrun,Hst.out,hnew0,hnew1,by go_num,set_num _ _ _ _ _ _ _ _⟩
              case measure=>simp [intOf];omega
             ·go_wp2_with (first |(go_at_call 50;refine (rlet_any _ _).mono ?_;rintro e w' ⟨rfl,rfl⟩) |(go_at_call 51;refine (rdig_any _ _).mono ?_;rintro e w' ⟨rfl,rfl⟩))
              go_ret3
              exact RLexPost.bad Hfin.out (below_drewN (below_new hbw (by omega) _) _)
            ·have hkd2:k=d:=by omega
             have hlast:2147483647<v:=by
              have h1:lenOf digU T.data.toList=d:=by rw [<- hkd2];exact hk.whole (by omega)
              have h2:=Hbad.out.resolve_left (by omega)
              have h3:=hk.val_whole (by omega)
              have h4:=hv.out;omega
             clear hkd2
             go_wp2_with fail
             go_ret3
             exact RLexPost.bad Hfin.out (below_drewN (below_new hbw (by omega) _) _)
         ·have hlen:lenOf digU T.data.toList=d:=by
           have h1:=lenOf_le digU T.data.toList;have h2:T.data.toList.length=d:=by rw [<- hTs];exact Array.length_toList
           omega
          have hvb:¬ 2147483647<val T.data.toList:=fun h=>hbad (.inr h)
          obtain ⟨vv,hvv⟩:∃ vv:Int,(val T.data.toList:Int)=vv:=⟨_,rfl⟩;have hEok:wordE (s.data.toList.drop p) = .ok (2,d,vv):=by
           rw [HE0.out,Hnum.out,if_neg (fun h=>h.elim h10d (fun h=>h.elim hz48 hbad)),hvv]
          have hdp:1<=d:=(wordE_ok (by have hl0:s.data.toList.length=s.size:=Array.length_toList;rw [List.length_drop,hl0];omega) hEok).1
          have Hst:=Lib.hid (go_word hlt hgU hEok hf hdp Hgo.out);have Hvv:=Lib.hid hvv;clear hEok hvv hbad hz48
          go_cut [8] from 12 to 146 (fun e8 wx=>e8 = .int .i64 ((p+d:Nat):Int)/\TokAt wr wx wr.heap.size 2 T vv p)
          case first=>
           rcases hz with hz |⟨hz,hz'⟩
           all_goals
            go_wp2_with (first |(go_at_call 50;refine (rlet_any _ _).mono ?_;rintro e w' ⟨rfl,rfl⟩) |(go_at_call 51;refine (rdig_any _ _).mono ?_;rintro e w' ⟨rfl,rfl⟩))
            go_region
            go_wp2_with fail
            go_loopw [10] (fun i wx=>∃ (k m:Nat) (v:Int),Run digU T 0 k/\Hid ((vl T 0 k:Int)=v)/\0<=v/\v<10000000000/\i = .int .i64 k/\wx=(wr.alloc (.cells #[.int .i64 2,.string T,.int .i64 v,.int .i64 p] 132)).drewN m) (fun i _=>d-(intOf i).toNat)
            case atStart=>exact ⟨0,1,0,Run.start (by omega),(show ((vl T 0 0:Nat):Int)=0 by rw [vl_start];rfl),by omega,by omega,rfl,rfl⟩
            case round=>
             obtain ⟨k,m,v,hk,hv,hv0,hv1,rfl,rfl⟩:=hrel;have hk2:=hk.2.1
             by_cases hkd:k<d
             ·have hkT:k<T.size:=by omega
              rcases Bool.eq_false_or_eq_true (digB (T[k].toNat:Int)) with hdk |hdk
              ·have hb48:48<=(T[k].toNat:Int)/\(T[k].toNat:Int)<=57:=by simpa [digB] using hdk
               obtain ⟨hb1,hb2⟩:=hb48;have hst:=vl_step T 0 k (by omega) hkT
               have hrun:=hk.step hkT (show digU T[k]=true from hdk)
               have hfew:=hrun.few (by omega)
               have Hst:=Lib.hid (show ((vl T 0 (k+1):Nat):Int)=10*v+((T[k].toNat:Int)-48) by rw [hst];have:=hv.out;omega)
               have hnew0:0<=10*v+((T[k].toNat:Int)-48):=by omega
               have hnew1:10*v+((T[k].toNat:Int)-48)<10000000000:=by rw [<- Hst.out];omega
               clear hst hfew
               go_wp2_with (first |(go_at_call 50;refine (rlet_any _ _).mono ?_;rintro e w' ⟨rfl,rfl⟩) |(go_at_call 51;refine (rdig_any _ _).mono ?_;rintro e w' ⟨rfl,rfl⟩))
               go_region
               go_wp2_with fail
               go_roundw
               case rel=>exact ⟨k+1,_,_,hrun,Hst.out,hnew0,hnew1,by go_num,set_num _ _ _ _ _ _ _ _⟩
               case measure=>simp [intOf];omega
              ·exact absurd (hk.part hkT hdk hlen) (by omega)
             ·have hkd2:k=d:=by omega
              have hveq:v=vv:=by
               have h3:=hk.val_whole (by omega)
               rw [<- hv.out,<- Hvv.out,h3]
              have Hveq:=Lib.hid hveq;have hlast:v<=2147483647:=by
               have h1:=Hvv.out;have h2:=Hveq.out;omega
              clear hkd2 hveq
              go_wp2_with fail
              go_meet
              case rel=>
               refine ⟨by go_num,below_drewN (below_new (Below.refl _ _) (Nat.le_refl _) _) _,by simp,?_,?_,?_,?_⟩
               ·go_simp
               ·go_simp
               ·rw [<- Hveq.out];go_simp
               ·go_simp
          case rest=>
           obtain ⟨rfl,hb4,hg4,t0,t1,t2,t3⟩:=hcut
           go_wp2_with (at_builtin;refine wpList_append_own _ rfl (.tmp 142) (.tmp 144) _ rfl w.heap.size 132 i0 _ 4 40 Tryz.underlying87 hi hz0 hz1 hz2 rfl (by decide) (.slice A n c) n _ rfl (own_later hown (below_new hb4 (Nat.le_refl _) _)) ⟨wc.heap.size,0,none⟩ 1 1 [.int .i64 2,.string T,.int .i64 vv,.int .i64 p] rfl rfl ?c1 ?c2 ?c3 ?c4 ?c5 ?_)
           case c1=>exact cells_new _ _ _
           case c2=>
            intro u hu;simp at hu
            rcases hu with rfl |rfl |rfl |rfl<;>rfl
           case c3=>unfold maxLen;omega
           case c4=>omega
           case c5=>have:=hb4.size;have:=hbw.size;simp;omega
           intro v' w3 hown' hgrow _;obtain ⟨g,cap,hv⟩:=own_form hown' (by omega)
           have Hv:=Lib.hid hv;have Hl:Hid (n+1=(acc++[(⟨2,T,vv,p⟩:Tok)]).length):=by
            show n+1=_;rw [List.length_append,<- Hn.out];rfl
           have hown2:w3.ownsRow w.heap.size 132 4 (.slice (some ⟨g,0,none⟩) (n+1) cap) (n+1) (tcells (acc++[(⟨2,T,vv,p⟩:Tok)])):=by
            rw [tcells_snoc,<- hv];exact hown'
           have hB3:Below w.heap.size w w3:=(hbw.trans ((below_new hb4 (Nat.le_refl _) _).mono hbw.size)).grown hgrow (by have:=hb4.size;have:=hbw.size;simp;omega) (fun b hb=>(hown.lt b hb).1)
           clear hv hown' hgrow hown
           go_wp2_with fail
           go_roundw
           case rel=>
            obtain ⟨f',hf',hgo'⟩:=Hst.out;exact ⟨p+d,f',acc++[(⟨2,T,vv,p⟩:Tok)],some ⟨g,0,none⟩,n+1,cap,by omega,hf',by rw [<- hT];exact hgo',Hl,by omega,by go_num,Hv.out,hown2,hB3⟩
           case measure=>simp [intOf];omega
     ·
      have hE0:wordE (s.data.toList.drop p)=sgnE (s.data.toList.drop p):=by
       unfold wordE;rw [hhd,if_neg (show ¬ letU s[p]=true by show ¬ letB _=true;rw [hl];decide),if_neg (show ¬ digU s[p]=true by show ¬ digB _=true;rw [hdg];decide)]
      obtain ⟨d,hd⟩:∃ d,sgnLen (s.data.toList.drop p)=d:=⟨_,rfl⟩;have hd1:p+d<=s.size:=by
       have h1:=sgnLen_le (s.data.toList.drop p);have hl0:s.data.toList.length=s.size:=Array.length_toList;rw [hd,List.length_drop,hl0] at h1;omega
      have Hd:=Lib.hid hd;have HE0:=Lib.hid hE0;clear hd hE0 hhd
      go_upto_block 2 with fail
      go_cut [8] from 12 to 146 (fun e8 wx=>e8 = .int .i64 p/\wx=wr)
      case first=>
       go_wp2_with fail
       go_loop [8] (fun e=>e = .int .i64 p) (fun _=>0)
       case atStart=>rfl
       case round=>
        subst hrel
        go_wp2_with (first |(go_at_call 50;refine (rlet_any _ _).mono ?_;rintro e w' ⟨rfl,rfl⟩) |(go_at_call 51;refine (rdig_any _ _).mono ?_;rintro e w' ⟨rfl,rfl⟩))
        go_meet
        case rel=>exact ⟨rfl,rfl⟩
      case rest=>
       obtain ⟨rfl,hwc⟩:=hcut;have hwc2:=hwc.symm;subst hwc2;clear hwc
       go_upto_block 4 with fail
       have hsz0:(wr.alloc (.cells #[.int .i64 0,.string ⟨#[]⟩,.int .i64 0,.int .i64 p] 132)).heap.size=wr.heap.size+1:=by simp
       have hb0:Below wr.heap.size wr (wr.alloc (.cells #[.int .i64 0,.string ⟨#[]⟩,.int .i64 0,.int .i64 p] 132)):=below_new (Below.refl _ wr) (Nat.le_refl _) _
       by_cases hd0:d=0
       ·have Hfin:=Lib.hid (lexR_err HR.out (go_err hlt hgU (e:=2) (by rw [HE0.out];unfold sgnE;rw [Hd.out,if_pos hd0]) hf Hgo.out))
        subst hd0
        go_wp2_with (first |(go_at_call 50;refine (rlet_any _ _).mono ?_;rintro e w' ⟨rfl,rfl⟩) |(go_at_call 51;refine (rdig_any _ _).mono ?_;rintro e w' ⟨rfl,rfl⟩))
        refine (rsign_at s p _ (by omega) hlt Hd.out).mono ?_
        rintro e w2 ⟨rfl,hb2⟩
        go_wp2_with fail
        go_ret3
        exact RLexPost.bad Hfin.out ((hbw.trans (hb0.mono hbw.size)).trans (hb2.mono (by rw [hsz0];have:=hbw.size;omega)))
       ·have hEok:wordE (s.data.toList.drop p) = .ok (3,d,0):=by rw [HE0.out];unfold sgnE;rw [Hd.out,if_neg hd0]
        have hdp:1<=d:=by omega
        have hnz:((d:Int)==0)=false:=by rw [beq_eq_false_iff_ne];omega
        obtain ⟨T,hT⟩:∃ T,s.extract p (p+d)=T:=⟨_,rfl⟩;have Hst:=Lib.hid (go_word hlt hgU hEok hf hdp Hgo.out);clear hEok hd0
        go_cut [8] from 12 to 146 (fun e8 wx=>e8 = .int .i64 ((p+d:Nat):Int)/\TokAt wr wx wr.heap.size 3 T 0 p)
        case first=>
         go_wp2_with (first |(go_at_call 50;refine (rlet_any _ _).mono ?_;rintro e w' ⟨rfl,rfl⟩) |(go_at_call 51;refine (rdig_any _ _).mono ?_;rintro e w' ⟨rfl,rfl⟩))
         refine (rsign_at s p _ (by omega) hlt Hd.out).mono ?_
         rintro e w2 ⟨rfl,hb2⟩;obtain ⟨hc,hfz⟩:=bcell hb2;have hz:wr.heap.size<w2.heap.size:=by have:=hb2.size;rw [hsz0] at this;omega
         have hb3:Below wr.heap.size wr w2:=hb0.trans (hb2.mono (by rw [hsz0];omega))
         have hc0:=hc wr.heap.size 0 (by rw [hsz0];omega)
         have hc1:=hc wr.heap.size 1 (by rw [hsz0];omega)
         have hc2:=hc wr.heap.size 2 (by rw [hsz0];omega)
         have hc3:=hc wr.heap.size 3 (by rw [hsz0];omega)
         have hf0:=hfz wr.heap.size 0 (by rw [hsz0];omega)
         have hf1:=hfz wr.heap.size 1 (by rw [hsz0];omega)
         simp at hc0 hc1 hc2 hc3;rw [World.frozen?_alloc_at _ _ _ _ rfl] at hf0 hf1;clear hb2 hb0 hsz0 hc hfz
         go_wp2_with fail
         go_region
         go_wp2_with fail
         go_meet
         case rel=>
          refine ⟨by go_num,((hb3.setCell (Nat.le_refl _) _).setCell (Nat.le_refl _) _).drew,by simpa using hz,?_,?_,?_,?_⟩
          ·go_simp
          ·go_simp
          ·go_simp
          ·go_simp
        case rest=>
         obtain ⟨rfl,hb4,hg4,t0,t1,t2,t3⟩:=hcut
         go_wp2_with (at_builtin;refine wpList_append_own _ rfl (.tmp 142) (.tmp 144) _ rfl w.heap.size 132 i0 _ 4 40 Tryz.underlying87 hi hz0 hz1 hz2 rfl (by decide) (.slice A n c) n _ rfl (own_later hown (below_new hb4 (Nat.le_refl _) _)) ⟨wc.heap.size,0,none⟩ 1 1 [.int .i64 3,.string T,.int .i64 0,.int .i64 p] rfl rfl ?c1 ?c2 ?c3 ?c4 ?c5 ?_)
         case c1=>exact cells_new _ _ _
         case c2=>
          intro u hu;simp at hu
          rcases hu with rfl |rfl |rfl |rfl<;>rfl
         case c3=>unfold maxLen;omega
         case c4=>omega
         case c5=>have:=hb4.size;have:=hbw.size;simp;omega
         intro v' w3 hown' hgrow _;obtain ⟨g,cap,hv⟩:=own_form hown' (by omega)
         have Hv:=Lib.hid hv;have Hl:Hid (n+1=(acc++[(⟨3,T,0,p⟩:Tok)]).length):=by
          show n+1=_;rw [List.length_append,<- Hn.out];rfl
         have hown2:w3.ownsRow w.heap.size 132 4 (.slice (some ⟨g,0,none⟩) (n+1) cap) (n+1) (tcells (acc++[(⟨3,T,0,p⟩:Tok)])):=by
          rw [tcells_snoc,<- hv];exact hown'
         have hB3:Below w.heap.size w w3:=(hbw.trans ((below_new hb4 (Nat.le_refl _) _).mono hbw.size)).grown hgrow (by have:=hb4.size;have:=hbw.size;simp;omega) (fun b hb=>(hown.lt b hb).1)
         clear hv hown' hgrow hown
         go_wp2_with fail
         go_roundw
         case rel=>
          obtain ⟨f',hf',hgo'⟩:=Hst.out;exact ⟨p+d,f',acc++[(⟨3,T,0,p⟩:Tok)],some ⟨g,0,none⟩,n+1,cap,by omega,hf',by rw [<- hT];exact hgo',Hl,by omega,by go_num,Hv.out,hown2,hB3⟩
         case measure=>simp [intOf];omega
  ·have hend:=go_end (by omega) Hgo.out
   by_cases hn2:n<=2000
   ·have Hfin:=Lib.hid (lexR_ok HR.out hend (by rw [<- Hn.out];exact hn2))
    clear hend
    go_wp2_with fail
    go_ret3
    exact RLexPost.good Hfin.out Hn.out hown hbw
   ·have Hfin:=Lib.hid (lexR_long HR.out hend (by rw [<- Hn.out];omega))
    clear hend
    go_wp2_with fail
    go_ret3
    exact RLexPost.bad Hfin.out hbw
end Go.Proofs.YtbhbjhejkamlnaaGreat
