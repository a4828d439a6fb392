import Derived.Test.YtplejbgafjpomaaGreatDoorZa23
import Derived.Test.YtplejbgafjpomaaGreatDoorZa17
import Derived.Test.YtplejbgafjpomaaGreatDoorZa21
set_option linter.unusedVariables false
set_option linter.unusedSimpArgs false
namespace Go.Proofs.YtplejbgafjpomaaGreatDoor.Sx.Z
open Go.RowKit
def stR:Nat->PB
 | 0=>fun _ _ _ r=>(.l [],r)
 |m+1=>smA (stR m)
theorem stR_up:∀ (m:Nat) (en:Int) (ws:D) (dp:Int),PbOK ws (stR m en ws dp)
 | 0,_,_,_=>⟨fun _ h=>⟨Int.le_refl _,h⟩⟩
 |m+1,en,ws,dp=>smA_up (stR_up m) en ws dp
theorem stm_zero {F:PB}:ConOK Tryz.prog 123 (stmC F 0):=by
 refine ⟨fun _ _=>by kernel_rfl,fun hp fr args e he hv=>?_,fun hp fr caps e h=>by cases h⟩;exfalso;obtain ⟨ds,e1,sg,ps1,ps2,hs,hvc,_⟩:=conM_in he;rw [hvc] at hv;obtain ⟨_,hv⟩:=all_append.1 hv;obtain ⟨_,hv⟩:=all_append.1 hv;unfold stmS at hs
 split at hs
 ·simp only [Option.some.injEq,Prod.mk.injEq] at hs;obtain ⟨rfl,rfl⟩:=hs;exact Nat.not_lt_zero _ hv.2.2.1
 ·cases hs
theorem stm_all:∀ m,ConOK Tryz.prog 123 (stmC (stR m) m)
 | 0=>stm_zero
 |m+1=>stn_ok (P:=stR m) (m:=m) (stm_all m) (stR_up m)
def stX:PB:=stR 1000001
theorem stX_ok:ConOK Tryz.prog 123 (stmC stX 1000001):=stm_all 1000001
theorem stX_up (en:Int) (ws:D) (dp:Int):PbOK ws (stX en ws dp):=stR_up 1000001 en ws dp
attribute [irreducible] stX
def kwC:ByteArray:=⟨#[99,104,97,110]⟩
def kwU:ByteArray:=⟨#[114,117,108,101]⟩
def kwP:ByteArray:=⟨#[112,114,111,99]⟩
def kwV:ByteArray:=⟨#[118,97,114]⟩
def coB:ByteArray:=⟨#[44]⟩
def kwO:ByteArray:=⟨#[102,114,111,109]⟩
def kwT:ByteArray:=⟨#[116,111]⟩
def kwB:ByteArray:=⟨#[98,108,111,99,107]⟩
def kwD:ByteArray:=⟨#[100,114,111,112]⟩
def kwY:ByteArray:=⟨#[108,111,115,115,121]⟩
def acG (t:ByteArray) (ws:D) (r:Rd):Bool:=acB ws r.nx t
theorem ac_lt2 {ws:D} {t:ByteArray} {r:Rd} (ha:acB ws r.nx t=true):r.nx<(acR ws t r).nx:=by
 rw [acR_yes ha];exact Int.lt_succ _
def ckK (ws:D) (r:Rd):Int:=if acB ws r.nx kwB=true then 0 else if acB ws (acR ws kwB r).nx kwD=true then 1 else 2
def ckR (ws:D) (en:Int) (r:Rd):Rd:=if acB ws r.nx kwB=true then acR ws kwB r else if acB ws (acR ws kwB r).nx kwD=true then acR ws kwD (acR ws kwB r) else exR ws en kwY (acR ws kwD (acR ws kwB r))
theorem ck_up {ws:D} (en:Int) {r:Rd} (h:rdOK ws r.nx):rdOK ws (acR ws kwB r).nx/\rdOK ws (acR ws kwD (acR ws kwB r)).nx/\rdOK ws (ckR ws en r).nx/\r.nx<=(ckR ws en r).nx:=by
 have a:=ac_up (t:=kwB) h (by decide);have b:=ac_up (t:=kwD) a.1 (by decide);have c:=ex_up en (t:=kwY) b.1 (by decide);refine ⟨a.1,b.1,?_⟩;unfold ckR;split
 ·exact a
 ·split
  ·exact ⟨b.1,Int.le_trans a.2 b.2⟩
  ·exact ⟨c.1,Int.le_trans a.2 (Int.le_trans b.2 c.2)⟩
structure Ch where
 nm:ByteArray
 k:Int
 n:Int
 fr:ByteArray
 to:ByteArray
 tg:D
def Ch.row (c:Ch):List D:=[.s c.nm,.i c.k,.i c.n,.s c.fr,.s c.to,.l c.tg.rows]
def chA1 (ws:D) (en:Int) (r:Rd):Rd:=ckR ws en (nmR ws en r)
def chA2 (ws:D) (en:Int) (r:Rd):Rd:=exR ws en kwO (nuR ws en (chA1 ws en r))
def chA3 (ws:D) (en:Int) (r:Rd):Rd:=exR ws en kwT (nmR ws en (chA2 ws en r))
def chA4 (ws:D) (en:Int) (r:Rd):Rd:=exR ws en obB (nmR ws en (chA3 ws en r))
def tgF (ws:D) (en:Int) (r:Rd):List D × Rd:=([.s (nmS ws (acR ws coB r))],nmR ws en (acR ws coB r))
def chT (ws:D) (en:Int) (r:Rd):D × Rd:=seqA (acG coB ws) (tgF ws en) ws (.l [[.s (nmS ws (chA4 ws en r))]]) (nmR ws en (chA4 ws en r))
def chZ (ws:D) (en:Int) (r:Rd):Ch:=⟨nmS ws r,ckK ws (nmR ws en r),nuN ws (chA1 ws en r),nmS ws (chA2 ws en r),nmS ws (chA3 ws en r),(chT ws en r).1⟩
def chR (ws:D) (en:Int) (r:Rd):Rd:=exR ws en seB (exR ws en cbB (chT ws en r).2)
theorem tg_sq {ws:D} (en:Int):SqOK ws (acG coB ws) (tgF ws en):=⟨fun r h hg=>by
 have a:=ac_up (t:=coB) h (by decide);have b:=nm_up en a.1;exact ⟨b.1,Int.lt_of_lt_of_le (ac_lt2 hg) b.2⟩⟩
theorem ch_up {ws:D} (en:Int) {r:Rd} (h:rdOK ws r.nx):(rdOK ws (nmR ws en r).nx/\rdOK ws (chA1 ws en r).nx/\rdOK ws (nuR ws en (chA1 ws en r)).nx/\rdOK ws (chA2 ws en r).nx/\rdOK ws (nmR ws en (chA2 ws en r)).nx/\rdOK ws (chA3 ws en r).nx/\rdOK ws (nmR ws en (chA3 ws en r)).nx/\rdOK ws (chA4 ws en r).nx/\rdOK ws (nmR ws en (chA4 ws en r)).nx)/\rdOK ws (chT ws en r).2.nx/\rdOK ws (exR ws en cbB (chT ws en r).2).nx/\rdOK ws (chR ws en r).nx/\r.nx<=(chR ws en r).nx:=by
 have a:=nm_up en h;have b:=(ck_up en a.1).2.2;have c:=nu_up en b.1;have d:=ex_up en (t:=kwO) c.1 (by decide);have e:=nm_up en d.1;have f:=ex_up en (t:=kwT) e.1 (by decide);have g:=nm_up en f.1;have i:=ex_up en (t:=obB) g.1 (by decide);have j:=nm_up en i.1;have k:=seq_up (tg_sq en) (.l [[.s (nmS ws (chA4 ws en r))]]) j.1;have l:=ex_up en (t:=cbB) k.1 (by decide);have m:=ex_up en (t:=seB) l.1 (by decide);exact ⟨⟨a.1,b.1,c.1,d.1,e.1,f.1,g.1,i.1,j.1⟩,k.1,l.1,m.1,Int.le_trans a.2 (Int.le_trans b.2 (Int.le_trans c.2 (Int.le_trans d.2 (Int.le_trans e.2 (Int.le_trans f.2 (Int.le_trans g.2 (Int.le_trans i.2 (Int.le_trans j.2 (Int.le_trans k.2 (Int.le_trans l.2 m.2))))))))))⟩
noncomputable def chkS:List Dat->Option (Eff × List Seg):=fun ds=>match ds with
 | [.d ws,.i nx,.i en,.i pa,.i er]=>some ({val:=.one (.sc (.int .i64 (.sym (ckK ws (mR nx pa er))))),vc:=[rdOK ws nx]},[.c (.rows 202 ws),.c (.int .i64 (.sym ((ckR ws en (mR nx pa er)).nx))),.c (.int .i64 (.sym en)),.c (.int .i64 (.sym ((ckR ws en (mR nx pa er)).pa))),.c (.int .i64 (.sym ((ckR ws en (mR nx pa er)).er)))])
 |_=>none
noncomputable def chkC:Con:=conM 135 [.c (.rows 202),.c (.int .i64),.c (.int .i64),.c (.int .i64),.c (.int .i64)] [] chkS
theorem chk_ok:ConOK Tryz.prog 120 chkC:=by
 refine fn_obM tt_ok mixed Tryz.func120 rfl (fun _ _=>by kernel_rfl) (A:=fun ds=>⟨fun _=>Cons.of [(71,accC),(122,expC)],fun _=>none,fun _=>none⟩) (fun _ _=>(cons_cons acc_ok (cons_cons exp_ok cons_nil))) (by kernel_rfl) ?_
 intro ds;unfold chkS;split
 ·rename_i ws nx en pa er;refine kmp (q:=rdOK ws nx->rdOK ws nx/\0<kwB.size/\(acB ws nx kwB=true->(0:Int)=ckK ws (mR nx pa er)/\ws.rows=ws.rows/\(acR ws kwB (mR nx pa er)).nx=(ckR ws en (mR nx pa er)).nx/\en=en/\(acR ws kwB (mR nx pa er)).pa=(ckR ws en (mR nx pa er)).pa/\(acR ws kwB (mR nx pa er)).er=(ckR ws en (mR nx pa er)).er)/\(acB ws nx kwB=false->rdOK ws (acR ws kwB (mR nx pa er)).nx/\0<kwD.size/\(acB ws (acR ws kwB (mR nx pa er)).nx kwD=true->(1:Int)=ckK ws (mR nx pa er)/\ws.rows=ws.rows/\(acR ws kwD (acR ws kwB (mR nx pa er))).nx=(ckR ws en (mR nx pa er)).nx/\en=en/\(acR ws kwD (acR ws kwB (mR nx pa er))).pa=(ckR ws en (mR nx pa er)).pa/\(acR ws kwD (acR ws kwB (mR nx pa er))).er=(ckR ws en (mR nx pa er)).er)/\(acB ws (acR ws kwB (mR nx pa er)).nx kwD=false->rdOK ws (acR ws kwD (acR ws kwB (mR nx pa er))).nx/\0<kwY.size/\(2:Int)=ckK ws (mR nx pa er)/\ws.rows=ws.rows/\(exR ws en kwY (acR ws kwD (acR ws kwB (mR nx pa er)))).nx=(ckR ws en (mR nx pa er)).nx/\en=en/\(exR ws en kwY (acR ws kwD (acR ws kwB (mR nx pa er)))).pa=(ckR ws en (mR nx pa er)).pa/\(exR ws en kwY (acR ws kwD (acR ws kwB (mR nx pa er)))).er=(ckR ws en (mR nx pa er)).er))) (by kernel_rfl) ?_
  intro h;obtain ⟨a,b,c,d⟩:=ck_up en (r:=mR nx pa er) h;refine ⟨h,by decide,fun hc=>?_,fun hc=>?_⟩
  ·have hc:acB ws (mR nx pa er).nx kwB=true:=hc;simp only [ckR,ckK,if_pos hc]
   (repeat' (with_reducible apply And.intro))<;>first |with_reducible rfl |exact True.intro |with_reducible assumption |decide |assumption |rfl
  ·have hc:¬ acB ws (mR nx pa er).nx kwB=true:=by rw [show acB ws (mR nx pa er).nx kwB=false from hc];decide
   refine ⟨a,by decide,fun hd=>?_,fun hd=>?_⟩
   ·have hd:acB ws (acR ws kwB (mR nx pa er)).nx kwD=true:=hd;simp only [ckR,ckK,if_neg hc,if_pos hd]
    (repeat' (with_reducible apply And.intro))<;>first |with_reducible rfl |exact True.intro |with_reducible assumption |decide |assumption |rfl
   ·have hd:¬ acB ws (acR ws kwB (mR nx pa er)).nx kwD=true:=by rw [show acB ws (acR ws kwB (mR nx pa er)).nx kwD=false from hd];decide
    simp only [ckR,ckK,if_neg hc,if_neg hd]
    (repeat' (with_reducible apply And.intro))<;>first |with_reducible rfl |exact True.intro |with_reducible assumption |decide |assumption |rfl
 ·trivial
noncomputable def chnS:List Dat->Option (Eff × List Seg):=fun ds=>match ds with
 | [.d ws,.i nx,.i en,.i pa,.i er]=>some ({val:=.one (.agg [.c (.raw (.string ((chZ ws en (mR nx pa er)).nm))),.c (.int .i64 (.sym ((chZ ws en (mR nx pa er)).k))),.c (.int .i64 (.sym ((chZ ws en (mR nx pa er)).n))),.c (.raw (.string ((chZ ws en (mR nx pa er)).fr))),.c (.raw (.string ((chZ ws en (mR nx pa er)).to))),.c (.osl 9 0 (.lit 0) (.sym ((chZ ws en (mR nx pa er)).tg.len)))]),vc:=[rdOK ws nx],nw:=[(0,.orow 9 ((chZ ws en (mR nx pa er)).tg))]},[.c (.rows 202 ws),.c (.int .i64 (.sym ((chR ws en (mR nx pa er)).nx))),.c (.int .i64 (.sym en)),.c (.int .i64 (.sym ((chR ws en (mR nx pa er)).pa))),.c (.int .i64 (.sym ((chR ws en (mR nx pa er)).er)))])
 |_=>none
noncomputable def chnC:Con:=conM 135 [.c (.rows 202),.c (.int .i64),.c (.int .i64),.c (.int .i64),.c (.int .i64)] [] chnS
theorem chn_ok:ConOK Tryz.prog 72 chnC:=by
 refine fn_obM tt_ok mixed Tryz.func72 rfl (fun _ _=>by kernel_rfl) (A:=fun ds=>⟨fun _=>Cons.of [(119,namC),(120,chkC),(121,numC),(122,expC),(71,accC)],fun k=>match k,ds with | 8,[.d ws,.i nx,.i en,.i pa,.i er]=>some {ι:=D × Rd,pre:=fun _ q=>rdOK ws q.2.nx/\(seqA (acG coB ws) (tgF ws en) ws q.1 q.2=chT ws en (mR nx pa er))/\q.1.len+left ws q.2<=1000001,μ:=fun q=>left ws q.2,st:=fun s q=>famR s [] [0,2,3] [(0,.own 135 ([.c (.rows 202 ws),.c (.int .i64 (.sym ((q.2).nx))),.c (.int .i64 (.sym en)),.c (.int .i64 (.sym ((q.2).pa))),.c (.int .i64 (.sym ((q.2).er)))])),(idOf s 3,.own 118 ([.c (.raw (.string ((chZ ws en (mR nx pa er)).nm))),.c (.int .i64 (.sym ((chZ ws en (mR nx pa er)).k))),.c (.int .i64 (.sym ((chZ ws en (mR nx pa er)).n))),.c (.raw (.string ((chZ ws en (mR nx pa er)).fr))),.c (.raw (.string ((chZ ws en (mR nx pa er)).to))),.c (.osl 9 (cellIdP s 3 5) (.lit 0) (.sym (q.1.len)))])),(cellIdP s 3 5,.orow 9 (q.1))] [2]} |_,_=>none,fun _=>none⟩) (fun _ _=>(cons_cons nam_ok (cons_cons chk_ok (cons_cons num_ok (cons_cons exp_ok (cons_cons acc_ok cons_nil)))))) (by kernel_rfl) ?_
 intro ds;unfold chnS;split
 ·rename_i ws nx en pa er
  refine kmp (q:=withv (exR ws en kwT (nmR ws en (exR ws en kwO (nuR ws en (ckR ws en (nmR ws en (mR nx pa er))))))) fun E208=>withv (chZ ws en (mR nx pa er)) fun E209=>withv (exR ws en obB (nmR ws en E208)) fun E210=>withv (ckR ws en (nmR ws en (mR nx pa er))) fun E211=>rdOK ws nx->rdOK ws nx/\rdOK ws (nmR ws en (mR nx pa er)).nx/\rdOK ws E211.nx/\rdOK ws (nuR ws en E211).nx/\0<kwO.size/\rdOK ws (exR ws en kwO (nuR ws en E211)).nx/\rdOK ws (nmR ws en (exR ws en kwO (nuR ws en E211))).nx/\0<kwT.size/\rdOK ws E208.nx/\rdOK ws (nmR ws en E208).nx/\0<obB.size/\rdOK ws E210.nx/\((0:Nat)+((D.l [[D.s (nmS ws E210)]]).sub 0 1).len)*16<=140737488355328/\0+1<=(D.l [[D.s (nmS ws E210)]]).len/\(∃ (i:D × Rd),(rdOK ws i.snd.nx/\seqA (acG coB ws) (tgF ws en) ws i.fst i.snd=chT ws en (mR nx pa er)/\i.fst.len+left ws i.snd<=(1000001:Nat))/\ws.rows=ws.rows/\(nmR ws en E210).nx=i.snd.nx/\en=en/\(nmR ws en E210).pa=i.snd.pa/\(nmR ws en E210).er=i.snd.er/\Value.string (nmS ws (mR nx pa er))=Value.string E209.nm/\ckK ws (nmR ws en (mR nx pa er))=E209.k/\nuN ws E211=E209.n/\Value.string (nmS ws (exR ws en kwO (nuR ws en E211)))=Value.string E209.fr/\Value.string (nmS ws E208)=Value.string E209.to/\1=i.fst.len /\ []++List.drop 0 (List.take 1 [[D.s (nmS ws E210)]])=i.fst.rows/\Value.string ByteArray.empty=Value.string ByteArray.empty/\(0:Int)=(0:Int)/\(0:Int)=(0:Int)/\Value.string ByteArray.empty=Value.string ByteArray.empty/\Value.string ByteArray.empty=Value.string ByteArray.empty)/\∀ (i:D × Rd),rdOK ws i.snd.nx/\seqA (acG coB ws) (tgF ws en) ws i.fst i.snd=chT ws en (mR nx pa er)/\i.fst.len+left ws i.snd<=1000001->rdOK ws i.snd.nx/\0<coB.size/\(acB ws i.snd.nx coB=true->rdOK ws (acR ws coB i.snd).nx/\i.fst.len=i.fst.len/\(i.fst.len+((D.l [[D.s (nmS ws (acR ws coB i.snd))]]).sub 0 1).len)*16<=140737488355328/\0+1<=(D.l [[D.s (nmS ws (acR ws coB i.snd))]]).len/\∃ (j:D × Rd),(rdOK ws j.snd.nx/\seqA (acG coB ws) (tgF ws en) ws j.fst j.snd=chT ws en (mR nx pa er)/\j.fst.len+left ws j.snd<=(1000001:Nat))/\left ws j.snd<left ws i.snd/\ws.rows=ws.rows/\(nmR ws en (acR ws coB i.snd)).nx=j.snd.nx/\en=en/\(nmR ws en (acR ws coB i.snd)).pa=j.snd.pa/\(nmR ws en (acR ws coB i.snd)).er=j.snd.er/\Value.string E209.nm=Value.string E209.nm/\E209.k=E209.k/\E209.n=E209.n/\Value.string E209.fr=Value.string E209.fr/\Value.string E209.to=Value.string E209.to/\i.fst.len+((D.l [[D.s (nmS ws (acR ws coB i.snd))]]).sub 0 1).len=j.fst.len/\i.fst.rows++List.drop 0 (List.take 1 [[D.s (nmS ws (acR ws coB i.snd))]])=j.fst.rows/\Value.string ByteArray.empty=Value.string ByteArray.empty/\(0:Int)=(0:Int)/\(0:Int)=(0:Int)/\Value.string ByteArray.empty=Value.string ByteArray.empty/\Value.string ByteArray.empty=Value.string ByteArray.empty)/\(acB ws i.snd.nx coB=false->rdOK ws (acR ws coB i.snd).nx/\0<cbB.size/\rdOK ws (exR ws en cbB (acR ws coB i.snd)).nx/\0<seB.size/\Value.string E209.nm=Value.string E209.nm/\E209.k=E209.k/\E209.n=E209.n/\Value.string E209.fr=Value.string E209.fr/\Value.string E209.to=Value.string E209.to/\i.fst.len=E209.tg.len/\ws.rows=ws.rows/\(exR ws en seB (exR ws en cbB (acR ws coB i.snd))).nx=(chR ws en (mR nx pa er)).nx/\en=en/\(exR ws en seB (exR ws en cbB (acR ws coB i.snd))).pa=(chR ws en (mR nx pa er)).pa/\(exR ws en seB (exR ws en cbB (acR ws coB i.snd))).er=(chR ws en (mR nx pa er)).er/\i.fst.rows=E209.tg.rows)) (by kernel_rfl) ?_
  dsimp +instances only [withv]
  intro h;obtain ⟨⟨a,b,c,d,e,f,g,i,j⟩,k,l,m,n⟩:=ch_up en (r:=mR nx pa er) h;have l0:=(lf_lt j).2;refine ⟨h,a,b,c,by decide,d,e,by decide,f,g,by decide,i,(by show (0+1)*16<=140737488355328;decide),Nat.le_refl 1,⟨(.l [[.s (nmS ws (chA4 ws en (mR nx pa er)))]],nmR ws en (chA4 ws en (mR nx pa er))),⟨j,rfl,(by show 1+left ws (nmR ws en (chA4 ws en (mR nx pa er)))<=1000001;omega)⟩,?_⟩,?_⟩
  ·(repeat' (with_reducible apply And.intro))<;>first |with_reducible rfl |exact True.intro |with_reducible assumption |decide |assumption |rfl
  rintro q ⟨h1,h2,h3⟩;refine ⟨h1,by decide,fun hc=>?_,fun hc=>?_⟩
  ·have hg:acG coB ws q.2=true:=hc;obtain ⟨u1,u2⟩:=(tg_sq en).up q.2 h1 hg;have u3:=lt_left u1 h1 u2;have hs:=seq_step (tg_sq en) (d:=q.1) h1 hg;have hz:(q.1.len+1)*16<=140737488355328:=by omega
   have hl:(D.l (q.1.rows++[(tgF ws en q.2).1])).len+left ws (tgF ws en q.2).2<=1000001:=by rw [ap_len];omega
   refine ⟨(ac_up (t:=coB) h1 (by decide)).1,rfl,hz,Nat.le_refl 1,(.l (q.1.rows++[(tgF ws en q.2).1]),(tgF ws en q.2).2),⟨u1,hs.trans h2,hl⟩,u3,?_⟩
   (repeat' (with_reducible apply And.intro))<;>first |with_reducible rfl |exact True.intro |exact (ap_len _ _).symm |rfl
  ·have hg:acG coB ws q.2=false:=hc;have h2:(q.1,q.2)=chT ws en (mR nx pa er):=(seq_end hg).symm.trans h2;have f1:=(ex_up en (t:=cbB) h1 (by decide)).1;rw [acR_no (r:=q.2) hc];simp only [chZ,chR,<- h2]
   (repeat' (with_reducible apply And.intro))<;>first |with_reducible rfl |exact True.intro |with_reducible assumption |decide |assumption |rfl
 ·trivial
end Go.Proofs.YtplejbgafjpomaaGreatDoor.Sx.Z
namespace Go.Proofs.YtplejbgafjpomaaGreatDoor.Sx.Z
open Go.RowKit
structure Ru where
 ch:ByteArray
 mv:D
def Ru.row (c:Ru):List D:=[.s c.ch,.l c.mv.rows]
def ruA (ws:D) (en:Int) (r:Rd):Rd:=exR ws en obB (nmR ws en r)
def mvG (ws:D) (r:Rd):Bool:=decide (pkK ws r.nx=2)
def mvX (ws:D) (en:Int) (r:Rd):Rd:=nuR ws en (nmR ws en (nuR ws en r))
def mvF (ws:D) (en:Int) (r:Rd):List D × Rd:=([.i (nuN ws r),.s (nmS ws (nuR ws en r)),.i (nuN ws (nmR ws en (nuR ws en r)))],exR ws en seB (mvX ws en r))
def ruM (ws:D) (en:Int) (r:Rd):D × Rd:=seqA (mvG ws) (mvF ws en) ws (.l []) (ruA ws en r)
def ruZ (ws:D) (en:Int) (r:Rd):Ru:=⟨nmS ws r,(ruM ws en r).1⟩
def ruR (ws:D) (en:Int) (r:Rd):Rd:=exR ws en cbB (ruM ws en r).2
theorem mv_sq {ws:D} (en:Int):SqOK ws (mvG ws) (mvF ws en):=⟨fun r h hg=>by
 have hk:pkK ws r.nx=2:=of_decide_eq_true hg;have a:=nu_up en h;have e:(nuR ws en r).nx=r.nx+1:=by rw [show nuR ws en r=gx r from if_pos hk];rfl
 have b:=nm_up en a.1;have c:=nu_up en b.1;have d:=ex_up en (t:=seB) c.1 (by decide);refine ⟨d.1,?_⟩;have h9:(nuR ws en r).nx<=(exR ws en seB (mvX ws en r)).nx:=Int.le_trans b.2 (Int.le_trans c.2 d.2);show r.nx<(exR ws en seB (mvX ws en r)).nx
 omega⟩
theorem ru_up {ws:D} (en:Int) {r:Rd} (h:rdOK ws r.nx):rdOK ws (nmR ws en r).nx/\rdOK ws (ruA ws en r).nx/\rdOK ws (ruM ws en r).2.nx/\rdOK ws (ruR ws en r).nx/\r.nx<=(ruR ws en r).nx:=by
 have a:=nm_up en h;have b:=ex_up en (t:=obB) a.1 (by decide);have k:=seq_up (mv_sq en) (.l []) b.1;have l:=ex_up en (t:=cbB) k.1 (by decide);exact ⟨a.1,b.1,k.1,l.1,Int.le_trans a.2 (Int.le_trans b.2 (Int.le_trans k.2 l.2))⟩
structure Po where
 nm:ByteArray
 vs:D
 b:D
def Po.row (c:Po):List D:=[.s c.nm,.l c.vs.rows,.l c.b.rows]
def vrF (ws:D) (en:Int) (r:Rd):List D × Rd:=([.s (nmS ws (acR ws kwV r))],exR ws en seB (nmR ws en (acR ws kwV r)))
def poV (ws:D) (en:Int) (r:Rd):D × Rd:=seqA (acG kwV ws) (vrF ws en) ws (.l []) (ruA ws en r)
def poB (ws:D) (en:Int) (r:Rd):D × Rd:=stX en ws 0 (poV ws en r).2
def poZ (ws:D) (en:Int) (r:Rd):Po:=⟨nmS ws r,(poV ws en r).1,(poB ws en r).1⟩
def poR (ws:D) (en:Int) (r:Rd):Rd:=exR ws en cbB (poB ws en r).2
theorem vr_sq {ws:D} (en:Int):SqOK ws (acG kwV ws) (vrF ws en):=⟨fun r h hg=>by
 have a:=ac_up (t:=kwV) h (by decide);have b:=nm_up en a.1;have d:=ex_up en (t:=seB) b.1 (by decide);exact ⟨d.1,Int.lt_of_lt_of_le (ac_lt2 hg) (Int.le_trans b.2 d.2)⟩⟩
theorem po_up {ws:D} (en:Int) {r:Rd} (h:rdOK ws r.nx):rdOK ws (nmR ws en r).nx/\rdOK ws (ruA ws en r).nx/\rdOK ws (poV ws en r).2.nx/\rdOK ws (poB ws en r).2.nx/\rdOK ws (poR ws en r).nx/\r.nx<=(poR ws en r).nx:=by
 have a:=nm_up en h;have b:=ex_up en (t:=obB) a.1 (by decide);have k:=seq_up (vr_sq en) (.l []) b.1;have m:=(stX_up en ws 0).up _ k.1;have l:=ex_up en (t:=cbB) m.2 (by decide);exact ⟨a.1,b.1,k.1,m.2,l.1,Int.le_trans a.2 (Int.le_trans b.2 (Int.le_trans k.2 (Int.le_trans m.1 l.2)))⟩
noncomputable def rulS:List Dat->Option (Eff × List Seg):=fun ds=>match ds with
 | [.d ws,.i nx,.i en,.i pa,.i er]=>some ({val:=.one (.agg [.c (.raw (.string ((ruZ ws en (mR nx pa er)).ch))),.c (.osl 122 0 (.lit 0) (.sym ((ruZ ws en (mR nx pa er)).mv.len)))]),vc:=[rdOK ws nx],nw:=[(0,.orow 122 ((ruZ ws en (mR nx pa er)).mv))]},[.c (.rows 202 ws),.c (.int .i64 (.sym ((ruR ws en (mR nx pa er)).nx))),.c (.int .i64 (.sym en)),.c (.int .i64 (.sym ((ruR ws en (mR nx pa er)).pa))),.c (.int .i64 (.sym ((ruR ws en (mR nx pa er)).er)))])
 |_=>none
noncomputable def rulC:Con:=conM 135 [.c (.rows 202),.c (.int .i64),.c (.int .i64),.c (.int .i64),.c (.int .i64)] [] rulS
theorem rul_ok:ConOK Tryz.prog 73 rulC:=by
 refine fn_obM tt_ok mixed Tryz.func73 rfl (fun _ _=>by kernel_rfl) (A:=fun ds=>⟨fun _=>Cons.of [(119,namC),(121,numC),(122,expC),(118,pekC)],fun k=>match k,ds with | 3,[.d ws,.i nx,.i en,.i pa,.i er]=>some {ι:=D × Rd,pre:=fun _ q=>rdOK ws q.2.nx/\(seqA (mvG ws) (mvF ws en) ws q.1 q.2=ruM ws en (mR nx pa er))/\q.1.len+left ws q.2<=1000001,μ:=fun q=>left ws q.2,st:=fun s q=>famN s [] [0,2,3] [(0,.own 135 ([.c (.rows 202 ws),.c (.int .i64 (.sym ((q.2).nx))),.c (.int .i64 (.sym en)),.c (.int .i64 (.sym ((q.2).pa))),.c (.int .i64 (.sym ((q.2).er)))])),(idOf s 3,.own 121 ([.c (.raw (.string ((ruZ ws en (mR nx pa er)).ch))),.c (.osl 122 s.nx (.lit 0) (.sym (q.1.len)))])),(s.nx,.orow 122 (q.1))] [2]} |_,_=>none,fun _=>none⟩) (fun _ _=>(cons_cons nam_ok (cons_cons num_ok (cons_cons exp_ok (cons_cons pek_ok cons_nil))))) (by kernel_rfl) ?_
 intro ds;unfold rulS;split
 ·rename_i ws nx en pa er;refine kmp (q:=rdOK ws nx->rdOK ws nx/\rdOK ws (nmR ws en (mR nx pa er)).nx/\0<obB.size/\(∃ (i:D × Rd),(rdOK ws i.snd.nx/\seqA (mvG ws) (mvF ws en) ws i.fst i.snd=ruM ws en (mR nx pa er)/\i.fst.len+left ws i.snd<=(1000001:Nat))/\ws.rows=ws.rows/\(exR ws en obB (nmR ws en (mR nx pa er))).nx=i.snd.nx/\en=en/\(exR ws en obB (nmR ws en (mR nx pa er))).pa=i.snd.pa/\(exR ws en obB (nmR ws en (mR nx pa er))).er=i.snd.er/\Value.string (nmS ws (mR nx pa er))=Value.string (ruZ ws en (mR nx pa er)).ch/\i.fst.len=0/\i.fst.rows=[]/\Value.string ByteArray.empty=Value.string ByteArray.empty)/\∀ (i:D × Rd),rdOK ws i.snd.nx/\seqA (mvG ws) (mvF ws en) ws i.fst i.snd=ruM ws en (mR nx pa er)/\i.fst.len+left ws i.snd<=1000001->rdOK ws i.snd.nx/\((pkK ws i.snd.nx==(2:Int))=true->rdOK ws i.snd.nx/\rdOK ws (nuR ws en i.snd).nx/\rdOK ws (nmR ws en (nuR ws en i.snd)).nx/\i.fst.len=i.fst.len/\(i.fst.len+((D.l [[D.i (nuN ws i.snd),D.s (nmS ws (nuR ws en i.snd)),D.i (nuN ws (nmR ws en (nuR ws en i.snd)))]]).sub 0 1).len)*32<=140737488355328/\0+1<=(D.l [[D.i (nuN ws i.snd),D.s (nmS ws (nuR ws en i.snd)),D.i (nuN ws (nmR ws en (nuR ws en i.snd)))]]).len/\rdOK ws (nuR ws en (nmR ws en (nuR ws en i.snd))).nx/\0<seB.size/\∃ (j:D × Rd),(rdOK ws j.snd.nx/\seqA (mvG ws) (mvF ws en) ws j.fst j.snd=ruM ws en (mR nx pa er)/\j.fst.len+left ws j.snd<=(1000001:Nat))/\left ws j.snd<left ws i.snd/\ws.rows=ws.rows/\(exR ws en seB (nuR ws en (nmR ws en (nuR ws en i.snd)))).nx=j.snd.nx/\en=en/\(exR ws en seB (nuR ws en (nmR ws en (nuR ws en i.snd)))).pa=j.snd.pa/\(exR ws en seB (nuR ws en (nmR ws en (nuR ws en i.snd)))).er=j.snd.er/\Value.string (ruZ ws en (mR nx pa er)).ch=Value.string (ruZ ws en (mR nx pa er)).ch/\i.fst.len+((D.l [[D.i (nuN ws i.snd),D.s (nmS ws (nuR ws en i.snd)),D.i (nuN ws (nmR ws en (nuR ws en i.snd)))]]).sub 0 1).len=j.fst.len/\i.fst.rows++List.drop 0 (List.take 1 [[D.i (nuN ws i.snd),D.s (nmS ws (nuR ws en i.snd)),D.i (nuN ws (nmR ws en (nuR ws en i.snd)))]])=j.fst.rows/\Value.string ByteArray.empty=Value.string ByteArray.empty)/\((pkK ws i.snd.nx==(2:Int))=false->rdOK ws i.snd.nx/\0<cbB.size/\Value.string (ruZ ws en (mR nx pa er)).ch=Value.string (ruZ ws en (mR nx pa er)).ch/\i.fst.len=(ruZ ws en (mR nx pa er)).mv.len/\ws.rows=ws.rows/\(exR ws en cbB i.snd).nx=(ruR ws en (mR nx pa er)).nx/\en=en/\(exR ws en cbB i.snd).pa=(ruR ws en (mR nx pa er)).pa/\(exR ws en cbB i.snd).er=(ruR ws en (mR nx pa er)).er/\i.fst.rows=(ruZ ws en (mR nx pa er)).mv.rows)) (by kernel_rfl) ?_
  intro h;obtain ⟨a,b,c,d,e⟩:=ru_up en (r:=mR nx pa er) h;have l0:=(lf_lt b).2;refine ⟨h,a,by decide,⟨(.l [],ruA ws en (mR nx pa er)),⟨b,rfl,(by show 0+left ws (ruA ws en (mR nx pa er))<=1000001;omega)⟩,?_⟩,?_⟩
  ·(repeat' (with_reducible apply And.intro))<;>first |with_reducible rfl |exact True.intro |with_reducible assumption |decide |assumption |rfl
  rintro q ⟨h1,h2,h3⟩;refine ⟨h1,fun hc=>?_,fun hc=>?_⟩
  ·have hg:mvG ws q.2=true:=decide_eq_true (eq_of_beq hc);obtain ⟨u1,u2⟩:=(mv_sq en).up q.2 h1 hg;have u3:=lt_left u1 h1 u2;have hs:=seq_step (mv_sq en) (d:=q.1) h1 hg;have hz:(q.1.len+1)*32<=140737488355328:=by omega
   have hl:(D.l (q.1.rows++[(mvF ws en q.2).1])).len+left ws (mvF ws en q.2).2<=1000001:=by rw [ap_len];omega
   have m1:=(nu_up en h1).1;have m2:=(nm_up en m1).1;have m3:=(nu_up en m2).1;refine ⟨h1,m1,m2,rfl,hz,Nat.le_refl 1,m3,by decide,(.l (q.1.rows++[(mvF ws en q.2).1]),(mvF ws en q.2).2),⟨u1,hs.trans h2,hl⟩,u3,?_⟩
   (repeat' (with_reducible apply And.intro))<;>first |with_reducible rfl |exact True.intro |exact (ap_len _ _).symm |rfl
  ·have hg:mvG ws q.2=false:=decide_eq_false (ne_of_beq_false hc);have h2:(q.1,q.2)=ruM ws en (mR nx pa er):=(seq_end hg).symm.trans h2;simp only [ruZ,ruR,<- h2]
   (repeat' (with_reducible apply And.intro))<;>first |with_reducible rfl |exact True.intro |with_reducible assumption |decide |assumption |rfl
 ·trivial
noncomputable def proS:List Dat->Option (Eff × List Seg):=fun ds=>match ds with
 | [.d ws,.i nx,.i en,.i pa,.i er]=>some ({val:=.one (.agg [.c (.raw (.string ((poZ ws en (mR nx pa er)).nm))),.c (.osl 9 0 (.lit 0) (.sym ((poZ ws en (mR nx pa er)).vs.len))),.c (.osl 193 1 (.lit 0) (.sym ((poZ ws en (mR nx pa er)).b.len)))]),vc:=[rdOK ws nx],nw:=[(0,.orow 9 ((poZ ws en (mR nx pa er)).vs)),(1,.orow 193 ((poZ ws en (mR nx pa er)).b))]},[.c (.rows 202 ws),.c (.int .i64 (.sym ((poR ws en (mR nx pa er)).nx))),.c (.int .i64 (.sym en)),.c (.int .i64 (.sym ((poR ws en (mR nx pa er)).pa))),.c (.int .i64 (.sym ((poR ws en (mR nx pa er)).er)))])
 |_=>none
noncomputable def proC:Con:=conM 135 [.c (.rows 202),.c (.int .i64),.c (.int .i64),.c (.int .i64),.c (.int .i64)] [] proS
theorem pro_ok:ConOK Tryz.prog 74 proC:=by
 refine fn_obM tt_ok mixed Tryz.func74 rfl (fun _ _=>by kernel_rfl) (A:=fun ds=>⟨fun _=>Cons.of [(119,namC),(71,accC),(122,expC),(123,(stmC stX 1000001))],fun k=>match k,ds with | 3,[.d ws,.i nx,.i en,.i pa,.i er]=>some {ι:=D × Rd,pre:=fun _ q=>rdOK ws q.2.nx/\(seqA (acG kwV ws) (vrF ws en) ws q.1 q.2=poV ws en (mR nx pa er))/\q.1.len+left ws q.2<=1000001,μ:=fun q=>left ws q.2,st:=fun s q=>famN s [] [0,2,3] [(0,.own 135 ([.c (.rows 202 ws),.c (.int .i64 (.sym ((q.2).nx))),.c (.int .i64 (.sym en)),.c (.int .i64 (.sym ((q.2).pa))),.c (.int .i64 (.sym ((q.2).er)))])),(idOf s 3,.own 126 ([.c (.raw (.string ((poZ ws en (mR nx pa er)).nm))),.c (.osl 9 s.nx (.lit 0) (.sym (q.1.len))),.c .nils])),(s.nx,.orow 9 (q.1))] [2]} |_,_=>none,fun _=>none⟩) (fun _ _=>(cons_cons nam_ok (cons_cons acc_ok (cons_cons exp_ok (cons_cons stX_ok cons_nil))))) (by kernel_rfl) ?_
 intro ds;unfold proS;split
 ·rename_i ws nx en pa er;refine kmp (q:=rdOK ws nx->rdOK ws nx/\rdOK ws (nmR ws en (mR nx pa er)).nx/\0<obB.size/\(∃ (i:D × Rd),(rdOK ws i.snd.nx/\seqA (acG kwV ws) (vrF ws en) ws i.fst i.snd=poV ws en (mR nx pa er)/\i.fst.len+left ws i.snd<=(1000001:Nat))/\ws.rows=ws.rows/\(exR ws en obB (nmR ws en (mR nx pa er))).nx=i.snd.nx/\en=en/\(exR ws en obB (nmR ws en (mR nx pa er))).pa=i.snd.pa/\(exR ws en obB (nmR ws en (mR nx pa er))).er=i.snd.er/\Value.string (nmS ws (mR nx pa er))=Value.string (poZ ws en (mR nx pa er)).nm/\i.fst.len=0/\i.fst.rows=[]/\Value.string ByteArray.empty=Value.string ByteArray.empty)/\∀ (i:D × Rd),rdOK ws i.snd.nx/\seqA (acG kwV ws) (vrF ws en) ws i.fst i.snd=poV ws en (mR nx pa er)/\i.fst.len+left ws i.snd<=1000001->rdOK ws i.snd.nx/\0<kwV.size/\(acB ws i.snd.nx kwV=true->rdOK ws (acR ws kwV i.snd).nx/\i.fst.len=i.fst.len/\(i.fst.len+((D.l [[D.s (nmS ws (acR ws kwV i.snd))]]).sub 0 1).len)*16<=140737488355328/\0+1<=(D.l [[D.s (nmS ws (acR ws kwV i.snd))]]).len/\rdOK ws (nmR ws en (acR ws kwV i.snd)).nx/\0<seB.size/\∃ (j:D × Rd),(rdOK ws j.snd.nx/\seqA (acG kwV ws) (vrF ws en) ws j.fst j.snd=poV ws en (mR nx pa er)/\j.fst.len+left ws j.snd<=(1000001:Nat))/\left ws j.snd<left ws i.snd/\ws.rows=ws.rows/\(exR ws en seB (nmR ws en (acR ws kwV i.snd))).nx=j.snd.nx/\en=en/\(exR ws en seB (nmR ws en (acR ws kwV i.snd))).pa=j.snd.pa/\(exR ws en seB (nmR ws en (acR ws kwV i.snd))).er=j.snd.er/\Value.string (poZ ws en (mR nx pa er)).nm=Value.string (poZ ws en (mR nx pa er)).nm/\i.fst.len+((D.l [[D.s (nmS ws (acR ws kwV i.snd))]]).sub 0 1).len=j.fst.len/\i.fst.rows++List.drop 0 (List.take 1 [[D.s (nmS ws (acR ws kwV i.snd))]])=j.fst.rows/\Value.string ByteArray.empty=Value.string ByteArray.empty)/\(acB ws i.snd.nx kwV=false->rdOK ws (acR ws kwV i.snd).nx/\dpOK ws (acR ws kwV i.snd) (0:Int)/\left ws (acR ws kwV i.snd)<1000001/\rdOK ws (stX en ws (0:Int) (acR ws kwV i.snd)).snd.nx/\0<cbB.size/\Value.string (poZ ws en (mR nx pa er)).nm=Value.string (poZ ws en (mR nx pa er)).nm/\i.fst.len=(poZ ws en (mR nx pa er)).vs.len/\(stX en ws (0:Int) (acR ws kwV i.snd)).fst.len=(poZ ws en (mR nx pa er)).b.len/\ws.rows=ws.rows/\(exR ws en cbB (stX en ws (0:Int) (acR ws kwV i.snd)).snd).nx=(poR ws en (mR nx pa er)).nx/\en=en/\(exR ws en cbB (stX en ws (0:Int) (acR ws kwV i.snd)).snd).pa=(poR ws en (mR nx pa er)).pa/\(exR ws en cbB (stX en ws (0:Int) (acR ws kwV i.snd)).snd).er=(poR ws en (mR nx pa er)).er/\i.fst.rows=(poZ ws en (mR nx pa er)).vs.rows/\(stX en ws (0:Int) (acR ws kwV i.snd)).fst.rows=(poZ ws en (mR nx pa er)).b.rows)) (by kernel_rfl) ?_
  intro h;obtain ⟨a,b,c,d,e,f⟩:=po_up en (r:=mR nx pa er) h;have l0:=(lf_lt b).2;refine ⟨h,a,by decide,⟨(.l [],ruA ws en (mR nx pa er)),⟨b,rfl,(by show 0+left ws (ruA ws en (mR nx pa er))<=1000001;omega)⟩,?_⟩,?_⟩
  ·(repeat' (with_reducible apply And.intro))<;>first |with_reducible rfl |exact True.intro |with_reducible assumption |decide |assumption |rfl
  rintro q ⟨h1,h2,h3⟩;refine ⟨h1,by decide,fun hc=>?_,fun hc=>?_⟩
  ·have hg:acG kwV ws q.2=true:=hc;obtain ⟨u1,u2⟩:=(vr_sq en).up q.2 h1 hg;have u3:=lt_left u1 h1 u2;have hs:=seq_step (vr_sq en) (d:=q.1) h1 hg;have hz:(q.1.len+1)*16<=140737488355328:=by omega
   have hl:(D.l (q.1.rows++[(vrF ws en q.2).1])).len+left ws (vrF ws en q.2).2<=1000001:=by rw [ap_len];omega
   have m1:=(ac_up (t:=kwV) h1 (by decide)).1;have m2:=(nm_up en m1).1;refine ⟨m1,rfl,hz,Nat.le_refl 1,m2,by decide,(.l (q.1.rows++[(vrF ws en q.2).1]),(vrF ws en q.2).2),⟨u1,hs.trans h2,hl⟩,u3,?_⟩
   (repeat' (with_reducible apply And.intro))<;>first |with_reducible rfl |exact True.intro |exact (ap_len _ _).symm |rfl
  ·have hg:acG kwV ws q.2=false:=hc;have h2:(q.1,q.2)=poV ws en (mR nx pa er):=(seq_end hg).symm.trans h2;rw [acR_no (r:=q.2) hc];have f1:=(lf_lt h1).1;have f2:=(lf_lt h1).2;have f3:=((stX_up en ws 0).up _ h1).2;simp only [etR,poZ,poR,poB,<- h2]
   (repeat' (with_reducible apply And.intro))<;>first |with_reducible rfl |exact True.intro |with_reducible assumption |decide |assumption |rfl
 ·trivial
end Go.Proofs.YtplejbgafjpomaaGreatDoor.Sx.Z
namespace Go.Proofs.YtplejbgafjpomaaGreatDoor.Sx.Z
open Go.RowKit
def csF (ws:D) (en:Int) (r:Rd):List D × Rd:=((chZ ws en (acR ws kwC r)).row,chR ws en (acR ws kwC r))
def usF (ws:D) (en:Int) (r:Rd):List D × Rd:=((ruZ ws en (acR ws kwU r)).row,ruR ws en (acR ws kwU r))
def psF (ws:D) (en:Int) (r:Rd):List D × Rd:=((poZ ws en (acR ws kwP r)).row,poR ws en (acR ws kwP r))
def syC (ws:D) (en:Int) (r:Rd):D × Rd:=seqA (acG kwC ws) (csF ws en) ws (.l []) r
def syU (ws:D) (en:Int) (r:Rd):D × Rd:=seqA (acG kwU ws) (usF ws en) ws (.l []) (syC ws en r).2
def syP (ws:D) (en:Int) (r:Rd):D × Rd:=seqA (acG kwP ws) (psF ws en) ws (.l []) (syU ws en r).2
def syR (ws:D) (en:Int) (r:Rd):Rd:=fiR ws en (syP ws en r).2
theorem cs_sq {ws:D} (en:Int):SqOK ws (acG kwC ws) (csF ws en):=⟨fun r h hg=>by
 have a:=ac_up (t:=kwC) h (by decide);have b:=(ch_up en a.1).2.2.2;exact ⟨b.1,Int.lt_of_lt_of_le (ac_lt2 hg) b.2⟩⟩
theorem us_sq {ws:D} (en:Int):SqOK ws (acG kwU ws) (usF ws en):=⟨fun r h hg=>by
 have a:=ac_up (t:=kwU) h (by decide);have b:=(ru_up en a.1).2.2.2;exact ⟨b.1,Int.lt_of_lt_of_le (ac_lt2 hg) b.2⟩⟩
theorem ps_sq {ws:D} (en:Int):SqOK ws (acG kwP ws) (psF ws en):=⟨fun r h hg=>by
 have a:=ac_up (t:=kwP) h (by decide);have b:=(po_up en a.1).2.2.2.2;exact ⟨b.1,Int.lt_of_lt_of_le (ac_lt2 hg) b.2⟩⟩
theorem sy_up {ws:D} (en:Int) {r:Rd} (h:rdOK ws r.nx):rdOK ws (syC ws en r).2.nx/\rdOK ws (syU ws en r).2.nx/\rdOK ws (syP ws en r).2.nx:=by
 have a:=seq_up (cs_sq en) (.l []) h;have b:=seq_up (us_sq en) (.l []) a.1;exact ⟨a.1,b.1,(seq_up (ps_sq en) (.l []) b.1).1⟩
noncomputable def sysS:List Dat->Option (Eff × List Seg):=fun ds=>match ds with
 | [.d ws,.i nx,.i en,.i pa,.i er]=>some ({val:=.one (.agg [.c (.osl 118 0 (.lit 0) (.sym ((syC ws en (mR nx pa er)).1.len))),.c (.osl 121 1 (.lit 0) (.sym ((syU ws en (mR nx pa er)).1.len))),.c (.osl 126 2 (.lit 0) (.sym ((syP ws en (mR nx pa er)).1.len)))]),vc:=[rdOK ws nx],nw:=[(0,.orow 118 ((syC ws en (mR nx pa er)).1)),(1,.orow 121 ((syU ws en (mR nx pa er)).1)),(2,.orow 126 ((syP ws en (mR nx pa er)).1))]},[.c (.rows 202 ws),.c (.int .i64 (.sym ((syR ws en (mR nx pa er)).nx))),.c (.int .i64 (.sym en)),.c (.int .i64 (.sym ((syR ws en (mR nx pa er)).pa))),.c (.int .i64 (.sym ((syR ws en (mR nx pa er)).er)))])
 |_=>none
noncomputable def sysC:Con:=conM 135 [.c (.rows 202),.c (.int .i64),.c (.int .i64),.c (.int .i64),.c (.int .i64)] [] sysS
theorem sys_ok:ConOK Tryz.prog 38 sysC:=by
 refine fn_obM tt_ok mixed Tryz.func38 rfl (fun _ _=>by kernel_rfl) (A:=fun ds=>⟨fun _=>Cons.of [(72,chnC),(73,rulC),(74,proC),(71,accC),(75,finC)],fun k=>match k,ds with | 2,[.d ws,.i nx,.i en,.i pa,.i er]=>some {ι:=D × Rd,pre:=fun _ q=>rdOK ws q.2.nx/\(seqA (acG kwC ws) (csF ws en) ws q.1 q.2=(syC ws en (mR nx pa er)))/\q.1.len+left ws q.2<=1000001,μ:=fun q=>left ws q.2,st:=fun s q=>famN s [] [0,2,3] [(0,.own 135 ([.c (.rows 202 ws),.c (.int .i64 (.sym ((q.2).nx))),.c (.int .i64 (.sym en)),.c (.int .i64 (.sym ((q.2).pa))),.c (.int .i64 (.sym ((q.2).er)))])),(idOf s 3,.own 67 ([.c (.osl 118 s.nx (.lit 0) (.sym (q.1.len))),.c .nils,.c .nils])),(s.nx,.orow 118 (q.1))] [2]} | 4,[.d ws,.i nx,.i en,.i pa,.i er]=>some {ι:=D × Rd,pre:=fun _ q=>rdOK ws q.2.nx/\(seqA (acG kwU ws) (usF ws en) ws q.1 q.2=(syU ws en (mR nx pa er)))/\q.1.len+left ws q.2<=1000001,μ:=fun q=>left ws q.2,st:=fun s q=>famN s [] [0,2,3] [(0,.own 135 ([.c (.rows 202 ws),.c (.int .i64 (.sym ((q.2).nx))),.c (.int .i64 (.sym en)),.c (.int .i64 (.sym ((q.2).pa))),.c (.int .i64 (.sym ((q.2).er)))])),(idOf s 3,.own 67 ([.c (.osl 118 (cellIdP s 3 0) (.lit 0) (.sym ((syC ws en (mR nx pa er)).1.len))),.c (.osl 121 s.nx (.lit 0) (.sym (q.1.len))),.c .nils])),(cellIdP s 3 0,.orow 118 ((syC ws en (mR nx pa er)).1)),(s.nx,.orow 121 (q.1))] [2]} | 6,[.d ws,.i nx,.i en,.i pa,.i er]=>some {ι:=D × Rd,pre:=fun _ q=>rdOK ws q.2.nx/\(seqA (acG kwP ws) (psF ws en) ws q.1 q.2=(syP ws en (mR nx pa er)))/\q.1.len+left ws q.2<=1000001,μ:=fun q=>left ws q.2,st:=fun s q=>famN s [] [0,2,3] [(0,.own 135 ([.c (.rows 202 ws),.c (.int .i64 (.sym ((q.2).nx))),.c (.int .i64 (.sym en)),.c (.int .i64 (.sym ((q.2).pa))),.c (.int .i64 (.sym ((q.2).er)))])),(idOf s 3,.own 67 ([.c (.osl 118 (cellIdP s 3 0) (.lit 0) (.sym ((syC ws en (mR nx pa er)).1.len))),.c (.osl 121 (cellIdP s 3 1) (.lit 0) (.sym ((syU ws en (mR nx pa er)).1.len))),.c (.osl 126 s.nx (.lit 0) (.sym (q.1.len)))])),(cellIdP s 3 0,.orow 118 ((syC ws en (mR nx pa er)).1)),(cellIdP s 3 1,.orow 121 ((syU ws en (mR nx pa er)).1)),(s.nx,.orow 126 (q.1))] [2]} |_,_=>none,fun _=>none⟩) (fun _ _=>(cons_cons chn_ok (cons_cons rul_ok (cons_cons pro_ok (cons_cons acc_ok (cons_cons fin_ok cons_nil)))))) (by kernel_rfl) ?_
 intro ds;unfold sysS;split
 ·rename_i ws nx en pa er
  refine kmp (q:=withv (fun (i:D × Rd)=>chZ ws en (acR ws kwC i.snd)) fun E217=>withv (fun (i:D × Rd)=>poZ ws en (acR ws kwP i.snd)) fun E218=>withv (syC ws en (mR nx pa er)) fun E219=>withv (fun (i:D × Rd)=>ruZ ws en (acR ws kwU i.snd)) fun E220=>withv (fun (i:D × Rd)=>D.l [[D.s (E217 i).nm,D.i (E217 i).k,D.i (E217 i).n,D.s (E217 i).fr,D.s (E217 i).to,(E217 i).tg.sub 0 ((0:Nat)+(E217 i).tg.len)]]) fun E221=>withv (fun (i:D × Rd)=>D.l [[D.s (E218 i).nm,(E218 i).vs.sub 0 ((0:Nat)+(E218 i).vs.len),(E218 i).b.sub 0 ((0:Nat)+(E218 i).b.len)]]) fun E222=>withv (syU ws en (mR nx pa er)) fun E223=>withv (fun (i:D × Rd)=>D.l [[D.s (E220 i).ch,(E220 i).mv.sub 0 ((0:Nat)+(E220 i).mv.len)]]) fun E224=>rdOK ws nx->(∃ (i:D × Rd),(rdOK ws i.snd.nx/\seqA (acG kwC ws) (csF ws en) ws i.fst i.snd=syC ws en (mR nx pa er)/\i.fst.len+left ws i.snd<=(1000001:Nat))/\ws.rows=ws.rows/\nx=i.snd.nx/\en=en/\pa=i.snd.pa/\er=i.snd.er/\i.fst.len=0/\i.fst.rows=[])/\∀ (i:D × Rd),rdOK ws i.snd.nx/\seqA (acG kwC ws) (csF ws en) ws i.fst i.snd=syC ws en (mR nx pa er)/\i.fst.len+left ws i.snd<=1000001->rdOK ws i.snd.nx/\0<kwC.size/\(acB ws i.snd.nx kwC=true->rdOK ws (acR ws kwC i.snd).nx/\0+(E217 i).tg.len<=(E217 i).tg.len/\i.fst.len=i.fst.len/\(i.fst.len+((E221 i).sub 0 1).len)*88<=140737488355328/\0+1<=(E221 i).len/\∃ (j:D × Rd),(rdOK ws j.snd.nx/\seqA (acG kwC ws) (csF ws en) ws j.fst j.snd=syC ws en (mR nx pa er)/\j.fst.len+left ws j.snd<=(1000001:Nat))/\left ws j.snd<left ws i.snd/\ws.rows=ws.rows/\(chR ws en (acR ws kwC i.snd)).nx=j.snd.nx/\en=en/\(chR ws en (acR ws kwC i.snd)).pa=j.snd.pa/\(chR ws en (acR ws kwC i.snd)).er=j.snd.er/\i.fst.len+((E221 i).sub 0 1).len=j.fst.len/\i.fst.rows++List.drop 0 (List.take 1 [[D.s (E217 i).nm,D.i (E217 i).k,D.i (E217 i).n,D.s (E217 i).fr,D.s (E217 i).to,(E217 i).tg.sub 0 ((0:Nat)+(E217 i).tg.len)]])=j.fst.rows)/\(acB ws i.snd.nx kwC=false->(∃ (i_1:D × Rd),(rdOK ws i_1.snd.nx/\seqA (acG kwU ws) (usF ws en) ws i_1.fst i_1.snd=syU ws en (mR nx pa er)/\i_1.fst.len+left ws i_1.snd<=(1000001:Nat))/\ws.rows=ws.rows/\(acR ws kwC i.snd).nx=i_1.snd.nx/\en=en/\(acR ws kwC i.snd).pa=i_1.snd.pa/\(acR ws kwC i.snd).er=i_1.snd.er/\i.fst.len=E219.fst.len/\i_1.fst.len=0/\i.fst.rows=E219.fst.rows/\i_1.fst.rows=[])/\∀ (i:D × Rd),rdOK ws i.snd.nx/\seqA (acG kwU ws) (usF ws en) ws i.fst i.snd=syU ws en (mR nx pa er)/\i.fst.len+left ws i.snd<=1000001->rdOK ws i.snd.nx/\0<kwU.size/\(acB ws i.snd.nx kwU=true->rdOK ws (acR ws kwU i.snd).nx/\0+(E220 i).mv.len<=(E220 i).mv.len/\i.fst.len=i.fst.len/\(i.fst.len+((E224 i).sub 0 1).len)*40<=140737488355328/\0+1<=(E224 i).len/\∃ (j:D × Rd),(rdOK ws j.snd.nx/\seqA (acG kwU ws) (usF ws en) ws j.fst j.snd=syU ws en (mR nx pa er)/\j.fst.len+left ws j.snd<=(1000001:Nat))/\left ws j.snd<left ws i.snd/\ws.rows=ws.rows/\(ruR ws en (acR ws kwU i.snd)).nx=j.snd.nx/\en=en/\(ruR ws en (acR ws kwU i.snd)).pa=j.snd.pa/\(ruR ws en (acR ws kwU i.snd)).er=j.snd.er/\E219.fst.len=E219.fst.len/\i.fst.len+((E224 i).sub 0 1).len=j.fst.len/\E219.fst.rows=E219.fst.rows/\i.fst.rows++List.drop 0 (List.take 1 [[D.s (E220 i).ch,(E220 i).mv.sub 0 ((0:Nat)+(E220 i).mv.len)]])=j.fst.rows)/\(acB ws i.snd.nx kwU=false->(∃ (i_1:D × Rd),(rdOK ws i_1.snd.nx/\seqA (acG kwP ws) (psF ws en) ws i_1.fst i_1.snd=syP ws en (mR nx pa er)/\i_1.fst.len+left ws i_1.snd<=(1000001:Nat))/\ws.rows=ws.rows/\(acR ws kwU i.snd).nx=i_1.snd.nx/\en=en/\(acR ws kwU i.snd).pa=i_1.snd.pa/\(acR ws kwU i.snd).er=i_1.snd.er/\E219.fst.len=E219.fst.len/\i.fst.len=E223.fst.len/\i_1.fst.len=0/\E219.fst.rows=E219.fst.rows/\i.fst.rows=E223.fst.rows/\i_1.fst.rows=[])/\∀ (i:D × Rd),rdOK ws i.snd.nx/\seqA (acG kwP ws) (psF ws en) ws i.fst i.snd=syP ws en (mR nx pa er)/\i.fst.len+left ws i.snd<=1000001->rdOK ws i.snd.nx/\0<kwP.size/\(acB ws i.snd.nx kwP=true->rdOK ws (acR ws kwP i.snd).nx/\0+(E218 i).vs.len<=(E218 i).vs.len/\0+(E218 i).b.len<=(E218 i).b.len/\i.fst.len=i.fst.len/\(i.fst.len+((E222 i).sub 0 1).len)*64<=140737488355328/\0+1<=(E222 i).len/\∃ (j:D × Rd),(rdOK ws j.snd.nx/\seqA (acG kwP ws) (psF ws en) ws j.fst j.snd=syP ws en (mR nx pa er)/\j.fst.len+left ws j.snd<=(1000001:Nat))/\left ws j.snd<left ws i.snd/\ws.rows=ws.rows/\(poR ws en (acR ws kwP i.snd)).nx=j.snd.nx/\en=en/\(poR ws en (acR ws kwP i.snd)).pa=j.snd.pa/\(poR ws en (acR ws kwP i.snd)).er=j.snd.er/\E219.fst.len=E219.fst.len/\E223.fst.len=E223.fst.len/\i.fst.len+((E222 i).sub 0 1).len=j.fst.len/\E219.fst.rows=E219.fst.rows/\E223.fst.rows=E223.fst.rows/\i.fst.rows++List.drop 0 (List.take 1 [[D.s (E218 i).nm,(E218 i).vs.sub 0 ((0:Nat)+(E218 i).vs.len),(E218 i).b.sub 0 ((0:Nat)+(E218 i).b.len)]])=j.fst.rows)/\(acB ws i.snd.nx kwP=false->rdOK ws (acR ws kwP i.snd).nx/\E219.fst.len=E219.fst.len/\E223.fst.len=E223.fst.len/\i.fst.len=(syP ws en (mR nx pa er)).fst.len/\ws.rows=ws.rows/\(fiR ws en (acR ws kwP i.snd)).nx=(syR ws en (mR nx pa er)).nx/\en=en/\(fiR ws en (acR ws kwP i.snd)).pa=(syR ws en (mR nx pa er)).pa/\(fiR ws en (acR ws kwP i.snd)).er=(syR ws en (mR nx pa er)).er/\E219.fst.rows=E219.fst.rows/\E223.fst.rows=E223.fst.rows/\i.fst.rows=(syP ws en (mR nx pa er)).fst.rows)))) (by kernel_rfl) ?_
  dsimp +instances only [withv]
  intro h;obtain ⟨a,b,c⟩:=sy_up en (r:=mR nx pa er) h;refine ⟨⟨(.l [],(mR nx pa er)),⟨h,rfl,(by show 0+left ws (mR nx pa er)<=1000001;have:=(lf_lt (r:=(mR nx pa er)) h).2;omega)⟩,?_⟩,?_⟩
  ·(repeat' (with_reducible apply And.intro))<;>first |with_reducible rfl |exact True.intro |with_reducible assumption |decide |assumption |rfl
  rintro q ⟨h1,h2,h3⟩;refine ⟨h1,by decide,fun hc=>?_,fun hc=>?_⟩
  ·have hg:acG kwC ws q.2=true:=hc;obtain ⟨u1,u2⟩:=(cs_sq en).up q.2 h1 hg;have u3:=lt_left u1 h1 u2;have hs:=seq_step (cs_sq en) (d:=q.1) h1 hg;have hz:(q.1.len+1)*88<=140737488355328:=by omega
   have hl:(D.l (q.1.rows++[(csF ws en q.2).1])).len+left ws (csF ws en q.2).2<=1000001:=by rw [ap_len];omega
   have m1:=(ac_up (t:=kwC) h1 (by decide)).1;refine ⟨m1,Nat.le_of_eq (Nat.zero_add _),rfl,hz,Nat.le_refl 1,(.l (q.1.rows++[(csF ws en q.2).1]),(csF ws en q.2).2),⟨u1,hs.trans h2,hl⟩,u3,?_⟩;simp only [subAll]
   (repeat' (with_reducible apply And.intro))<;>first |with_reducible rfl |exact True.intro |exact (ap_len _ _).symm |rfl
  have hg:acG kwC ws q.2=false:=hc;have h2:(q.1,q.2)=(syC ws en (mR nx pa er)):=(seq_end hg).symm.trans h2;rw [acR_no (r:=q.2) hc];refine ⟨⟨(.l [],(syC ws en (mR nx pa er)).2),⟨a,rfl,(by show 0+left ws (syC ws en (mR nx pa er)).2<=1000001;have:=(lf_lt (r:=(syC ws en (mR nx pa er)).2) a).2;omega)⟩,?_⟩,?_⟩
  ·simp only [<- h2]
   (repeat' (with_reducible apply And.intro))<;>first |with_reducible rfl |exact True.intro |with_reducible assumption |decide |assumption |rfl
  rintro q ⟨h1,h2,h3⟩;refine ⟨h1,by decide,fun hc=>?_,fun hc=>?_⟩
  ·have hg:acG kwU ws q.2=true:=hc;obtain ⟨u1,u2⟩:=(us_sq en).up q.2 h1 hg;have u3:=lt_left u1 h1 u2;have hs:=seq_step (us_sq en) (d:=q.1) h1 hg;have hz:(q.1.len+1)*40<=140737488355328:=by omega
   have hl:(D.l (q.1.rows++[(usF ws en q.2).1])).len+left ws (usF ws en q.2).2<=1000001:=by rw [ap_len];omega
   have m1:=(ac_up (t:=kwU) h1 (by decide)).1;refine ⟨m1,Nat.le_of_eq (Nat.zero_add _),rfl,hz,Nat.le_refl 1,(.l (q.1.rows++[(usF ws en q.2).1]),(usF ws en q.2).2),⟨u1,hs.trans h2,hl⟩,u3,?_⟩;simp only [subAll]
   (repeat' (with_reducible apply And.intro))<;>first |with_reducible rfl |exact True.intro |exact (ap_len _ _).symm |rfl
  have hg:acG kwU ws q.2=false:=hc;have h2:(q.1,q.2)=(syU ws en (mR nx pa er)):=(seq_end hg).symm.trans h2;rw [acR_no (r:=q.2) hc];refine ⟨⟨(.l [],(syU ws en (mR nx pa er)).2),⟨b,rfl,(by show 0+left ws (syU ws en (mR nx pa er)).2<=1000001;have:=(lf_lt (r:=(syU ws en (mR nx pa er)).2) b).2;omega)⟩,?_⟩,?_⟩
  ·simp only [<- h2]
   (repeat' (with_reducible apply And.intro))<;>first |with_reducible rfl |exact True.intro |with_reducible assumption |decide |assumption |rfl
  rintro q ⟨h1,h2,h3⟩;refine ⟨h1,by decide,fun hc=>?_,fun hc=>?_⟩
  ·have hg:acG kwP ws q.2=true:=hc;obtain ⟨u1,u2⟩:=(ps_sq en).up q.2 h1 hg;have u3:=lt_left u1 h1 u2;have hs:=seq_step (ps_sq en) (d:=q.1) h1 hg;have hz:(q.1.len+1)*64<=140737488355328:=by omega
   have hl:(D.l (q.1.rows++[(psF ws en q.2).1])).len+left ws (psF ws en q.2).2<=1000001:=by rw [ap_len];omega
   have m1:=(ac_up (t:=kwP) h1 (by decide)).1;refine ⟨m1,Nat.le_of_eq (Nat.zero_add _),Nat.le_of_eq (Nat.zero_add _),rfl,hz,Nat.le_refl 1,(.l (q.1.rows++[(psF ws en q.2).1]),(psF ws en q.2).2),⟨u1,hs.trans h2,hl⟩,u3,?_⟩;simp only [subAll]
   (repeat' (with_reducible apply And.intro))<;>first |with_reducible rfl |exact True.intro |exact (ap_len _ _).symm |rfl
  have hg:acG kwP ws q.2=false:=hc;have h2:(q.1,q.2)=(syP ws en (mR nx pa er)):=(seq_end hg).symm.trans h2;rw [acR_no (r:=q.2) hc];simp only [syR,<- h2]
  (repeat' (with_reducible apply And.intro))<;>first |with_reducible rfl |exact True.intro |with_reducible assumption |decide |assumption |rfl
 ·trivial
end Go.Proofs.YtplejbgafjpomaaGreatDoor.Sx.Z
namespace Go.Proofs.YtplejbgafjpomaaGreatDoor.Sx.Z
open Go.RowKit
def paW (s:ByteArray):D:=tokD (lexR s).1
def paY (s:ByteArray):Rd:=syR (paW s) (s.size:Nat) (mR 0 0 0)
def paO (s:ByteArray):Bool:=decide ((lexR s).2.2=0)&&decide ((paY s).er=0)
def paC (s:ByteArray):D:=if paO s=true then (syC (paW s) (s.size:Nat) (mR 0 0 0)).1 else .l []
def paU (s:ByteArray):D:=if paO s=true then (syU (paW s) (s.size:Nat) (mR 0 0 0)).1 else .l []
def paP (s:ByteArray):D:=if paO s=true then (syP (paW s) (s.size:Nat) (mR 0 0 0)).1 else .l []
def paE (s:ByteArray):Int:=if (lexR s).2.2=0 then (paY s).er else (lexR s).2.2
def paA (s:ByteArray):Int:=if (lexR s).2.2=0 then (if (paY s).er=0 then 0 else (paY s).pa) else ((lexR s).2.1:Nat)
theorem ne_of_bne {a b:Int} (h:(a != b)=true):a≠b:=by simpa using h
theorem of_not_bne {a b:Int} (h:(a != b)=false):a=b:=by simpa using h
theorem lexR_len (s:ByteArray):(lexR s).1.length<=2000:=by
 unfold lexR;split
 ·exact Nat.zero_le _
 ·split
  ·exact Nat.zero_le _
  ·rename_i h;exact Nat.le_of_not_lt h
theorem paW_ok (s:ByteArray):rdOK (paW s) (mR 0 0 0).nx:=by
 have h:=lexR_len s;have e:(paW s).len=(lexR s).1.length:=tokD_len _;exact ⟨Int.le_refl _,by show (0:Int)<=_;omega,by omega⟩
noncomputable def parS:List Dat->Option Eff:=fun ds=>match ds with
 | [.s s]=>some {val:=.tup [.agg [.c (.osl 118 0 (.lit 0) (.sym ((paC s).len))),.c (.osl 121 1 (.lit 0) (.sym ((paU s).len))),.c (.osl 126 2 (.lit 0) (.sym ((paP s).len)))],.sc (.int .i64 (.sym (paA s))),.sc (.int .i64 (.sym (paE s)))],vc:=[s.size<=140737488351232],nw:=[(0,.orow 118 (paC s)),(1,.orow 121 (paU s)),(2,.orow 126 (paP s))]}
 |_=>none
noncomputable def parC:Con:=conS [.sc .str] parS
theorem par_ok:ConOK Tryz.prog 16 parC:=by
 refine fn_obS tt_ok mixed Tryz.func16 rfl (fun _ _=>by kernel_rfl) (A:=fun ds=>⟨fun _=>Cons.of [(37,lexC),(38,sysC)],fun _=>none,fun _=>none⟩) (fun _ _=>(cons_cons lex_ok (cons_cons sys_ok cons_nil))) (by kernel_rfl) ?_
 intro ds;unfold parS;split
 ·rename_i s;refine kmp (q:=s.size<=140737488351232->s.size<=140737488351232/\(((lexR s).snd.snd != (0:Int))=true->(paC s).len=0/\(paU s).len=0/\(paP s).len=0/\(↑(lexR s).snd.fst:Int)=paA s/\(lexR s).snd.snd=paE s/\(paC s).rows=[]/\(paU s).rows=[]/\(paP s).rows=[])/\(((lexR s).snd.snd != (0:Int))=false->rdOK (tokD (lexR s).fst) (0:Int)/\(((syR (tokD (lexR s).fst) (s.size:Int) (mR (0:Int) (0:Int) (0:Int))).er != (0:Int))=true->(paC s).len=0/\(paU s).len=0/\(paP s).len=0/\(syR (tokD (lexR s).fst) (s.size:Int) (mR (0:Int) (0:Int) (0:Int))).pa=paA s/\(syR (tokD (lexR s).fst) (s.size:Int) (mR (0:Int) (0:Int) (0:Int))).er=paE s/\(paC s).rows=[]/\(paU s).rows=[]/\(paP s).rows=[])/\(((syR (tokD (lexR s).fst) (s.size:Int) (mR (0:Int) (0:Int) (0:Int))).er != (0:Int))=false->(syC (tokD (lexR s).fst) (s.size:Int) (mR (0:Int) (0:Int) (0:Int))).fst.len=(paC s).len/\(syU (tokD (lexR s).fst) (s.size:Int) (mR (0:Int) (0:Int) (0:Int))).fst.len=(paU s).len/\(syP (tokD (lexR s).fst) (s.size:Int) (mR (0:Int) (0:Int) (0:Int))).fst.len=(paP s).len/\(0:Int)=paA s/\(0:Int)=paE s/\(syC (tokD (lexR s).fst) (s.size:Int) (mR (0:Int) (0:Int) (0:Int))).fst.rows=(paC s).rows/\(syU (tokD (lexR s).fst) (s.size:Int) (mR (0:Int) (0:Int) (0:Int))).fst.rows=(paU s).rows/\(syP (tokD (lexR s).fst) (s.size:Int) (mR (0:Int) (0:Int) (0:Int))).fst.rows=(paP s).rows))) (by kernel_rfl) ?_
  intro h;have g:=paW_ok s;refine ⟨h,fun hc=>?_,fun hc=>⟨g,fun hd=>?_,fun hd=>?_⟩⟩
  ·have hc:(lexR s).2.2≠0:=by simpa using hc
   have e:paO s=false:=by simp only [paO,decide_eq_false hc,Bool.false_and]
   simp only [paC,paU,paP,paA,paE,e,if_neg hc,Bool.false_eq_true,if_false]
   (repeat' (with_reducible apply And.intro))<;>first |with_reducible rfl |exact True.intro |with_reducible assumption |decide |assumption |rfl
  ·have hc:(lexR s).2.2=0:=by simpa using hc
   have hd:(paY s).er≠0:=ne_of_bne hd;have e:paO s=false:=by simp only [paO,decide_eq_false hd,Bool.and_false]
   simp only [paC,paU,paP,paA,paE,e,if_pos hc,if_neg hd,Bool.false_eq_true,if_false]
   (repeat' (with_reducible apply And.intro))<;>first |with_reducible rfl |exact True.intro |with_reducible assumption |decide |assumption |rfl
  ·have hc:(lexR s).2.2=0:=by simpa using hc
   have hd:(paY s).er=0:=of_not_bne hd;have e:paO s=true:=by simp only [paO,decide_eq_true hc,decide_eq_true hd,Bool.and_self]
   simp only [paC,paU,paP,paA,paE,e,if_pos hc,if_pos hd,if_true,hd]
   (repeat' (with_reducible apply And.intro))<;>first |with_reducible rfl |exact True.intro |with_reducible assumption |decide |assumption |rfl
 ·trivial
end Go.Proofs.YtplejbgafjpomaaGreatDoor.Sx.Z
namespace Go.Proofs.YtplejbgafjpomaaGreatDoor.Sx.Z
open Go.RowKit
def bcR (ch pr:D) (i:Nat):List D:=[D.i (ch.el i 1).toI,D.i (ch.el i 2).toI,D.i (ixC pr (ch.el i 3).toS),D.i (ixC pr (ch.el i 4).toS),D.i (ch.el i 5).len,D.l []]
structure BcOK (ch pr:D):Prop where
 l:ch.len<=1000000
 p:pr.len<=1000000
 f:∀ i,i<ch.len->0<=ixC pr (ch.el i 3).toS
 t:∀ i,i<ch.len->0<=ixC pr (ch.el i 4).toS
 n:∀ i,i<ch.len->ixC pr (ch.el i 3).toS≠ixC pr (ch.el i 4).toS
noncomputable def bchS:FSpec:=fun ds _=>match ds with
 | [.d ch,.d ru,.d pr]=>some {val:=.tup [.sc (.rows 69 (cpTo ch.len (bcR ch pr))),.sc (.int .i64 (.lit 0))],vc:=[ru.len=0,BcOK ch pr]}
 |_=>none
noncomputable def bchC:Con:=con [lSy] bchS
theorem bch_ok:ConOK Tryz.prog 31 bchC:=by
 refine fn_ob tt_ok mixed Tryz.func31 rfl (fun _ _=>by kernel_rfl) (A:=fun ds=>⟨fun _=>Cons.of [(57,procAtC),(58,chanAtC)],fun k=>match k,ds with | 3,[.d ch,.d ru,.d pr]=>some {ι:=Nat,pre:=fun _ i=>i<=ch.len,μ:=fun i=>ch.len+1-i,st:=fun s i=>famR s [(17,.one (.sc (.int .i64 (.sym ((i:Nat)))))),(4,.one (.sc (.osl 69 (s.nx-1) (.lit 0) (.sym (i)))))] [1,15,16] [(s.nx-1,.orow 69 (cpTo i (bcR ch pr)))] [1]} | 13,[.d ch,.d ru,.d pr]=>some {ι:=Nat,pre:=fun _ i=>i=0,μ:=fun i=>1-i,st:=fun s i=>famR s [(57,.one (.sc (.int .i64 (.sym ((i:Nat))))))] [1,4,55,56] [] [1,4]} |_,_=>none,fun _=>none⟩) (fun _ _=>(cons_cons procAt_ok (cons_cons chanAt_ok cons_nil))) (by kernel_rfl) ?_
 intro ds fr;unfold bchS;split
 ·rename_i ch ru pr
  refine kmp (q:=withv (fun (i:Nat)=>D.l [[D.i (ch.el (i:Int).toNat 1).toI,D.i (ch.el (i:Int).toNat 2).toI,D.i (ixC pr (ch.el (i:Int).toNat 3).toS),D.i (ixC pr (ch.el (i:Int).toNat 4).toS),D.i (↑(ch.el (i:Int).toNat 5).len:Int),D.l []]]) fun E227=>withv (fun (i:Nat)=>ch.el (i:Int).toNat 4) fun E228=>withv (fun (i:Nat)=>ch.el (i:Int).toNat 3) fun E229=>withv (fun (i_1:Nat)=>ru.el (i_1:Int).toNat 0) fun E230=>ru.len=(0:Nat)->BcOK ch pr->(∃ (i:Nat),i.le ch.len/\(0:Int)=(i:Int)/\i=(0:Nat)/\ch.rows=ch.rows/\(ch.len:Int)=(ch.len:Int)/\List.map (bcR ch pr) (List.range i)=[]/\ch.rows=ch.rows/\ru.rows=ru.rows/\pr.rows=pr.rows)/\∀ (i:Nat),i.le ch.len->(decide ((i:Int)<(ch.len:Int))=true->((0:Int)<=(i:Int)/\(i:Int)<(ch.len:Int))/\pr.len<=10000000000000/\pr.len<=10000000000000/\((decide (ixC pr (E229 i).toS<(0:Int)) ||decide (ixC pr (E228 i).toS<(0:Int)))=true->List.map (bcR ch pr) (List.range ch.len)=[]/\(8:Int)=(0:Int))/\((decide (ixC pr (E229 i).toS<(0:Int)) ||decide (ixC pr (E228 i).toS<(0:Int)))=false->((ixC pr (E229 i).toS==ixC pr (E228 i).toS)=true->List.map (bcR ch pr) (List.range ch.len)=[]/\(9:Int)=(0:Int))/\((ixC pr (E229 i).toS==ixC pr (E228 i).toS)=false->i=(cpTo i (bcR ch pr)).len/\(i+((E227 i).sub (0:Nat) 1).len)*(64:Nat)<=(140737488355328:Nat)/\(0:Nat)+(1:Nat)<=(E227 i).len/\∃ (j:Nat),j.le ch.len/\ch.len+(1:Nat)-j<ch.len+(1:Nat)-i/\IntKind.i64.wrap ((i:Int)+(1:Int))=(j:Int)/\i+((E227 i).sub (0:Nat) 1).len=j/\ch.rows=ch.rows/\(ch.len:Int)=(ch.len:Int)/\List.map (bcR ch pr) (List.range i)++List.drop (0:Nat) (List.take 1 [[D.i (ch.el (i:Int).toNat 1).toI,D.i (ch.el (i:Int).toNat 2).toI,D.i (ixC pr (E229 i).toS),D.i (ixC pr (E228 i).toS),D.i (↑(ch.el (i:Int).toNat 5).len:Int),D.l []]])=List.map (bcR ch pr) (List.range j)/\ch.rows=ch.rows/\ru.rows=ru.rows/\pr.rows=pr.rows)))/\(decide ((i:Int)<(ch.len:Int))=false->(∃ (i_1:Nat),i_1=(0:Nat)/\(0:Int)=(i_1:Int)/\i=i/\ru.rows=ru.rows/\(ru.len:Int)=(ru.len:Int)/\ch.rows=ch.rows/\ru.rows=ru.rows/\pr.rows=pr.rows/\List.map (bcR ch pr) (List.range i)=List.map (bcR ch pr) (List.range i))/\∀ (i_1:Nat),i_1=(0:Nat)->(decide ((i_1:Int)<(ru.len:Int))=true->((0:Int)<=(i_1:Int)/\(i_1:Int)<(ru.len:Int))/\ch.len<=10000000000000/\(decide (ixC ch (E230 i_1).toS<(0:Int))=true->List.map (bcR ch pr) (List.range ch.len)=[]/\(8:Int)=(0:Int))/\(decide (ixC ch (E230 i_1).toS<(0:Int))=false->((0:Int)<=ixC ch (E230 i_1).toS/\ixC ch (E230 i_1).toS<(i:Int))/\(ixC ch (E230 i_1).toS).toNat<(cpTo i (bcR ch pr)).len/\(decide ((↑((cpTo i (bcR ch pr)).el (ixC ch (E230 i_1).toS).toNat ((0:Nat)+(5:Nat))).len:Int)>(0:Int))=true->List.map (bcR ch pr) (List.range ch.len)=[]/\(7:Int)=(0:Int))/\(decide ((↑((cpTo i (bcR ch pr)).el (ixC ch (E230 i_1).toS).toNat ((0:Nat)+(5:Nat))).len:Int)>(0:Int))=false->False)))/\(decide ((i_1:Int)<(ru.len:Int))=false->(0:Nat)+i<=(cpTo i (bcR ch pr)).len/\List.drop ((0:Nat)) (List.take ((0:Nat)+i) (List.map (bcR ch pr) (List.range i)))=List.map (bcR ch pr) (List.range ch.len)/\(0:Int)=(0:Int)))) (by kernel_rfl) ?_
  dsimp +instances only [withv]
  intro hr hb;simp only [Nat.reduceAdd,Nat.zero_add,k_n];have b1:=hb.l;have b2:=hb.p;refine ⟨⟨0,Nat.zero_le _,(by (repeat' (with_reducible apply And.intro))<;>first |exact True.intro |rfl)⟩,fun i hi=>⟨fun hc=>?_,fun hc=>?_⟩⟩
  ·have hc:=of_decide_eq_true hc;have hi2:i<ch.len:=by omega
   have f1:=hb.f i hi2;have f2:=hb.t i hi2;have f3:=hb.n i hi2;refine ⟨⟨by omega,by omega⟩,by omega,by omega,fun h=>?_,fun _=>⟨fun h=>absurd (eq_of_beq h) f3,fun _=>⟨(cpTo_len _ _).symm,(show (i+1)*64<=140737488355328 by omega),Nat.le_refl _,i+1,hi2,by omega,k_nx (by omega),(by (repeat' (with_reducible apply And.intro))<;>first |exact True.intro |exact (cpTo_succ _ _).symm |rfl)⟩⟩⟩;simp only [Bool.or_eq_true,decide_eq_true_eq] at h;omega
  ·have hc:=of_decide_eq_false hc;have hi3:i=ch.len:=by have:i<=ch.len:=hi;omega
   subst hi3;refine ⟨⟨0,rfl,(by (repeat' (with_reducible apply And.intro))<;>first |exact True.intro |rfl)⟩,fun q hq=>?_⟩;subst hq;refine ⟨fun h=>?_,fun _=>⟨by rw [cpTo_len];omega,by have:=takeAll ch.len (bcR ch pr);rw [Nat.zero_add] at this;exact this,trivial⟩⟩;have h:=of_decide_eq_true h;omega
 ·trivial
noncomputable def plcS:List Dat->Option (Eff × List Seg):=fun ds=>match ds with
 | [.d bc,.s bp,.d bv,.i be,.d l,.s s]=>some ({val:=.one (.sc (.int .i64 (.sym (ixN l s)))),vc:=[l.len<=10000000000000,0<=ixN l s]},[.c (.rows 118 bc),.c (.raw (.string bp)),.c (.rows 9 bv),.c (.int .i64 (.sym be))])
 |_=>none
noncomputable def plcC:Con:=conM 182 [.c (.rows 118),.c .str,.c (.rows 9),.c (.int .i64)] [.sc (.rows 9),.sc .str] plcS
theorem plc_ok:ConOK Tryz.prog 140 plcC:=by
 refine fn_obM tt_ok mixed Tryz.func140 rfl (fun _ _=>by kernel_rfl) (A:=fun ds=>⟨fun _=>Cons.of [(105,ixsC)],fun _=>none,fun _=>none⟩) (fun _ _=>(cons_cons ixs_ok cons_nil)) (by kernel_rfl) ?_
 intro ds;unfold plcS;split
 ·rename_i bc bp bv be l s;refine kmp (q:=l.len<=10000000000000->(0:Int)<=ixN l s->l.len<=10000000000000/\(decide (ixN l s<(0:Int))=true->False)/\(decide (ixN l s<(0:Int))=false->ixN l s=ixN l s/\bc.rows=bc.rows/\Value.string bp=Value.string bp/\bv.rows=bv.rows/\be=be)) (by kernel_rfl) ?_
  intro hl h0;exact ⟨hl,fun h=>absurd (of_decide_eq_true h) (by omega),fun _=>⟨rfl,rfl,rfl,rfl,rfl⟩⟩
 ·trivial
noncomputable def ksndS:FSpec:=fun ds _=>match ds with
 | [.s nm,.i ck,.i cz,.s cf,.s ct,.d tg]=>some {val:=.one (.sc (.raw (.string (cf)))),vc:=[]}
 |_=>none
noncomputable def ksndC:Con:=con [.agg [.c .str,.c (.int .i64),.c (.int .i64),.c .str,.c .str,.c (.rows 9)]] ksndS
theorem ksnd_ok:ConOK Tryz.prog 144 ksndC:=by
 refine fn_ob tt_ok mixed Tryz.func144 rfl (fun _ _=>by kernel_rfl) (A:=fun ds=>⟨fun _=>Cons.of [],fun _=>none,fun _=>none⟩) (fun _ _=>cons_nil) (by kernel_rfl) ?_
 intro ds fr;unfold ksndS;split
 ·rename_i nm ck cz cf ct tg;refine kmp (q:=Value.string cf=Value.string cf) (by kernel_rfl) ?_
  rfl
 ·trivial
noncomputable def cnlS:List Dat->Option (Eff × List Seg):=fun ds=>match ds with
 | [.d bc,.s bp,.d bv,.i be,.s nm,.v kf]=>(match isFn 144 kf with |true=>some ({val:=.tup [.sc (.int .i64 (.sym (ixC bc nm))),.sc (.rows 9 (bc.el (ixC bc nm).toNat 5))],vc:=[bc.len<=10000000000000,0<=ixC bc nm,eqS (bc.el (ixC bc nm).toNat 3).toS bp=true]},[.c (.rows 118 bc),.c (.raw (.string bp)),.c (.rows 9 bv),.c (.int .i64 (.sym be))]) |false=>none)
 |_=>none
noncomputable def cnlC:Con:=conM 182 [.c (.rows 118),.c .str,.c (.rows 9),.c (.int .i64)] [.sc .str,.sc .any] cnlS
theorem cnl_ok:ConOK Tryz.prog 143 cnlC:=by
 refine fn_obM tt_ok mixed Tryz.func143 rfl (fun _ _=>by kernel_rfl) (A:=fun ds=>⟨fun _=>Cons.of [(58,chanAtC),(144,ksndC)],fun _=>none,fun _=>none⟩) (fun _ _=>(cons_cons chanAt_ok (cons_cons ksnd_ok cons_nil))) (by kernel_rfl) ?_
 intro ds;unfold cnlS;split
 ·rename_i bc bp bv be nm kf;split
  ·rename_i hg;obtain rfl:=isFn_eq hg;refine kmp (q:=bc.len<=10000000000000->(0:Int)<=ixC bc nm->eqS (bc.el (ixC bc nm).toNat 3).toS bp=true->bc.len<=10000000000000/\(decide (ixC bc nm<(0:Int))=true->False)/\(decide (ixC bc nm<(0:Int))=false->((0:Int)<=ixC bc nm/\ixC bc nm<(bc.len:Int))/\((!(bc.el (ixC bc nm).toNat 3).toS.toList==bp.toList)=true->False)/\((!(bc.el (ixC bc nm).toNat 3).toS.toList==bp.toList)=false->((0:Int)<=ixC bc nm/\ixC bc nm<(bc.len:Int))/\ixC bc nm=ixC bc nm/\(bc.el (ixC bc nm).toNat ((0:Nat)+(5:Nat))).rows=(bc.el (ixC bc nm).toNat 5).rows/\bc.rows=bc.rows/\Value.string bp=Value.string bp/\bv.rows=bv.rows/\be=be))) (by kernel_rfl) ?_
   intro hl h0 he
   try (try simp only [Nat.reduceAdd,Nat.zero_add])
   have hb:ixC bc nm<bc.len:=by
    unfold ixC at h0 ⊢
    rcases ixF_or (fun j=>eqS (bc.el j 0).toS nm) bc.len with ⟨i,h1,_,_,h2⟩ |⟨_,h2⟩
    ·rw [h2];omega
    ·rw [h2] at h0;omega
   unfold eqS at he;refine ⟨hl,fun h=>absurd (of_decide_eq_true h) (by omega),fun _=>⟨⟨h0,hb⟩,fun h=>?_,fun _=>⟨⟨h0,hb⟩,(by (repeat' (with_reducible apply And.intro))<;>first |exact True.intro |rfl)⟩⟩⟩;rw [he] at h
   cases h
  ·trivial
 ·trivial
noncomputable def bxeS:List Dat->Option (Eff × List Seg):=fun ds=>match ds with
 | [.d bc,.s bp,.d bv,.i be,.i k,.i n,.s s,.d d]=>some ({val:=.one (.agg [.c (.int .i64 (.sym (k))),.c (.int .i64 (.sym (n))),.c (.int .i64 (.lit 0)),.c (.rows 161 (.l []))]),vc:=[k=1]},[.c (.rows 118 bc),.c (.raw (.string bp)),.c (.rows 9 bv),.c (.int .i64 (.sym be))])
 |_=>none
noncomputable def bxeC:Con:=conM 182 [.c (.rows 118),.c .str,.c (.rows 9),.c (.int .i64)] [lX] bxeS
theorem bxe_ok:ConOK Tryz.prog 141 bxeC:=by
 refine fn_obM tt_ok mixed Tryz.func141 rfl (fun _ _=>by kernel_rfl) (A:=fun ds=>⟨fun _=>Cons.of [(140,plcC)],fun _=>none,fun _=>none⟩) (fun _ _=>(cons_cons plc_ok cons_nil)) (by kernel_rfl) ?_
 intro ds;unfold bxeS;split
 ·rename_i bc bp bv be k n s d;refine kmp (q:=k=(1:Int)->((k==(1:Int))=true->k=k/\n=n/\(0:Int)=(0:Int)/\([]:List (List D))=[]/\bc.rows=bc.rows/\Value.string bp=Value.string bp/\bv.rows=bv.rows/\be=be)/\((k==(1:Int))=false->((k==(2:Int))=true->bv.len<=10000000000000/\(0:Int)<=ixN bv s/\k=k/\(0:Int)=n/\ixN bv s=(0:Int)/\([]:List (List D))=[]/\bc.rows=bc.rows/\Value.string bp=Value.string bp/\bv.rows=bv.rows/\be=be)/\((k==(2:Int))=false->False))) (by kernel_rfl) ?_
  intro hk;subst hk;exact ⟨fun _=>⟨rfl,rfl,rfl,rfl,rfl,rfl,rfl,rfl⟩,fun h=>absurd h (by decide)⟩
 ·trivial
structure BsOK (bc:D) (bp nm tg:ByteArray) (k ek:Int):Prop where
 k:k=4
 e:ek=1
 l:bc.len<=10000000000000
 c:0<=ixC bc nm
 f:eqS (bc.el (ixC bc nm).toNat 3).toS bp=true
 tl:(bc.el (ixC bc nm).toNat 5).len<=10000000000000
 t:0<=ixN (bc.el (ixC bc nm).toNat 5) tg
noncomputable def bstS:List Dat->Option (Eff × List Seg):=fun ds=>match ds with
 | [.d bc,.s bp,.d bv,.i be,.i k,.s nm,.s tg,.i ek,.i en,.s es,.d ed,.i op,.i lk,.i ln,.s ls,.d ld,.i rk,.i rn,.s rs,.d rd,.d bd,.d eb,.d am]=>some ({val:=.one (.agg [.c (.int .i64 (.sym (k))),.c (.int .i64 (.lit 0)),.c (.int .i64 (.sym (ixC bc nm))),.c (.int .i64 (.sym (ixN (bc.el (ixC bc nm).toNat 5) tg))),.c (.int .i64 (.sym (ek))),.c (.int .i64 (.sym (en))),.c (.int .i64 (.lit 0)),.c (.rows 161 (.l [])),.c (.int .i64 (.lit 0)),.c (.int .i64 (.lit 0)),.c (.int .i64 (.lit 0)),.c (.int .i64 (.lit 0)),.c (.rows 161 (.l [])),.c (.int .i64 (.lit 0)),.c (.int .i64 (.lit 0)),.c (.int .i64 (.lit 0)),.c (.rows 161 (.l [])),.c (.rows 166 (.l [])),.c (.rows 166 (.l [])),.c (.rows 170 (.l []))]),vc:=[BsOK bc bp nm tg k ek]},[.c (.rows 118 bc),.c (.raw (.string bp)),.c (.rows 9 bv),.c (.int .i64 (.sym be))])
 |_=>none
noncomputable def bstC:Con:=conM 182 [.c (.rows 118),.c .str,.c (.rows 9),.c (.int .i64)] [lSt] bstS
theorem bst_ok:ConOK Tryz.prog 107 bstC:=by
 refine fn_obM tt_ok mixed Tryz.func107 rfl (fun _ _=>by kernel_rfl) (A:=fun ds=>⟨fun _=>Cons.of [(140,plcC),(141,bxeC),(143,cnlC)],fun _=>none,fun _=>none⟩) (fun _ _=>(cons_cons plc_ok (cons_cons bxe_ok (cons_cons cnl_ok cons_nil)))) (by kernel_rfl) ?_
 intro ds;unfold bstS;split
 ·rename_i bc bp bv be k nm tg ek en es ed op lk ln ls ld rk rn rs rd bd eb am;refine kmp (q:=BsOK bc bp nm tg k ek->((k==(1:Int))=true->bv.len<=10000000000000/\(0:Int)<=ixN bv nm/\ek=(1:Int)/\k=k/\ixN bv nm=(0:Int)/\(0:Int)=ixC bc nm/\(0:Int)=ixN (bc.el (ixC bc nm).toNat 5) tg/\ek=ek/\en=en/\(0:Int)=(0:Int)/\([]:List (List D))=[]/\(0:Int)=(0:Int)/\(0:Int)=(0:Int)/\(0:Int)=(0:Int)/\(0:Int)=(0:Int)/\([]:List (List D))=[]/\(0:Int)=(0:Int)/\(0:Int)=(0:Int)/\(0:Int)=(0:Int)/\([]:List (List D))=[]/\([]:List (List D))=[]/\([]:List (List D))=[]/\([]:List (List D))=[]/\bc.rows=bc.rows/\Value.string bp=Value.string bp/\bv.rows=bv.rows/\be=be)/\((k==(1:Int))=false->((k==(2:Int))=true->False)/\((k==(2:Int))=false->((k==(3:Int))=true->False)/\((k==(3:Int))=false->((k==(4:Int))=true->bc.len<=10000000000000/\(0:Int)<=ixC bc nm/\eqS (bc.el (ixC bc nm).toNat 3).toS bp=true/\(bc.el (ixC bc nm).toNat 5).len<=10000000000000/\(0:Int)<=ixN (bc.el (ixC bc nm).toNat 5) tg/\ek=(1:Int)/\k=k/\(0:Int)=(0:Int)/\ixC bc nm=ixC bc nm/\ixN (bc.el (ixC bc nm).toNat 5) tg=ixN (bc.el (ixC bc nm).toNat 5) tg/\ek=ek/\en=en/\(0:Int)=(0:Int)/\([]:List (List D))=[]/\(0:Int)=(0:Int)/\(0:Int)=(0:Int)/\(0:Int)=(0:Int)/\(0:Int)=(0:Int)/\([]:List (List D))=[]/\(0:Int)=(0:Int)/\(0:Int)=(0:Int)/\(0:Int)=(0:Int)/\([]:List (List D))=[]/\([]:List (List D))=[]/\([]:List (List D))=[]/\([]:List (List D))=[]/\bc.rows=bc.rows/\Value.string bp=Value.string bp/\bv.rows=bv.rows/\be=be)/\((k==(4:Int))=false->((k==(5:Int))=true->False)/\((k==(5:Int))=false->((k==(6:Int))=true->False)/\((k==(6:Int))=false->bv.len<=10000000000000/\(0:Int)<=ixN bv nm/\k=k/\ixN bv nm=(0:Int)/\(0:Int)=ixC bc nm/\(0:Int)=ixN (bc.el (ixC bc nm).toNat 5) tg/\(0:Int)=ek/\(0:Int)=en/\(0:Int)=(0:Int)/\([]:List (List D))=[]/\(0:Int)=(0:Int)/\(0:Int)=(0:Int)/\(0:Int)=(0:Int)/\(0:Int)=(0:Int)/\([]:List (List D))=[]/\(0:Int)=(0:Int)/\(0:Int)=(0:Int)/\(0:Int)=(0:Int)/\([]:List (List D))=[]/\([]:List (List D))=[]/\([]:List (List D))=[]/\([]:List (List D))=[]/\bc.rows=bc.rows/\Value.string bp=Value.string bp/\bv.rows=bv.rows/\be=be))))))) (by kernel_rfl) ?_
  intro hs
  (try simp only [Nat.reduceAdd,Nat.zero_add])
  have k4:=hs.k;have no:∀ j:Int,j≠4->(k==j)=false:=fun j hj=>by rw [beq_eq_false_iff_ne,k4];exact fun h=>hj h.symm
  refine ⟨fun h=>absurd h (by rw [no 1 (by decide)];decide),fun _=>⟨fun h=>absurd h (by rw [no 2 (by decide)];decide),fun _=>⟨fun h=>absurd h (by rw [no 3 (by decide)];decide),fun _=>⟨fun _=>⟨hs.l,hs.c,hs.f,hs.tl,hs.t,hs.e,(by (repeat' (with_reducible apply And.intro))<;>first |exact True.intro |rfl)⟩,fun h=>absurd h (by rw [k4];decide)⟩⟩⟩⟩
 ·trivial
def bsR (bc d:D) (i:Nat):List D:=[D.i (d.el i 0).toI,D.i 0,D.i (ixC bc (d.el i 1).toS),D.i (ixN (bc.el (ixC bc (d.el i 1).toS).toNat 5) (d.el i 2).toS),D.i (d.el i 3).toI,D.i (d.el i 4).toI,D.i 0,D.l [],D.i 0,D.i 0,D.i 0,D.i 0,D.l [],D.i 0,D.i 0,D.i 0,D.l [],D.l [],D.l [],D.l []]
structure BbOK (bc:D) (bp:ByteArray) (d:D):Prop where
 l:d.len<=1000000
 s:∀ i,i<d.len->BsOK bc bp (d.el i 1).toS (d.el i 2).toS (d.el i 0).toI (d.el i 3).toI
noncomputable def bbdS:List Dat->Option (Eff × List Seg):=fun ds=>match ds with
 | [.d bc,.s bp,.d bv,.i be,.d d]=>some ({val:=.one (.sc (.osl 166 (0) (.lit 0) (.sym (d.len)))),vc:=[be=0,BbOK bc bp d],nw:=[(0,.orow 166 (cpTo d.len (bsR bc d)))]},[.c (.rows 118 bc),.c (.raw (.string bp)),.c (.rows 9 bv),.c (.int .i64 (.sym be))])
 |_=>none
noncomputable def bbdC:Con:=conM 182 [.c (.rows 118),.c .str,.c (.rows 9),.c (.int .i64)] [lBo] bbdS
set_option maxRecDepth 100000 in
theorem bbd_ok:ConOK Tryz.prog 61 bbdC:=by
 refine fn_obM tt_ok mixed Tryz.func61 rfl (fun _ _=>by kernel_rfl) (A:=fun ds=>⟨fun _=>Cons.of [(107,bstC)],fun k=>match k,ds with | 3,[.d bc,.s bp,.d bv,.i be,.d d]=>some {ι:=Nat,pre:=fun _ i=>i<=d.len,μ:=fun i=>d.len+1-i,st:=fun s i=>famR s [(10,.one (.sc (.int .i64 (.sym ((i:Nat)))))),(5,.one (.sc (.osl 166 (s.nx-1) (.lit 0) (.sym (i)))))] [0,8,9] [(s.nx-1,.orow 166 (cpTo i (bsR bc d)))] [0]} |_,_=>none,fun _=>none⟩) (fun _ _=>(cons_cons bst_ok cons_nil)) (by kernel_rfl) ?_
 intro ds;unfold bbdS;split
 ·rename_i bc bp bv be d;refine kmp (q:=withv (fun (i:Nat)=>D.l [[D.i (d.el (i:Int).toNat 0).toI,D.i 0,D.i (ixC bc (d.el (i:Int).toNat 1).toS),D.i (ixN (bc.el (ixC bc (d.el (i:Int).toNat 1).toS).toNat (5:Nat)) (d.el (i:Int).toNat 2).toS),D.i (d.el (i:Int).toNat 3).toI,D.i (d.el (i:Int).toNat 4).toI,D.i 0,D.l [],D.i 0,D.i 0,D.i 0,D.i 0,D.l [],D.i 0,D.i 0,D.i 0,D.l [],D.l [],D.l [],D.l []]]) fun E232=>be=(0:Int)->BbOK bc bp d->(∃ (i:Nat),i.le d.len/\(0:Int)=(i:Int)/\i=(0:Nat)/\d.rows=d.rows/\(d.len:Int)=(d.len:Int)/\List.map (bsR bc d) (List.range i)=[]/\bc.rows=bc.rows/\Value.string bp=Value.string bp/\bv.rows=bv.rows/\be=be)/\∀ (i:Nat),i.le d.len->(decide ((i:Int)<(d.len:Int))=true->((0:Int)<=(i:Int)/\(i:Int)<(d.len:Int))/\((be != (0:Int))=true->d.len=(0:Nat)/\bc.rows=bc.rows/\Value.string bp=Value.string bp/\bv.rows=bv.rows/\be=be/\List.map (bsR bc d) (List.range d.len)=[])/\((be != (0:Int))=false->BsOK bc bp (d.el (i:Int).toNat 1).toS (d.el (i:Int).toNat 2).toS (d.el (i:Int).toNat 0).toI (d.el (i:Int).toNat 3).toI/\i=(cpTo i (bsR bc d)).len/\(i+((E232 i).sub (0:Nat) 1).len)*(256:Nat)<=(140737488355328:Nat)/\(0:Nat)+(1:Nat)<=(E232 i).len/\∃ (j:Nat),j.le d.len/\d.len+(1:Nat)-j<d.len+(1:Nat)-i/\IntKind.i64.wrap ((i:Int)+(1:Int))=(j:Int)/\i+((E232 i).sub (0:Nat) 1).len=j/\d.rows=d.rows/\(d.len:Int)=(d.len:Int)/\List.map (bsR bc d) (List.range i)++List.drop (0:Nat) (List.take 1 [[D.i (d.el (i:Int).toNat 0).toI,D.i 0,D.i (ixC bc (d.el (i:Int).toNat 1).toS),D.i (ixN (bc.el (ixC bc (d.el (i:Int).toNat 1).toS).toNat (5:Nat)) (d.el (i:Int).toNat 2).toS),D.i (d.el (i:Int).toNat 3).toI,D.i (d.el (i:Int).toNat 4).toI,D.i 0,D.l [],D.i 0,D.i 0,D.i 0,D.i 0,D.l [],D.i 0,D.i 0,D.i 0,D.l [],D.l [],D.l [],D.l []]])=List.map (bsR bc d) (List.range j)/\bc.rows=bc.rows/\Value.string bp=Value.string bp/\bv.rows=bv.rows/\be=be))/\(decide ((i:Int)<(d.len:Int))=false->i=d.len/\bc.rows=bc.rows/\Value.string bp=Value.string bp/\bv.rows=bv.rows/\be=be/\List.map (bsR bc d) (List.range i)=List.map (bsR bc d) (List.range d.len))) (by kernel_rfl) ?_
  dsimp +instances only [withv]
  intro he hb;simp only [Nat.reduceAdd,Nat.zero_add,k_n];have b1:=hb.l;refine ⟨⟨0,Nat.zero_le _,(by (repeat' (with_reducible apply And.intro))<;>first |exact True.intro |rfl)⟩,fun i hi=>⟨fun hc=>?_,fun hc=>?_⟩⟩
  ·have hc:=of_decide_eq_true hc;have hi2:i<d.len:=by omega
   refine ⟨⟨by omega,by omega⟩,fun h=>absurd h (by rw [he];decide),fun _=>⟨hb.s i hi2,(cpTo_len _ _).symm,(show (i+1)*256<=140737488355328 by omega),Nat.le_refl _,i+1,hi2,by omega,k_nx (by omega),(by (repeat' (with_reducible apply And.intro))<;>first |exact True.intro |exact (cpTo_succ _ _).symm |rfl)⟩⟩
  ·have hc:=of_decide_eq_false hc;have hi3:i=d.len:=by have:i<=d.len:=hi;omega
   subst hi3;exact ⟨rfl,trivial,trivial,trivial,trivial,rfl⟩
 ·trivial
def bpR (ch pr:D) (i:Nat):List D:=[D.i (pr.el i 1).len,cpTo (pr.el i 2).len (bsR ch (pr.el i 2))]
structure BpOK (ch pr:D):Prop where
 l:pr.len<=1000000
 v:∀ i,i<pr.len->(pr.el i 1).len<=6
 t:∀ i,i<pr.len->twK (pr.el i 1)=false
 b:∀ i,i<pr.len->BbOK ch (pr.el i 0).toS (pr.el i 2)
noncomputable def bpcS:FSpec:=fun ds _=>match ds with
 | [.d ch,.d ru,.d pr]=>some {val:=.tup [.sc (.rows 78 (cpTo pr.len (bpR ch pr))),.sc (.int .i64 (.lit 0))],vc:=[BpOK ch pr]}
 |_=>none
noncomputable def bpcC:Con:=con [lSy] bpcS
theorem bpc_ok:ConOK Tryz.prog 32 bpcC:=by
 refine fn_ob tt_ok mixed Tryz.func32 rfl (fun _ _=>by kernel_rfl) (A:=fun ds=>⟨fun _=>Cons.of [(60,atwC),(61,bbdC)],fun k=>match k,ds with | 3,[.d ch,.d ru,.d pr]=>some {ι:=Nat,pre:=fun _ i=>i<=pr.len,μ:=fun i=>pr.len+1-i,st:=fun s i=>famR s [(12,.one (.sc (.int .i64 (.sym ((i:Nat)))))),(4,.one (.sc (.osl 78 (s.nx-1) (.lit 0) (.sym (i)))))] [1,10,11] [(s.nx-1,.orow 78 (cpTo i (bpR ch pr)))] [1]} |_,_=>none,fun _=>none⟩) (fun _ _=>(cons_cons atw_ok (cons_cons bbd_ok cons_nil))) (by kernel_rfl) ?_
 intro ds fr;unfold bpcS;split
 ·rename_i ch ru pr;refine kmp (q:=withv (fun (i:Nat)=>pr.el (i:Int).toNat 2) fun E233=>withv (fun (i:Nat)=>pr.el (i:Int).toNat 1) fun E234=>withv (fun (i:Nat)=>D.l [[D.i (↑(E234 i).len:Int),(cpTo (E233 i).len (bsR ch (E233 i))).sub ((0:Nat)) ((0:Nat)+(E233 i).len)]]) fun E235=>BpOK ch pr->(∃ (i:Nat),i.le pr.len/\(0:Int)=(i:Int)/\i=(0:Nat)/\pr.rows=pr.rows/\(pr.len:Int)=(pr.len:Int)/\List.map (bpR ch pr) (List.range i)=[]/\ch.rows=ch.rows/\ru.rows=ru.rows/\pr.rows=pr.rows)/\∀ (i:Nat),i.le pr.len->(decide ((i:Int)<(pr.len:Int))=true->((0:Int)<=(i:Int)/\(i:Int)<(pr.len:Int))/\(decide ((↑(E234 i).len:Int)>(6:Int))=true->List.map (bpR ch pr) (List.range pr.len)=[]/\(10:Int)=(0:Int))/\(decide ((↑(E234 i).len:Int)>(6:Int))=false->(E234 i).len<=10000000000000/\(twK (E234 i)=true->List.map (bpR ch pr) (List.range pr.len)=[]/\(7:Int)=(0:Int))/\(twK (E234 i)=false->(0:Int)=(0:Int)/\BbOK ch (pr.el (i:Int).toNat 0).toS (E233 i)/\(((0:Int) != (0:Int))=true->List.map (bpR ch pr) (List.range pr.len)=[]/\(0:Int)=(0:Int))/\(((0:Int) != (0:Int))=false->(0:Nat)+(E233 i).len<=(cpTo (E233 i).len (bsR ch (E233 i))).len/\i=(cpTo i (bpR ch pr)).len/\(i+((E235 i).sub (0:Nat) 1).len)*(32:Nat)<=(140737488355328:Nat)/\(0:Nat)+(1:Nat)<=(E235 i).len/\∃ (j:Nat),j.le pr.len/\pr.len+(1:Nat)-j<pr.len+(1:Nat)-i/\IntKind.i64.wrap ((i:Int)+(1:Int))=(j:Int)/\i+((E235 i).sub (0:Nat) 1).len=j/\pr.rows=pr.rows/\(pr.len:Int)=(pr.len:Int)/\List.map (bpR ch pr) (List.range i)++List.drop (0:Nat) (List.take 1 [[D.i (↑(E234 i).len:Int),(cpTo (E233 i).len (bsR ch (E233 i))).sub ((0:Nat)) ((0:Nat)+(E233 i).len)]])=List.map (bpR ch pr) (List.range j)/\ch.rows=ch.rows/\ru.rows=ru.rows/\pr.rows=pr.rows))))/\(decide ((i:Int)<(pr.len:Int))=false->(0:Nat)+i<=(cpTo i (bpR ch pr)).len/\List.drop ((0:Nat)) (List.take ((0:Nat)+i) (List.map (bpR ch pr) (List.range i)))=List.map (bpR ch pr) (List.range pr.len)/\(0:Int)=(0:Int))) (by kernel_rfl) ?_
  dsimp +instances only [withv]
  intro hb;simp only [Nat.reduceAdd,Nat.zero_add,k_n];have b1:=hb.l;refine ⟨⟨0,Nat.zero_le _,(by (repeat' (with_reducible apply And.intro))<;>first |exact True.intro |rfl)⟩,fun i hi=>⟨fun hc=>?_,fun hc=>?_⟩⟩
  ·have hc:=of_decide_eq_true hc;have hi2:i<pr.len:=by omega
   have v6:=hb.v i hi2;have e1:=cpTo_all (pr.el i 2).len (bsR ch (pr.el i 2));rw [Nat.zero_add] at e1;rw [e1];refine ⟨⟨by omega,by omega⟩,fun h=>absurd (of_decide_eq_true h) (by omega),fun _=>⟨by omega,fun h=>absurd h (by rw [hb.t i hi2];decide),fun _=>⟨trivial,hb.b i hi2,fun h=>absurd h (by decide),fun _=>⟨by rw [cpTo_len];omega,(cpTo_len _ _).symm,(show (i+1)*32<=140737488355328 by omega),Nat.le_refl _,i+1,hi2,by omega,k_nx (by omega),(by (repeat' (with_reducible apply And.intro))<;>first |exact True.intro |exact (cpTo_succ _ _).symm |rfl)⟩⟩⟩⟩
  ·have hc:=of_decide_eq_false hc;have hi3:i=pr.len:=by have:i<=pr.len:=hi;omega
   subst hi3;exact ⟨by rw [cpTo_len];omega,by have:=takeAll pr.len (bpR ch pr);rw [Nat.zero_add] at this;exact this,trivial⟩
 ·trivial
structure CkOK (ch ru pr:D):Prop where
 w1:SyOK ch ru pr
 w2:syB ch ru pr=true->syN pr=true->SyF ch ru pr
 w3:wdE ch ru pr≠5
 d:dcE ch pr=0
 dt:∀ i,i<ch.len->(ch.el i 5).len<=10000000000000
 r:ru.len=0
 c:BcOK ch pr
 p:BpOK ch pr
noncomputable def kchkS:FSpec:=fun ds _=>match ds with
 | [.d ch,.d ru,.d pr]=>some {val:=.tup [.agg [.c (.rows 69 (cpTo ch.len (bcR ch pr))),.c (.rows 78 (cpTo pr.len (bpR ch pr)))],.sc (.int .i64 (.lit 0))],vc:=[CkOK ch ru pr]}
 |_=>none
noncomputable def kchkC:Con:=con [lSy] kchkS
theorem kchk_ok:ConOK Tryz.prog 12 kchkC:=by
 refine fn_ob tt_ok mixed Tryz.func12 rfl (fun _ _=>by kernel_rfl) (A:=fun ds=>⟨fun _=>Cons.of [(29,wrdC),(30,dclC),(31,bchC),(32,bpcC)],fun _=>none,fun _=>none⟩) (fun _ _=>(cons_cons wrd_ok (cons_cons dcl_ok (cons_cons bch_ok (cons_cons bpc_ok cons_nil))))) (by kernel_rfl) ?_
 intro ds fr;unfold kchkS;split
 ·rename_i ch ru pr;refine kmp (q:=CkOK ch ru pr->SyOK ch ru pr/\(syB ch ru pr=true->syN pr=true->SyF ch ru pr)/\((wdE ch ru pr==(5:Int))=true->List.map (bcR ch pr) (List.range ch.len)=[]/\List.map (bpR ch pr) (List.range pr.len)=[]/\wdE ch ru pr=(0:Int))/\((wdE ch ru pr==(5:Int))=false->(∀ (i:Nat),i<ch.len->(ch.el i 5).len<=10000000000000)/\((dcE ch pr != (0:Int))=true->List.map (bcR ch pr) (List.range ch.len)=[]/\List.map (bpR ch pr) (List.range pr.len)=[]/\dcE ch pr=(0:Int))/\((dcE ch pr != (0:Int))=false->ru.len=(0:Nat)/\BcOK ch pr/\BpOK ch pr/\List.map (bcR ch pr) (List.range ch.len)=List.map (bcR ch pr) (List.range ch.len)/\List.map (bpR ch pr) (List.range pr.len)=List.map (bpR ch pr) (List.range pr.len)/\(0:Int)=(0:Int)))) (by kernel_rfl) ?_
  intro h;refine ⟨h.w1,h.w2,fun q=>absurd (eq_of_beq q) h.w3,fun _=>⟨h.dt,fun q=>?_,fun _=>⟨h.r,h.c,h.p,rfl,rfl,rfl⟩⟩⟩;rw [h.d] at q
  cases q
 ·trivial
end Go.Proofs.YtplejbgafjpomaaGreatDoor.Sx.Z
namespace Go.Proofs.YtplejbgafjpomaaGreatDoor.Sx.Z
open Go.RowKit
def k4S (d:D):Prop:=d.len*48<=140737488355328/\∀ i:Fin d.len,k4S (d.el i 3)
 termination_by SizeOf.sizeOf d
 decreasing_by exact lel_lt i.isLt
theorem k4S_iff (d:D):k4S d↔d.len*48<=140737488355328/\∀ i,i<d.len->k4S (d.el i 3):=by
 rw [k4S];exact ⟨fun h=>⟨h.1,fun i hi=>h.2 ⟨i,hi⟩⟩,fun h=>⟨h.1,fun i=>h.2 i.1 i.2⟩⟩
def b4S (d:D):Prop:=d.len*256<=140737488355328/\∀ i:Fin d.len,k4S (d.el i 7)/\k4S (d.el i 12)/\k4S (d.el i 16)/\b4S (d.el i 17)/\b4S (d.el i 18)/\(d.el i 19).len*40<=140737488355328/\∀ j:Fin (d.el i 19).len,b4S ((d.el i 19).el j 2)
 termination_by SizeOf.sizeOf d
 decreasing_by
  ·exact lel_lt i.isLt
  ·exact lel_lt i.isLt
  ·exact Nat.lt_trans (lel_lt j.isLt) (lel_lt i.isLt)
structure Sy4 (ch pr:D):Prop where
 c:ch.len*64<=140737488355328
 r:∀ i,i<ch.len->(ch.el i 5).len*24<=140737488355328
 rr:∀ i,i<ch.len->∀ k,k<(ch.el i 5).len->((ch.el i 5).el k 0).len*8<=140737488355328
 p:pr.len*32<=140737488355328
 b:∀ i,i<pr.len->b4S (pr.el i 1)
end Go.Proofs.YtplejbgafjpomaaGreatDoor.Sx.Z
