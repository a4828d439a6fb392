import Derived.Test.YthpponmbpoaffaaGreatDoorZ26
import Derived.Test.YthpponmbpoaffaaGreatDoorZ17
namespace Go.Proofs.YthpponmbpoaffaaGreatDoor.Sx.Z
open Go.RowKit
def csF (ws:D) (en:Int) (r:Rd):List D × Rd:=((chZ ws en (acR ws kwC r)).row,chR ws en (acR ws kwC r))
def usF (ws:D) (en:Int) (r:Rd):List D × Rd:=((ruZ ws en (acR ws kwU r)).row,ruR ws en (acR ws kwU r))
def psF (ws:D) (en:Int) (r:Rd):List D × Rd:=((poZ ws en (acR ws kwP r)).row,poR ws en (acR ws kwP r))
def syC (ws:D) (en:Int) (r:Rd):D × Rd:=seqA (acG kwC ws) (csF ws en) ws (.l []) r
def syU (ws:D) (en:Int) (r:Rd):D × Rd:=seqA (acG kwU ws) (usF ws en) ws (.l []) (syC ws en r).2
def syP (ws:D) (en:Int) (r:Rd):D × Rd:=seqA (acG kwP ws) (psF ws en) ws (.l []) (syU ws en r).2
def syR (ws:D) (en:Int) (r:Rd):Rd:=fiR ws en (syP ws en r).2
theorem cs_sq {ws:D} (en:Int):SqOK ws (acG kwC ws) (csF ws en):=⟨fun r h hg=>by
 have a:=ac_up (t:=kwC) h (by decide)
 have b:=(ch_up en a.1).2.2.2
 exact ⟨b.1,Int.lt_of_lt_of_le (ac_lt2 hg) b.2⟩⟩
theorem us_sq {ws:D} (en:Int):SqOK ws (acG kwU ws) (usF ws en):=⟨fun r h hg=>by
 have a:=ac_up (t:=kwU) h (by decide)
 have b:=(ru_up en a.1).2.2.2
 exact ⟨b.1,Int.lt_of_lt_of_le (ac_lt2 hg) b.2⟩⟩
theorem ps_sq {ws:D} (en:Int):SqOK ws (acG kwP ws) (psF ws en):=⟨fun r h hg=>by
 have a:=ac_up (t:=kwP) h (by decide)
 have b:=(po_up en a.1).2.2.2.2
 exact ⟨b.1,Int.lt_of_lt_of_le (ac_lt2 hg) b.2⟩⟩
theorem sy_up {ws:D} (en:Int) {r:Rd} (h:rdOK ws r.nx):rdOK ws (syC ws en r).2.nx/\rdOK ws (syU ws en r).2.nx/\rdOK ws (syP ws en r).2.nx:=by
 have a:=seq_up (cs_sq en) (.l []) h
 have b:=seq_up (us_sq en) (.l []) a.1
 exact ⟨a.1,b.1,(seq_up (ps_sq en) (.l []) b.1).1⟩
noncomputable def sysS:List Dat->Option (Eff × List Seg):=fun ds=>match ds with
 | [.d ws,.i nx,.i en,.i pa,.i er]=>some ({val:=.one (.agg [.c (.osl 47 0 (.lit 0) (.sym ((syC ws en (mR nx pa er)).1.len))),.c (.osl 53 1 (.lit 0) (.sym ((syU ws en (mR nx pa er)).1.len))),.c (.osl 63 2 (.lit 0) (.sym ((syP ws en (mR nx pa er)).1.len)))]),vc:=[rdOK ws nx],nw:=[(0,.orow 47 ((syC ws en (mR nx pa er)).1)),(1,.orow 53 ((syU ws en (mR nx pa er)).1)),(2,.orow 63 ((syP ws en (mR nx pa er)).1))]},[.c (.rows 115 ws),.c (.int .i64 (.sym ((syR ws en (mR nx pa er)).nx))),.c (.int .i64 (.sym en)),.c (.int .i64 (.sym ((syR ws en (mR nx pa er)).pa))),.c (.int .i64 (.sym ((syR ws en (mR nx pa er)).er)))])
 |_=>none
noncomputable def sysC:Con:=conM 86 [.c (.rows 115),.c (.int .i64),.c (.int .i64),.c (.int .i64),.c (.int .i64)] [] sysS
theorem sys_ok:ConOK Tryz.prog 16 sysC:=by
 refine fn_obM tt_ok mixed Tryz.func16 rfl (fun _ _=>by kernel_rfl) (A:=fun ds=>⟨fun _=>Cons.of [(34,chnC),(35,rulC),(36,proC),(33,accC),(37,finC)],fun k=>match k,ds with | 2,[.d ws,.i nx,.i en,.i pa,.i er]=>some {ι:=D × Rd,pre:=fun _ q=>rdOK ws q.2.nx/\(seqA (acG kwC ws) (csF ws en) ws q.1 q.2=(syC ws en (mR nx pa er)))/\q.1.len+left ws q.2<=1000001,μ:=fun q=>left ws q.2,st:=fun s q=>famN s [] [0,2,3] [(0,.own 86 ([.c (.rows 115 ws),.c (.int .i64 (.sym ((q.2).nx))),.c (.int .i64 (.sym en)),.c (.int .i64 (.sym ((q.2).pa))),.c (.int .i64 (.sym ((q.2).er)))])),(idOf s 3,.own 31 ([.c (.osl 47 s.nx (.lit 0) (.sym (q.1.len))),.c .nils,.c .nils])),(s.nx,.orow 47 (q.1))] [2]} | 4,[.d ws,.i nx,.i en,.i pa,.i er]=>some {ι:=D × Rd,pre:=fun _ q=>rdOK ws q.2.nx/\(seqA (acG kwU ws) (usF ws en) ws q.1 q.2=(syU ws en (mR nx pa er)))/\q.1.len+left ws q.2<=1000001,μ:=fun q=>left ws q.2,st:=fun s q=>famN s [] [0,2,3] [(0,.own 86 ([.c (.rows 115 ws),.c (.int .i64 (.sym ((q.2).nx))),.c (.int .i64 (.sym en)),.c (.int .i64 (.sym ((q.2).pa))),.c (.int .i64 (.sym ((q.2).er)))])),(idOf s 3,.own 31 ([.c (.osl 47 (cellIdP s 3 0) (.lit 0) (.sym ((syC ws en (mR nx pa er)).1.len))),.c (.osl 53 s.nx (.lit 0) (.sym (q.1.len))),.c .nils])),(cellIdP s 3 0,.orow 47 ((syC ws en (mR nx pa er)).1)),(s.nx,.orow 53 (q.1))] [2]} | 6,[.d ws,.i nx,.i en,.i pa,.i er]=>some {ι:=D × Rd,pre:=fun _ q=>rdOK ws q.2.nx/\(seqA (acG kwP ws) (psF ws en) ws q.1 q.2=(syP ws en (mR nx pa er)))/\q.1.len+left ws q.2<=1000001,μ:=fun q=>left ws q.2,st:=fun s q=>famN s [] [0,2,3] [(0,.own 86 ([.c (.rows 115 ws),.c (.int .i64 (.sym ((q.2).nx))),.c (.int .i64 (.sym en)),.c (.int .i64 (.sym ((q.2).pa))),.c (.int .i64 (.sym ((q.2).er)))])),(idOf s 3,.own 31 ([.c (.osl 47 (cellIdP s 3 0) (.lit 0) (.sym ((syC ws en (mR nx pa er)).1.len))),.c (.osl 53 (cellIdP s 3 1) (.lit 0) (.sym ((syU ws en (mR nx pa er)).1.len))),.c (.osl 63 s.nx (.lit 0) (.sym (q.1.len)))])),(cellIdP s 3 0,.orow 47 ((syC ws en (mR nx pa er)).1)),(cellIdP s 3 1,.orow 53 ((syU ws en (mR nx pa er)).1)),(s.nx,.orow 63 (q.1))] [2]} |_,_=>none,fun _=>none⟩) (fun _ _=>(cons_cons chn_ok (cons_cons rul_ok (cons_cons pro_ok (cons_cons acc_ok (cons_cons fin_ok cons_nil)))))) (by kernel_rfl) ?_
 intro ds
 unfold sysS
 split
 ·rename_i ws nx en pa er
  refine kmp (q:=rdOK ws nx->(∃ (i:D × Rd),(rdOK ws i.snd.nx/\seqA (acG kwC ws) (csF ws en) ws i.fst i.snd=syC ws en (mR nx pa er)/\i.fst.len+left ws i.snd<=(1000001:Nat))/\ws.rows=ws.rows/\nx=i.snd.nx/\en=en/\pa=i.snd.pa/\er=i.snd.er/\i.fst.len=0/\i.fst.rows=[])/\∀ (i:D × Rd),rdOK ws i.snd.nx/\seqA (acG kwC ws) (csF ws en) ws i.fst i.snd=syC ws en (mR nx pa er)/\i.fst.len+left ws i.snd<=1000001->rdOK ws i.snd.nx/\0<kwC.size/\(acB ws i.snd.nx kwC=true->rdOK ws (acR ws kwC i.snd).nx/\0+(chZ ws en (acR ws kwC i.snd)).tg.len<=(chZ ws en (acR ws kwC i.snd)).tg.len/\i.fst.len=i.fst.len/\(i.fst.len+((D.l [[D.s (chZ ws en (acR ws kwC i.snd)).nm,D.i (chZ ws en (acR ws kwC i.snd)).k,D.i (chZ ws en (acR ws kwC i.snd)).n,D.s (chZ ws en (acR ws kwC i.snd)).fr,D.s (chZ ws en (acR ws kwC i.snd)).to,(chZ ws en (acR ws kwC i.snd)).tg.sub 0 ((0:Nat)+(chZ ws en (acR ws kwC i.snd)).tg.len)]]).sub 0 1).len)*88<=140737488355328/\0+1<=(D.l [[D.s (chZ ws en (acR ws kwC i.snd)).nm,D.i (chZ ws en (acR ws kwC i.snd)).k,D.i (chZ ws en (acR ws kwC i.snd)).n,D.s (chZ ws en (acR ws kwC i.snd)).fr,D.s (chZ ws en (acR ws kwC i.snd)).to,(chZ ws en (acR ws kwC i.snd)).tg.sub 0 ((0:Nat)+(chZ ws en (acR ws kwC i.snd)).tg.len)]]).len/\∃ (j:D × Rd),(rdOK ws j.snd.nx/\seqA (acG kwC ws) (csF ws en) ws j.fst j.snd=syC ws en (mR nx pa er)/\j.fst.len+left ws j.snd<=(1000001:Nat))/\left ws j.snd<left ws i.snd/\ws.rows=ws.rows/\(chR ws en (acR ws kwC i.snd)).nx=j.snd.nx/\en=en/\(chR ws en (acR ws kwC i.snd)).pa=j.snd.pa/\(chR ws en (acR ws kwC i.snd)).er=j.snd.er/\i.fst.len+((D.l [[D.s (chZ ws en (acR ws kwC i.snd)).nm,D.i (chZ ws en (acR ws kwC i.snd)).k,D.i (chZ ws en (acR ws kwC i.snd)).n,D.s (chZ ws en (acR ws kwC i.snd)).fr,D.s (chZ ws en (acR ws kwC i.snd)).to,(chZ ws en (acR ws kwC i.snd)).tg.sub 0 ((0:Nat)+(chZ ws en (acR ws kwC i.snd)).tg.len)]]).sub 0 1).len=j.fst.len/\i.fst.rows++List.drop 0 (List.take 1 [[D.s (chZ ws en (acR ws kwC i.snd)).nm,D.i (chZ ws en (acR ws kwC i.snd)).k,D.i (chZ ws en (acR ws kwC i.snd)).n,D.s (chZ ws en (acR ws kwC i.snd)).fr,D.s (chZ ws en (acR ws kwC i.snd)).to,(chZ ws en (acR ws kwC i.snd)).tg.sub 0 ((0:Nat)+(chZ ws en (acR ws kwC i.snd)).tg.len)]])=j.fst.rows)/\(acB ws i.snd.nx kwC=false->(∃ (i_1:D × Rd),(rdOK ws i_1.snd.nx/\seqA (acG kwU ws) (usF ws en) ws i_1.fst i_1.snd=syU ws en (mR nx pa er)/\i_1.fst.len+left ws i_1.snd<=(1000001:Nat))/\ws.rows=ws.rows/\(acR ws kwC i.snd).nx=i_1.snd.nx/\en=en/\(acR ws kwC i.snd).pa=i_1.snd.pa/\(acR ws kwC i.snd).er=i_1.snd.er/\i.fst.len=(syC ws en (mR nx pa er)).fst.len/\i_1.fst.len=0/\i.fst.rows=(syC ws en (mR nx pa er)).fst.rows/\i_1.fst.rows=[])/\∀ (i:D × Rd),rdOK ws i.snd.nx/\seqA (acG kwU ws) (usF ws en) ws i.fst i.snd=syU ws en (mR nx pa er)/\i.fst.len+left ws i.snd<=1000001->rdOK ws i.snd.nx/\0<kwU.size/\(acB ws i.snd.nx kwU=true->rdOK ws (acR ws kwU i.snd).nx/\0+(ruZ ws en (acR ws kwU i.snd)).mv.len<=(ruZ ws en (acR ws kwU i.snd)).mv.len/\i.fst.len=i.fst.len/\(i.fst.len+((D.l [[D.s (ruZ ws en (acR ws kwU i.snd)).ch,(ruZ ws en (acR ws kwU i.snd)).mv.sub 0 ((0:Nat)+(ruZ ws en (acR ws kwU i.snd)).mv.len)]]).sub 0 1).len)*40<=140737488355328/\0+1<=(D.l [[D.s (ruZ ws en (acR ws kwU i.snd)).ch,(ruZ ws en (acR ws kwU i.snd)).mv.sub 0 ((0:Nat)+(ruZ ws en (acR ws kwU i.snd)).mv.len)]]).len/\∃ (j:D × Rd),(rdOK ws j.snd.nx/\seqA (acG kwU ws) (usF ws en) ws j.fst j.snd=syU ws en (mR nx pa er)/\j.fst.len+left ws j.snd<=(1000001:Nat))/\left ws j.snd<left ws i.snd/\ws.rows=ws.rows/\(ruR ws en (acR ws kwU i.snd)).nx=j.snd.nx/\en=en/\(ruR ws en (acR ws kwU i.snd)).pa=j.snd.pa/\(ruR ws en (acR ws kwU i.snd)).er=j.snd.er/\(syC ws en (mR nx pa er)).fst.len=(syC ws en (mR nx pa er)).fst.len/\i.fst.len+((D.l [[D.s (ruZ ws en (acR ws kwU i.snd)).ch,(ruZ ws en (acR ws kwU i.snd)).mv.sub 0 ((0:Nat)+(ruZ ws en (acR ws kwU i.snd)).mv.len)]]).sub 0 1).len=j.fst.len/\(syC ws en (mR nx pa er)).fst.rows=(syC ws en (mR nx pa er)).fst.rows/\i.fst.rows++List.drop 0 (List.take 1 [[D.s (ruZ ws en (acR ws kwU i.snd)).ch,(ruZ ws en (acR ws kwU i.snd)).mv.sub 0 ((0:Nat)+(ruZ ws en (acR ws kwU i.snd)).mv.len)]])=j.fst.rows)/\(acB ws i.snd.nx kwU=false->(∃ (i_1:D × Rd),(rdOK ws i_1.snd.nx/\seqA (acG kwP ws) (psF ws en) ws i_1.fst i_1.snd=syP ws en (mR nx pa er)/\i_1.fst.len+left ws i_1.snd<=(1000001:Nat))/\ws.rows=ws.rows/\(acR ws kwU i.snd).nx=i_1.snd.nx/\en=en/\(acR ws kwU i.snd).pa=i_1.snd.pa/\(acR ws kwU i.snd).er=i_1.snd.er/\(syC ws en (mR nx pa er)).fst.len=(syC ws en (mR nx pa er)).fst.len/\i.fst.len=(syU ws en (mR nx pa er)).fst.len/\i_1.fst.len=0/\(syC ws en (mR nx pa er)).fst.rows=(syC ws en (mR nx pa er)).fst.rows/\i.fst.rows=(syU ws en (mR nx pa er)).fst.rows/\i_1.fst.rows=[])/\∀ (i:D × Rd),rdOK ws i.snd.nx/\seqA (acG kwP ws) (psF ws en) ws i.fst i.snd=syP ws en (mR nx pa er)/\i.fst.len+left ws i.snd<=1000001->rdOK ws i.snd.nx/\0<kwP.size/\(acB ws i.snd.nx kwP=true->rdOK ws (acR ws kwP i.snd).nx/\0+(poZ ws en (acR ws kwP i.snd)).vs.len<=(poZ ws en (acR ws kwP i.snd)).vs.len/\0+(poZ ws en (acR ws kwP i.snd)).b.len<=(poZ ws en (acR ws kwP i.snd)).b.len/\i.fst.len=i.fst.len/\(i.fst.len+((D.l [[D.s (poZ ws en (acR ws kwP i.snd)).nm,(poZ ws en (acR ws kwP i.snd)).vs.sub 0 ((0:Nat)+(poZ ws en (acR ws kwP i.snd)).vs.len),(poZ ws en (acR ws kwP i.snd)).b.sub 0 ((0:Nat)+(poZ ws en (acR ws kwP i.snd)).b.len)]]).sub 0 1).len)*64<=140737488355328/\0+1<=(D.l [[D.s (poZ ws en (acR ws kwP i.snd)).nm,(poZ ws en (acR ws kwP i.snd)).vs.sub 0 ((0:Nat)+(poZ ws en (acR ws kwP i.snd)).vs.len),(poZ ws en (acR ws kwP i.snd)).b.sub 0 ((0:Nat)+(poZ ws en (acR ws kwP i.snd)).b.len)]]).len/\∃ (j:D × Rd),(rdOK ws j.snd.nx/\seqA (acG kwP ws) (psF ws en) ws j.fst j.snd=syP ws en (mR nx pa er)/\j.fst.len+left ws j.snd<=(1000001:Nat))/\left ws j.snd<left ws i.snd/\ws.rows=ws.rows/\(poR ws en (acR ws kwP i.snd)).nx=j.snd.nx/\en=en/\(poR ws en (acR ws kwP i.snd)).pa=j.snd.pa/\(poR ws en (acR ws kwP i.snd)).er=j.snd.er/\(syC ws en (mR nx pa er)).fst.len=(syC ws en (mR nx pa er)).fst.len/\(syU ws en (mR nx pa er)).fst.len=(syU ws en (mR nx pa er)).fst.len/\i.fst.len+((D.l [[D.s (poZ ws en (acR ws kwP i.snd)).nm,(poZ ws en (acR ws kwP i.snd)).vs.sub 0 ((0:Nat)+(poZ ws en (acR ws kwP i.snd)).vs.len),(poZ ws en (acR ws kwP i.snd)).b.sub 0 ((0:Nat)+(poZ ws en (acR ws kwP i.snd)).b.len)]]).sub 0 1).len=j.fst.len/\(syC ws en (mR nx pa er)).fst.rows=(syC ws en (mR nx pa er)).fst.rows/\(syU ws en (mR nx pa er)).fst.rows=(syU ws en (mR nx pa er)).fst.rows/\i.fst.rows++List.drop 0 (List.take 1 [[D.s (poZ ws en (acR ws kwP i.snd)).nm,(poZ ws en (acR ws kwP i.snd)).vs.sub 0 ((0:Nat)+(poZ ws en (acR ws kwP i.snd)).vs.len),(poZ ws en (acR ws kwP i.snd)).b.sub 0 ((0:Nat)+(poZ ws en (acR ws kwP i.snd)).b.len)]])=j.fst.rows)/\(acB ws i.snd.nx kwP=false->rdOK ws (acR ws kwP i.snd).nx/\(syC ws en (mR nx pa er)).fst.len=(syC ws en (mR nx pa er)).fst.len/\(syU ws en (mR nx pa er)).fst.len=(syU ws en (mR nx pa er)).fst.len/\i.fst.len=(syP ws en (mR nx pa er)).fst.len/\ws.rows=ws.rows/\(fiR ws en (acR ws kwP i.snd)).nx=(syR ws en (mR nx pa er)).nx/\en=en/\(fiR ws en (acR ws kwP i.snd)).pa=(syR ws en (mR nx pa er)).pa/\(fiR ws en (acR ws kwP i.snd)).er=(syR ws en (mR nx pa er)).er/\(syC ws en (mR nx pa er)).fst.rows=(syC ws en (mR nx pa er)).fst.rows/\(syU ws en (mR nx pa er)).fst.rows=(syU ws en (mR nx pa er)).fst.rows/\i.fst.rows=(syP ws en (mR nx pa er)).fst.rows)))) (by kernel_rfl) ?_
  intro h
  obtain ⟨a,b,c⟩:=sy_up en (r:=mR nx pa er) h
  refine ⟨⟨(.l [],(mR nx pa er)),⟨h,rfl,(by show 0+left ws (mR nx pa er)<=1000001;have:=(lf_lt (r:=(mR nx pa er)) h).2;omega)⟩,?_⟩,?_⟩
  ·(repeat' (with_reducible apply And.intro))<;>first |with_reducible rfl |exact True.intro |with_reducible assumption |decide |assumption |rfl
  rintro q ⟨h1,h2,h3⟩
  refine ⟨h1,by decide,fun hc=>?_,fun hc=>?_⟩
  ·have hg:acG kwC ws q.2=true:=hc
   obtain ⟨u1,u2⟩:=(cs_sq en).up q.2 h1 hg
   have u3:=lt_left u1 h1 u2
   have hs:=seq_step (cs_sq en) (d:=q.1) h1 hg
   have hz:(q.1.len+1)*88<=140737488355328:=by omega
   have hl:(D.l (q.1.rows++[(csF ws en q.2).1])).len+left ws (csF ws en q.2).2<=1000001:=by rw [ap_len];omega
   have m1:=(ac_up (t:=kwC) h1 (by decide)).1
   refine ⟨m1,Nat.le_of_eq (Nat.zero_add _),rfl,hz,Nat.le_refl 1,(.l (q.1.rows++[(csF ws en q.2).1]),(csF ws en q.2).2),⟨u1,hs.trans h2,hl⟩,u3,?_⟩
   simp only [subAll]
   (repeat' (with_reducible apply And.intro))<;>first |with_reducible rfl |exact True.intro |exact (ap_len _ _).symm |rfl
  have hg:acG kwC ws q.2=false:=hc
  have h2:(q.1,q.2)=(syC ws en (mR nx pa er)):=(seq_end hg).symm.trans h2
  rw [acR_no (r:=q.2) hc]
  refine ⟨⟨(.l [],(syC ws en (mR nx pa er)).2),⟨a,rfl,(by show 0+left ws (syC ws en (mR nx pa er)).2<=1000001;have:=(lf_lt (r:=(syC ws en (mR nx pa er)).2) a).2;omega)⟩,?_⟩,?_⟩
  ·simp only [<- h2]
   (repeat' (with_reducible apply And.intro))<;>first |with_reducible rfl |exact True.intro |with_reducible assumption |decide |assumption |rfl
  rintro q ⟨h1,h2,h3⟩
  refine ⟨h1,by decide,fun hc=>?_,fun hc=>?_⟩
  ·have hg:acG kwU ws q.2=true:=hc
   obtain ⟨u1,u2⟩:=(us_sq en).up q.2 h1 hg
   have u3:=lt_left u1 h1 u2
   have hs:=seq_step (us_sq en) (d:=q.1) h1 hg
   have hz:(q.1.len+1)*40<=140737488355328:=by omega
   have hl:(D.l (q.1.rows++[(usF ws en q.2).1])).len+left ws (usF ws en q.2).2<=1000001:=by rw [ap_len];omega
   have m1:=(ac_up (t:=kwU) h1 (by decide)).1
   refine ⟨m1,Nat.le_of_eq (Nat.zero_add _),rfl,hz,Nat.le_refl 1,(.l (q.1.rows++[(usF ws en q.2).1]),(usF ws en q.2).2),⟨u1,hs.trans h2,hl⟩,u3,?_⟩
   simp only [subAll]
   (repeat' (with_reducible apply And.intro))<;>first |with_reducible rfl |exact True.intro |exact (ap_len _ _).symm |rfl
  have hg:acG kwU ws q.2=false:=hc
  have h2:(q.1,q.2)=(syU ws en (mR nx pa er)):=(seq_end hg).symm.trans h2
  rw [acR_no (r:=q.2) hc]
  refine ⟨⟨(.l [],(syU ws en (mR nx pa er)).2),⟨b,rfl,(by show 0+left ws (syU ws en (mR nx pa er)).2<=1000001;have:=(lf_lt (r:=(syU ws en (mR nx pa er)).2) b).2;omega)⟩,?_⟩,?_⟩
  ·simp only [<- h2]
   (repeat' (with_reducible apply And.intro))<;>first |with_reducible rfl |exact True.intro |with_reducible assumption |decide |assumption |rfl
  rintro q ⟨h1,h2,h3⟩
  refine ⟨h1,by decide,fun hc=>?_,fun hc=>?_⟩
  ·have hg:acG kwP ws q.2=true:=hc
   obtain ⟨u1,u2⟩:=(ps_sq en).up q.2 h1 hg
   have u3:=lt_left u1 h1 u2
   have hs:=seq_step (ps_sq en) (d:=q.1) h1 hg
   have hz:(q.1.len+1)*64<=140737488355328:=by omega
   have hl:(D.l (q.1.rows++[(psF ws en q.2).1])).len+left ws (psF ws en q.2).2<=1000001:=by rw [ap_len];omega
   have m1:=(ac_up (t:=kwP) h1 (by decide)).1
   refine ⟨m1,Nat.le_of_eq (Nat.zero_add _),Nat.le_of_eq (Nat.zero_add _),rfl,hz,Nat.le_refl 1,(.l (q.1.rows++[(psF ws en q.2).1]),(psF ws en q.2).2),⟨u1,hs.trans h2,hl⟩,u3,?_⟩
   simp only [subAll]
   (repeat' (with_reducible apply And.intro))<;>first |with_reducible rfl |exact True.intro |exact (ap_len _ _).symm |rfl
  have hg:acG kwP ws q.2=false:=hc
  have h2:(q.1,q.2)=(syP ws en (mR nx pa er)):=(seq_end hg).symm.trans h2
  rw [acR_no (r:=q.2) hc]
  simp only [syR,<- h2]
  (repeat' (with_reducible apply And.intro))<;>first |with_reducible rfl |exact True.intro |with_reducible assumption |decide |assumption |rfl
 ·trivial
end Go.Proofs.YthpponmbpoaffaaGreatDoor.Sx.Z
namespace Go.Proofs.YthpponmbpoaffaaGreatDoor.Sx.Z
open Go.RowKit
def paW (s:ByteArray):D:=tokD (lexR s).1
def paY (s:ByteArray):Rd:=syR (paW s) (s.size:Nat) (mR 0 0 0)
def paO (s:ByteArray):Bool:=decide ((lexR s).2.2=0)&&decide ((paY s).er=0)
def paC (s:ByteArray):D:=if paO s=true then (syC (paW s) (s.size:Nat) (mR 0 0 0)).1 else .l []
def paU (s:ByteArray):D:=if paO s=true then (syU (paW s) (s.size:Nat) (mR 0 0 0)).1 else .l []
def paP (s:ByteArray):D:=if paO s=true then (syP (paW s) (s.size:Nat) (mR 0 0 0)).1 else .l []
def paE (s:ByteArray):Int:=if (lexR s).2.2=0 then (paY s).er else (lexR s).2.2
def paA (s:ByteArray):Int:=if (lexR s).2.2=0 then (if (paY s).er=0 then 0 else (paY s).pa) else ((lexR s).2.1:Nat)
theorem ne_of_bne {a b:Int} (h:(a != b)=true):a≠b:=by simpa using h
theorem of_not_bne {a b:Int} (h:(a != b)=false):a=b:=by simpa using h
theorem lexR_len (s:ByteArray):(lexR s).1.length<=2000:=by
 unfold lexR
 split
 ·exact Nat.zero_le _
 ·split
  ·exact Nat.zero_le _
  ·rename_i h
   exact Nat.le_of_not_lt h
theorem paW_ok (s:ByteArray):rdOK (paW s) (mR 0 0 0).nx:=by
 have h:=lexR_len s
 have e:(paW s).len=(lexR s).1.length:=tokD_len _
 exact ⟨Int.le_refl _,by show (0:Int)<=_;omega,by omega⟩
noncomputable def parS:List Dat->Option Eff:=fun ds=>match ds with
 | [.s s]=>some {val:=.tup [.agg [.c (.osl 47 0 (.lit 0) (.sym ((paC s).len))),.c (.osl 53 1 (.lit 0) (.sym ((paU s).len))),.c (.osl 63 2 (.lit 0) (.sym ((paP s).len)))],.sc (.int .i64 (.sym (paA s))),.sc (.int .i64 (.sym (paE s)))],vc:=[s.size<=140737488351232],nw:=[(0,.orow 47 (paC s)),(1,.orow 53 (paU s)),(2,.orow 63 (paP s))]}
 |_=>none
noncomputable def parC:Con:=conS [.sc .str] parS
theorem par_ok:ConOK Tryz.prog 7 parC:=by
 refine fn_obS tt_ok mixed Tryz.func7 rfl (fun _ _=>by kernel_rfl) (A:=fun ds=>⟨fun _=>Cons.of [(15,lexC),(16,sysC)],fun _=>none,fun _=>none⟩) (fun _ _=>(cons_cons lex_ok (cons_cons sys_ok cons_nil))) (by kernel_rfl) ?_
 intro ds
 unfold parS
 split
 ·rename_i s
  refine kmp (q:=s.size<=140737488351232->s.size<=140737488351232/\(((lexR s).snd.snd != (0:Int))=true->(paC s).len=0/\(paU s).len=0/\(paP s).len=0/\(↑(lexR s).snd.fst:Int)=paA s/\(lexR s).snd.snd=paE s/\(paC s).rows=[]/\(paU s).rows=[]/\(paP s).rows=[])/\(((lexR s).snd.snd != (0:Int))=false->rdOK (tokD (lexR s).fst) (0:Int)/\(((syR (tokD (lexR s).fst) (↑s.size:Int) (mR (0:Int) (0:Int) (0:Int))).er != (0:Int))=true->(paC s).len=0/\(paU s).len=0/\(paP s).len=0/\(syR (tokD (lexR s).fst) (↑s.size:Int) (mR (0:Int) (0:Int) (0:Int))).pa=paA s/\(syR (tokD (lexR s).fst) (↑s.size:Int) (mR (0:Int) (0:Int) (0:Int))).er=paE s/\(paC s).rows=[]/\(paU s).rows=[]/\(paP s).rows=[])/\(((syR (tokD (lexR s).fst) (↑s.size:Int) (mR (0:Int) (0:Int) (0:Int))).er != (0:Int))=false->(syC (tokD (lexR s).fst) (↑s.size:Int) (mR (0:Int) (0:Int) (0:Int))).fst.len=(paC s).len/\(syU (tokD (lexR s).fst) (↑s.size:Int) (mR (0:Int) (0:Int) (0:Int))).fst.len=(paU s).len/\(syP (tokD (lexR s).fst) (↑s.size:Int) (mR (0:Int) (0:Int) (0:Int))).fst.len=(paP s).len/\(0:Int)=paA s/\(0:Int)=paE s/\(syC (tokD (lexR s).fst) (↑s.size:Int) (mR (0:Int) (0:Int) (0:Int))).fst.rows=(paC s).rows/\(syU (tokD (lexR s).fst) (↑s.size:Int) (mR (0:Int) (0:Int) (0:Int))).fst.rows=(paU s).rows/\(syP (tokD (lexR s).fst) (↑s.size:Int) (mR (0:Int) (0:Int) (0:Int))).fst.rows=(paP s).rows))) (by kernel_rfl) ?_
  intro h
  have g:=paW_ok s
  refine ⟨h,fun hc=>?_,fun hc=>⟨g,fun hd=>?_,fun hd=>?_⟩⟩
  ·have hc:(lexR s).2.2≠0:=by simpa using hc
   have e:paO s=false:=by simp only [paO,decide_eq_false hc,Bool.false_and]
   simp only [paC,paU,paP,paA,paE,e,if_neg hc,Bool.false_eq_true,if_false]
   (repeat' (with_reducible apply And.intro))<;>first |with_reducible rfl |exact True.intro |with_reducible assumption |decide |assumption |rfl
  ·have hc:(lexR s).2.2=0:=by simpa using hc
   have hd:(paY s).er≠0:=ne_of_bne hd
   have e:paO s=false:=by simp only [paO,decide_eq_false hd,Bool.and_false]
   simp only [paC,paU,paP,paA,paE,e,if_pos hc,if_neg hd,Bool.false_eq_true,if_false]
   (repeat' (with_reducible apply And.intro))<;>first |with_reducible rfl |exact True.intro |with_reducible assumption |decide |assumption |rfl
  ·have hc:(lexR s).2.2=0:=by simpa using hc
   have hd:(paY s).er=0:=of_not_bne hd
   have e:paO s=true:=by simp only [paO,decide_eq_true hc,decide_eq_true hd,Bool.and_self]
   simp only [paC,paU,paP,paA,paE,e,if_pos hc,if_pos hd,if_true,hd]
   (repeat' (with_reducible apply And.intro))<;>first |with_reducible rfl |exact True.intro |with_reducible assumption |decide |assumption |rfl
 ·trivial
end Go.Proofs.YthpponmbpoaffaaGreatDoor.Sx.Z
namespace Go.Proofs.YthpponmbpoaffaaGreatDoor.Sx.Z
open Go.RowKit
def txP:ByteArray:=⟨#[112,114,111,99,32,112,32,123,32,120,32,61,32,49,32,43,32,50,32,42,32,51,32,59,32,125]⟩
def txQ:ByteArray:=⟨#[112,114,111,99,32,112]⟩
def tpD:D:=.l [[.s ⟨#[112]⟩,.l [],.l [[.i 1,.s ⟨#[120]⟩,.s ByteArray.empty,.i 4,.i 0,.s ByteArray.empty,.l [[.i 1,.i 1,.s ByteArray.empty,.l []],[.i 6,.i 0,.s ByteArray.empty,.l [[.i 1,.i 2,.s ByteArray.empty,.l []],[.i 1,.i 3,.s ByteArray.empty,.l []]]]],.i 0,.i 0,.i 0,.s ByteArray.empty,.l [],.i 0,.i 0,.s ByteArray.empty,.l [],.l [],.l [],.l []]]]]
theorem conS_sub {P:Program} {f:FuncId} {aps:List AP} {S S':List Dat->Option Eff} (h:ConOK P f (conS aps S)) (hS:∀ ds e,S' ds=some e->S ds=some e):ConOK P f (conS aps S'):=by
 refine ⟨h.enters,fun hp fr args e he=>h.calls hp fr args e ?_,fun hp fr caps e he=>?_⟩
 ·unfold conS con at he ⊢
  split at he
  ·rename_i ds ps hds
   cases hq:S' ds with
   |none=>simp only [hq] at he;cases he
   |some x=>
    simp only [hq] at he
    simp only [hds,hS _ _ hq]
    exact he
  ·cases he
 ·unfold conS at he;rw [con_jf] at he;cases he
theorem ba_eq {a b:ByteArray} (h:(a.toList==b.toList)=true):a=b:=by
 have h:=eq_of_beq h
 rw [ByteArray.toList_eq,ByteArray.toList_eq] at h
 exact ByteArray.ext (Array.toList_inj.1 h)
noncomputable def prtS:List Dat->Option Eff:=fun ds=>match ds with
 | [.s s]=>(match s.toList==txP.toList with
   |true=>some {val:=.tup [.agg [.c (.osl 47 0 (.lit 0) (.sym (D.len (.l [])))),.c (.osl 53 1 (.lit 0) (.sym (D.len (.l [])))),.c (.osl 63 2 (.lit 0) (.sym (D.len (.l [[.s ⟨#[112]⟩,.l [],.l [[.i 1,.s ⟨#[120]⟩,.s ByteArray.empty,.i 4,.i 0,.s ByteArray.empty,.l [[.i 1,.i 1,.s ByteArray.empty,.l []],[.i 6,.i 0,.s ByteArray.empty,.l [[.i 1,.i 2,.s ByteArray.empty,.l []],[.i 1,.i 3,.s ByteArray.empty,.l []]]]],.i 0,.i 0,.i 0,.s ByteArray.empty,.l [],.i 0,.i 0,.s ByteArray.empty,.l [],.l [],.l [],.l []]]]]))))],.sc (.int .i64 (.sym 0)),.sc (.int .i64 (.sym 0))],vc:=[s.size<=140737488351232],nw:=[(0,.orow 47 (.l [])),(1,.orow 53 (.l [])),(2,.orow 63 (.l [[.s ⟨#[112]⟩,.l [],.l [[.i 1,.s ⟨#[120]⟩,.s ByteArray.empty,.i 4,.i 0,.s ByteArray.empty,.l [[.i 1,.i 1,.s ByteArray.empty,.l []],[.i 6,.i 0,.s ByteArray.empty,.l [[.i 1,.i 2,.s ByteArray.empty,.l []],[.i 1,.i 3,.s ByteArray.empty,.l []]]]],.i 0,.i 0,.i 0,.s ByteArray.empty,.l [],.i 0,.i 0,.s ByteArray.empty,.l [],.l [],.l [],.l []]]]]))]}
   |false=>match s.toList==txQ.toList with
    |true=>some {val:=.tup [.agg [.c (.osl 47 0 (.lit 0) (.sym (D.len (.l [])))),.c (.osl 53 1 (.lit 0) (.sym (D.len (.l [])))),.c (.osl 63 2 (.lit 0) (.sym (D.len (.l []))))],.sc (.int .i64 (.sym 6)),.sc (.int .i64 (.sym 5))],vc:=[s.size<=140737488351232],nw:=[(0,.orow 47 (.l [])),(1,.orow 53 (.l [])),(2,.orow 63 (.l []))]}
    |false=>none)
 |_=>none
set_option maxRecDepth 100000 in
theorem tp_facts:paC txP = .l []/\paU txP = .l []/\paP txP=tpD/\paA txP=0/\paE txP=0:=⟨by kernel_rfl,by kernel_rfl,by kernel_rfl,by decide +kernel,by decide +kernel⟩
set_option maxRecDepth 100000 in
theorem tq_facts:paC txQ = .l []/\paU txQ = .l []/\paP txQ = .l []/\paA txQ=6/\paE txQ=5:=⟨by kernel_rfl,by kernel_rfl,by kernel_rfl,by decide +kernel,by decide +kernel⟩
theorem prt_ok:ConOK Tryz.prog 7 (conS [.sc .str] prtS):=conS_sub par_ok fun ds e h=>by
 unfold prtS at h
 split at h
 ·rename_i s
  split at h
  ·rename_i hs
   obtain rfl:=ba_eq hs
   obtain ⟨a,b,c,d,e⟩:=tp_facts
   rw [<- h]
   unfold parS
   simp only [a,b,c,d,e]
   rfl
  ·split at h
   ·rename_i hs
    obtain rfl:=ba_eq hs
    obtain ⟨a,b,c,d,e⟩:=tq_facts
    rw [<- h]
    unfold parS
    simp only [a,b,c,d,e]
   ·cases h
 ·cases h
noncomputable def prsS:FSpec:=fun ds _=>match ds with
 | []=>some {val:=.one (.sc (.bool (.sym (true)))),vc:=[]}
 |_=>none
noncomputable def prsC:Con:=con [] prsS
theorem prs_ok:ConOK Tryz.prog 6 prsC:=by
 refine fn_ob tt_ok mixed Tryz.func6 rfl (fun _ _=>by kernel_rfl) (A:=fun ds=>⟨fun _=>Cons.of [(7,(conS [.sc .str] prtS))],fun _=>none,fun _=>none⟩) (fun _ _=>(cons_cons prt_ok cons_nil)) (by kernel_rfl) ?_
 intro ds fr
 unfold prsS
 split
 ·skip
  refine kmp (q:=txP.size<=140737488351232/\txQ.size<=140737488351232/\(((0:Int)==(0:Int)&&(↑1:Int)==(1:Int))=true/\True->0<(1:Nat))/\(((0:Int)==(0:Int)&&(↑1:Int)==(1:Int))=true/\True->0<tpD.len)/\(((0:Int)==(0:Int)&&(↑1:Int)==(1:Int)&&(↑(tpD.el 0 ((0:Nat)+(2:Nat))).len:Int)==(1:Int))=true/\True->0<(1:Nat))/\(((0:Int)==(0:Int)&&(↑1:Int)==(1:Int)&&(↑(tpD.el 0 ((0:Nat)+(2:Nat))).len:Int)==(1:Int))=true/\True->0<tpD.len)/\(((0:Int)==(0:Int)&&(↑1:Int)==(1:Int)&&(↑(tpD.el 0 ((0:Nat)+(2:Nat))).len:Int)==(1:Int))=true/\True->0<(tpD.el 0 ((0:Nat)+(2:Nat))).len)/\(((0:Int)==(0:Int)&&(↑1:Int)==(1:Int)&&(↑(tpD.el 0 ((0:Nat)+(2:Nat))).len:Int)==(1:Int)&&(4:Int)==(4:Int))=true/\True->0<(1:Nat))/\(((0:Int)==(0:Int)&&(↑1:Int)==(1:Int)&&(↑(tpD.el 0 ((0:Nat)+(2:Nat))).len:Int)==(1:Int)&&(4:Int)==(4:Int))=true/\True->0<tpD.len)/\(((0:Int)==(0:Int)&&(↑1:Int)==(1:Int)&&(↑(tpD.el 0 ((0:Nat)+(2:Nat))).len:Int)==(1:Int)&&(4:Int)==(4:Int))=true/\True->0<(tpD.el 0 ((0:Nat)+(2:Nat))).len)/\(((0:Int)==(0:Int)&&(↑1:Int)==(1:Int)&&(↑(tpD.el 0 ((0:Nat)+(2:Nat))).len:Int)==(1:Int)&&(4:Int)==(4:Int)&&(↑((tpD.el 0 ((0:Nat)+(2:Nat))).el 0 ((0:Nat)+3+(3:Nat))).len:Int)==(2:Int))=true/\True->0<(1:Nat))/\(((0:Int)==(0:Int)&&(↑1:Int)==(1:Int)&&(↑(tpD.el 0 ((0:Nat)+(2:Nat))).len:Int)==(1:Int)&&(4:Int)==(4:Int)&&(↑((tpD.el 0 ((0:Nat)+(2:Nat))).el 0 ((0:Nat)+3+(3:Nat))).len:Int)==(2:Int))=true/\True->0<tpD.len)/\(((0:Int)==(0:Int)&&(↑1:Int)==(1:Int)&&(↑(tpD.el 0 ((0:Nat)+(2:Nat))).len:Int)==(1:Int)&&(4:Int)==(4:Int)&&(↑((tpD.el 0 ((0:Nat)+(2:Nat))).el 0 ((0:Nat)+3+(3:Nat))).len:Int)==(2:Int))=true/\True->0<(tpD.el 0 ((0:Nat)+(2:Nat))).len)/\(((0:Int)==(0:Int)&&(↑1:Int)==(1:Int)&&(↑(tpD.el 0 ((0:Nat)+(2:Nat))).len:Int)==(1:Int)&&(4:Int)==(4:Int)&&(↑((tpD.el 0 ((0:Nat)+(2:Nat))).el 0 ((0:Nat)+3+(3:Nat))).len:Int)==(2:Int))=true/\True->1<((tpD.el 0 ((0:Nat)+(2:Nat))).el 0 ((0:Nat)+3+(3:Nat))).len)/\((0:Int)==(0:Int)&&(↑1:Int)==(1:Int)&&(↑(tpD.el 0 ((0:Nat)+(2:Nat))).len:Int)==(1:Int)&&(4:Int)==(4:Int)&&(↑((tpD.el 0 ((0:Nat)+(2:Nat))).el 0 ((0:Nat)+3+(3:Nat))).len:Int)==(2:Int)&&(6:Int)==(6:Int)&&(5:Int)==(5:Int)&&(6:Int)==(6:Int))=true) (by kernel_rfl) ?_
  (repeat' (with_reducible apply And.intro))<;>first |decide |(intro _;decide) |rfl
 ·trivial
end Go.Proofs.YthpponmbpoaffaaGreatDoor.Sx.Z
