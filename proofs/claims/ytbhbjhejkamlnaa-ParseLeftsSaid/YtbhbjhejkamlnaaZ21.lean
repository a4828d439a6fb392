import Derived.Test.YtbhbjhejkamlnaaZ20
import Derived.Lib.Strings
import Derived.Test.YtbhbjhejkamlnaaProg
import Derived.WalkKit
import Derived.WalkLawsBesides
import Derived.WalkSpells
import Derived.Outline
import Derived.Lib.Hide
import Derived.Lib.Walk
import Derived.Lib.BufferWrite
import Derived.Lib.UnsafeStr
import Derived.Laws.MakeOwn
import Derived.Deep.DeepFit
import Derived.Laws.OwnMore
namespace Go.Proofs.Ytbhbjhejkamlnaa.Sx.Z
open Go.RowKit
def csF (ws:D) (en:Int) (r:Rd):List D × Rd:=((chZ ws en (acR ws kwC r)).row,chR ws en (acR ws kwC r))
def usF (ws:D) (en:Int) (r:Rd):List D × Rd:=((ruZ ws en (acR ws kwU r)).row,ruR ws en (acR ws kwU r))
def psF (ws:D) (en:Int) (r:Rd):List D × Rd:=((poZ ws en (acR ws kwP r)).row,poR ws en (acR ws kwP r))
def syC (ws:D) (en:Int) (r:Rd):D × Rd:=seqA (acG kwC ws) (csF ws en) ws (.l []) r
def syU (ws:D) (en:Int) (r:Rd):D × Rd:=seqA (acG kwU ws) (usF ws en) ws (.l []) (syC ws en r).2
def syP (ws:D) (en:Int) (r:Rd):D × Rd:=seqA (acG kwP ws) (psF ws en) ws (.l []) (syU ws en r).2
def syR (ws:D) (en:Int) (r:Rd):Rd:=fiR ws en (syP ws en r).2
theorem cs_sq {ws:D} (en:Int):SqOK ws (acG kwC ws) (csF ws en):=⟨fun r h hg=>by
 have a:=ac_up (t:=kwC) h (by decide)
 have b:=(ch_up en a.1).2.2.2
 exact ⟨b.1,Int.lt_of_lt_of_le (ac_lt2 hg) b.2⟩⟩
theorem us_sq {ws:D} (en:Int):SqOK ws (acG kwU ws) (usF ws en):=⟨fun r h hg=>by
 have a:=ac_up (t:=kwU) h (by decide)
 have b:=(ru_up en a.1).2.2.2
 exact ⟨b.1,Int.lt_of_lt_of_le (ac_lt2 hg) b.2⟩⟩
theorem ps_sq {ws:D} (en:Int):SqOK ws (acG kwP ws) (psF ws en):=⟨fun r h hg=>by
 have a:=ac_up (t:=kwP) h (by decide)
 have b:=(po_up en a.1).2.2.2.2
 exact ⟨b.1,Int.lt_of_lt_of_le (ac_lt2 hg) b.2⟩⟩
theorem sy_up {ws:D} (en:Int) {r:Rd} (h:rdOK ws r.nx):rdOK ws (syC ws en r).2.nx/\rdOK ws (syU ws en r).2.nx/\rdOK ws (syP ws en r).2.nx:=by
 have a:=seq_up (cs_sq en) (.l []) h
 have b:=seq_up (us_sq en) (.l []) a.1
 exact ⟨a.1,b.1,(seq_up (ps_sq en) (.l []) b.1).1⟩
noncomputable def sysS:List Dat->Option (Eff × List Seg):=fun ds=>match ds with
 | [.d ws,.i nx,.i en,.i pa,.i er]=>some ({val:=.one (.agg [.c (.osl 97 0 (.lit 0) (.sym ((syC ws en (mR nx pa er)).1.len))),.c (.osl 102 1 (.lit 0) (.sym ((syU ws en (mR nx pa er)).1.len))),.c (.osl 87 2 (.lit 0) (.sym ((syP ws en (mR nx pa er)).1.len)))]),vc:=[rdOK ws nx],nw:=[(0,.orow 97 ((syC ws en (mR nx pa er)).1)),(1,.orow 102 ((syU ws en (mR nx pa er)).1)),(2,.orow 87 ((syP ws en (mR nx pa er)).1))]},[.c (.rows 115 ws),.c (.int .i64 (.sym ((syR ws en (mR nx pa er)).nx))),.c (.int .i64 (.sym en)),.c (.int .i64 (.sym ((syR ws en (mR nx pa er)).pa))),.c (.int .i64 (.sym ((syR ws en (mR nx pa er)).er)))])
 |_=>none
noncomputable def sysC:Con:=conM 64 [.c (.rows 115),.c (.int .i64),.c (.int .i64),.c (.int .i64),.c (.int .i64)] [] sysS
theorem sys_ok:ConOK Try.prog 14 sysC:=by
 refine fn_obM tt_ok mixed Try.func14 rfl (fun _ _=>by kernel_rfl) (A:=fun ds=>⟨fun _=>Cons.of [(38,chnC),(39,rulC),(40,proC),(37,accC),(41,finC)],fun k=>match k,ds with | 2,[.d ws,.i nx,.i en,.i pa,.i er]=>some {ι:=D × Rd,pre:=fun _ q=>rdOK ws q.2.nx/\(seqA (acG kwC ws) (csF ws en) ws q.1 q.2=(syC ws en (mR nx pa er)))/\q.1.len+left ws q.2<=1000001,μ:=fun q=>left ws q.2,st:=fun s q=>famN s [] [0,2,3] [(0,.own 64 ([.c (.rows 115 ws),.c (.int .i64 (.sym ((q.2).nx))),.c (.int .i64 (.sym en)),.c (.int .i64 (.sym ((q.2).pa))),.c (.int .i64 (.sym ((q.2).er)))])),(idOf s 3,.own 26 ([.c (.osl 97 s.nx (.lit 0) (.sym (q.1.len))),.c .nils,.c .nils])),(s.nx,.orow 97 (q.1))] [2]} | 4,[.d ws,.i nx,.i en,.i pa,.i er]=>some {ι:=D × Rd,pre:=fun _ q=>rdOK ws q.2.nx/\(seqA (acG kwU ws) (usF ws en) ws q.1 q.2=(syU ws en (mR nx pa er)))/\q.1.len+left ws q.2<=1000001,μ:=fun q=>left ws q.2,st:=fun s q=>famN s [] [0,2,3] [(0,.own 64 ([.c (.rows 115 ws),.c (.int .i64 (.sym ((q.2).nx))),.c (.int .i64 (.sym en)),.c (.int .i64 (.sym ((q.2).pa))),.c (.int .i64 (.sym ((q.2).er)))])),(idOf s 3,.own 26 ([.c (.osl 97 (cellIdP s 3 0) (.lit 0) (.sym ((syC ws en (mR nx pa er)).1.len))),.c (.osl 102 s.nx (.lit 0) (.sym (q.1.len))),.c .nils])),(cellIdP s 3 0,.orow 97 ((syC ws en (mR nx pa er)).1)),(s.nx,.orow 102 (q.1))] [2]} | 6,[.d ws,.i nx,.i en,.i pa,.i er]=>some {ι:=D × Rd,pre:=fun _ q=>rdOK ws q.2.nx/\(seqA (acG kwP ws) (psF ws en) ws q.1 q.2=(syP ws en (mR nx pa er)))/\q.1.len+left ws q.2<=1000001,μ:=fun q=>left ws q.2,st:=fun s q=>famN s [] [0,2,3] [(0,.own 64 ([.c (.rows 115 ws),.c (.int .i64 (.sym ((q.2).nx))),.c (.int .i64 (.sym en)),.c (.int .i64 (.sym ((q.2).pa))),.c (.int .i64 (.sym ((q.2).er)))])),(idOf s 3,.own 26 ([.c (.osl 97 (cellIdP s 3 0) (.lit 0) (.sym ((syC ws en (mR nx pa er)).1.len))),.c (.osl 102 (cellIdP s 3 1) (.lit 0) (.sym ((syU ws en (mR nx pa er)).1.len))),.c (.osl 87 s.nx (.lit 0) (.sym (q.1.len)))])),(cellIdP s 3 0,.orow 97 ((syC ws en (mR nx pa er)).1)),(cellIdP s 3 1,.orow 102 ((syU ws en (mR nx pa er)).1)),(s.nx,.orow 87 (q.1))] [2]} |_,_=>none,fun _=>none⟩) (fun _ _=>(cons_cons chn_ok (cons_cons rul_ok (cons_cons pro_ok (cons_cons acc_ok (cons_cons fin_ok cons_nil)))))) (by kernel_rfl) ?_
 intro ds
 unfold sysS
 split
 ·rename_i ws nx en pa er
  refine kmp (q:=rdOK ws nx->(∃ (i:D × Rd),(rdOK ws i.snd.nx/\seqA (acG kwC ws) (csF ws en) ws i.fst i.snd=syC ws en (mR nx pa er)/\i.fst.len+left ws i.snd<=(1000001:Nat))/\ws.rows=ws.rows/\nx=i.snd.nx/\en=en/\pa=i.snd.pa/\er=i.snd.er/\i.fst.len=0/\i.fst.rows=[])/\∀ (i:D × Rd),rdOK ws i.snd.nx/\seqA (acG kwC ws) (csF ws en) ws i.fst i.snd=syC ws en (mR nx pa er)/\i.fst.len+left ws i.snd<=1000001->rdOK ws i.snd.nx/\0<kwC.size/\(acB ws i.snd.nx kwC=true->rdOK ws (acR ws kwC i.snd).nx/\0+(chZ ws en (acR ws kwC i.snd)).tg.len<=(chZ ws en (acR ws kwC i.snd)).tg.len/\i.fst.len=i.fst.len/\(i.fst.len+((D.l [[D.s (chZ ws en (acR ws kwC i.snd)).nm,D.i (chZ ws en (acR ws kwC i.snd)).k,D.i (chZ ws en (acR ws kwC i.snd)).n,D.s (chZ ws en (acR ws kwC i.snd)).fr,D.s (chZ ws en (acR ws kwC i.snd)).to,(chZ ws en (acR ws kwC i.snd)).tg.sub 0 ((0:Nat)+(chZ ws en (acR ws kwC i.snd)).tg.len)]]).sub 0 1).len)*88<=140737488355328/\0+1<=(D.l [[D.s (chZ ws en (acR ws kwC i.snd)).nm,D.i (chZ ws en (acR ws kwC i.snd)).k,D.i (chZ ws en (acR ws kwC i.snd)).n,D.s (chZ ws en (acR ws kwC i.snd)).fr,D.s (chZ ws en (acR ws kwC i.snd)).to,(chZ ws en (acR ws kwC i.snd)).tg.sub 0 ((0:Nat)+(chZ ws en (acR ws kwC i.snd)).tg.len)]]).len/\∃ (j:D × Rd),(rdOK ws j.snd.nx/\seqA (acG kwC ws) (csF ws en) ws j.fst j.snd=syC ws en (mR nx pa er)/\j.fst.len+left ws j.snd<=(1000001:Nat))/\left ws j.snd<left ws i.snd/\ws.rows=ws.rows/\(chR ws en (acR ws kwC i.snd)).nx=j.snd.nx/\en=en/\(chR ws en (acR ws kwC i.snd)).pa=j.snd.pa/\(chR ws en (acR ws kwC i.snd)).er=j.snd.er/\i.fst.len+((D.l [[D.s (chZ ws en (acR ws kwC i.snd)).nm,D.i (chZ ws en (acR ws kwC i.snd)).k,D.i (chZ ws en (acR ws kwC i.snd)).n,D.s (chZ ws en (acR ws kwC i.snd)).fr,D.s (chZ ws en (acR ws kwC i.snd)).to,(chZ ws en (acR ws kwC i.snd)).tg.sub 0 ((0:Nat)+(chZ ws en (acR ws kwC i.snd)).tg.len)]]).sub 0 1).len=j.fst.len/\i.fst.rows++List.drop 0 (List.take 1 [[D.s (chZ ws en (acR ws kwC i.snd)).nm,D.i (chZ ws en (acR ws kwC i.snd)).k,D.i (chZ ws en (acR ws kwC i.snd)).n,D.s (chZ ws en (acR ws kwC i.snd)).fr,D.s (chZ ws en (acR ws kwC i.snd)).to,(chZ ws en (acR ws kwC i.snd)).tg.sub 0 ((0:Nat)+(chZ ws en (acR ws kwC i.snd)).tg.len)]])=j.fst.rows)/\(acB ws i.snd.nx kwC=false->(∃ (i_1:D × Rd),(rdOK ws i_1.snd.nx/\seqA (acG kwU ws) (usF ws en) ws i_1.fst i_1.snd=syU ws en (mR nx pa er)/\i_1.fst.len+left ws i_1.snd<=(1000001:Nat))/\ws.rows=ws.rows/\(acR ws kwC i.snd).nx=i_1.snd.nx/\en=en/\(acR ws kwC i.snd).pa=i_1.snd.pa/\(acR ws kwC i.snd).er=i_1.snd.er/\i.fst.len=(syC ws en (mR nx pa er)).fst.len/\i_1.fst.len=0/\i.fst.rows=(syC ws en (mR nx pa er)).fst.rows/\i_1.fst.rows=[])/\∀ (i:D × Rd),rdOK ws i.snd.nx/\seqA (acG kwU ws) (usF ws en) ws i.fst i.snd=syU ws en (mR nx pa er)/\i.fst.len+left ws i.snd<=1000001->rdOK ws i.snd.nx/\0<kwU.size/\(acB ws i.snd.nx kwU=true->rdOK ws (acR ws kwU i.snd).nx/\0+(ruZ ws en (acR ws kwU i.snd)).mv.len<=(ruZ ws en (acR ws kwU i.snd)).mv.len/\i.fst.len=i.fst.len/\(i.fst.len+((D.l [[D.s (ruZ ws en (acR ws kwU i.snd)).ch,(ruZ ws en (acR ws kwU i.snd)).mv.sub 0 ((0:Nat)+(ruZ ws en (acR ws kwU i.snd)).mv.len)]]).sub 0 1).len)*40<=140737488355328/\0+1<=(D.l [[D.s (ruZ ws en (acR ws kwU i.snd)).ch,(ruZ ws en (acR ws kwU i.snd)).mv.sub 0 ((0:Nat)+(ruZ ws en (acR ws kwU i.snd)).mv.len)]]).len/\∃ (j:D × Rd),(rdOK ws j.snd.nx/\seqA (acG kwU ws) (usF ws en) ws j.fst j.snd=syU ws en (mR nx pa er)/\j.fst.len+left ws j.snd<=(1000001:Nat))/\left ws j.snd<left ws i.snd/\ws.rows=ws.rows/\(ruR ws en (acR ws kwU i.snd)).nx=j.snd.nx/\en=en/\(ruR ws en (acR ws kwU i.snd)).pa=j.snd.pa/\(ruR ws en (acR ws kwU i.snd)).er=j.snd.er/\(syC ws en (mR nx pa er)).fst.len=(syC ws en (mR nx pa er)).fst.len/\i.fst.len+((D.l [[D.s (ruZ ws en (acR ws kwU i.snd)).ch,(ruZ ws en (acR ws kwU i.snd)).mv.sub 0 ((0:Nat)+(ruZ ws en (acR ws kwU i.snd)).mv.len)]]).sub 0 1).len=j.fst.len/\(syC ws en (mR nx pa er)).fst.rows=(syC ws en (mR nx pa er)).fst.rows/\i.fst.rows++List.drop 0 (List.take 1 [[D.s (ruZ ws en (acR ws kwU i.snd)).ch,(ruZ ws en (acR ws kwU i.snd)).mv.sub 0 ((0:Nat)+(ruZ ws en (acR ws kwU i.snd)).mv.len)]])=j.fst.rows)/\(acB ws i.snd.nx kwU=false->(∃ (i_1:D × Rd),(rdOK ws i_1.snd.nx/\seqA (acG kwP ws) (psF ws en) ws i_1.fst i_1.snd=syP ws en (mR nx pa er)/\i_1.fst.len+left ws i_1.snd<=(1000001:Nat))/\ws.rows=ws.rows/\(acR ws kwU i.snd).nx=i_1.snd.nx/\en=en/\(acR ws kwU i.snd).pa=i_1.snd.pa/\(acR ws kwU i.snd).er=i_1.snd.er/\(syC ws en (mR nx pa er)).fst.len=(syC ws en (mR nx pa er)).fst.len/\i.fst.len=(syU ws en (mR nx pa er)).fst.len/\i_1.fst.len=0/\(syC ws en (mR nx pa er)).fst.rows=(syC ws en (mR nx pa er)).fst.rows/\i.fst.rows=(syU ws en (mR nx pa er)).fst.rows/\i_1.fst.rows=[])/\∀ (i:D × Rd),rdOK ws i.snd.nx/\seqA (acG kwP ws) (psF ws en) ws i.fst i.snd=syP ws en (mR nx pa er)/\i.fst.len+left ws i.snd<=1000001->rdOK ws i.snd.nx/\0<kwP.size/\(acB ws i.snd.nx kwP=true->rdOK ws (acR ws kwP i.snd).nx/\0+(poZ ws en (acR ws kwP i.snd)).vs.len<=(poZ ws en (acR ws kwP i.snd)).vs.len/\0+(poZ ws en (acR ws kwP i.snd)).b.len<=(poZ ws en (acR ws kwP i.snd)).b.len/\i.fst.len=i.fst.len/\(i.fst.len+((D.l [[D.s (poZ ws en (acR ws kwP i.snd)).nm,(poZ ws en (acR ws kwP i.snd)).vs.sub 0 ((0:Nat)+(poZ ws en (acR ws kwP i.snd)).vs.len),(poZ ws en (acR ws kwP i.snd)).b.sub 0 ((0:Nat)+(poZ ws en (acR ws kwP i.snd)).b.len)]]).sub 0 1).len)*64<=140737488355328/\0+1<=(D.l [[D.s (poZ ws en (acR ws kwP i.snd)).nm,(poZ ws en (acR ws kwP i.snd)).vs.sub 0 ((0:Nat)+(poZ ws en (acR ws kwP i.snd)).vs.len),(poZ ws en (acR ws kwP i.snd)).b.sub 0 ((0:Nat)+(poZ ws en (acR ws kwP i.snd)).b.len)]]).len/\∃ (j:D × Rd),(rdOK ws j.snd.nx/\seqA (acG kwP ws) (psF ws en) ws j.fst j.snd=syP ws en (mR nx pa er)/\j.fst.len+left ws j.snd<=(1000001:Nat))/\left ws j.snd<left ws i.snd/\ws.rows=ws.rows/\(poR ws en (acR ws kwP i.snd)).nx=j.snd.nx/\en=en/\(poR ws en (acR ws kwP i.snd)).pa=j.snd.pa/\(poR ws en (acR ws kwP i.snd)).er=j.snd.er/\(syC ws en (mR nx pa er)).fst.len=(syC ws en (mR nx pa er)).fst.len/\(syU ws en (mR nx pa er)).fst.len=(syU ws en (mR nx pa er)).fst.len/\i.fst.len+((D.l [[D.s (poZ ws en (acR ws kwP i.snd)).nm,(poZ ws en (acR ws kwP i.snd)).vs.sub 0 ((0:Nat)+(poZ ws en (acR ws kwP i.snd)).vs.len),(poZ ws en (acR ws kwP i.snd)).b.sub 0 ((0:Nat)+(poZ ws en (acR ws kwP i.snd)).b.len)]]).sub 0 1).len=j.fst.len/\(syC ws en (mR nx pa er)).fst.rows=(syC ws en (mR nx pa er)).fst.rows/\(syU ws en (mR nx pa er)).fst.rows=(syU ws en (mR nx pa er)).fst.rows/\i.fst.rows++List.drop 0 (List.take 1 [[D.s (poZ ws en (acR ws kwP i.snd)).nm,(poZ ws en (acR ws kwP i.snd)).vs.sub 0 ((0:Nat)+(poZ ws en (acR ws kwP i.snd)).vs.len),(poZ ws en (acR ws kwP i.snd)).b.sub 0 ((0:Nat)+(poZ ws en (acR ws kwP i.snd)).b.len)]])=j.fst.rows)/\(acB ws i.snd.nx kwP=false->rdOK ws (acR ws kwP i.snd).nx/\(syC ws en (mR nx pa er)).fst.len=(syC ws en (mR nx pa er)).fst.len/\(syU ws en (mR nx pa er)).fst.len=(syU ws en (mR nx pa er)).fst.len/\i.fst.len=(syP ws en (mR nx pa er)).fst.len/\ws.rows=ws.rows/\(fiR ws en (acR ws kwP i.snd)).nx=(syR ws en (mR nx pa er)).nx/\en=en/\(fiR ws en (acR ws kwP i.snd)).pa=(syR ws en (mR nx pa er)).pa/\(fiR ws en (acR ws kwP i.snd)).er=(syR ws en (mR nx pa er)).er/\(syC ws en (mR nx pa er)).fst.rows=(syC ws en (mR nx pa er)).fst.rows/\(syU ws en (mR nx pa er)).fst.rows=(syU ws en (mR nx pa er)).fst.rows/\i.fst.rows=(syP ws en (mR nx pa er)).fst.rows)))) (by kernel_rfl) ?_
  intro h
  obtain ⟨a,b,c⟩:=sy_up en (r:=mR nx pa er) h
  refine ⟨⟨(.l [],(mR nx pa er)),⟨h,rfl,(by show 0+left ws (mR nx pa er)<=1000001;have:=(lf_lt (r:=(mR nx pa er)) h).2;omega)⟩,?_⟩,?_⟩
  ·(repeat' (with_reducible apply And.intro))<;>first |with_reducible rfl |exact True.intro |with_reducible assumption |decide |assumption |rfl
  rintro q ⟨h1,h2,h3⟩
  refine ⟨h1,by decide,fun hc=>?_,fun hc=>?_⟩
  ·have hg:acG kwC ws q.2=true:=hc
   obtain ⟨u1,u2⟩:=(cs_sq en).up q.2 h1 hg
   have u3:=lt_left u1 h1 u2
   have hs:=seq_step (cs_sq en) (d:=q.1) h1 hg
   have hz:(q.1.len+1)*88<=140737488355328:=by omega
   have hl:(D.l (q.1.rows++[(csF ws en q.2).1])).len+left ws (csF ws en q.2).2<=1000001:=by rw [ap_len];omega
   have m1:=(ac_up (t:=kwC) h1 (by decide)).1
   refine ⟨m1,Nat.le_of_eq (Nat.zero_add _),rfl,hz,Nat.le_refl 1,(.l (q.1.rows++[(csF ws en q.2).1]),(csF ws en q.2).2),⟨u1,hs.trans h2,hl⟩,u3,?_⟩
   simp only [subAll]
   (repeat' (with_reducible apply And.intro))<;>first |with_reducible rfl |exact True.intro |exact (ap_len _ _).symm |rfl
  have hg:acG kwC ws q.2=false:=hc
  have h2:(q.1,q.2)=(syC ws en (mR nx pa er)):=(seq_end hg).symm.trans h2
  rw [acR_no (r:=q.2) hc]
  refine ⟨⟨(.l [],(syC ws en (mR nx pa er)).2),⟨a,rfl,(by show 0+left ws (syC ws en (mR nx pa er)).2<=1000001;have:=(lf_lt (r:=(syC ws en (mR nx pa er)).2) a).2;omega)⟩,?_⟩,?_⟩
  ·simp only [<- h2]
   (repeat' (with_reducible apply And.intro))<;>first |with_reducible rfl |exact True.intro |with_reducible assumption |decide |assumption |rfl
  rintro q ⟨h1,h2,h3⟩
  refine ⟨h1,by decide,fun hc=>?_,fun hc=>?_⟩
  ·have hg:acG kwU ws q.2=true:=hc
   obtain ⟨u1,u2⟩:=(us_sq en).up q.2 h1 hg
   have u3:=lt_left u1 h1 u2
   have hs:=seq_step (us_sq en) (d:=q.1) h1 hg
   have hz:(q.1.len+1)*40<=140737488355328:=by omega
   have hl:(D.l (q.1.rows++[(usF ws en q.2).1])).len+left ws (usF ws en q.2).2<=1000001:=by rw [ap_len];omega
   have m1:=(ac_up (t:=kwU) h1 (by decide)).1
   refine ⟨m1,Nat.le_of_eq (Nat.zero_add _),rfl,hz,Nat.le_refl 1,(.l (q.1.rows++[(usF ws en q.2).1]),(usF ws en q.2).2),⟨u1,hs.trans h2,hl⟩,u3,?_⟩
   simp only [subAll]
   (repeat' (with_reducible apply And.intro))<;>first |with_reducible rfl |exact True.intro |exact (ap_len _ _).symm |rfl
  have hg:acG kwU ws q.2=false:=hc
  have h2:(q.1,q.2)=(syU ws en (mR nx pa er)):=(seq_end hg).symm.trans h2
  rw [acR_no (r:=q.2) hc]
  refine ⟨⟨(.l [],(syU ws en (mR nx pa er)).2),⟨b,rfl,(by show 0+left ws (syU ws en (mR nx pa er)).2<=1000001;have:=(lf_lt (r:=(syU ws en (mR nx pa er)).2) b).2;omega)⟩,?_⟩,?_⟩
  ·simp only [<- h2]
   (repeat' (with_reducible apply And.intro))<;>first |with_reducible rfl |exact True.intro |with_reducible assumption |decide |assumption |rfl
  rintro q ⟨h1,h2,h3⟩
  refine ⟨h1,by decide,fun hc=>?_,fun hc=>?_⟩
  ·have hg:acG kwP ws q.2=true:=hc
   obtain ⟨u1,u2⟩:=(ps_sq en).up q.2 h1 hg
   have u3:=lt_left u1 h1 u2
   have hs:=seq_step (ps_sq en) (d:=q.1) h1 hg
   have hz:(q.1.len+1)*64<=140737488355328:=by omega
   have hl:(D.l (q.1.rows++[(psF ws en q.2).1])).len+left ws (psF ws en q.2).2<=1000001:=by rw [ap_len];omega
   have m1:=(ac_up (t:=kwP) h1 (by decide)).1
   refine ⟨m1,Nat.le_of_eq (Nat.zero_add _),Nat.le_of_eq (Nat.zero_add _),rfl,hz,Nat.le_refl 1,(.l (q.1.rows++[(psF ws en q.2).1]),(psF ws en q.2).2),⟨u1,hs.trans h2,hl⟩,u3,?_⟩
   simp only [subAll]
   (repeat' (with_reducible apply And.intro))<;>first |with_reducible rfl |exact True.intro |exact (ap_len _ _).symm |rfl
  have hg:acG kwP ws q.2=false:=hc
  have h2:(q.1,q.2)=(syP ws en (mR nx pa er)):=(seq_end hg).symm.trans h2
  rw [acR_no (r:=q.2) hc]
  simp only [syR,<- h2]
  (repeat' (with_reducible apply And.intro))<;>first |with_reducible rfl |exact True.intro |with_reducible assumption |decide |assumption |rfl
 ·trivial
end Go.Proofs.Ytbhbjhejkamlnaa.Sx.Z
namespace Go.Proofs.Ytbhbjhejkamlnaa
def gapB (n:Int):Bool:=n==32 ||n==10
def letB (n:Int):Bool:=decide (97<=n)&&decide (n<=122)
def digB (n:Int):Bool:=decide (48<=n)&&decide (n<=57)
def gapU (b:UInt8):Bool:=gapB (b.toNat:Int)
def letU (b:UInt8):Bool:=letB (b.toNat:Int)
def digU (b:UInt8):Bool:=digB (b.toNat:Int)
def alnU (b:UInt8):Bool:=letU b ||digU b
def resB (l:List UInt8):Bool:=
 l==[99,104,97,110] ||l==[98,108,111,99,107] ||l==[100,114,111,112] ||l==[108,111,115,115,121] ||l==[102,114,111,109] ||l==[116,111] ||
 l==[114,117,108,101] ||l==[112,114,111,99] ||l==[118,97,114] ||l==[105,102] ||l==[101,108,115,101] ||l==[119,104,105,108,101] ||
 l==[115,101,110,100] ||l==[114,101,99,118] ||l==[97,115,115,101,114,116] ||l==[105,110,112,117,116]
def sgnB (a:Int) (p:Bool):Nat:=
 if a=61 ∨ a=60 ∨ a=62 then (if p then 2 else 1) else if a=33 then (if p then 2 else 0)
 else if a=123 ∨ a=125 ∨ a=40 ∨ a=41 ∨ a=59 ∨ a=44 ∨ a=46 ∨ a=43 ∨ a=45 ∨ a=42 ∨ a=47 ∨ a=37 then 1 else 0
def eqNext (l:List UInt8):Bool:=match l with
 |_::b::_=>b==61
 |_=>false
theorem eqNext_get (l:List UInt8) (h:1<l.length):eqNext l=((l[1].toNat:Int)==61):=by
 match l,h with
 |a::b::t,_=>
  show (b==61)=((b.toNat:Int)==61)
  rw [Bool.eq_iff_iff]
  simp only [beq_iff_eq]
  constructor
  ·rintro rfl;rfl
  ·intro h;exact UInt8.toNat_inj.1 (by show b.toNat=61;omega)
 | [],h=>simp at h
 | [a],h=>simp at h
theorem eqNext_short (l:List UInt8) (h:l.length<=1):eqNext l=false:=by
 match l,h with
 |a::b::t,h=>simp at h
 | [],_=>rfl
 | [a],_=>rfl
def sgnLen (r:List UInt8):Nat:=sgnB ((r.headD 0).toNat:Int) (eqNext r)
def lenOf (pr:UInt8->Bool) (r:List UInt8):Nat:=(r.takeWhile pr).length
def val (ds:List UInt8):Nat:=ds.foldl (fun n d=>10*n+(d.toNat-48)) 0
def nameE (r:List UInt8):Except Int (Int × Nat × Int):=
 if 12<lenOf alnU r then .error 3 else .ok (if resB (r.take (lenOf alnU r)) then 4 else 1,lenOf alnU r,0)
def numE (r:List UInt8):Except Int (Int × Nat × Int):=
 if 2147483647<val (r.take (lenOf digU r)) ∨ (1<lenOf digU r/\r.headD 0=48) ∨ letU (r.getD (lenOf digU r) 0)=true then .error 3
 else .ok (2,lenOf digU r,(val (r.take (lenOf digU r)):Int))
def sgnE (r:List UInt8):Except Int (Int × Nat × Int):=
 if sgnLen r=0 then .error 2 else .ok (3,sgnLen r,0)
def wordE (r:List UInt8):Except Int (Int × Nat × Int):=
 if letU (r.headD 0) then nameE r else if digU (r.headD 0) then numE r else sgnE r
structure Tok where
 kind:Int
 text:ByteArray
 num:Int
 pos:Nat
def lexGo (s:ByteArray):Nat->Nat->List Tok->Except (Nat × Int) (List Tok)
 | 0,_,acc=>.ok acc
 |f+1,p,acc=>
  if p<s.size then
   if gapU (s.data.toList.getD p 0) then lexGo s f (p+1) acc
   else match wordE (s.data.toList.drop p) with
    | .error e=>.error (p,e)
    | .ok (k,n,m)=>lexGo s f (p+n) (acc++[⟨k,s.extract p (p+n),m,p⟩])
  else .ok acc
def lexR (s:ByteArray):List Tok × Nat × Int:=match lexGo s s.size 0 [] with
 | .error (p,e)=>([],p,e)
 | .ok acc=>if 2000<acc.length then ([],s.size,4) else (acc,0,0)
theorem lenOf_le (pr:UInt8->Bool) (r:List UInt8):lenOf pr r<=r.length:=(List.takeWhile_prefix pr).length_le
theorem lenOf_pos (pr:UInt8->Bool) (r:List UInt8) (h0:0<r.length) (h:pr (r.headD 0)=true):1<=lenOf pr r:=by
 match r,h0 with
 |a::t,_=>
  have h:pr a=true:=h
  simp [lenOf,h]
theorem sgnB_le (a:Int) (p:Bool):sgnB a p<=2:=by
 unfold sgnB
 cases p<;>repeat (first |omega |split)
theorem sgnLen_le (r:List UInt8):sgnLen r<=r.length:=by
 match r with
 | []=>exact Nat.le_of_eq (by decide)
 | [a]=>
   show sgnB (a.toNat:Int) false<=1
   unfold sgnB
   simp only [Bool.false_eq_true,if_false]
   repeat (first |omega |split)
 |a::b::t=>
  have:=sgnB_le (a.toNat:Int) (b==61)
  show sgnB (a.toNat:Int) (b==61)<=t.length+1+1
  omega
theorem wordE_ok {r:List UInt8} {k:Int} {n:Nat} {m:Int} (h0:0<r.length) (h:wordE r = .ok (k,n,m)):1<=n/\n<=r.length/\0<=m/\m<=2147483647/\1<=k/\k<=4:=by
 unfold wordE at h
 by_cases hl:letU (r.headD 0)=true
 ·rw [if_pos hl] at h
  unfold nameE at h
  by_cases h12:12<lenOf alnU r
  ·rw [if_pos h12] at h;cases h
  ·rw [if_neg h12] at h
   injection h with h;injection h with h1 h;injection h with h2 h3
   subst h2;subst h3
   refine ⟨lenOf_pos _ _ h0 (by unfold alnU;rw [hl];rfl),lenOf_le _ _,by omega,by omega,?_⟩
   rw [<- h1]
   split<;>omega
 ·rw [if_neg hl] at h
  by_cases hd:digU (r.headD 0)=true
  ·rw [if_pos hd] at h
   unfold numE at h
   by_cases hc:2147483647<val (r.take (lenOf digU r)) ∨ (1<lenOf digU r/\r.headD 0=48) ∨ letU (r.getD (lenOf digU r) 0)=true
   ·rw [if_pos hc] at h;cases h
   ·rw [if_neg hc] at h
    injection h with h;injection h with h1 h;injection h with h2 h3
    subst h2;subst h3;subst h1
    refine ⟨lenOf_pos _ _ h0 hd,lenOf_le _ _,by omega,?_,by omega,by omega⟩
    have:=fun hx=>hc (.inl hx)
    omega
  ·rw [if_neg hd] at h
   unfold sgnE at h
   by_cases hz:sgnLen r=0
   ·rw [if_pos hz] at h;cases h
   ·rw [if_neg hz] at h
    injection h with h;injection h with h1 h;injection h with h2 h3
    subst h2;subst h3;subst h1
    exact ⟨by omega,sgnLen_le r,by omega,by omega,by omega,by omega⟩
theorem wordE_err {r:List UInt8} {x:Int} (h:wordE r = .error x):x=2 ∨ x=3:=by
 unfold wordE at h
 split at h
 ·unfold nameE at h
  split at h
  ·injection h with h;omega
  ·cases h
 ·split at h
  ·unfold numE at h
   split at h
   ·injection h with h;omega
   ·cases h
  ·unfold sgnE at h
   split at h
   ·injection h with h;omega
   ·cases h
theorem go_gap {s:ByteArray} {f p:Nat} {acc:List Tok} {R:Except (Nat × Int) (List Tok)} (hp:p<s.size) (hg:gapU (s.data.toList.getD p 0)=true) (hf:s.size<=p+f) (h:lexGo s f p acc=R) :
 ∃ f',s.size<=(p+1)+f'/\lexGo s f' (p+1) acc=R:=by
 obtain ⟨f',rfl⟩:∃ f',f=f'+1:=⟨f-1,by omega⟩
 refine ⟨f',by omega,?_⟩
 rw [lexGo,if_pos hp,if_pos hg] at h
 exact h
theorem go_err {s:ByteArray} {f p:Nat} {acc:List Tok} {R:Except (Nat × Int) (List Tok)} {e:Int} (hp:p<s.size) (hg:gapU (s.data.toList.getD p 0)=false) (hw:wordE (s.data.toList.drop p) = .error e) (hf:s.size<=p+f) (h:lexGo s f p acc=R) :
 R = .error (p,e):=by
 obtain ⟨f',rfl⟩:∃ f',f=f'+1:=⟨f-1,by omega⟩
 rw [lexGo,if_pos hp,if_neg (by rw [hg];decide),hw] at h
 exact h.symm
theorem go_word {s:ByteArray} {f p:Nat} {acc:List Tok} {R:Except (Nat × Int) (List Tok)} {k:Int} {n:Nat} {m:Int} (hp:p<s.size) (hg:gapU (s.data.toList.getD p 0)=false) (hw:wordE (s.data.toList.drop p) = .ok (k,n,m)) (hf:s.size<=p+f) (hn:1<=n) (h:lexGo s f p acc=R) :
 ∃ f',s.size<=(p+n)+f'/\lexGo s f' (p+n) (acc++[⟨k,s.extract p (p+n),m,p⟩])=R:=by
 obtain ⟨f',rfl⟩:∃ f',f=f'+1:=⟨f-1,by omega⟩
 refine ⟨f',by omega,?_⟩
 rw [lexGo,if_pos hp,if_neg (by rw [hg];decide),hw] at h
 exact h
theorem go_end {s:ByteArray} {f p:Nat} {acc:List Tok} {R:Except (Nat × Int) (List Tok)} (hp:s.size<=p) (h:lexGo s f p acc=R):R = .ok acc:=by
 match f with
 | 0=>exact h.symm
 |f+1=>
  rw [lexGo,if_neg (by omega)] at h
  exact h.symm
def Run (pr:UInt8->Bool) (s:ByteArray) (p k:Nat):Prop:=p<=k/\k<=s.size/\∀ j,p<=j->j<k->pr (s.data.toList.getD j 0)=true
theorem getD_eq (s:ByteArray) (k:Nat) (h:k<s.size):s.data.toList.getD k 0=s[k]:=by
 rw [List.getD_eq_getElem?_getD,List.getElem?_eq_getElem (by simpa using h)]
 rfl
theorem Run.start {pr:UInt8->Bool} {s:ByteArray} {p:Nat} (h:p<=s.size):Run pr s p p:=⟨Nat.le_refl _,h,fun j h1 h2=>by omega⟩
theorem Run.step {pr:UInt8->Bool} {s:ByteArray} {p k:Nat} (h:Run pr s p k) (hk:k<s.size) (hp:pr s[k]=true):Run pr s p (k+1):=by
 refine ⟨by have:=h.1;omega,by omega,fun j h1 h2=>?_⟩
 by_cases e:j=k
 ·subst e;rw [getD_eq s j hk];exact hp
 ·exact h.2.2 j h1 (by omega)
theorem takeWhile_len (pr:UInt8->Bool):∀ (r:List UInt8) (n:Nat),n<=r.length->(∀ i,i<n->pr (r.getD i 0)=true)->(n<r.length->pr (r.getD n 0)=false)->(r.takeWhile pr).length=n:=by
 intro r
 induction r with
 |nil=>intro n h _ _;simp at h;simp [h]
 |cons a t ih=>
  intro n hn hall hstop
  match n with
  | 0=>
    have:pr a=false:=hstop (by simp)
    simp [this]
  |n+1=>
   have h0:pr a=true:=hall 0 (by omega)
   rw [List.takeWhile_cons,if_pos h0,List.length_cons,ih n (by simpa using hn) (fun i hi=>hall (i+1) (by omega)) (fun h=>hstop (by simpa using h))]
theorem getD_drop (l:List UInt8) (p i:Nat):(l.drop p).getD i 0=l.getD (p+i) 0:=by
 simp [List.getD_eq_getElem?_getD,List.getElem?_drop]
theorem Run.len {pr:UInt8->Bool} {s:ByteArray} {p k:Nat} (h:Run pr s p k) (hk:k<s.size->pr (s.data.toList.getD k 0)=false):lenOf pr (s.data.toList.drop p)=k-p:=by
 obtain ⟨h1,h2,h3⟩:=h
 have hl:s.data.toList.length=s.size:=by simp
 refine takeWhile_len pr _ (k-p) (by rw [List.length_drop];omega) (fun i hi=>?_) (fun hlt=>?_)
 ·rw [getD_drop];exact h3 _ (by omega) (by omega)
 ·rw [getD_drop,show p+(k-p)=k from by omega]
  rw [List.length_drop] at hlt
  exact hk (by omega)
theorem Run.le_len {pr:UInt8->Bool} {s:ByteArray} {p k:Nat} (h:Run pr s p k):k-p<=lenOf pr (s.data.toList.drop p):=by
 obtain ⟨h1,h2,h3⟩:=h
 have hl:s.data.toList.length=s.size:=by simp
 have key:∀ (r:List UInt8) (n:Nat),n<=r.length->(∀ i,i<n->pr (r.getD i 0)=true)->n<=(r.takeWhile pr).length:=by
  intro r
  induction r with
  |nil=>intro n h _;simpa using h
  |cons a t ih=>
   intro n hn hall
   match n with
   | 0=>omega
   |n+1=>
    have h0:pr a=true:=hall 0 (by omega)
    have:=ih n (by simpa using hn) (fun i hi=>hall (i+1) (by omega))
    rw [List.takeWhile_cons,if_pos h0,List.length_cons]
    omega
 exact key _ _ (by rw [List.length_drop];omega) (fun i hi=>by rw [getD_drop];exact h3 _ (by omega) (by omega))
theorem head_drop (l:List UInt8) (p:Nat):(l.drop p).headD 0=l.getD p 0:=by
 rw [List.headD_eq_head?_getD,List.head?_drop,List.getD_eq_getElem?_getD]
def vl (s:ByteArray) (p k:Nat):Nat:=val ((s.data.toList.drop p).take (k-p))
theorem val_snoc (ds:List UInt8) (d:UInt8):val (ds++[d])=10*val ds+(d.toNat-48):=by simp [val]
theorem val_app_le (a:List UInt8):∀ b:List UInt8,val a<=val (a++b):=by
 intro b
 induction b generalizing a with
 |nil=>simp
 |cons d t ih=>
  have h1:=ih (a++[d])
  rw [List.append_assoc,List.singleton_append] at h1
  have h2:=val_snoc a d
  omega
theorem vl_start (s:ByteArray) (p:Nat):vl s p p=0:=by simp [vl,val]
theorem vl_step (s:ByteArray) (p k:Nat) (hp:p<=k) (hk:k<s.size):vl s p (k+1)=10*vl s p k+(s[k].toNat-48):=by
 have hl:s.data.toList.length=s.size:=by simp
 unfold vl
 rw [show k+1-p=(k-p)+1 from by omega,List.take_succ_eq_append_getElem (by rw [List.length_drop];omega),val_snoc]
 have:(s.data.toList.drop p)[k-p]'(by rw [List.length_drop];omega)=s[k]:=by
  rw [List.getElem_drop]
  have e:p+(k-p)=k:=by omega
  simp only [e]
  rfl
 rw [this]
theorem vl_mono (s:ByteArray) (p k n:Nat) (h:k-p<=n):vl s p k<=val ((s.data.toList.drop p).take n):=by
 unfold vl
 have e:(s.data.toList.drop p).take n=(s.data.toList.drop p).take (k-p)++((s.data.toList.drop p).drop (k-p)).take (n-(k-p)):=by
  rw [<- List.take_add,show k-p+(n-(k-p))=n from by omega]
 rw [e]
 exact val_app_le _ _
end Go.Proofs.Ytbhbjhejkamlnaa
namespace Go.Proofs.Ytbhbjhejkamlnaa
open Go.RowKit
theorem gap_any (n:Int) (w:World):Calls Try.prog 34 #[.int .u8 n] w fun e w'=>e = .returned (.bool (gapB n))/\w=w':=by
 unfold gapB
 go_enter Try.func34,Try.ntmps34
 go_wp2
 all_goals
  go_ret
  exact ⟨by first |(simp [*];done) |(simp [*];omega),rfl⟩
theorem let_any (n:Int) (w:World):Calls Try.prog 61 #[.int .u8 n] w fun e w'=>e = .returned (.bool (letB n))/\w=w':=by
 unfold letB
 go_enter Try.func61,Try.ntmps61
 go_wp2
 all_goals
  go_ret
  exact ⟨by first |(simp [*];done) |(simp [*];omega),rfl⟩
theorem dig_any (n:Int) (w:World):Calls Try.prog 63 #[.int .u8 n] w fun e w'=>e = .returned (.bool (digB n))/\w=w':=by
 unfold digB
 go_enter Try.func63,Try.ntmps63
 go_wp2
 all_goals
  go_ret
  exact ⟨by first |(simp [*];done) |(simp [*];omega),rfl⟩
end Go.Proofs.Ytbhbjhejkamlnaa
namespace Go.Proofs.Ytbhbjhejkamlnaa
open Go.RowKit
set_option maxHeartbeats 1000000 in
theorem res_any (s:ByteArray) (w:World):Calls Try.prog 84 #[.string s] w fun e w'=>e = .returned (.bool (resB s.toList))/\w=w':=by
 unfold resB
 go_enter Try.func84,Try.ntmps84
 go_wp2
 all_goals
  go_ret
  refine ⟨?_,rfl⟩
  first |(simp [*];done) |(exfalso;simp_all;done)
theorem ret_i64 {a b:Int} (h:a=b):Ending.returned (.int .i64 a) = .returned (.int .i64 b):=by rw [h]
set_option maxHeartbeats 1000000 in
theorem sgn_one (s:ByteArray) (w:World) (h0:0<s.size) (h1:s.size<=1) :
 Calls Try.prog 65 #[.string s] w fun e w'=>e = .returned (.int .i64 (sgnB (s[0].toNat:Int) false))/\w=w':=by
 go_enter Try.func65,Try.ntmps65
 go_wp2
 all_goals
  go_ret
  refine ⟨ret_i64 ?_,rfl⟩
  simp only [beq_iff_eq,beq_eq_false_iff_ne,ne_eq] at *
  unfold sgnB
  simp [*]
set_option maxHeartbeats 2000000 in
theorem sgn_two (s:ByteArray) (w:World) (h0:0<s.size) (h1:1<s.size) :
 Calls Try.prog 65 #[.string s] w fun e w'=>e = .returned (.int .i64 (sgnB (s[0].toNat:Int) ((s[1].toNat:Int)==61)))/\w=w':=by
 rcases Bool.eq_false_or_eq_true ((s[1].toNat:Int)==61) with hp |hp
 all_goals
  rw [hp]
  go_enter Try.func65,Try.ntmps65
  go_wp2
  all_goals
   go_ret
   refine ⟨ret_i64 ?_,rfl⟩
   simp only [beq_iff_eq,beq_eq_false_iff_ne,ne_eq] at *
   unfold sgnB
   simp [*]
theorem sgn_any (s:ByteArray) (w:World) (h0:0<s.size) :
 Calls Try.prog 65 #[.string s] w fun e w'=>e = .returned (.int .i64 (sgnB (s[0].toNat:Int) (eqNext s.data.toList)))/\w=w':=by
 by_cases h1:1<s.size
 ·refine (sgn_two s w h0 h1).mono fun e w' ⟨he,hw⟩=>⟨he.trans ?_,hw⟩
  rw [eqNext_get s.data.toList (by simpa using h1)]
  rfl
 ·refine (sgn_one s w h0 (by omega)).mono fun e w' ⟨he,hw⟩=>⟨he.trans ?_,hw⟩
  rw [eqNext_short s.data.toList (by simp;omega)]
theorem info_u8:(Try.prog.info? 5).map (fun i=>(i.zero,i.size,i.bytes))=some (some (.int .u8 0),1,1):=by kernel_rfl
set_option maxHeartbeats 2000000 in
set_option maxRecDepth 100000 in
theorem slClone_any (s:ByteArray) (w:World) (hlim:s.size<=281474976710656) :
 Calls Try.prog 66 #[.string s] w fun e w'=>e = .returned (.string s)/\Below w.heap.size w w':=by
 by_cases h0:s.size=0
 ·have hs:s=⟨#[]⟩:=by
   apply ByteArray.ext
   exact Array.eq_empty_of_size_eq_zero h0
  subst hs
  go_enter Try.func66,Try.ntmps66
  go_wp2
  go_ret
  exact ⟨rfl,Below.refl _ _⟩
 ·obtain ⟨i0,hi,hz0,hz1,hz2⟩:=info_parts info_u8
  have hinfo:(Try.prog.info? 5).map (·.size)=some 1:=by rw [hi];simp [hz1]
  have hco:Try.prog.cellsOf 5=1:=by simp [Program.cellsOf,hi,hz1]
  obtain ⟨M,hM⟩:∃ M,M=madeCells (Value.int .u8 0).cells (((s.size:Nat):Int).toNat*i0.size):=⟨_,rfl⟩
  have hMs:M.size=s.size:=by rw [hM,size_madeCells,hz1];simp
  have hmk:∀ W:World,(Instr.makeSlice 41 (.int .i64 (s.size:Int)) (.int .i64 (s.size:Int))).run Try.prog W = .ok (.slice (some ⟨W.heap.size,0,none⟩) s.size s.size) (W.alloc (.cells M 5)):=fun W=>by
   have h:=run_make (P:=Try.prog) W 41 5 i0 (.int .u8 0) Try.underlying41 hi hz0 .i64 .i64 (s.size:Int) (s.size:Int) (by omega) (by omega) (by rw [hz2];omega) (by omega)
   rw [<- hM] at h
   simpa using h
  clear hM
  have hcp:=Lib.run_copy_row_string (P:=Try.prog) (w.alloc (.cells M 5)) 41 9 3 5 w.heap.size 0 s.size s.size s M 5 Try.underlying41 hinfo (heap_alloc_new w _) (Nat.le_refl _) (by omega)
  obtain ⟨Y,hY⟩:∃ Y,Y=(M.toList.take 0++Lib.byteCells s.data.toList++M.toList.drop (0+s.size)).toArray:=⟨_,rfl⟩
  rw [<- hY] at hcp
  have hYl:Y.toList=Lib.byteCells s.data.toList:=by
   rw [hY,List.toList_toArray,List.take_zero,List.nil_append,List.drop_of_length_le (by rw [Array.length_toList];omega),List.append_nil]
  have hYs:Y.size=s.size:=by rw [<- Array.length_toList,hYl,Lib.byteCells_length,<- Lib.size_eq]
  have hgY:((w.alloc (.cells M 5)).setRow w.heap.size Y).heap[w.heap.size]? = some (.cells Y 5 (0,0)):=setRow_heap _ _ M _ 5 (0,0) (heap_alloc_new w _)
  have hne:s.data.toList≠[]:=fun e=>h0 (by rw [Lib.size_eq,e];rfl)
  have hUS:=Lib.run_unsafeString_row (P:=Try.prog) ((w.alloc (.cells M 5)).setRow w.heap.size Y) 153 3 9 5 Try.underlying153 hco w.heap.size Y.size (by unfold World.shape?;rw [hgY]) s.data.toList hne (by rw [<- Lib.size_eq];omega) (by rw [<- Lib.size_eq];omega)
   (fun j x hx=>Lib.cells_of_row hgY Y.size j _ (by rw [List.take_of_length_le (by rw [Array.length_toList];exact Nat.le_refl _),hYl];simp [Lib.byteCells,hx]))
  rw [<- Lib.size_eq] at hUS
  clear hY
  go_enter Try.func66,Try.ntmps66
  go_wp2
  go_ret
  have hb1:Below w.heap.size w (w.alloc (.cells M 5)):=(Below.refl _ w).alloc (Nat.le_refl _) _
  have hb2:Below w.heap.size (w.alloc (.cells M 5)) ((w.alloc (.cells M 5)).setRow w.heap.size Y):=⟨rfl,rfl,rfl,by simp,fun k hk=>setRow_other _ _ _ _ (by omega)⟩
  exact ⟨rfl,Lib.below_freeze (hb1.trans hb2) (p:=⟨w.heap.size,0,none⟩) (Nat.le_refl _) _⟩
theorem clone_any (s:ByteArray) (w:World) (hlim:s.size<=281474976710656) :
 Calls Try.prog 36 #[.string s] w fun e w'=>e = .returned (.string s)/\Below w.heap.size w w':=by
 go_enter Try.func36,Try.ntmps36
 go_wp2_with (go_at_call 66;refine (slClone_any _ _ hlim).mono ?_;rintro e w1 ⟨rfl,hb⟩)
 go_ret
 exact ⟨rfl,hb⟩
end Go.Proofs.Ytbhbjhejkamlnaa
namespace Go.Proofs.Ytbhbjhejkamlnaa
open Go.RowKit
def wV (s:ByteArray) (p:Nat):Except Int (Int × Nat × Int)->Value
 | .error e=>.tuple #[.agg #[.int .i64 0,.string ⟨#[]⟩,.int .i64 0,.int .i64 0],.int .i64 e]
 | .ok (k,n,m)=>.tuple #[.agg #[.int .i64 k,.string (s.extract p (p+n)),.int .i64 m,.int .i64 p],.int .i64 0]
theorem ret_wV {s:ByteArray} {p:Nat} {x y:Except Int (Int × Nat × Int)} (h:x=y):Ending.returned (wV s p y) = .returned (wV s p x):=by rw [h]
theorem ret_wOk {s:ByteArray} {p n k:Nat} {kk m:Int} {x:Except Int (Int × Nat × Int)} (h:x = .ok (kk,n,m)) (hk:p+n=k):Ending.returned (.tuple #[.agg #[.int .i64 kk,.string (s.extract p k),.int .i64 m,.int .i64 p],.int .i64 0]) = .returned (wV s p x):=by
 rw [h,<- hk]
 rfl
set_option maxHeartbeats 4000000 in
theorem nameAt_any (s:ByteArray) (p:Nat) (w:World) (hs:s.size<=maxLen) (hp:p<s.size) :
 Calls Try.prog 62 #[.string s,.int .i64 p] w fun e w'=>e = .returned (wV s p (nameE (s.data.toList.drop p)))/\Below w.heap.size w w':=by
 unfold maxLen at hs
 go_enter Try.func62,Try.ntmps62
 go_wp2_with fail
 go_loop [6] (fun i=>∃ k:Nat,Run alnU s p k/\i = .int .i64 k) (fun i=>s.size-(intOf i).toNat)
 case atStart=>exact ⟨p,Run.start (by omega),rfl⟩
 case round=>
  obtain ⟨k,hk,rfl⟩:=hrel
  have hk1:=hk.1
  have hk2:=hk.2.1
  have hcase:(∃ h:k<s.size,letB (s[k].toNat:Int)=true) ∨ (∃ h:k<s.size,letB (s[k].toNat:Int)=false/\digB (s[k].toNat:Int)=true) ∨ (∃ h:k<s.size,letB (s[k].toNat:Int)=false/\digB (s[k].toNat:Int)=false) ∨ s.size<=k:=by
   by_cases hlt:k<s.size
   ·rcases Bool.eq_false_or_eq_true (letB (s[k].toNat:Int)) with hl |hl
    ·exact .inl ⟨hlt,hl⟩
    ·rcases Bool.eq_false_or_eq_true (digB (s[k].toNat:Int)) with hd |hd
     ·exact .inr (.inl ⟨hlt,hl,hd⟩)
     ·exact .inr (.inr (.inl ⟨hlt,hl,hd⟩))
   ·exact .inr (.inr (.inr (by omega)))
  rcases hcase with ⟨hlt,hl⟩ |⟨hlt,hl,hd⟩ |hcase
  ·go_wp2_with (first |(go_at_call 61;refine (let_any _ _).mono ?_;rintro e w' ⟨rfl,rfl⟩) |(go_at_call 63;refine (dig_any _ _).mono ?_;rintro e w' ⟨rfl,rfl⟩))
   go_round
   case rel=>exact ⟨k+1,hk.step hlt (by simp [alnU,letU,hl]),by go_num⟩
   case measure=>simp [intOf];omega
  ·go_wp2_with (first |(go_at_call 61;refine (let_any _ _).mono ?_;rintro e w' ⟨rfl,rfl⟩) |(go_at_call 63;refine (dig_any _ _).mono ?_;rintro e w' ⟨rfl,rfl⟩))
   go_round
   case rel=>exact ⟨k+1,hk.step hlt (by simp [alnU,digU,hd]),by go_num⟩
   case measure=>simp [intOf];omega
  ·have hn:lenOf alnU (s.data.toList.drop p)=k-p:=by
    rcases hcase with ⟨hlt,hl,hd⟩ |hge
    ·exact hk.len (fun h=>by rw [getD_eq s k h];simp [alnU,letU,digU,hl,hd])
    ·exact hk.len (fun h=>absurd h (by omega))
   by_cases h12:12<k-p
   ·have Hfin:=Lib.hid (show nameE (s.data.toList.drop p) = .error 3 by unfold nameE;rw [hn,if_pos h12])
    clear hn
    rcases hcase with ⟨hlt,hl,hd⟩ |hge
    all_goals
     go_wp2_with (first |(go_at_call 61;refine (let_any _ _).mono ?_;rintro e w' ⟨rfl,rfl⟩) |(go_at_call 63;refine (dig_any _ _).mono ?_;rintro e w' ⟨rfl,rfl⟩))
     exact bodyPost_ret (v:=.tuple #[.agg #[.int .i64 0,.string ⟨#[]⟩,.int .i64 0,.int .i64 0],.int .i64 3]) (by simp [results,Try.results62,go_sem]) rfl ⟨ret_wV Hfin.out,(Below.refl _ _).alloc (Nat.le_refl _) _⟩
   ·have ht:(s.extract p k).toList=(s.data.toList.drop p).take (k-p):=Lib.extract_toList s p k
    rcases Bool.eq_false_or_eq_true (resB (s.extract p k).toList) with hr |hr
    ·have Hfin:=Lib.hid (show nameE (s.data.toList.drop p) = .ok (4,k-p,0) by unfold nameE;rw [hn,if_neg h12,<- ht,if_pos hr])
     clear hn ht
     rcases hcase with ⟨hlt,hl,hd⟩ |hge
     all_goals
      go_wp2_with (first |(go_at_call 61;refine (let_any _ _).mono ?_;rintro e w' ⟨rfl,rfl⟩) |(go_at_call 63;refine (dig_any _ _).mono ?_;rintro e w' ⟨rfl,rfl⟩) |(go_at_call 84;refine (res_any _ _).mono ?_;rintro e w' ⟨rfl,rfl⟩))
      exact bodyPost_ret (v:=.tuple #[.agg #[.int .i64 4,.string (s.extract p k),.int .i64 0,.int .i64 p],.int .i64 0]) (by simp [results,Try.results62,go_sem]) rfl ⟨ret_wOk Hfin.out (by omega),((Below.refl _ _).alloc (Nat.le_refl _) _).alloc (by simp) _⟩
    ·have Hfin:=Lib.hid (show nameE (s.data.toList.drop p) = .ok (1,k-p,0) by unfold nameE;rw [hn,if_neg h12,<- ht,if_neg (by rw [hr];decide)])
     clear hn ht
     rcases hcase with ⟨hlt,hl,hd⟩ |hge
     all_goals
      go_wp2_with (first |(go_at_call 61;refine (let_any _ _).mono ?_;rintro e w' ⟨rfl,rfl⟩) |(go_at_call 63;refine (dig_any _ _).mono ?_;rintro e w' ⟨rfl,rfl⟩) |(go_at_call 84;refine (res_any _ _).mono ?_;rintro e w' ⟨rfl,rfl⟩))
      exact bodyPost_ret (v:=.tuple #[.agg #[.int .i64 1,.string (s.extract p k),.int .i64 0,.int .i64 p],.int .i64 0]) (by simp [results,Try.results62,go_sem]) rfl ⟨ret_wOk Hfin.out (by omega),((Below.refl _ _).alloc (Nat.le_refl _) _).alloc (by simp) _⟩
set_option maxHeartbeats 4000000 in
theorem numAt_any (s:ByteArray) (p:Nat) (w:World) (hs:s.size<=maxLen) (hp:p<s.size) :
 Calls Try.prog 64 #[.string s,.int .i64 p] w fun e w'=>e = .returned (wV s p (numE (s.data.toList.drop p)))/\Below w.heap.size w w':=by
 unfold maxLen at hs
 go_enter Try.func64,Try.ntmps64
 go_wp2_with fail
 go_loop [6,7] (fun i m=>∃ k v:Nat,Run digU s p k/\vl s p k=v/\v<=2147483647/\i = .int .i64 k/\m = .int .i64 v) (fun i _=>s.size-(intOf i).toNat)
 case atStart=>exact ⟨p,0,Run.start (by omega),vl_start s p,by omega,rfl,rfl⟩
 case round=>
  obtain ⟨k,v,hk,hv,hv1,rfl,rfl⟩:=hrel
  have hk1:=hk.1
  have hk2:=hk.2.1
  have Hv:=Lib.hid hv
  clear hv
  by_cases hin:∃ h:k<s.size,digB (s[k].toNat:Int)=true
  ·obtain ⟨hlt,hd⟩:=hin
   have hd1:48<=(s[k].toNat:Int)/\(s[k].toNat:Int)<=57:=by simpa [digB] using hd
   obtain ⟨hd1,hd2⟩:=hd1
   have hst:=vl_step s p k hk1 hlt
   rw [Hv.out] at hst
   have hrun:=hk.step hlt (show digU s[k]=true from hd)
   by_cases hbig:2147483647<10*(v:Int)+((s[k].toNat:Int)-48)
   ·have hfin:numE (s.data.toList.drop p) = .error 3:=by
     have h1:=vl_mono s p (k+1) (lenOf digU (s.data.toList.drop p)) hrun.le_len
     have h2:2147483647<val ((s.data.toList.drop p).take (lenOf digU (s.data.toList.drop p))):=by omega
     unfold numE
     rw [if_pos (.inl h2)]
    have Hfin:=Lib.hid hfin
    clear hfin hst
    go_wp2_with (go_at_call 63;refine (dig_any _ _).mono ?_;rintro e w' ⟨rfl,rfl⟩)
    exact bodyPost_ret (v:=.tuple #[.agg #[.int .i64 0,.string ⟨#[]⟩,.int .i64 0,.int .i64 0],.int .i64 3]) (by simp [results,Try.results64,go_sem]) rfl ⟨ret_wV Hfin.out,(Below.refl _ _).alloc (Nat.le_refl _) _⟩
   ·have Hst:=Lib.hid hst
    clear hst
    go_wp2_with (go_at_call 63;refine (dig_any _ _).mono ?_;rintro e w' ⟨rfl,rfl⟩)
    go_round
    case rel=>exact ⟨k+1,10*v+(s[k].toNat-48),hrun,Hst.out,by omega,by go_num,by go_num⟩
    case measure=>simp [intOf];omega
  ·have hcase:(∃ h:k<s.size,digB (s[k].toNat:Int)=false/\letB (s[k].toNat:Int)=true) ∨ (∃ h:k<s.size,digB (s[k].toNat:Int)=false/\letB (s[k].toNat:Int)=false) ∨ s.size<=k:=by
    by_cases hlt:k<s.size
    ·rcases Bool.eq_false_or_eq_true (digB (s[k].toNat:Int)) with hd |hd
     ·exact absurd ⟨hlt,hd⟩ hin
     ·rcases Bool.eq_false_or_eq_true (letB (s[k].toNat:Int)) with hl |hl
      ·exact .inl ⟨hlt,hd,hl⟩
      ·exact .inr (.inl ⟨hlt,hd,hl⟩)
    ·exact .inr (.inr (by omega))
   clear hin
   have hn:lenOf digU (s.data.toList.drop p)=k-p:=by
    rcases hcase with ⟨hlt,hd,_⟩ |⟨hlt,hd,_⟩ |hge
    ·exact hk.len (fun h=>by rw [getD_eq s k h];exact hd)
    ·exact hk.len (fun h=>by rw [getD_eq s k h];exact hd)
    ·exact hk.len (fun h=>absurd h (by omega))
   have hval:val ((s.data.toList.drop p).take (k-p))=v:=Hv.out
   have hhd:(s.data.toList.drop p).headD 0=s[p]:=by rw [head_drop,getD_eq s p hp]
   have h48:∀ b:UInt8,b=48↔((b.toNat:Int)==48)=true:=fun b=>by
    rw [beq_iff_eq]
    constructor
    ·rintro rfl;rfl
    ·intro h;exact UInt8.toNat_inj.1 (by show b.toNat=48;omega)
   by_cases hz:((s[p].toNat:Int)==48)=true/\1<k-p
   ·obtain ⟨hz1,hz2⟩:=hz
    have Hfin:=Lib.hid (show numE (s.data.toList.drop p) = .error 3 by
     unfold numE
     rw [hn,if_pos (.inr (.inl ⟨hz2,by rw [hhd];exact (h48 _).2 hz1⟩))])
    clear hn hval hhd h48
    rcases hcase with ⟨hlt,hd,_⟩ |⟨hlt,hd,_⟩ |hge
    all_goals
     go_wp2_with (first |(go_at_call 61;refine (let_any _ _).mono ?_;rintro e w' ⟨rfl,rfl⟩) |(go_at_call 63;refine (dig_any _ _).mono ?_;rintro e w' ⟨rfl,rfl⟩))
     exact bodyPost_ret (v:=.tuple #[.agg #[.int .i64 0,.string ⟨#[]⟩,.int .i64 0,.int .i64 0],.int .i64 3]) (by simp [results,Try.results64,go_sem]) rfl ⟨ret_wV Hfin.out,(Below.refl _ _).alloc (Nat.le_refl _) _⟩
   ·have hz':((s[p].toNat:Int)==48)=false ∨ (((s[p].toNat:Int)==48)=true/\k-p<=1):=by
     rcases Bool.eq_false_or_eq_true ((s[p].toNat:Int)==48) with h |h
     ·exact .inr ⟨h,by have:¬ 1<k-p:=fun hx=>hz ⟨h,hx⟩;omega⟩
     ·exact .inl h
    have hnz:¬ (1<k-p/\(s.data.toList.drop p).headD 0=48):=fun hx=>hz ⟨(h48 _).1 (by rw [<- hhd];exact hx.2),hx.1⟩
    have hgk:(s.data.toList.drop p).getD (k-p) 0=s.data.toList.getD k 0:=by rw [getD_drop,show p+(k-p)=k from by omega]
    clear hz h48 hhd
    rcases hcase with ⟨hlt,hd,hl⟩ |hcase
    ·have Hfin:=Lib.hid (show numE (s.data.toList.drop p) = .error 3 by
      unfold numE
      rw [hn,if_pos (.inr (.inr (by rw [hgk,getD_eq s k hlt];exact hl)))])
     clear hn hval hnz hgk
     rcases hz' with hz1 |⟨hz1,hz2⟩
     all_goals
      go_wp2_with (first |(go_at_call 61;refine (let_any _ _).mono ?_;rintro e w' ⟨rfl,rfl⟩) |(go_at_call 63;refine (dig_any _ _).mono ?_;rintro e w' ⟨rfl,rfl⟩))
      exact bodyPost_ret (v:=.tuple #[.agg #[.int .i64 0,.string ⟨#[]⟩,.int .i64 0,.int .i64 0],.int .i64 3]) (by simp [results,Try.results64,go_sem]) rfl ⟨ret_wV Hfin.out,(Below.refl _ _).alloc (Nat.le_refl _) _⟩
    ·have hnl:¬ letU ((s.data.toList.drop p).getD (k-p) 0)=true:=by
      rw [hgk]
      rcases hcase with ⟨hlt,hd,hl⟩ |hge
      ·rw [getD_eq s k hlt];show ¬ letB _=true;rw [hl];decide
      ·rw [List.getD_eq_getElem?_getD,List.getElem?_eq_none (by simpa using hge)];decide
     have Hfin:=Lib.hid (show numE (s.data.toList.drop p) = .ok (2,k-p,(v:Int)) by
      unfold numE
      rw [hn,hval,if_neg (fun h=>h.elim (fun h=>by omega) (fun h=>h.elim hnz hnl))])
     clear hn hval hnz hgk hnl
     rcases hcase with ⟨hlt,hd,hl⟩ |hge
     all_goals
      rcases hz' with hz1 |⟨hz1,hz2⟩
      all_goals
       go_wp2_with (first |(go_at_call 61;refine (let_any _ _).mono ?_;rintro e w' ⟨rfl,rfl⟩) |(go_at_call 63;refine (dig_any _ _).mono ?_;rintro e w' ⟨rfl,rfl⟩))
       exact bodyPost_ret (v:=.tuple #[.agg #[.int .i64 2,.string (s.extract p k),.int .i64 v,.int .i64 p],.int .i64 0]) (by simp [results,Try.results64,go_sem]) rfl ⟨ret_wOk Hfin.out (by omega),(Below.refl _ _).alloc (Nat.le_refl _) _⟩
end Go.Proofs.Ytbhbjhejkamlnaa
namespace Go.Proofs.Ytbhbjhejkamlnaa
open Go.RowKit
theorem nameAt_err (s:ByteArray) (p:Nat) (w:World) (hs:s.size<=maxLen) (hp:p<s.size) {x:Int} (h:nameE (s.data.toList.drop p) = .error x) :
 Calls Try.prog 62 #[.string s,.int .i64 p] w fun e w'=>e = .returned (.tuple #[.agg #[.int .i64 0,.string ⟨#[]⟩,.int .i64 0,.int .i64 0],.int .i64 x])/\Below w.heap.size w w':=
 (nameAt_any s p w hs hp).mono fun e w' ⟨he,hb⟩=>⟨by rw [he,h];rfl,hb⟩
theorem nameAt_ok (s:ByteArray) (p:Nat) (w:World) (hs:s.size<=maxLen) (hp:p<s.size) {k m:Int} {n:Nat} {T:ByteArray} (hT:s.extract p (p+n)=T) (h:nameE (s.data.toList.drop p) = .ok (k,n,m)) :
 Calls Try.prog 62 #[.string s,.int .i64 p] w fun e w'=>e = .returned (.tuple #[.agg #[.int .i64 k,.string T,.int .i64 m,.int .i64 p],.int .i64 0])/\Below w.heap.size w w':=
 (nameAt_any s p w hs hp).mono fun e w' ⟨he,hb⟩=>⟨by rw [he,h,<- hT];rfl,hb⟩
theorem numAt_err (s:ByteArray) (p:Nat) (w:World) (hs:s.size<=maxLen) (hp:p<s.size) {x:Int} (h:numE (s.data.toList.drop p) = .error x) :
 Calls Try.prog 64 #[.string s,.int .i64 p] w fun e w'=>e = .returned (.tuple #[.agg #[.int .i64 0,.string ⟨#[]⟩,.int .i64 0,.int .i64 0],.int .i64 x])/\Below w.heap.size w w':=
 (numAt_any s p w hs hp).mono fun e w' ⟨he,hb⟩=>⟨by rw [he,h];rfl,hb⟩
theorem numAt_ok (s:ByteArray) (p:Nat) (w:World) (hs:s.size<=maxLen) (hp:p<s.size) {k m:Int} {n:Nat} {T:ByteArray} (hT:s.extract p (p+n)=T) (h:numE (s.data.toList.drop p) = .ok (k,n,m)) :
 Calls Try.prog 64 #[.string s,.int .i64 p] w fun e w'=>e = .returned (.tuple #[.agg #[.int .i64 k,.string T,.int .i64 m,.int .i64 p],.int .i64 0])/\Below w.heap.size w w':=
 (numAt_any s p w hs hp).mono fun e w' ⟨he,hb⟩=>⟨by rw [he,h,<- hT];rfl,hb⟩
theorem data_from (s:ByteArray) (p:Nat):(s.extract p s.size).data.toList=s.data.toList.drop p:=by
 rw [Lib.extract_data,List.take_of_length_le]
 simp
theorem sgn_at (s:ByteArray) (p:Nat) (w:World) (hp:p<s.size) {n:Nat} (hn:sgnLen (s.data.toList.drop p)=n) :
 Calls Try.prog 65 #[.string (s.extract p s.size)] w fun e w'=>e = .returned (.int .i64 n)/\w=w':=by
 have h0:0<(s.extract p s.size).size:=by simp;omega
 refine (sgn_any (s.extract p s.size) w h0).mono fun e w' ⟨he,hb⟩=>⟨he.trans (ret_i64 ?_),hb⟩
 rw [<- hn,<- data_from]
 unfold sgnLen
 congr 2
 rw [List.headD_eq_head?_getD,List.head?_eq_getElem?,List.getElem?_eq_getElem (by simpa using h0)]
 rfl
theorem bcell {W w1:World} (hb:Below W.heap.size W w1):(∀ b o,b<W.heap.size->w1.cell? ⟨b,o,none⟩=W.cell? ⟨b,o,none⟩)/\(∀ b o,b<W.heap.size->w1.frozen? ⟨b,o,none⟩=W.frozen? ⟨b,o,none⟩):=
 ⟨fun b o h=>hb.cell (p:=⟨b,o,none⟩) h,fun b o h=>hb.frozen (p:=⟨b,o,none⟩) h⟩
set_option maxHeartbeats 2000000 in
theorem wordAt_name_err (s:ByteArray) (p:Nat) (w:World) (hs:s.size<=maxLen) (hp:p<s.size) (hl:letB (s[p].toNat:Int)=true) {x:Int} (hx:nameE (s.data.toList.drop p) = .error x) :
 Calls Try.prog 35 #[.string s,.int .i64 p] w fun e w'=>e = .returned (.tuple #[.agg #[.int .i64 0,.string ⟨#[]⟩,.int .i64 0,.int .i64 0],.int .i64 x])/\Below w.heap.size w w':=by
 have Hx:=Lib.hid hx
 clear hx
 have hs':=hs
 unfold maxLen at hs
 go_enter Try.func35,Try.ntmps35
 go_wp2_with (first |(go_at_call 61;refine (let_any _ _).mono ?_;rintro e w' ⟨rfl,rfl⟩) |(go_at_call 63;refine (dig_any _ _).mono ?_;rintro e w' ⟨rfl,rfl⟩))
 refine (nameAt_err s p _ hs' hp Hx.out).mono ?_
 rintro e w1 ⟨rfl,hb⟩
 obtain ⟨hc,hf⟩:=bcell hb
 have hz:w.heap.size<w1.heap.size:=by have:=hb.size;simp at this;omega
 go_wp2
 exact bodyPost_ret (v:=.tuple #[.agg #[.int .i64 0,.string ⟨#[]⟩,.int .i64 0,.int .i64 0],.int .i64 x]) (by simp [results,Try.results35,go_sem,hc]) rfl ⟨rfl,(((((Below.refl _ _).alloc (Nat.le_refl _) _).trans (hb.mono (by simp))).setCell (by simp) _).setCell (by simp) _).setCell (by simp) _ |>.setCell (by simp) _⟩
set_option maxHeartbeats 2000000 in
theorem wordAt_name_ok (s:ByteArray) (p:Nat) (w:World) (hs:s.size<=maxLen) (hp:p<s.size) (hl:letB (s[p].toNat:Int)=true) {k m:Int} {n:Nat} {T:ByteArray} (hT:s.extract p (p+n)=T) (hx:nameE (s.data.toList.drop p) = .ok (k,n,m)) :
 Calls Try.prog 35 #[.string s,.int .i64 p] w fun e w'=>e = .returned (.tuple #[.agg #[.int .i64 k,.string T,.int .i64 m,.int .i64 p],.int .i64 0])/\Below w.heap.size w w':=by
 have Hx:=Lib.hid hx
 clear hx
 have HT:=Lib.hid hT
 clear hT
 have hs':=hs
 unfold maxLen at hs
 go_enter Try.func35,Try.ntmps35
 go_wp2_with (first |(go_at_call 61;refine (let_any _ _).mono ?_;rintro e w' ⟨rfl,rfl⟩) |(go_at_call 63;refine (dig_any _ _).mono ?_;rintro e w' ⟨rfl,rfl⟩))
 refine (nameAt_ok s p _ hs' hp HT.out Hx.out).mono ?_
 rintro e w1 ⟨rfl,hb⟩
 obtain ⟨hc,hf⟩:=bcell hb
 have hz:w.heap.size<w1.heap.size:=by have:=hb.size;simp at this;omega
 go_wp2
 exact bodyPost_ret (v:=.tuple #[.agg #[.int .i64 k,.string T,.int .i64 m,.int .i64 p],.int .i64 0]) (by simp [results,Try.results35,go_sem,hc]) rfl ⟨rfl,(((((Below.refl _ _).alloc (Nat.le_refl _) _).trans (hb.mono (by simp))).setCell (by simp) _).setCell (by simp) _).setCell (by simp) _ |>.setCell (by simp) _⟩
set_option maxHeartbeats 2000000 in
theorem wordAt_num_err (s:ByteArray) (p:Nat) (w:World) (hs:s.size<=maxLen) (hp:p<s.size) (hl:letB (s[p].toNat:Int)=false) (hd:digB (s[p].toNat:Int)=true) {x:Int} (hx:numE (s.data.toList.drop p) = .error x) :
 Calls Try.prog 35 #[.string s,.int .i64 p] w fun e w'=>e = .returned (.tuple #[.agg #[.int .i64 0,.string ⟨#[]⟩,.int .i64 0,.int .i64 0],.int .i64 x])/\Below w.heap.size w w':=by
 have Hx:=Lib.hid hx
 clear hx
 have hs':=hs
 unfold maxLen at hs
 go_enter Try.func35,Try.ntmps35
 go_wp2_with (first |(go_at_call 61;refine (let_any _ _).mono ?_;rintro e w' ⟨rfl,rfl⟩) |(go_at_call 63;refine (dig_any _ _).mono ?_;rintro e w' ⟨rfl,rfl⟩))
 refine (numAt_err s p _ hs' hp Hx.out).mono ?_
 rintro e w1 ⟨rfl,hb⟩
 obtain ⟨hc,hf⟩:=bcell hb
 have hz:w.heap.size<w1.heap.size:=by have:=hb.size;simp at this;omega
 go_wp2
 exact bodyPost_ret (v:=.tuple #[.agg #[.int .i64 0,.string ⟨#[]⟩,.int .i64 0,.int .i64 0],.int .i64 x]) (by simp [results,Try.results35,go_sem,hc]) rfl ⟨rfl,(((((Below.refl _ _).alloc (Nat.le_refl _) _).trans (hb.mono (by simp))).setCell (by simp) _).setCell (by simp) _).setCell (by simp) _ |>.setCell (by simp) _⟩
set_option maxHeartbeats 2000000 in
theorem wordAt_num_ok (s:ByteArray) (p:Nat) (w:World) (hs:s.size<=maxLen) (hp:p<s.size) (hl:letB (s[p].toNat:Int)=false) (hd:digB (s[p].toNat:Int)=true) {k m:Int} {n:Nat} {T:ByteArray} (hT:s.extract p (p+n)=T) (hx:numE (s.data.toList.drop p) = .ok (k,n,m)) :
 Calls Try.prog 35 #[.string s,.int .i64 p] w fun e w'=>e = .returned (.tuple #[.agg #[.int .i64 k,.string T,.int .i64 m,.int .i64 p],.int .i64 0])/\Below w.heap.size w w':=by
 have Hx:=Lib.hid hx
 clear hx
 have HT:=Lib.hid hT
 clear hT
 have hs':=hs
 unfold maxLen at hs
 go_enter Try.func35,Try.ntmps35
 go_wp2_with (first |(go_at_call 61;refine (let_any _ _).mono ?_;rintro e w' ⟨rfl,rfl⟩) |(go_at_call 63;refine (dig_any _ _).mono ?_;rintro e w' ⟨rfl,rfl⟩))
 refine (numAt_ok s p _ hs' hp HT.out Hx.out).mono ?_
 rintro e w1 ⟨rfl,hb⟩
 obtain ⟨hc,hf⟩:=bcell hb
 have hz:w.heap.size<w1.heap.size:=by have:=hb.size;simp at this;omega
 go_wp2
 exact bodyPost_ret (v:=.tuple #[.agg #[.int .i64 k,.string T,.int .i64 m,.int .i64 p],.int .i64 0]) (by simp [results,Try.results35,go_sem,hc]) rfl ⟨rfl,(((((Below.refl _ _).alloc (Nat.le_refl _) _).trans (hb.mono (by simp))).setCell (by simp) _).setCell (by simp) _).setCell (by simp) _ |>.setCell (by simp) _⟩
set_option maxHeartbeats 2000000 in
theorem wordAt_sgn_err (s:ByteArray) (p:Nat) (w:World) (hs:s.size<=maxLen) (hp:p<s.size) (hl:letB (s[p].toNat:Int)=false) (hd:digB (s[p].toNat:Int)=false) (hx:sgnLen (s.data.toList.drop p)=0) :
 Calls Try.prog 35 #[.string s,.int .i64 p] w fun e w'=>e = .returned (.tuple #[.agg #[.int .i64 0,.string ⟨#[]⟩,.int .i64 0,.int .i64 0],.int .i64 2])/\Below w.heap.size w w':=by
 have Hx:=Lib.hid hx
 clear hx
 have hs1:=hs
 clear hs
 unfold maxLen at hs1
 go_enter Try.func35,Try.ntmps35
 go_wp2_with (first |(go_at_call 61;refine (let_any _ _).mono ?_;rintro e w' ⟨rfl,rfl⟩) |(go_at_call 63;refine (dig_any _ _).mono ?_;rintro e w' ⟨rfl,rfl⟩))
 refine (sgn_at s p _ hp Hx.out).mono ?_
 rintro e w1 ⟨rfl,rfl⟩
 go_wp2
 exact bodyPost_ret (v:=.tuple #[.agg #[.int .i64 0,.string ⟨#[]⟩,.int .i64 0,.int .i64 0],.int .i64 2]) (by simp [results,Try.results35,go_sem]) rfl ⟨rfl,(Below.refl _ _).alloc (Nat.le_refl _) _⟩
set_option maxHeartbeats 2000000 in
theorem wordAt_sgn_ok (s:ByteArray) (p:Nat) (w:World) (hs:s.size<=maxLen) (hp:p<s.size) (hl:letB (s[p].toNat:Int)=false) (hd:digB (s[p].toNat:Int)=false) {n:Nat} (hn:1<=n) (hpn:p+n<=s.size) {T:ByteArray} (hT:s.extract p (p+n)=T) (hx:sgnLen (s.data.toList.drop p)=n) :
 Calls Try.prog 35 #[.string s,.int .i64 p] w fun e w'=>e = .returned (.tuple #[.agg #[.int .i64 3,.string T,.int .i64 0,.int .i64 p],.int .i64 0])/\Below w.heap.size w w':=by
 have Hx:=Lib.hid hx
 clear hx
 have hnz:((n:Int)==0)=false:=by rw [beq_eq_false_iff_ne];omega
 unfold maxLen at hs
 go_enter Try.func35,Try.ntmps35
 go_wp2_with (first |(go_at_call 61;refine (let_any _ _).mono ?_;rintro e w' ⟨rfl,rfl⟩) |(go_at_call 63;refine (dig_any _ _).mono ?_;rintro e w' ⟨rfl,rfl⟩))
 refine (sgn_at s p _ hp Hx.out).mono ?_
 rintro e w1 ⟨rfl,rfl⟩
 go_wp2
 exact bodyPost_ret (v:=.tuple #[.agg #[.int .i64 3,.string T,.int .i64 0,.int .i64 p],.int .i64 0]) (by simp [results,Try.results35,go_sem]) rfl ⟨rfl,(Below.refl _ _).alloc (Nat.le_refl _) _⟩
theorem wordAt_err (s:ByteArray) (p:Nat) (w:World) (hs:s.size<=maxLen) (hp:p<s.size) {x:Int} (h:wordE (s.data.toList.drop p) = .error x) :
 Calls Try.prog 35 #[.string s,.int .i64 p] w fun e w'=>e = .returned (.tuple #[.agg #[.int .i64 0,.string ⟨#[]⟩,.int .i64 0,.int .i64 0],.int .i64 x])/\Below w.heap.size w w':=by
 have hh:(s.data.toList.drop p).headD 0=s[p]:=by rw [head_drop,getD_eq s p hp]
 unfold wordE at h
 rw [hh] at h
 rcases Bool.eq_false_or_eq_true (letB (s[p].toNat:Int)) with hl |hl
 ·rw [if_pos (show letU s[p]=true from hl)] at h
  exact wordAt_name_err s p w hs hp hl h
 ·rw [if_neg (show ¬ letU s[p]=true by show ¬ letB _=true;rw [hl];decide)] at h
  rcases Bool.eq_false_or_eq_true (digB (s[p].toNat:Int)) with hd |hd
  ·rw [if_pos (show digU s[p]=true from hd)] at h
   exact wordAt_num_err s p w hs hp hl hd h
  ·rw [if_neg (show ¬ digU s[p]=true by show ¬ digB _=true;rw [hd];decide)] at h
   unfold sgnE at h
   by_cases hz:sgnLen (s.data.toList.drop p)=0
   ·rw [if_pos hz] at h
    injection h with h
    subst h
    exact wordAt_sgn_err s p w hs hp hl hd hz
   ·rw [if_neg hz] at h;cases h
theorem wordAt_ok (s:ByteArray) (p:Nat) (w:World) (hs:s.size<=maxLen) (hp:p<s.size) {k m:Int} {n:Nat} {T:ByteArray} (hT:s.extract p (p+n)=T) (h:wordE (s.data.toList.drop p) = .ok (k,n,m)) :
 Calls Try.prog 35 #[.string s,.int .i64 p] w fun e w'=>e = .returned (.tuple #[.agg #[.int .i64 k,.string T,.int .i64 m,.int .i64 p],.int .i64 0])/\Below w.heap.size w w':=by
 have hh:(s.data.toList.drop p).headD 0=s[p]:=by rw [head_drop,getD_eq s p hp]
 have hlen:(s.data.toList.drop p).length=s.size-p:=by simp
 have hok:=wordE_ok (by rw [hlen];omega) h
 rw [hlen] at hok
 unfold wordE at h
 rw [hh] at h
 rcases Bool.eq_false_or_eq_true (letB (s[p].toNat:Int)) with hl |hl
 ·rw [if_pos (show letU s[p]=true from hl)] at h
  exact wordAt_name_ok s p w hs hp hl hT h
 ·rw [if_neg (show ¬ letU s[p]=true by show ¬ letB _=true;rw [hl];decide)] at h
  rcases Bool.eq_false_or_eq_true (digB (s[p].toNat:Int)) with hd |hd
  ·rw [if_pos (show digU s[p]=true from hd)] at h
   exact wordAt_num_ok s p w hs hp hl hd hT h
  ·rw [if_neg (show ¬ digU s[p]=true by show ¬ digB _=true;rw [hd];decide)] at h
   unfold sgnE at h
   by_cases hz:sgnLen (s.data.toList.drop p)=0
   ·rw [if_pos hz] at h;cases h
   ·rw [if_neg hz] at h
    injection h with h;injection h with h1 h;injection h with h2 h3
    subst h1;subst h3
    exact wordAt_sgn_ok s p w hs hp hl hd hok.1 (by omega) hT h2
end Go.Proofs.Ytbhbjhejkamlnaa
namespace Go.Proofs.Ytbhbjhejkamlnaa
open Go.RowKit
def tcells (ts:List Tok):List Value:=ts.flatMap fun t=>[.int .i64 t.kind,.string t.text,.int .i64 t.num,.int .i64 t.pos]
theorem tcells_snoc (ts:List Tok) (t:Tok):tcells (ts++[t])=tcells ts++[.int .i64 t.kind,.string t.text,.int .i64 t.num,.int .i64 t.pos]:=by simp [tcells]
theorem own_below {B base:Nat} {e:TypeId} {size n:Nat} {v:Value} {xs:List Value} {w w':World} (h:w.ownsRow base e size v n xs) (hb:Below B w w') (hB:∀ g,v.ownBlock=some g->g<B):w'.ownsRow base e size v n xs:=by
 refine ⟨h.1,?_⟩
 rcases h.2 with h0 |⟨g,cap,cur,rfl,hg,hh,h1⟩
 ·exact .inl h0
 ·exact .inr ⟨g,cap,cur,rfl,hg,(hb.block g (hB g rfl)).trans hh,h1⟩
theorem own_later {base:Nat} {e:TypeId} {size n:Nat} {v:Value} {xs:List Value} {w w':World} (h:w.ownsRow base e size v n xs) (hb:Below w.heap.size w w'):w'.ownsRow base e size v n xs:=
 own_below h hb fun g hg=>(h.lt g hg).2
theorem below_new {B:Nat} {a w:World} (h:Below B a w) (hB:B<=a.heap.size) (o:Obj):Below B a (w.alloc o):=h.alloc (Nat.le_trans hB h.size) o
theorem own_form {base:Nat} {e:TypeId} {size n:Nat} {v:Value} {xs:List Value} {w:World} (h:w.ownsRow base e size v n xs) (hn:0<n):∃ g cap,v = .slice (some ⟨g,0,none⟩) n cap:=by
 rcases h.2 with ⟨_,h0⟩ |⟨g,cap,_,hv,_⟩
 ·omega
 ·exact ⟨g,cap,hv⟩
theorem cells_new (w:World) (t:TypeId) (l:List Value):∀ j u,l[j]? = some u->(w.alloc (.cells l.toArray t)).cell? ((⟨w.heap.size,0,none⟩:Addr).add j)=some u:=by
 intro j u hu
 have h:=cell_of_row (w.alloc (.cells l.toArray t)) w.heap.size j l.toArray t (0,0) (heap_alloc_new w _)
 rw [show (⟨w.heap.size,0,none⟩:Addr).add j=⟨w.heap.size,j,none⟩ from by unfold Addr.add;split<;>simp_all,h]
 simpa using hu
theorem tk_few {acc:List Tok} {t:Tok} (h:(acc.take 2001).length<=2000):acc.take 2001=acc/\(acc++[t]).take 2001=acc++[t]:=by
 rw [List.length_take] at h
 exact ⟨List.take_of_length_le (by omega),List.take_of_length_le (by rw [List.length_append];simp;omega)⟩
theorem tk_many {acc:List Tok} {t:Tok} (h:¬ (acc.take 2001).length<=2000):(acc++[t]).take 2001=acc.take 2001:=by
 rw [List.length_take] at h
 exact List.take_append_of_le_length (by omega)
def LexPost (s:ByteArray) (w:World) (e:Ending) (w':World):Prop:=
 ∃ A c,e = .returned (.tuple #[.slice A (lexR s).1.length c,.int .i64 ((lexR s).2.1:Nat),.int .i64 (lexR s).2.2]) /\
   w'.ownsRow w.heap.size 115 4 (.slice A (lexR s).1.length c) (lexR s).1.length (tcells (lexR s).1)/\Below w.heap.size w w'
theorem info_tok:(Try.prog.info? 115).map (fun i=>(i.zero,i.size,i.bytes))=some (some (.agg #[.int .i64 0,.string ⟨#[]⟩,.int .i64 0,.int .i64 0]),4,40):=by kernel_rfl
theorem lexR_err {s:ByteArray} {R:Except (Nat × Int) (List Tok)} (h:lexGo s s.size 0 []=R) {p:Nat} {x:Int} (hR:R = .error (p,x)):lexR s=([],p,x):=by unfold lexR;rw [h,hR]
theorem lexR_long {s:ByteArray} {R:Except (Nat × Int) (List Tok)} (h:lexGo s s.size 0 []=R) {acc:List Tok} (hR:R = .ok acc) (hl:2000<acc.length):lexR s=([],s.size,4):=by unfold lexR;rw [h,hR];simp [hl]
theorem lexR_ok {s:ByteArray} {R:Except (Nat × Int) (List Tok)} (h:lexGo s s.size 0 []=R) {acc:List Tok} (hR:R = .ok acc) (hl:acc.length<=2000):lexR s=(acc,0,0):=by unfold lexR;rw [h,hR];simp;omega
theorem LexPost.bad {s:ByteArray} {w w':World} {p:Nat} {x:Int} (h:lexR s=([],p,x)) (hb:Below w.heap.size w w'):LexPost s w (.returned (.tuple #[.slice none 0 0,.int .i64 p,.int .i64 x])) w':=by
 unfold LexPost
 rw [h]
 exact ⟨none,0,rfl,World.ownsRow_nil _ _ _ _,hb⟩
theorem LexPost.good {s:ByteArray} {w w':World} {A:Option Addr} {n c:Nat} {acc:List Tok} (h:lexR s=(acc,0,0)) (hn:n=acc.length) (ho:w'.ownsRow w.heap.size 115 4 (.slice A n c) n (tcells acc)) (hb:Below w.heap.size w w') :
 LexPost s w (.returned (.tuple #[.slice A n c,.int .i64 0,.int .i64 0])) w':=by
 unfold LexPost
 rw [h]
 subst hn
 exact ⟨A,c,rfl,ho,hb⟩
set_option maxRecDepth 100000 in
set_option maxHeartbeats 4000000 in
theorem lex_any (s:ByteArray) (w:World) (hs:s.size<=140737488351232) :
 Calls Try.prog 13 #[.string s] w fun e w'=>LexPost s w e w':=by
 have hs':s.size<=maxLen:=by unfold maxLen;omega
 obtain ⟨i0,hi,hz0,hz1,hz2⟩:=info_parts info_tok
 obtain ⟨R,hR⟩:∃ R,lexGo s s.size 0 []=R:=⟨_,rfl⟩
 have HR:=Lib.hid hR
 go_enter Try.func13,Try.ntmps13
 go_wp2_with fail
 go_loopw [5,6] (fun v i wr=>∃ (p f:Nat) (acc:List Tok) (A:Option Addr) (n c:Nat),p<=s.size/\s.size<=p+f/\lexGo s f p acc=R/\n=(acc.take 2001).length/\i = .int .i64 p/\v = .slice A n c /\
  wr.ownsRow w.heap.size 115 4 (.slice A n c) n (tcells (acc.take 2001))/\Below w.heap.size w wr)
  (fun _ i _=>s.size-(intOf i).toNat)
 case atStart=>exact ⟨0,s.size,[],none,0,0,by omega,by omega,hR,rfl,rfl,rfl,World.ownsRow_nil _ _ _ _,Below.refl _ _⟩
 case round=>
  obtain ⟨p,f,acc,A,n,c,hp,hf,hgo,hn,rfl,rfl,hown,hbw⟩:=hrel
  clear hR
  have Hn:=Lib.hid hn
  have hn1:n<=2001:=by rw [hn,List.length_take];omega
  clear hn
  have Hgo:=Lib.hid hgo
  clear hgo
  by_cases hlt:p<s.size
  ·have hgd:=getD_eq s p hlt
   rcases Bool.eq_false_or_eq_true (gapB (s[p].toNat:Int)) with hg |hg
   ·have Hst:=Lib.hid (go_gap hlt (by rw [hgd];exact hg) hf Hgo.out)
    clear hgd
    go_wp2_with (first |(go_at_call 34;refine (gap_any _ _).mono ?_;rintro e w' ⟨rfl,rfl⟩) |fail)
    go_roundw
    case rel=>
     obtain ⟨f',hf',hgo'⟩:=Hst.out
     exact ⟨p+1,f',acc,A,n,c,by omega,hf',hgo',Hn.out,by go_num,rfl,hown,hbw⟩
    case measure=>simp [intOf];omega
   ·have hgU:gapU (s.data.toList.getD p 0)=false:=by rw [hgd];exact hg
    rcases hE:wordE (s.data.toList.drop p) with x |⟨k,m,num⟩
    ·have Hfin:=Lib.hid (lexR_err HR.out (go_err hlt hgU hE hf Hgo.out))
     have HE:=Lib.hid hE
     have hx0:(x != 0)=true:=by rw [bne_iff_ne];have:=wordE_err hE;omega
     clear hE hgd hgU
     go_wp2_with (first |(go_at_call 34;refine (gap_any _ _).mono ?_;rintro e w' ⟨rfl,rfl⟩) |fail)
     refine (wordAt_err s p _ hs' hlt HE.out).mono ?_
     rintro e w1 ⟨rfl,hb⟩
     go_wp2_with fail
     go_ret3
     exact LexPost.bad Hfin.out ((hbw.trans (hb.mono hbw.size)).alloc (by have:=hb.size;have:=hbw.size;omega) _)
    ·have hlen:(s.data.toList.drop p).length=s.size-p:=by simp
     obtain ⟨hm1,hm2,hnum1,hnum2,hk1,hk2⟩:=wordE_ok (by rw [hlen];omega) hE
     rw [hlen] at hm2
     have Hst:=Lib.hid (go_word hlt hgU hE hf hm1 Hgo.out)
     have HE:=Lib.hid hE
     obtain ⟨T,hT⟩:∃ T,s.extract p (p+m)=T:=⟨_,rfl⟩
     have hTs:T.size=m:=by rw [<- hT];simp;omega
     have HT:=Lib.hid hT
     clear hE hgd hgU hlen hT
     by_cases hn2:n<=2000
     ·go_wp2_with (first |(go_at_call 34;refine (gap_any _ _).mono ?_;rintro e w' ⟨rfl,rfl⟩) |fail)
      refine (wordAt_ok s p _ hs' hlt HT.out HE.out).mono ?_
      rintro e w1 ⟨rfl,hb⟩
      go_wp2_with fail
      refine (clone_any T _ (by omega)).mono ?_
      rintro e w2 ⟨rfl,hb2⟩
      obtain ⟨hc,hfz⟩:=bcell hb2
      have hz:w1.heap.size<w2.heap.size:=by have:=hb2.size;simp at this;omega
      have hB1:Below wr.heap.size wr w2:=(hb.alloc hb.size _).trans (hb2.mono (by have:=hb.size;simp;omega))
      go_wp2_with (at_builtin;go_loud (refine wpList_append_own _ rfl (.tmp 41) (.tmp 43) _ rfl w.heap.size 115 i0 _ 4 40 Try.underlying60 hi hz0 hz1 hz2 rfl (by decide) (.slice A n c) n _ rfl (own_later hown (below_new (hB1.setCell hb.size _) (Nat.le_refl _) _)) ⟨w2.heap.size,0,none⟩ 1 1 [.int .i64 k,.string T,.int .i64 num,.int .i64 p] rfl rfl ?c1 ?c2 ?c3 ?c4 ?c5 ?_))
      case c1=>
       have e:w2.heap.size=(w2.setCell ⟨w1.heap.size,1,none⟩ (.string T)).heap.size:=by simp
       rw [e]
       exact cells_new _ _ _
      case c2=>
       intro u hu
       simp at hu
       rcases hu with rfl |rfl |rfl |rfl<;>rfl
      case c3=>unfold maxLen;omega
      case c4=>omega
      case c5=>have:=hB1.size;have:=hbw.size;simp;omega
      intro v' w3 hown' hgrow _
      obtain ⟨g,cap,hv⟩:=own_form hown' (by omega)
      obtain ⟨ht1,ht2⟩:=tk_few (t:=⟨k,T,num,p⟩) (by rw [<- Hn.out];exact hn2)
      have Hv:=Lib.hid hv
      have Ht:=Lib.hid ht2
      have Hl:Hid (n+1=((acc++[(⟨k,T,num,p⟩:Tok)]).take 2001).length):=by
       show n+1=_
       rw [ht2,List.length_append,<- ht1,<- Hn.out]
       rfl
      have hown2:w3.ownsRow w.heap.size 115 4 (.slice (some ⟨g,0,none⟩) (n+1) cap) (n+1) (tcells ((acc++[(⟨k,T,num,p⟩:Tok)]).take 2001)):=by
       rw [ht2,tcells_snoc,<- hv,<- ht1]
       exact hown'
      have hB3:Below w.heap.size w w3:=(hbw.trans ((below_new (hB1.setCell hb.size _) (Nat.le_refl _) _).mono hbw.size)).grown hgrow (by have:=hB1.size;have:=hbw.size;simp;omega) (fun b hb=>(hown.lt b hb).1)
      clear hv ht1 ht2 hown' hgrow hown hc hfz
      go_wp2_with fail
      go_roundw
      case rel=>
       obtain ⟨f',hf',hgo'⟩:=Hst.out
       exact ⟨p+m,f',acc++[(⟨k,T,num,p⟩:Tok)],some ⟨g,0,none⟩,n+1,cap,by omega,hf',by rw [<- HT.out];exact hgo',Hl,by go_num,Hv.out,hown2,hB3⟩
      case measure=>simp [intOf];omega
     ·have Ht:=Lib.hid (tk_many (t:=⟨k,s.extract p (p+m),num,p⟩) (show ¬ (acc.take 2001).length<=2000 by rw [<- Hn.out];exact hn2))
      go_wp2_with (first |(go_at_call 34;refine (gap_any _ _).mono ?_;rintro e w' ⟨rfl,rfl⟩) |fail)
      refine (wordAt_ok s p _ hs' hlt HT.out HE.out).mono ?_
      rintro e w1 ⟨rfl,hb⟩
      have hB3:Below w.heap.size w (w1.alloc (.cells #[.int .i64 k,.string T,.int .i64 num,.int .i64 p] 115)):=below_new (hbw.trans (hb.mono hbw.size)) (Nat.le_refl _) _
      have hown3:=own_later hown (below_new hb (Nat.le_refl _) (.cells #[.int .i64 k,.string T,.int .i64 num,.int .i64 p] 115))
      clear hown
      go_wp2_with fail
      go_roundw
      case rel=>
       obtain ⟨f',hf',hgo'⟩:=Hst.out
       exact ⟨p+m,f',acc++[(⟨k,s.extract p (p+m),num,p⟩:Tok)],A,n,c,by omega,hf',hgo',by rw [Ht.out];exact Hn.out,by go_num,rfl,by rw [Ht.out];exact hown3,hB3⟩
      case measure=>simp [intOf];omega
  ·have hend:=go_end (by omega) Hgo.out
   by_cases hn2:n<=2000
   ·obtain ⟨ht1,-⟩:=tk_few (t:=⟨0,⟨#[]⟩,0,0⟩) (show (acc.take 2001).length<=2000 by rw [<- Hn.out];exact hn2)
    have hn3:n=acc.length:=by rw [Hn.out,ht1]
    have Hfin:=Lib.hid (lexR_ok HR.out hend (by omega))
    rw [ht1] at hown
    have Hn3:=Lib.hid hn3
    clear ht1 hend hn3
    go_wp2_with fail
    go_ret3
    exact LexPost.good Hfin.out Hn3.out hown hbw
   ·have hl:2000<acc.length:=by
     have h1:=Hn.out
     rw [List.length_take] at h1
     omega
    have Hfin:=Lib.hid (lexR_long HR.out hend hl)
    clear hend hl
    go_wp2_with fail
    go_ret3
    exact LexPost.bad Hfin.out hbw
end Go.Proofs.Ytbhbjhejkamlnaa
