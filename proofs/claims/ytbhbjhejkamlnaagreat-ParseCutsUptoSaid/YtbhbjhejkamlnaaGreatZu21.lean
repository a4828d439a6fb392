import Derived.Test.YtbhbjhejkamlnaaGreatZu20
import Derived.Test.YtbhbjhejkamlnaaGreatProg
import Derived.WalkKit
import Derived.WalkLawsBesides
import Derived.WalkSpells
import Derived.Outline
import Derived.Lib.Hide
import Derived.Test.YtbhbjhejkamlnaaGreatZu1
import Derived.Lib.Strings
import Derived.Lib.Walk
import Derived.Lib.BufferWrite
import Derived.Lib.UnsafeStr
import Derived.Laws.MakeOwn
import Derived.Deep.DeepFit
import Derived.Laws.OwnMore
import Derived.Test.YtbhbjhejkamlnaaGreatZu15
set_option linter.unusedVariables false
set_option linter.unusedSimpArgs false
namespace Go.Proofs.YtbhbjhejkamlnaaGreat.Sx.Z
open Go.RowKit
def csF (ws:D) (en:Int) (r:Rd):List D × Rd:=((chZ ws en (acR ws kwC r)).row,chR ws en (acR ws kwC r))
def usF (ws:D) (en:Int) (r:Rd):List D × Rd:=((ruZ ws en (acR ws kwU r)).row,ruR ws en (acR ws kwU r))
def psF (ws:D) (en:Int) (r:Rd):List D × Rd:=((poZ ws en (acR ws kwP r)).row,poR ws en (acR ws kwP r))
def syC (ws:D) (en:Int) (r:Rd):D × Rd:=seqA (acG kwC ws) (csF ws en) ws (.l []) r
def syU (ws:D) (en:Int) (r:Rd):D × Rd:=seqA (acG kwU ws) (usF ws en) ws (.l []) (syC ws en r).2
def syP (ws:D) (en:Int) (r:Rd):D × Rd:=seqA (acG kwP ws) (psF ws en) ws (.l []) (syU ws en r).2
def syR (ws:D) (en:Int) (r:Rd):Rd:=fiR ws en (syP ws en r).2
theorem cs_sq {ws:D} (en:Int):SqOK ws (acG kwC ws) (csF ws en):=⟨fun r h hg=>by
 have a:=ac_up (t:=kwC) h (by decide)
 have b:=(ch_up en a.1).2.2.2;exact ⟨b.1,Int.lt_of_lt_of_le (ac_lt2 hg) b.2⟩⟩
theorem us_sq {ws:D} (en:Int):SqOK ws (acG kwU ws) (usF ws en):=⟨fun r h hg=>by
 have a:=ac_up (t:=kwU) h (by decide)
 have b:=(ru_up en a.1).2.2.2;exact ⟨b.1,Int.lt_of_lt_of_le (ac_lt2 hg) b.2⟩⟩
theorem ps_sq {ws:D} (en:Int):SqOK ws (acG kwP ws) (psF ws en):=⟨fun r h hg=>by
 have a:=ac_up (t:=kwP) h (by decide)
 have b:=(po_up en a.1).2.2.2.2;exact ⟨b.1,Int.lt_of_lt_of_le (ac_lt2 hg) b.2⟩⟩
theorem sy_up {ws:D} (en:Int) {r:Rd} (h:rdOK ws r.nx):rdOK ws (syC ws en r).2.nx/\rdOK ws (syU ws en r).2.nx/\rdOK ws (syP ws en r).2.nx:=by
 have a:=seq_up (cs_sq en) (.l []) h;have b:=seq_up (us_sq en) (.l []) a.1;exact ⟨a.1,b.1,(seq_up (ps_sq en) (.l []) b.1).1⟩
noncomputable def sysS:List Dat->Option (Eff × List Seg):=fun ds=>match ds with
 | [.d ws,.i nx,.i en,.i pa,.i er]=>some ({val:=.one (.agg [.c (.osl 101 0 (.lit 0) (.sym ((syC ws en (mR nx pa er)).1.len))),.c (.osl 106 1 (.lit 0) (.sym ((syU ws en (mR nx pa er)).1.len))),.c (.osl 72 2 (.lit 0) (.sym ((syP ws en (mR nx pa er)).1.len)))]),vc:=[rdOK ws nx],nw:=[(0,.orow 101 ((syC ws en (mR nx pa er)).1)),(1,.orow 106 ((syU ws en (mR nx pa er)).1)),(2,.orow 72 ((syP ws en (mR nx pa er)).1))]},[.c (.rows 124 ws),.c (.int .i64 (.sym ((syR ws en (mR nx pa er)).nx))),.c (.int .i64 (.sym en)),.c (.int .i64 (.sym ((syR ws en (mR nx pa er)).pa))),.c (.int .i64 (.sym ((syR ws en (mR nx pa er)).er)))])
 |_=>none
noncomputable def sysC:Con:=conM 85 [.c (.rows 124),.c (.int .i64),.c (.int .i64),.c (.int .i64),.c (.int .i64)] [] sysS
theorem sys_ok:ConOK Tryz.prog 17 sysC:=by
 refine fn_obM tt_ok mixed Tryz.func17 rfl (fun _ _=>by kernel_rfl) (A:=fun ds=>⟨fun _=>Cons.of [(46,chnC),(47,rulC),(48,proC),(45,accC),(49,finC)],fun k=>match k,ds with | 2,[.d ws,.i nx,.i en,.i pa,.i er]=>some {ι:=D × Rd,pre:=fun _ q=>rdOK ws q.2.nx/\(seqA (acG kwC ws) (csF ws en) ws q.1 q.2=(syC ws en (mR nx pa er)))/\q.1.len+left ws q.2<=1000001,μ:=fun q=>left ws q.2,st:=fun s q=>famN s [] [0,2,3] [(0,.own 85 ([.c (.rows 124 ws),.c (.int .i64 (.sym ((q.2).nx))),.c (.int .i64 (.sym en)),.c (.int .i64 (.sym ((q.2).pa))),.c (.int .i64 (.sym ((q.2).er)))])),(idOf s 3,.own 48 ([.c (.osl 101 s.nx (.lit 0) (.sym (q.1.len))),.c .nils,.c .nils])),(s.nx,.orow 101 (q.1))] [2]} | 4,[.d ws,.i nx,.i en,.i pa,.i er]=>some {ι:=D × Rd,pre:=fun _ q=>rdOK ws q.2.nx/\(seqA (acG kwU ws) (usF ws en) ws q.1 q.2=(syU ws en (mR nx pa er)))/\q.1.len+left ws q.2<=1000001,μ:=fun q=>left ws q.2,st:=fun s q=>famN s [] [0,2,3] [(0,.own 85 ([.c (.rows 124 ws),.c (.int .i64 (.sym ((q.2).nx))),.c (.int .i64 (.sym en)),.c (.int .i64 (.sym ((q.2).pa))),.c (.int .i64 (.sym ((q.2).er)))])),(idOf s 3,.own 48 ([.c (.osl 101 (cellIdP s 3 0) (.lit 0) (.sym ((syC ws en (mR nx pa er)).1.len))),.c (.osl 106 s.nx (.lit 0) (.sym (q.1.len))),.c .nils])),(cellIdP s 3 0,.orow 101 ((syC ws en (mR nx pa er)).1)),(s.nx,.orow 106 (q.1))] [2]} | 6,[.d ws,.i nx,.i en,.i pa,.i er]=>some {ι:=D × Rd,pre:=fun _ q=>rdOK ws q.2.nx/\(seqA (acG kwP ws) (psF ws en) ws q.1 q.2=(syP ws en (mR nx pa er)))/\q.1.len+left ws q.2<=1000001,μ:=fun q=>left ws q.2,st:=fun s q=>famN s [] [0,2,3] [(0,.own 85 ([.c (.rows 124 ws),.c (.int .i64 (.sym ((q.2).nx))),.c (.int .i64 (.sym en)),.c (.int .i64 (.sym ((q.2).pa))),.c (.int .i64 (.sym ((q.2).er)))])),(idOf s 3,.own 48 ([.c (.osl 101 (cellIdP s 3 0) (.lit 0) (.sym ((syC ws en (mR nx pa er)).1.len))),.c (.osl 106 (cellIdP s 3 1) (.lit 0) (.sym ((syU ws en (mR nx pa er)).1.len))),.c (.osl 72 s.nx (.lit 0) (.sym (q.1.len)))])),(cellIdP s 3 0,.orow 101 ((syC ws en (mR nx pa er)).1)),(cellIdP s 3 1,.orow 106 ((syU ws en (mR nx pa er)).1)),(s.nx,.orow 72 (q.1))] [2]} |_,_=>none,fun _=>none⟩) (fun _ _=>(cons_cons chn_ok (cons_cons rul_ok (cons_cons pro_ok (cons_cons acc_ok (cons_cons fin_ok cons_nil)))))) (by kernel_rfl) ?_
 intro ds;unfold sysS;split
 ·rename_i ws nx en pa er
  refine kmp (q:=withv (fun (i:D × Rd)=>chZ ws en (acR ws kwC i.snd)) fun E97=>withv (fun (i:D × Rd)=>poZ ws en (acR ws kwP i.snd)) fun E98=>withv (syC ws en (mR nx pa er)) fun E99=>withv (fun (i:D × Rd)=>ruZ ws en (acR ws kwU i.snd)) fun E100=>withv (fun (i:D × Rd)=>D.l [[D.s (E97 i).nm,D.i (E97 i).k,D.i (E97 i).n,D.s (E97 i).fr,D.s (E97 i).to,(E97 i).tg.sub 0 ((0:Nat)+(E97 i).tg.len)]]) fun E101=>withv (fun (i:D × Rd)=>D.l [[D.s (E98 i).nm,(E98 i).vs.sub 0 ((0:Nat)+(E98 i).vs.len),(E98 i).b.sub 0 ((0:Nat)+(E98 i).b.len)]]) fun E102=>withv (syU ws en (mR nx pa er)) fun E103=>withv (fun (i:D × Rd)=>D.l [[D.s (E100 i).ch,(E100 i).mv.sub 0 ((0:Nat)+(E100 i).mv.len)]]) fun E104=>rdOK ws nx->(∃ (i:D × Rd),(rdOK ws i.snd.nx/\seqA (acG kwC ws) (csF ws en) ws i.fst i.snd=syC ws en (mR nx pa er)/\i.fst.len+left ws i.snd<=(1000001:Nat))/\ws.rows=ws.rows/\nx=i.snd.nx/\en=en/\pa=i.snd.pa/\er=i.snd.er/\i.fst.len=0/\i.fst.rows=[])/\∀ (i:D × Rd),rdOK ws i.snd.nx/\seqA (acG kwC ws) (csF ws en) ws i.fst i.snd=syC ws en (mR nx pa er)/\i.fst.len+left ws i.snd<=1000001->rdOK ws i.snd.nx/\0<kwC.size/\(acB ws i.snd.nx kwC=true->rdOK ws (acR ws kwC i.snd).nx/\0+(E97 i).tg.len<=(E97 i).tg.len/\i.fst.len=i.fst.len/\(i.fst.len+((E101 i).sub 0 1).len)*88<=140737488355328/\0+1<=(E101 i).len/\∃ (j:D × Rd),(rdOK ws j.snd.nx/\seqA (acG kwC ws) (csF ws en) ws j.fst j.snd=syC ws en (mR nx pa er)/\j.fst.len+left ws j.snd<=(1000001:Nat))/\left ws j.snd<left ws i.snd/\ws.rows=ws.rows/\(chR ws en (acR ws kwC i.snd)).nx=j.snd.nx/\en=en/\(chR ws en (acR ws kwC i.snd)).pa=j.snd.pa/\(chR ws en (acR ws kwC i.snd)).er=j.snd.er/\i.fst.len+((E101 i).sub 0 1).len=j.fst.len/\i.fst.rows++List.drop 0 (List.take 1 [[D.s (E97 i).nm,D.i (E97 i).k,D.i (E97 i).n,D.s (E97 i).fr,D.s (E97 i).to,(E97 i).tg.sub 0 ((0:Nat)+(E97 i).tg.len)]])=j.fst.rows)/\(acB ws i.snd.nx kwC=false->(∃ (i_1:D × Rd),(rdOK ws i_1.snd.nx/\seqA (acG kwU ws) (usF ws en) ws i_1.fst i_1.snd=syU ws en (mR nx pa er)/\i_1.fst.len+left ws i_1.snd<=(1000001:Nat))/\ws.rows=ws.rows/\(acR ws kwC i.snd).nx=i_1.snd.nx/\en=en/\(acR ws kwC i.snd).pa=i_1.snd.pa/\(acR ws kwC i.snd).er=i_1.snd.er/\i.fst.len=E99.fst.len/\i_1.fst.len=0/\i.fst.rows=E99.fst.rows/\i_1.fst.rows=[])/\∀ (i:D × Rd),rdOK ws i.snd.nx/\seqA (acG kwU ws) (usF ws en) ws i.fst i.snd=syU ws en (mR nx pa er)/\i.fst.len+left ws i.snd<=1000001->rdOK ws i.snd.nx/\0<kwU.size/\(acB ws i.snd.nx kwU=true->rdOK ws (acR ws kwU i.snd).nx/\0+(E100 i).mv.len<=(E100 i).mv.len/\i.fst.len=i.fst.len/\(i.fst.len+((E104 i).sub 0 1).len)*40<=140737488355328/\0+1<=(E104 i).len/\∃ (j:D × Rd),(rdOK ws j.snd.nx/\seqA (acG kwU ws) (usF ws en) ws j.fst j.snd=syU ws en (mR nx pa er)/\j.fst.len+left ws j.snd<=(1000001:Nat))/\left ws j.snd<left ws i.snd/\ws.rows=ws.rows/\(ruR ws en (acR ws kwU i.snd)).nx=j.snd.nx/\en=en/\(ruR ws en (acR ws kwU i.snd)).pa=j.snd.pa/\(ruR ws en (acR ws kwU i.snd)).er=j.snd.er/\E99.fst.len=E99.fst.len/\i.fst.len+((E104 i).sub 0 1).len=j.fst.len/\E99.fst.rows=E99.fst.rows/\i.fst.rows++List.drop 0 (List.take 1 [[D.s (E100 i).ch,(E100 i).mv.sub 0 ((0:Nat)+(E100 i).mv.len)]])=j.fst.rows)/\(acB ws i.snd.nx kwU=false->(∃ (i_1:D × Rd),(rdOK ws i_1.snd.nx/\seqA (acG kwP ws) (psF ws en) ws i_1.fst i_1.snd=syP ws en (mR nx pa er)/\i_1.fst.len+left ws i_1.snd<=(1000001:Nat))/\ws.rows=ws.rows/\(acR ws kwU i.snd).nx=i_1.snd.nx/\en=en/\(acR ws kwU i.snd).pa=i_1.snd.pa/\(acR ws kwU i.snd).er=i_1.snd.er/\E99.fst.len=E99.fst.len/\i.fst.len=E103.fst.len/\i_1.fst.len=0/\E99.fst.rows=E99.fst.rows/\i.fst.rows=E103.fst.rows/\i_1.fst.rows=[])/\∀ (i:D × Rd),rdOK ws i.snd.nx/\seqA (acG kwP ws) (psF ws en) ws i.fst i.snd=syP ws en (mR nx pa er)/\i.fst.len+left ws i.snd<=1000001->rdOK ws i.snd.nx/\0<kwP.size/\(acB ws i.snd.nx kwP=true->rdOK ws (acR ws kwP i.snd).nx/\0+(E98 i).vs.len<=(E98 i).vs.len/\0+(E98 i).b.len<=(E98 i).b.len/\i.fst.len=i.fst.len/\(i.fst.len+((E102 i).sub 0 1).len)*64<=140737488355328/\0+1<=(E102 i).len/\∃ (j:D × Rd),(rdOK ws j.snd.nx/\seqA (acG kwP ws) (psF ws en) ws j.fst j.snd=syP ws en (mR nx pa er)/\j.fst.len+left ws j.snd<=(1000001:Nat))/\left ws j.snd<left ws i.snd/\ws.rows=ws.rows/\(poR ws en (acR ws kwP i.snd)).nx=j.snd.nx/\en=en/\(poR ws en (acR ws kwP i.snd)).pa=j.snd.pa/\(poR ws en (acR ws kwP i.snd)).er=j.snd.er/\E99.fst.len=E99.fst.len/\E103.fst.len=E103.fst.len/\i.fst.len+((E102 i).sub 0 1).len=j.fst.len/\E99.fst.rows=E99.fst.rows/\E103.fst.rows=E103.fst.rows/\i.fst.rows++List.drop 0 (List.take 1 [[D.s (E98 i).nm,(E98 i).vs.sub 0 ((0:Nat)+(E98 i).vs.len),(E98 i).b.sub 0 ((0:Nat)+(E98 i).b.len)]])=j.fst.rows)/\(acB ws i.snd.nx kwP=false->rdOK ws (acR ws kwP i.snd).nx/\E99.fst.len=E99.fst.len/\E103.fst.len=E103.fst.len/\i.fst.len=(syP ws en (mR nx pa er)).fst.len/\ws.rows=ws.rows/\(fiR ws en (acR ws kwP i.snd)).nx=(syR ws en (mR nx pa er)).nx/\en=en/\(fiR ws en (acR ws kwP i.snd)).pa=(syR ws en (mR nx pa er)).pa/\(fiR ws en (acR ws kwP i.snd)).er=(syR ws en (mR nx pa er)).er/\E99.fst.rows=E99.fst.rows/\E103.fst.rows=E103.fst.rows/\i.fst.rows=(syP ws en (mR nx pa er)).fst.rows)))) (by kernel_rfl) ?_
  dsimp +instances only [withv]
  intro h;obtain ⟨a,b,c⟩:=sy_up en (r:=mR nx pa er) h;refine ⟨⟨(.l [],(mR nx pa er)),⟨h,rfl,(by show 0+left ws (mR nx pa er)<=1000001;have:=(lf_lt (r:=(mR nx pa er)) h).2;omega)⟩,?_⟩,?_⟩
  ·(repeat' (with_reducible apply And.intro))<;>first |with_reducible rfl |exact True.intro |with_reducible assumption |decide |assumption |rfl
  rintro q ⟨h1,h2,h3⟩;refine ⟨h1,by decide,fun hc=>?_,fun hc=>?_⟩
  ·have hg:acG kwC ws q.2=true:=hc;obtain ⟨u1,u2⟩:=(cs_sq en).up q.2 h1 hg;have u3:=lt_left u1 h1 u2;have hs:=seq_step (cs_sq en) (d:=q.1) h1 hg;have hz:(q.1.len+1)*88<=140737488355328:=by omega
   have hl:(D.l (q.1.rows++[(csF ws en q.2).1])).len+left ws (csF ws en q.2).2<=1000001:=by rw [ap_len];omega
   have m1:=(ac_up (t:=kwC) h1 (by decide)).1
   refine ⟨m1,Nat.le_of_eq (Nat.zero_add _),rfl,hz,Nat.le_refl 1,(.l (q.1.rows++[(csF ws en q.2).1]),(csF ws en q.2).2),⟨u1,hs.trans h2,hl⟩,u3,?_⟩;simp only [subAll]
   (repeat' (with_reducible apply And.intro))<;>first |with_reducible rfl |exact True.intro |exact (ap_len _ _).symm |rfl
  have hg:acG kwC ws q.2=false:=hc;have h2:(q.1,q.2)=(syC ws en (mR nx pa er)):=(seq_end hg).symm.trans h2;rw [acR_no (r:=q.2) hc];refine ⟨⟨(.l [],(syC ws en (mR nx pa er)).2),⟨a,rfl,(by show 0+left ws (syC ws en (mR nx pa er)).2<=1000001;have:=(lf_lt (r:=(syC ws en (mR nx pa er)).2) a).2;omega)⟩,?_⟩,?_⟩
  ·simp only [<- h2]
   (repeat' (with_reducible apply And.intro))<;>first |with_reducible rfl |exact True.intro |with_reducible assumption |decide |assumption |rfl
  rintro q ⟨h1,h2,h3⟩;refine ⟨h1,by decide,fun hc=>?_,fun hc=>?_⟩
  ·have hg:acG kwU ws q.2=true:=hc;obtain ⟨u1,u2⟩:=(us_sq en).up q.2 h1 hg;have u3:=lt_left u1 h1 u2;have hs:=seq_step (us_sq en) (d:=q.1) h1 hg;have hz:(q.1.len+1)*40<=140737488355328:=by omega
   have hl:(D.l (q.1.rows++[(usF ws en q.2).1])).len+left ws (usF ws en q.2).2<=1000001:=by rw [ap_len];omega
   have m1:=(ac_up (t:=kwU) h1 (by decide)).1
   refine ⟨m1,Nat.le_of_eq (Nat.zero_add _),rfl,hz,Nat.le_refl 1,(.l (q.1.rows++[(usF ws en q.2).1]),(usF ws en q.2).2),⟨u1,hs.trans h2,hl⟩,u3,?_⟩;simp only [subAll]
   (repeat' (with_reducible apply And.intro))<;>first |with_reducible rfl |exact True.intro |exact (ap_len _ _).symm |rfl
  have hg:acG kwU ws q.2=false:=hc;have h2:(q.1,q.2)=(syU ws en (mR nx pa er)):=(seq_end hg).symm.trans h2;rw [acR_no (r:=q.2) hc];refine ⟨⟨(.l [],(syU ws en (mR nx pa er)).2),⟨b,rfl,(by show 0+left ws (syU ws en (mR nx pa er)).2<=1000001;have:=(lf_lt (r:=(syU ws en (mR nx pa er)).2) b).2;omega)⟩,?_⟩,?_⟩
  ·simp only [<- h2]
   (repeat' (with_reducible apply And.intro))<;>first |with_reducible rfl |exact True.intro |with_reducible assumption |decide |assumption |rfl
  rintro q ⟨h1,h2,h3⟩;refine ⟨h1,by decide,fun hc=>?_,fun hc=>?_⟩
  ·have hg:acG kwP ws q.2=true:=hc;obtain ⟨u1,u2⟩:=(ps_sq en).up q.2 h1 hg;have u3:=lt_left u1 h1 u2;have hs:=seq_step (ps_sq en) (d:=q.1) h1 hg;have hz:(q.1.len+1)*64<=140737488355328:=by omega
   have hl:(D.l (q.1.rows++[(psF ws en q.2).1])).len+left ws (psF ws en q.2).2<=1000001:=by rw [ap_len];omega
   have m1:=(ac_up (t:=kwP) h1 (by decide)).1
   refine ⟨m1,Nat.le_of_eq (Nat.zero_add _),Nat.le_of_eq (Nat.zero_add _),rfl,hz,Nat.le_refl 1,(.l (q.1.rows++[(psF ws en q.2).1]),(psF ws en q.2).2),⟨u1,hs.trans h2,hl⟩,u3,?_⟩;simp only [subAll]
   (repeat' (with_reducible apply And.intro))<;>first |with_reducible rfl |exact True.intro |exact (ap_len _ _).symm |rfl
  have hg:acG kwP ws q.2=false:=hc;have h2:(q.1,q.2)=(syP ws en (mR nx pa er)):=(seq_end hg).symm.trans h2;rw [acR_no (r:=q.2) hc];simp only [syR,<- h2]
  (repeat' (with_reducible apply And.intro))<;>first |with_reducible rfl |exact True.intro |with_reducible assumption |decide |assumption |rfl
 ·trivial
end Go.Proofs.YtbhbjhejkamlnaaGreat.Sx.Z
namespace Go.Proofs.YtbhbjhejkamlnaaGreat
open Go.RowKit
theorem gap_any (n:Int) (w:World):Calls Tryz.prog 42 #[.int .u8 n] w fun e w'=>e = .returned (.bool (gapB n))/\w=w':=by
 unfold gapB
 go_enter Tryz.func42,Tryz.ntmps42
 go_wp2
 all_goals
  go_ret
  exact ⟨by first |(simp [*];done) |(simp [*];omega),rfl⟩
theorem let_any (n:Int) (w:World):Calls Tryz.prog 70 #[.int .u8 n] w fun e w'=>e = .returned (.bool (letB n))/\w=w':=by
 unfold letB
 go_enter Tryz.func70,Tryz.ntmps70
 go_wp2
 all_goals
  go_ret
  exact ⟨by first |(simp [*];done) |(simp [*];omega),rfl⟩
theorem dig_any (n:Int) (w:World):Calls Tryz.prog 72 #[.int .u8 n] w fun e w'=>e = .returned (.bool (digB n))/\w=w':=by
 unfold digB
 go_enter Tryz.func72,Tryz.ntmps72
 go_wp2
 all_goals
  go_ret
  exact ⟨by first |(simp [*];done) |(simp [*];omega),rfl⟩
end Go.Proofs.YtbhbjhejkamlnaaGreat
namespace Go.Proofs.YtbhbjhejkamlnaaGreat
open Go.RowKit
set_option maxHeartbeats 1000000 in
theorem res_any (s:ByteArray) (w:World):Calls Tryz.prog 87 #[.string s] w fun e w'=>e = .returned (.bool (resB s.toList))/\w=w':=by
 unfold resB
 go_enter Tryz.func87,Tryz.ntmps87
 go_wp2
 all_goals
  go_ret
  refine ⟨?_,rfl⟩
  first |(simp [*];done) |(exfalso;simp_all;done)
theorem ret_i64 {a b:Int} (h:a=b):Ending.returned (.int .i64 a) = .returned (.int .i64 b):=by rw [h]
set_option maxHeartbeats 1000000 in
theorem sgn_one (s:ByteArray) (w:World) (h0:0<s.size) (h1:s.size<=1) :
 Calls Tryz.prog 74 #[.string s] w fun e w'=>e = .returned (.int .i64 (sgnB (s[0].toNat:Int) false))/\w=w':=by
 go_enter Tryz.func74,Tryz.ntmps74
 go_wp2
 all_goals
  go_ret
  refine ⟨ret_i64 ?_,rfl⟩;simp only [beq_iff_eq,beq_eq_false_iff_ne,ne_eq] at *;unfold sgnB;simp [*]
set_option maxHeartbeats 2000000 in
theorem sgn_two (s:ByteArray) (w:World) (h0:0<s.size) (h1:1<s.size) :
 Calls Tryz.prog 74 #[.string s] w fun e w'=>e = .returned (.int .i64 (sgnB (s[0].toNat:Int) ((s[1].toNat:Int)==61)))/\w=w':=by
 rcases Bool.eq_false_or_eq_true ((s[1].toNat:Int)==61) with hp |hp
 all_goals
  rw [hp]
  go_enter Tryz.func74,Tryz.ntmps74
  go_wp2
  all_goals
   go_ret
   refine ⟨ret_i64 ?_,rfl⟩;simp only [beq_iff_eq,beq_eq_false_iff_ne,ne_eq] at *;unfold sgnB;simp [*]
theorem sgn_any (s:ByteArray) (w:World) (h0:0<s.size) :
 Calls Tryz.prog 74 #[.string s] w fun e w'=>e = .returned (.int .i64 (sgnB (s[0].toNat:Int) (eqNext s.data.toList)))/\w=w':=by
 by_cases h1:1<s.size
 ·refine (sgn_two s w h0 h1).mono fun e w' ⟨he,hw⟩=>⟨he.trans ?_,hw⟩
  rw [eqNext_get s.data.toList (by simpa using h1)]
  rfl
 ·refine (sgn_one s w h0 (by omega)).mono fun e w' ⟨he,hw⟩=>⟨he.trans ?_,hw⟩
  rw [eqNext_short s.data.toList (by simp;omega)]
theorem info_u8:(Tryz.prog.info? 5).map (fun i=>(i.zero,i.size,i.bytes))=some (some (.int .u8 0),1,1):=by kernel_rfl
set_option maxHeartbeats 2000000 in
set_option maxRecDepth 100000 in
theorem slClone_any (s:ByteArray) (w:World) (hlim:s.size<=281474976710656) :
 Calls Tryz.prog 75 #[.string s] w fun e w'=>e = .returned (.string s)/\Below w.heap.size w w':=by
 by_cases h0:s.size=0
 ·have hs:s=⟨#[]⟩:=by
   apply ByteArray.ext
   exact Array.eq_empty_of_size_eq_zero h0
  subst hs
  go_enter Tryz.func75,Tryz.ntmps75
  go_wp2
  go_ret
  exact ⟨rfl,Below.refl _ _⟩
 ·obtain ⟨i0,hi,hz0,hz1,hz2⟩:=info_parts info_u8;have hinfo:(Tryz.prog.info? 5).map (·.size)=some 1:=by rw [hi];simp [hz1]
  have hco:Tryz.prog.cellsOf 5=1:=by simp [Program.cellsOf,hi,hz1]
  obtain ⟨M,hM⟩:∃ M,M=madeCells (Value.int .u8 0).cells (((s.size:Nat):Int).toNat*i0.size):=⟨_,rfl⟩;have hMs:M.size=s.size:=by rw [hM,size_madeCells,hz1];simp
  have hmk:∀ W:World,(Instr.makeSlice 146 (.int .i64 (s.size:Int)) (.int .i64 (s.size:Int))).run Tryz.prog W = .ok (.slice (some ⟨W.heap.size,0,none⟩) s.size s.size) (W.alloc (.cells M 5)):=fun W=>by
   have h:=run_make (P:=Tryz.prog) W 146 5 i0 (.int .u8 0) Tryz.underlying146 hi hz0 .i64 .i64 (s.size:Int) (s.size:Int) (by omega) (by omega) (by rw [hz2];omega) (by omega)
   rw [<- hM] at h
   simpa using h
  clear hM;have hcp:=Lib.run_copy_row_string (P:=Tryz.prog) (w.alloc (.cells M 5)) 146 9 3 5 w.heap.size 0 s.size s.size s M 5 Tryz.underlying146 hinfo (heap_alloc_new w _) (Nat.le_refl _) (by omega)
  obtain ⟨Y,hY⟩:∃ Y,Y=(M.toList.take 0++Lib.byteCells s.data.toList++M.toList.drop (0+s.size)).toArray:=⟨_,rfl⟩;rw [<- hY] at hcp;have hYl:Y.toList=Lib.byteCells s.data.toList:=by
   rw [hY,List.toList_toArray,List.take_zero,List.nil_append,List.drop_of_length_le (by rw [Array.length_toList];omega),List.append_nil]
  have hYs:Y.size=s.size:=by rw [<- Array.length_toList,hYl,Lib.byteCells_length,<- Lib.size_eq]
  have hgY:((w.alloc (.cells M 5)).setRow w.heap.size Y).heap[w.heap.size]? = some (.cells Y 5 (0,0)):=setRow_heap _ _ M _ 5 (0,0) (heap_alloc_new w _);have hne:s.data.toList≠[]:=fun e=>h0 (by rw [Lib.size_eq,e];rfl)
  have hUS:=Lib.run_unsafeString_row (P:=Tryz.prog) ((w.alloc (.cells M 5)).setRow w.heap.size Y) 155 3 9 5 Tryz.underlying155 hco w.heap.size Y.size (by unfold World.shape?;rw [hgY]) s.data.toList hne (by rw [<- Lib.size_eq];omega) (by rw [<- Lib.size_eq];omega)
   (fun j x hx=>Lib.cells_of_row hgY Y.size j _ (by rw [List.take_of_length_le (by rw [Array.length_toList];exact Nat.le_refl _),hYl];simp [Lib.byteCells,hx]))
  rw [<- Lib.size_eq] at hUS;clear hY
  go_enter Tryz.func75,Tryz.ntmps75
  go_wp2
  go_ret
  have hb1:Below w.heap.size w (w.alloc (.cells M 5)):=(Below.refl _ w).alloc (Nat.le_refl _) _;have hb2:Below w.heap.size (w.alloc (.cells M 5)) ((w.alloc (.cells M 5)).setRow w.heap.size Y):=⟨rfl,rfl,rfl,by simp,fun k hk=>setRow_other _ _ _ _ (by omega)⟩
  exact ⟨rfl,Lib.below_freeze (hb1.trans hb2) (p:=⟨w.heap.size,0,none⟩) (Nat.le_refl _) _⟩
theorem clone_any (s:ByteArray) (w:World) (hlim:s.size<=281474976710656) :
 Calls Tryz.prog 44 #[.string s] w fun e w'=>e = .returned (.string s)/\Below w.heap.size w w':=by
 go_enter Tryz.func44,Tryz.ntmps44
 go_wp2_with (go_at_call 75;refine (slClone_any _ _ hlim).mono ?_;rintro e w1 ⟨rfl,hb⟩)
 go_ret
 exact ⟨rfl,hb⟩
end Go.Proofs.YtbhbjhejkamlnaaGreat
namespace Go.Proofs.YtbhbjhejkamlnaaGreat
open Go.RowKit
def wV (s:ByteArray) (p:Nat):Except Int (Int × Nat × Int)->Value
 | .error e=>.tuple #[.agg #[.int .i64 0,.string ⟨#[]⟩,.int .i64 0,.int .i64 0],.int .i64 e]
 | .ok (k,n,m)=>.tuple #[.agg #[.int .i64 k,.string (s.extract p (p+n)),.int .i64 m,.int .i64 p],.int .i64 0]
theorem ret_wV {s:ByteArray} {p:Nat} {x y:Except Int (Int × Nat × Int)} (h:x=y):Ending.returned (wV s p y) = .returned (wV s p x):=by rw [h]
theorem ret_wOk {s:ByteArray} {p n k:Nat} {kk m:Int} {x:Except Int (Int × Nat × Int)} (h:x = .ok (kk,n,m)) (hk:p+n=k):Ending.returned (.tuple #[.agg #[.int .i64 kk,.string (s.extract p k),.int .i64 m,.int .i64 p],.int .i64 0]) = .returned (wV s p x):=by
 rw [h,<- hk];rfl
set_option maxHeartbeats 4000000 in
theorem nameAt_any (s:ByteArray) (p:Nat) (w:World) (hs:s.size<=maxLen) (hp:p<s.size) :
 Calls Tryz.prog 71 #[.string s,.int .i64 p] w fun e w'=>e = .returned (wV s p (nameE (s.data.toList.drop p)))/\Below w.heap.size w w':=by
 unfold maxLen at hs
 go_enter Tryz.func71,Tryz.ntmps71
 go_wp2_with fail
 go_loop [6] (fun i=>∃ k:Nat,Run alnU s p k/\i = .int .i64 k) (fun i=>s.size-(intOf i).toNat)
 case atStart=>exact ⟨p,Run.start (by omega),rfl⟩
 case round=>
  obtain ⟨k,hk,rfl⟩:=hrel;have hk1:=hk.1;have hk2:=hk.2.1;have hcase:(∃ h:k<s.size,letB (s[k].toNat:Int)=true) ∨ (∃ h:k<s.size,letB (s[k].toNat:Int)=false/\digB (s[k].toNat:Int)=true) ∨ (∃ h:k<s.size,letB (s[k].toNat:Int)=false/\digB (s[k].toNat:Int)=false) ∨ s.size<=k:=by
   by_cases hlt:k<s.size
   ·rcases Bool.eq_false_or_eq_true (letB (s[k].toNat:Int)) with hl |hl
    ·exact .inl ⟨hlt,hl⟩
    ·rcases Bool.eq_false_or_eq_true (digB (s[k].toNat:Int)) with hd |hd
     ·exact .inr (.inl ⟨hlt,hl,hd⟩)
     ·exact .inr (.inr (.inl ⟨hlt,hl,hd⟩))
   ·exact .inr (.inr (.inr (by omega)))
  rcases hcase with ⟨hlt,hl⟩ |⟨hlt,hl,hd⟩ |hcase
  ·go_wp2_with (first |(go_at_call 70;refine (let_any _ _).mono ?_;rintro e w' ⟨rfl,rfl⟩) |(go_at_call 72;refine (dig_any _ _).mono ?_;rintro e w' ⟨rfl,rfl⟩))
   go_round
   case rel=>exact ⟨k+1,hk.step hlt (by simp [alnU,letU,hl]),by go_num⟩
   case measure=>simp [intOf];omega
  ·go_wp2_with (first |(go_at_call 70;refine (let_any _ _).mono ?_;rintro e w' ⟨rfl,rfl⟩) |(go_at_call 72;refine (dig_any _ _).mono ?_;rintro e w' ⟨rfl,rfl⟩))
   go_round
   case rel=>exact ⟨k+1,hk.step hlt (by simp [alnU,digU,hd]),by go_num⟩
   case measure=>simp [intOf];omega
  ·have hn:lenOf alnU (s.data.toList.drop p)=k-p:=by
    rcases hcase with ⟨hlt,hl,hd⟩ |hge
    ·exact hk.len (fun h=>by rw [getD_eq s k h];simp [alnU,letU,digU,hl,hd])
    ·exact hk.len (fun h=>absurd h (by omega))
   by_cases h12:12<k-p
   ·have Hfin:=Lib.hid (show nameE (s.data.toList.drop p) = .error 3 by unfold nameE;rw [hn,if_pos h12])
    clear hn
    rcases hcase with ⟨hlt,hl,hd⟩ |hge
    all_goals
     go_wp2_with (first |(go_at_call 70;refine (let_any _ _).mono ?_;rintro e w' ⟨rfl,rfl⟩) |(go_at_call 72;refine (dig_any _ _).mono ?_;rintro e w' ⟨rfl,rfl⟩))
     exact bodyPost_ret (v:=.tuple #[.agg #[.int .i64 0,.string ⟨#[]⟩,.int .i64 0,.int .i64 0],.int .i64 3]) (by simp [results,Tryz.results71,go_sem]) rfl ⟨ret_wV Hfin.out,(Below.refl _ _).alloc (Nat.le_refl _) _⟩
   ·have ht:(s.extract p k).toList=(s.data.toList.drop p).take (k-p):=Lib.extract_toList s p k
    rcases Bool.eq_false_or_eq_true (resB (s.extract p k).toList) with hr |hr
    ·have Hfin:=Lib.hid (show nameE (s.data.toList.drop p) = .ok (4,k-p,0) by unfold nameE;rw [hn,if_neg h12,<- ht,if_pos hr])
     clear hn ht
     rcases hcase with ⟨hlt,hl,hd⟩ |hge
     all_goals
      go_wp2_with (first |(go_at_call 70;refine (let_any _ _).mono ?_;rintro e w' ⟨rfl,rfl⟩) |(go_at_call 72;refine (dig_any _ _).mono ?_;rintro e w' ⟨rfl,rfl⟩) |(go_at_call 87;refine (res_any _ _).mono ?_;rintro e w' ⟨rfl,rfl⟩))
      exact bodyPost_ret (v:=.tuple #[.agg #[.int .i64 4,.string (s.extract p k),.int .i64 0,.int .i64 p],.int .i64 0]) (by simp [results,Tryz.results71,go_sem]) rfl ⟨ret_wOk Hfin.out (by omega),((Below.refl _ _).alloc (Nat.le_refl _) _).alloc (by simp) _⟩
    ·have Hfin:=Lib.hid (show nameE (s.data.toList.drop p) = .ok (1,k-p,0) by unfold nameE;rw [hn,if_neg h12,<- ht,if_neg (by rw [hr];decide)])
     clear hn ht
     rcases hcase with ⟨hlt,hl,hd⟩ |hge
     all_goals
      go_wp2_with (first |(go_at_call 70;refine (let_any _ _).mono ?_;rintro e w' ⟨rfl,rfl⟩) |(go_at_call 72;refine (dig_any _ _).mono ?_;rintro e w' ⟨rfl,rfl⟩) |(go_at_call 87;refine (res_any _ _).mono ?_;rintro e w' ⟨rfl,rfl⟩))
      exact bodyPost_ret (v:=.tuple #[.agg #[.int .i64 1,.string (s.extract p k),.int .i64 0,.int .i64 p],.int .i64 0]) (by simp [results,Tryz.results71,go_sem]) rfl ⟨ret_wOk Hfin.out (by omega),((Below.refl _ _).alloc (Nat.le_refl _) _).alloc (by simp) _⟩
set_option maxHeartbeats 4000000 in
theorem numAt_any (s:ByteArray) (p:Nat) (w:World) (hs:s.size<=maxLen) (hp:p<s.size) :
 Calls Tryz.prog 73 #[.string s,.int .i64 p] w fun e w'=>e = .returned (wV s p (numE (s.data.toList.drop p)))/\Below w.heap.size w w':=by
 unfold maxLen at hs
 go_enter Tryz.func73,Tryz.ntmps73
 go_wp2_with fail
 go_loop [6,7] (fun i m=>∃ k v:Nat,Run digU s p k/\vl s p k=v/\v<=2147483647/\i = .int .i64 k/\m = .int .i64 v) (fun i _=>s.size-(intOf i).toNat)
 case atStart=>exact ⟨p,0,Run.start (by omega),vl_start s p,by omega,rfl,rfl⟩
 case round=>
  obtain ⟨k,v,hk,hv,hv1,rfl,rfl⟩:=hrel;have hk1:=hk.1;have hk2:=hk.2.1;have Hv:=Lib.hid hv;clear hv
  by_cases hin:∃ h:k<s.size,digB (s[k].toNat:Int)=true
  ·obtain ⟨hlt,hd⟩:=hin;have hd1:48<=(s[k].toNat:Int)/\(s[k].toNat:Int)<=57:=by simpa [digB] using hd
   obtain ⟨hd1,hd2⟩:=hd1;have hst:=vl_step s p k hk1 hlt;rw [Hv.out] at hst;have hrun:=hk.step hlt (show digU s[k]=true from hd)
   by_cases hbig:2147483647<10*(v:Int)+((s[k].toNat:Int)-48)
   ·have hfin:numE (s.data.toList.drop p) = .error 3:=by
     have h1:=vl_mono s p (k+1) (lenOf digU (s.data.toList.drop p)) hrun.le_len;have h2:2147483647<val ((s.data.toList.drop p).take (lenOf digU (s.data.toList.drop p))):=by omega
     unfold numE;rw [if_pos (.inl h2)]
    have Hfin:=Lib.hid hfin;clear hfin hst
    go_wp2_with (go_at_call 72;refine (dig_any _ _).mono ?_;rintro e w' ⟨rfl,rfl⟩)
    exact bodyPost_ret (v:=.tuple #[.agg #[.int .i64 0,.string ⟨#[]⟩,.int .i64 0,.int .i64 0],.int .i64 3]) (by simp [results,Tryz.results73,go_sem]) rfl ⟨ret_wV Hfin.out,(Below.refl _ _).alloc (Nat.le_refl _) _⟩
   ·have Hst:=Lib.hid hst;clear hst
    go_wp2_with (go_at_call 72;refine (dig_any _ _).mono ?_;rintro e w' ⟨rfl,rfl⟩)
    go_round
    case rel=>exact ⟨k+1,10*v+(s[k].toNat-48),hrun,Hst.out,by omega,by go_num,by go_num⟩
    case measure=>simp [intOf];omega
  ·have hcase:(∃ h:k<s.size,digB (s[k].toNat:Int)=false/\letB (s[k].toNat:Int)=true) ∨ (∃ h:k<s.size,digB (s[k].toNat:Int)=false/\letB (s[k].toNat:Int)=false) ∨ s.size<=k:=by
    by_cases hlt:k<s.size
    ·rcases Bool.eq_false_or_eq_true (digB (s[k].toNat:Int)) with hd |hd
     ·exact absurd ⟨hlt,hd⟩ hin
     ·rcases Bool.eq_false_or_eq_true (letB (s[k].toNat:Int)) with hl |hl
      ·exact .inl ⟨hlt,hd,hl⟩
      ·exact .inr (.inl ⟨hlt,hd,hl⟩)
    ·exact .inr (.inr (by omega))
   clear hin;have hn:lenOf digU (s.data.toList.drop p)=k-p:=by
    rcases hcase with ⟨hlt,hd,_⟩ |⟨hlt,hd,_⟩ |hge
    ·exact hk.len (fun h=>by rw [getD_eq s k h];exact hd)
    ·exact hk.len (fun h=>by rw [getD_eq s k h];exact hd)
    ·exact hk.len (fun h=>absurd h (by omega))
   have hval:val ((s.data.toList.drop p).take (k-p))=v:=Hv.out;have hhd:(s.data.toList.drop p).headD 0=s[p]:=by rw [head_drop,getD_eq s p hp]
   have h48:∀ b:UInt8,b=48↔((b.toNat:Int)==48)=true:=fun b=>by
    rw [beq_iff_eq];constructor
    ·rintro rfl;rfl
    ·intro h;exact UInt8.toNat_inj.1 (by show b.toNat=48;omega)
   by_cases hz:((s[p].toNat:Int)==48)=true/\1<k-p
   ·obtain ⟨hz1,hz2⟩:=hz;have Hfin:=Lib.hid (show numE (s.data.toList.drop p) = .error 3 by
     unfold numE;rw [hn,if_pos (.inr (.inl ⟨hz2,by rw [hhd];exact (h48 _).2 hz1⟩))])
    clear hn hval hhd h48
    rcases hcase with ⟨hlt,hd,_⟩ |⟨hlt,hd,_⟩ |hge
    all_goals
     go_wp2_with (first |(go_at_call 70;refine (let_any _ _).mono ?_;rintro e w' ⟨rfl,rfl⟩) |(go_at_call 72;refine (dig_any _ _).mono ?_;rintro e w' ⟨rfl,rfl⟩))
     exact bodyPost_ret (v:=.tuple #[.agg #[.int .i64 0,.string ⟨#[]⟩,.int .i64 0,.int .i64 0],.int .i64 3]) (by simp [results,Tryz.results73,go_sem]) rfl ⟨ret_wV Hfin.out,(Below.refl _ _).alloc (Nat.le_refl _) _⟩
   ·have hz':((s[p].toNat:Int)==48)=false ∨ (((s[p].toNat:Int)==48)=true/\k-p<=1):=by
     rcases Bool.eq_false_or_eq_true ((s[p].toNat:Int)==48) with h |h
     ·exact .inr ⟨h,by have:¬ 1<k-p:=fun hx=>hz ⟨h,hx⟩;omega⟩
     ·exact .inl h
    have hnz:¬ (1<k-p/\(s.data.toList.drop p).headD 0=48):=fun hx=>hz ⟨(h48 _).1 (by rw [<- hhd];exact hx.2),hx.1⟩
    have hgk:(s.data.toList.drop p).getD (k-p) 0=s.data.toList.getD k 0:=by rw [getD_drop,show p+(k-p)=k from by omega]
    clear hz h48 hhd
    rcases hcase with ⟨hlt,hd,hl⟩ |hcase
    ·have Hfin:=Lib.hid (show numE (s.data.toList.drop p) = .error 3 by
      unfold numE;rw [hn,if_pos (.inr (.inr (by rw [hgk,getD_eq s k hlt];exact hl)))])
     clear hn hval hnz hgk
     rcases hz' with hz1 |⟨hz1,hz2⟩
     all_goals
      go_wp2_with (first |(go_at_call 70;refine (let_any _ _).mono ?_;rintro e w' ⟨rfl,rfl⟩) |(go_at_call 72;refine (dig_any _ _).mono ?_;rintro e w' ⟨rfl,rfl⟩))
      exact bodyPost_ret (v:=.tuple #[.agg #[.int .i64 0,.string ⟨#[]⟩,.int .i64 0,.int .i64 0],.int .i64 3]) (by simp [results,Tryz.results73,go_sem]) rfl ⟨ret_wV Hfin.out,(Below.refl _ _).alloc (Nat.le_refl _) _⟩
    ·have hnl:¬ letU ((s.data.toList.drop p).getD (k-p) 0)=true:=by
      rw [hgk]
      rcases hcase with ⟨hlt,hd,hl⟩ |hge
      ·rw [getD_eq s k hlt];show ¬ letB _=true;rw [hl];decide
      ·rw [List.getD_eq_getElem?_getD,List.getElem?_eq_none (by simpa using hge)];decide
     have Hfin:=Lib.hid (show numE (s.data.toList.drop p) = .ok (2,k-p,(v:Int)) by
      unfold numE;rw [hn,hval,if_neg (fun h=>h.elim (fun h=>by omega) (fun h=>h.elim hnz hnl))])
     clear hn hval hnz hgk hnl
     rcases hcase with ⟨hlt,hd,hl⟩ |hge
     all_goals
      rcases hz' with hz1 |⟨hz1,hz2⟩
      all_goals
       go_wp2_with (first |(go_at_call 70;refine (let_any _ _).mono ?_;rintro e w' ⟨rfl,rfl⟩) |(go_at_call 72;refine (dig_any _ _).mono ?_;rintro e w' ⟨rfl,rfl⟩))
       exact bodyPost_ret (v:=.tuple #[.agg #[.int .i64 2,.string (s.extract p k),.int .i64 v,.int .i64 p],.int .i64 0]) (by simp [results,Tryz.results73,go_sem]) rfl ⟨ret_wOk Hfin.out (by omega),(Below.refl _ _).alloc (Nat.le_refl _) _⟩
end Go.Proofs.YtbhbjhejkamlnaaGreat
namespace Go.Proofs.YtbhbjhejkamlnaaGreat
open Go.RowKit
theorem nameAt_err (s:ByteArray) (p:Nat) (w:World) (hs:s.size<=maxLen) (hp:p<s.size) {x:Int} (h:nameE (s.data.toList.drop p) = .error x) :
 Calls Tryz.prog 71 #[.string s,.int .i64 p] w fun e w'=>e = .returned (.tuple #[.agg #[.int .i64 0,.string ⟨#[]⟩,.int .i64 0,.int .i64 0],.int .i64 x])/\Below w.heap.size w w':=
 (nameAt_any s p w hs hp).mono fun e w' ⟨he,hb⟩=>⟨by rw [he,h];rfl,hb⟩
theorem nameAt_ok (s:ByteArray) (p:Nat) (w:World) (hs:s.size<=maxLen) (hp:p<s.size) {k m:Int} {n:Nat} {T:ByteArray} (hT:s.extract p (p+n)=T) (h:nameE (s.data.toList.drop p) = .ok (k,n,m)) :
 Calls Tryz.prog 71 #[.string s,.int .i64 p] w fun e w'=>e = .returned (.tuple #[.agg #[.int .i64 k,.string T,.int .i64 m,.int .i64 p],.int .i64 0])/\Below w.heap.size w w':=
 (nameAt_any s p w hs hp).mono fun e w' ⟨he,hb⟩=>⟨by rw [he,h,<- hT];rfl,hb⟩
theorem numAt_err (s:ByteArray) (p:Nat) (w:World) (hs:s.size<=maxLen) (hp:p<s.size) {x:Int} (h:numE (s.data.toList.drop p) = .error x) :
 Calls Tryz.prog 73 #[.string s,.int .i64 p] w fun e w'=>e = .returned (.tuple #[.agg #[.int .i64 0,.string ⟨#[]⟩,.int .i64 0,.int .i64 0],.int .i64 x])/\Below w.heap.size w w':=
 (numAt_any s p w hs hp).mono fun e w' ⟨he,hb⟩=>⟨by rw [he,h];rfl,hb⟩
theorem numAt_ok (s:ByteArray) (p:Nat) (w:World) (hs:s.size<=maxLen) (hp:p<s.size) {k m:Int} {n:Nat} {T:ByteArray} (hT:s.extract p (p+n)=T) (h:numE (s.data.toList.drop p) = .ok (k,n,m)) :
 Calls Tryz.prog 73 #[.string s,.int .i64 p] w fun e w'=>e = .returned (.tuple #[.agg #[.int .i64 k,.string T,.int .i64 m,.int .i64 p],.int .i64 0])/\Below w.heap.size w w':=
 (numAt_any s p w hs hp).mono fun e w' ⟨he,hb⟩=>⟨by rw [he,h,<- hT];rfl,hb⟩
theorem data_from (s:ByteArray) (p:Nat):(s.extract p s.size).data.toList=s.data.toList.drop p:=by
 rw [Lib.extract_data,List.take_of_length_le]
 simp
theorem sgn_at (s:ByteArray) (p:Nat) (w:World) (hp:p<s.size) {n:Nat} (hn:sgnLen (s.data.toList.drop p)=n) :
 Calls Tryz.prog 74 #[.string (s.extract p s.size)] w fun e w'=>e = .returned (.int .i64 n)/\w=w':=by
 have h0:0<(s.extract p s.size).size:=by simp;omega
 refine (sgn_any (s.extract p s.size) w h0).mono fun e w' ⟨he,hb⟩=>⟨he.trans (ret_i64 ?_),hb⟩
 rw [<- hn,<- data_from];unfold sgnLen
 congr 2
 rw [List.headD_eq_head?_getD,List.head?_eq_getElem?,List.getElem?_eq_getElem (by simpa using h0)]
 rfl
theorem bcell {W w1:World} (hb:Below W.heap.size W w1):(∀ b o,b<W.heap.size->w1.cell? ⟨b,o,none⟩=W.cell? ⟨b,o,none⟩)/\(∀ b o,b<W.heap.size->w1.frozen? ⟨b,o,none⟩=W.frozen? ⟨b,o,none⟩):=
 ⟨fun b o h=>hb.cell (p:=⟨b,o,none⟩) h,fun b o h=>hb.frozen (p:=⟨b,o,none⟩) h⟩
set_option maxHeartbeats 2000000 in
theorem wordAt_name_err (s:ByteArray) (p:Nat) (w:World) (hs:s.size<=maxLen) (hp:p<s.size) (hl:letB (s[p].toNat:Int)=true) {x:Int} (hx:nameE (s.data.toList.drop p) = .error x) :
 Calls Tryz.prog 43 #[.string s,.int .i64 p] w fun e w'=>e = .returned (.tuple #[.agg #[.int .i64 0,.string ⟨#[]⟩,.int .i64 0,.int .i64 0],.int .i64 x])/\Below w.heap.size w w':=by
 have Hx:=Lib.hid hx;clear hx;have hs':=hs;unfold maxLen at hs
 go_enter Tryz.func43,Tryz.ntmps43
 go_wp2_with (first |(go_at_call 70;refine (let_any _ _).mono ?_;rintro e w' ⟨rfl,rfl⟩) |(go_at_call 72;refine (dig_any _ _).mono ?_;rintro e w' ⟨rfl,rfl⟩))
 refine (nameAt_err s p _ hs' hp Hx.out).mono ?_
 rintro e w1 ⟨rfl,hb⟩;obtain ⟨hc,hf⟩:=bcell hb;have hz:w.heap.size<w1.heap.size:=by have:=hb.size;simp at this;omega
 go_wp2
 exact bodyPost_ret (v:=.tuple #[.agg #[.int .i64 0,.string ⟨#[]⟩,.int .i64 0,.int .i64 0],.int .i64 x]) (by simp [results,Tryz.results43,go_sem,hc]) rfl ⟨rfl,(((((Below.refl _ _).alloc (Nat.le_refl _) _).trans (hb.mono (by simp))).setCell (by simp) _).setCell (by simp) _).setCell (by simp) _ |>.setCell (by simp) _⟩
set_option maxHeartbeats 2000000 in
theorem wordAt_name_ok (s:ByteArray) (p:Nat) (w:World) (hs:s.size<=maxLen) (hp:p<s.size) (hl:letB (s[p].toNat:Int)=true) {k m:Int} {n:Nat} {T:ByteArray} (hT:s.extract p (p+n)=T) (hx:nameE (s.data.toList.drop p) = .ok (k,n,m)) :
 Calls Tryz.prog 43 #[.string s,.int .i64 p] w fun e w'=>e = .returned (.tuple #[.agg #[.int .i64 k,.string T,.int .i64 m,.int .i64 p],.int .i64 0])/\Below w.heap.size w w':=by
 have Hx:=Lib.hid hx;clear hx;have HT:=Lib.hid hT;clear hT;have hs':=hs;unfold maxLen at hs
 go_enter Tryz.func43,Tryz.ntmps43
 go_wp2_with (first |(go_at_call 70;refine (let_any _ _).mono ?_;rintro e w' ⟨rfl,rfl⟩) |(go_at_call 72;refine (dig_any _ _).mono ?_;rintro e w' ⟨rfl,rfl⟩))
 refine (nameAt_ok s p _ hs' hp HT.out Hx.out).mono ?_
 rintro e w1 ⟨rfl,hb⟩;obtain ⟨hc,hf⟩:=bcell hb;have hz:w.heap.size<w1.heap.size:=by have:=hb.size;simp at this;omega
 go_wp2
 exact bodyPost_ret (v:=.tuple #[.agg #[.int .i64 k,.string T,.int .i64 m,.int .i64 p],.int .i64 0]) (by simp [results,Tryz.results43,go_sem,hc]) rfl ⟨rfl,(((((Below.refl _ _).alloc (Nat.le_refl _) _).trans (hb.mono (by simp))).setCell (by simp) _).setCell (by simp) _).setCell (by simp) _ |>.setCell (by simp) _⟩
set_option maxHeartbeats 2000000 in
theorem wordAt_num_err (s:ByteArray) (p:Nat) (w:World) (hs:s.size<=maxLen) (hp:p<s.size) (hl:letB (s[p].toNat:Int)=false) (hd:digB (s[p].toNat:Int)=true) {x:Int} (hx:numE (s.data.toList.drop p) = .error x) :
 Calls Tryz.prog 43 #[.string s,.int .i64 p] w fun e w'=>e = .returned (.tuple #[.agg #[.int .i64 0,.string ⟨#[]⟩,.int .i64 0,.int .i64 0],.int .i64 x])/\Below w.heap.size w w':=by
 have Hx:=Lib.hid hx;clear hx;have hs':=hs;unfold maxLen at hs
 go_enter Tryz.func43,Tryz.ntmps43
 go_wp2_with (first |(go_at_call 70;refine (let_any _ _).mono ?_;rintro e w' ⟨rfl,rfl⟩) |(go_at_call 72;refine (dig_any _ _).mono ?_;rintro e w' ⟨rfl,rfl⟩))
 refine (numAt_err s p _ hs' hp Hx.out).mono ?_
 rintro e w1 ⟨rfl,hb⟩;obtain ⟨hc,hf⟩:=bcell hb;have hz:w.heap.size<w1.heap.size:=by have:=hb.size;simp at this;omega
 go_wp2
 exact bodyPost_ret (v:=.tuple #[.agg #[.int .i64 0,.string ⟨#[]⟩,.int .i64 0,.int .i64 0],.int .i64 x]) (by simp [results,Tryz.results43,go_sem,hc]) rfl ⟨rfl,(((((Below.refl _ _).alloc (Nat.le_refl _) _).trans (hb.mono (by simp))).setCell (by simp) _).setCell (by simp) _).setCell (by simp) _ |>.setCell (by simp) _⟩
set_option maxHeartbeats 2000000 in
theorem wordAt_num_ok (s:ByteArray) (p:Nat) (w:World) (hs:s.size<=maxLen) (hp:p<s.size) (hl:letB (s[p].toNat:Int)=false) (hd:digB (s[p].toNat:Int)=true) {k m:Int} {n:Nat} {T:ByteArray} (hT:s.extract p (p+n)=T) (hx:numE (s.data.toList.drop p) = .ok (k,n,m)) :
 Calls Tryz.prog 43 #[.string s,.int .i64 p] w fun e w'=>e = .returned (.tuple #[.agg #[.int .i64 k,.string T,.int .i64 m,.int .i64 p],.int .i64 0])/\Below w.heap.size w w':=by
 have Hx:=Lib.hid hx;clear hx;have HT:=Lib.hid hT;clear hT;have hs':=hs;unfold maxLen at hs
 go_enter Tryz.func43,Tryz.ntmps43
 go_wp2_with (first |(go_at_call 70;refine (let_any _ _).mono ?_;rintro e w' ⟨rfl,rfl⟩) |(go_at_call 72;refine (dig_any _ _).mono ?_;rintro e w' ⟨rfl,rfl⟩))
 refine (numAt_ok s p _ hs' hp HT.out Hx.out).mono ?_
 rintro e w1 ⟨rfl,hb⟩;obtain ⟨hc,hf⟩:=bcell hb;have hz:w.heap.size<w1.heap.size:=by have:=hb.size;simp at this;omega
 go_wp2
 exact bodyPost_ret (v:=.tuple #[.agg #[.int .i64 k,.string T,.int .i64 m,.int .i64 p],.int .i64 0]) (by simp [results,Tryz.results43,go_sem,hc]) rfl ⟨rfl,(((((Below.refl _ _).alloc (Nat.le_refl _) _).trans (hb.mono (by simp))).setCell (by simp) _).setCell (by simp) _).setCell (by simp) _ |>.setCell (by simp) _⟩
set_option maxHeartbeats 2000000 in
theorem wordAt_sgn_err (s:ByteArray) (p:Nat) (w:World) (hs:s.size<=maxLen) (hp:p<s.size) (hl:letB (s[p].toNat:Int)=false) (hd:digB (s[p].toNat:Int)=false) (hx:sgnLen (s.data.toList.drop p)=0) :
 Calls Tryz.prog 43 #[.string s,.int .i64 p] w fun e w'=>e = .returned (.tuple #[.agg #[.int .i64 0,.string ⟨#[]⟩,.int .i64 0,.int .i64 0],.int .i64 2])/\Below w.heap.size w w':=by
 have Hx:=Lib.hid hx;clear hx;have hs1:=hs;clear hs;unfold maxLen at hs1
 go_enter Tryz.func43,Tryz.ntmps43
 go_wp2_with (first |(go_at_call 70;refine (let_any _ _).mono ?_;rintro e w' ⟨rfl,rfl⟩) |(go_at_call 72;refine (dig_any _ _).mono ?_;rintro e w' ⟨rfl,rfl⟩))
 refine (sgn_at s p _ hp Hx.out).mono ?_
 rintro e w1 ⟨rfl,rfl⟩
 go_wp2
 exact bodyPost_ret (v:=.tuple #[.agg #[.int .i64 0,.string ⟨#[]⟩,.int .i64 0,.int .i64 0],.int .i64 2]) (by simp [results,Tryz.results43,go_sem]) rfl ⟨rfl,(Below.refl _ _).alloc (Nat.le_refl _) _⟩
set_option maxHeartbeats 2000000 in
theorem wordAt_sgn_ok (s:ByteArray) (p:Nat) (w:World) (hs:s.size<=maxLen) (hp:p<s.size) (hl:letB (s[p].toNat:Int)=false) (hd:digB (s[p].toNat:Int)=false) {n:Nat} (hn:1<=n) (hpn:p+n<=s.size) {T:ByteArray} (hT:s.extract p (p+n)=T) (hx:sgnLen (s.data.toList.drop p)=n) :
 Calls Tryz.prog 43 #[.string s,.int .i64 p] w fun e w'=>e = .returned (.tuple #[.agg #[.int .i64 3,.string T,.int .i64 0,.int .i64 p],.int .i64 0])/\Below w.heap.size w w':=by
 have Hx:=Lib.hid hx;clear hx;have hnz:((n:Int)==0)=false:=by rw [beq_eq_false_iff_ne];omega
 unfold maxLen at hs
 go_enter Tryz.func43,Tryz.ntmps43
 go_wp2_with (first |(go_at_call 70;refine (let_any _ _).mono ?_;rintro e w' ⟨rfl,rfl⟩) |(go_at_call 72;refine (dig_any _ _).mono ?_;rintro e w' ⟨rfl,rfl⟩))
 refine (sgn_at s p _ hp Hx.out).mono ?_
 rintro e w1 ⟨rfl,rfl⟩
 go_wp2
 exact bodyPost_ret (v:=.tuple #[.agg #[.int .i64 3,.string T,.int .i64 0,.int .i64 p],.int .i64 0]) (by simp [results,Tryz.results43,go_sem]) rfl ⟨rfl,(Below.refl _ _).alloc (Nat.le_refl _) _⟩
theorem wordAt_err (s:ByteArray) (p:Nat) (w:World) (hs:s.size<=maxLen) (hp:p<s.size) {x:Int} (h:wordE (s.data.toList.drop p) = .error x) :
 Calls Tryz.prog 43 #[.string s,.int .i64 p] w fun e w'=>e = .returned (.tuple #[.agg #[.int .i64 0,.string ⟨#[]⟩,.int .i64 0,.int .i64 0],.int .i64 x])/\Below w.heap.size w w':=by
 have hh:(s.data.toList.drop p).headD 0=s[p]:=by rw [head_drop,getD_eq s p hp]
 unfold wordE at h;rw [hh] at h
 rcases Bool.eq_false_or_eq_true (letB (s[p].toNat:Int)) with hl |hl
 ·rw [if_pos (show letU s[p]=true from hl)] at h
  exact wordAt_name_err s p w hs hp hl h
 ·rw [if_neg (show ¬ letU s[p]=true by show ¬ letB _=true;rw [hl];decide)] at h
  rcases Bool.eq_false_or_eq_true (digB (s[p].toNat:Int)) with hd |hd
  ·rw [if_pos (show digU s[p]=true from hd)] at h
   exact wordAt_num_err s p w hs hp hl hd h
  ·rw [if_neg (show ¬ digU s[p]=true by show ¬ digB _=true;rw [hd];decide)] at h
   unfold sgnE at h
   by_cases hz:sgnLen (s.data.toList.drop p)=0
   ·rw [if_pos hz] at h
    injection h with h
    subst h;exact wordAt_sgn_err s p w hs hp hl hd hz
   ·rw [if_neg hz] at h;cases h
theorem wordAt_ok (s:ByteArray) (p:Nat) (w:World) (hs:s.size<=maxLen) (hp:p<s.size) {k m:Int} {n:Nat} {T:ByteArray} (hT:s.extract p (p+n)=T) (h:wordE (s.data.toList.drop p) = .ok (k,n,m)) :
 Calls Tryz.prog 43 #[.string s,.int .i64 p] w fun e w'=>e = .returned (.tuple #[.agg #[.int .i64 k,.string T,.int .i64 m,.int .i64 p],.int .i64 0])/\Below w.heap.size w w':=by
 have hh:(s.data.toList.drop p).headD 0=s[p]:=by rw [head_drop,getD_eq s p hp]
 have hlen:(s.data.toList.drop p).length=s.size-p:=by simp
 have hok:=wordE_ok (by rw [hlen];omega) h
 rw [hlen] at hok;unfold wordE at h;rw [hh] at h
 rcases Bool.eq_false_or_eq_true (letB (s[p].toNat:Int)) with hl |hl
 ·rw [if_pos (show letU s[p]=true from hl)] at h
  exact wordAt_name_ok s p w hs hp hl hT h
 ·rw [if_neg (show ¬ letU s[p]=true by show ¬ letB _=true;rw [hl];decide)] at h
  rcases Bool.eq_false_or_eq_true (digB (s[p].toNat:Int)) with hd |hd
  ·rw [if_pos (show digU s[p]=true from hd)] at h
   exact wordAt_num_ok s p w hs hp hl hd hT h
  ·rw [if_neg (show ¬ digU s[p]=true by show ¬ digB _=true;rw [hd];decide)] at h
   unfold sgnE at h
   by_cases hz:sgnLen (s.data.toList.drop p)=0
   ·rw [if_pos hz] at h;cases h
   ·rw [if_neg hz] at h
    injection h with h;injection h with h1 h;injection h with h2 h3
    subst h1;subst h3;exact wordAt_sgn_ok s p w hs hp hl hd hok.1 (by omega) hT h2
end Go.Proofs.YtbhbjhejkamlnaaGreat
namespace Go.Proofs.YtbhbjhejkamlnaaGreat
open Go.RowKit
def tcells (ts:List Tok):List Value:=ts.flatMap fun t=>[.int .i64 t.kind,.string t.text,.int .i64 t.num,.int .i64 t.pos]
theorem tcells_snoc (ts:List Tok) (t:Tok):tcells (ts++[t])=tcells ts++[.int .i64 t.kind,.string t.text,.int .i64 t.num,.int .i64 t.pos]:=by simp [tcells]
theorem own_below {B base:Nat} {e:TypeId} {size n:Nat} {v:Value} {xs:List Value} {w w':World} (h:w.ownsRow base e size v n xs) (hb:Below B w w') (hB:∀ g,v.ownBlock=some g->g<B):w'.ownsRow base e size v n xs:=by
 refine ⟨h.1,?_⟩
 rcases h.2 with h0 |⟨g,cap,cur,rfl,hg,hh,h1⟩
 ·exact .inl h0
 ·exact .inr ⟨g,cap,cur,rfl,hg,(hb.block g (hB g rfl)).trans hh,h1⟩
theorem own_later {base:Nat} {e:TypeId} {size n:Nat} {v:Value} {xs:List Value} {w w':World} (h:w.ownsRow base e size v n xs) (hb:Below w.heap.size w w'):w'.ownsRow base e size v n xs:=
 own_below h hb fun g hg=>(h.lt g hg).2
theorem below_new {B:Nat} {a w:World} (h:Below B a w) (hB:B<=a.heap.size) (o:Obj):Below B a (w.alloc o):=h.alloc (Nat.le_trans hB h.size) o
theorem own_form {base:Nat} {e:TypeId} {size n:Nat} {v:Value} {xs:List Value} {w:World} (h:w.ownsRow base e size v n xs) (hn:0<n):∃ g cap,v = .slice (some ⟨g,0,none⟩) n cap:=by
 rcases h.2 with ⟨_,h0⟩ |⟨g,cap,_,hv,_⟩
 ·omega
 ·exact ⟨g,cap,hv⟩
theorem cells_new (w:World) (t:TypeId) (l:List Value):∀ j u,l[j]? = some u->(w.alloc (.cells l.toArray t)).cell? ((⟨w.heap.size,0,none⟩:Addr).add j)=some u:=by
 intro j u hu;have h:=cell_of_row (w.alloc (.cells l.toArray t)) w.heap.size j l.toArray t (0,0) (heap_alloc_new w _);rw [show (⟨w.heap.size,0,none⟩:Addr).add j=⟨w.heap.size,j,none⟩ from by unfold Addr.add;split<;>simp_all,h]
 simpa using hu
theorem tk_few {acc:List Tok} {t:Tok} (h:(acc.take 2001).length<=2000):acc.take 2001=acc/\(acc++[t]).take 2001=acc++[t]:=by
 rw [List.length_take] at h;exact ⟨List.take_of_length_le (by omega),List.take_of_length_le (by rw [List.length_append];simp;omega)⟩
theorem tk_many {acc:List Tok} {t:Tok} (h:¬ (acc.take 2001).length<=2000):(acc++[t]).take 2001=acc.take 2001:=by
 rw [List.length_take] at h;exact List.take_append_of_le_length (by omega)
def LexPost (s:ByteArray) (w:World) (e:Ending) (w':World):Prop:=
 ∃ A c,e = .returned (.tuple #[.slice A (lexR s).1.length c,.int .i64 ((lexR s).2.1:Nat),.int .i64 (lexR s).2.2]) /\
   w'.ownsRow w.heap.size 124 4 (.slice A (lexR s).1.length c) (lexR s).1.length (tcells (lexR s).1)/\Below w.heap.size w w'
theorem info_tok:(Tryz.prog.info? 124).map (fun i=>(i.zero,i.size,i.bytes))=some (some (.agg #[.int .i64 0,.string ⟨#[]⟩,.int .i64 0,.int .i64 0]),4,40):=by kernel_rfl
theorem lexR_err {s:ByteArray} {R:Except (Nat × Int) (List Tok)} (h:lexGo s s.size 0 []=R) {p:Nat} {x:Int} (hR:R = .error (p,x)):lexR s=([],p,x):=by unfold lexR;rw [h,hR]
theorem lexR_long {s:ByteArray} {R:Except (Nat × Int) (List Tok)} (h:lexGo s s.size 0 []=R) {acc:List Tok} (hR:R = .ok acc) (hl:2000<acc.length):lexR s=([],s.size,4):=by unfold lexR;rw [h,hR];simp [hl]
theorem lexR_ok {s:ByteArray} {R:Except (Nat × Int) (List Tok)} (h:lexGo s s.size 0 []=R) {acc:List Tok} (hR:R = .ok acc) (hl:acc.length<=2000):lexR s=(acc,0,0):=by unfold lexR;rw [h,hR];simp;omega
theorem LexPost.bad {s:ByteArray} {w w':World} {p:Nat} {x:Int} (h:lexR s=([],p,x)) (hb:Below w.heap.size w w'):LexPost s w (.returned (.tuple #[.slice none 0 0,.int .i64 p,.int .i64 x])) w':=by
 unfold LexPost;rw [h];exact ⟨none,0,rfl,World.ownsRow_nil _ _ _ _,hb⟩
theorem LexPost.good {s:ByteArray} {w w':World} {A:Option Addr} {n c:Nat} {acc:List Tok} (h:lexR s=(acc,0,0)) (hn:n=acc.length) (ho:w'.ownsRow w.heap.size 124 4 (.slice A n c) n (tcells acc)) (hb:Below w.heap.size w w') :
 LexPost s w (.returned (.tuple #[.slice A n c,.int .i64 0,.int .i64 0])) w':=by
 unfold LexPost;rw [h];subst hn;exact ⟨A,c,rfl,ho,hb⟩
set_option maxRecDepth 100000 in
set_option maxHeartbeats 4000000 in
theorem lex_any (s:ByteArray) (w:World) (hs:s.size<=140737488351232) :
 Calls Tryz.prog 16 #[.string s] w fun e w'=>LexPost s w e w':=by
 have hs':s.size<=maxLen:=by unfold maxLen;omega
 obtain ⟨i0,hi,hz0,hz1,hz2⟩:=info_parts info_tok;obtain ⟨R,hR⟩:∃ R,lexGo s s.size 0 []=R:=⟨_,rfl⟩;have HR:=Lib.hid hR
 go_enter Tryz.func16,Tryz.ntmps16
 go_wp2_with fail
 go_loopw [5,6] (fun v i wr=>∃ (p f:Nat) (acc:List Tok) (A:Option Addr) (n c:Nat),p<=s.size/\s.size<=p+f/\lexGo s f p acc=R/\n=(acc.take 2001).length/\i = .int .i64 p/\v = .slice A n c /\
  wr.ownsRow w.heap.size 124 4 (.slice A n c) n (tcells (acc.take 2001))/\Below w.heap.size w wr)
  (fun _ i _=>s.size-(intOf i).toNat)
 case atStart=>exact ⟨0,s.size,[],none,0,0,by omega,by omega,hR,rfl,rfl,rfl,World.ownsRow_nil _ _ _ _,Below.refl _ _⟩
 case round=>
  obtain ⟨p,f,acc,A,n,c,hp,hf,hgo,hn,rfl,rfl,hown,hbw⟩:=hrel;clear hR;have Hn:=Lib.hid hn;have hn1:n<=2001:=by rw [hn,List.length_take];omega
  clear hn;have Hgo:=Lib.hid hgo;clear hgo
  by_cases hlt:p<s.size
  ·have hgd:=getD_eq s p hlt
   rcases Bool.eq_false_or_eq_true (gapB (s[p].toNat:Int)) with hg |hg
   ·have Hst:=Lib.hid (go_gap hlt (by rw [hgd];exact hg) hf Hgo.out)
    clear hgd
    go_wp2_with (first |(go_at_call 42;refine (gap_any _ _).mono ?_;rintro e w' ⟨rfl,rfl⟩) |fail)
    go_roundw
    case rel=>
     obtain ⟨f',hf',hgo'⟩:=Hst.out;exact ⟨p+1,f',acc,A,n,c,by omega,hf',hgo',Hn.out,by go_num,rfl,hown,hbw⟩
    case measure=>simp [intOf];omega
   ·have hgU:gapU (s.data.toList.getD p 0)=false:=by rw [hgd];exact hg
    rcases hE:wordE (s.data.toList.drop p) with x |⟨k,m,num⟩
    ·have Hfin:=Lib.hid (lexR_err HR.out (go_err hlt hgU hE hf Hgo.out));have HE:=Lib.hid hE;have hx0:(x != 0)=true:=by rw [bne_iff_ne];have:=wordE_err hE;omega
     clear hE hgd hgU
     go_wp2_with (first |(go_at_call 42;refine (gap_any _ _).mono ?_;rintro e w' ⟨rfl,rfl⟩) |fail)
     refine (wordAt_err s p _ hs' hlt HE.out).mono ?_
     rintro e w1 ⟨rfl,hb⟩
     go_wp2_with fail
     go_ret3
     exact LexPost.bad Hfin.out ((hbw.trans (hb.mono hbw.size)).alloc (by have:=hb.size;have:=hbw.size;omega) _)
    ·have hlen:(s.data.toList.drop p).length=s.size-p:=by simp
     obtain ⟨hm1,hm2,hnum1,hnum2,hk1,hk2⟩:=wordE_ok (by rw [hlen];omega) hE
     rw [hlen] at hm2;have Hst:=Lib.hid (go_word hlt hgU hE hf hm1 Hgo.out);have HE:=Lib.hid hE;obtain ⟨T,hT⟩:∃ T,s.extract p (p+m)=T:=⟨_,rfl⟩;have hTs:T.size=m:=by rw [<- hT];simp;omega
     have HT:=Lib.hid hT;clear hE hgd hgU hlen hT
     by_cases hn2:n<=2000
     ·go_wp2_with (first |(go_at_call 42;refine (gap_any _ _).mono ?_;rintro e w' ⟨rfl,rfl⟩) |fail)
      refine (wordAt_ok s p _ hs' hlt HT.out HE.out).mono ?_
      rintro e w1 ⟨rfl,hb⟩
      go_wp2_with fail
      refine (clone_any T _ (by omega)).mono ?_
      rintro e w2 ⟨rfl,hb2⟩;obtain ⟨hc,hfz⟩:=bcell hb2;have hz:w1.heap.size<w2.heap.size:=by have:=hb2.size;simp at this;omega
      have hB1:Below wr.heap.size wr w2:=(hb.alloc hb.size _).trans (hb2.mono (by have:=hb.size;simp;omega))
      go_wp2_with (at_builtin;go_loud (refine wpList_append_own _ rfl (.tmp 41) (.tmp 43) _ rfl w.heap.size 124 i0 _ 4 40 Tryz.underlying81 hi hz0 hz1 hz2 rfl (by decide) (.slice A n c) n _ rfl (own_later hown (below_new (hB1.setCell hb.size _) (Nat.le_refl _) _)) ⟨w2.heap.size,0,none⟩ 1 1 [.int .i64 k,.string T,.int .i64 num,.int .i64 p] rfl rfl ?c1 ?c2 ?c3 ?c4 ?c5 ?_))
      case c1=>
       have e:w2.heap.size=(w2.setCell ⟨w1.heap.size,1,none⟩ (.string T)).heap.size:=by simp
       rw [e];exact cells_new _ _ _
      case c2=>
       intro u hu;simp at hu
       rcases hu with rfl |rfl |rfl |rfl<;>rfl
      case c3=>unfold maxLen;omega
      case c4=>omega
      case c5=>have:=hB1.size;have:=hbw.size;simp;omega
      intro v' w3 hown' hgrow _;obtain ⟨g,cap,hv⟩:=own_form hown' (by omega)
      obtain ⟨ht1,ht2⟩:=tk_few (t:=⟨k,T,num,p⟩) (by rw [<- Hn.out];exact hn2)
      have Hv:=Lib.hid hv;have Ht:=Lib.hid ht2;have Hl:Hid (n+1=((acc++[(⟨k,T,num,p⟩:Tok)]).take 2001).length):=by
       show n+1=_;rw [ht2,List.length_append,<- ht1,<- Hn.out];rfl
      have hown2:w3.ownsRow w.heap.size 124 4 (.slice (some ⟨g,0,none⟩) (n+1) cap) (n+1) (tcells ((acc++[(⟨k,T,num,p⟩:Tok)]).take 2001)):=by
       rw [ht2,tcells_snoc,<- hv,<- ht1];exact hown'
      have hB3:Below w.heap.size w w3:=(hbw.trans ((below_new (hB1.setCell hb.size _) (Nat.le_refl _) _).mono hbw.size)).grown hgrow (by have:=hB1.size;have:=hbw.size;simp;omega) (fun b hb=>(hown.lt b hb).1)
      clear hv ht1 ht2 hown' hgrow hown hc hfz
      go_wp2_with fail
      go_roundw
      case rel=>
       obtain ⟨f',hf',hgo'⟩:=Hst.out;exact ⟨p+m,f',acc++[(⟨k,T,num,p⟩:Tok)],some ⟨g,0,none⟩,n+1,cap,by omega,hf',by rw [<- HT.out];exact hgo',Hl,by go_num,Hv.out,hown2,hB3⟩
      case measure=>simp [intOf];omega
     ·have Ht:=Lib.hid (tk_many (t:=⟨k,s.extract p (p+m),num,p⟩) (show ¬ (acc.take 2001).length<=2000 by rw [<- Hn.out];exact hn2))
      go_wp2_with (first |(go_at_call 42;refine (gap_any _ _).mono ?_;rintro e w' ⟨rfl,rfl⟩) |fail)
      refine (wordAt_ok s p _ hs' hlt HT.out HE.out).mono ?_
      rintro e w1 ⟨rfl,hb⟩;have hB3:Below w.heap.size w (w1.alloc (.cells #[.int .i64 k,.string T,.int .i64 num,.int .i64 p] 124)):=below_new (hbw.trans (hb.mono hbw.size)) (Nat.le_refl _) _;have hown3:=own_later hown (below_new hb (Nat.le_refl _) (.cells #[.int .i64 k,.string T,.int .i64 num,.int .i64 p] 124));clear hown
      go_wp2_with fail
      go_roundw
      case rel=>
       obtain ⟨f',hf',hgo'⟩:=Hst.out;exact ⟨p+m,f',acc++[(⟨k,s.extract p (p+m),num,p⟩:Tok)],A,n,c,by omega,hf',hgo',by rw [Ht.out];exact Hn.out,by go_num,rfl,by rw [Ht.out];exact hown3,hB3⟩
      case measure=>simp [intOf];omega
  ·have hend:=go_end (by omega) Hgo.out
   by_cases hn2:n<=2000
   ·obtain ⟨ht1,-⟩:=tk_few (t:=⟨0,⟨#[]⟩,0,0⟩) (show (acc.take 2001).length<=2000 by rw [<- Hn.out];exact hn2)
    have hn3:n=acc.length:=by rw [Hn.out,ht1]
    have Hfin:=Lib.hid (lexR_ok HR.out hend (by omega))
    rw [ht1] at hown;have Hn3:=Lib.hid hn3;clear ht1 hend hn3
    go_wp2_with fail
    go_ret3
    exact LexPost.good Hfin.out Hn3.out hown hbw
   ·have hl:2000<acc.length:=by
     have h1:=Hn.out;rw [List.length_take] at h1;omega
    have Hfin:=Lib.hid (lexR_long HR.out hend hl);clear hend hl
    go_wp2_with fail
    go_ret3
    exact LexPost.bad Hfin.out hbw
end Go.Proofs.YtbhbjhejkamlnaaGreat
namespace Go.Proofs.YtbhbjhejkamlnaaGreat.Sx.Z
open Go.RowKit
def tokR (t:Tok):List D:=[.i t.kind,.s t.text,.i t.num,.i (t.pos:Nat)]
def tokD (l:List Tok):D:=.l (l.map tokR)
theorem tokD_len (l:List Tok):(tokD l).len=l.length:=List.length_map ..
def tokV (t:Tok):List Value:=[.int .i64 t.kind,.string t.text,.int .i64 t.num,.int .i64 (t.pos:Nat)]
theorem tcells_get:∀ {l:List Tok} {i j:Nat} {t:Tok},l[i]? = some t->j<4->(tcells l)[i*4+j]? = (tokV t)[j]?
 | [],i,j,t,h,_=>by simp at h
 |a::l,0,j,t,h,hj=>by
  obtain rfl:a=t:=by simpa using h
  show (tokV a++tcells l)[0*4+j]? = _;rw [Nat.zero_mul,Nat.zero_add,List.getElem?_append_left (by show j<4;exact hj)]
 |a::l,i+1,j,t,h,hj=>by
  have ih:=tcells_get (l:=l) (i:=i) (j:=j) (t:=t) (by simpa using h) hj
  show (tokV a++tcells l)[(i+1)*4+j]? = _;rw [List.getElem?_append_right (by show 4<=_;omega)]
  rw [<- ih]
  congr 1
  show (i+1)*4+j-4=i*4+j;omega
theorem tok_eks:eks 124=[.int .i64,.str,.int .i64,.int .i64]:=by rfl
theorem tokD_el {l:List Tok} {i:Nat} {t:Tok} (h:l[i]? = some t) (j:Nat):(tokD l).el i j=(tokR t).getD j (.i 0):=by
 unfold D.el;have:(tokD l).rows.getD i []=tokR t:=by
  show (l.map tokR).getD i []=_;rw [List.getD_eq_getElem?_getD,List.getElem?_map,h];rfl
 rw [this]
def lexS:FSpec:=fun ds _=>match ds with
 | [.s s]=>some {val:=.tup [.sc (.rows 124 (tokD (lexR s).1)),.sc (.int .i64 (.sym ((lexR s).2.1:Nat))),.sc (.int .i64 (.sym (lexR s).2.2))],vc:=[s.size<=140737488351232]}
 |_=>none
def lexC:Con:=con [.sc .str] lexS
theorem lex_rel {fz:Fz} {l:List Tok} {A:Option Addr} {c:Nat} {base:Nat} {w:World} (h:w.ownsRow base 124 4 (.slice A l.length c) l.length (tcells l)) (hf:∀ g cur,base<=g->w.heap[g]? = some (.cells cur 124 (0,0))->A=some ⟨g,0,none⟩->fz g=some cur):TRel fz (.slice 124) (tokD l) (.slice A l.length c):=by
 rcases h.2 with ⟨hv,h0⟩ |⟨g,cap,cur,hv,hg,hh,h1,h2,h3,h4⟩
 ·rw [hv];exact .nil _ _ (by rw [tokD_len];exact h0)
 ·obtain ⟨hA,_,hc⟩:=Value.slice.inj hv;subst hA hc
  by_cases h0:l.length=0
  ·rw [h0];exact .empty _ _ _ _ (by rw [tokD_len];exact h0)
  ·have hF:=hf g cur hg hh rfl;have hat:∀ i j t,l[i]? = some t->j<4->cur[i*4+j]? = (tokV t)[j]?:=fun i j t ht hj=>by
    have e:=tcells_get ht hj;rw [<- h4] at e;have hi:i<l.length:=lt_of_get ht;rw [List.getElem?_take_of_lt (by omega),Array.getElem?_toList] at e
    exact e
   rw [show Value.slice (some ⟨g,0,none⟩) l.length c=Value.slice (some ⟨g,0,none⟩) (tokD l).len c by rw [tokD_len]]
   refine .slice _ _ _ _ _ (fun i j=>(cur[i*4+j]?).getD undef) (by rw [tokD_len];exact h1) (fun i j hi hj=>?_) (fun i j k hi hk=>?_)
   ·rw [tokD_len] at hi;have hj4:j<4:=hj;have e:=hat i j _ (List.getElem?_eq_getElem hi) hj4;have e2:(tokV l[i])[j]? = some (tokV l[i])[j]:=List.getElem?_eq_getElem (by show j<4;exact hj4)
    rw [e2] at e;show Fz.cell fz g (0+i*4+j)=_;rw [Nat.zero_add,e];unfold Fz.cell;rw [hF];exact e
   ·rw [tokD_len] at hi;have ht:=List.getElem?_eq_getElem hi;rw [tokD_el ht];rw [tok_eks] at hk
    match j,hk with
    | 0,hk=>obtain rfl:=Option.some.inj hk;rw [hat i 0 _ ht (by omega)];exact .int _ (.i _)
    | 1,hk=>obtain rfl:=Option.some.inj hk;rw [hat i 1 _ ht (by omega)];exact .str (.s _)
    | 2,hk=>obtain rfl:=Option.some.inj hk;rw [hat i 2 _ ht (by omega)];exact .int _ (.i _)
    | 3,hk=>obtain rfl:=Option.some.inj hk;rw [hat i 3 _ ht (by omega)];exact .int _ (.i _)
    |j+4,hk=>simp at hk
def lexF (f:Fz) (w w':World) (A:Option Addr):Fz:=fun b=>match A with |some a=>if b=a.block/\w.heap.size<=b then cellsAt w' b else f b |none=>f b
theorem lexF_or {f:Fz} {w w':World} {A:Option Addr} {b:Nat} {cs:Array Value} (h:lexF f w w' A b=some cs):f b=some cs ∨ (w.heap.size<=b/\cellsAt w' b=some cs):=by
 unfold lexF at h
 split at h
 ·split at h
  ·rename_i hh;exact .inr ⟨hh.2,h⟩
  ·exact .inl h
 ·exact .inl h
theorem lex_ok:ConOK Tryz.prog 16 lexC:=by
 refine ⟨fun _ _=>by kernel_rfl,fun hp fr args e he hv w0 w ρ vs hw _ ha=>?_,fun _ _ _ _ h=>nomatch (con_jf _ _ _ _ _).symm.trans h⟩
 unfold lexC con at he
 split at he
 ·rename_i ds ps hds
  split at he
  ·rename_i e1 he1;unfold lexS at he1
   split at he1
   ·rename_i s;obtain rfl:=Option.some.inj he1;obtain rfl:=Option.some.inj he;obtain ⟨hp1,hp2⟩:=all_append.1 hv;obtain ⟨svs,h,ρ1,id,hun,_,_,hrel⟩:=unP_spec hw [.sc .str] args _ ps hds hp1 vs ha (ids:=keepOwn hp (idsX hp args)) (fun i hi ho=>keepOwn_mem.2 ⟨hi,ho⟩) 0
    obtain rfl:svs=_:=(congrArg Prod.fst (Option.some.inj hun)).symm
    match vs,hrel with
    | [x],⟨hx,_⟩=>
      have hx:x = .string s:=hx;subst hx;refine (lex_any s w hp2.1).mono ?_
      rintro en w' ⟨A,c,rfl,hown,hb⟩;have hle:FzLe ρ.fz (lexF ρ.fz w w' A):=fun b cs hbc=>by
       unfold lexF;split
       ·split
        ·rename_i hh;rw [hw.froz.new hh.2] at hbc;cases hbc
        ·exact hbc
       ·exact hbc
      have hrel2:TRel (lexF ρ.fz w w' A) (.slice 124) (tokD (lexR s).1) (.slice A (lexR s).1.length c):=lex_rel hown fun g cur hg hh hA=>by
       subst hA;show (if g=g/\w.heap.size<=g then cellsAt w' g else ρ.fz g)=some cur
       rw [if_pos ⟨rfl,hg⟩];unfold cellsAt;rw [hh]
      refine ⟨{ρ with fz:=lexF ρ.fz w w' A},_,rfl,⟨_,rfl,hrel2,rfl,rfl,trivial⟩,⟨⟨fun _ _ h=>h,fun _ _=>rfl,hle,rfl,rfl⟩,fun _ _=>rfl,hb.mono (Nat.zero_le _),fun b hlt _=>hb.block b hlt,fun i x hx=>?_,fun i x hx=>?_,fun i j x y hx=>?_,fun b cs hcs=>?_⟩⟩
      ·have hx':look (kills (keepOwn hp (idsX hp args))) i=some x:=hx;rw [(kills_look hx').1];trivial
      ·cases hx
      ·cases hx
      ·rcases lexF_or hcs with h1 |⟨h1,h2⟩
       ·exact .inl h1
       ·exact .inr ⟨.inl h1,cellsAt_some h2,fun _ _ h=>by cases h⟩
   ·cases he1
  ·cases he
 ·cases he
end Go.Proofs.YtbhbjhejkamlnaaGreat.Sx.Z
namespace Go.Proofs.YtbhbjhejkamlnaaGreat.Sx.Z
open Go.RowKit
def paW (s:ByteArray):D:=tokD (lexR s).1
def paY (s:ByteArray):Rd:=syR (paW s) (s.size:Nat) (mR 0 0 0)
def paO (s:ByteArray):Bool:=decide ((lexR s).2.2=0)&&decide ((paY s).er=0)
def paC (s:ByteArray):D:=if paO s=true then (syC (paW s) (s.size:Nat) (mR 0 0 0)).1 else .l []
def paU (s:ByteArray):D:=if paO s=true then (syU (paW s) (s.size:Nat) (mR 0 0 0)).1 else .l []
def paP (s:ByteArray):D:=if paO s=true then (syP (paW s) (s.size:Nat) (mR 0 0 0)).1 else .l []
def paE (s:ByteArray):Int:=if (lexR s).2.2=0 then (paY s).er else (lexR s).2.2
def paA (s:ByteArray):Int:=if (lexR s).2.2=0 then (if (paY s).er=0 then 0 else (paY s).pa) else ((lexR s).2.1:Nat)
theorem ne_of_bne {a b:Int} (h:(a != b)=true):a≠b:=by simpa using h
theorem of_not_bne {a b:Int} (h:(a != b)=false):a=b:=by simpa using h
theorem lexR_len (s:ByteArray):(lexR s).1.length<=2000:=by
 unfold lexR;split
 ·exact Nat.zero_le _
 ·split
  ·exact Nat.zero_le _
  ·rename_i h;exact Nat.le_of_not_lt h
theorem paW_ok (s:ByteArray):rdOK (paW s) (mR 0 0 0).nx:=by
 have h:=lexR_len s;have e:(paW s).len=(lexR s).1.length:=tokD_len _;exact ⟨Int.le_refl _,by show (0:Int)<=_;omega,by omega⟩
noncomputable def parS:List Dat->Option Eff:=fun ds=>match ds with
 | [.s s]=>some {val:=.tup [.agg [.c (.osl 101 0 (.lit 0) (.sym ((paC s).len))),.c (.osl 106 1 (.lit 0) (.sym ((paU s).len))),.c (.osl 72 2 (.lit 0) (.sym ((paP s).len)))],.sc (.int .i64 (.sym (paA s))),.sc (.int .i64 (.sym (paE s)))],vc:=[s.size<=140737488351232],nw:=[(0,.orow 101 (paC s)),(1,.orow 106 (paU s)),(2,.orow 72 (paP s))]}
 |_=>none
noncomputable def parC:Con:=conS [.sc .str] parS
theorem par_ok:ConOK Tryz.prog 7 parC:=by
 refine fn_obS tt_ok mixed Tryz.func7 rfl (fun _ _=>by kernel_rfl) (A:=fun ds=>⟨fun _=>Cons.of [(16,lexC),(17,sysC)],fun _=>none,fun _=>none⟩) (fun _ _=>(cons_cons lex_ok (cons_cons sys_ok cons_nil))) (by kernel_rfl) ?_
 intro ds;unfold parS;split
 ·rename_i s;refine kmp (q:=withv (mR (0:Int) (0:Int) (0:Int)) fun E105=>withv (syR (tokD (lexR s).fst) (s.size:Int) E105) fun E106=>s.size<=140737488351232->s.size<=140737488351232/\(((lexR s).snd.snd != (0:Int))=true->(paC s).len=0/\(paU s).len=0/\(paP s).len=0/\(↑(lexR s).snd.fst:Int)=paA s/\(lexR s).snd.snd=paE s/\(paC s).rows=[]/\(paU s).rows=[]/\(paP s).rows=[])/\(((lexR s).snd.snd != (0:Int))=false->rdOK (tokD (lexR s).fst) (0:Int)/\((E106.er != (0:Int))=true->(paC s).len=0/\(paU s).len=0/\(paP s).len=0/\E106.pa=paA s/\E106.er=paE s/\(paC s).rows=[]/\(paU s).rows=[]/\(paP s).rows=[])/\((E106.er != (0:Int))=false->(syC (tokD (lexR s).fst) (s.size:Int) E105).fst.len=(paC s).len/\(syU (tokD (lexR s).fst) (s.size:Int) E105).fst.len=(paU s).len/\(syP (tokD (lexR s).fst) (s.size:Int) E105).fst.len=(paP s).len/\(0:Int)=paA s/\(0:Int)=paE s/\(syC (tokD (lexR s).fst) (s.size:Int) E105).fst.rows=(paC s).rows/\(syU (tokD (lexR s).fst) (s.size:Int) E105).fst.rows=(paU s).rows/\(syP (tokD (lexR s).fst) (s.size:Int) E105).fst.rows=(paP s).rows))) (by kernel_rfl) ?_
  dsimp +instances only [withv]
  intro h;have g:=paW_ok s;refine ⟨h,fun hc=>?_,fun hc=>⟨g,fun hd=>?_,fun hd=>?_⟩⟩
  ·have hc:(lexR s).2.2≠0:=by simpa using hc
   have e:paO s=false:=by simp only [paO,decide_eq_false hc,Bool.false_and]
   simp only [paC,paU,paP,paA,paE,e,if_neg hc,Bool.false_eq_true,if_false]
   (repeat' (with_reducible apply And.intro))<;>first |with_reducible rfl |exact True.intro |with_reducible assumption |decide |assumption |rfl
  ·have hc:(lexR s).2.2=0:=by simpa using hc
   have hd:(paY s).er≠0:=ne_of_bne hd;have e:paO s=false:=by simp only [paO,decide_eq_false hd,Bool.and_false]
   simp only [paC,paU,paP,paA,paE,e,if_pos hc,if_neg hd,Bool.false_eq_true,if_false]
   (repeat' (with_reducible apply And.intro))<;>first |with_reducible rfl |exact True.intro |with_reducible assumption |decide |assumption |rfl
  ·have hc:(lexR s).2.2=0:=by simpa using hc
   have hd:(paY s).er=0:=of_not_bne hd;have e:paO s=true:=by simp only [paO,decide_eq_true hc,decide_eq_true hd,Bool.and_self]
   simp only [paC,paU,paP,paA,paE,e,if_pos hc,if_pos hd,if_true,hd]
   (repeat' (with_reducible apply And.intro))<;>first |with_reducible rfl |exact True.intro |with_reducible assumption |decide |assumption |rfl
 ·trivial
end Go.Proofs.YtbhbjhejkamlnaaGreat.Sx.Z
