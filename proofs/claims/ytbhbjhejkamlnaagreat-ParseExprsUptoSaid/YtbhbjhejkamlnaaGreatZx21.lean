import Derived.Test.YtbhbjhejkamlnaaGreatZx20
import Derived.Test.YtbhbjhejkamlnaaGreatProg
import Derived.WalkKit
import Derived.WalkLawsBesides
import Derived.WalkSpells
import Derived.Outline
import Derived.Lib.Hide
import Derived.Test.YtbhbjhejkamlnaaGreatZx1
import Derived.Lib.Strings
import Derived.Lib.Walk
import Derived.Lib.BufferWrite
import Derived.Lib.UnsafeStr
import Derived.Laws.MakeOwn
import Derived.Deep.DeepFit
import Derived.Laws.OwnMore
import Derived.Test.YtbhbjhejkamlnaaGreatZx15
set_option linter.all false
namespace Go.Proofs.YtbhbjhejkamlnaaGreat.Sx.Z
open Go.RowKit
def csF (ws:D) (en:Int) (r:Rd):List D × Rd:=((chZ ws en (acR ws kwC r)).row,chR ws en (acR ws kwC r))
def usF (ws:D) (en:Int) (r:Rd):List D × Rd:=((ruZ ws en (acR ws kwU r)).row,ruR ws en (acR ws kwU r))
def psF (ws:D) (en:Int) (r:Rd):List D × Rd:=((poZ ws en (acR ws kwP r)).row,poR ws en (acR ws kwP r))
def syC (ws:D) (en:Int) (r:Rd):D × Rd:=aj (acG kwC ws) (csF ws en) ws (.l []) r
def syU (ws:D) (en:Int) (r:Rd):D × Rd:=aj (acG kwU ws) (usF ws en) ws (.l []) (syC ws en r).2
def syP (ws:D) (en:Int) (r:Rd):D × Rd:=aj (acG kwP ws) (psF ws en) ws (.l []) (syU ws en r).2
def syR (ws:D) (en:Int) (r:Rd):Rd:=fiR ws en (syP ws en r).2
theorem px {ws:D} (en:Int):SqOK ws (acG kwC ws) (csF ws en):=⟨fun r h hg=>by
 have a:=dK (t:=kwC) h (by decide);have b:=(zt en a.1).2.2.2;exact ⟨b.1,Int.lt_of_lt_of_le (mP hg) b.2⟩⟩
theorem py {ws:D} (en:Int):SqOK ws (acG kwU ws) (usF ws en):=⟨fun r h hg=>by
 have a:=dK (t:=kwU) h (by decide);have b:=(zA en a.1).2.2.2;exact ⟨b.1,Int.lt_of_lt_of_le (mP hg) b.2⟩⟩
theorem pz {ws:D} (en:Int):SqOK ws (acG kwP ws) (psF ws en):=⟨fun r h hg=>by
 have a:=dK (t:=kwP) h (by decide);have b:=(zB en a.1).2.2.2.2;exact ⟨b.1,Int.lt_of_lt_of_le (mP hg) b.2⟩⟩
theorem HX {ws:D} (en:Int) {r:Rd} (h:aa ws r.nx):aa ws (syC ws en r).2.nx/\aa ws (syU ws en r).2.nx/\aa ws (syP ws en r).2.nx:=by
 have a:=dz (px en) (.l []) h;have b:=dz (py en) (.l []) a.1;exact ⟨a.1,b.1,(dz (pz en) (.l []) b.1).1⟩
noncomputable def zG:List Dat->Option (Eff × List Seg):=fun ds=>match ds with
 | [.d ws,.i nx,.i en,.i pa,.i er]=>some ({val:=.one (.agg [.c (.osl 101 0 (.lit 0) (.sym ((syC ws en (mR nx pa er)).1.len))),.c (.osl 106 1 (.lit 0) (.sym ((syU ws en (mR nx pa er)).1.len))),.c (.osl 72 2 (.lit 0) (.sym ((syP ws en (mR nx pa er)).1.len)))]),vc:=[aa ws nx],nw:=[(0,.orow 101 ((syC ws en (mR nx pa er)).1)),(1,.orow 106 ((syU ws en (mR nx pa er)).1)),(2,.orow 72 ((syP ws en (mR nx pa er)).1))]},[.c (.rows 124 ws),.c (.int .i64 (.sym ((syR ws en (mR nx pa er)).nx))),.c (.int .i64 (.sym en)),.c (.int .i64 (.sym ((syR ws en (mR nx pa er)).pa))),.c (.int .i64 (.sym ((syR ws en (mR nx pa er)).er)))])
 |_=>none
noncomputable def zH:Con:=ba 85 [.c (.rows 124),.c (.int .i64),.c (.int .i64),.c (.int .i64),.c (.int .i64)] [] zG
theorem HY:ConOK Tryz.prog 17 zH:=by
 refine bk tt_ok au Tryz.func17 rfl (fun _ _=>by kernel_rfl) (A:=fun ds=>⟨fun _=>Cons.of [(46,zy),(47,zD),(48,zF),(45,jx),(49,yu)],fun k=>match k,ds with | 2,[.d ws,.i nx,.i en,.i pa,.i er]=>some {ι:=D × Rd,pre:=fun _ q=>aa ws q.2.nx/\(aj (acG kwC ws) (csF ws en) ws q.1 q.2=(syC ws en (mR nx pa er)))/\q.1.len+left ws q.2<=1000001,μ:=fun q=>left ws q.2,st:=fun s q=>gh s [] [0,2,3] [(0,.own 85 ([.c (.rows 124 ws),.c (.int .i64 (.sym ((q.2).nx))),.c (.int .i64 (.sym en)),.c (.int .i64 (.sym ((q.2).pa))),.c (.int .i64 (.sym ((q.2).er)))])),(bj s 3,.own 48 ([.c (.osl 101 s.nx (.lit 0) (.sym (q.1.len))),.c .nils,.c .nils])),(s.nx,.orow 101 (q.1))] [2]} | 4,[.d ws,.i nx,.i en,.i pa,.i er]=>some {ι:=D × Rd,pre:=fun _ q=>aa ws q.2.nx/\(aj (acG kwU ws) (usF ws en) ws q.1 q.2=(syU ws en (mR nx pa er)))/\q.1.len+left ws q.2<=1000001,μ:=fun q=>left ws q.2,st:=fun s q=>gh s [] [0,2,3] [(0,.own 85 ([.c (.rows 124 ws),.c (.int .i64 (.sym ((q.2).nx))),.c (.int .i64 (.sym en)),.c (.int .i64 (.sym ((q.2).pa))),.c (.int .i64 (.sym ((q.2).er)))])),(bj s 3,.own 48 ([.c (.osl 101 (cT s 3 0) (.lit 0) (.sym ((syC ws en (mR nx pa er)).1.len))),.c (.osl 106 s.nx (.lit 0) (.sym (q.1.len))),.c .nils])),(cT s 3 0,.orow 101 ((syC ws en (mR nx pa er)).1)),(s.nx,.orow 106 (q.1))] [2]} | 6,[.d ws,.i nx,.i en,.i pa,.i er]=>some {ι:=D × Rd,pre:=fun _ q=>aa ws q.2.nx/\(aj (acG kwP ws) (psF ws en) ws q.1 q.2=(syP ws en (mR nx pa er)))/\q.1.len+left ws q.2<=1000001,μ:=fun q=>left ws q.2,st:=fun s q=>gh s [] [0,2,3] [(0,.own 85 ([.c (.rows 124 ws),.c (.int .i64 (.sym ((q.2).nx))),.c (.int .i64 (.sym en)),.c (.int .i64 (.sym ((q.2).pa))),.c (.int .i64 (.sym ((q.2).er)))])),(bj s 3,.own 48 ([.c (.osl 101 (cT s 3 0) (.lit 0) (.sym ((syC ws en (mR nx pa er)).1.len))),.c (.osl 106 (cT s 3 1) (.lit 0) (.sym ((syU ws en (mR nx pa er)).1.len))),.c (.osl 72 s.nx (.lit 0) (.sym (q.1.len)))])),(cT s 3 0,.orow 101 ((syC ws en (mR nx pa er)).1)),(cT s 3 1,.orow 106 ((syU ws en (mR nx pa er)).1)),(s.nx,.orow 72 (q.1))] [2]} |_,_=>none,fun _=>none⟩) (fun _ _=>(af HU (af HV (af HW (af kE (af G2 aq)))))) (by kernel_rfl) ?_
 intro ds;unfold zG;split
 ·rename_i ws nx en pa er
  refine kmp (q:=ac (fun (i:D × Rd)=>chZ ws en (acR ws kwC i.snd)) fun Ea=>ac (fun (i:D × Rd)=>poZ ws en (acR ws kwP i.snd)) fun Eb=>ac (syC ws en (mR nx pa er)) fun Ec=>ac (fun (i:D × Rd)=>ruZ ws en (acR ws kwU i.snd)) fun Ed=>ac (fun (i:D × Rd)=>D.l [[D.s (Ea i).nm,D.i (Ea i).k,D.i (Ea i).n,D.s (Ea i).fr,D.s (Ea i).to,(Ea i).tg.sub 0 ((0:Nat)+(Ea i).tg.len)]]) fun Ee=>ac (fun (i:D × Rd)=>D.l [[D.s (Eb i).nm,(Eb i).vs.sub 0 ((0:Nat)+(Eb i).vs.len),(Eb i).b.sub 0 ((0:Nat)+(Eb i).b.len)]]) fun Ef=>ac (syU ws en (mR nx pa er)) fun Eg=>ac (fun (i:D × Rd)=>D.l [[D.s (Ed i).ch,(Ed i).mv.sub 0 ((0:Nat)+(Ed i).mv.len)]]) fun Eh=>aa ws nx->(∃ (i:D × Rd),(aa ws i.snd.nx/\aj (acG kwC ws) (csF ws en) ws i.fst i.snd=syC ws en (mR nx pa er)/\i.fst.len+left ws i.snd<=(1000001:Nat))/\ws.rows=ws.rows/\nx=i.snd.nx/\en=en/\pa=i.snd.pa/\er=i.snd.er/\i.fst.len=0/\i.fst.rows=[])/\∀ (i:D × Rd),aa ws i.snd.nx/\aj (acG kwC ws) (csF ws en) ws i.fst i.snd=syC ws en (mR nx pa er)/\i.fst.len+left ws i.snd<=1000001->aa ws i.snd.nx/\0<kwC.size/\(acB ws i.snd.nx kwC=true->aa ws (acR ws kwC i.snd).nx/\0+(Ea i).tg.len<=(Ea i).tg.len/\i.fst.len=i.fst.len/\(i.fst.len+((Ee i).sub 0 1).len)*88<=140737488355328/\0+1<=(Ee i).len/\∃ (j:D × Rd),(aa ws j.snd.nx/\aj (acG kwC ws) (csF ws en) ws j.fst j.snd=syC ws en (mR nx pa er)/\j.fst.len+left ws j.snd<=(1000001:Nat))/\left ws j.snd<left ws i.snd/\ws.rows=ws.rows/\(chR ws en (acR ws kwC i.snd)).nx=j.snd.nx/\en=en/\(chR ws en (acR ws kwC i.snd)).pa=j.snd.pa/\(chR ws en (acR ws kwC i.snd)).er=j.snd.er/\i.fst.len+((Ee i).sub 0 1).len=j.fst.len/\i.fst.rows++List.drop 0 (List.take 1 [[D.s (Ea i).nm,D.i (Ea i).k,D.i (Ea i).n,D.s (Ea i).fr,D.s (Ea i).to,(Ea i).tg.sub 0 ((0:Nat)+(Ea i).tg.len)]])=j.fst.rows)/\(acB ws i.snd.nx kwC=false->(∃ (i_1:D × Rd),(aa ws i_1.snd.nx/\aj (acG kwU ws) (usF ws en) ws i_1.fst i_1.snd=syU ws en (mR nx pa er)/\i_1.fst.len+left ws i_1.snd<=(1000001:Nat))/\ws.rows=ws.rows/\(acR ws kwC i.snd).nx=i_1.snd.nx/\en=en/\(acR ws kwC i.snd).pa=i_1.snd.pa/\(acR ws kwC i.snd).er=i_1.snd.er/\i.fst.len=Ec.fst.len/\i_1.fst.len=0/\i.fst.rows=Ec.fst.rows/\i_1.fst.rows=[])/\∀ (i:D × Rd),aa ws i.snd.nx/\aj (acG kwU ws) (usF ws en) ws i.fst i.snd=syU ws en (mR nx pa er)/\i.fst.len+left ws i.snd<=1000001->aa ws i.snd.nx/\0<kwU.size/\(acB ws i.snd.nx kwU=true->aa ws (acR ws kwU i.snd).nx/\0+(Ed i).mv.len<=(Ed i).mv.len/\i.fst.len=i.fst.len/\(i.fst.len+((Eh i).sub 0 1).len)*40<=140737488355328/\0+1<=(Eh i).len/\∃ (j:D × Rd),(aa ws j.snd.nx/\aj (acG kwU ws) (usF ws en) ws j.fst j.snd=syU ws en (mR nx pa er)/\j.fst.len+left ws j.snd<=(1000001:Nat))/\left ws j.snd<left ws i.snd/\ws.rows=ws.rows/\(ruR ws en (acR ws kwU i.snd)).nx=j.snd.nx/\en=en/\(ruR ws en (acR ws kwU i.snd)).pa=j.snd.pa/\(ruR ws en (acR ws kwU i.snd)).er=j.snd.er/\Ec.fst.len=Ec.fst.len/\i.fst.len+((Eh i).sub 0 1).len=j.fst.len/\Ec.fst.rows=Ec.fst.rows/\i.fst.rows++List.drop 0 (List.take 1 [[D.s (Ed i).ch,(Ed i).mv.sub 0 ((0:Nat)+(Ed i).mv.len)]])=j.fst.rows)/\(acB ws i.snd.nx kwU=false->(∃ (i_1:D × Rd),(aa ws i_1.snd.nx/\aj (acG kwP ws) (psF ws en) ws i_1.fst i_1.snd=syP ws en (mR nx pa er)/\i_1.fst.len+left ws i_1.snd<=(1000001:Nat))/\ws.rows=ws.rows/\(acR ws kwU i.snd).nx=i_1.snd.nx/\en=en/\(acR ws kwU i.snd).pa=i_1.snd.pa/\(acR ws kwU i.snd).er=i_1.snd.er/\Ec.fst.len=Ec.fst.len/\i.fst.len=Eg.fst.len/\i_1.fst.len=0/\Ec.fst.rows=Ec.fst.rows/\i.fst.rows=Eg.fst.rows/\i_1.fst.rows=[])/\∀ (i:D × Rd),aa ws i.snd.nx/\aj (acG kwP ws) (psF ws en) ws i.fst i.snd=syP ws en (mR nx pa er)/\i.fst.len+left ws i.snd<=1000001->aa ws i.snd.nx/\0<kwP.size/\(acB ws i.snd.nx kwP=true->aa ws (acR ws kwP i.snd).nx/\0+(Eb i).vs.len<=(Eb i).vs.len/\0+(Eb i).b.len<=(Eb i).b.len/\i.fst.len=i.fst.len/\(i.fst.len+((Ef i).sub 0 1).len)*64<=140737488355328/\0+1<=(Ef i).len/\∃ (j:D × Rd),(aa ws j.snd.nx/\aj (acG kwP ws) (psF ws en) ws j.fst j.snd=syP ws en (mR nx pa er)/\j.fst.len+left ws j.snd<=(1000001:Nat))/\left ws j.snd<left ws i.snd/\ws.rows=ws.rows/\(poR ws en (acR ws kwP i.snd)).nx=j.snd.nx/\en=en/\(poR ws en (acR ws kwP i.snd)).pa=j.snd.pa/\(poR ws en (acR ws kwP i.snd)).er=j.snd.er/\Ec.fst.len=Ec.fst.len/\Eg.fst.len=Eg.fst.len/\i.fst.len+((Ef i).sub 0 1).len=j.fst.len/\Ec.fst.rows=Ec.fst.rows/\Eg.fst.rows=Eg.fst.rows/\i.fst.rows++List.drop 0 (List.take 1 [[D.s (Eb i).nm,(Eb i).vs.sub 0 ((0:Nat)+(Eb i).vs.len),(Eb i).b.sub 0 ((0:Nat)+(Eb i).b.len)]])=j.fst.rows)/\(acB ws i.snd.nx kwP=false->aa ws (acR ws kwP i.snd).nx/\Ec.fst.len=Ec.fst.len/\Eg.fst.len=Eg.fst.len/\i.fst.len=(syP ws en (mR nx pa er)).fst.len/\ws.rows=ws.rows/\(fiR ws en (acR ws kwP i.snd)).nx=(syR ws en (mR nx pa er)).nx/\en=en/\(fiR ws en (acR ws kwP i.snd)).pa=(syR ws en (mR nx pa er)).pa/\(fiR ws en (acR ws kwP i.snd)).er=(syR ws en (mR nx pa er)).er/\Ec.fst.rows=Ec.fst.rows/\Eg.fst.rows=Eg.fst.rows/\i.fst.rows=(syP ws en (mR nx pa er)).fst.rows)))) (by kernel_rfl) ?_
  dsimp +instances only [ac]
  intro h;obtain ⟨a,b,c⟩:=HX en (r:=mR nx pa er) h;refine ⟨⟨(.l [],(mR nx pa er)),⟨h,rfl,(by show 0+left ws (mR nx pa er)<=1000001;have:=(bo (r:=(mR nx pa er)) h).2;omega)⟩,?_⟩,?_⟩
  ·(repeat' with_reducible constructor)<;>first |assumption |decide |rfl
  rintro q ⟨h1,h2,h3⟩;refine ⟨h1,by decide,fun hc=>?_,fun hc=>?_⟩
  ·have hg:acG kwC ws q.2=true:=hc;obtain ⟨u1,u2⟩:=(px en).up q.2 h1 hg;have u3:=da u1 h1 u2;have hs:=cL (px en) (d:=q.1) h1 hg;have hz:(q.1.len+1)*88<=140737488355328:=by omega
   have hl:(D.l (q.1.rows++[(csF ws en q.2).1])).len+left ws (csF ws en q.2).2<=1000001:=by rw[bf];omega
   have m1:=(dK (t:=kwC) h1 (by decide)).1;refine ⟨m1,Nat.le_of_eq (Nat.zero_add _),rfl,hz,Nat.le_refl 1,(.l (q.1.rows++[(csF ws en q.2).1]),(csF ws en q.2).2),⟨u1,hs.trans h2,hl⟩,u3,?_⟩;simp only[bu]
   (repeat' (with_reducible apply And.intro))<;>first |with_reducible rfl |exact True.intro |exact (bf _ _).symm |rfl
  have hg:acG kwC ws q.2=false:=hc;have h2:(q.1,q.2)=(syC ws en (mR nx pa er)):=(bv hg).symm.trans h2;rw[dI (r:=q.2) hc];refine ⟨⟨(.l [],(syC ws en (mR nx pa er)).2),⟨a,rfl,(by show 0+left ws (syC ws en (mR nx pa er)).2<=1000001;have:=(bo (r:=(syC ws en (mR nx pa er)).2) a).2;omega)⟩,?_⟩,?_⟩
  ·simp only[<- h2]
   (repeat' with_reducible constructor)<;>first |assumption |decide |rfl
  rintro q ⟨h1,h2,h3⟩;refine ⟨h1,by decide,fun hc=>?_,fun hc=>?_⟩
  ·have hg:acG kwU ws q.2=true:=hc;obtain ⟨u1,u2⟩:=(py en).up q.2 h1 hg;have u3:=da u1 h1 u2;have hs:=cL (py en) (d:=q.1) h1 hg;have hz:(q.1.len+1)*40<=140737488355328:=by omega
   have hl:(D.l (q.1.rows++[(usF ws en q.2).1])).len+left ws (usF ws en q.2).2<=1000001:=by rw[bf];omega
   have m1:=(dK (t:=kwU) h1 (by decide)).1;refine ⟨m1,Nat.le_of_eq (Nat.zero_add _),rfl,hz,Nat.le_refl 1,(.l (q.1.rows++[(usF ws en q.2).1]),(usF ws en q.2).2),⟨u1,hs.trans h2,hl⟩,u3,?_⟩;simp only[bu]
   (repeat' (with_reducible apply And.intro))<;>first |with_reducible rfl |exact True.intro |exact (bf _ _).symm |rfl
  have hg:acG kwU ws q.2=false:=hc;have h2:(q.1,q.2)=(syU ws en (mR nx pa er)):=(bv hg).symm.trans h2;rw[dI (r:=q.2) hc];refine ⟨⟨(.l [],(syU ws en (mR nx pa er)).2),⟨b,rfl,(by show 0+left ws (syU ws en (mR nx pa er)).2<=1000001;have:=(bo (r:=(syU ws en (mR nx pa er)).2) b).2;omega)⟩,?_⟩,?_⟩
  ·simp only[<- h2]
   (repeat' with_reducible constructor)<;>first |assumption |decide |rfl
  rintro q ⟨h1,h2,h3⟩;refine ⟨h1,by decide,fun hc=>?_,fun hc=>?_⟩
  ·have hg:acG kwP ws q.2=true:=hc;obtain ⟨u1,u2⟩:=(pz en).up q.2 h1 hg;have u3:=da u1 h1 u2;have hs:=cL (pz en) (d:=q.1) h1 hg;have hz:(q.1.len+1)*64<=140737488355328:=by omega
   have hl:(D.l (q.1.rows++[(psF ws en q.2).1])).len+left ws (psF ws en q.2).2<=1000001:=by rw[bf];omega
   have m1:=(dK (t:=kwP) h1 (by decide)).1;refine ⟨m1,Nat.le_of_eq (Nat.zero_add _),Nat.le_of_eq (Nat.zero_add _),rfl,hz,Nat.le_refl 1,(.l (q.1.rows++[(psF ws en q.2).1]),(psF ws en q.2).2),⟨u1,hs.trans h2,hl⟩,u3,?_⟩;simp only[bu]
   (repeat' (with_reducible apply And.intro))<;>first |with_reducible rfl |exact True.intro |exact (bf _ _).symm |rfl
  have hg:acG kwP ws q.2=false:=hc;have h2:(q.1,q.2)=(syP ws en (mR nx pa er)):=(bv hg).symm.trans h2;rw[dI (r:=q.2) hc];simp only[syR,<- h2]
  (repeat' with_reducible constructor)<;>first |assumption |decide |rfl
 ·trivial
end Go.Proofs.YtbhbjhejkamlnaaGreat.Sx.Z
namespace Go.Proofs.YtbhbjhejkamlnaaGreat
open Go.RowKit
theorem pA (n:Int) (w:World):Calls Tryz.prog 42 #[.int .u8 n] w fun e w'=>e = .returned (.bool (hH n))/\w=w':=by
 unfold hH
 go_enter Tryz.func42,Tryz.ntmps42
 go_wp2
 all_goals
  go_ret
  exact ⟨by first |(simp [*];done) |(simp [*];omega),rfl⟩
theorem eh (n:Int) (w:World):Calls Tryz.prog 70 #[.int .u8 n] w fun e w'=>e = .returned (.bool (bQ n))/\w=w':=by
 unfold bQ
 go_enter Tryz.func70,Tryz.ntmps70
 go_wp2
 all_goals
  go_ret
  exact ⟨by first |(simp [*];done) |(simp [*];omega),rfl⟩
theorem dM (n:Int) (w:World):Calls Tryz.prog 72 #[.int .u8 n] w fun e w'=>e = .returned (.bool (bF n))/\w=w':=by
 unfold bF
 go_enter Tryz.func72,Tryz.ntmps72
 go_wp2
 all_goals
  go_ret
  exact ⟨by first |(simp [*];done) |(simp [*];omega),rfl⟩
set_option maxHeartbeats 1000000 in
theorem zI (s:ByteArray) (w:World):Calls Tryz.prog 87 #[.string s] w fun e w'=>e = .returned (.bool (et s.toList))/\w=w':=by
 unfold et
 go_enter Tryz.func87,Tryz.ntmps87
 go_wp2
 all_goals
  go_ret
  refine ⟨?_,rfl⟩
  first |(simp [*];done) |(exfalso;simp_all;done)
theorem sP {a b:Int} (h:a=b):Ending.returned (.int .i64 a) = .returned (.int .i64 b):=by rw[h]
set_option maxHeartbeats 1000000 in
theorem HZ (s:ByteArray) (w:World) (h0:0<s.size) (h1:s.size<=1) :
 Calls Tryz.prog 74 #[.string s] w fun e w'=>e = .returned (.int .i64 (de (s[0].toNat:Int) false))/\w=w':=by
 go_enter Tryz.func74,Tryz.ntmps74
 go_wp2
 all_goals
  go_ret
  refine ⟨sP ?_,rfl⟩;simp only[beq_iff_eq,beq_eq_false_iff_ne,ne_eq] at *;unfold de;simp [*]
set_option maxHeartbeats 2000000 in
theorem H0 (s:ByteArray) (w:World) (h0:0<s.size) (h1:1<s.size) :
 Calls Tryz.prog 74 #[.string s] w fun e w'=>e = .returned (.int .i64 (de (s[0].toNat:Int) ((s[1].toNat:Int)==61)))/\w=w':=by
 rcases Bool.eq_false_or_eq_true ((s[1].toNat:Int)==61) with hp |hp
 all_goals
  rw[hp]
  go_enter Tryz.func74,Tryz.ntmps74
  go_wp2
  all_goals
   go_ret
   refine ⟨sP ?_,rfl⟩;simp only[beq_iff_eq,beq_eq_false_iff_ne,ne_eq] at *;unfold de;simp [*]
theorem H1 (s:ByteArray) (w:World) (h0:0<s.size) :
 Calls Tryz.prog 74 #[.string s] w fun e w'=>e = .returned (.int .i64 (de (s[0].toNat:Int) (hZ s.data.toList)))/\w=w':=by
 by_cases h1:1<s.size
 ·refine (H0 s w h0 h1).mono fun e w' ⟨he,hw⟩=>⟨he.trans ?_,hw⟩
  rw[F2 s.data.toList (by simpa using h1)];rfl
 ·refine (HZ s w h0 (by omega)).mono fun e w' ⟨he,hw⟩=>⟨he.trans ?_,hw⟩
  rw[F3 s.data.toList (by simp;omega)]
theorem H2:(Tryz.prog.info? 5).map (fun i=>(i.zero,i.size,i.bytes))=some (some (.int .u8 0),1,1):=by kernel_rfl
set_option maxHeartbeats 2000000 in
set_option maxRecDepth 100000 in
theorem H3 (s:ByteArray) (w:World) (hlim:s.size<=281474976710656) :
 Calls Tryz.prog 75 #[.string s] w fun e w'=>e = .returned (.string s)/\Below w.heap.size w w':=by
 by_cases h0:s.size=0
 ·have hs:s=⟨#[]⟩:=by
   apply ByteArray.ext
   exact Array.eq_empty_of_size_eq_zero h0
  subst hs
  go_enter Tryz.func75,Tryz.ntmps75
  go_wp2
  go_ret
  exact ⟨rfl,Below.refl _ _⟩
 ·obtain ⟨i0,hi,hz0,hz1,hz2⟩:=info_parts H2;have hinfo:(Tryz.prog.info? 5).map (·.size)=some 1:=by rw[hi];simp [hz1]
  have hco:Tryz.prog.cellsOf 5=1:=by simp [Program.cellsOf,hi,hz1]
  obtain ⟨M,hM⟩:∃ M,M=madeCells (Value.int .u8 0).cells (((s.size:Nat):Int).toNat*i0.size):=⟨_,rfl⟩;have hMs:M.size=s.size:=by rw[hM,size_madeCells,hz1];simp
  have hmk:∀ W:World,(Instr.makeSlice 146 (.int .i64 (s.size:Int)) (.int .i64 (s.size:Int))).run Tryz.prog W = .ok (.slice (some ⟨W.heap.size,0,none⟩) s.size s.size) (W.alloc (.cells M 5)):=fun W=>by
   have h:=run_make (P:=Tryz.prog) W 146 5 i0 (.int .u8 0) Tryz.underlying146 hi hz0 .i64 .i64 (s.size:Int) (s.size:Int) (by omega) (by omega) (by rw[hz2];omega) (by omega);rw[<- hM] at h
   simpa using h
  clear hM;have hcp:=Lib.run_copy_row_string (P:=Tryz.prog) (w.alloc (.cells M 5)) 146 9 3 5 w.heap.size 0 s.size s.size s M 5 Tryz.underlying146 hinfo (heap_alloc_new w _) (Nat.le_refl _) (by omega);obtain ⟨Y,hY⟩:∃ Y,Y=(M.toList.take 0++Lib.byteCells s.data.toList++M.toList.drop (0+s.size)).toArray:=⟨_,rfl⟩;rw[<- hY] at hcp;have hYl:Y.toList=Lib.byteCells s.data.toList:=by
   rw[hY,List.toList_toArray,List.take_zero,List.nil_append,List.drop_of_length_le (by rw[Array.length_toList];omega),List.append_nil]
  have hYs:Y.size=s.size:=by rw[<- Array.length_toList,hYl,Lib.byteCells_length,<- Lib.size_eq]
  have hgY:((w.alloc (.cells M 5)).setRow w.heap.size Y).heap[w.heap.size]? = some (.cells Y 5 (0,0)):=setRow_heap _ _ M _ 5 (0,0) (heap_alloc_new w _);have hne:s.data.toList≠[]:=fun e=>h0 (by rw[Lib.size_eq,e];rfl)
  have hUS:=Lib.run_unsafeString_row (P:=Tryz.prog) ((w.alloc (.cells M 5)).setRow w.heap.size Y) 155 3 9 5 Tryz.underlying155 hco w.heap.size Y.size (by unfold World.shape?;rw[hgY]) s.data.toList hne (by rw[<- Lib.size_eq];omega) (by rw[<- Lib.size_eq];omega)
   (fun j x hx=>Lib.cells_of_row hgY Y.size j _ (by rw[List.take_of_length_le (by rw[Array.length_toList];exact Nat.le_refl _),hYl];simp [Lib.byteCells,hx]))
  rw[<- Lib.size_eq] at hUS;clear hY
  go_enter Tryz.func75,Tryz.ntmps75
  go_wp2
  go_ret
  have hb1:Below w.heap.size w (w.alloc (.cells M 5)):=(Below.refl _ w).alloc (Nat.le_refl _) _;have hb2:Below w.heap.size (w.alloc (.cells M 5)) ((w.alloc (.cells M 5)).setRow w.heap.size Y):=⟨rfl,rfl,rfl,by simp,fun k hk=>setRow_other _ _ _ _ (by omega)⟩;exact ⟨rfl,Lib.below_freeze (hb1.trans hb2) (p:=⟨w.heap.size,0,none⟩) (Nat.le_refl _) _⟩
theorem H4 (s:ByteArray) (w:World) (hlim:s.size<=281474976710656) :
 Calls Tryz.prog 44 #[.string s] w fun e w'=>e = .returned (.string s)/\Below w.heap.size w w':=by
 go_enter Tryz.func44,Tryz.ntmps44
 go_wp2_with (go_at_call 75;refine (H3 _ _ hlim).mono ?_;rintro e w1 ⟨rfl,hb⟩)
 go_ret
 exact ⟨rfl,hb⟩
def wV (s:ByteArray) (p:Nat):Except Int (Int × Nat × Int)->Value
 | .error e=>.tuple #[.agg #[.int .i64 0,.string ⟨#[]⟩,.int .i64 0,.int .i64 0],.int .i64 e]
 | .ok (k,n,m)=>.tuple #[.agg #[.int .i64 k,.string (s.extract p (p+n)),.int .i64 m,.int .i64 p],.int .i64 0]
theorem pB {s:ByteArray} {p:Nat} {x y:Except Int (Int × Nat × Int)} (h:x=y):Ending.returned (wV s p y) = .returned (wV s p x):=by rw[h]
theorem sQ {s:ByteArray} {p n k:Nat} {kk m:Int} {x:Except Int (Int × Nat × Int)} (h:x = .ok (kk,n,m)) (hk:p+n=k):Ending.returned (.tuple #[.agg #[.int .i64 kk,.string (s.extract p k),.int .i64 m,.int .i64 p],.int .i64 0]) = .returned (wV s p x):=by
 rw[h,<- hk];rfl
set_option maxHeartbeats 4000000 in
theorem zJ (s:ByteArray) (p:Nat) (w:World) (hs:s.size<=maxLen) (hp:p<s.size) :
 Calls Tryz.prog 71 #[.string s,.int .i64 p] w fun e w'=>e = .returned (wV s p (cQ (s.data.toList.drop p)))/\Below w.heap.size w w':=by
 unfold maxLen at hs
 go_enter Tryz.func71,Tryz.ntmps71
 go_wp2_with fail
 go_loop [6] (fun i=>∃ k:Nat,Run aU s p k/\i = .int .i64 k) (fun i=>s.size-(intOf i).toNat)
 case atStart=>exact ⟨p,Run.start (by omega),rfl⟩
 case round=>
  obtain ⟨k,hk,rfl⟩:=hrel;have hk1:=hk.1;have hk2:=hk.2.1;have hcase:(∃ h:k<s.size,bQ (s[k].toNat:Int)=true) ∨ (∃ h:k<s.size,bQ (s[k].toNat:Int)=false/\bF (s[k].toNat:Int)=true) ∨ (∃ h:k<s.size,bQ (s[k].toNat:Int)=false/\bF (s[k].toNat:Int)=false) ∨ s.size<=k:=by
   by_cases hlt:k<s.size
   ·rcases Bool.eq_false_or_eq_true (bQ (s[k].toNat:Int)) with hl |hl
    ·exact .inl ⟨hlt,hl⟩
    ·rcases Bool.eq_false_or_eq_true (bF (s[k].toNat:Int)) with hd |hd
     ·exact .inr (.inl ⟨hlt,hl,hd⟩)
     ·exact .inr (.inr (.inl ⟨hlt,hl,hd⟩))
   ·exact .inr (.inr (.inr (by omega)))
  rcases hcase with ⟨hlt,hl⟩ |⟨hlt,hl,hd⟩ |hcase
  ·go_wp2_with (first |(go_at_call 70;refine (eh _ _).mono ?_;rintro e w' ⟨rfl,rfl⟩) |(go_at_call 72;refine (dM _ _).mono ?_;rintro e w' ⟨rfl,rfl⟩))
   go_round
   case rel=>exact ⟨k+1,hk.step hlt (by simp [aU,bG,hl]),by go_num⟩
   case measure=>simp [intOf];omega
  ·go_wp2_with (first |(go_at_call 70;refine (eh _ _).mono ?_;rintro e w' ⟨rfl,rfl⟩) |(go_at_call 72;refine (dM _ _).mono ?_;rintro e w' ⟨rfl,rfl⟩))
   go_round
   case rel=>exact ⟨k+1,hk.step hlt (by simp [aU,ay,hd]),by go_num⟩
   case measure=>simp [intOf];omega
  ·have hn:lenOf aU (s.data.toList.drop p)=k-p:=by
    rcases hcase with ⟨hlt,hl,hd⟩ |hge
    ·exact hk.len (fun h=>by rw[dF s k h];simp [aU,bG,ay,hl,hd])
    ·exact hk.len (fun h=>absurd h (by omega))
   by_cases h12:12<k-p
   ·have Hfin:=Lib.hid (show cQ (s.data.toList.drop p) = .error 3 by unfold cQ;rw[hn,if_pos h12]);clear hn
    rcases hcase with ⟨hlt,hl,hd⟩ |hge
    all_goals
     go_wp2_with (first |(go_at_call 70;refine (eh _ _).mono ?_;rintro e w' ⟨rfl,rfl⟩) |(go_at_call 72;refine (dM _ _).mono ?_;rintro e w' ⟨rfl,rfl⟩))
     exact bodyPost_ret (v:=.tuple #[.agg #[.int .i64 0,.string ⟨#[]⟩,.int .i64 0,.int .i64 0],.int .i64 3]) (by simp [results,Tryz.results71,go_sem]) rfl ⟨pB Hfin.out,(Below.refl _ _).alloc (Nat.le_refl _) _⟩
   ·have ht:(s.extract p k).toList=(s.data.toList.drop p).take (k-p):=Lib.extract_toList s p k
    rcases Bool.eq_false_or_eq_true (et (s.extract p k).toList) with hr |hr
    ·have Hfin:=Lib.hid (show cQ (s.data.toList.drop p) = .ok (4,k-p,0) by unfold cQ;rw[hn,if_neg h12,<- ht,if_pos hr]);clear hn ht
     rcases hcase with ⟨hlt,hl,hd⟩ |hge
     all_goals
      go_wp2_with (first |(go_at_call 70;refine (eh _ _).mono ?_;rintro e w' ⟨rfl,rfl⟩) |(go_at_call 72;refine (dM _ _).mono ?_;rintro e w' ⟨rfl,rfl⟩) |(go_at_call 87;refine (zI _ _).mono ?_;rintro e w' ⟨rfl,rfl⟩))
      exact bodyPost_ret (v:=.tuple #[.agg #[.int .i64 4,.string (s.extract p k),.int .i64 0,.int .i64 p],.int .i64 0]) (by simp [results,Tryz.results71,go_sem]) rfl ⟨sQ Hfin.out (by omega),((Below.refl _ _).alloc (Nat.le_refl _) _).alloc (by simp) _⟩
    ·have Hfin:=Lib.hid (show cQ (s.data.toList.drop p) = .ok (1,k-p,0) by unfold cQ;rw[hn,if_neg h12,<- ht,if_neg (by rw[hr];decide)]);clear hn ht
     rcases hcase with ⟨hlt,hl,hd⟩ |hge
     all_goals
      go_wp2_with (first |(go_at_call 70;refine (eh _ _).mono ?_;rintro e w' ⟨rfl,rfl⟩) |(go_at_call 72;refine (dM _ _).mono ?_;rintro e w' ⟨rfl,rfl⟩) |(go_at_call 87;refine (zI _ _).mono ?_;rintro e w' ⟨rfl,rfl⟩))
      exact bodyPost_ret (v:=.tuple #[.agg #[.int .i64 1,.string (s.extract p k),.int .i64 0,.int .i64 p],.int .i64 0]) (by simp [results,Tryz.results71,go_sem]) rfl ⟨sQ Hfin.out (by omega),((Below.refl _ _).alloc (Nat.le_refl _) _).alloc (by simp) _⟩
set_option maxHeartbeats 4000000 in
theorem zK (s:ByteArray) (p:Nat) (w:World) (hs:s.size<=maxLen) (hp:p<s.size) :
 Calls Tryz.prog 73 #[.string s,.int .i64 p] w fun e w'=>e = .returned (wV s p (cq (s.data.toList.drop p)))/\Below w.heap.size w w':=by
 unfold maxLen at hs
 go_enter Tryz.func73,Tryz.ntmps73
 go_wp2_with fail
 go_loop [6,7] (fun i m=>∃ k v:Nat,Run ay s p k/\vl s p k=v/\v<=2147483647/\i = .int .i64 k/\m = .int .i64 v) (fun i _=>s.size-(intOf i).toNat)
 case atStart=>exact ⟨p,0,Run.start (by omega),rf s p,by omega,rfl,rfl⟩
 case round=>
  obtain ⟨k,v,hk,hv,hv1,rfl,rfl⟩:=hrel;have hk1:=hk.1;have hk2:=hk.2.1;have Hv:=Lib.hid hv;clear hv
  by_cases hin:∃ h:k<s.size,bF (s[k].toNat:Int)=true
  ·obtain ⟨hlt,hd⟩:=hin;have hd1:48<=(s[k].toNat:Int)/\(s[k].toNat:Int)<=57:=by simpa [bF] using hd
   obtain ⟨hd1,hd2⟩:=hd1;have hst:=rg s p k hk1 hlt;rw[Hv.out] at hst;have hrun:=hk.step hlt (show ay s[k]=true from hd)
   by_cases hbig:2147483647<10*(v:Int)+((s[k].toNat:Int)-48)
   ·have hfin:cq (s.data.toList.drop p) = .error 3:=by
     have h1:=F7 s p (k+1) (lenOf ay (s.data.toList.drop p)) hrun.le_len;have h2:2147483647<val ((s.data.toList.drop p).take (lenOf ay (s.data.toList.drop p))):=by omega
     unfold cq;rw[if_pos (.inl h2)]
    have Hfin:=Lib.hid hfin;clear hfin hst
    go_wp2_with (go_at_call 72;refine (dM _ _).mono ?_;rintro e w' ⟨rfl,rfl⟩)
    exact bodyPost_ret (v:=.tuple #[.agg #[.int .i64 0,.string ⟨#[]⟩,.int .i64 0,.int .i64 0],.int .i64 3]) (by simp [results,Tryz.results73,go_sem]) rfl ⟨pB Hfin.out,(Below.refl _ _).alloc (Nat.le_refl _) _⟩
   ·have Hst:=Lib.hid hst;clear hst
    go_wp2_with (go_at_call 72;refine (dM _ _).mono ?_;rintro e w' ⟨rfl,rfl⟩)
    go_round
    case rel=>exact ⟨k+1,10*v+(s[k].toNat-48),hrun,Hst.out,by omega,by go_num,by go_num⟩
    case measure=>simp [intOf];omega
  ·have hcase:(∃ h:k<s.size,bF (s[k].toNat:Int)=false/\bQ (s[k].toNat:Int)=true) ∨ (∃ h:k<s.size,bF (s[k].toNat:Int)=false/\bQ (s[k].toNat:Int)=false) ∨ s.size<=k:=by
    by_cases hlt:k<s.size
    ·rcases Bool.eq_false_or_eq_true (bF (s[k].toNat:Int)) with hd |hd
     ·exact absurd ⟨hlt,hd⟩ hin
     ·rcases Bool.eq_false_or_eq_true (bQ (s[k].toNat:Int)) with hl |hl
      ·exact .inl ⟨hlt,hd,hl⟩
      ·exact .inr (.inl ⟨hlt,hd,hl⟩)
    ·exact .inr (.inr (by omega))
   clear hin;have hn:lenOf ay (s.data.toList.drop p)=k-p:=by
    rcases hcase with ⟨hlt,hd,_⟩ |⟨hlt,hd,_⟩ |hge
    ·exact hk.len (fun h=>by rw[dF s k h];exact hd)
    ·exact hk.len (fun h=>by rw[dF s k h];exact hd)
    ·exact hk.len (fun h=>absurd h (by omega))
   have hval:val ((s.data.toList.drop p).take (k-p))=v:=Hv.out;have hhd:(s.data.toList.drop p).headD 0=s[p]:=by rw[ke,dF s p hp]
   have h48:∀ b:UInt8,b=48↔((b.toNat:Int)==48)=true:=fun b=>by
    rw[beq_iff_eq];constructor
    ·rintro rfl;rfl
    ·intro h;exact UInt8.toNat_inj.1 (by show b.toNat=48;omega)
   by_cases hz:((s[p].toNat:Int)==48)=true/\1<k-p
   ·obtain ⟨hz1,hz2⟩:=hz;have Hfin:=Lib.hid (show cq (s.data.toList.drop p) = .error 3 by
     unfold cq;rw[hn,if_pos (.inr (.inl ⟨hz2,by rw[hhd];exact (h48 _).2 hz1⟩))])
    clear hn hval hhd h48
    rcases hcase with ⟨hlt,hd,_⟩ |⟨hlt,hd,_⟩ |hge
    all_goals
     go_wp2_with (first |(go_at_call 70;refine (eh _ _).mono ?_;rintro e w' ⟨rfl,rfl⟩) |(go_at_call 72;refine (dM _ _).mono ?_;rintro e w' ⟨rfl,rfl⟩))
     exact bodyPost_ret (v:=.tuple #[.agg #[.int .i64 0,.string ⟨#[]⟩,.int .i64 0,.int .i64 0],.int .i64 3]) (by simp [results,Tryz.results73,go_sem]) rfl ⟨pB Hfin.out,(Below.refl _ _).alloc (Nat.le_refl _) _⟩
   ·have hz':((s[p].toNat:Int)==48)=false ∨ (((s[p].toNat:Int)==48)=true/\k-p<=1):=by
     rcases Bool.eq_false_or_eq_true ((s[p].toNat:Int)==48) with h |h
     ·exact .inr ⟨h,by have:¬ 1<k-p:=fun hx=>hz ⟨h,hx⟩;omega⟩
     ·exact .inl h
    have hnz:¬ (1<k-p/\(s.data.toList.drop p).headD 0=48):=fun hx=>hz ⟨(h48 _).1 (by rw[<- hhd];exact hx.2),hx.1⟩
    have hgk:(s.data.toList.drop p).getD (k-p) 0=s.data.toList.getD k 0:=by rw[oe,show p+(k-p)=k from by omega]
    clear hz h48 hhd
    rcases hcase with ⟨hlt,hd,hl⟩ |hcase
    ·have Hfin:=Lib.hid (show cq (s.data.toList.drop p) = .error 3 by
      unfold cq;rw[hn,if_pos (.inr (.inr (by rw[hgk,dF s k hlt];exact hl)))])
     clear hn hval hnz hgk
     rcases hz' with hz1 |⟨hz1,hz2⟩
     all_goals
      go_wp2_with (first |(go_at_call 70;refine (eh _ _).mono ?_;rintro e w' ⟨rfl,rfl⟩) |(go_at_call 72;refine (dM _ _).mono ?_;rintro e w' ⟨rfl,rfl⟩))
      exact bodyPost_ret (v:=.tuple #[.agg #[.int .i64 0,.string ⟨#[]⟩,.int .i64 0,.int .i64 0],.int .i64 3]) (by simp [results,Tryz.results73,go_sem]) rfl ⟨pB Hfin.out,(Below.refl _ _).alloc (Nat.le_refl _) _⟩
    ·have hnl:¬ bG ((s.data.toList.drop p).getD (k-p) 0)=true:=by
      rw[hgk]
      rcases hcase with ⟨hlt,hd,hl⟩ |hge
      ·rw[dF s k hlt];show ¬ bQ _=true;rw[hl];decide
      ·rw[List.getD_eq_getElem?_getD,List.getElem?_eq_none (by simpa using hge)];decide
     have Hfin:=Lib.hid (show cq (s.data.toList.drop p) = .ok (2,k-p,(v:Int)) by
      unfold cq;rw[hn,hval,if_neg (fun h=>h.elim (fun h=>by omega) (fun h=>h.elim hnz hnl))])
     clear hn hval hnz hgk hnl
     rcases hcase with ⟨hlt,hd,hl⟩ |hge
     all_goals
      rcases hz' with hz1 |⟨hz1,hz2⟩
      all_goals
       go_wp2_with (first |(go_at_call 70;refine (eh _ _).mono ?_;rintro e w' ⟨rfl,rfl⟩) |(go_at_call 72;refine (dM _ _).mono ?_;rintro e w' ⟨rfl,rfl⟩))
       exact bodyPost_ret (v:=.tuple #[.agg #[.int .i64 2,.string (s.extract p k),.int .i64 v,.int .i64 p],.int .i64 0]) (by simp [results,Tryz.results73,go_sem]) rfl ⟨sQ Hfin.out (by omega),(Below.refl _ _).alloc (Nat.le_refl _) _⟩
theorem H5 (s:ByteArray) (p:Nat) (w:World) (hs:s.size<=maxLen) (hp:p<s.size) {x:Int} (h:cQ (s.data.toList.drop p) = .error x) :
 Calls Tryz.prog 71 #[.string s,.int .i64 p] w fun e w'=>e = .returned (.tuple #[.agg #[.int .i64 0,.string ⟨#[]⟩,.int .i64 0,.int .i64 0],.int .i64 x])/\Below w.heap.size w w':=
 (zJ s p w hs hp).mono fun e w' ⟨he,hb⟩=>⟨by rw[he,h];rfl,hb⟩
theorem H6 (s:ByteArray) (p:Nat) (w:World) (hs:s.size<=maxLen) (hp:p<s.size) {k m:Int} {n:Nat} {T:ByteArray} (hT:s.extract p (p+n)=T) (h:cQ (s.data.toList.drop p) = .ok (k,n,m)) :
 Calls Tryz.prog 71 #[.string s,.int .i64 p] w fun e w'=>e = .returned (.tuple #[.agg #[.int .i64 k,.string T,.int .i64 m,.int .i64 p],.int .i64 0])/\Below w.heap.size w w':=
 (zJ s p w hs hp).mono fun e w' ⟨he,hb⟩=>⟨by rw[he,h,<- hT];rfl,hb⟩
theorem H7 (s:ByteArray) (p:Nat) (w:World) (hs:s.size<=maxLen) (hp:p<s.size) {x:Int} (h:cq (s.data.toList.drop p) = .error x) :
 Calls Tryz.prog 73 #[.string s,.int .i64 p] w fun e w'=>e = .returned (.tuple #[.agg #[.int .i64 0,.string ⟨#[]⟩,.int .i64 0,.int .i64 0],.int .i64 x])/\Below w.heap.size w w':=
 (zK s p w hs hp).mono fun e w' ⟨he,hb⟩=>⟨by rw[he,h];rfl,hb⟩
theorem H8 (s:ByteArray) (p:Nat) (w:World) (hs:s.size<=maxLen) (hp:p<s.size) {k m:Int} {n:Nat} {T:ByteArray} (hT:s.extract p (p+n)=T) (h:cq (s.data.toList.drop p) = .ok (k,n,m)) :
 Calls Tryz.prog 73 #[.string s,.int .i64 p] w fun e w'=>e = .returned (.tuple #[.agg #[.int .i64 k,.string T,.int .i64 m,.int .i64 p],.int .i64 0])/\Below w.heap.size w w':=
 (zK s p w hs hp).mono fun e w' ⟨he,hb⟩=>⟨by rw[he,h,<- hT];rfl,hb⟩
theorem H9 (s:ByteArray) (p:Nat):(s.extract p s.size).data.toList=s.data.toList.drop p:=by
 rw[Lib.extract_data,List.take_of_length_le]
 simp
theorem zL (s:ByteArray) (p:Nat) (w:World) (hp:p<s.size) {n:Nat} (hn:cP (s.data.toList.drop p)=n) :
 Calls Tryz.prog 74 #[.string (s.extract p s.size)] w fun e w'=>e = .returned (.int .i64 n)/\w=w':=by
 have h0:0<(s.extract p s.size).size:=by simp;omega
 refine (H1 (s.extract p s.size) w h0).mono fun e w' ⟨he,hb⟩=>⟨he.trans (sP ?_),hb⟩
 rw[<- hn,<- H9];unfold cP
 congr 2
 rw[List.headD_eq_head?_getD,List.head?_eq_getElem?,List.getElem?_eq_getElem (by simpa using h0)];rfl
theorem iw {W w1:World} (hb:Below W.heap.size W w1):(∀ b o,b<W.heap.size->w1.cell? ⟨b,o,none⟩=W.cell? ⟨b,o,none⟩)/\(∀ b o,b<W.heap.size->w1.frozen? ⟨b,o,none⟩=W.frozen? ⟨b,o,none⟩):=
 ⟨fun b o h=>hb.cell (p:=⟨b,o,none⟩) h,fun b o h=>hb.frozen (p:=⟨b,o,none⟩) h⟩
set_option maxHeartbeats 2000000 in
theorem Ia (s:ByteArray) (p:Nat) (w:World) (hs:s.size<=maxLen) (hp:p<s.size) (hl:bQ (s[p].toNat:Int)=true) {x:Int} (hx:cQ (s.data.toList.drop p) = .error x) :
 Calls Tryz.prog 43 #[.string s,.int .i64 p] w fun e w'=>e = .returned (.tuple #[.agg #[.int .i64 0,.string ⟨#[]⟩,.int .i64 0,.int .i64 0],.int .i64 x])/\Below w.heap.size w w':=by
 have Hx:=Lib.hid hx;clear hx;have hs':=hs;unfold maxLen at hs
 go_enter Tryz.func43,Tryz.ntmps43
 go_wp2_with (first |(go_at_call 70;refine (eh _ _).mono ?_;rintro e w' ⟨rfl,rfl⟩) |(go_at_call 72;refine (dM _ _).mono ?_;rintro e w' ⟨rfl,rfl⟩))
 refine (H5 s p _ hs' hp Hx.out).mono ?_
 rintro e w1 ⟨rfl,hb⟩;obtain ⟨hc,hf⟩:=iw hb;have hz:w.heap.size<w1.heap.size:=by have:=hb.size;simp at this;omega
 go_wp2
 exact bodyPost_ret (v:=.tuple #[.agg #[.int .i64 0,.string ⟨#[]⟩,.int .i64 0,.int .i64 0],.int .i64 x]) (by simp [results,Tryz.results43,go_sem,hc]) rfl ⟨rfl,(((((Below.refl _ _).alloc (Nat.le_refl _) _).trans (hb.mono (by simp))).setCell (by simp) _).setCell (by simp) _).setCell (by simp) _ |>.setCell (by simp) _⟩
set_option maxHeartbeats 2000000 in
theorem Ib (s:ByteArray) (p:Nat) (w:World) (hs:s.size<=maxLen) (hp:p<s.size) (hl:bQ (s[p].toNat:Int)=true) {k m:Int} {n:Nat} {T:ByteArray} (hT:s.extract p (p+n)=T) (hx:cQ (s.data.toList.drop p) = .ok (k,n,m)) :
 Calls Tryz.prog 43 #[.string s,.int .i64 p] w fun e w'=>e = .returned (.tuple #[.agg #[.int .i64 k,.string T,.int .i64 m,.int .i64 p],.int .i64 0])/\Below w.heap.size w w':=by
 have Hx:=Lib.hid hx;clear hx;have HT:=Lib.hid hT;clear hT;have hs':=hs;unfold maxLen at hs
 go_enter Tryz.func43,Tryz.ntmps43
 go_wp2_with (first |(go_at_call 70;refine (eh _ _).mono ?_;rintro e w' ⟨rfl,rfl⟩) |(go_at_call 72;refine (dM _ _).mono ?_;rintro e w' ⟨rfl,rfl⟩))
 refine (H6 s p _ hs' hp HT.out Hx.out).mono ?_
 rintro e w1 ⟨rfl,hb⟩;obtain ⟨hc,hf⟩:=iw hb;have hz:w.heap.size<w1.heap.size:=by have:=hb.size;simp at this;omega
 go_wp2
 exact bodyPost_ret (v:=.tuple #[.agg #[.int .i64 k,.string T,.int .i64 m,.int .i64 p],.int .i64 0]) (by simp [results,Tryz.results43,go_sem,hc]) rfl ⟨rfl,(((((Below.refl _ _).alloc (Nat.le_refl _) _).trans (hb.mono (by simp))).setCell (by simp) _).setCell (by simp) _).setCell (by simp) _ |>.setCell (by simp) _⟩
set_option maxHeartbeats 2000000 in
theorem Ic (s:ByteArray) (p:Nat) (w:World) (hs:s.size<=maxLen) (hp:p<s.size) (hl:bQ (s[p].toNat:Int)=false) (hd:bF (s[p].toNat:Int)=true) {x:Int} (hx:cq (s.data.toList.drop p) = .error x) :
 Calls Tryz.prog 43 #[.string s,.int .i64 p] w fun e w'=>e = .returned (.tuple #[.agg #[.int .i64 0,.string ⟨#[]⟩,.int .i64 0,.int .i64 0],.int .i64 x])/\Below w.heap.size w w':=by
 have Hx:=Lib.hid hx;clear hx;have hs':=hs;unfold maxLen at hs
 go_enter Tryz.func43,Tryz.ntmps43
 go_wp2_with (first |(go_at_call 70;refine (eh _ _).mono ?_;rintro e w' ⟨rfl,rfl⟩) |(go_at_call 72;refine (dM _ _).mono ?_;rintro e w' ⟨rfl,rfl⟩))
 refine (H7 s p _ hs' hp Hx.out).mono ?_
 rintro e w1 ⟨rfl,hb⟩;obtain ⟨hc,hf⟩:=iw hb;have hz:w.heap.size<w1.heap.size:=by have:=hb.size;simp at this;omega
 go_wp2
 exact bodyPost_ret (v:=.tuple #[.agg #[.int .i64 0,.string ⟨#[]⟩,.int .i64 0,.int .i64 0],.int .i64 x]) (by simp [results,Tryz.results43,go_sem,hc]) rfl ⟨rfl,(((((Below.refl _ _).alloc (Nat.le_refl _) _).trans (hb.mono (by simp))).setCell (by simp) _).setCell (by simp) _).setCell (by simp) _ |>.setCell (by simp) _⟩
set_option maxHeartbeats 2000000 in
theorem Id (s:ByteArray) (p:Nat) (w:World) (hs:s.size<=maxLen) (hp:p<s.size) (hl:bQ (s[p].toNat:Int)=false) (hd:bF (s[p].toNat:Int)=true) {k m:Int} {n:Nat} {T:ByteArray} (hT:s.extract p (p+n)=T) (hx:cq (s.data.toList.drop p) = .ok (k,n,m)) :
 Calls Tryz.prog 43 #[.string s,.int .i64 p] w fun e w'=>e = .returned (.tuple #[.agg #[.int .i64 k,.string T,.int .i64 m,.int .i64 p],.int .i64 0])/\Below w.heap.size w w':=by
 have Hx:=Lib.hid hx;clear hx;have HT:=Lib.hid hT;clear hT;have hs':=hs;unfold maxLen at hs
 go_enter Tryz.func43,Tryz.ntmps43
 go_wp2_with (first |(go_at_call 70;refine (eh _ _).mono ?_;rintro e w' ⟨rfl,rfl⟩) |(go_at_call 72;refine (dM _ _).mono ?_;rintro e w' ⟨rfl,rfl⟩))
 refine (H8 s p _ hs' hp HT.out Hx.out).mono ?_
 rintro e w1 ⟨rfl,hb⟩;obtain ⟨hc,hf⟩:=iw hb;have hz:w.heap.size<w1.heap.size:=by have:=hb.size;simp at this;omega
 go_wp2
 exact bodyPost_ret (v:=.tuple #[.agg #[.int .i64 k,.string T,.int .i64 m,.int .i64 p],.int .i64 0]) (by simp [results,Tryz.results43,go_sem,hc]) rfl ⟨rfl,(((((Below.refl _ _).alloc (Nat.le_refl _) _).trans (hb.mono (by simp))).setCell (by simp) _).setCell (by simp) _).setCell (by simp) _ |>.setCell (by simp) _⟩
set_option maxHeartbeats 2000000 in
theorem Ie (s:ByteArray) (p:Nat) (w:World) (hs:s.size<=maxLen) (hp:p<s.size) (hl:bQ (s[p].toNat:Int)=false) (hd:bF (s[p].toNat:Int)=false) (hx:cP (s.data.toList.drop p)=0) :
 Calls Tryz.prog 43 #[.string s,.int .i64 p] w fun e w'=>e = .returned (.tuple #[.agg #[.int .i64 0,.string ⟨#[]⟩,.int .i64 0,.int .i64 0],.int .i64 2])/\Below w.heap.size w w':=by
 have Hx:=Lib.hid hx;clear hx;have hs1:=hs;clear hs;unfold maxLen at hs1
 go_enter Tryz.func43,Tryz.ntmps43
 go_wp2_with (first |(go_at_call 70;refine (eh _ _).mono ?_;rintro e w' ⟨rfl,rfl⟩) |(go_at_call 72;refine (dM _ _).mono ?_;rintro e w' ⟨rfl,rfl⟩))
 refine (zL s p _ hp Hx.out).mono ?_
 rintro e w1 ⟨rfl,rfl⟩
 go_wp2
 exact bodyPost_ret (v:=.tuple #[.agg #[.int .i64 0,.string ⟨#[]⟩,.int .i64 0,.int .i64 0],.int .i64 2]) (by simp [results,Tryz.results43,go_sem]) rfl ⟨rfl,(Below.refl _ _).alloc (Nat.le_refl _) _⟩
set_option maxHeartbeats 2000000 in
theorem If (s:ByteArray) (p:Nat) (w:World) (hs:s.size<=maxLen) (hp:p<s.size) (hl:bQ (s[p].toNat:Int)=false) (hd:bF (s[p].toNat:Int)=false) {n:Nat} (hn:1<=n) (hpn:p+n<=s.size) {T:ByteArray} (hT:s.extract p (p+n)=T) (hx:cP (s.data.toList.drop p)=n) :
 Calls Tryz.prog 43 #[.string s,.int .i64 p] w fun e w'=>e = .returned (.tuple #[.agg #[.int .i64 3,.string T,.int .i64 0,.int .i64 p],.int .i64 0])/\Below w.heap.size w w':=by
 have Hx:=Lib.hid hx;clear hx;have hnz:((n:Int)==0)=false:=by rw[beq_eq_false_iff_ne];omega
 unfold maxLen at hs
 go_enter Tryz.func43,Tryz.ntmps43
 go_wp2_with (first |(go_at_call 70;refine (eh _ _).mono ?_;rintro e w' ⟨rfl,rfl⟩) |(go_at_call 72;refine (dM _ _).mono ?_;rintro e w' ⟨rfl,rfl⟩))
 refine (zL s p _ hp Hx.out).mono ?_
 rintro e w1 ⟨rfl,rfl⟩
 go_wp2
 exact bodyPost_ret (v:=.tuple #[.agg #[.int .i64 3,.string T,.int .i64 0,.int .i64 p],.int .i64 0]) (by simp [results,Tryz.results43,go_sem]) rfl ⟨rfl,(Below.refl _ _).alloc (Nat.le_refl _) _⟩
theorem Ig (s:ByteArray) (p:Nat) (w:World) (hs:s.size<=maxLen) (hp:p<s.size) {x:Int} (h:bb (s.data.toList.drop p) = .error x) :
 Calls Tryz.prog 43 #[.string s,.int .i64 p] w fun e w'=>e = .returned (.tuple #[.agg #[.int .i64 0,.string ⟨#[]⟩,.int .i64 0,.int .i64 0],.int .i64 x])/\Below w.heap.size w w':=by
 have hh:(s.data.toList.drop p).headD 0=s[p]:=by rw[ke,dF s p hp]
 unfold bb at h;rw[hh] at h
 rcases Bool.eq_false_or_eq_true (bQ (s[p].toNat:Int)) with hl |hl
 ·rw[if_pos (show bG s[p]=true from hl)] at h;exact Ia s p w hs hp hl h
 ·rw[if_neg (show ¬ bG s[p]=true by show ¬ bQ _=true;rw[hl];decide)] at h
  rcases Bool.eq_false_or_eq_true (bF (s[p].toNat:Int)) with hd |hd
  ·rw[if_pos (show ay s[p]=true from hd)] at h;exact Ic s p w hs hp hl hd h
  ·rw[if_neg (show ¬ ay s[p]=true by show ¬ bF _=true;rw[hd];decide)] at h;unfold dY at h
   by_cases hz:cP (s.data.toList.drop p)=0
   ·rw[if_pos hz] at h
    injection h with h
    subst h;exact Ie s p w hs hp hl hd hz
   ·rw[if_neg hz] at h;cases h
theorem zM (s:ByteArray) (p:Nat) (w:World) (hs:s.size<=maxLen) (hp:p<s.size) {k m:Int} {n:Nat} {T:ByteArray} (hT:s.extract p (p+n)=T) (h:bb (s.data.toList.drop p) = .ok (k,n,m)) :
 Calls Tryz.prog 43 #[.string s,.int .i64 p] w fun e w'=>e = .returned (.tuple #[.agg #[.int .i64 k,.string T,.int .i64 m,.int .i64 p],.int .i64 0])/\Below w.heap.size w w':=by
 have hh:(s.data.toList.drop p).headD 0=s[p]:=by rw[ke,dF s p hp]
 have hlen:(s.data.toList.drop p).length=s.size-p:=by simp
 have hok:=gr (by rw[hlen];omega) h;rw[hlen] at hok;unfold bb at h;rw[hh] at h
 rcases Bool.eq_false_or_eq_true (bQ (s[p].toNat:Int)) with hl |hl
 ·rw[if_pos (show bG s[p]=true from hl)] at h;exact Ib s p w hs hp hl hT h
 ·rw[if_neg (show ¬ bG s[p]=true by show ¬ bQ _=true;rw[hl];decide)] at h
  rcases Bool.eq_false_or_eq_true (bF (s[p].toNat:Int)) with hd |hd
  ·rw[if_pos (show ay s[p]=true from hd)] at h;exact Id s p w hs hp hl hd hT h
  ·rw[if_neg (show ¬ ay s[p]=true by show ¬ bF _=true;rw[hd];decide)] at h;unfold dY at h
   by_cases hz:cP (s.data.toList.drop p)=0
   ·rw[if_pos hz] at h;cases h
   ·rw[if_neg hz] at h
    injection h with h;injection h with h1 h;injection h with h2 h3
    subst h1;subst h3;exact If s p w hs hp hl hd hok.1 (by omega) hT h2
def di (ts:List Tok):List Value:=ts.flatMap fun t=>[.int .i64 t.kind,.string t.text,.int .i64 t.num,.int .i64 t.pos]
theorem pC (ts:List Tok) (t:Tok):di (ts++[t])=di ts++[.int .i64 t.kind,.string t.text,.int .i64 t.num,.int .i64 t.pos]:=by simp [di]
theorem Ih {B base:Nat} {e:TypeId} {size n:Nat} {v:Value} {xs:List Value} {w w':World} (h:w.ownsRow base e size v n xs) (hb:Below B w w') (hB:∀ g,v.ownBlock=some g->g<B):w'.ownsRow base e size v n xs:=by
 refine ⟨h.1,?_⟩
 rcases h.2 with h0 |⟨g,cap,cur,rfl,hg,hh,h1⟩
 ·exact .inl h0
 ·exact .inr ⟨g,cap,cur,rfl,hg,(hb.block g (hB g rfl)).trans hh,h1⟩
theorem mS {base:Nat} {e:TypeId} {size n:Nat} {v:Value} {xs:List Value} {w w':World} (h:w.ownsRow base e size v n xs) (hb:Below w.heap.size w w'):w'.ownsRow base e size v n xs:=
 Ih h hb fun g hg=>(h.lt g hg).2
theorem dA {B:Nat} {a w:World} (h:Below B a w) (hB:B<=a.heap.size) (o:Obj):Below B a (w.alloc o):=h.alloc (Nat.le_trans hB h.size) o
theorem pD {base:Nat} {e:TypeId} {size n:Nat} {v:Value} {xs:List Value} {w:World} (h:w.ownsRow base e size v n xs) (hn:0<n):∃ g cap,v = .slice (some ⟨g,0,none⟩) n cap:=by
 rcases h.2 with ⟨_,h0⟩ |⟨g,cap,_,hv,_⟩
 ·omega
 ·exact ⟨g,cap,hv⟩
theorem pE (w:World) (t:TypeId) (l:List Value):∀ j u,l[j]? = some u->(w.alloc (.cells l.toArray t)).cell? ((⟨w.heap.size,0,none⟩:Addr).add j)=some u:=by
 intro j u hu;have h:=cell_of_row (w.alloc (.cells l.toArray t)) w.heap.size j l.toArray t (0,0) (heap_alloc_new w _);rw[show (⟨w.heap.size,0,none⟩:Addr).add j=⟨w.heap.size,j,none⟩ from by unfold Addr.add;split<;>simp_all,h]
 simpa using hu
theorem zN {acc:List Tok} {t:Tok} (h:(acc.take 2001).length<=2000):acc.take 2001=acc/\(acc++[t]).take 2001=acc++[t]:=by
 rw[List.length_take] at h;exact ⟨List.take_of_length_le (by omega),List.take_of_length_le (by rw[List.length_append];simp;omega)⟩
theorem Ii {acc:List Tok} {t:Tok} (h:¬ (acc.take 2001).length<=2000):(acc++[t]).take 2001=acc.take 2001:=by
 rw[List.length_take] at h;exact List.take_append_of_le_length (by omega)
def LexPost (s:ByteArray) (w:World) (e:Ending) (w':World):Prop:=
 ∃ A c,e = .returned (.tuple #[.slice A (ai s).1.length c,.int .i64 ((ai s).2.1:Nat),.int .i64 (ai s).2.2]) /\
   w'.ownsRow w.heap.size 124 4 (.slice A (ai s).1.length c) (ai s).1.length (di (ai s).1)/\Below w.heap.size w w'
theorem Ij:(Tryz.prog.info? 124).map (fun i=>(i.zero,i.size,i.bytes))=some (some (.agg #[.int .i64 0,.string ⟨#[]⟩,.int .i64 0,.int .i64 0]),4,40):=by kernel_rfl
theorem gK {s:ByteArray} {R:Except (Nat × Int) (List Tok)} (h:bI s s.size 0 []=R) {p:Nat} {x:Int} (hR:R = .error (p,x)):ai s=([],p,x):=by unfold ai;rw[h,hR]
theorem mT {s:ByteArray} {R:Except (Nat × Int) (List Tok)} (h:bI s s.size 0 []=R) {acc:List Tok} (hR:R = .ok acc) (hl:2000<acc.length):ai s=([],s.size,4):=by unfold ai;rw[h,hR];simp [hl]
theorem mU {s:ByteArray} {R:Except (Nat × Int) (List Tok)} (h:bI s s.size 0 []=R) {acc:List Tok} (hR:R = .ok acc) (hl:acc.length<=2000):ai s=(acc,0,0):=by unfold ai;rw[h,hR];simp;omega
theorem LexPost.bad {s:ByteArray} {w w':World} {p:Nat} {x:Int} (h:ai s=([],p,x)) (hb:Below w.heap.size w w'):LexPost s w (.returned (.tuple #[.slice none 0 0,.int .i64 p,.int .i64 x])) w':=by
 unfold LexPost;rw[h];exact ⟨none,0,rfl,World.ownsRow_nil _ _ _ _,hb⟩
theorem LexPost.good {s:ByteArray} {w w':World} {A:Option Addr} {n c:Nat} {acc:List Tok} (h:ai s=(acc,0,0)) (hn:n=acc.length) (ho:w'.ownsRow w.heap.size 124 4 (.slice A n c) n (di acc)) (hb:Below w.heap.size w w') :
 LexPost s w (.returned (.tuple #[.slice A n c,.int .i64 0,.int .i64 0])) w':=by
 unfold LexPost;rw[h];subst hn;exact ⟨A,c,rfl,ho,hb⟩
set_option maxRecDepth 100000 in
set_option maxHeartbeats 4000000 in
theorem Ik (s:ByteArray) (w:World) (hs:s.size<=140737488351232) :
 Calls Tryz.prog 16 #[.string s] w fun e w'=>LexPost s w e w':=by
 have hs':s.size<=maxLen:=by unfold maxLen;omega
 obtain ⟨i0,hi,hz0,hz1,hz2⟩:=info_parts Ij;obtain ⟨R,hR⟩:∃ R,bI s s.size 0 []=R:=⟨_,rfl⟩;have HR:=Lib.hid hR
 go_enter Tryz.func16,Tryz.ntmps16
 go_wp2_with fail
 go_loopw [5,6] (fun v i wr=>∃ (p f:Nat) (acc:List Tok) (A:Option Addr) (n c:Nat),p<=s.size/\s.size<=p+f/\bI s f p acc=R/\n=(acc.take 2001).length/\i = .int .i64 p/\v = .slice A n c /\
  wr.ownsRow w.heap.size 124 4 (.slice A n c) n (di (acc.take 2001))/\Below w.heap.size w wr)
  (fun _ i _=>s.size-(intOf i).toNat)
 case atStart=>exact ⟨0,s.size,[],none,0,0,by omega,by omega,hR,rfl,rfl,rfl,World.ownsRow_nil _ _ _ _,Below.refl _ _⟩
 case round=>
  obtain ⟨p,f,acc,A,n,c,hp,hf,hgo,hn,rfl,rfl,hown,hbw⟩:=hrel;clear hR;have Hn:=Lib.hid hn;have hn1:n<=2001:=by rw[hn,List.length_take];omega
  clear hn;have Hgo:=Lib.hid hgo;clear hgo
  by_cases hlt:p<s.size
  ·have hgd:=dF s p hlt
   rcases Bool.eq_false_or_eq_true (hH (s[p].toNat:Int)) with hg |hg
   ·have Hst:=Lib.hid (wI hlt (by rw[hgd];exact hg) hf Hgo.out);clear hgd
    go_wp2_with (first |(go_at_call 42;refine (pA _ _).mono ?_;rintro e w' ⟨rfl,rfl⟩) |fail)
    go_roundw
    case rel=>
     obtain ⟨f',hf',hgo'⟩:=Hst.out;exact ⟨p+1,f',acc,A,n,c,by omega,hf',hgo',Hn.out,by go_num,rfl,hown,hbw⟩
    case measure=>simp [intOf];omega
   ·have hgU:cy (s.data.toList.getD p 0)=false:=by rw[hgd];exact hg
    rcases hE:bb (s.data.toList.drop p) with x |⟨k,m,num⟩
    ·have Hfin:=Lib.hid (gK HR.out (j9 hlt hgU hE hf Hgo.out));have HE:=Lib.hid hE;have hx0:(x != 0)=true:=by rw[bne_iff_ne];have:=F5 hE;omega
     clear hE hgd hgU
     go_wp2_with (first |(go_at_call 42;refine (pA _ _).mono ?_;rintro e w' ⟨rfl,rfl⟩) |fail)
     refine (Ig s p _ hs' hlt HE.out).mono ?_
     rintro e w1 ⟨rfl,hb⟩
     go_wp2_with fail
     go_ret3
     exact LexPost.bad Hfin.out ((hbw.trans (hb.mono hbw.size)).alloc (by have:=hb.size;have:=hbw.size;omega) _)
    ·have hlen:(s.data.toList.drop p).length=s.size-p:=by simp
     obtain ⟨hm1,hm2,hnum1,hnum2,hk1,hk2⟩:=gr (by rw[hlen];omega) hE;rw[hlen] at hm2;have Hst:=Lib.hid (od hlt hgU hE hf hm1 Hgo.out);have HE:=Lib.hid hE;obtain ⟨T,hT⟩:∃ T,s.extract p (p+m)=T:=⟨_,rfl⟩;have hTs:T.size=m:=by rw[<- hT];simp;omega
     have HT:=Lib.hid hT;clear hE hgd hgU hlen hT
     by_cases hn2:n<=2000
     ·go_wp2_with (first |(go_at_call 42;refine (pA _ _).mono ?_;rintro e w' ⟨rfl,rfl⟩) |fail)
      refine (zM s p _ hs' hlt HT.out HE.out).mono ?_
      rintro e w1 ⟨rfl,hb⟩
      go_wp2_with fail
      refine (H4 T _ (by omega)).mono ?_
      rintro e w2 ⟨rfl,hb2⟩;obtain ⟨hc,hfz⟩:=iw hb2;have hz:w1.heap.size<w2.heap.size:=by have:=hb2.size;simp at this;omega
      have hB1:Below wr.heap.size wr w2:=(hb.alloc hb.size _).trans (hb2.mono (by have:=hb.size;simp;omega))
      go_wp2_with (at_builtin;go_loud (refine wpList_append_own _ rfl (.tmp 41) (.tmp 43) _ rfl w.heap.size 124 i0 _ 4 40 Tryz.underlying81 hi hz0 hz1 hz2 rfl (by decide) (.slice A n c) n _ rfl (mS hown (dA (hB1.setCell hb.size _) (Nat.le_refl _) _)) ⟨w2.heap.size,0,none⟩ 1 1 [.int .i64 k,.string T,.int .i64 num,.int .i64 p] rfl rfl ?c1 ?c2 ?c3 ?c4 ?c5 ?_))
      case c1=>
       have e:w2.heap.size=(w2.setCell ⟨w1.heap.size,1,none⟩ (.string T)).heap.size:=by simp
       rw[e];exact pE _ _ _
      case c2=>
       intro u hu;simp at hu
       rcases hu with rfl |rfl |rfl |rfl<;>rfl
      case c3=>unfold maxLen;omega
      case c4=>omega
      case c5=>have:=hB1.size;have:=hbw.size;simp;omega
      intro v' w3 hown' hgrow _;obtain ⟨g,cap,hv⟩:=pD hown' (by omega);obtain ⟨ht1,ht2⟩:=zN (t:=⟨k,T,num,p⟩) (by rw[<- Hn.out];exact hn2);have Hv:=Lib.hid hv;have Ht:=Lib.hid ht2;have Hl:Hid (n+1=((acc++[(⟨k,T,num,p⟩:Tok)]).take 2001).length):=by
       show n+1=_;rw[ht2,List.length_append,<- ht1,<- Hn.out];rfl
      have hown2:w3.ownsRow w.heap.size 124 4 (.slice (some ⟨g,0,none⟩) (n+1) cap) (n+1) (di ((acc++[(⟨k,T,num,p⟩:Tok)]).take 2001)):=by
       rw[ht2,pC,<- hv,<- ht1];exact hown'
      have hB3:Below w.heap.size w w3:=(hbw.trans ((dA (hB1.setCell hb.size _) (Nat.le_refl _) _).mono hbw.size)).grown hgrow (by have:=hB1.size;have:=hbw.size;simp;omega) (fun b hb=>(hown.lt b hb).1);clear hv ht1 ht2 hown' hgrow hown hc hfz
      go_wp2_with fail
      go_roundw
      case rel=>
       obtain ⟨f',hf',hgo'⟩:=Hst.out;exact ⟨p+m,f',acc++[(⟨k,T,num,p⟩:Tok)],some ⟨g,0,none⟩,n+1,cap,by omega,hf',by rw[<- HT.out];exact hgo',Hl,by go_num,Hv.out,hown2,hB3⟩
      case measure=>simp [intOf];omega
     ·have Ht:=Lib.hid (Ii (t:=⟨k,s.extract p (p+m),num,p⟩) (show ¬ (acc.take 2001).length<=2000 by rw[<- Hn.out];exact hn2))
      go_wp2_with (first |(go_at_call 42;refine (pA _ _).mono ?_;rintro e w' ⟨rfl,rfl⟩) |fail)
      refine (zM s p _ hs' hlt HT.out HE.out).mono ?_
      rintro e w1 ⟨rfl,hb⟩;have hB3:Below w.heap.size w (w1.alloc (.cells #[.int .i64 k,.string T,.int .i64 num,.int .i64 p] 124)):=dA (hbw.trans (hb.mono hbw.size)) (Nat.le_refl _) _;have hown3:=mS hown (dA hb (Nat.le_refl _) (.cells #[.int .i64 k,.string T,.int .i64 num,.int .i64 p] 124));clear hown
      go_wp2_with fail
      go_roundw
      case rel=>
       obtain ⟨f',hf',hgo'⟩:=Hst.out;exact ⟨p+m,f',acc++[(⟨k,s.extract p (p+m),num,p⟩:Tok)],A,n,c,by omega,hf',hgo',by rw[Ht.out];exact Hn.out,by go_num,rfl,by rw[Ht.out];exact hown3,hB3⟩
      case measure=>simp [intOf];omega
  ·have hend:=wJ (by omega) Hgo.out
   by_cases hn2:n<=2000
   ·obtain ⟨ht1,-⟩:=zN (t:=⟨0,⟨#[]⟩,0,0⟩) (show (acc.take 2001).length<=2000 by rw[<- Hn.out];exact hn2);have hn3:n=acc.length:=by rw[Hn.out,ht1]
    have Hfin:=Lib.hid (mU HR.out hend (by omega));rw[ht1] at hown;have Hn3:=Lib.hid hn3;clear ht1 hend hn3
    go_wp2_with fail
    go_ret3
    exact LexPost.good Hfin.out Hn3.out hown hbw
   ·have hl:2000<acc.length:=by
     have h1:=Hn.out;rw[List.length_take] at h1;omega
    have Hfin:=Lib.hid (mT HR.out hend hl);clear hend hl
    go_wp2_with fail
    go_ret3
    exact LexPost.bad Hfin.out hbw
end Go.Proofs.YtbhbjhejkamlnaaGreat
namespace Go.Proofs.YtbhbjhejkamlnaaGreat.Sx.Z
open Go.RowKit
def cl (t:Tok):List D:=[.i t.kind,.s t.text,.i t.num,.i (t.pos:Nat)]
def bh (l:List Tok):D:=.l (l.map cl)
theorem cV (l:List Tok):(bh l).len=l.length:=List.length_map ..
def gL (t:Tok):List Value:=[.int .i64 t.kind,.string t.text,.int .i64 t.num,.int .i64 (t.pos:Nat)]
theorem sR:∀ {l:List Tok} {i j:Nat} {t:Tok},l[i]? = some t->j<4->(di l)[i*4+j]? = (gL t)[j]?
 | [],i,j,t,h,_=>by simp at h
 |a::l,0,j,t,h,hj=>by
  obtain rfl:a=t:=by simpa using h
  show (gL a++di l)[0*4+j]? = _;rw[Nat.zero_mul,Nat.zero_add,List.getElem?_append_left (by show j<4;exact hj)]
 |a::l,i+1,j,t,h,hj=>by
  have ih:=sR (l:=l) (i:=i) (j:=j) (t:=t) (by simpa using h) hj;show (gL a++di l)[(i+1)*4+j]? = _;rw[List.getElem?_append_right (by show 4<=_;omega)];rw[<- ih]
  congr 1
  show (i+1)*4+j-4=i*4+j;omega
theorem Il:eks 124=[.int .i64,.str,.int .i64,.int .i64]:=by rfl
theorem jC {l:List Tok} {i:Nat} {t:Tok} (h:l[i]? = some t) (j:Nat):(bh l).el i j=(cl t).getD j (.i 0):=by
 unfold D.el;have:(bh l).rows.getD i []=cl t:=by
  show (l.map cl).getD i []=_;rw[List.getD_eq_getElem?_getD,List.getElem?_map,h];rfl
 rw[this]
def zO:FSpec:=fun ds _=>match ds with
 | [.s s]=>some {val:=.tup [.sc (.rows 124 (bh (ai s).1)),.sc (.int .i64 (.sym ((ai s).2.1:Nat))),.sc (.int .i64 (.sym (ai s).2.2))],vc:=[s.size<=140737488351232]}
 |_=>none
def sS:Con:=con [.sc .str] zO
theorem Im {fz:Fz} {l:List Tok} {A:Option Addr} {c:Nat} {base:Nat} {w:World} (h:w.ownsRow base 124 4 (.slice A l.length c) l.length (di l)) (hf:∀ g cur,base<=g->w.heap[g]? = some (.cells cur 124 (0,0))->A=some ⟨g,0,none⟩->fz g=some cur):TRel fz (.slice 124) (bh l) (.slice A l.length c):=by
 rcases h.2 with ⟨hv,h0⟩ |⟨g,cap,cur,hv,hg,hh,h1,h2,h3,h4⟩
 ·rw[hv];exact .nil _ _ (by rw[cV];exact h0)
 ·obtain ⟨hA,_,hc⟩:=Value.slice.inj hv;subst hA hc
  by_cases h0:l.length=0
  ·rw[h0];exact .empty _ _ _ _ (by rw[cV];exact h0)
  ·have hF:=hf g cur hg hh rfl;have hat:∀ i j t,l[i]? = some t->j<4->cur[i*4+j]? = (gL t)[j]?:=fun i j t ht hj=>by
    have e:=sR ht hj;rw[<- h4] at e;have hi:i<l.length:=br ht;rw[List.getElem?_take_of_lt (by omega),Array.getElem?_toList] at e;exact e
   rw[show Value.slice (some ⟨g,0,none⟩) l.length c=Value.slice (some ⟨g,0,none⟩) (bh l).len c by rw[cV]];refine .slice _ _ _ _ _ (fun i j=>(cur[i*4+j]?).getD undef) (by rw[cV];exact h1) (fun i j hi hj=>?_) (fun i j k hi hk=>?_)
   ·rw[cV] at hi;have hj4:j<4:=hj;have e:=hat i j _ (List.getElem?_eq_getElem hi) hj4;have e2:(gL l[i])[j]? = some (gL l[i])[j]:=List.getElem?_eq_getElem (by show j<4;exact hj4);rw[e2] at e;show Fz.cell fz g (0+i*4+j)=_;rw[Nat.zero_add,e];unfold Fz.cell;rw[hF];exact e
   ·rw[cV] at hi;have ht:=List.getElem?_eq_getElem hi;rw[jC ht];rw[Il] at hk
    match j,hk with
    | 0,hk=>obtain rfl:=Option.some.inj hk;rw[hat i 0 _ ht (by omega)];exact .int _ (.i _)
    | 1,hk=>obtain rfl:=Option.some.inj hk;rw[hat i 1 _ ht (by omega)];exact .str (.s _)
    | 2,hk=>obtain rfl:=Option.some.inj hk;rw[hat i 2 _ ht (by omega)];exact .int _ (.i _)
    | 3,hk=>obtain rfl:=Option.some.inj hk;rw[hat i 3 _ ht (by omega)];exact .int _ (.i _)
    |j+4,hk=>simp at hk
def lexF (f:Fz) (w w':World) (A:Option Addr):Fz:=fun b=>match A with |some a=>if b=a.block/\w.heap.size<=b then b9 w' b else f b |none=>f b
theorem Io {f:Fz} {w w':World} {A:Option Addr} {b:Nat} {cs:Array Value} (h:lexF f w w' A b=some cs):f b=some cs ∨ (w.heap.size<=b/\b9 w' b=some cs):=by
 unfold lexF at h
 split at h
 ·split at h
  ·rename_i hh;exact .inr ⟨hh.2,h⟩
  ·exact .inl h
 ·exact .inl h
theorem Ip:ConOK Tryz.prog 16 sS:=by
 refine ⟨fun _ _=>by kernel_rfl,fun hp fr args e he hv w0 w ρ vs hw _ ha=>?_,fun _ _ _ _ h=>nomatch (jj _ _ _ _ _).symm.trans h⟩;unfold sS con at he
 split at he
 ·rename_i ds ps hds
  split at he
  ·rename_i e1 he1;unfold zO at he1
   split at he1
   ·rename_i s;obtain rfl:=Option.some.inj he1;obtain rfl:=Option.some.inj he;obtain ⟨hp1,hp2⟩:=all_append.1 hv;obtain ⟨svs,h,ρ1,id,hun,_,_,hrel⟩:=gC hw [.sc .str] args _ ps hds hp1 vs ha (ids:=aw hp (be hp args)) (fun i hi ho=>cE.2 ⟨hi,ho⟩) 0;obtain rfl:svs=_:=(congrArg Prod.fst (Option.some.inj hun)).symm
    match vs,hrel with
    | [x],⟨hx,_⟩=>
      have hx:x = .string s:=hx;subst hx;refine (Ik s w hp2.1).mono ?_
      rintro en w' ⟨A,c,rfl,hown,hb⟩;have hle:FzLe ρ.fz (lexF ρ.fz w w' A):=fun b cs hbc=>by
       unfold lexF;split
       ·split
        ·rename_i hh;rw[hw.froz.new hh.2] at hbc;cases hbc
        ·exact hbc
       ·exact hbc
      have hrel2:TRel (lexF ρ.fz w w' A) (.slice 124) (bh (ai s).1) (.slice A (ai s).1.length c):=Im hown fun g cur hg hh hA=>by
       subst hA;show (if g=g/\w.heap.size<=g then b9 w' g else ρ.fz g)=some cur;rw[if_pos ⟨rfl,hg⟩];unfold b9;rw[hh]
      refine ⟨{ρ with fz:=lexF ρ.fz w w' A},_,rfl,⟨_,rfl,hrel2,rfl,rfl,trivial⟩,⟨⟨fun _ _ h=>h,fun _ _=>rfl,hle,rfl,rfl⟩,fun _ _=>rfl,hb.mono (Nat.zero_le _),fun b hlt _=>hb.block b hlt,fun i x hx=>?_,fun i x hx=>?_,fun i j x y hx=>?_,fun b cs hcs=>?_⟩⟩
      ·have hx':ad (aL (aw hp (be hp args))) i=some x:=hx;rw[(c7 hx').1];trivial
      ·cases hx
      ·cases hx
      ·rcases Io hcs with h1 |⟨h1,h2⟩
       ·exact .inl h1
       ·exact .inr ⟨.inl h1,qW h2,fun _ _ h=>by cases h⟩
   ·cases he1
  ·cases he
 ·cases he
def paW (s:ByteArray):D:=bh (ai s).1
def paY (s:ByteArray):Rd:=syR (paW s) (s.size:Nat) (mR 0 0 0)
def paO (s:ByteArray):Bool:=decide ((ai s).2.2=0)&&decide ((paY s).er=0)
def paC (s:ByteArray):D:=if paO s=true then (syC (paW s) (s.size:Nat) (mR 0 0 0)).1 else .l []
def paU (s:ByteArray):D:=if paO s=true then (syU (paW s) (s.size:Nat) (mR 0 0 0)).1 else .l []
def paP (s:ByteArray):D:=if paO s=true then (syP (paW s) (s.size:Nat) (mR 0 0 0)).1 else .l []
def paE (s:ByteArray):Int:=if (ai s).2.2=0 then (paY s).er else (ai s).2.2
def paA (s:ByteArray):Int:=if (ai s).2.2=0 then (if (paY s).er=0 then 0 else (paY s).pa) else ((ai s).2.1:Nat)
theorem mV {a b:Int} (h:(a != b)=true):a≠b:=by simpa using h
theorem kO {a b:Int} (h:(a != b)=false):a=b:=by simpa using h
theorem sT (s:ByteArray):(ai s).1.length<=2000:=by
 unfold ai;split
 ·exact Nat.zero_le _
 ·split
  ·exact Nat.zero_le _
  ·rename_i h;exact Nat.le_of_not_lt h
theorem sU (s:ByteArray):aa (paW s) (mR 0 0 0).nx:=by
 have h:=sT s;have e:(paW s).len=(ai s).1.length:=cV _;exact ⟨Int.le_refl _,by show (0:Int)<=_;omega,by omega⟩
noncomputable def pF:List Dat->Option Eff:=fun ds=>match ds with
 | [.s s]=>some {val:=.tup [.agg [.c (.osl 101 0 (.lit 0) (.sym ((paC s).len))),.c (.osl 106 1 (.lit 0) (.sym ((paU s).len))),.c (.osl 72 2 (.lit 0) (.sym ((paP s).len)))],.sc (.int .i64 (.sym (paA s))),.sc (.int .i64 (.sym (paE s)))],vc:=[s.size<=140737488351232],nw:=[(0,.orow 101 (paC s)),(1,.orow 106 (paU s)),(2,.orow 72 (paP s))]}
 |_=>none
noncomputable def zP:Con:=bM [.sc .str] pF
theorem zQ:ConOK Tryz.prog 7 zP:=by
 refine jq tt_ok au Tryz.func7 rfl (fun _ _=>by kernel_rfl) (A:=fun ds=>⟨fun _=>Cons.of [(16,sS),(17,zH)],fun _=>none,fun _=>none⟩) (fun _ _=>(af Ip (af HY aq))) (by kernel_rfl) ?_
 intro ds;unfold pF;split
 ·rename_i s;refine kmp (q:=ac (mR (0:Int) (0:Int) (0:Int)) fun Ea=>ac (syR (bh (ai s).fst) (s.size:Int) Ea) fun Eb=>s.size<=140737488351232->s.size<=140737488351232/\(((ai s).snd.snd != (0:Int))=true->(paC s).len=0/\(paU s).len=0/\(paP s).len=0/\((ai s).snd.fst:Int)=paA s/\(ai s).snd.snd=paE s/\(paC s).rows=[]/\(paU s).rows=[]/\(paP s).rows=[])/\(((ai s).snd.snd != (0:Int))=false->aa (bh (ai s).fst) (0:Int)/\((Eb.er != (0:Int))=true->(paC s).len=0/\(paU s).len=0/\(paP s).len=0/\Eb.pa=paA s/\Eb.er=paE s/\(paC s).rows=[]/\(paU s).rows=[]/\(paP s).rows=[])/\((Eb.er != (0:Int))=false->(syC (bh (ai s).fst) (s.size:Int) Ea).fst.len=(paC s).len/\(syU (bh (ai s).fst) (s.size:Int) Ea).fst.len=(paU s).len/\(syP (bh (ai s).fst) (s.size:Int) Ea).fst.len=(paP s).len/\(0:Int)=paA s/\(0:Int)=paE s/\(syC (bh (ai s).fst) (s.size:Int) Ea).fst.rows=(paC s).rows/\(syU (bh (ai s).fst) (s.size:Int) Ea).fst.rows=(paU s).rows/\(syP (bh (ai s).fst) (s.size:Int) Ea).fst.rows=(paP s).rows))) (by kernel_rfl) ?_
  dsimp +instances only [ac]
  intro h;have g:=sU s;refine ⟨h,fun hc=>?_,fun hc=>⟨g,fun hd=>?_,fun hd=>?_⟩⟩
  ·have hc:(ai s).2.2≠0:=by simpa using hc
   have e:paO s=false:=by simp only[paO,decide_eq_false hc,Bool.false_and]
   simp only[paC,paU,paP,paA,paE,e,if_neg hc,Bool.false_eq_true,if_false]
   (repeat' with_reducible constructor)<;>first |assumption |decide |rfl
  ·have hc:(ai s).2.2=0:=by simpa using hc
   have hd:(paY s).er≠0:=mV hd;have e:paO s=false:=by simp only[paO,decide_eq_false hd,Bool.and_false]
   simp only[paC,paU,paP,paA,paE,e,if_pos hc,if_neg hd,Bool.false_eq_true,if_false]
   (repeat' with_reducible constructor)<;>first |assumption |decide |rfl
  ·have hc:(ai s).2.2=0:=by simpa using hc
   have hd:(paY s).er=0:=kO hd;have e:paO s=true:=by simp only[paO,decide_eq_true hc,decide_eq_true hd,Bool.and_self]
   simp only[paC,paU,paP,paA,paE,e,if_pos hc,if_pos hd,if_true,hd]
   (repeat' with_reducible constructor)<;>first |assumption |decide |rfl
 ·trivial
end Go.Proofs.YtbhbjhejkamlnaaGreat.Sx.Z
