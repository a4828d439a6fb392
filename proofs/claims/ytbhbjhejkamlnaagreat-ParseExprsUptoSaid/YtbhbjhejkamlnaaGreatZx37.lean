import Derived.Test.YtbhbjhejkamlnaaGreatZx26
import Derived.Test.YtbhbjhejkamlnaaGreatZx36
import Derived.Test.YtbhbjhejkamlnaaGreatZx25
set_option linter.all false
namespace Go.Proofs.YtbhbjhejkamlnaaGreat.Sx.Z
open Go.RowKit
def tw (l:List ByteArray):List ByteArray:=⟨#[112,114,111,99]⟩::⟨#[112]⟩::⟨#[123]⟩::⟨#[120]⟩::⟨#[61]⟩::(l++[⟨#[59]⟩,⟨#[125]⟩])
theorem iW (l:List ByteArray):(tw l).length=l.length+7:=by
 show (_::_::_::_::_::(l++[_,_])).length=_;simp only[List.length_cons,List.length_append,List.length_nil]
def jY (x:Xp):List D:=(⟨1,⟨#[120]⟩,ByteArray.empty,x,C00,.l [],.l [],.l []⟩:St).row
def sy2 (x:Xp):D:=.l [[.s ⟨#[112]⟩,.l [],.l [jY x]]]
structure TwA (ws:D) (l:List ByteArray):Prop where
 a0:TkA ws 0 kwP
 a1:TkA ws 1 ⟨#[112]⟩
 a2:TkA ws 2 obB
 a3:TkA ws 3 ⟨#[120]⟩
 a4:TkA ws 4 eqB
 al:At ws 5 l
 a5:TkA ws (5+l.length) seB
 a6:TkA ws (6+l.length) cbB
theorem vm {ws:D} {l:List ByteArray} (h:At ws 0 (tw l)):TwA ws l:=by
 obtain ⟨a0,b0⟩:=At.cons h;obtain ⟨a1,b1⟩:=b0.cons;obtain ⟨a2,b2⟩:=b1.cons;obtain ⟨a3,b3⟩:=b2.cons;obtain ⟨a4,b4⟩:=b3.cons;obtain ⟨a5,b5⟩:=b4.app;obtain ⟨a6,b6⟩:=b5.cons;obtain ⟨a7,_⟩:=b6.cons;refine ⟨a0,a1,a2,a3,a4,a5,a6,?_⟩;rw[show 6+l.length=0+1+1+1+1+1+l.length+1 by omega];exact a7
theorem kx1:kOf ⟨#[120]⟩=1:=by decide +kernel
theorem kp1:kOf ⟨#[112]⟩=1:=by decide +kernel
theorem DV {ws:D} {en:Int} {l:List ByteArray} (h:TwA ws l) (pa:Int):wtG ws (rp 3 pa)=true/\(∀ (P:PB),wtF P en ws 0 (rp 3 pa)=(wgS ws en (rp 3 pa),wgR ws en (rp 3 pa)))/\wgE ws en (rp 3 pa)=wsX en ws 0 (rp 5 pa)/\wnS ws (rp 3 pa)=⟨#[120]⟩:=by
 have e1:wnR ws en 1 (rp 3 pa)=rp (3+1) pa:=nr h.a3 kx1;have e2:muR ws en eqB (rp (3+1) pa)=rp (3+1+1) pa:=jI h.a4 (by decide);refine ⟨JB h.a3 (.inl kx1) pa,fun P=>?_,?_,tF h.a3 kx1⟩
 ·unfold wtF;simp only[bK h.a3,kx1];simp only[show decide ((1:Int)>=3)=false from rfl,Bool.and_false,Bool.false_eq_true,if_false]
 ·unfold wgE;rw[e1,e2]
theorem Mb {ws:D} (hw:ws.len<=1000000) {en:Int} {l:List ByteArray} (h:TwA ws l) (m:Nat) {pa:Int} {x:Xp} (hX:wsX en ws 0 (rp 5 pa)=(x,rp (5+l.length) pa)):wtR (m+1) en ws 0 (rp 3 pa)=(.l [jY x],rp (6+l.length) pa):=by
 obtain ⟨g1,g2,g3,g4⟩:=DV (en:=en) h pa;show aj (wtG ws) (wtH (wtR m) en ws 0) ws (.l []) (rp 3 pa)=_;have h5:=h.a5.lt;have hF:wtH (wtR m) en ws 0 (rp 3 pa)=(jY x,rp (6+l.length) pa):=by
  have e:wgR ws en (rp 3 pa)=rp (5+l.length+1) pa:=by
   unfold wgR;rw[g3,hX];exact jI h.a5 (by decide)
  unfold wtH;rw[g2,e,show 5+l.length+1=6+l.length by omega];unfold wgS;rw[g3,g4,hX];rfl
 rw[<- cL (kY (kZ m en ws) (nl m) 0) (iF (by omega) hw) g1,hF,bv (JC h.a6 pa)];rfl
theorem Mc {ws:D} (hw:ws.len<=1000000) {en:Int} {l:List ByteArray} (hT:At ws 0 (tw l)) (hl:ws.len=(tw l).length) {pa:Int} {x:Xp} (hX:wsX en ws 0 (rp 5 pa)=(x,rp (5+l.length) pa)):wyC ws en (rp 0 pa)=(.l [],rp 0 pa)/\wyU ws en (rp 0 pa)=(.l [],rp 0 pa)/\wyP ws en (rp 0 pa)=(sy2 x,rp ws.len pa)/\wyR ws en (rp 0 pa)=rp ws.len pa:=by
 have h:=vm hT;rw[iW] at hl;have eC:wyC ws en (rp 0 pa)=(.l [],rp 0 pa):=bv (by rw[iI h.a0];decide);have eU:wyU ws en (rp 0 pa)=(.l [],rp 0 pa):=by
  unfold wyU;rw[eC];exact bv (by rw[iI h.a0];decide)
 have e1:wnR ws en 1 (rp 1 pa)=rp (1+1) pa:=nr h.a1 kp1;have eA:wuA ws en (rp 1 pa)=rp 3 pa:=by unfold wuA;rw[e1];exact jI h.a2 (by decide)
 have eV:wpV ws en (rp 1 pa)=(.l [],rp 3 pa):=by
  unfold wpV;rw[eA];exact bv (by rw[iI h.a3];decide)
 have eB:wpB ws en (rp 1 pa)=(.l [jY x],rp (6+l.length) pa):=by
  unfold wpB;rw[eV];unfold wtX;exact Mb hw h 1000000 hX
 have hF:dO ws en (rp 0 pa)=([.s ⟨#[112]⟩,.l [],.l [jY x]],rp ws.len pa):=by
  unfold dO;rw[em];show ((wpZ ws en (rp 1 pa)).row,wpR ws en (rp 1 pa))=_;unfold wpZ wpR;rw[eB,eV,tF h.a1 kp1];show (_,muR ws en cbB (rp (6+l.length) pa))=_;rw[show muR ws en cbB (rp (6+l.length) pa)=rp (6+l.length+1) pa from jI h.a6 (by decide),hl,show 6+l.length+1=l.length+7 by omega];rfl
 have eP:wyP ws en (rp 0 pa)=(sy2 x,rp ws.len pa):=by
  unfold wyP;rw[eU];show aj _ _ ws (.l []) (rp 0 pa)=_;rw[<- cL (lf en) (iF (Nat.zero_le _) hw) (by rw[iI h.a0];decide),hF];exact bv (Ju (Nat.le_refl _) _)
 refine ⟨eC,eU,eP,?_⟩;unfold wyR;rw[eP];exact if_neg (Int.lt_irrefl _)
theorem Md {ws:D} {t:ByteArray} {r:Rd} (h:r.er=6):isB ws t r=false:=by unfold isB;rw[h];rfl
theorem Me {ws:D} (hw:ws.len<=1000000) {en:Int} {l:List ByteArray} (hT:At ws 0 (tw l)) (hl:ws.len=(tw l).length) {pa:Int} (hX:(wsX en ws 0 (rp 5 pa)).2.er=6):(wyR ws en (rp 0 pa)).er=6:=by
 have h:=vm hT;rw[iW] at hl;have eC:wyC ws en (rp 0 pa)=(.l [],rp 0 pa):=bv (by rw[iI h.a0];decide);have eU:wyU ws en (rp 0 pa)=(.l [],rp 0 pa):=by
  unfold wyU;rw[eC];exact bv (by rw[iI h.a0];decide)
 have e1:wnR ws en 1 (rp 1 pa)=rp (1+1) pa:=nr h.a1 kp1;have eA:wuA ws en (rp 1 pa)=rp 3 pa:=by unfold wuA;rw[e1];exact jI h.a2 (by decide)
 have eV:wpV ws en (rp 1 pa)=(.l [],rp 3 pa):=by
  unfold wpV;rw[eA];exact bv (by rw[iI h.a3];decide)
 obtain ⟨g1,g2,g3,g4⟩:=DV (en:=en) h pa;have eS:∀ m:Nat,(wtR (m+1) en ws 0 (rp 3 pa)).2.er=6:=fun m=>by
  show (aj (wtG ws) (wtH (wtR m) en ws 0) ws (.l []) (rp 3 pa)).2.er=_;have hF:(wtH (wtR m) en ws 0 (rp 3 pa)).2.er=6:=by
   unfold wtH;rw[g2];show (wgR ws en (rp 3 pa)).er=6;unfold wgR;rw[g3];exact qG hX
  rw[<- cL (kY (kZ m en ws) (nl m) 0) (iF (by omega) hw) g1,bv (pQ (by rw[hF];decide))];exact hF
 have eB:(wpB ws en (rp 1 pa)).2.er=6:=by
  unfold wpB;rw[eV];unfold wtX;exact eS 1000000
 have hF:(dO ws en (rp 0 pa)).2.er=6:=by
  unfold dO;rw[em];show (wpR ws en (rp 1 pa)).er=6;unfold wpR;exact qG eB
 have eP:(wyP ws en (rp 0 pa)).2.er=6:=by
  unfold wyP;rw[eU];show (aj _ _ ws (.l []) (rp 0 pa)).2.er=_;rw[<- cL (lf en) (iF (Nat.zero_le _) hw) (by rw[iI h.a0];decide),bv (show wkG kwP ws _=false from Md hF)];exact hF
 unfold wyR;split
 ·unfold ffR;rw[if_neg (by rw[eP];decide)];exact eP
 ·exact eP
def nE (w:ByteArray):Prop:=w.data.toList.headD 0≠61
theorem DW {w:ByteArray} {k m:Int} {n:Nat} (h:bb w.data.toList = .ok (k,n,m)) (hk:k=1 ∨ k=2):nE w:=fun he=>by
 unfold bb at h;rw[he,if_neg (by decide),if_neg (by decide)] at h;unfold dY at h
 split at h
 ·cases h
 ·simp only[Except.ok.injEq,Prod.mk.injEq] at h;omega
theorem Mf:∀ (m:Nat) {k n:Int} {s:ByteArray} {d:D},SizeOf.sizeOf d<=m->aX k n s d=true->∃ w l,xW k n s d=w::l/\nE w
 |m,k,n,s,d,hm,h=>by
  refine ns (P:=fun k n s d=>∃ w l,xW k n s d=w::l/\nE w) ?_ ?_ ?_ ?_ h
  ·intro n s d hn;exact ⟨_,_,rfl,DW (tH hn).1 (.inr rfl)⟩
  ·intro n s d hn;obtain ⟨m,h1,_⟩:=Bu hn;exact ⟨_,_,rfl,DW h1 (.inl rfl)⟩
  ·intro n s d hl _;rw[lq n s (by omega)];exact ⟨_,_,rfl,by unfold nE;decide⟩
  ·intro k n s d hb hl i0 _;rw[iH n s hb (by omega)];obtain ⟨w,l,e,hw⟩:=i0;unfold par;split
   ·exact ⟨_,_,rfl,by unfold nE;decide⟩
   ·rw[e];exact ⟨_,_,rfl,hw⟩
def hdJ:List (ByteArray × List UInt8):=[(⟨#[112,114,111,99]⟩,[32]),(⟨#[112]⟩,[32]),(⟨#[123]⟩,[32]),(⟨#[120]⟩,[32]),(⟨#[61]⟩,[32])]
def opJ (k:Nat):List (ByteArray × List UInt8):=List.replicate k (⟨#[40]⟩,[])
def clJ (k:Nat):List (ByteArray × List UInt8):=List.replicate k (⟨#[41]⟩,[])
def blJ (l:List ByteArray):List (ByteArray × List UInt8):=l.map fun w=>(w,[32])
def enJ:List (ByteArray × List UInt8):=[(⟨#[59]⟩,[32]),(⟨#[125]⟩,[])]
def gU (k:Nat) (l:List ByteArray):List (ByteArray × List UInt8):=hdJ++(opJ k++(blJ l++(clJ k++enJ)))
theorem DX:∀ (k:Nat) (l:List ByteArray),List.replicate k (⟨#[40]⟩:ByteArray)++(l++List.replicate k (⟨#[41]⟩:ByteArray))=pk k l
 | 0,l=>by show []++(l++[])=l;simp
 |k+1,l=>by
  show ⟨#[40]⟩::(List.replicate k _++(l++List.replicate (k+1) _))=⟨#[40]⟩::(pk k l++[_]);rw[<- DX k l,List.replicate_succ'];simp only[List.append_assoc]
theorem DY (k:Nat) (l:List ByteArray):(gU k l).map Prod.fst=tw (pk k l):=by
 unfold gU hdJ opJ clJ blJ enJ;rw[<- DX];simp only[List.map_append,List.map_cons,List.map_nil,List.map_replicate,List.map_map];rw[show (Prod.fst ∘ fun w:ByteArray=>(w,[(32:UInt8)]))=id from rfl,List.map_id];show _=_::_::_::_::_::((_++(_++_))++_);simp only[List.append_assoc,List.cons_append,List.nil_append]
theorem Mg {w:ByteArray} {g t:List UInt8} (hg:∀ b∈g,cy b=true) (h0:g≠[]):Bd w.data.toList (g++t):=by
 refine .inr ?_
 cases g with
 |nil=>exact absurd rfl h0
 |cons b g=>
  have hb:=wN (hg b (List.mem_cons_self ..));show if aU (w.data.toList.headD 0)=true then aU b=false else b≠61
  split<;>rcases hb with e |e<;>rw[e]<;>decide
theorem g32:∀ b∈[(32:UInt8)],cy b=true:=fun b hb=>by rw[List.mem_singleton.1 hb];decide
theorem jZ {w:ByteArray} {l:List (ByteArray × List UInt8)} (hw:wOk w) (h:fit l):fit ((w,[32])::l):=⟨hw,g32,Mg g32 (List.cons_ne_nil _ _),h⟩
theorem DZ {w:ByteArray} {l:List (ByteArray × List UInt8)} (hw:wOk w) (ha:aU (w.data.toList.headD 0)=false) (hn:(jn l).headD 0≠61) (h:fit l):fit ((w,[])::l):=⟨hw,fun _ h=>(by cases h),.inr (by rw[if_neg (by rw[ha];decide)];exact hn),h⟩
theorem vn {w:ByteArray} {g:List UInt8} {l:List (ByteArray × List UInt8)} (hw:wOk w):(jn ((w,g)::l)).headD 0=w.data.toList.headD 0:=by
 show (w.data.toList++(g++jn l)).headD 0=_;exact mb hw.pos
theorem D1:∀ (k:Nat) {l:List (ByteArray × List UInt8)},fit l->(jn l).headD 0≠61->fit (opJ k++l)/\(jn (opJ k++l)).headD 0≠61
 | 0,l,h,hn=>⟨h,hn⟩
 |k+1,l,h,hn=>by
  obtain ⟨a,b⟩:=D1 k h hn;exact ⟨DZ lr (by decide) b a,by
   show (jn ((_,_)::(opJ k++l))).headD 0≠61;rw[vn lr];decide⟩
theorem D2:∀ (k:Nat) {l:List (ByteArray × List UInt8)},fit l->(jn l).headD 0≠61->fit (clJ k++l)/\(jn (clJ k++l)).headD 0≠61
 | 0,l,h,hn=>⟨h,hn⟩
 |k+1,l,h,hn=>by
  obtain ⟨a,b⟩:=D2 k h hn;exact ⟨DZ lu (by decide) b a,by
   show (jn ((_,_)::(clJ k++l))).headD 0≠61;rw[vn lu];decide⟩
theorem D3:∀ {ws:List ByteArray} {l:List (ByteArray × List UInt8)},alW ws->fit l->fit (blJ ws++l)
 | [],l,_,h=>h
 |w::ws,l,hw,h=>jZ (hw w (List.mem_cons_self ..)) (D3 (fun x hx=>hw x (List.mem_cons_of_mem _ hx)) h)
theorem Mh (k:Nat) {ws:List ByteArray} (hw:alW ws) (h1:∃ w l,ws=w::l/\nE w):fit (gU k ws):=by
 have e1:fit enJ:=jZ iJ ⟨lx,fun _ h=>(by cases h),.inl rfl,trivial⟩;have e2:=D2 k e1 (by decide);have e3:=D3 hw e2.1;have e4:(jn (blJ ws++(clJ k++enJ))).headD 0≠61:=by
  obtain ⟨w,l,rfl,h⟩:=h1;show (jn ((w,[32])::(blJ l++(clJ k++enJ)))).headD 0≠61;rw[vn (hw w (List.mem_cons_self ..))];exact h
 have e5:=(D1 k e3 e4).1;exact jZ Bw (jZ (li (k:=1) (m:=0) rfl (by decide)) (jZ lw (jZ (li (k:=1) (m:=0) rfl (by decide)) (jZ Bv e5))))
theorem Mi {k n:Int} {s:ByteArray} {d:D} (h:aX k n s d=true) {j:Nat} {t:ByteArray} (ht:t.data.toList=jn (gU j (xW k n s d))) (hl:(xW k n s d).length+2*j+7<=2000) :
 (xN k d j=true->paC t = .l []/\paU t = .l []/\paP t=sy2 (xC k n s d)/\paE t=0)/\(xN k d j=false->paE t=6):=by
 have hlen:(gU j (xW k n s d)).length=(xW k n s d).length+2*j+7:=by
  rw[<- List.length_map (f:=Prod.fst),DY,iW,nP]
 obtain ⟨ts,t1,t2⟩:=JL ht (Mh j (nA h) (Mf _ (Nat.le_refl _) h)) (by rw[hlen];exact hl);rw[DY] at t2;obtain ⟨a1,a2⟩:=t2.at;have eW:paW t=bh ts:=by unfold paW;rw[t1]
 have hl0:(ai t).2.2=0:=by rw[t1]
 obtain ⟨e1,e2,e3,_,e5⟩:=p8 t;have hw:(bh ts).len<=1000000:=by rw[a2,iW,nP];omega
 have hT:=vm a1;have hp:5<=(bh ts).len:=by rw[a2,iW];omega
 constructor
 ·intro hN;have hX:wsX ((t.size:Nat):Int) (bh ts) 0 (rp 5 0)=(xC k n s d,rp (5+(pk j (xW k n s d)).length) 0):=by
   unfold wsX;exact DT (tK hw _ h) j 1000001 0 5 0 (by rw[Int.zero_add];exact hN) (by omega) hp hT.al (Bm hT.a5).1 (Bm hT.a5).2
  obtain ⟨r1,r2,r3,r4⟩:=Mc hw a1 a2 hX;have hY:rpY t=rp (bh ts).len 0:=by unfold rpY;rw[eW];exact r4
  obtain ⟨g1,g2,g3,g4,g5⟩:=pZ hl0 hY rfl;rw[eW] at g1 g2 g3;refine ⟨?_,?_,?_,e5.trans g5⟩
  ·rw[e1,g1];exact congrArg Prod.fst r1
  ·rw[e2,g2];exact congrArg Prod.fst r2
  ·rw[e3,g3];exact congrArg Prod.fst r3
 ·intro hN;have hX:(wsX ((t.size:Nat):Int) (bh ts) 0 (rp 5 0)).2.er=6:=by
   unfold wsX;exact DU (L9 hw _ h) j 1000001 0 5 0 (by rw[Int.zero_add];exact hN) (by decide) (by omega) hp hT.al
  have r:=Me hw a1 a2 hX;have hY:(rpY t).er=6:=by unfold rpY;rw[eW];exact r
  obtain ⟨_,_,_,_,g5⟩:=pY hl0 (R:=rpY t) rfl (by rw[hY];decide);rw[e5,g5,hY]
def k30 (a:Int):Nat:=(IntKind.u64.wrap a).toNat%30
def ptO:Nat->ByteArray
 | 0=>⟨#[112,114,111,99,32,112,32,123,32,120,32,61,32]⟩
 |i+1=>ptO i++⟨#[40]⟩
def ptW (l:D) (k:Nat):Nat->ByteArray
 | 0=>ptO k
 |i+1=>if i<5 then ptO k else ptW l k i++(l.el i 0).toS++⟨#[32]⟩
def ptC (l:D) (k:Nat):Nat->ByteArray
 | 0=>ptW l k (l.len-2)
 |i+1=>ptC l k i++⟨#[41]⟩
theorem D4 {f:Nat->List ByteArray}:ae 1 f=f 0:=by
 unfold ae
 simp
def ci (k n:Int) (x:ByteArray) (d:D):D:=.l [[.i 1,.s ⟨#[120]⟩,.s ByteArray.empty,.i k,.i n,.s x,d,.i 0,.i 0,.i 0,.s ByteArray.empty,.l [],.i 0,.i 0,.s ByteArray.empty,.l [],.l [],.l [],.l []]]
def prX (k n:Int) (x:ByteArray) (d:D):D:=.l [[.s ⟨#[112]⟩,.l [],ci k n x d]]
theorem Mj (k n:Int) (x:ByteArray) (d:D):bW (ci k n x d)=⟨#[120]⟩::⟨#[61]⟩::(xW k n x d++[⟨#[59]⟩]):=by
 rw[qb];show ae 1 _=_;rw[D4];unfold ak stW fL;rw[if_pos (show ((ci k n x d).el 0 0).toI=1 from rfl)];rfl
theorem Mk (k n:Int) (x:ByteArray) (d:D):syW (.l []) (.l []) (prX k n x d)=tw (xW k n x d):=by
 show []++([]++ae 1 (bH (prX k n x d)))=_;rw[D4];show []++([]++([⟨#[112,114,111,99]⟩,⟨#[112]⟩,⟨#[123]⟩]++([]++(bW (ci k n x d)++[⟨#[125]⟩]))))=_;rw[Mj];unfold tw
 simp
theorem Ml {k n:Int} {x:ByteArray} {d:D} (h:vSy (.l []) (.l []) (prX k n x d)=true):vX k n x d=true:=by
 unfold vSy at h;simp only[Bool.and_eq_true] at h;have h:=bP.1 h.2.2 0 (Nat.zero_lt_one);unfold rpq at h;simp only[Bool.and_eq_true] at h;have h:vB (ci k n x d)=true:=h.2;rw[iK] at h;have h:=bP.1 h 0 (Nat.zero_lt_one);unfold vSt vA bz at h;rw[if_pos (show ((ci k n x d).el 0 0).toI=1 from rfl)] at h;simp only[Bool.and_eq_true] at h;exact h.2
theorem Mm {k n:Int} {x:ByteArray} {d:D}:tM (prX k n x d)=sy2 (xC k n x d):=by
 have hb:bC (ci k n x d) = .l [jY (xC k n x d)]:=by
  rw[Bo];show D.l [ny (ci k n x d) 0]=_;have:ny (ci k n x d) 0=jY (xC k n x d):=by
   unfold ny stC tL;rw[if_pos (show ((ci k n x d).el 0 0).toI=1 from rfl)];rfl
  rw[this]
 show D.l [[.s ⟨#[112]⟩,.l [],.l (bC (ci k n x d)).rows]]=_;rw[hb];rfl
theorem Mn {k n:Int} {s:ByteArray} {d:D} (h:vX k n s d=true):aX k n s d=true:=tV (fun j hj=>BJ _ d (Nat.le_refl _) j hj) h
theorem D5 {k n:Int} {s:ByteArray} {d:D} {k2 n2:Int} {s2:ByteArray} {d2:D} (h:XQ k n s d k2 n2 s2 d2):XQ k n s (.l d.rows) k2 n2 s2 d2:=by
 cases h with
 |mk h0 h1 h2 h3 h4=>exact .mk h0 h1 h2 h3 h4
theorem D6:∀ (m:Nat) {k n:Int} {s:ByteArray} {d:D},SizeOf.sizeOf d<=m->vX k n s d=true->XQ (xC k n s d).k (xC k n s d).n (xC k n s d).s (xC k n s d).d k n s d
 |m,k,n,s,d,hm,h=>by
  by_cases h1:k=1
  ·subst h1;have hl:(d.len:Int)=0:=by
    have e:vX 1 n s d=(nuB n&&(d.len:Int)==0):=rfl;rw[e] at h;simp only[Bool.and_eq_true,beq_iff_eq] at h;exact h.2
   exact .mk rfl (fun _=>rfl) (fun h=>absurd (show (1:Int)=2 from h) (by decide)) (by show 0=d.len;omega) (fun i hi=>absurd hi (Nat.not_lt_zero i))
  by_cases h2:k=2
  ·subst h2;have hl:(d.len:Int)=0:=by
    have e:vX 2 n s d=(nmB s&&(d.len:Int)==0):=rfl;rw[e] at h;simp only[Bool.and_eq_true,beq_iff_eq] at h;exact h.2
   exact .mk rfl (fun h=>absurd (show (2:Int)=1 from h) (by decide)) (fun _=>rfl) (by show 0=d.len;omega) (fun i hi=>absurd hi (Nat.not_lt_zero i))
  have key:∀ i,i<d.len->vX (d.el i 0).toI (d.el i 1).toI (d.el i 2).toS (d.el i 3)=true->XQ (xC (d.el i 0).toI (d.el i 1).toI (d.el i 2).toS (d.el i 3)).k (xC (d.el i 0).toI (d.el i 1).toI (d.el i 2).toS (d.el i 3)).n (xC (d.el i 0).toI (d.el i 1).toI (d.el i 2).toS (d.el i 3)).s (.l (xC (d.el i 0).toI (d.el i 1).toI (d.el i 2).toS (d.el i 3)).d.rows) (d.el i 0).toI (d.el i 1).toI (d.el i 2).toS (d.el i 3):=fun i hi hx=>by
   have hs:=ap (j:=3) hi
   cases m with
   |zero=>omega
   |succ m=>exact D5 (D6 m (by omega) hx)
  by_cases h3:k=3
  ·subst h3;obtain ⟨e,hx⟩:=iO h;rw[tJ n s (by omega)];refine .mk rfl (fun h=>absurd (show (3:Int)=1 from h) (by decide)) (fun h=>absurd (show (3:Int)=2 from h) (by decide)) (by show 1=d.len;omega) (fun i hi=>?_);obtain rfl:i=0:=Nat.lt_one_iff.1 hi;exact key 0 (by omega) hx
  ·have hb:=ue h h1 h2 h3;have hk:=ei hb;obtain ⟨e,x0,x1⟩:=lD hb h;rw[qd n s hb (by omega)];refine .mk rfl (fun h=>absurd h h1) (fun h=>absurd h h2) (by show 2=d.len;omega) (fun i hi=>?_);have hi:i<2:=hi;have:i=0 ∨ i=1:=by omega
   rcases this with rfl |rfl
   ·exact key 0 (by omega) x0
   ·exact key 1 (by omega) x1
theorem Mo (a:Int):k30 a<30:=Nat.mod_lt _ (by decide)
theorem Mp (a:Int):IntKind.i64.wrap ((IntKind.u64.wrap a).tmod 30)=(k30 a:Int):=by
 have h0:0<=IntKind.u64.wrap a:=by rw[IntKind.wrap_u64];omega
 have e:(IntKind.u64.wrap a).tmod 30=((IntKind.u64.wrap a).toNat%30:Nat):=by
  rw[Int.tmod_eq_emod_of_nonneg h0];omega
 rw[e,IntWalk.i64_in _ (by omega)];rfl
theorem nQ:∀ a b:List (ByteArray × List UInt8),jn (a++b)=jn a++jn b
 | [],_=>rfl
 |x::a,b=>by
  show x.1.data.toList++(x.2++jn (a++b))=(x.1.data.toList++(x.2++jn a))++jn b;rw[nQ a b];simp only[List.append_assoc]
theorem D7:∀ k,(ptO k).data.toList=jn (hdJ++opJ k)
 | 0=>by decide
 |k+1=>by
  have e:hdJ++opJ (k+1)=(hdJ++opJ k)++[(⟨#[40]⟩,[])]:=by
   unfold opJ;rw[List.replicate_succ',List.append_assoc]
  rw[e,nQ,<- D7 k,ptO,ByteArray.data_append,Array.toList_append];rfl
theorem qH:∀ k,(ptO k).size=13+k
 | 0=>rfl
 |k+1=>by
  rw[ptO,ByteArray.size_append,qH k];rfl
theorem Mq {l:List ByteArray} {i:Nat} (h:i<l.length):((wsR (tw l)).el (5+i) 0).toS=l[i]:=by
 rw[DJ (by rw[iW];omega)];unfold tw;rw[List.getElem_cons,dif_neg (by omega),List.getElem_cons,dif_neg (by omega),List.getElem_cons,dif_neg (by omega),List.getElem_cons,dif_neg (by omega),List.getElem_cons,dif_neg (by omega),List.getElem_append_left (by omega)]
 congr 1
 omega
theorem D8 (l:List ByteArray) (k:Nat):∀ i,i<=l.length->(ptW (wsR (tw l)) k (5+i)).data.toList=jn (hdJ++(opJ k++blJ (l.take i)))
 | 0,_=>by
   show (if (4:Nat)<5 then ptO k else _).data.toList=_;rw[if_pos (by decide),D7];show _=jn (hdJ++(opJ k++[]));rw[List.append_nil]
 |i+1,hi=>by
  have e:hdJ++(opJ k++blJ (l.take (i+1)))=(hdJ++(opJ k++blJ (l.take i)))++[(l[i],[32])]:=by
   unfold blJ;rw[List.take_succ_eq_append_getElem (by omega),List.map_append];simp only[List.append_assoc];rfl
  have e2:ptW (wsR (tw l)) k (5+(i+1))=ptW (wsR (tw l)) k (5+i)++((wsR (tw l)).el (5+i) 0).toS++⟨#[32]⟩:=if_neg (show ¬ 5+i<5 by omega);rw[e,nQ,<- D8 l k i (by omega),e2,Mq (by omega),ByteArray.data_append,Array.toList_append,ByteArray.data_append,Array.toList_append,List.append_assoc];rfl
theorem D9 (l:List ByteArray) (k:Nat):∀ i,(ptC (wsR (tw l)) k i).data.toList=jn (hdJ++(opJ k++(blJ l++clJ i)))
 | 0=>by
   have e:(wsR (tw l)).len-2=5+l.length:=by rw[<- wsl,iW];omega
   show (ptW (wsR (tw l)) k ((wsR (tw l)).len-2)).data.toList=jn (hdJ++(opJ k++(blJ l++[])));rw[e,D8 l k _ (Nat.le_refl _),List.take_length,List.append_nil]
 |i+1=>by
  have e:hdJ++(opJ k++(blJ l++clJ (i+1)))=(hdJ++(opJ k++(blJ l++clJ i)))++[(⟨#[41]⟩,[])]:=by
   unfold clJ;rw[List.replicate_succ'];simp only[List.append_assoc]
  rw[e,nQ,<- D9 l k i,ptC,ByteArray.data_append,Array.toList_append];rfl
theorem Mr (l:List ByteArray) (k:Nat):(ptC (wsR (tw l)) k k++⟨#[59,32,125]⟩).data.toList=jn (gU k l):=by
 rw[ByteArray.data_append,Array.toList_append,D9];have e:gU k l=(hdJ++(opJ k++(blJ l++clJ k)))++enJ:=by unfold gU;simp only[List.append_assoc]
 rw[e,nQ (hdJ++(opJ k++(blJ l++clJ k))) enJ];rfl
theorem vo {l:D} (h:∀ j,j<l.len->(l.el j 0).toS.size<=30) (k:Nat):∀ i,i<=l.len->(ptW l k i).size<=13+k+i*31
 | 0,_=>by show (ptO k).size<=_;rw[qH];omega
 |i+1,hi=>by
  have h1:=vo h k i (by omega);have h2:=h i (by omega);rw[ptW];split
  ·rw[qH];omega
  ·rw[ByteArray.size_append,ByteArray.size_append,show (ByteArray.mk #[32]).size=1 from rfl];omega
theorem ET {l:D} (h:∀ j,j<l.len->(l.el j 0).toS.size<=30) (k:Nat):∀ i,(ptC l k i).size<=13+k+l.len*31+i
 | 0=>by
   have:=vo h k (l.len-2) (by omega);show (ptW l k (l.len-2)).size<=_;omega
 |i+1=>by
  have:=ET h k i;rw[ptC,ByteArray.size_append,show (ByteArray.mk #[41]).size=1 from rfl];omega
def en9 (s:ByteArray):Int:=(s.size:Nat)
def nR (s_:ByteArray) (i:D × Rd):List D:=[D.s (wkZ (paW s_) (en9 s_) (gw i.snd)).nm,D.i (wkZ (paW s_) (en9 s_) (gw i.snd)).k,D.i (wkZ (paW s_) (en9 s_) (gw i.snd)).n,D.s (wkZ (paW s_) (en9 s_) (gw i.snd)).fr,D.s (wkZ (paW s_) (en9 s_) (gw i.snd)).to,(wkZ (paW s_) (en9 s_) (gw i.snd)).tg.sub 0 ((0:Nat)+(wkZ (paW s_) (en9 s_) (gw i.snd)).tg.len)]
def nS (s_:ByteArray) (i:D × Rd) (i_1:D × Rd):List D:=[D.s (wnS (paW s_) (gw i.snd)),i_1.fst.sub 0 ((0:Nat)+i_1.fst.len),(wtX (en9 s_) (paW s_) (0:Int) i_1.snd).fst.sub 0 ((0:Nat)+(wtX (en9 s_) (paW s_) (0:Int) i_1.snd).fst.len)]
def nT (s_:ByteArray) (i_1:D × Rd):List D:=[D.i (wnN (paW s_) i_1.snd),D.s (wnS (paW s_) (wnR (paW s_) (en9 s_) (2:Int) i_1.snd)),D.i (wnN (paW s_) (wnR (paW s_) (en9 s_) (1:Int) (wnR (paW s_) (en9 s_) (2:Int) i_1.snd)))]
noncomputable def EU:List Dat->Option Eff:=fun ds=>match ds with
 | [.s s_]=>some {val:=.tup [.agg [.c (.osl 62 0 (.lit 0) (.sym ((rpC s_).len))),.c (.osl 66 1 (.lit 0) (.sym ((rpU s_).len))),.c (.osl 34 2 (.lit 0) (.sym ((rpP s_).len)))],.sc (.int .i64 (.sym (rpA s_))),.sc (.int .i64 (.sym (rpE s_)))],vc:=[s_.size<=2147483647],nw:=[(0,.orow 62 (rpC s_)),(1,.orow 66 (rpU s_)),(2,.orow 34 (rpP s_))]}
 |_=>none
noncomputable def EV:Con:=bM [.sc .str] EU
theorem Ms:ConOK Tryz.prog 8 EV:=by
 refine jq tt_ok au Tryz.func8 rfl (fun _ _=>by kernel_rfl) (A:=fun ds=>⟨fun _=>Cons.of [(18,pT),(20,AK),(21,mX),(23,pK),(22,jD),(19,kV),(25,gM),(24,(jF wtX 1000001))],fun k=>match k,ds with | 6,[.s s_]=>some {ι:=D × Rd,pre:=fun _ q=>aa (paW s_) q.2.nx/\(aj (wkG kwC (paW s_)) (fI (paW s_) ((s_.size:Nat):Int)) (paW s_) q.1 q.2=(wyC (paW s_) ((s_.size:Nat):Int) (mR 0 0 0)))/\q.1.len+left (paW s_) q.2<=1000001,μ:=fun q=>left (paW s_) q.2,st:=fun s q=>gh s [] [0,2,3,4,8,9] [(bj s 8,.own 92 ([.c (.rows 132 (paW s_)),.c (.int .i64 (.sym ((q.2).nx))),.c (.int .i64 (.sym (s_.size:Nat))),.c (.int .i64 (.sym ((q.2).er))),.c (.int .i64 (.sym ((q.2).pa)))])),(bj s 9,.own 39 ([.c (.osl 62 s.nx (.lit 0) (.sym (q.1.len))),.c .nils,.c .nils])),(s.nx,.orow 62 (q.1))] [2]} | 9,[.s s_]=>some {ι:=D × Rd,pre:=fun _ q=>aa (paW s_) q.2.nx/\(aj (wkG kwU (paW s_)) (eY (paW s_) ((s_.size:Nat):Int)) (paW s_) q.1 q.2=(wyU (paW s_) ((s_.size:Nat):Int) (mR 0 0 0)))/\q.1.len+left (paW s_) q.2<=1000001,μ:=fun q=>left (paW s_) q.2,st:=fun s q=>gh s [] [0,2,3,4,8,9] [(bj s 8,.own 92 ([.c (.rows 132 (paW s_)),.c (.int .i64 (.sym ((q.2).nx))),.c (.int .i64 (.sym (s_.size:Nat))),.c (.int .i64 (.sym ((q.2).er))),.c (.int .i64 (.sym ((q.2).pa)))])),(bj s 9,.own 39 ([.c (.osl 62 (cT s 9 0) (.lit 0) (.sym ((wyC (paW s_) ((s_.size:Nat):Int) (mR 0 0 0)).1.len))),.c (.osl 66 s.nx (.lit 0) (.sym (q.1.len))),.c .nils])),(cT s 9 0,.orow 62 ((wyC (paW s_) ((s_.size:Nat):Int) (mR 0 0 0)).1)),(s.nx,.orow 66 (q.1))] [2]} | 13,[.s s_]=>some {ι:=D × Rd,pre:=fun s q=>aa (paW s_) q.2.nx/\(cm (wmG (paW s_)) (wuF (paW s_) ((s_.size:Nat):Int)) (paW s_) q.1 q.2=cm (wmG (paW s_)) (wuF (paW s_) ((s_.size:Nat):Int)) (paW s_) (.l []) (mR (dj s 8 1) (dj s 8 4) (dj s 8 3)))/\q.1.len+lfm (paW s_) q.2<=1000002,μ:=fun q=>lfm (paW s_) q.2,st:=fun s q=>AV s [] [0,2,3,4,8,9,10] [(bj s 8,.own 92 ([.c (.rows 132 (paW s_)),.c (.int .i64 (.sym ((q.2).nx))),.c (.int .i64 (.sym (s_.size:Nat))),.c (.int .i64 (.sym ((q.2).er))),.c (.int .i64 (.sym ((q.2).pa)))])),(bj s 10,.own 66 ([.c (.raw (.string (ta s 10 0))),.c (.osl 68 s.nx (.lit 0) (.sym (q.1.len)))])),(s.nx,.orow 68 (q.1))] [bj s 8,bj s 10]} | 22,[.s s_]=>some {ι:=D × Rd,pre:=fun _ q=>aa (paW s_) q.2.nx/\(aj (wkG kwP (paW s_)) (dO (paW s_) ((s_.size:Nat):Int)) (paW s_) q.1 q.2=(wyP (paW s_) ((s_.size:Nat):Int) (mR 0 0 0)))/\q.1.len+left (paW s_) q.2<=1000001,μ:=fun q=>left (paW s_) q.2,st:=fun s q=>gh s [] [0,2,3,4,8,9] [(bj s 8,.own 92 ([.c (.rows 132 (paW s_)),.c (.int .i64 (.sym ((q.2).nx))),.c (.int .i64 (.sym (s_.size:Nat))),.c (.int .i64 (.sym ((q.2).er))),.c (.int .i64 (.sym ((q.2).pa)))])),(bj s 9,.own 39 ([.c (.osl 62 (cT s 9 0) (.lit 0) (.sym ((wyC (paW s_) ((s_.size:Nat):Int) (mR 0 0 0)).1.len))),.c (.osl 66 (cT s 9 1) (.lit 0) (.sym ((wyU (paW s_) ((s_.size:Nat):Int) (mR 0 0 0)).1.len))),.c (.osl 34 s.nx (.lit 0) (.sym (q.1.len)))])),(cT s 9 0,.orow 62 ((wyC (paW s_) ((s_.size:Nat):Int) (mR 0 0 0)).1)),(cT s 9 1,.orow 66 ((wyU (paW s_) ((s_.size:Nat):Int) (mR 0 0 0)).1)),(s.nx,.orow 34 (q.1))] [2]} | 26,[.s s_]=>some {ι:=D × Rd,pre:=fun s q=>aa (paW s_) q.2.nx/\(aj (wkG kwV (paW s_)) (wvF (paW s_) ((s_.size:Nat):Int)) (paW s_) q.1 q.2=aj (wkG kwV (paW s_)) (wvF (paW s_) ((s_.size:Nat):Int)) (paW s_) (.l []) (mR (dj s 8 1) (dj s 8 4) (dj s 8 3)))/\q.1.len+left (paW s_) q.2<=1000001,μ:=fun q=>left (paW s_) q.2,st:=fun s q=>AV s [] [0,2,3,4,8,9,12] [(bj s 8,.own 92 ([.c (.rows 132 (paW s_)),.c (.int .i64 (.sym ((q.2).nx))),.c (.int .i64 (.sym (s_.size:Nat))),.c (.int .i64 (.sym ((q.2).er))),.c (.int .i64 (.sym ((q.2).pa)))])),(bj s 12,.own 34 ([.c (.raw (.string (ta s 12 0))),.c (.osl 9 s.nx (.lit 0) (.sym (q.1.len))),.c .nils])),(s.nx,.orow 9 (q.1))] [bj s 8,bj s 12]} |_,_=>none,fun _=>none⟩) (fun _ _=>(af AU (af IP (af pJ (af sY (af kP (af mY (af iy (af IN aq))))))))) (by kernel_rfl) ?_
 intro ds;unfold EU;split
 ·rename_i s_
  refine kmp (q:=ac (wyC (paW s_) (en9 s_) (mR 0 0 0)) fun Ea=>ac (fun (i:D × Rd)=>muR (paW s_) (en9 s_) obB (wnR (paW s_) (en9 s_) (1:Int) (gw i.snd))) fun Eb=>ac (wyU (paW s_) (en9 s_) (mR 0 0 0)) fun Ec=>ac (fun (i_1:D × Rd)=>wnR (paW s_) (en9 s_) (2:Int) (wnR (paW s_) (en9 s_) (1:Int) (wnR (paW s_) (en9 s_) (2:Int) i_1.snd))) fun Ed=>ac (fun (i:D × Rd)=>wnS (paW s_) (gw i.snd)) fun Ee=>ac (fun (i_1:D × Rd)=>wtX (en9 s_) (paW s_) (0:Int) i_1.snd) fun Ef=>ac (fun (i_1:D × Rd)=>muR (paW s_) (en9 s_) seB (wnR (paW s_) (en9 s_) (1:Int) (gw i_1.snd))) fun Eg=>ac (fun (i:D × Rd)=>ffR (paW s_) (en9 s_) (5:Int) i.snd) fun Eh=>ac (fun (i:D × Rd) (i_1:D × Rd)=>D.l [[D.s (Ee i),i_1.fst.sub 0 ((0:Nat)+i_1.fst.len)]]) fun Ei=>ac (fun (i_1:D × Rd)=>muR (paW s_) (en9 s_) cbB (Ef i_1).snd) fun Ej=>s_.size<=2147483647->s_.size<=2147483647/\(((ai s_).snd.snd != (0:Int))=true->(rpC s_).len=0/\(rpU s_).len=0/\(rpP s_).len=0/\((ai s_).snd.fst:Int)=rpA s_/\(ai s_).snd.snd=rpE s_/\(rpC s_).rows=[]/\(rpU s_).rows=[]/\(rpP s_).rows=[])/\(((ai s_).snd.snd != (0:Int))=false->(∃ (i:D × Rd),(aa (paW s_) i.snd.nx/\aj (wkG kwC (paW s_)) (fI (paW s_) (en9 s_)) (paW s_) i.fst i.snd=wyC (paW s_) (en9 s_) (mR 0 0 0)/\i.fst.len+left (paW s_) i.snd<=(1000001:Nat))/\Value.string s_=Value.string s_/\(0:Int)=0/\(0:Int)=0/\List.map cl (ai s_).fst=List.map cl (ai s_).fst/\(0:Int)=i.snd.nx/\(en9 s_)=(en9 s_)/\(0:Int)=i.snd.er/\(0:Int)=i.snd.pa/\i.fst.len=0/\i.fst.rows=[])/\∀ (i:D × Rd),aa (paW s_) i.snd.nx/\aj (wkG kwC (paW s_)) (fI (paW s_) (en9 s_)) (paW s_) i.fst i.snd=wyC (paW s_) (en9 s_) (mR 0 0 0)/\i.fst.len+left (paW s_) i.snd<=1000001->aa (paW s_) i.snd.nx/\(isB (paW s_) kwC i.snd=true->aa (paW s_) (IntKind.i64.wrap (i.snd.nx+1))/\0+(wkZ (paW s_) (en9 s_) (gw i.snd)).tg.len<=(wkZ (paW s_) (en9 s_) (gw i.snd)).tg.len/\i.fst.len=i.fst.len/\(i.fst.len+((D.l [(nR s_ i)]).sub 0 1).len)*88<=140737488355328/\0+1<=(D.l [(nR s_ i)]).len/\∃ (j:D × Rd),(aa (paW s_) j.snd.nx/\aj (wkG kwC (paW s_)) (fI (paW s_) (en9 s_)) (paW s_) j.fst j.snd=wyC (paW s_) (en9 s_) (mR 0 0 0)/\j.fst.len+left (paW s_) j.snd<=(1000001:Nat))/\left (paW s_) j.snd<left (paW s_) i.snd/\Value.string s_=Value.string s_/\(0:Int)=0/\(0:Int)=0/\List.map cl (ai s_).fst=List.map cl (ai s_).fst/\(wkR (paW s_) (en9 s_) (gw i.snd)).nx=j.snd.nx/\(en9 s_)=(en9 s_)/\(wkR (paW s_) (en9 s_) (gw i.snd)).er=j.snd.er/\(wkR (paW s_) (en9 s_) (gw i.snd)).pa=j.snd.pa/\i.fst.len+((D.l [(nR s_ i)]).sub 0 1).len=j.fst.len/\i.fst.rows++List.drop 0 (List.take 1 [(nR s_ i)])=j.fst.rows)/\(isB (paW s_) kwC i.snd=false->(∃ (i_1:D × Rd),(aa (paW s_) i_1.snd.nx/\aj (wkG kwU (paW s_)) (eY (paW s_) (en9 s_)) (paW s_) i_1.fst i_1.snd=wyU (paW s_) (en9 s_) (mR 0 0 0)/\i_1.fst.len+left (paW s_) i_1.snd<=(1000001:Nat))/\Value.string s_=Value.string s_/\(0:Int)=0/\(0:Int)=0/\List.map cl (ai s_).fst=List.map cl (ai s_).fst/\i.snd.nx=i_1.snd.nx/\(en9 s_)=(en9 s_)/\i.snd.er=i_1.snd.er/\i.snd.pa=i_1.snd.pa/\i.fst.len=Ea.fst.len/\i_1.fst.len=0/\i.fst.rows=Ea.fst.rows/\i_1.fst.rows=[])/\∀ (i:D × Rd),aa (paW s_) i.snd.nx/\aj (wkG kwU (paW s_)) (eY (paW s_) (en9 s_)) (paW s_) i.fst i.snd=wyU (paW s_) (en9 s_) (mR 0 0 0)/\i.fst.len+left (paW s_) i.snd<=1000001->aa (paW s_) i.snd.nx/\(isB (paW s_) kwU i.snd=true->aa (paW s_) (IntKind.i64.wrap (i.snd.nx+1))/\aa (paW s_) (wnR (paW s_) (en9 s_) (1:Int) (gw i.snd)).nx/\(∃ (i_1:D × Rd),(aa (paW s_) i_1.snd.nx/\cm (wmG (paW s_)) (wuF (paW s_) (en9 s_)) (paW s_) i_1.fst i_1.snd=cm (wmG (paW s_)) (wuF (paW s_) (en9 s_)) (paW s_) (D.l []) (Eb i)/\i_1.fst.len+lfm (paW s_) i_1.snd<=(1000002:Nat))/\Value.string s_=Value.string s_/\(0:Int)=0/\(0:Int)=0/\List.map cl (ai s_).fst=List.map cl (ai s_).fst/\(Eb i).nx=i_1.snd.nx/\(en9 s_)=(en9 s_)/\(Eb i).er=i_1.snd.er/\(Eb i).pa=i_1.snd.pa/\Value.string (Ee i)=Value.string (Ee i)/\i_1.fst.len=0/\i_1.fst.rows=[]/\Ea.fst.len=Ea.fst.len/\i.fst.len=i.fst.len/\Ea.fst.rows=Ea.fst.rows/\i.fst.rows=i.fst.rows)/\∀ (i_1:D × Rd),aa (paW s_) i_1.snd.nx/\cm (wmG (paW s_)) (wuF (paW s_) (en9 s_)) (paW s_) i_1.fst i_1.snd=cm (wmG (paW s_)) (wuF (paW s_) (en9 s_)) (paW s_) (D.l []) (Eb i)/\i_1.fst.len+lfm (paW s_) i_1.snd<=1000002->((i_1.snd.er==(0:Int))=true/\True->aa (paW s_) i_1.snd.nx)/\((i_1.snd.er==(0:Int) && !isB (paW s_) cbB i_1.snd)=true->aa (paW s_) i_1.snd.nx/\aa (paW s_) (wnR (paW s_) (en9 s_) (2:Int) i_1.snd).nx/\aa (paW s_) (wnR (paW s_) (en9 s_) (1:Int) (wnR (paW s_) (en9 s_) (2:Int) i_1.snd)).nx/\aa (paW s_) (Ed i_1).nx/\i_1.fst.len=i_1.fst.len/\(i_1.fst.len+((D.l [(nT s_ i_1)]).sub 0 1).len)*32<=140737488355328/\0+1<=(D.l [(nT s_ i_1)]).len/\∃ (j:D × Rd),(aa (paW s_) j.snd.nx/\cm (wmG (paW s_)) (wuF (paW s_) (en9 s_)) (paW s_) j.fst j.snd=cm (wmG (paW s_)) (wuF (paW s_) (en9 s_)) (paW s_) (D.l []) (Eb i)/\j.fst.len+lfm (paW s_) j.snd<=(1000002:Nat))/\lfm (paW s_) j.snd<lfm (paW s_) i_1.snd/\Value.string s_=Value.string s_/\(0:Int)=0/\(0:Int)=0/\List.map cl (ai s_).fst=List.map cl (ai s_).fst/\(muR (paW s_) (en9 s_) seB (Ed i_1)).nx=j.snd.nx/\(en9 s_)=(en9 s_)/\(muR (paW s_) (en9 s_) seB (Ed i_1)).er=j.snd.er/\(muR (paW s_) (en9 s_) seB (Ed i_1)).pa=j.snd.pa/\Value.string (Ee i)=Value.string (Ee i)/\i_1.fst.len+((D.l [(nT s_ i_1)]).sub 0 1).len=j.fst.len/\i_1.fst.rows++List.drop 0 (List.take 1 [(nT s_ i_1)])=j.fst.rows/\Ea.fst.len=Ea.fst.len/\i.fst.len=i.fst.len/\Ea.fst.rows=Ea.fst.rows/\i.fst.rows=i.fst.rows)/\((i_1.snd.er==(0:Int) && !isB (paW s_) cbB i_1.snd)=false->aa (paW s_) i_1.snd.nx/\0+i_1.fst.len<=i_1.fst.len/\i.fst.len=i.fst.len/\(i.fst.len+((Ei i i_1).sub 0 1).len)*40<=140737488355328/\0+1<=(Ei i i_1).len/\∃ (j:D × Rd),(aa (paW s_) j.snd.nx/\aj (wkG kwU (paW s_)) (eY (paW s_) (en9 s_)) (paW s_) j.fst j.snd=wyU (paW s_) (en9 s_) (mR 0 0 0)/\j.fst.len+left (paW s_) j.snd<=(1000001:Nat))/\left (paW s_) j.snd<left (paW s_) i.snd/\Value.string s_=Value.string s_/\(0:Int)=0/\(0:Int)=0/\List.map cl (ai s_).fst=List.map cl (ai s_).fst/\(muR (paW s_) (en9 s_) cbB i_1.snd).nx=j.snd.nx/\(en9 s_)=(en9 s_)/\(muR (paW s_) (en9 s_) cbB i_1.snd).er=j.snd.er/\(muR (paW s_) (en9 s_) cbB i_1.snd).pa=j.snd.pa/\Ea.fst.len=Ea.fst.len/\i.fst.len+((Ei i i_1).sub 0 1).len=j.fst.len/\Ea.fst.rows=Ea.fst.rows/\i.fst.rows++List.drop 0 (List.take 1 [[D.s (Ee i),i_1.fst.sub 0 ((0:Nat)+i_1.fst.len)]])=j.fst.rows))/\(isB (paW s_) kwU i.snd=false->(∃ (i_1:D × Rd),(aa (paW s_) i_1.snd.nx/\aj (wkG kwP (paW s_)) (dO (paW s_) (en9 s_)) (paW s_) i_1.fst i_1.snd=wyP (paW s_) (en9 s_) (mR 0 0 0)/\i_1.fst.len+left (paW s_) i_1.snd<=(1000001:Nat))/\Value.string s_=Value.string s_/\(0:Int)=0/\(0:Int)=0/\List.map cl (ai s_).fst=List.map cl (ai s_).fst/\i.snd.nx=i_1.snd.nx/\(en9 s_)=(en9 s_)/\i.snd.er=i_1.snd.er/\i.snd.pa=i_1.snd.pa/\Ea.fst.len=Ea.fst.len/\i.fst.len=Ec.fst.len/\i_1.fst.len=0/\Ea.fst.rows=Ea.fst.rows/\i.fst.rows=Ec.fst.rows/\i_1.fst.rows=[])/\∀ (i:D × Rd),aa (paW s_) i.snd.nx/\aj (wkG kwP (paW s_)) (dO (paW s_) (en9 s_)) (paW s_) i.fst i.snd=wyP (paW s_) (en9 s_) (mR 0 0 0)/\i.fst.len+left (paW s_) i.snd<=1000001->aa (paW s_) i.snd.nx/\(isB (paW s_) kwP i.snd=true->aa (paW s_) (IntKind.i64.wrap (i.snd.nx+1))/\aa (paW s_) (wnR (paW s_) (en9 s_) (1:Int) (gw i.snd)).nx/\(∃ (i_1:D × Rd),(aa (paW s_) i_1.snd.nx/\aj (wkG kwV (paW s_)) (wvF (paW s_) (en9 s_)) (paW s_) i_1.fst i_1.snd=aj (wkG kwV (paW s_)) (wvF (paW s_) (en9 s_)) (paW s_) (D.l []) (Eb i)/\i_1.fst.len+left (paW s_) i_1.snd<=(1000001:Nat))/\Value.string s_=Value.string s_/\(0:Int)=0/\(0:Int)=0/\List.map cl (ai s_).fst=List.map cl (ai s_).fst/\(Eb i).nx=i_1.snd.nx/\(en9 s_)=(en9 s_)/\(Eb i).er=i_1.snd.er/\(Eb i).pa=i_1.snd.pa/\Value.string (Ee i)=Value.string (Ee i)/\i_1.fst.len=0/\i_1.fst.rows=[]/\Ea.fst.len=Ea.fst.len/\Ec.fst.len=Ec.fst.len/\i.fst.len=i.fst.len/\Ea.fst.rows=Ea.fst.rows/\Ec.fst.rows=Ec.fst.rows/\i.fst.rows=i.fst.rows)/\∀ (i_1:D × Rd),aa (paW s_) i_1.snd.nx/\aj (wkG kwV (paW s_)) (wvF (paW s_) (en9 s_)) (paW s_) i_1.fst i_1.snd=aj (wkG kwV (paW s_)) (wvF (paW s_) (en9 s_)) (paW s_) (D.l []) (Eb i)/\i_1.fst.len+left (paW s_) i_1.snd<=1000001->aa (paW s_) i_1.snd.nx/\(isB (paW s_) kwV i_1.snd=true->aa (paW s_) (IntKind.i64.wrap (i_1.snd.nx+1))/\i_1.fst.len=i_1.fst.len/\(i_1.fst.len+((D.l [[D.s (wnS (paW s_) (gw i_1.snd))]]).sub 0 1).len)*16<=140737488355328/\0+1<=(D.l [[D.s (wnS (paW s_) (gw i_1.snd))]]).len/\aa (paW s_) (wnR (paW s_) (en9 s_) (1:Int) (gw i_1.snd)).nx/\∃ (j:D × Rd),(aa (paW s_) j.snd.nx/\aj (wkG kwV (paW s_)) (wvF (paW s_) (en9 s_)) (paW s_) j.fst j.snd=aj (wkG kwV (paW s_)) (wvF (paW s_) (en9 s_)) (paW s_) (D.l []) (Eb i)/\j.fst.len+left (paW s_) j.snd<=(1000001:Nat))/\left (paW s_) j.snd<left (paW s_) i_1.snd/\Value.string s_=Value.string s_/\(0:Int)=0/\(0:Int)=0/\List.map cl (ai s_).fst=List.map cl (ai s_).fst/\(Eg i_1).nx=j.snd.nx/\(en9 s_)=(en9 s_)/\(Eg i_1).er=j.snd.er/\(Eg i_1).pa=j.snd.pa/\Value.string (Ee i)=Value.string (Ee i)/\i_1.fst.len+((D.l [[D.s (wnS (paW s_) (gw i_1.snd))]]).sub 0 1).len=j.fst.len/\i_1.fst.rows++List.drop 0 (List.take 1 [[D.s (wnS (paW s_) (gw i_1.snd))]])=j.fst.rows/\Ea.fst.len=Ea.fst.len/\Ec.fst.len=Ec.fst.len/\i.fst.len=i.fst.len/\Ea.fst.rows=Ea.fst.rows/\Ec.fst.rows=Ec.fst.rows/\i.fst.rows=i.fst.rows)/\(isB (paW s_) kwV i_1.snd=false->aa (paW s_) i_1.snd.nx/\aH (paW s_) i_1.snd (0:Int)/\left (paW s_) i_1.snd<1000001/\aa (paW s_) (Ef i_1).snd.nx/\0+i_1.fst.len<=i_1.fst.len/\0+(Ef i_1).fst.len<=(Ef i_1).fst.len/\i.fst.len=i.fst.len/\(i.fst.len+((D.l [(nS s_ i i_1)]).sub 0 1).len)*64<=140737488355328/\0+1<=(D.l [(nS s_ i i_1)]).len/\∃ (j:D × Rd),(aa (paW s_) j.snd.nx/\aj (wkG kwP (paW s_)) (dO (paW s_) (en9 s_)) (paW s_) j.fst j.snd=wyP (paW s_) (en9 s_) (mR 0 0 0)/\j.fst.len+left (paW s_) j.snd<=(1000001:Nat))/\left (paW s_) j.snd<left (paW s_) i.snd/\Value.string s_=Value.string s_/\(0:Int)=0/\(0:Int)=0/\List.map cl (ai s_).fst=List.map cl (ai s_).fst/\(Ej i_1).nx=j.snd.nx/\(en9 s_)=(en9 s_)/\(Ej i_1).er=j.snd.er/\(Ej i_1).pa=j.snd.pa/\Ea.fst.len=Ea.fst.len/\Ec.fst.len=Ec.fst.len/\i.fst.len+((D.l [(nS s_ i i_1)]).sub 0 1).len=j.fst.len/\Ea.fst.rows=Ea.fst.rows/\Ec.fst.rows=Ec.fst.rows/\i.fst.rows++List.drop 0 (List.take 1 [(nS s_ i i_1)])=j.fst.rows))/\(isB (paW s_) kwP i.snd=false->(decide (i.snd.nx<((paW s_).len:Int))=true->aa (paW s_) i.snd.nx/\(((Eh i).er != (0:Int))=true->(rpC s_).len=0/\(rpU s_).len=0/\(rpP s_).len=0/\(Eh i).pa=rpA s_/\(Eh i).er=rpE s_/\(rpC s_).rows=[]/\(rpU s_).rows=[]/\(rpP s_).rows=[])/\(((Eh i).er != (0:Int))=false->Ea.fst.len=(rpC s_).len/\Ec.fst.len=(rpU s_).len/\i.fst.len=(rpP s_).len/\(0:Int)=rpA s_/\(0:Int)=rpE s_/\Ea.fst.rows=(rpC s_).rows/\Ec.fst.rows=(rpU s_).rows/\i.fst.rows=(rpP s_).rows))/\(decide (i.snd.nx<((paW s_).len:Int))=false->((i.snd.er != (0:Int))=true->(rpC s_).len=0/\(rpU s_).len=0/\(rpP s_).len=0/\i.snd.pa=rpA s_/\i.snd.er=rpE s_/\(rpC s_).rows=[]/\(rpU s_).rows=[]/\(rpP s_).rows=[])/\((i.snd.er != (0:Int))=false->Ea.fst.len=(rpC s_).len/\Ec.fst.len=(rpU s_).len/\i.fst.len=(rpP s_).len/\(0:Int)=rpA s_/\(0:Int)=rpE s_/\Ea.fst.rows=(rpC s_).rows/\Ec.fst.rows=(rpU s_).rows/\i.fst.rows=(rpP s_).rows))))))) (by kernel_rfl) ?_
  dsimp +instances only [ac]
  delta nR nS nT
  intro h;unfold en9;have g0:=sU s_;obtain ⟨ua,ub,uc⟩:=IZ ((s_.size:Nat):Int) (r:=mR 0 0 0) g0;refine ⟨h,fun hl=>?_,fun hl=>?_⟩
  ·obtain ⟨a1,a2,a3,a4,a5⟩:=AZ (mV hl);rw[a1,a2,a3,a4,a5]
   (repeat' (with_reducible apply And.intro))<;>first |with_reducible rfl |exact True.intro |assumption |(symm;assumption) |rfl
  have hl:=kO hl;refine ⟨⟨(.l [],(mR 0 0 0)),⟨g0,rfl,(by show 0+left (paW s_) (mR 0 0 0)<=1000001;have:=(bo (r:=(mR 0 0 0)) g0).2;omega)⟩,(by (repeat' (with_reducible apply And.intro))<;>first |with_reducible rfl |exact True.intro |assumption |(symm;assumption) |rfl)⟩,?_⟩;rintro q ⟨h1,h2,h3⟩;refine ⟨h1,fun hc=>?_,fun hc=>?_⟩
  ·have hlt:=(bw hc).2;rw[fG h1 hlt,nx1 h1 hlt];have g1:=(bx h1 hlt).1;have hg:wkG kwC (paW s_) q.2=true:=hc;obtain ⟨u1,u2⟩:=(pW ((s_.size:Nat):Int)).up q.2 h1 hg;have u3:=da u1 h1 u2;have hs:=cL (pW ((s_.size:Nat):Int)) (d:=q.1) h1 hg;have hz:(q.1.len+1)*88<=140737488355328:=by omega
   have hl:(D.l (q.1.rows++[(fI (paW s_) ((s_.size:Nat):Int) q.2).1])).len+left (paW s_) (fI (paW s_) ((s_.size:Nat):Int) q.2).2<=1000001:=by rw[bf];omega
   refine ⟨g1,Nat.le_of_eq (Nat.zero_add _),rfl,hz,Nat.le_refl 1,(.l (q.1.rows++[(fI (paW s_) ((s_.size:Nat):Int) q.2).1]),(fI (paW s_) ((s_.size:Nat):Int) q.2).2),⟨u1,hs.trans h2,hl⟩,u3,?_⟩;simp only[bu]
   (repeat' (with_reducible apply And.intro))<;>first |with_reducible rfl |exact True.intro |exact (bf _ _).symm |rfl
  have hg:wkG kwC (paW s_) q.2=false:=hc;have h2:(q.1,q.2)=wyC (paW s_) ((s_.size:Nat):Int) (mR 0 0 0):=(bv hg).symm.trans h2;refine ⟨⟨(.l [],q.2),⟨h1,(by unfold wyU;rw[<- h2]),(by show 0+left (paW s_) q.2<=1000001;have:=(bo (r:=q.2) h1).2;omega)⟩,(by rw[<- h2];(repeat' (with_reducible apply And.intro))<;>first |with_reducible rfl |exact True.intro |assumption |(symm;assumption) |rfl)⟩,?_⟩;rintro q ⟨h1,h2,h3⟩;refine ⟨h1,fun hc=>?_,fun hc=>?_⟩
  ·have hlt:=(bw hc).2;rw[fG h1 hlt,nx1 h1 hlt];have g1:=(bx h1 hlt).1;have hg:wkG kwU (paW s_) q.2=true:=hc;obtain ⟨u1,u2⟩:=(pX ((s_.size:Nat):Int)).up q.2 h1 hg;have u3:=da u1 h1 u2;have hs:=cL (pX ((s_.size:Nat):Int)) (d:=q.1) h1 hg;have hz:(q.1.len+1)*40<=140737488355328:=by omega
   have hl:(D.l (q.1.rows++[(eY (paW s_) ((s_.size:Nat):Int) q.2).1])).len+left (paW s_) (eY (paW s_) ((s_.size:Nat):Int) q.2).2<=1000001:=by rw[bf];omega
   obtain ⟨b1,b2,b3,b4,b5⟩:=AX ((s_.size:Nat):Int) (r:=gx q.2) g1;refine ⟨g1,b1,⟨(.l [],wuA (paW s_) ((s_.size:Nat):Int) (gx q.2)),⟨b2,rfl,(by show 0+lfm (paW s_) (wuA (paW s_) ((s_.size:Nat):Int) (gx q.2))<=1000002;have:=Au (paW s_) b2;omega)⟩,(by (repeat' (with_reducible apply And.intro))<;>first |with_reducible rfl |exact True.intro |assumption |(symm;assumption) |rfl)⟩,?_⟩;rintro p ⟨p1,p2,p3⟩;refine ⟨fun _=>p1,fun hk=>?_,fun hk=>?_⟩
   ·have hm:wmG (paW s_) p.2=true:=hk;obtain ⟨c1,c2,c3,c4,c5,c6⟩:=AW ((s_.size:Nat):Int) p1;have hs:=pM (pU ((s_.size:Nat):Int)) (d:=p.1) p1 hm;obtain ⟨_,_,lt⟩:=(pU ((s_.size:Nat):Int)).up p.2 p1 hm;have hl3:(D.l (p.1.rows++[(wuF (paW s_) ((s_.size:Nat):Int) p.2).1])).len+lfm (paW s_) (wuF (paW s_) ((s_.size:Nat):Int) p.2).2<=1000002:=by rw[bf];omega
    refine ⟨p1,c1,c2,c3,rfl,(by show (p.1.len+1)*32<=140737488355328;omega),Nat.le_refl 1,(.l (p.1.rows++[(wuF (paW s_) ((s_.size:Nat):Int) p.2).1]),(wuF (paW s_) ((s_.size:Nat):Int) p.2).2),⟨c4,hs.trans p2,hl3⟩,lt,?_⟩
    (repeat' (with_reducible apply And.intro))<;>first |with_reducible rfl |exact True.intro |exact (bf _ _).symm |rfl
   ·have hm:wmG (paW s_) p.2=false:=hk;have p2:(p.1,p.2)=wuM (paW s_) ((s_.size:Nat):Int) (gx q.2):=(jG hm).symm.trans p2;have eF:eY (paW s_) ((s_.size:Nat):Int) q.2=([.s (wnS (paW s_) (gx q.2)),.l p.1.rows],muR (paW s_) ((s_.size:Nat):Int) cbB p.2):=by unfold eY wuZ wuR Ru.row;rw[<- p2]
    rw[eF] at u1 u3 hs hl;refine ⟨p1,Nat.le_of_eq (Nat.zero_add _),rfl,hz,Nat.le_refl 1,(.l (q.1.rows++[[.s (wnS (paW s_) (gx q.2)),.l p.1.rows]]),muR (paW s_) ((s_.size:Nat):Int) cbB p.2),⟨u1,hs.trans h2,hl⟩,u3,?_⟩;simp only[bu]
    (repeat' (with_reducible apply And.intro))<;>first |with_reducible rfl |exact True.intro |exact (bf _ _).symm |rfl
  have hg:wkG kwU (paW s_) q.2=false:=hc;have h2:(q.1,q.2)=wyU (paW s_) ((s_.size:Nat):Int) (mR 0 0 0):=(bv hg).symm.trans h2;refine ⟨⟨(.l [],q.2),⟨h1,(by unfold wyP;rw[<- h2]),(by show 0+left (paW s_) q.2<=1000001;have:=(bo (r:=q.2) h1).2;omega)⟩,(by rw[<- h2];(repeat' (with_reducible apply And.intro))<;>first |with_reducible rfl |exact True.intro |assumption |(symm;assumption) |rfl)⟩,?_⟩;rintro q ⟨h1,h2,h3⟩;refine ⟨h1,fun hc=>?_,fun hc=>?_⟩
  ·have hlt:=(bw hc).2;rw[fG h1 hlt,nx1 h1 hlt];have g1:=(bx h1 hlt).1;have hg:wkG kwP (paW s_) q.2=true:=hc;obtain ⟨u1,u2⟩:=(lf ((s_.size:Nat):Int)).up q.2 h1 hg;have u3:=da u1 h1 u2;have hs:=cL (lf ((s_.size:Nat):Int)) (d:=q.1) h1 hg;have hz:(q.1.len+1)*64<=140737488355328:=by omega
   have hl:(D.l (q.1.rows++[(dO (paW s_) ((s_.size:Nat):Int) q.2).1])).len+left (paW s_) (dO (paW s_) ((s_.size:Nat):Int) q.2).2<=1000001:=by rw[bf];omega
   obtain ⟨b1,b2,b3,b4,b5,b6⟩:=AY ((s_.size:Nat):Int) (r:=gx q.2) g1;refine ⟨g1,b1,⟨(.l [],wuA (paW s_) ((s_.size:Nat):Int) (gx q.2)),⟨b2,rfl,(by show 0+left (paW s_) (wuA (paW s_) ((s_.size:Nat):Int) (gx q.2))<=1000001;have:=(bo b2).2;omega)⟩,(by (repeat' (with_reducible apply And.intro))<;>first |with_reducible rfl |exact True.intro |assumption |(symm;assumption) |rfl)⟩,?_⟩;rintro p ⟨p1,p2,p3⟩;refine ⟨p1,fun hk=>?_,fun hk=>?_⟩
   ·have hlt2:=(bw hk).2;rw[fG p1 hlt2,nx1 p1 hlt2];have g2:=(bx p1 hlt2).1;have c1:=(cw ((s_.size:Nat):Int) 1 g2).1;obtain ⟨v1,v2⟩:=(pV ((s_.size:Nat):Int)).up p.2 p1 hk;have v3:=da v1 p1 v2;have hs:=cL (pV ((s_.size:Nat):Int)) (d:=p.1) p1 hk;have hl3:(D.l (p.1.rows++[(wvF (paW s_) ((s_.size:Nat):Int) p.2).1])).len+left (paW s_) (wvF (paW s_) ((s_.size:Nat):Int) p.2).2<=1000001:=by rw[bf];omega
    refine ⟨g2,rfl,(by show (p.1.len+1)*16<=140737488355328;omega),Nat.le_refl 1,c1,(.l (p.1.rows++[(wvF (paW s_) ((s_.size:Nat):Int) p.2).1]),(wvF (paW s_) ((s_.size:Nat):Int) p.2).2),⟨v1,hs.trans p2,hl3⟩,v3,?_⟩
    (repeat' (with_reducible apply And.intro))<;>first |with_reducible rfl |exact True.intro |exact (bf _ _).symm |rfl
   ·have p2:(p.1,p.2)=wpV (paW s_) ((s_.size:Nat):Int) (gx q.2):=(bv hk).symm.trans p2;have d1:=(AF ((s_.size:Nat):Int) (paW s_) 0).up _ p1;have eF:dO (paW s_) ((s_.size:Nat):Int) q.2=([.s (wnS (paW s_) (gx q.2)),.l p.1.rows,.l (wtX ((s_.size:Nat):Int) (paW s_) 0 p.2).1.rows],muR (paW s_) ((s_.size:Nat):Int) cbB (wtX ((s_.size:Nat):Int) (paW s_) 0 p.2).2):=by unfold dO wpZ wpR wpB Po.row;rw[<- p2]
    rw[eF] at u1 u3 hs hl;refine ⟨p1,(bo p1).1,(bo p1).2,d1.2,Nat.le_of_eq (Nat.zero_add _),Nat.le_of_eq (Nat.zero_add _),rfl,hz,Nat.le_refl 1,(.l (q.1.rows++[[.s (wnS (paW s_) (gx q.2)),.l p.1.rows,.l (wtX ((s_.size:Nat):Int) (paW s_) 0 p.2).1.rows]]),muR (paW s_) ((s_.size:Nat):Int) cbB (wtX ((s_.size:Nat):Int) (paW s_) 0 p.2).2),⟨u1,hs.trans h2,hl⟩,u3,?_⟩;simp only[bu]
    (repeat' (with_reducible apply And.intro))<;>first |with_reducible rfl |exact True.intro |exact (bf _ _).symm |rfl
  have hg:wkG kwP (paW s_) q.2=false:=hc;have h2:(q.1,q.2)=wyP (paW s_) ((s_.size:Nat):Int) (mR 0 0 0):=(bv hg).symm.trans h2;have eq1:(wyP (paW s_) ((s_.size:Nat):Int) (mR 0 0 0)).1=q.1:=by rw[<- h2]
  refine ⟨fun hn=>⟨h1,fun he=>?_,fun he=>?_⟩,fun hn=>⟨fun he=>?_,fun he=>?_⟩⟩
  ·have hY:rpY s_=ffR (paW s_) ((s_.size:Nat):Int) 5 q.2:=by unfold rpY wyR;rw[<- h2];exact if_pos (of_decide_eq_true hn)
   obtain ⟨a1,a2,a3,a4,a5⟩:=pY hl hY (mV he);rw[a1,a2,a3,a4,a5]
   (repeat' (with_reducible apply And.intro))<;>first |with_reducible rfl |exact True.intro |assumption |(symm;assumption) |rfl
  ·have hY:rpY s_=ffR (paW s_) ((s_.size:Nat):Int) 5 q.2:=by unfold rpY wyR;rw[<- h2];exact if_pos (of_decide_eq_true hn)
   obtain ⟨a1,a2,a3,a4,a5⟩:=pZ hl hY (kO he);rw[a1,a2,a3,a4,a5,eq1]
   (repeat' (with_reducible apply And.intro))<;>first |with_reducible rfl |exact True.intro |assumption |(symm;assumption) |rfl
  ·have hY:rpY s_=q.2:=by unfold rpY wyR;rw[<- h2];exact if_neg (of_decide_eq_false hn)
   obtain ⟨a1,a2,a3,a4,a5⟩:=pY hl hY (mV he);rw[a1,a2,a3,a4,a5]
   (repeat' (with_reducible apply And.intro))<;>first |with_reducible rfl |exact True.intro |assumption |(symm;assumption) |rfl
  ·have hY:rpY s_=q.2:=by unfold rpY wyR;rw[<- h2];exact if_neg (of_decide_eq_false hn)
   obtain ⟨a1,a2,a3,a4,a5⟩:=pZ hl hY (kO he);rw[a1,a2,a3,a4,a5,eq1]
   (repeat' (with_reducible apply And.intro))<;>first |with_reducible rfl |exact True.intro |assumption |(symm;assumption) |rfl
 ·trivial
end Go.Proofs.YtbhbjhejkamlnaaGreat.Sx.Z
