import Derived.Test.YtbhbjhejkamlnaaGreatZx24
import Derived.Test.YtbhbjhejkamlnaaGreatZx21
set_option linter.all false
namespace Go.Proofs.YtbhbjhejkamlnaaGreat.Sx.Z
open Go.RowKit
theorem IW:eks 132=[.int .i64,.str,.int .i64,.int .i64]:=by rfl
def AT:FSpec:=fun ds _=>match ds with
 | [.s s]=>some {val:=.tup [.sc (.rows 132 (bh (ai s).1)),.sc (.int .i64 (.sym ((ai s).2.1:Nat))),.sc (.int .i64 (.sym (ai s).2.2))],vc:=[s.size<=2147483647]}
 |_=>none
def pT:Con:=con [.sc .str] AT
theorem IX {fz:Fz} {l:List Tok} {A:Option Addr} {c:Nat} {base:Nat} {w:World} (h:w.ownsRow base 132 4 (.slice A l.length c) l.length (di l)) (hf:∀ g cur,base<=g->w.heap[g]? = some (.cells cur 132 (0,0))->A=some ⟨g,0,none⟩->fz g=some cur):TRel fz (.slice 132) (bh l) (.slice A l.length c):=by
 rcases h.2 with ⟨hv,h0⟩ |⟨g,cap,cur,hv,hg,hh,h1,h2,h3,h4⟩
 ·rw[hv];exact .nil _ _ (by rw[cV];exact h0)
 ·obtain ⟨hA,_,hc⟩:=Value.slice.inj hv;subst hA hc
  by_cases h0:l.length=0
  ·rw[h0];exact .empty _ _ _ _ (by rw[cV];exact h0)
  ·have hF:=hf g cur hg hh rfl;have hat:∀ i j t,l[i]? = some t->j<4->cur[i*4+j]? = (gL t)[j]?:=fun i j t ht hj=>by
    have e:=sR ht hj;rw[<- h4] at e;have hi:i<l.length:=br ht;rw[List.getElem?_take_of_lt (by omega),Array.getElem?_toList] at e;exact e
   rw[show Value.slice (some ⟨g,0,none⟩) l.length c=Value.slice (some ⟨g,0,none⟩) (bh l).len c by rw[cV]];refine .slice _ _ _ _ _ (fun i j=>(cur[i*4+j]?).getD undef) (by rw[cV];exact h1) (fun i j hi hj=>?_) (fun i j k hi hk=>?_)
   ·rw[cV] at hi;have hj4:j<4:=hj;have e:=hat i j _ (List.getElem?_eq_getElem hi) hj4;have e2:(gL l[i])[j]? = some (gL l[i])[j]:=List.getElem?_eq_getElem (by show j<4;exact hj4);rw[e2] at e;show Fz.cell fz g (0+i*4+j)=_;rw[Nat.zero_add,e];unfold Fz.cell;rw[hF];exact e
   ·rw[cV] at hi;have ht:=List.getElem?_eq_getElem hi;rw[jC ht];rw[IW] at hk
    match j,hk with
    | 0,hk=>obtain rfl:=Option.some.inj hk;rw[hat i 0 _ ht (by omega)];exact .int _ (.i _)
    | 1,hk=>obtain rfl:=Option.some.inj hk;rw[hat i 1 _ ht (by omega)];exact .str (.s _)
    | 2,hk=>obtain rfl:=Option.some.inj hk;rw[hat i 2 _ ht (by omega)];exact .int _ (.i _)
    | 3,hk=>obtain rfl:=Option.some.inj hk;rw[hat i 3 _ ht (by omega)];exact .int _ (.i _)
    |j+4,hk=>simp at hk
def k9 (f:Fz) (w w':World) (A:Option Addr):Fz:=fun b=>match A with |some a=>if b=a.block/\w.heap.size<=b then b9 w' b else f b |none=>f b
theorem IY {f:Fz} {w w':World} {A:Option Addr} {b:Nat} {cs:Array Value} (h:k9 f w w' A b=some cs):f b=some cs ∨ (w.heap.size<=b/\b9 w' b=some cs):=by
 unfold k9 at h
 split at h
 ·split at h
  ·rename_i hh;exact .inr ⟨hh.2,h⟩
  ·exact .inl h
 ·exact .inl h
theorem AU:ConOK Tryz.prog 18 pT:=by
 refine ⟨fun _ _=>by kernel_rfl,fun hp fr args e he hv w0 w ρ vs hw _ ha=>?_,fun _ _ _ _ h=>nomatch (jj _ _ _ _ _).symm.trans h⟩;unfold pT con at he
 split at he
 ·rename_i ds ps hds
  split at he
  ·rename_i e1 he1;unfold AT at he1
   split at he1
   ·rename_i s;obtain rfl:=Option.some.inj he1;obtain rfl:=Option.some.inj he;obtain ⟨hp1,hp2⟩:=all_append.1 hv;obtain ⟨svs,h,ρ1,id,hun,_,_,hrel⟩:=gC hw [.sc .str] args _ ps hds hp1 vs ha (ids:=aw hp (be hp args)) (fun i hi ho=>cE.2 ⟨hi,ho⟩) 0;obtain rfl:svs=_:=(congrArg Prod.fst (Option.some.inj hun)).symm
    match vs,hrel with
    | [x],⟨hx,_⟩=>
      have hx:x = .string s:=hx;subst hx;refine (IV s w hp2.1).mono ?_
      rintro en w' ⟨A,c,rfl,hown,hb⟩;have hle:FzLe ρ.fz (k9 ρ.fz w w' A):=fun b cs hbc=>by
       unfold k9;split
       ·split
        ·rename_i hh;rw[hw.froz.new hh.2] at hbc;cases hbc
        ·exact hbc
       ·exact hbc
      have hrel2:TRel (k9 ρ.fz w w' A) (.slice 132) (bh (ai s).1) (.slice A (ai s).1.length c):=IX hown fun g cur hg hh hA=>by
       subst hA;show (if g=g/\w.heap.size<=g then b9 w' g else ρ.fz g)=some cur;rw[if_pos ⟨rfl,hg⟩];unfold b9;rw[hh]
      refine ⟨{ρ with fz:=k9 ρ.fz w w' A},_,rfl,⟨_,rfl,hrel2,rfl,rfl,trivial⟩,⟨⟨fun _ _ h=>h,fun _ _=>rfl,hle,rfl,rfl⟩,fun _ _=>rfl,hb.mono (Nat.zero_le _),fun b hlt _=>hb.block b hlt,fun i x hx=>?_,fun i x hx=>?_,fun i j x y hx=>?_,fun b cs hcs=>?_⟩⟩
      ·have hx':ad (aL (aw hp (be hp args))) i=some x:=hx;rw[(c7 hx').1];trivial
      ·cases hx
      ·cases hx
      ·rcases IY hcs with h1 |⟨h1,h2⟩
       ·exact .inl h1
       ·exact .inr ⟨.inl h1,qW h2,fun _ _ h=>by cases h⟩
   ·cases he1
  ·cases he
 ·cases he
end Go.Proofs.YtbhbjhejkamlnaaGreat.Sx.Z
namespace Go.Proofs.YtbhbjhejkamlnaaGreat.Sx
def AV (s:St) (sl:aT) (ks:List Nat) (es:ah) (ids:List Nat):St:={tm:=sl++jh s.tm ks,hp:=es++s.hp.filter (fun e=>!(ids.any (Nat.beq e.1))),nx:=s.nx+1}
end Go.Proofs.YtbhbjhejkamlnaaGreat.Sx
namespace Go.Proofs.YtbhbjhejkamlnaaGreat.Sx.Z
open Go.RowKit
def wuA (ws:D) (en:Int) (r:Rd):Rd:=muR ws en obB (wnR ws en 1 r)
def wuX (ws:D) (en:Int) (r:Rd):Rd:=wnR ws en 1 (wnR ws en 2 r)
def wuF (ws:D) (en:Int) (r:Rd):List D × Rd:=([.i (wnN ws r),.s (wnS ws (wnR ws en 2 r)),.i (wnN ws (wuX ws en r))],muR ws en seB (wnR ws en 2 (wuX ws en r)))
def wuM (ws:D) (en:Int) (r:Rd):D × Rd:=cm (wmG ws) (wuF ws en) ws (.l []) (wuA ws en r)
def wuZ (ws:D) (en:Int) (r:Rd):Ru:=⟨wnS ws r,(wuM ws en r).1⟩
def wuR (ws:D) (en:Int) (r:Rd):Rd:=muR ws en cbB (wuM ws en r).2
theorem AW {ws:D} (en:Int) {r:Rd} (h:aa ws r.nx):aa ws (wnR ws en 2 r).nx/\aa ws (wuX ws en r).nx/\aa ws (wnR ws en 2 (wuX ws en r)).nx/\aa ws (wuF ws en r).2.nx/\(wnR ws en 2 r).nx<=(wuF ws en r).2.nx/\r.nx<=(wuF ws en r).2.nx:=by
 have a:=cw en 2 h;have b:=cw en 1 a.1;have c:=cw en 2 b.1;have d:=bR en (t:=seB) c.1;have e:=Int.le_trans b.2 (Int.le_trans c.2 d.2);exact ⟨a.1,b.1,c.1,d.1,e,Int.le_trans a.2 e⟩
theorem pU {ws:D} (en:Int):SeOK ws (wmG ws) (wuF ws en):=⟨fun r h hg=>by
 have h0:r.er=0:=by
  unfold wmG at hg;simp only[Bool.and_eq_true] at hg;exact eq_of_beq hg.1
 obtain ⟨_,_,_,e1,e2,e3⟩:=AW en h;refine ⟨e1,e3,As h0 h e1 fun hz=>?_⟩;have k2:=bw (na (hz:(muR ws en seB (wnR ws en 2 (wuX ws en r))).er=0));have k3:=ix (nb k2.1);have k4:=ix (nb (k3.1:(wnR ws en 1 (wnR ws en 2 r)).er=0));have k5:=nb k4.1;have e:(wnR ws en 2 r).nx=r.nx+1:=by rw[show wnR ws en 2 r=gx r from if_pos k5];rfl
 omega⟩
theorem AX {ws:D} (en:Int) {r:Rd} (h:aa ws r.nx):aa ws (wnR ws en 1 r).nx/\aa ws (wuA ws en r).nx/\aa ws (wuM ws en r).2.nx/\aa ws (wuR ws en r).nx/\r.nx<=(wuR ws en r).nx:=by
 have a:=cw en 1 h;have b:=bR en (t:=obB) a.1;have c:=s9 (pU en) (.l []) b.1;have d:=bR en (t:=cbB) c.1;exact ⟨a.1,b.1,c.1,d.1,Int.le_trans a.2 (Int.le_trans b.2 (Int.le_trans c.2 d.2))⟩
def wvF (ws:D) (en:Int) (r:Rd):List D × Rd:=([.s (wnS ws (gx r))],muR ws en seB (wnR ws en 1 (gx r)))
def wpV (ws:D) (en:Int) (r:Rd):D × Rd:=aj (wkG kwV ws) (wvF ws en) ws (.l []) (wuA ws en r)
def wpB (ws:D) (en:Int) (r:Rd):D × Rd:=wtX en ws 0 (wpV ws en r).2
def wpZ (ws:D) (en:Int) (r:Rd):Po:=⟨wnS ws r,(wpV ws en r).1,(wpB ws en r).1⟩
def wpR (ws:D) (en:Int) (r:Rd):Rd:=muR ws en cbB (wpB ws en r).2
theorem pV {ws:D} (en:Int):SqOK ws (wkG kwV ws) (wvF ws en):=⟨fun r h hg=>by
 have g:=bx h (bw hg).2;have b:=cw en 1 g.1;have d:=bR en (t:=seB) b.1;have e:(gx r).nx=r.nx+1:=rfl;have f:(gx r).nx<=(wvF ws en r).2.nx:=Int.le_trans b.2 d.2;exact ⟨d.1,by omega⟩⟩
theorem AY {ws:D} (en:Int) {r:Rd} (h:aa ws r.nx):aa ws (wnR ws en 1 r).nx/\aa ws (wuA ws en r).nx/\aa ws (wpV ws en r).2.nx/\aa ws (wpB ws en r).2.nx/\aa ws (wpR ws en r).nx/\r.nx<=(wpR ws en r).nx:=by
 have a:=cw en 1 h;have b:=bR en (t:=obB) a.1;have c:=dz (pV en) (.l []) b.1;have m:=(AF en ws 0).up _ c.1;have d:=bR en (t:=cbB) m.2;exact ⟨a.1,b.1,c.1,m.2,d.1,Int.le_trans a.2 (Int.le_trans b.2 (Int.le_trans c.2 (Int.le_trans m.1 d.2)))⟩
def fI (ws:D) (en:Int) (r:Rd):List D × Rd:=((wkZ ws en (gx r)).row,wkR ws en (gx r))
def eY (ws:D) (en:Int) (r:Rd):List D × Rd:=((wuZ ws en (gx r)).row,wuR ws en (gx r))
def dO (ws:D) (en:Int) (r:Rd):List D × Rd:=((wpZ ws en (gx r)).row,wpR ws en (gx r))
def wyC (ws:D) (en:Int) (r:Rd):D × Rd:=aj (wkG kwC ws) (fI ws en) ws (.l []) r
def wyU (ws:D) (en:Int) (r:Rd):D × Rd:=aj (wkG kwU ws) (eY ws en) ws (.l []) (wyC ws en r).2
def wyP (ws:D) (en:Int) (r:Rd):D × Rd:=aj (wkG kwP ws) (dO ws en) ws (.l []) (wyU ws en r).2
def wyR (ws:D) (en:Int) (r:Rd):Rd:=if (wyP ws en r).2.nx<ws.len then ffR ws en 5 (wyP ws en r).2 else (wyP ws en r).2
theorem pW {ws:D} (en:Int):SqOK ws (wkG kwC ws) (fI ws en):=⟨fun r h hg=>by
 have g:=bx h (bw hg).2;have b:=IO en g.1;have e:(gx r).nx=r.nx+1:=rfl;have f:(gx r).nx<=(fI ws en r).2.nx:=b.2;exact ⟨b.1,by omega⟩⟩
theorem pX {ws:D} (en:Int):SqOK ws (wkG kwU ws) (eY ws en):=⟨fun r h hg=>by
 have g:=bx h (bw hg).2;have b:=(AX en g.1).2.2.2;have e:(gx r).nx=r.nx+1:=rfl;have f:(gx r).nx<=(eY ws en r).2.nx:=b.2;exact ⟨b.1,by omega⟩⟩
theorem lf {ws:D} (en:Int):SqOK ws (wkG kwP ws) (dO ws en):=⟨fun r h hg=>by
 have g:=bx h (bw hg).2;have b:=(AY en g.1).2.2.2.2;have e:(gx r).nx=r.nx+1:=rfl;have f:(gx r).nx<=(dO ws en r).2.nx:=b.2;exact ⟨b.1,by omega⟩⟩
theorem IZ {ws:D} (en:Int) {r:Rd} (h:aa ws r.nx):aa ws (wyC ws en r).2.nx/\aa ws (wyU ws en r).2.nx/\aa ws (wyP ws en r).2.nx:=by
 have a:=dz (pW en) (.l []) h;have b:=dz (pX en) (.l []) a.1;exact ⟨a.1,b.1,(dz (lf en) (.l []) b.1).1⟩
def rpY (s:ByteArray):Rd:=wyR (paW s) (s.size:Nat) (mR 0 0 0)
def rpO (s:ByteArray):Bool:=decide ((ai s).2.2=0)&&decide ((rpY s).er=0)
def rpC (s:ByteArray):D:=if rpO s=true then (wyC (paW s) (s.size:Nat) (mR 0 0 0)).1 else .l []
def rpU (s:ByteArray):D:=if rpO s=true then (wyU (paW s) (s.size:Nat) (mR 0 0 0)).1 else .l []
def rpP (s:ByteArray):D:=if rpO s=true then (wyP (paW s) (s.size:Nat) (mR 0 0 0)).1 else .l []
def rpE (s:ByteArray):Int:=if (ai s).2.2=0 then (rpY s).er else (ai s).2.2
def rpA (s:ByteArray):Int:=if (ai s).2.2=0 then (if (rpY s).er=0 then 0 else (rpY s).pa) else ((ai s).2.1:Nat)
theorem AZ {s:ByteArray} (hl:(ai s).2.2≠0):rpC s = .l []/\rpU s = .l []/\rpP s = .l []/\rpA s=((ai s).2.1:Nat)/\rpE s=(ai s).2.2:=by
 have e:rpO s=false:=by simp only[rpO,decide_eq_false hl,Bool.false_and]
 simp only[rpC,rpU,rpP,rpA,rpE,e,if_neg hl,Bool.false_eq_true,if_false,and_self]
theorem pY {s:ByteArray} {R:Rd} (hl:(ai s).2.2=0) (hY:rpY s=R) (he:R.er≠0):rpC s = .l []/\rpU s = .l []/\rpP s = .l []/\rpA s=R.pa/\rpE s=R.er:=by
 subst hY;have e:rpO s=false:=by simp only[rpO,decide_eq_false he,Bool.and_false]
 simp only[rpC,rpU,rpP,rpA,rpE,e,if_pos hl,if_neg he,Bool.false_eq_true,if_false,and_self]
theorem pZ {s:ByteArray} {R:Rd} (hl:(ai s).2.2=0) (hY:rpY s=R) (he:R.er=0):rpC s=(wyC (paW s) (s.size:Nat) (mR 0 0 0)).1/\rpU s=(wyU (paW s) (s.size:Nat) (mR 0 0 0)).1/\rpP s=(wyP (paW s) (s.size:Nat) (mR 0 0 0)).1/\rpA s=0/\rpE s=0:=by
 subst hY;have e:rpO s=true:=by simp only[rpO,decide_eq_true hl,decide_eq_true he,Bool.and_self]
 simp only[rpC,rpU,rpP,rpA,rpE,e,if_pos hl,he,if_true,and_self]
def Bad (ws:D) (r q:Rd):Prop:=r.er≠0/\r.nx=ws.len/\q.er=r.er/\q.pa=r.pa
structure PR {α:Type} (ws:D) (f g:Rd -> α × Rd):Prop where
 ok:∀ r:Rd,aa ws r.nx->r.er=0->(f r=g r/\(g r).2.er=0) ∨ Bad ws (f r).2 (g r).2
 fb:∀ r:Rd,r.er≠0->r.nx=ws.len->(f r).2=r
 gb:∀ q:Rd,q.er≠0->(g q).2=q
 up:∀ r:Rd,aa ws r.nx->aa ws (f r).2.nx
theorem PR.pure {α:Type} {ws:D} (v : α):PR ws (fun r=>(v,r)) (fun r=>(v,r)):=⟨fun _ _ h=>.inl ⟨rfl,h⟩,fun _ _ _=>rfl,fun _ _=>rfl,fun _ h=>h⟩
theorem PR.bind {α β:Type} {ws:D} {f g:Rd -> α × Rd} {f2 g2 : α -> Rd -> β × Rd} (h:PR ws f g) (h2:∀ a,PR ws (f2 a) (g2 a)):PR ws (fun r=>f2 (f r).1 (f r).2) (fun r=>g2 (g r).1 (g r).2):=by
 refine ⟨fun r hr h0=>?_,fun r he hn=>?_,fun q he=>?_,fun r hr=>(h2 _).up _ (h.up r hr)⟩
 ·rcases h.ok r hr h0 with ⟨e1,e2⟩ |⟨b1,b2,b3,b4⟩
  ·have u:=h.up r hr;rw[e1] at u ⊢;exact (h2 _).ok _ u e2
  ·refine .inr ?_
   have a:=(h2 (f r).1).fb _ b1 b2;have b:=(h2 (g r).1).gb (g r).2 (by rw[b3];exact b1);rw[a,b];exact ⟨b1,b2,b3,b4⟩
 ·rw[h.fb r he hn];exact (h2 _).fb r he hn
 ·rw[h.gb q he];exact (h2 _).gb q he
def av:List ByteArray:=[miB,opB,clB,eqB,seB,doB,kwS,kwA,kwI,obB,cbB,kwF,kwL,kwW,kwR,kwC,kwU,kwP,kwV,coB,kwO,kwT,kwB,kwD,kwY,⟨#[61,61]⟩,⟨#[33,61]⟩,⟨#[60]⟩,⟨#[60,61]⟩,⟨#[62]⟩,⟨#[62,61]⟩,⟨#[43]⟩,⟨#[42]⟩,⟨#[47]⟩,⟨#[37]⟩]
def TW (ws:D):Prop:=∀ nx t,t∈av->0<=nx->acB ws nx t=true->3<=pkK ws nx
theorem cf {t:ByteArray} (h:t∈av):0<t.size:=by
 have:∀ t∈av,0<t.size:=by decide
 exact this t h
theorem bU {ws:D} (hT:TW ws) {t:ByteArray} (ht:t∈av) {r:Rd} (h:aa ws r.nx) (h0:r.er=0):isB ws t r=acB ws r.nx t:=by
 have e:isB ws t r=(r.er==0&&decide (r.nx<(ws.len:Int))&&(pkS ws r.nx).toList==t.toList&&decide (pkK ws r.nx>=3)):=rfl;rw[e,h0]
 cases ha:acB ws r.nx t with
 |true=>
  have h1:=cK (cf ht) ha;have h2:=hT r.nx t ht h.1 ha;have h3:((pkS ws r.nx).toList==t.toList)=true:=ha;rw[decide_eq_true h1,h3,decide_eq_true (show pkK ws r.nx>=3 from h2)];rfl
 |false=>
  have h3:((pkS ws r.nx).toList==t.toList)=false:=ha;rw[h3,Bool.and_false,Bool.false_and]
theorem iA {ws:D} {t:ByteArray} {q:Rd} (h:q.er≠0):isB ws t q=false:=by
 cases hq:isB ws t q with
 |false=>rfl
 |true=>exact absurd (bw hq).1 h
theorem A0 {ws:D} {k:Int} {q:Rd} (h:q.er≠0):kiB ws k q=false:=by
 cases hq:kiB ws k q with
 |false=>rfl
 |true=>exact absurd (ix hq).1 h
theorem dP {ws:D} {t:ByteArray} (ht:0<t.size) {nx:Int} (h:nx=ws.len):acB ws nx t=false:=by
 cases hq:acB ws nx t with
 |false=>rfl
 |true=>
  have:=cK ht hq;omega
theorem iB {ws:D} {nx:Int} (h:nx=ws.len):pkK ws nx=0:=if_neg (by omega)
theorem p5 {ws:D} {nx:Int} (h:nx=ws.len):pkS ws nx=ByteArray.empty:=if_neg (by omega)
theorem p6 {ws:D} {en e:Int} {r:Rd} (he:r.er≠0) (hn:r.nx=ws.len):fl ws en e r=r:=by
 unfold fl;rw[if_neg he,<- hn]
theorem p7 {ws:D} {en e:Int} {q:Rd} (he:q.er≠0):ffR ws en e q=q:=if_neg he
theorem fJ {ws:D} {en e:Int} (h:e≠0) {r:Rd} (h0:r.er=0):Bad ws (fl ws en e r) (ffR ws en e r):=by
 unfold fl ffR;rw[if_pos h0,if_pos h0];exact ⟨h,rfl,rfl,rfl⟩
theorem lg {ws:D} {en:Int} {t:ByteArray} {q:Rd} (he:q.er≠0):muR ws en t q=q:=by
 unfold muR;rw[if_neg (by rw[iA he];decide),p7 he]
theorem iC {ws:D} {en:Int} {t:ByteArray} (ht:0<t.size) {r:Rd} (he:r.er≠0) (hn:r.nx=ws.len):exR ws en t r=r:=by
 rw[im (dP ht hn),p6 he hn]
theorem tj {ws:D} {en k:Int} {q:Rd} (he:q.er≠0):wnR ws en k q=q:=by
 unfold wnR;rw[if_neg (by rw[A0 he];decide),p7 he]
theorem fK {ws:D} (hT:TW ws) (en:Int) {t:ByteArray} (ht:t∈av):PR ws (fun r=>((),exR ws en t r)) (fun r=>((),muR ws en t r)):=by
 refine ⟨fun r hr h0=>?_,fun r he hn=>iC (cf ht) he hn,fun q he=>lg he,fun r hr=>(a9 en hr (cf ht)).1⟩;have e:=bU hT ht hr h0
 cases ha:acB ws r.nx t with
 |true=>
  left
  have e2:muR ws en t r=gx r:=if_pos (by rw[e,ha]);simp only[fZ ha,e2];exact ⟨trivial,h0⟩
 |false=>
  right
  have e2:muR ws en t r=ffR ws en 5 r:=if_neg (by rw[e,ha];decide);simp only[im ha,e2];exact fJ (by decide) h0
theorem no {ws:D} {k:Int} (hk:k≠0) {r:Rd} (h0:r.er=0):kiB ws k r=decide (pkK ws r.nx=k):=by
 have e:kiB ws k r=(r.er==0&&decide (r.nx<(ws.len:Int))&&pkK ws r.nx==k):=rfl;rw[e,h0]
 by_cases h:pkK ws r.nx=k
 ·rw[decide_eq_true h,decide_eq_true (kB (by rw[h];exact hk)),h];simp
 ·rw[decide_eq_false h,beq_false_of_ne h,Bool.and_false]
theorem iE {ws:D} (en:Int):PR ws (fun r=>(nmS ws r,nmR ws en r)) (fun r=>(wnS ws r,wnR ws en 1 r)):=by
 refine ⟨fun r hr h0=>?_,fun r he hn=>?_,fun q he=>tj he,fun r hr=>(bT en hr).1⟩
 ·have e:=no (ws:=ws) (k:=1) (by decide) h0
  by_cases hk:pkK ws r.nx=1
  ·left
   have hb:kiB ws 1 r=true:=by rw[e,decide_eq_true hk]
   simp only[nmS,nmR,wnS,wnR,if_pos hk,if_pos hb];exact ⟨trivial,h0⟩
  ·right
   have hb:¬ kiB ws 1 r=true:=by rw[e,decide_eq_false hk];decide
   simp only[nmR,wnR,if_neg hk,if_neg hb];exact fJ (by decide) h0
 ·have hk:¬ pkK ws r.nx=1:=by rw[iB hn];decide
  simp only[nmR,if_neg hk];exact p6 he hn
theorem tk {ws:D} (en:Int):PR ws (fun r=>(nuN ws r,nuR ws en r)) (fun r=>(wnN ws r,wnR ws en 2 r)):=by
 refine ⟨fun r hr h0=>?_,fun r he hn=>?_,fun q he=>tj he,fun r hr=>(jy en hr).1⟩
 ·have e:=no (ws:=ws) (k:=2) (by decide) h0
  by_cases hk:pkK ws r.nx=2
  ·left
   have hb:kiB ws 2 r=true:=by rw[e,decide_eq_true hk]
   simp only[nuN,nuR,wnN,wnR,if_pos hk,if_pos hb];exact ⟨trivial,h0⟩
  ·right
   have hb:¬ kiB ws 2 r=true:=by rw[e,decide_eq_false hk];decide
   simp only[nuR,wnR,if_neg hk,if_neg hb];exact fJ (by decide) h0
 ·have hk:¬ pkK ws r.nx=2:=by rw[iB hn];decide
  simp only[nuR,if_neg hk];exact p6 he hn
theorem PR.kw {β:Type} {ws:D} (hT:TW ws) (en:Int) {t:ByteArray} (ht:t∈av) {A B A' B':Rd -> β × Rd} (hA:PR ws A A') (hB:PR ws B B'):PR ws (fun r=>if acB ws r.nx t=true then A (exR ws en t r) else B r) (fun r=>if isB ws t r=true then A' (gx r) else B' r):=by
 refine ⟨fun r hr h0=>?_,fun r he hn=>?_,fun q he=>?_,fun r hr=>?_⟩
 ·simp only[bU hT ht hr h0]
  cases ha:acB ws r.nx t with
  |true=>
   simp only[if_true,fZ ha];exact hA.ok (gx r) (bx hr (cK (cf ht) ha)).1 h0
  |false=>
   simp only[Bool.false_eq_true,if_false];exact hB.ok r hr h0
 ·simp only[dP (cf ht) hn,Bool.false_eq_true,if_false];exact hB.fb r he hn
 ·simp only[iA he,Bool.false_eq_true,if_false];exact hB.gb q he
 ·split
  ·exact hA.up _ (a9 en hr (cf ht)).1
  ·exact hB.up r hr
theorem PR.kw2 {β:Type} {ws:D} (hT:TW ws) {t:ByteArray} (ht:t∈av) {A B A' B':Rd -> β × Rd} (hA:PR ws A A') (hB:PR ws B B'):PR ws (fun r=>if acB ws r.nx t=true then A (acR ws t r) else B (acR ws t r)) (fun r=>if isB ws t r=true then A' (gx r) else B' r):=by
 refine ⟨fun r hr h0=>?_,fun r he hn=>?_,fun q he=>?_,fun r hr=>?_⟩
 ·simp only[bU hT ht hr h0]
  cases ha:acB ws r.nx t with
  |true=>
   simp only[if_true,ju ha];exact hA.ok (gx r) (bx hr (cK (cf ht) ha)).1 h0
  |false=>
   simp only[Bool.false_eq_true,if_false,dI ha];exact hB.ok r hr h0
 ·simp only[dP (cf ht) hn,Bool.false_eq_true,if_false,dI (dP (cf ht) hn)];exact hB.fb r he hn
 ·simp only[iA he,Bool.false_eq_true,if_false];exact hB.gb q he
 ·split
  ·exact hA.up _ (dK hr (cf ht)).1
  ·exact hB.up _ (dK hr (cf ht)).1
theorem PR.pick {β:Type} {ws:D} {en:Int} {kv kx:Rd->Int} {kr:Rd->Rd} {c:Rd->Bool} {v:Rd -> β} {f2 g2:Int->Rd -> β × Rd} (h1:∀ r:Rd,aa ws r.nx->r.er=0->c r=false->kv r=kx r/\kr r=gx r) (h2:∀ r:Rd,aa ws r.nx->r.er=0->c r=true->kr r=fl ws en 5 r) (h3:∀ r:Rd,r.er≠0->r.nx=ws.len->kr r=r) (h4:∀ q:Rd,q.er≠0->c q=true) (hu:∀ r:Rd,aa ws r.nx->aa ws (kr r).nx) (hp:∀ a,PR ws (f2 a) (g2 a)):PR ws (fun r=>f2 (kv r) (kr r)) (fun q=>if c q=true then (v q,ffR ws en 5 q) else g2 (kx q) (gx q)):=by
 refine ⟨fun r hr h0=>?_,fun r he hn=>?_,fun q he=>?_,fun r hr=>(hp _).up _ (hu r hr)⟩
 ·cases hc:c r with
  |true=>
   right
   have b:=fJ (ws:=ws) (en:=en) (e:=5) (by decide) h0;simp only[if_true,h2 r hr h0 hc,(hp (kv r)).fb _ b.1 b.2.1];exact b
  |false=>
   simp only[Bool.false_eq_true,if_false];have u:=hu r hr;obtain ⟨a,b⟩:=h1 r hr h0 hc;rw[b] at u;rw[a,b];exact (hp _).ok _ u h0
 ·simp only[h3 r he hn];exact (hp _).fb r he hn
 ·simp only[h4 q he,if_true];exact p7 he
theorem I0 {ws:D} (hT:TW ws) {r:Rd} (h:aa ws r.nx) (h0:r.er=0):skK (pkS ws r.nx)=kQ ws sgA 4 r:=by
 have e0:isB ws ⟨#[43]⟩ r=((pkS ws r.nx).toList==(⟨#[43]⟩:ByteArray).toList):=bU hT (by simp [av]) h h0;have e1:isB ws ⟨#[45]⟩ r=((pkS ws r.nx).toList==(⟨#[45]⟩:ByteArray).toList):=bU hT (by simp [av,miB]) h h0;have hx:ixR ws sgA r 2=if isB ws ⟨#[45]⟩ r=true then ((1:Nat):Int) else if isB ws ⟨#[43]⟩ r=true then ((0:Nat):Int) else -1:=rfl
 rw[e1,e0] at hx;have hl:sgA.len=2:=rfl;unfold skK kQ;simp only[h0,true_and,hl]
 by_cases k0:((pkS ws r.nx).toList==(⟨#[43]⟩:ByteArray).toList)=true
 ·have o1:((pkS ws r.nx).toList==(⟨#[45]⟩:ByteArray).toList)=false:=(by rw[eq_of_beq k0];decide +kernel);rw[k0,o1] at hx;simp only[Bool.false_eq_true,if_false,if_true] at hx;rw[k0,o1,hx]
  simp
 by_cases k1:((pkS ws r.nx).toList==(⟨#[45]⟩:ByteArray).toList)=true
 ·have o0:((pkS ws r.nx).toList==(⟨#[43]⟩:ByteArray).toList)=false:=(by rw[eq_of_beq k1];decide +kernel);rw[k1,o0] at hx;simp only[Bool.false_eq_true,if_false,if_true] at hx;rw[k1,o0,hx]
  simp
 rw[(Bool.eq_false_iff.2 k0),(Bool.eq_false_iff.2 k1)] at hx;simp only[Bool.false_eq_true,if_false] at hx;rw[(Bool.eq_false_iff.2 k0),(Bool.eq_false_iff.2 k1),hx]
 simp
theorem I1 {ws:D} (hT:TW ws) {r:Rd} (h:aa ws r.nx) (h0:r.er=0):pdK (pkS ws r.nx)=kQ ws sgM 6 r:=by
 have e0:isB ws ⟨#[42]⟩ r=((pkS ws r.nx).toList==(⟨#[42]⟩:ByteArray).toList):=bU hT (by simp [av]) h h0;have e1:isB ws ⟨#[47]⟩ r=((pkS ws r.nx).toList==(⟨#[47]⟩:ByteArray).toList):=bU hT (by simp [av]) h h0;have e2:isB ws ⟨#[37]⟩ r=((pkS ws r.nx).toList==(⟨#[37]⟩:ByteArray).toList):=bU hT (by simp [av]) h h0;have hx:ixR ws sgM r 3=if isB ws ⟨#[37]⟩ r=true then ((2:Nat):Int) else if isB ws ⟨#[47]⟩ r=true then ((1:Nat):Int) else if isB ws ⟨#[42]⟩ r=true then ((0:Nat):Int) else -1:=rfl
 rw[e2,e1,e0] at hx;have hl:sgM.len=3:=rfl;unfold pdK kQ;simp only[h0,true_and,hl]
 by_cases k0:((pkS ws r.nx).toList==(⟨#[42]⟩:ByteArray).toList)=true
 ·have o1:((pkS ws r.nx).toList==(⟨#[47]⟩:ByteArray).toList)=false:=(by rw[eq_of_beq k0];decide +kernel);have o2:((pkS ws r.nx).toList==(⟨#[37]⟩:ByteArray).toList)=false:=(by rw[eq_of_beq k0];decide +kernel);rw[k0,o1,o2] at hx;simp only[Bool.false_eq_true,if_false,if_true] at hx;rw[k0,o1,o2,hx]
  simp
 by_cases k1:((pkS ws r.nx).toList==(⟨#[47]⟩:ByteArray).toList)=true
 ·have o0:((pkS ws r.nx).toList==(⟨#[42]⟩:ByteArray).toList)=false:=(by rw[eq_of_beq k1];decide +kernel);have o2:((pkS ws r.nx).toList==(⟨#[37]⟩:ByteArray).toList)=false:=(by rw[eq_of_beq k1];decide +kernel);rw[k1,o0,o2] at hx;simp only[Bool.false_eq_true,if_false,if_true] at hx;rw[k1,o0,o2,hx]
  simp
 by_cases k2:((pkS ws r.nx).toList==(⟨#[37]⟩:ByteArray).toList)=true
 ·have o0:((pkS ws r.nx).toList==(⟨#[42]⟩:ByteArray).toList)=false:=(by rw[eq_of_beq k2];decide +kernel);have o1:((pkS ws r.nx).toList==(⟨#[47]⟩:ByteArray).toList)=false:=(by rw[eq_of_beq k2];decide +kernel);rw[k2,o0,o1] at hx;simp only[Bool.false_eq_true,if_false,if_true] at hx;rw[k2,o0,o1,hx]
  simp
 rw[(Bool.eq_false_iff.2 k0),(Bool.eq_false_iff.2 k1),(Bool.eq_false_iff.2 k2)] at hx;simp only[Bool.false_eq_true,if_false] at hx;rw[(Bool.eq_false_iff.2 k0),(Bool.eq_false_iff.2 k1),(Bool.eq_false_iff.2 k2),hx]
 simp
theorem tp {ws:D} (hT:TW ws) {r:Rd} (h:aa ws r.nx) (h0:r.er=0):coK (pkS ws r.nx)=ixR ws sgC r 6+1:=by
 have e0:isB ws ⟨#[61,61]⟩ r=((pkS ws r.nx).toList==(⟨#[61,61]⟩:ByteArray).toList):=bU hT (by simp [av]) h h0;have e1:isB ws ⟨#[33,61]⟩ r=((pkS ws r.nx).toList==(⟨#[33,61]⟩:ByteArray).toList):=bU hT (by simp [av]) h h0;have e2:isB ws ⟨#[60]⟩ r=((pkS ws r.nx).toList==(⟨#[60]⟩:ByteArray).toList):=bU hT (by simp [av]) h h0;have e3:isB ws ⟨#[60,61]⟩ r=((pkS ws r.nx).toList==(⟨#[60,61]⟩:ByteArray).toList):=bU hT (by simp [av]) h h0;have e4:isB ws ⟨#[62]⟩ r=((pkS ws r.nx).toList==(⟨#[62]⟩:ByteArray).toList):=bU hT (by simp [av]) h h0;have e5:isB ws ⟨#[62,61]⟩ r=((pkS ws r.nx).toList==(⟨#[62,61]⟩:ByteArray).toList):=bU hT (by simp [av]) h h0;have hx:ixR ws sgC r 6=if isB ws ⟨#[62,61]⟩ r=true then ((5:Nat):Int) else if isB ws ⟨#[62]⟩ r=true then ((4:Nat):Int) else if isB ws ⟨#[60,61]⟩ r=true then ((3:Nat):Int) else if isB ws ⟨#[60]⟩ r=true then ((2:Nat):Int) else if isB ws ⟨#[33,61]⟩ r=true then ((1:Nat):Int) else if isB ws ⟨#[61,61]⟩ r=true then ((0:Nat):Int) else -1:=rfl
 rw[e5,e4,e3,e2,e1,e0] at hx;unfold coK
 by_cases k0:((pkS ws r.nx).toList==(⟨#[61,61]⟩:ByteArray).toList)=true
 ·have o1:((pkS ws r.nx).toList==(⟨#[33,61]⟩:ByteArray).toList)=false:=(by rw[eq_of_beq k0];decide +kernel);have o2:((pkS ws r.nx).toList==(⟨#[60]⟩:ByteArray).toList)=false:=(by rw[eq_of_beq k0];decide +kernel);have o3:((pkS ws r.nx).toList==(⟨#[60,61]⟩:ByteArray).toList)=false:=(by rw[eq_of_beq k0];decide +kernel);have o4:((pkS ws r.nx).toList==(⟨#[62]⟩:ByteArray).toList)=false:=(by rw[eq_of_beq k0];decide +kernel);have o5:((pkS ws r.nx).toList==(⟨#[62,61]⟩:ByteArray).toList)=false:=(by rw[eq_of_beq k0];decide +kernel);rw[k0,o1,o2,o3,o4,o5] at hx;simp only[Bool.false_eq_true,if_false,if_true] at hx;rw[k0,o1,o2,o3,o4,o5,hx]
  simp
 by_cases k1:((pkS ws r.nx).toList==(⟨#[33,61]⟩:ByteArray).toList)=true
 ·have o0:((pkS ws r.nx).toList==(⟨#[61,61]⟩:ByteArray).toList)=false:=(by rw[eq_of_beq k1];decide +kernel);have o2:((pkS ws r.nx).toList==(⟨#[60]⟩:ByteArray).toList)=false:=(by rw[eq_of_beq k1];decide +kernel);have o3:((pkS ws r.nx).toList==(⟨#[60,61]⟩:ByteArray).toList)=false:=(by rw[eq_of_beq k1];decide +kernel);have o4:((pkS ws r.nx).toList==(⟨#[62]⟩:ByteArray).toList)=false:=(by rw[eq_of_beq k1];decide +kernel);have o5:((pkS ws r.nx).toList==(⟨#[62,61]⟩:ByteArray).toList)=false:=(by rw[eq_of_beq k1];decide +kernel);rw[k1,o0,o2,o3,o4,o5] at hx;simp only[Bool.false_eq_true,if_false,if_true] at hx;rw[k1,o0,o2,o3,o4,o5,hx]
  simp
 by_cases k2:((pkS ws r.nx).toList==(⟨#[60]⟩:ByteArray).toList)=true
 ·have o0:((pkS ws r.nx).toList==(⟨#[61,61]⟩:ByteArray).toList)=false:=(by rw[eq_of_beq k2];decide +kernel);have o1:((pkS ws r.nx).toList==(⟨#[33,61]⟩:ByteArray).toList)=false:=(by rw[eq_of_beq k2];decide +kernel);have o3:((pkS ws r.nx).toList==(⟨#[60,61]⟩:ByteArray).toList)=false:=(by rw[eq_of_beq k2];decide +kernel);have o4:((pkS ws r.nx).toList==(⟨#[62]⟩:ByteArray).toList)=false:=(by rw[eq_of_beq k2];decide +kernel);have o5:((pkS ws r.nx).toList==(⟨#[62,61]⟩:ByteArray).toList)=false:=(by rw[eq_of_beq k2];decide +kernel);rw[k2,o0,o1,o3,o4,o5] at hx;simp only[Bool.false_eq_true,if_false,if_true] at hx;rw[k2,o0,o1,o3,o4,o5,hx]
  simp
 by_cases k3:((pkS ws r.nx).toList==(⟨#[60,61]⟩:ByteArray).toList)=true
 ·have o0:((pkS ws r.nx).toList==(⟨#[61,61]⟩:ByteArray).toList)=false:=(by rw[eq_of_beq k3];decide +kernel);have o1:((pkS ws r.nx).toList==(⟨#[33,61]⟩:ByteArray).toList)=false:=(by rw[eq_of_beq k3];decide +kernel);have o2:((pkS ws r.nx).toList==(⟨#[60]⟩:ByteArray).toList)=false:=(by rw[eq_of_beq k3];decide +kernel);have o4:((pkS ws r.nx).toList==(⟨#[62]⟩:ByteArray).toList)=false:=(by rw[eq_of_beq k3];decide +kernel);have o5:((pkS ws r.nx).toList==(⟨#[62,61]⟩:ByteArray).toList)=false:=(by rw[eq_of_beq k3];decide +kernel);rw[k3,o0,o1,o2,o4,o5] at hx;simp only[Bool.false_eq_true,if_false,if_true] at hx;rw[k3,o0,o1,o2,o4,o5,hx]
  simp
 by_cases k4:((pkS ws r.nx).toList==(⟨#[62]⟩:ByteArray).toList)=true
 ·have o0:((pkS ws r.nx).toList==(⟨#[61,61]⟩:ByteArray).toList)=false:=(by rw[eq_of_beq k4];decide +kernel);have o1:((pkS ws r.nx).toList==(⟨#[33,61]⟩:ByteArray).toList)=false:=(by rw[eq_of_beq k4];decide +kernel);have o2:((pkS ws r.nx).toList==(⟨#[60]⟩:ByteArray).toList)=false:=(by rw[eq_of_beq k4];decide +kernel);have o3:((pkS ws r.nx).toList==(⟨#[60,61]⟩:ByteArray).toList)=false:=(by rw[eq_of_beq k4];decide +kernel);have o5:((pkS ws r.nx).toList==(⟨#[62,61]⟩:ByteArray).toList)=false:=(by rw[eq_of_beq k4];decide +kernel);rw[k4,o0,o1,o2,o3,o5] at hx;simp only[Bool.false_eq_true,if_false,if_true] at hx;rw[k4,o0,o1,o2,o3,o5,hx]
  simp
 by_cases k5:((pkS ws r.nx).toList==(⟨#[62,61]⟩:ByteArray).toList)=true
 ·have o0:((pkS ws r.nx).toList==(⟨#[61,61]⟩:ByteArray).toList)=false:=(by rw[eq_of_beq k5];decide +kernel);have o1:((pkS ws r.nx).toList==(⟨#[33,61]⟩:ByteArray).toList)=false:=(by rw[eq_of_beq k5];decide +kernel);have o2:((pkS ws r.nx).toList==(⟨#[60]⟩:ByteArray).toList)=false:=(by rw[eq_of_beq k5];decide +kernel);have o3:((pkS ws r.nx).toList==(⟨#[60,61]⟩:ByteArray).toList)=false:=(by rw[eq_of_beq k5];decide +kernel);have o4:((pkS ws r.nx).toList==(⟨#[62]⟩:ByteArray).toList)=false:=(by rw[eq_of_beq k5];decide +kernel);rw[k5,o0,o1,o2,o3,o4] at hx;simp only[Bool.false_eq_true,if_false,if_true] at hx;rw[k5,o0,o1,o2,o3,o4,hx]
  simp
 rw[(Bool.eq_false_iff.2 k0),(Bool.eq_false_iff.2 k1),(Bool.eq_false_iff.2 k2),(Bool.eq_false_iff.2 k3),(Bool.eq_false_iff.2 k4),(Bool.eq_false_iff.2 k5)] at hx;simp only[Bool.false_eq_true,if_false] at hx;rw[(Bool.eq_false_iff.2 k0),(Bool.eq_false_iff.2 k1),(Bool.eq_false_iff.2 k2),(Bool.eq_false_iff.2 k3),(Bool.eq_false_iff.2 k4),(Bool.eq_false_iff.2 k5),hx]
 simp
theorem I2 {ws:D} {P P':Rd->Xp × Rd} {K:ByteArray->Int} {K':Rd->Int} (hp:PR ws P P') (hP:PaOK ws P) (hP':PaOK ws P') (he:K ByteArray.empty=0) (hK':KOK ws K') (hk:∀ r:Rd,aa ws r.nx->r.er=0->K (pkS ws r.nx)=K' r) (hk2:∀ q:Rd,q.er≠0->K' q=0):∀ (n:Nat) (r:Rd) (x:Xp),aa ws r.nx->r.er=0->left ws r<=n->(chL P K ws (left ws r) x r=cQL P' K' (left ws r) x r/\(cQL P' K' (left ws r) x r).2.er=0) ∨ Bad ws (chL P K ws (left ws r) x r).2 (cQL P' K' (left ws r) x r).2:=by
 intro n
 induction n using Nat.strongRecOn with
 |ind n ih=>
  intro r x h h0 hl;have e:=hk r h h0
  by_cases hz:K (pkS ws r.nx)=0
  ·left
   rw[gF hz,dk (by rw[<- e,hz])];exact ⟨rfl,h0⟩
  ·have hz':K' r≠0:=by rw[<- e];exact hz
   have hlt:=io he hz;obtain ⟨g1,g2⟩:=c9 h hlt;rw[<- sw hP he x h hz,<- jE hP' hK' x h hz',<- e];obtain ⟨u1,u2,_⟩:=hP.up (gx r) g1;have u3:=cv (ws:=ws) u1
   rcases hp.ok (gx r) g1 h0 with ⟨e1,e2⟩ |⟨b1,b2,b3,b4⟩
   ·rw[e1] at u2 u3 ⊢;exact ih (left ws (P' (gx r)).2) (by omega) _ _ u2 e2 (Nat.le_refl _)
   ·right
    have k1:K (pkS ws (P (gx r)).2.nx)=0:=by rw[p5 b2,he]
    have k2:K' (P' (gx r)).2=0:=hk2 _ (by rw[b3];exact b1);rw[gF k1,dk k2];exact ⟨b1,b2,b3,b4⟩
theorem A1 {ws:D} {P P':Rd->Xp × Rd} {K:ByteArray->Int} {K':Rd->Int} (hp:PR ws P P') (hP:PaOK ws P) (hP':PaOK ws P') (he:K ByteArray.empty=0) (hK':KOK ws K') (hk:∀ r:Rd,aa ws r.nx->r.er=0->K (pkS ws r.nx)=K' r) (hk2:∀ q:Rd,q.er≠0->K' q=0):PR ws (chA P K ws) (cQA P' K' ws):=by
 refine ⟨fun r h h0=>?_,fun r hr hn=>?_,fun q hq=>?_,fun r h=>((mH hP he).up r h).2.1⟩
 ·unfold chA cQA;have u:=hp.up r h
  rcases hp.ok r h h0 with ⟨e1,e2⟩ |⟨b1,b2,b3,b4⟩
  ·rw[e1] at u ⊢;exact I2 hp hP hP' he hK' hk hk2 _ _ _ u e2 (Nat.le_refl _)
  ·right
   have k1:K (pkS ws (P r).2.nx)=0:=by rw[p5 b2,he]
   have k2:K' (P' r).2=0:=hk2 _ (by rw[b3];exact b1);rw[gF k1,dk k2];exact ⟨b1,b2,b3,b4⟩
 ·unfold chA;have e:=hp.fb r hr hn;rw[gF (by rw[e,p5 hn,he])];exact e
 ·unfold cQA;have e:=hp.gb q hq;rw[dk (hk2 _ (by rw[e];exact hq))];exact e
theorem A3 {ws sg:D} {fi:Int} {q:Rd} (h:q.er≠0):kQ ws sg fi q=0:=if_neg fun hx=>h hx.1
theorem I3 {P P':PF} {en:Int} {ws:D} {dp:Int} (hT:TW ws) (hp:PR ws (P en ws dp) (P' en ws dp)) (hP:PaOK ws (P en ws dp)) (hP':PaOK ws (P' en ws dp)):PR ws (prF P en ws dp) (wpr P' en ws dp):=
 A1 hp hP hP' kG fF (fun _ h h0=>I1 hT h h0) (fun _ h=>A3 h)
theorem A4 {P P':PF} {en:Int} {ws:D} {dp:Int} (hT:TW ws) (hp:PR ws (P en ws dp) (P' en ws dp)) (hP:PaOK ws (P en ws dp)) (hP':PaOK ws (P' en ws dp)):PR ws (smF P en ws dp) (wsm P' en ws dp):=
 A1 (I3 hT hp hP hP') (mH hP kG) (s4 hP' fF) o7 fF (fun _ h h0=>I0 hT h h0) (fun _ h=>A3 h)
theorem I4 {P P':PF} {en:Int} {ws:D} (hT:TW ws) (hp:∀ dp,PR ws (P en ws dp) (P' en ws dp)) (hP:∀ en ws dp,PaOK ws (P en ws dp)) (hP':∀ en ws dp,PaOK ws (P' en ws dp)) (dp:Int):PR ws (fcB P en ws dp) (rfB P' en ws dp):=by
 have hm:miB∈av:=by simp [av]
 have ho:opB∈av:=by simp [av]
 have hc:clB∈av:=by simp [av]
 have hs:=fun dp=>A4 hT (hp dp) (hP en ws dp) (hP' en ws dp)
 refine ⟨fun r h h0=>?_,fun r hr hn=>?_,fun q hq=>?_,fun r h=>((yO hP en ws dp).up r h).2.1⟩
 ·unfold fcB rfB;rw[bU hT hm h h0,bU hT ho h h0]
  by_cases k2:pkK ws r.nx=2
  ·have n1:¬ (acB ws r.nx miB=true ∨ acB ws r.nx opB=true):=by
    intro hx
    rcases hx with hx |hx
    ·have:=hT r.nx _ hm h.1 hx;omega
    ·have:=hT r.nx _ ho h.1 hx;omega
   have hb:kiB ws 2 r=true:=by rw[no (by decide) h0,decide_eq_true k2]
   rw[if_pos k2,if_neg n1,if_pos hb]
   rcases (tk en).ok r h h0 with ⟨e1,e2⟩ |b
   ·left
    have e1:(nuN ws r,nuR ws en r)=(wnN ws r,wnR ws en 2 r):=e1;obtain ⟨a,b⟩:=Prod.mk.inj e1;rw[a,b];exact ⟨rfl,e2⟩
   ·exact .inr b
  ·rw[if_neg k2]
   by_cases a1:acB ws r.nx miB=true
   ·rw[if_pos a1,if_pos (.inl a1),if_pos a1]
    by_cases hd:24<=dp
    ·right
     rw[if_pos hd];have en1:neR ws en miB dp r=fl ws en 6 r:=if_pos ⟨a1,hd⟩;have b:=fJ (ws:=ws) (en:=en) (e:=6) (by decide) h0;simp only[en1,(hp (dp+1)).fb _ b.1 b.2.1];exact b
    ·rw[if_neg hd];have en1:neR ws en miB dp r=gx r:=(if_neg (fun hx=>hd hx.2)).trans (fZ a1);rw[en1]
     rcases (hp (dp+1)).ok (gx r) (bx h (cK (by decide) a1)).1 h0 with ⟨e1,e2⟩ |b
     ·left
      rw[e1];exact ⟨rfl,e2⟩
     ·exact .inr b
   ·rw[if_neg a1]
    by_cases a2:acB ws r.nx opB=true
    ·rw[if_pos a2,if_pos (.inr a2),if_neg a1]
     by_cases hd:24<=dp
     ·right
      rw[if_pos hd];have en1:neR ws en opB dp r=fl ws en 6 r:=if_pos ⟨a2,hd⟩;have b:=fJ (ws:=ws) (en:=en) (e:=6) (by decide) h0;simp only[en1,(hs (dp+1)).fb _ b.1 b.2.1,iC (cf hc) b.1 b.2.1];exact b
     ·rw[if_neg hd];have en1:neR ws en opB dp r=gx r:=(if_neg (fun hx=>hd hx.2)).trans (fZ a2);rw[en1];exact (PR.bind (hs (dp+1)) (f2:=fun e r=>(e,exR ws en clB r)) (g2:=fun e r=>(e,muR ws en clB r)) (fun e=>PR.bind (fK hT en hc) (f2:=fun _ r=>(e,r)) (g2:=fun _ r=>(e,r)) (fun _=>PR.pure e))).ok (gx r) (bx h (cK (by decide) a2)).1 h0
    ·have n1:¬ (acB ws r.nx miB=true ∨ acB ws r.nx opB=true):=fun hx=>hx.elim a1 a2
     have hb:¬ kiB ws 2 r=true:=by rw[no (by decide) h0,decide_eq_false k2];decide
     rw[if_neg a2,if_neg n1,if_neg hb];exact (PR.bind (iE en) (f2:=fun n r=>(Xp.mk 2 0 n (.l []),r)) (g2:=fun n r=>(Xp.mk 2 0 n (.l []),r)) (fun n=>PR.pure _)).ok r h h0
 ·unfold fcB;rw[if_neg (by rw[iB hn];decide),if_neg (by rw[dP (cf hm) hn];decide),if_neg (by rw[dP (cf ho) hn];decide)];exact (iE en).fb r hr hn
 ·unfold rfB;rw[if_neg (by rw[iA hq,iA hq];decide),if_neg (by rw[A0 hq];decide)];exact tj hq
theorem A5 {en:Int} {ws:D} (hT:TW ws):∀ (m:Nat) (dp:Int),PR ws (fcR m en ws dp) (wfR m en ws dp)
 | 0,_=>⟨fun _ _ h=>.inl ⟨rfl,h⟩,fun _ _ _=>rfl,fun _ _=>rfl,fun _ h=>h⟩
 |m+1,dp=>I4 hT (A5 hT m) (kI m) (gi m) dp
theorem tq {ws:D} (hT:TW ws) (en dp:Int):PR ws (smX en ws dp) (wsX en ws dp):=by
 unfold smX wsX;exact A4 hT (A5 hT 1000001 dp) (kI 1000001 en ws dp) (gi 1000001 en ws dp)
theorem I5 {ws:D} {en:Int} {r:Rd} (he:r.er≠0) (hn:r.nx=ws.len):cmR ws en r=r:=by
 unfold cmR;rw[if_pos (by rw[p5 hn,su]),p6 he hn]
theorem tr {ws sg:D} {q:Rd} (h:q.er≠0):∀ n,ixR ws sg q n = -1
 | 0=>rfl
 |n+1=>by
  unfold ixR;rw[if_neg (by rw[iA h];decide),tr h n]
theorem I6 {ws:D} (hT:TW ws) (en:Int):PR ws (fun r=>(cdC ws en r,cdR ws en r)) (fun r=>(wcC ws en r,wcR ws en r)):=by
 have ho:opB∈av:=by simp [av]
 have hc:clB∈av:=by simp [av]
 have h2:∀ (l:Xp) (a:Int),PR ws (fun r=>((⟨a,l,(smX en ws 0 r).1⟩:Cd),exR ws en clB (smX en ws 0 r).2)) (fun r=>((⟨a,l,(wsX en ws 0 r).1⟩:Cd),muR ws en clB (wsX en ws 0 r).2)):=fun l a=>
  PR.bind (tq hT en 0) (f2:=fun e r=>((⟨a,l,e⟩:Cd),exR ws en clB r)) (g2:=fun e r=>((⟨a,l,e⟩:Cd),muR ws en clB r)) (fun e=>PR.bind (fK hT en hc) (f2:=fun _ r=>((⟨a,l,e⟩:Cd),r)) (g2:=fun _ r=>((⟨a,l,e⟩:Cd),r)) (fun _=>PR.pure _))
 have h1:∀ l:Xp,PR ws (fun r=>((⟨coK (pkS ws r.nx),l,(smX en ws 0 (cmR ws en r)).1⟩:Cd),exR ws en clB (smX en ws 0 (cmR ws en r)).2)) (fun q=>if decide (ixR ws sgC q 6+1=0)=true then ((⟨0,l,X00⟩:Cd),ffR ws en 5 q) else ((⟨ixR ws sgC q 6+1,l,(wsX en ws 0 (gx q)).1⟩:Cd),muR ws en clB (wsX en ws 0 (gx q)).2)):=fun l=>
  PR.pick (kv:=fun r=>coK (pkS ws r.nx)) (kr:=fun r=>cmR ws en r) (kx:=fun q=>ixR ws sgC q 6+1) (c:=fun q=>decide (ixR ws sgC q 6+1=0)) (v:=fun _=>⟨0,l,X00⟩)
   (fun r h h0 hz=>⟨tp hT h h0,if_neg (by rw[tp hT h h0];exact of_decide_eq_false hz)⟩)
   (fun r h h0 hz=>if_pos (by rw[tp hT h h0];exact of_decide_eq_true hz))
   (fun r he hn=>I5 he hn) (fun q hq=>by rw[tr hq];rfl) (fun r h=>(yQ en h).1) (h2 l)
 have key:=PR.bind (fK hT en ho) (fun _=>PR.bind (tq hT en 0) h1);have e1:∀ r,(wcC ws en r,wcR ws en r)=(if decide (ixR ws sgC (wsX en ws 0 (muR ws en opB r)).2 6+1=0)=true then ((⟨0,(wsX en ws 0 (muR ws en opB r)).1,X00⟩:Cd),ffR ws en 5 (wsX en ws 0 (muR ws en opB r)).2) else ((⟨ixR ws sgC (wsX en ws 0 (muR ws en opB r)).2 6+1,(wsX en ws 0 (muR ws en opB r)).1,(wsX en ws 0 (gx (wsX en ws 0 (muR ws en opB r)).2)).1⟩:Cd),muR ws en clB (wsX en ws 0 (gx (wsX en ws 0 (muR ws en opB r)).2)).2)):=by
  intro r;unfold wcC wcR
  by_cases hz:wcO ws en r=0
  ·have hz':decide (ixR ws sgC (wsX en ws 0 (muR ws en opB r)).2 6+1=0)=true:=decide_eq_true hz;rw[if_pos hz,if_pos hz,if_pos hz'];rfl
  ·have hz':¬ decide (ixR ws sgC (wsX en ws 0 (muR ws en opB r)).2 6+1=0)=true:=fun hx=>hz (of_decide_eq_true hx)
   rw[if_neg hz,if_neg hz,if_neg hz'];rfl
 rw[funext e1];exact key
theorem I7 {ws:D} {go go':Rd->Bool} {F F':Rd->List D × Rd} (hF:∀ r:Rd,aa ws r.nx->r.er=0->go r=true->(F r=F' r/\(F' r).2.er=0) ∨ Bad ws (F r).2 (F' r).2) (hg:∀ r:Rd,aa ws r.nx->r.er=0->go r=go' r) (hb:∀ r:Rd,r.er≠0->r.nx=ws.len->go r=false) (hb':∀ q:Rd,q.er≠0->go' q=false) (sq:SqOK ws go F) (sq':SqOK ws go' F'):∀ (n:Nat) (r:Rd) (d:D),aa ws r.nx->r.er=0->left ws r<=n->(aj go F ws d r=aj go' F' ws d r/\(aj go' F' ws d r).2.er=0) ∨ Bad ws (aj go F ws d r).2 (aj go' F' ws d r).2:=by
 intro n
 induction n using Nat.strongRecOn with
 |ind n ih=>
  intro r d h h0 hl;have e:=hg r h h0
  cases hz:go r with
  |false=>
   left
   rw[bv hz,bv (by rw[<- e,hz])];exact ⟨rfl,h0⟩
  |true=>
   rw[<- cL sq h hz,<- cL sq' (d:=d) h (by rw[<- e,hz])];obtain ⟨u1,u2⟩:=sq.up r h hz;have u3:=da u1 h u2
   rcases hF r h h0 hz with ⟨e1,e2⟩ |⟨b1,b2,b3,b4⟩
   ·rw[e1] at u1 u3 ⊢;exact ih _ (by omega) _ _ u1 e2 (Nat.le_refl _)
   ·right
    rw[bv (hb _ b1 b2),bv (hb' _ (by rw[b3];exact b1))];exact ⟨b1,b2,b3,b4⟩
theorem A6 {ws:D} {go go':Rd->Bool} {F F':Rd->List D × Rd} (hF:∀ r:Rd,aa ws r.nx->r.er=0->go r=true->(F r=F' r/\(F' r).2.er=0) ∨ Bad ws (F r).2 (F' r).2) (hg:∀ r:Rd,aa ws r.nx->r.er=0->go r=go' r) (hb:∀ r:Rd,r.er≠0->r.nx=ws.len->go r=false) (hb':∀ q:Rd,q.er≠0->go' q=false) (sq:SqOK ws go F) (sq':SqOK ws go' F') (d:D):PR ws (fun r=>aj go F ws d r) (fun r=>aj go' F' ws d r):=
 ⟨fun r h h0=>I7 hF hg hb hb' sq sq' _ r d h h0 (Nat.le_refl _),fun r he hn=>by rw[bv (hb r he hn)],fun q hq=>by rw[bv (hb' q hq)],fun r h=>(dz sq d h).1⟩
theorem np {ws:D} (hT:TW ws) {t:ByteArray} (ht:t∈av) {F0 F0':Rd->List D × Rd} (hF:PR ws F0 F0') (sq:SqOK ws (acG t ws) (fun r=>F0 (acR ws t r))) (sq':SqOK ws (wkG t ws) (fun r=>F0' (gx r))) (d:D):PR ws (fun r=>aj (acG t ws) (fun r=>F0 (acR ws t r)) ws d r) (fun r=>aj (wkG t ws) (fun r=>F0' (gx r)) ws d r):=
 A6 (fun r h h0 hg=>by
  have ha:acB ws r.nx t=true:=hg;rw[ju ha];exact hF.ok (gx r) (bx h (cK (cf ht) ha)).1 h0)
  (fun r h h0=>(bU hT ht h h0).symm) (fun r _ hn=>dP (cf ht) hn) (fun q hq=>iA hq) sq sq' d
theorem A7 {ws:D} (hT:TW ws) {en k:Int} (hk:0<k) (hk3:k<3) {F F':Rd->List D × Rd} (hF:PR ws F F') (hfail:∀ r:Rd,aa ws r.nx->r.er=0->pkK ws r.nx≠k->(F r).2=fl ws en 5 r) (sq:SqOK ws (fun r=>decide (pkK ws r.nx=k)) F) (sq':SeOK ws (wmG ws) F'):∀ (n:Nat) (r:Rd) (d:D),aa ws r.nx->r.er=0->left ws r<=n->((aj (fun r=>decide (pkK ws r.nx=k)) F ws d r).1=(cm (wmG ws) F' ws d r).1/\exR ws en cbB (aj (fun r=>decide (pkK ws r.nx=k)) F ws d r).2=muR ws en cbB (cm (wmG ws) F' ws d r).2/\(muR ws en cbB (cm (wmG ws) F' ws d r).2).er=0) ∨ Bad ws (exR ws en cbB (aj (fun r=>decide (pkK ws r.nx=k)) F ws d r).2) (muR ws en cbB (cm (wmG ws) F' ws d r).2):=by
 have hcb:cbB∈av:=by simp [av]
 have gf:∀ r:Rd,r.nx=ws.len->decide (pkK ws r.nx=k)=false:=fun r hn=>decide_eq_false (by rw[iB hn];omega)
 have ge:∀ q:Rd,q.er≠0->wmG ws q=false:=fun q hq=>by unfold wmG;rw[beq_false_of_ne hq];rfl
 have go0:∀ r:Rd,r.er=0->isB ws cbB r=false->wmG ws r=true:=fun r h0 hb=>by unfold wmG;rw[h0,hb];rfl
 intro n
 induction n using Nat.strongRecOn with
 |ind n ih=>
  intro r d h h0 hl;have ea:=bU hT hcb h h0
  by_cases hz:pkK ws r.nx=k
  ·have hb:isB ws cbB r=false:=by
    rw[ea]
    cases ha:acB ws r.nx cbB with
    |false=>rfl
    |true=>have:=hT r.nx _ hcb h.1 ha;omega
   have gd:(fun r:Rd=>decide (pkK ws r.nx=k)) r=true:=decide_eq_true hz;rw[<- cL sq h gd,<- pM sq' (d:=d) h (go0 r h0 hb)];obtain ⟨u1,u2⟩:=sq.up r h gd;have u3:=da u1 h u2
   rcases hF.ok r h h0 with ⟨e1,e2⟩ |⟨b1,b2,b3,b4⟩
   ·rw[e1] at u1 u3 ⊢;exact ih _ (by omega) _ _ u1 e2 (Nat.le_refl _)
   ·right
    have b5:(F' r).2.er≠0:=by rw[b3];exact b1
    rw[bv (gf _ b2),jG (ge _ b5)];simp only[iC (cf hcb) b1 b2,lg b5];exact ⟨b1,b2,b3,b4⟩
  ·have gd:(fun r:Rd=>decide (pkK ws r.nx=k)) r=false:=decide_eq_false hz;rw[bv gd]
   cases hb:isB ws cbB r with
   |true=>
    left
    have gw:wmG ws r=false:=by unfold wmG;rw[hb,Bool.not_true,Bool.and_false]
    rw[jG gw];have e2:muR ws en cbB r=gx r:=if_pos hb;simp only[fZ (ea ▸ hb),e2];exact ⟨trivial,trivial,h0⟩
   |false=>
    right
    rw[<- pM sq' (d:=d) h (go0 r h0 hb)];have ef:=hfail r h h0 hz;have b:=fJ (ws:=ws) (en:=en) (e:=5) (by decide) h0;have hB:Bad ws (fl ws en 5 r) (F' r).2:=by
     rcases hF.ok r h h0 with ⟨e1,e2⟩ |hb2
     ·rw[<- e1,ef] at e2;exact absurd e2 b.1
     ·rw[ef] at hb2;exact hb2
    have b5:(F' r).2.er≠0:=by rw[hB.2.2.1];exact hB.1
    rw[jG (ge _ b5)];simp only[im (ea ▸ hb),lg b5];exact hB
theorem A8 {P P':PB} {en:Int} {ws:D} (hT:TW ws) (hp:∀ dp,PR ws (P en ws dp) (P' en ws dp)) (hPa:∀ dp,PbOK ws (P en ws dp)) (dp:Int):PR ws (blF P en ws dp) (aQ P' en ws dp):=by
 have ho:obB∈av:=by simp [av]
 have hc:cbB∈av:=by simp [av]
 have key:PR ws (fun r=>((P en ws (dp+1) (exR ws en obB r)).1,exR ws en cbB (P en ws (dp+1) (exR ws en obB r)).2)) (fun r=>((P' en ws (dp+1) (muR ws en obB r)).1,muR ws en cbB (P' en ws (dp+1) (muR ws en obB r)).2)):=
  PR.bind (fK hT en ho) (fun _=>PR.bind (hp (dp+1)) (f2:=fun d r=>(d,exR ws en cbB r)) (g2:=fun d r=>(d,muR ws en cbB r)) (fun d=>PR.bind (fK hT en hc) (f2:=fun _ r=>(d,r)) (g2:=fun _ r=>(d,r)) (fun _=>PR.pure d)))
 refine ⟨fun r h h0=>?_,fun r hr hn=>?_,fun q hq=>?_,fun r h=>(gc hPa h).2.2.2.1⟩
 ·unfold blF aQ;rw[bU hT ho h h0]
  by_cases hx:acB ws r.nx obB=true/\24<=dp
  ·right
   rw[if_pos hx];have en1:neR ws en obB dp r=fl ws en 6 r:=if_pos hx;have b:=fJ (ws:=ws) (en:=en) (e:=6) (by decide) h0;simp only[en1,(hp (dp+1)).fb _ b.1 b.2.1,iC (cf hc) b.1 b.2.1];exact b
  ·rw[if_neg hx];have en1:neR ws en obB dp r=exR ws en obB r:=if_neg hx;rw[en1];exact key.ok r h h0
 ·have en1:neR ws en obB dp r=exR ws en obB r:=if_neg (fun hx=>by rw[dP (cf ho) hn] at hx;exact Bool.false_ne_true hx.1);unfold blF;rw[en1];exact key.fb r hr hn
 ·unfold aQ;rw[if_neg (by rw[iA hq];exact fun hx=>Bool.false_ne_true hx.1)];exact key.gb q hq
theorem I8 {P P':PB} {en:Int} {ws:D} (hT:TW ws) (hp:∀ dp,PR ws (P en ws dp) (P' en ws dp)) (hPa:∀ dp,PbOK ws (P en ws dp)) (dp:Int):(∀ n:ByteArray,PR ws (fun r=>(Am.row ⟨n,nmS ws (exR ws en opB r),(blF P en ws dp (exR ws en clB (nmR ws en (exR ws en opB r)))).1⟩,(blF P en ws dp (exR ws en clB (nmR ws en (exR ws en opB r)))).2)) (fun r=>(Am.row ⟨n,wnS ws (muR ws en opB r),(aQ P' en ws dp (muR ws en clB (wnR ws en 1 (muR ws en opB r)))).1⟩,(aQ P' en ws dp (muR ws en clB (wnR ws en 1 (muR ws en opB r)))).2)))/\PR ws (amF P en ws dp) (wmF P' en ws dp):=by
 have ho:opB∈av:=by simp [av]
 have hc:clB∈av:=by simp [av]
 have h1:∀ n:ByteArray,PR ws (fun r=>(Am.row ⟨n,nmS ws (exR ws en opB r),(blF P en ws dp (exR ws en clB (nmR ws en (exR ws en opB r)))).1⟩,(blF P en ws dp (exR ws en clB (nmR ws en (exR ws en opB r)))).2)) (fun r=>(Am.row ⟨n,wnS ws (muR ws en opB r),(aQ P' en ws dp (muR ws en clB (wnR ws en 1 (muR ws en opB r)))).1⟩,(aQ P' en ws dp (muR ws en clB (wnR ws en 1 (muR ws en opB r)))).2)):=fun n=>
  PR.bind (fK hT en ho) (fun _=>PR.bind (iE en) (f2:=fun v r=>(Am.row ⟨n,v,(blF P en ws dp (exR ws en clB r)).1⟩,(blF P en ws dp (exR ws en clB r)).2)) (g2:=fun v r=>(Am.row ⟨n,v,(aQ P' en ws dp (muR ws en clB r)).1⟩,(aQ P' en ws dp (muR ws en clB r)).2)) (fun v=>PR.bind (fK hT en hc) (fun _=>PR.bind (A8 hT hp hPa dp) (f2:=fun b r=>(Am.row ⟨n,v,b⟩,r)) (g2:=fun b r=>(Am.row ⟨n,v,b⟩,r)) (fun b=>PR.pure _))))
 exact ⟨h1,PR.bind (iE en) h1⟩
theorem I9 {P P':PB} {en:Int} {ws:D} (hT:TW ws) (hp:∀ dp,PR ws (P en ws dp) (P' en ws dp)) (hPa:∀ en ws dp,PbOK ws (P en ws dp)) (hPa':∀ en ws dp,PbOK ws (P' en ws dp)) (hPe:∀ en ws dp r,(P' en ws dp r).2.er=0->r.er=0) (dp:Int):PR ws (fun r=>((aj (amG ws) (amF P en ws dp) ws (.l [(amF P en ws dp r).1]) (amF P en ws dp r).2).1,exR ws en cbB (aj (amG ws) (amF P en ws dp) ws (.l [(amF P en ws dp r).1]) (amF P en ws dp r).2).2)) (fun r=>((wmL P' en ws dp (.l []) r).1,muR ws en cbB (wmL P' en ws dp (.l []) r).2)):=by
 have hcb:cbB∈av:=by simp [av]
 obtain ⟨hA,hB⟩:=I8 hT hp (fun dp=>hPa en ws dp) dp;have hfail:∀ r:Rd,aa ws r.nx->r.er=0->pkK ws r.nx≠1->(amF P en ws dp r).2=fl ws en 5 r:=fun r h h0 hk=>by
  have e:nmR ws en r=fl ws en 5 r:=if_neg hk;have b:=fJ (ws:=ws) (en:=en) (e:=5) (by decide) h0;have:=(hA (nmS ws r)).fb (fl ws en 5 r) b.1 b.2.1;rw[<- e] at this ⊢;exact this
 have gE:∀ q:Rd,q.er≠0->wmL P' en ws dp (.l []) q=(.l [],q):=fun q hq=>Ay (.inl hq)
 refine ⟨fun r h h0=>?_,fun r hr hn=>?_,fun q hq=>?_,fun r h=>?_⟩
 ·have eL:wmL P' en ws dp (.l []) r=cm (wmG ws) (wmF P' en ws dp) ws (.l [(wmF P' en ws dp r).1]) (wmF P' en ws dp r).2:=(if_pos (show (D.l []).len=0 from rfl)).trans (if_pos h0);simp only[eL];have u:=hB.up r h
  rcases hB.ok r h h0 with ⟨e1,e2⟩ |⟨b1,b2,b3,b4⟩
  ·rw[e1] at u ⊢
   rcases A7 hT (en:=en) (k:=1) (by decide) (by decide) hB hfail (mJ (fun dp=>hPa en ws dp) dp) (pP (fun dp=>hPa' en ws dp) hPe dp) _ (wmF P' en ws dp r).2 (.l [(wmF P' en ws dp r).1]) u e2 (Nat.le_refl _) with ⟨c1,c2,c3⟩ |c
   ·exact .inl ⟨Prod.ext c1 c2,c3⟩
   ·exact .inr c
  ·right
   have b5:(wmF P' en ws dp r).2.er≠0:=by rw[b3];exact b1
   have g1:amG ws (amF P en ws dp r).2=false:=decide_eq_false (by rw[iB b2];decide);have g2:wmG ws (wmF P' en ws dp r).2=false:=by unfold wmG;rw[beq_false_of_ne b5];rfl
   rw[bv g1,jG g2];simp only[iC (cf hcb) b1 b2,lg b5];exact ⟨b1,b2,b3,b4⟩
 ·have e:=hB.fb r hr hn;have g1:amG ws (amF P en ws dp r).2=false:=decide_eq_false (by rw[e,iB hn];decide);show exR ws en cbB (aj (amG ws) (amF P en ws dp) ws (.l [(amF P en ws dp r).1]) (amF P en ws dp r).2).2=r;rw[bv g1];show exR ws en cbB (amF P en ws dp r).2=r;rw[e];exact iC (cf hcb) hr hn
 ·simp only[gE q hq];exact lg hq
 ·have u:=hB.up r h;exact (a9 en (dz (mJ (fun dp=>hPa en ws dp) dp) (.l [(amF P en ws dp r).1]) u).1 (cf hcb)).1
theorem Ja {P P':PB} {en:Int} {ws:D} (hT:TW ws) (hp:∀ dp,PR ws (P en ws dp) (P' en ws dp)) (hPa:∀ en ws dp,PbOK ws (P en ws dp)) (hPa':∀ en ws dp,PbOK ws (P' en ws dp)) (hPe:∀ en ws dp r,(P' en ws dp r).2.er=0->r.er=0) (dp:Int):PR ws (stH P en ws dp) (wtH P' en ws dp):=by
 have hB:=fun dp=>A8 hT hp (fun dp=>hPa en ws dp) dp
 have hE:∀ {t:ByteArray},t∈av->PR ws (fun r=>((),exR ws en t r)) (fun r=>((),muR ws en t r)):=fun ht=>fK hT en ht
 have hM:=tq hT en 0;have hC:=I6 hT en;have hN:=iE (ws:=ws) en;have cS:∀ s:St,PR ws (fun r=>(s,r)) (fun r=>(s,r)):=fun s=>PR.pure s
 have aF:PR ws (fun x=>((⟨2,ByteArray.empty,ByteArray.empty,X00,cdC ws en x,(blF P en ws dp (cdR ws en x)).1,(if acB ws (blF P en ws dp (cdR ws en x)).2.nx kwL=true then blF P en ws dp (acR ws kwL (blF P en ws dp (cdR ws en x)).2) else (.l [],acR ws kwL (blF P en ws dp (cdR ws en x)).2)).1,.l []⟩:St),(if acB ws (blF P en ws dp (cdR ws en x)).2.nx kwL=true then blF P en ws dp (acR ws kwL (blF P en ws dp (cdR ws en x)).2) else (.l [],acR ws kwL (blF P en ws dp (cdR ws en x)).2)).2)) (fun x=>((⟨2,ByteArray.empty,ByteArray.empty,X00,wcC ws en x,(aQ P' en ws dp (wcR ws en x)).1,(if isB ws kwL (aQ P' en ws dp (wcR ws en x)).2=true then aQ P' en ws dp (gx (aQ P' en ws dp (wcR ws en x)).2) else (.l [],(aQ P' en ws dp (wcR ws en x)).2)).1,.l []⟩:St),(if isB ws kwL (aQ P' en ws dp (wcR ws en x)).2=true then aQ P' en ws dp (gx (aQ P' en ws dp (wcR ws en x)).2) else (.l [],(aQ P' en ws dp (wcR ws en x)).2)).2)):=
  PR.bind hC (fun c=>PR.bind (hB dp) (fun b=>PR.bind (PR.kw2 hT (t:=kwL) (by simp [av]) (hB dp) (PR.pure (.l []))) (f2:=fun e r=>((⟨2,ByteArray.empty,ByteArray.empty,X00,c,b,e,.l []⟩:St),r)) (g2:=fun e r=>((⟨2,ByteArray.empty,ByteArray.empty,X00,c,b,e,.l []⟩:St),r)) (fun e=>PR.pure _)))
 have aW:PR ws (fun x=>((⟨3,ByteArray.empty,ByteArray.empty,X00,cdC ws en x,(blF P en ws dp (cdR ws en x)).1,.l [],.l []⟩:St),(blF P en ws dp (cdR ws en x)).2)) (fun x=>((⟨3,ByteArray.empty,ByteArray.empty,X00,wcC ws en x,(aQ P' en ws dp (wcR ws en x)).1,.l [],.l []⟩:St),(aQ P' en ws dp (wcR ws en x)).2)):=
  PR.bind hC (fun c=>PR.bind (hB dp) (f2:=fun b r=>((⟨3,ByteArray.empty,ByteArray.empty,X00,c,b,.l [],.l []⟩:St),r)) (g2:=fun b r=>((⟨3,ByteArray.empty,ByteArray.empty,X00,c,b,.l [],.l []⟩:St),r)) (fun b=>PR.pure _))
 have aS:=PR.bind hN (fun n=>PR.bind (hE (t:=doB) (by simp [av])) (fun _=>PR.bind hN (fun t=>PR.bind (hE (t:=opB) (by simp [av])) (fun _=>PR.bind hM (fun e=>PR.bind (hE (t:=clB) (by simp [av])) (fun _=>PR.bind (hE (t:=seB) (by simp [av])) (fun _=>cS ⟨4,n,t,e,C00,.l [],.l [],.l []⟩)))))));have aR:=PR.bind hN (fun n=>PR.bind (hE (t:=obB) (by simp [av])) (fun _=>PR.bind (I9 hT hp hPa hPa' hPe dp) (fun a=>cS ⟨5,n,ByteArray.empty,X00,C00,.l [],.l [],a⟩)));have aA:=PR.bind hC (fun c=>PR.bind (hE (t:=seB) (by simp [av])) (fun _=>cS ⟨6,ByteArray.empty,ByteArray.empty,X00,c,.l [],.l [],.l []⟩));have aI:=PR.bind hN (fun n=>PR.bind (hE (t:=seB) (by simp [av])) (fun _=>cS ⟨7,n,ByteArray.empty,X00,C00,.l [],.l [],.l []⟩));have aG:=PR.bind hN (fun n=>PR.bind (hE (t:=eqB) (by simp [av])) (fun _=>PR.bind hM (fun e=>PR.bind (hE (t:=seB) (by simp [av])) (fun _=>cS ⟨1,n,ByteArray.empty,e,C00,.l [],.l [],.l []⟩))));have key:=PR.kw hT en (t:=kwF) (by simp [av]) aF (PR.kw hT en (t:=kwW) (by simp [av]) aW (PR.kw hT en (t:=kwS) (by simp [av]) aS (PR.kw hT en (t:=kwR) (by simp [av]) aR (PR.kw hT en (t:=kwA) (by simp [av]) aA (PR.kw hT en (t:=kwI) (by simp [av]) aI aG)))));have k2:PR ws (stF P en ws dp) (wtF P' en ws dp):=key;exact PR.bind k2 (f2:=fun s r=>(s.row,r)) (g2:=fun s r=>(s.row,r)) (fun s=>PR.pure s.row)
theorem Jb {ws:D} (hT:TW ws) {r:Rd} (h:aa ws r.nx) (h0:r.er=0):stG ws r=wtG ws r:=by
 unfold stG wtG;rw[bU hT (t:=kwF) (by simp [av]) h h0,bU hT (t:=kwW) (by simp [av]) h h0,bU hT (t:=kwS) (by simp [av]) h h0,bU hT (t:=kwR) (by simp [av]) h h0,bU hT (t:=kwA) (by simp [av]) h h0,bU hT (t:=kwI) (by simp [av]) h h0,no (by decide) h0]
theorem Jc {ws:D} {r:Rd} (hn:r.nx=ws.len):stG ws r=false:=by
 unfold stG;rw[dP (by decide) hn,dP (by decide) hn,dP (by decide) hn,dP (by decide) hn,dP (by decide) hn,dP (by decide) hn,decide_eq_false (by rw[iB hn];decide)];rfl
theorem Jd {P P':PB} {en:Int} {ws:D} (hT:TW ws) (hp:∀ dp,PR ws (P en ws dp) (P' en ws dp)) (hPa:∀ en ws dp,PbOK ws (P en ws dp)) (hPa':∀ en ws dp,PbOK ws (P' en ws dp)) (hPe:∀ en ws dp r,(P' en ws dp r).2.er=0->r.er=0) (dp:Int):PR ws (smA P en ws dp) (wtA P' en ws dp):=
 A6 (fun r h h0 _=>(Ja hT hp hPa hPa' hPe dp).ok r h h0) (fun r h h0=>Jb hT h h0) (fun _ _ hn=>Jc hn) (fun _ hq=>pQ hq) (pm (hPa en ws) dp) (kY (hPa' en ws) hPe dp) (.l [])
theorem A9 {en:Int} {ws:D} (hT:TW ws):∀ (m:Nat) (dp:Int),PR ws (stR m en ws dp) (wtR m en ws dp)
 | 0,_=>⟨fun _ _ h=>.inl ⟨rfl,h⟩,fun _ _ _=>rfl,fun _ _=>rfl,fun _ h=>h⟩
 |m+1,dp=>Jd hT (A9 hT m) (pn m) (kZ m) (nl m) dp
theorem Je {ws:D} (hT:TW ws) (en dp:Int):PR ws (stX en ws dp) (wtX en ws dp):=by
 unfold stX wtX;exact A9 hT 1000001 dp
theorem PR.congr {α:Type} {ws:D} {f g f' g':Rd -> α × Rd} (h:PR ws f g) (e:∀ r,f' r=f r) (e':∀ r,g' r=g r):PR ws f' g':=by
 rw[funext e,funext e'];exact h
theorem Ba {ws:D} (hT:TW ws) (en:Int) {r:Rd} (h:aa ws r.nx) (h0:r.er=0):(ixR ws sgK r 3<0->ckR ws en r=fl ws en 5 r)/\(¬ ixR ws sgK r 3<0->ckK ws r=ixR ws sgK r 3/\ckR ws en r=gx r):=by
 have e0:=bU hT (t:=kwB) (by simp [av]) h h0;have e1:=bU hT (t:=kwD) (by simp [av]) h h0;have e2:=bU hT (t:=kwY) (by simp [av]) h h0;have hx:ixR ws sgK r 3=if isB ws kwY r=true then ((2:Nat):Int) else if isB ws kwD r=true then ((1:Nat):Int) else if isB ws kwB r=true then ((0:Nat):Int) else -1:=rfl
 rw[e0,e1,e2] at hx
 by_cases k0:acB ws r.nx kwB=true
 ·have k:((pkS ws r.nx).toList==kwB.toList)=true:=k0;have o1:acB ws r.nx kwD=false:=by show ((pkS ws r.nx).toList==kwD.toList)=false;rw[eq_of_beq k];decide +kernel
  have o2:acB ws r.nx kwY=false:=by show ((pkS ws r.nx).toList==kwY.toList)=false;rw[eq_of_beq k];decide +kernel
  rw[k0,o1,o2] at hx;simp only[Bool.false_eq_true,if_false,if_true] at hx;have a1:ckK ws r=0:=if_pos k0;have a2:ckR ws en r=acR ws kwB r:=if_pos k0;rw[hx,a1,a2,ju k0];exact ⟨fun hh=>absurd hh (by decide),fun _=>⟨rfl,rfl⟩⟩
 ·have n0:=Bool.eq_false_iff.2 k0
  by_cases k1:acB ws r.nx kwD=true
  ·have k:((pkS ws r.nx).toList==kwD.toList)=true:=k1;have o2:acB ws r.nx kwY=false:=by show ((pkS ws r.nx).toList==kwY.toList)=false;rw[eq_of_beq k];decide +kernel
   rw[n0,k1,o2] at hx;simp only[Bool.false_eq_true,if_false,if_true] at hx;have a1:ckK ws r=1:=by unfold ckK;rw[if_neg k0,dI n0,if_pos k1]
   have a2:ckR ws en r=acR ws kwD r:=by unfold ckR;rw[if_neg k0,dI n0,if_pos k1]
   rw[hx,a1,a2,ju k1];exact ⟨fun hh=>absurd hh (by decide),fun _=>⟨rfl,rfl⟩⟩
  ·have n1:=Bool.eq_false_iff.2 k1;have a1:ckK ws r=2:=by unfold ckK;rw[if_neg k0,dI n0,if_neg k1]
   have a2:ckR ws en r=exR ws en kwY r:=by unfold ckR;rw[if_neg k0,dI n0,if_neg k1,dI n1]
   by_cases k2:acB ws r.nx kwY=true
   ·rw[n0,n1,k2] at hx;simp only[Bool.false_eq_true,if_false,if_true] at hx;rw[hx,a1,a2,fZ k2];exact ⟨fun hh=>absurd hh (by decide),fun _=>⟨rfl,rfl⟩⟩
   ·have n2:=Bool.eq_false_iff.2 k2;rw[n0,n1,n2] at hx;simp only[Bool.false_eq_true,if_false,if_true] at hx;rw[hx,a2,im n2];exact ⟨fun _=>rfl,fun hh=>absurd (show (-1:Int)<0 by decide) hh⟩
theorem Jf {ws:D} {en:Int} {r:Rd} (he:r.er≠0) (hn:r.nx=ws.len):ckR ws en r=r:=by
 have n0:acB ws r.nx kwB=false:=dP (by decide) hn;have n1:acB ws r.nx kwD=false:=dP (by decide) hn;unfold ckR;rw[if_neg (by rw[n0];decide),dI n0,if_neg (by rw[n1];decide),dI n1,iC (by decide) he hn]
theorem Jg {ws:D} (hT:TW ws) (en:Int):PR ws (fun r=>(chZ ws en r,chR ws en r)) (fun r=>(wkZ ws en r,wkR ws en r)):=by
 have hE:∀ {t:ByteArray},t∈av->PR ws (fun r=>((),exR ws en t r)) (fun r=>((),muR ws en t r)):=fun ht=>fK hT en ht
 have hN:=iE (ws:=ws) en;have hL:∀ d,PR ws (fun r=>aj (acG coB ws) (tgF ws en) ws d r) (fun r=>aj (wkG coB ws) (wkF ws en) ws d r):=fun d=>
  np hT (t:=coB) (by simp [av]) (F0:=fun r=>([.s (nmS ws r)],nmR ws en r)) (F0':=fun r=>([.s (wnS ws r)],wnR ws en 1 r)) (PR.bind hN (fun n=>PR.pure ([.s n]:List D))) (pu en) (pR en) d
 have h2:=fun (n:ByteArray) (a:Int)=>PR.bind (tk (ws:=ws) en) (fun z=>PR.bind (hE (t:=kwO) (by simp [av])) (fun _=>PR.bind hN (fun f=>PR.bind (hE (t:=kwT) (by simp [av])) (fun _=>PR.bind hN (fun t=>PR.bind (hE (t:=obB) (by simp [av])) (fun _=>PR.bind hN (fun g=>PR.bind (hL (.l [[.s g]])) (fun d=>PR.bind (hE (t:=cbB) (by simp [av])) (fun _=>PR.bind (hE (t:=seB) (by simp [av])) (fun _=>PR.pure (Ch.mk n a z f t d)))))))))))
 have h1:=fun n:ByteArray=>PR.pick (ws:=ws) (en:=en) (kv:=fun r=>ckK ws r) (kr:=fun r=>ckR ws en r) (kx:=fun q=>ixR ws sgK q 3) (c:=fun q=>decide (ixR ws sgK q 3<0)) (v:=fun q=>Ch.mk n (ixR ws sgK q 3) 0 ByteArray.empty ByteArray.empty (.l []))
  (fun r h h0 hz=>(Ba hT en h h0).2 (of_decide_eq_false hz)) (fun r h h0 hz=>(Ba hT en h h0).1 (of_decide_eq_true hz)) (fun r he hn=>Jf he hn) (fun q hq=>by rw[tr hq];rfl) (fun r h=>(sO en h).2.2.1) (h2 n)
 refine PR.congr (PR.bind hN h1) (fun r=>rfl) (fun r=>?_);unfold wkZ wkR
 by_cases hz:wkK ws en r<0
 ·have hz':decide (ixR ws sgK (wnR ws en 1 r) 3<0)=true:=decide_eq_true hz;rw[if_pos hz,if_pos hz];exact (if_pos hz').symm
 ·have hz':¬ decide (ixR ws sgK (wnR ws en 1 r) 3<0)=true:=fun hx=>hz (of_decide_eq_true hx)
  rw[if_neg hz,if_neg hz];exact (if_neg hz').symm
theorem Jh {ws:D} (hT:TW ws) (en:Int):PR ws (fun r=>(ruZ ws en r,ruR ws en r)) (fun r=>(wuZ ws en r,wuR ws en r)):=by
 have hcb:cbB∈av:=by simp [av]
 have hE:∀ {t:ByteArray},t∈av->PR ws (fun r=>((),exR ws en t r)) (fun r=>((),muR ws en t r)):=fun ht=>fK hT en ht
 have hN:=iE (ws:=ws) en;have hU:=tk (ws:=ws) en;have h1:∀ a:Int,PR ws (fun r=>(([.i a,.s (nmS ws r),.i (nuN ws (nmR ws en r))]:List D),exR ws en seB (nuR ws en (nmR ws en r)))) (fun r=>(([.i a,.s (wnS ws r),.i (wnN ws (wnR ws en 1 r))]:List D),muR ws en seB (wnR ws en 2 (wnR ws en 1 r)))):=fun a=>
  PR.bind hN (fun n=>PR.bind hU (fun b=>PR.bind (hE (t:=seB) (by simp [av])) (fun _=>PR.pure ([.i a,.s n,.i b]:List D))))
 have hF:PR ws (mvF ws en) (wuF ws en):=PR.bind hU h1;have hfail:∀ r:Rd,aa ws r.nx->r.er=0->pkK ws r.nx≠2->(mvF ws en r).2=fl ws en 5 r:=fun r h h0 hk=>by
  have e:nuR ws en r=fl ws en 5 r:=if_neg hk;have b:=fJ (ws:=ws) (en:=en) (e:=5) (by decide) h0;have:=(h1 (nuN ws r)).fb (fl ws en 5 r) b.1 b.2.1;rw[<- e] at this ⊢;exact this
 have hM:PR ws (fun r=>((aj (mvG ws) (mvF ws en) ws (.l []) r).1,exR ws en cbB (aj (mvG ws) (mvF ws en) ws (.l []) r).2)) (fun r=>((cm (wmG ws) (wuF ws en) ws (.l []) r).1,muR ws en cbB (cm (wmG ws) (wuF ws en) ws (.l []) r).2)):=by
  refine ⟨fun r h h0=>?_,fun r hr hn=>?_,fun q hq=>?_,fun r h=>?_⟩
  ·rcases A7 hT (en:=en) (k:=2) (by decide) (by decide) hF hfail (mQ en) (pU en) _ r (.l []) h h0 (Nat.le_refl _) with ⟨c1,c2,c3⟩ |c
   ·exact .inl ⟨Prod.ext c1 c2,c3⟩
   ·exact .inr c
  ·have g1:mvG ws r=false:=decide_eq_false (by rw[iB hn];decide);rw[bv g1];exact iC (cf hcb) hr hn
  ·have g2:wmG ws q=false:=by unfold wmG;rw[beq_false_of_ne hq];rfl
   rw[jG g2];exact lg hq
  ·exact (a9 en (dz (mQ en) (.l []) h).1 (cf hcb)).1
 exact PR.bind hN (fun n=>PR.bind (hE (t:=obB) (by simp [av])) (fun _=>PR.bind hM (fun d=>PR.pure (Ru.mk n d))))
theorem Ji {ws:D} (hT:TW ws) (en:Int):PR ws (fun r=>(poZ ws en r,poR ws en r)) (fun r=>(wpZ ws en r,wpR ws en r)):=by
 have hE:∀ {t:ByteArray},t∈av->PR ws (fun r=>((),exR ws en t r)) (fun r=>((),muR ws en t r)):=fun ht=>fK hT en ht
 have hN:=iE (ws:=ws) en;have hL:PR ws (fun r=>aj (acG kwV ws) (vrF ws en) ws (.l []) r) (fun r=>aj (wkG kwV ws) (wvF ws en) ws (.l []) r):=
  np hT (t:=kwV) (by simp [av]) (F0:=fun r=>([.s (nmS ws r)],exR ws en seB (nmR ws en r))) (F0':=fun r=>([.s (wnS ws r)],muR ws en seB (wnR ws en 1 r))) (PR.bind hN (fun n=>PR.bind (hE (t:=seB) (by simp [av])) (fun _=>PR.pure ([.s n]:List D)))) (pw en) (pV en) (.l [])
 exact PR.bind hN (fun n=>PR.bind (hE (t:=obB) (by simp [av])) (fun _=>PR.bind hL (fun v=>PR.bind (Je hT en 0) (fun b=>PR.bind (hE (t:=cbB) (by simp [av])) (fun _=>PR.pure (Po.mk n v b))))))
theorem Jj {ws:D} (en:Int):PR ws (fun r=>((),fiR ws en r)) (fun r=>((),if r.nx<ws.len then ffR ws en 5 r else r)):=by
 refine ⟨fun r h h0=>?_,fun r hr hn=>?_,fun q hq=>?_,fun r h=>?_⟩
 ·by_cases hn:r.nx<ws.len
  ·right
   have e1:fiR ws en r=fl ws en 5 r:=if_pos hn;simp only[e1,if_pos hn];exact fJ (by decide) h0
  ·left
   have e1:fiR ws en r=r:=if_neg hn;simp only[e1,if_neg hn];exact ⟨trivial,h0⟩
 ·exact if_neg (by omega)
 ·show (if q.nx<ws.len then ffR ws en 5 q else q)=q;rw[p7 hq]
  split<;>rfl
 ·show aa ws (fiR ws en r).nx;unfold fiR;split
  ·exact (kH en 5 h).1
  ·exact h
theorem Jk {ws:D} (hT:TW ws) (en:Int):PR ws (fun r=>(((syC ws en r).1,(syU ws en r).1,(syP ws en r).1),syR ws en r)) (fun r=>(((wyC ws en r).1,(wyU ws en r).1,(wyP ws en r).1),wyR ws en r)):=by
 have h0:PR ws (fun r=>syC ws en r) (fun r=>wyC ws en r):=
  np hT (t:=kwC) (by simp [av]) (F0:=fun r=>((chZ ws en r).row,chR ws en r)) (F0':=fun r=>((wkZ ws en r).row,wkR ws en r)) (PR.bind (Jg hT en) (fun c=>PR.pure c.row)) (px en) (pW en) (.l [])
 have h1:PR ws (fun r=>aj (acG kwU ws) (usF ws en) ws (.l []) r) (fun r=>aj (wkG kwU ws) (eY ws en) ws (.l []) r):=
  np hT (t:=kwU) (by simp [av]) (F0:=fun r=>((ruZ ws en r).row,ruR ws en r)) (F0':=fun r=>((wuZ ws en r).row,wuR ws en r)) (PR.bind (Jh hT en) (fun c=>PR.pure c.row)) (py en) (pX en) (.l [])
 have h2:PR ws (fun r=>aj (acG kwP ws) (psF ws en) ws (.l []) r) (fun r=>aj (wkG kwP ws) (dO ws en) ws (.l []) r):=
  np hT (t:=kwP) (by simp [av]) (F0:=fun r=>((poZ ws en r).row,poR ws en r)) (F0':=fun r=>((wpZ ws en r).row,wpR ws en r)) (PR.bind (Ji hT en) (fun c=>PR.pure c.row)) (pz en) (lf en) (.l [])
 exact PR.bind h0 (fun c=>PR.bind h1 (fun u=>PR.bind h2 (fun p=>PR.bind (Jj en) (fun _=>PR.pure (c,u,p)))))
theorem Jl {s:ByteArray} (hT:TW (paW s)):paC s=rpC s/\paU s=rpU s/\paP s=rpP s/\paA s=rpA s/\paE s=rpE s:=by
 by_cases hl:(ai s).2.2=0
 ·rcases (Jk hT ((s.size:Nat):Int)).ok (mR 0 0 0) (sU s) rfl with ⟨e1,e2⟩ |⟨b1,b2,b3,b4⟩
  ·obtain ⟨ev,er⟩:=Prod.mk.inj e1;obtain ⟨ec,ev2⟩:=Prod.mk.inj ev;obtain ⟨eu,ep⟩:=Prod.mk.inj ev2;have r0:(rpY s).er=0:=e2;have p0:paY s=rpY s:=er;obtain ⟨a1,a2,a3,a4,a5⟩:=pZ hl rfl r0;have o:paO s=true:=by simp only[paO,decide_eq_true hl,p0,decide_eq_true r0,Bool.and_self]
   rw[a1,a2,a3,a4,a5];simp only[paC,paU,paP,paA,paE,o,if_true,if_pos hl,p0,r0];exact ⟨ec,eu,ep,by (repeat' (with_reducible apply And.intro))<;>trivial⟩
  ·have b1:(paY s).er≠0:=b1;have b3:(rpY s).er=(paY s).er:=b3;have b4:(rpY s).pa=(paY s).pa:=b4;obtain ⟨a1,a2,a3,a4,a5⟩:=pY hl rfl (by rw[b3];exact b1);have o:paO s=false:=by simp only[paO,decide_eq_false b1,Bool.and_false]
   rw[a1,a2,a3,a4,a5,b3,b4];simp only[paC,paU,paP,paA,paE,o,Bool.false_eq_true,if_false,if_pos hl,if_neg b1,and_self]
 ·obtain ⟨a1,a2,a3,a4,a5⟩:=AZ hl;have o:paO s=false:=by simp only[paO,decide_eq_false hl,Bool.false_and]
  rw[a1,a2,a3,a4,a5];simp only[paC,paU,paP,paA,paE,o,Bool.false_eq_true,if_false,if_neg hl,and_self]
def tu (t:Tok):Prop:=∀ w∈av,t.text.toList=w.toList->3<=t.kind
theorem Jm:∀ w∈av,bG (w.data.toList.headD 0)=true->et w.data.toList=true:=by decide
theorem Jn:∀ w∈av,ay (w.data.toList.headD 0)=false:=by decide
theorem Jo {r:List UInt8} {n:Nat} (h:1<=n):(r.take n).headD 0=r.headD 0:=by
 cases r with
 |nil=>simp
 |cons a t=>
  obtain ⟨m,rfl⟩:∃ m,n=m+1:=⟨n-1,by omega⟩;rfl
theorem Jp {r:List UInt8} {k:Int} {n:Nat} {m:Int} (h0:0<r.length) (h:bb r = .ok (k,n,m)) {w:ByteArray} (hw:w∈av) (hx:r.take n=w.data.toList):3<=k:=by
 obtain ⟨h1,_⟩:=gr h0 h;have hh:r.headD 0=w.data.toList.headD 0:=by rw[<- hx,Jo h1]
 unfold bb at h
 by_cases hl:bG (r.headD 0)=true
 ·rw[if_pos hl] at h;unfold cQ at h
  split at h
  ·cases h
  ·simp only[Except.ok.injEq,Prod.mk.injEq] at h;obtain ⟨a,b,c⟩:=h;rw[b,hx,Jm w hw (by rw[<- hh];exact hl),if_pos rfl] at a;omega
 ·rw[if_neg hl] at h;have hd:ay (r.headD 0)=false:=by rw[hh];exact Jn w hw
  rw[if_neg (by rw[hd];decide)] at h;unfold dY at h
  split at h
  ·cases h
  ·simp only[Except.ok.injEq,Prod.mk.injEq] at h;omega
theorem Jq (s:ByteArray) (p n:Nat):(s.extract p (p+n)).data.toList=(s.data.toList.drop p).take n:=by
 rw[ByteArray.data_extract,Array.toList_extract,List.extract_eq_take_drop,Nat.add_sub_cancel_left]
theorem tv (s:ByteArray):∀ (f p:Nat) (acc l:List Tok),(∀ t∈acc,tu t)->bI s f p acc = .ok l->∀ t∈l,tu t
 | 0,p,acc,l,h,e=>by
   obtain rfl:acc=l:=by unfold bI at e;exact Except.ok.inj e
   exact h
 |f+1,p,acc,l,h,e=>by
  unfold bI at e
  split at e
  ·rename_i hp
   split at e
   ·exact tv s f (p+1) acc l h e
   ·split at e
    ·cases e
    ·rename_i k n m hw;refine tv s f (p+n) _ l (fun t ht=>?_) e
     rcases List.mem_append.1 ht with ht |ht
     ·exact h t ht
     ·obtain rfl:=List.mem_singleton.1 ht;intro w hw2 hx;have hr:0<(s.data.toList.drop p).length:=by
       have e2:s.data.toList.length=s.size:=Array.length_toList;rw[List.length_drop];omega
      refine Jp hr hw hw2 ?_
      have hx:(s.extract p (p+n)).toList=w.toList:=hx;rw[ByteArray.toList_eq,ByteArray.toList_eq,Jq] at hx;exact hx
  ·obtain rfl:acc=l:=Except.ok.inj e;exact h
theorem Jr (s:ByteArray):TW (paW s):=by
 have hall:∀ t∈(ai s).1,tu t:=by
  unfold ai;split
  ·intro t ht;cases ht
  ·rename_i acc he;split
   ·intro t ht;cases ht
   ·exact tv s s.size 0 [] acc (fun t ht=>by cases ht) he
 intro nx w hw h0 ha;have hl:=cK (cf hw) ha;have e:(paW s).len=(ai s).1.length:=cV _;have hi:nx.toNat<(ai s).1.length:=by omega
 have hg:(ai s).1[nx.toNat]? = some (ai s).1[nx.toNat]:=List.getElem?_eq_getElem hi;have hs:pkS (paW s) nx=((ai s).1[nx.toNat]).text:=by
  rw[(fC hl).1];show ((bh (ai s).1).el nx.toNat 1).toS=_;rw[jC hg];rfl
 have hk:pkK (paW s) nx=((ai s).1[nx.toNat]).kind:=by
  rw[(fC hl).2];show ((bh (ai s).1).el nx.toNat 0).toI=_;rw[jC hg];rfl
 have ha:((pkS (paW s) nx).toList==w.toList)=true:=ha;rw[hk];exact hall _ (List.getElem_mem hi) w hw (by rw[<- hs];exact eq_of_beq ha)
theorem p8 (s:ByteArray):paC s=rpC s/\paU s=rpU s/\paP s=rpP s/\paA s=rpA s/\paE s=rpE s:=Jl (Jr s)
end Go.Proofs.YtbhbjhejkamlnaaGreat.Sx.Z
