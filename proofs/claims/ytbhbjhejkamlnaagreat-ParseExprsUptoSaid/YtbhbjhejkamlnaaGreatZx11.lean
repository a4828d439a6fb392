import Derived.Deep.LoopGhost
import Derived.Test.YtbhbjhejkamlnaaGreatZx10
namespace Go.Proofs.YtbhbjhejkamlnaaGreat.Sx
open Go.RowKit
inductive Ex
 |normal
 |exit (id:Nat)
 |ret
structure Inv where
 ι:Type
 st:St -> ι -> St
 pre:St -> ι -> Prop
 μ : ι -> Nat
structure Ann where
 C:Nat->Cons
 inv:Nat->Option Inv
 cut:Nat->Option Inv
def mg:Code->Nat
 | .region id _ _=>id
 | .seq a _=>mg a
 | .block _ c=>mg c
 | .loop c=>mg c
 |_=>0
def eN:List Prop->Prop->Prop
 | [],q=>q
 |p::r,q=>p/\eN r q
theorem ey {q:Prop}:∀ {l:List Prop},eN l q↔All l/\q
 | []=>by simp [eN,All]
 |p::r=>by simp [eN,All,ey (l:=r),and_assoc]
def xd (tt:TT) (C:Cons) (ops:Array Oper) (d:DIn):List Oper->Nat->List Rec->List (List Nat)
 | [],_,recs=>recs.map fun r=>r.heap.map (·.1)
 |o::r,i,recs=>match i4 tt C ops (d.hpv recs i) (d.tmv recs i) (d.s.nx+8*i) o.guard o.op with
  |some q=>xd tt C ops d r (i+1) (recs++[q])
  |none=>[]
def xf (tt:TT) (C:Cons) (nt:Nat) (ops:Array Oper) (draw:Bool) (s:St):Option (List Prop × St):=
 if draw then wE tt C nt ops.toList (xd tt C ops {s:=s,ms:=cI ops.toList [],gs:=[],l:=ops.toList} ops.toList 0 []) s
 else n9 tt C nt ops ops.toList s
def oq (l:List Oper) (ls:List Bool):List Nat:=
 (List.range l.length).filter fun i=>!ls.getD i true&&((l[i]?).map fun o=>o.after.toList.all fun e=>!Region.binds .any e ||ls.getD e.on false).getD false
theorem ot (ops:Array Oper) (ls:List Bool):Region.ready .any ops ls.toArray=oq ops.toList ls:=by
 unfold Region.ready oq;rw[show ops.size=ops.toList.length from rfl]
 congr 1
 funext i
 congr 1
 ·simp [Array.getD_eq_getD_getElem?,List.getD_eq_getElem?_getD]
 ·rw[Array.getElem?_toList]
  cases ops[i]? with
  |none=>rfl
  |some o=>simp [<- Array.all_toList,Array.getD_eq_getD_getElem?,List.getD_eq_getElem?_getD]
def rC:List Nat->(Nat->Prop)->Prop
 | [],_=>True
 |i::r,f=>f i/\rC r f
theorem xg {f:Nat->Prop}:∀ {l:List Nat},rC l f->∀ i∈l,f i
 | [],_,i,h=>by cases h
 |j::r,h,i,hi=>by
  rcases List.mem_cons.1 hi with rfl |hi
  ·exact h.1
  ·exact xg h.2 i hi
def mh (tt:TT) (C:Cons) (nt:Nat) (ops:Array Oper) (K:St->Prop):Nat->List Bool->St->Prop
 | 0,ls,s=>(match oq ops.toList ls with | []=>K {s with tm:=gq s.tm} |_=>False)
 |f+1,ls,s=>(match oq ops.toList ls with
  | []=>K {s with tm:=gq s.tm}
  |r=>rC r fun i=>match ops.toList[i]? with
   |some o=>(match i4 tt C ops s.hp s.tm s.nx o.guard o.op with
    |some q=>if dOK nt s.tm o.dst q.sv&&i5 s.nx q.nw then eN q.vc (mh tt C nt ops K f (ls.set i true) {tm:=vY o.dst q.sv s.tm,hp:=q.st++(q.nw++s.hp),nx:=s.nx+8}) else False
    |none=>False)
   |none=>False)
theorem xh {P:Program} {tt:TT} (htt:aP P tt) {C:Cons} (hC:cZ P C) {nt:Nat} {ops:Array Oper} {w0:W0} {K:St->Prop} {Q:Exit->Act->World->Prop} (hQ:∀ s' ρ' a' w',K s'->SH w0 nt s' ρ' a' w'->Q .normal a' w'):∀ (f:Nat) (ls:List Bool) (s:St),mh tt C nt ops K f ls s ->
 ∀ ρ a w,SH w0 nt s ρ a w->wpAny P .any ops Q f ls.toArray a w
 | 0,ls,s,h,ρ,a,w,hs=>by
   unfold mh at h
   split at h
   ·rename_i hr;exact ⟨by rw[ot];exact hr,hQ _ ρ a w h ⟨q8 hs.slots,hs.mem,hs.fresh⟩⟩
   ·exact h.elim
 |f+1,ls,s,h,ρ,a,w,hs=>by
  unfold mh at h
  split at h
  ·rename_i hr;refine ⟨fun _=>hQ _ ρ a w h ⟨q8 hs.slots,hs.mem,hs.fresh⟩,fun i hi=>?_⟩;rw[ot,hr] at hi
   cases hi
  ·rename_i hr;refine ⟨fun h0=>?_,fun i hi=>?_⟩
   ·rw[ot] at h0;exact absurd h0 hr
   ·rw[ot] at hi;have hi2:=xg h i hi;rw[Array.getElem?_toList] at hi2;unfold wpOp
    split at hi2
    ·rename_i o ho;rw[ho];dsimp only
     split at hi2
     ·rename_i q hq
      split at hi2
      ·rename_i hok;simp only[Bool.and_eq_true] at hok;rw[ey] at hi2;have hnw:=q7 hok.2;have hfr:∀ id x,ad q.nw id=some x -> ρ id=none:=fun id x hx=>hs.fresh id (hnw id x hx).1
       have hst:gW s.hp q.nw q.st=true:=(l4 (K:=fun _ _=>True) (Q:=Q) htt hC hq hi2.1 hs.slots hs.mem hfr (fun _ _ _ _ _=>trivial)).1;have:=(l4 (K:=wpAny P .any ops Q f (ls.set i true).toArray) (Q:=Q) htt hC hq hi2.1 hs.slots hs.mem hfr (fun ρ' w' v h1 h2=>
        xh htt hC hQ f _ _ hi2.2 ρ' (a.put o.dst v) w' ⟨Fm hs.slots h2.ext hok.1 h1,gZ hs.mem h2 (qV hst) hfr,fun id hid=>by
         have hn:ad q.eff.nw id=none:=by
          cases hl:ad q.nw id with
          |none=>exact hl
          |some x=>have:=(hnw id x hl).2;exact absurd hid (by show ¬ s.nx+8<=id;omega)
         rw[h2.only id hn];exact hs.fresh id (by have:s.nx+8<=id:=hid;omega)⟩)).2
       have e:(ls.set i true).toArray=ls.toArray.setIfInBounds i true:=by simp
       rw[e] at this;split
       ·rename_i hw;rw[if_pos hw] at this;exact this
       ·rename_i hw;rw[if_neg hw] at this;exact this
      ·exact hi2.elim
     ·exact hi2.elim
    ·exact hi2.elim
def dm (δ:List (Nat × Nat)) (j:Nat):Nat:=match ad δ j with |some k=>k |none=>j
def Map.ren (ρ:Map) (δ:List (Nat × Nat)) (N:Nat):Map:={ρ with m:=fun j=>if Nat.blt j N then ρ (dm δ j) else none,cap:=fun j=>ρ.cap (dm δ j)}
def cr (δ:List (Nat × Nat)) (N i j:Nat):Bool:=Nat.beq i (dm δ j)&&Nat.blt j N
theorem eO {δ:List (Nat × Nat)} {N i j:Nat} (h:cr δ N i j=true) (ρ:Map):(ρ.ren δ N) j=ρ i/\(∀ o,(ρ.ren δ N).at j o=ρ.at i o)/\(ρ.ren δ N).blk j=ρ.blk i/\(ρ.ren δ N).off j=ρ.off i/\(ρ.ren δ N).cap j=ρ.cap i:=by
 simp only[cr,Bool.and_eq_true] at h;have h1:=Nat.eq_of_beq_eq_true h.1;have e:(ρ.ren δ N) j=ρ i:=by simp only[Map.ren];rw[if_pos h.2,h1]
 refine ⟨e,?_,?_,?_,by simp only[Map.ren];rw[h1]⟩<;>simp [Map.at,Map.blk,Map.off,e]
def mi (δ:List (Nat × Nat)) (N:Nat):SC->SC->Prop
 | .int k n,.int k' m=>kEq k k'=true/\n.v=m.v
 | .bool b,.bool c=>b.v=c.v
 | .ptr i o,.ptr j q=>cr δ N i j=true/\o.v=q.v
 | .slice i o n,.slice j q m=>cr δ N i j=true/\o.v=q.v/\n.v=m.v
 | .nils,.slice _ _ m=>m.v=0
 | .nils,.nils=>True
 | .raw v,.raw u=>v=u
 | .rows e d,.rows e' d'=>e=e'/\d.rows=d'.rows
 | .nils,.rows _ d=>d.rows=[]
 | .fp e d i j,.fp e' d' i' j'=>e=e'/\d=d'/\i=i'/\j=j'
 | .osl e i lo n,.osl e' j lo' m=>cr δ N i j=true/\e=e'/\lo.v=lo'.v/\n.v=m.v
 | .nils,.osl _ _ _ m=>m.v=0
 | .optr e i a b,.optr e' j a' b'=>cr δ N i j=true/\e=e'/\a=a'/\b=b'
 | .fn g e p o,.fn g' e' p' o'=>g=g'/\e=e'/\p=p'/\o=o'
 | .bm g i,.bm g' j=>cr δ N i j=true/\g=g'
 |_,_=>False
theorem Gw {fz:Fz} {e:TypeId} {d d':D} (h:d.rows=d'.rows) {v:Value} (hv:TRel fz (.slice e) d v):TRel fz (.slice e) d' v:=by
 have hl:d.len=d'.len:=by unfold D.len;rw[h]
 have he:∀ i j,d.el i j=d'.el i j:=fun i j=>by unfold D.el;rw[h]
 cases hv with
 |nil _ _ h0=>exact .nil _ _ (by rw[<- hl];exact h0)
 |empty _ _ a c h0=>exact .empty _ _ a c (by rw[<- hl];exact h0)
 |slice _ _ b o c u hc hcell hrel=>
  rw[hl];exact .slice _ _ b o c u (by rw[<- hl];exact hc) (fun i j hi hj=>hcell i j (by rw[hl];exact hi) hj) (fun i j k hi hk=>by rw[<- he];exact hrel i j k (by rw[hl];exact hi) hk)
theorem xj {δ:List (Nat × Nat)} {N:Nat} {ρ:Map} {x y:SC} {v:Value} (h:mi δ N x y) (hx:aJ ρ x v):aJ (ρ.ren δ N) y v:=by
 unfold mi at h
 split at h
 ·obtain ⟨hk,h⟩:=h;have:=dW hk;subst this;simp only[aJ] at hx ⊢;rw[hx,h]
 ·simp only[aJ] at hx ⊢;rw[hx,h]
 ·obtain ⟨hi,h⟩:=h;obtain ⟨h0,rfl⟩:=hx;obtain ⟨e1,e2,_⟩:=eO hi ρ;exact ⟨by rw[e1];exact h0,by rw[e2,h]⟩
 ·obtain ⟨hi,h1,h2⟩:=h;obtain ⟨A,c,rfl,hc,hA⟩:=hx;obtain ⟨e1,e2,_⟩:=eO hi ρ;exact ⟨A,c,by rw[h2],by rw[<- h2];exact hc,by rw[e1,e2,<- h1,<- h2];exact hA⟩
 ·have hv:v = .slice none 0 0:=hx;subst hv;exact ⟨none,0,by rw[h],by omega,.inr ⟨h,rfl⟩⟩
 ·exact hx
 ·subst h;exact hx
 ·obtain ⟨rfl,h⟩:=h;exact Gw h hx
 ·have hv:v = .slice none 0 0:=hx;subst hv;exact .nil _ _ (by unfold D.len;rw[h];rfl)
 ·obtain ⟨rfl,rfl,rfl,rfl⟩:=h;exact hx
 ·obtain ⟨hi,rfl,h1,h2⟩:=h;obtain ⟨A,c,rfl,hc,hA⟩:=hx;obtain ⟨e1,_,e3,_,e5⟩:=eO hi ρ;exact ⟨A,c,by rw[h2],by rw[<- h2];exact hc,by rw[e1,e3,e5,<- h1];exact hA⟩
 ·have hv:v = .slice none 0 0:=hx;subst hv;exact ⟨none,0,by rw[h],by omega,.inl ⟨rfl,fun _ h=>by cases h⟩⟩
 ·obtain ⟨hi,rfl,rfl,rfl⟩:=h;obtain ⟨h0,rfl⟩:=hx;obtain ⟨e1,_,e3,_⟩:=eO hi ρ;exact ⟨by rw[e1];exact h0,by rw[e3]⟩
 ·obtain ⟨rfl,rfl,rfl,rfl⟩:=h;exact hx
 ·obtain ⟨hi,rfl⟩:=h;obtain ⟨h0,rfl⟩:=hx;obtain ⟨e1,e2,_⟩:=eO hi ρ;exact ⟨by rw[e1];exact h0,by rw[e2]⟩
 ·exact h.elim
def i9:List Seg->Bool
 | []=>true
 | .c (.ptr ..)::_ | .c (.slice ..)::_ | .c (.osl ..)::_ | .c (.optr ..)::_ | .c (.bm ..)::_=>false
 |_::r=>i9 r
def gz (δ:List (Nat × Nat)) (N:Nat):List Seg->List Seg->Prop
 | [],[]=>True
 | .c x::r,.c y::s=>mi δ N x y/\gz δ N r s
 | .ints k n f::r,.ints k' m g::s=>(kEq k k'=true/\n.v=m.v/\∀ o,o<n.v->f o=g o)/\gz δ N r s
 |a,b=>i9 b=true/\bn a=bn b
def noP:SC->Bool | .ptr .. | .slice .. | .osl .. | .optr .. | .bm ..=>false |_=>true
theorem Gx {ρ ρ':Map} (hz:ρ'.fz=ρ.fz) {x:SC} (h:noP x=true) {v:Value} (hx:aJ ρ x v):aJ ρ' x v:=by
 cases x with
 |rows e d=>show TRel ρ'.fz _ _ _;rw[hz];exact hx
 |fp e d i j=>
  obtain ⟨b,o,rfl,hr⟩:=hx;exact ⟨b,o,rfl,by rw[hz];exact hr⟩
 |fn ag e p ok=>show ∃ z,FzLe z ρ'.fz/\_;rw[hz];exact hx
 |ptr=>cases h
 |slice=>cases h
 |osl=>cases h
 |optr=>cases h
 |bm=>cases h
 |int=>exact hx
 |bool=>exact hx
 |nils=>exact hx
 |raw=>exact hx
theorem rD:∀ {l:List Seg},i9 l=true->∀ x∈cellsOf l,noP x=true
 | [],_,x,h=>by simp [cellsOf] at h
 | .ints k n f::r,hp,x,h=>by
   rw[aM,List.mem_append] at h
   rcases h with h |h
   ·simp only[Seg.cells,List.mem_map] at h;obtain ⟨o,_,rfl⟩:=h;rfl
   ·exact rD (l:=r) (by simpa [i9] using hp) x h
 | .c y::r,hp,x,h=>by
   rw[aM,List.mem_append] at h;have hr:noP y=true/\i9 r=true:=by cases y<;>first |exact ⟨rfl,hp⟩ |cases hp
   rcases h with h |h
   ·simp only[Seg.cells,List.mem_singleton] at h;subst h;exact hr.1
   ·exact rD hr.2 x h
theorem kh {ρ ρ':Map} (hz:ρ'.fz=ρ.fz) {a b:List Seg} {vs:List Value} (h:i9 b=true/\bn a=bn b) (hv:ax ρ (cellsOf a) vs):ax ρ' (cellsOf b) vs:=by
 have h1:=mc.2 hv;have h2:bn a=bn b:=h.2;unfold bn at h2;rw[h2] at h1;have h3:=mc.1 h1;exact ⟨h3.1,fun i x v hx hv=>Gx hz (rD h.1 x (List.mem_of_getElem? hx)) (h3.2 i x v hx hv)⟩
theorem ja {δ:List (Nat × Nat)} {N:Nat} {ρ:Map}:∀ {a b:List Seg} {vs:List Value},gz δ N a b->ax ρ (cellsOf a) vs->ax (ρ.ren δ N) (cellsOf b) vs
 | [],[],vs,_,h=>⟨h.1,fun i x v hx=>by simp [cellsOf] at hx⟩
 | .c x::r,.c y::s,vs,hl,h=>by
   rw[aM] at h ⊢;obtain ⟨u,v,rfl,h1,h2⟩:=cG.1 h;refine cG.2 ⟨u,v,rfl,⟨h1.1,fun i a b ha hb=>?_⟩,ja hl.2 h2⟩
   cases i with
   |zero=>
    simp [Seg.cells] at ha;subst ha;exact xj hl.1 (h1.2 0 x b (by simp [Seg.cells]) hb)
   |succ i=>simp [Seg.cells] at ha
 | .ints k n f::r,.ints k' m g::s,vs,hl,h=>by
   obtain ⟨⟨hk,hn,hf⟩,hr⟩:=hl;have:=dW hk;subst this;rw[aM] at h ⊢;obtain ⟨u,v,rfl,h1,h2⟩:=cG.1 h;refine cG.2 ⟨u,v,rfl,⟨by rw[bc,<- hn,<- bc (k:=k) (f:=f)];exact h1.1,fun i a b ha hb=>?_⟩,ja hr h2⟩;have hi:=br ha;rw[bc] at hi;rw[cA hi] at ha;obtain rfl:=by simpa using ha
   have:=h1.2 i _ b (cA (f:=f) (by omega)) hb;rw[hf i (by omega)] at this;exact this
 | [],.c _::_,_,hl,h=>kh (ρ':=ρ.ren δ N) (ρ:=ρ) rfl hl h
 | [],.ints .. :: _,_,hl,h=>kh (ρ':=ρ.ren δ N) (ρ:=ρ) rfl hl h
 | .c _::_,[],_,hl,h=>kh (ρ':=ρ.ren δ N) (ρ:=ρ) rfl hl h
 | .c _::_,.ints .. :: _,_,hl,h=>kh (ρ':=ρ.ren δ N) (ρ:=ρ) rfl hl h
 | .ints .. :: _,[],_,hl,h=>kh (ρ':=ρ.ren δ N) (ρ:=ρ) rfl hl h
 | .ints .. :: _,.c _::_,_,hl,h=>kh (ρ':=ρ.ren δ N) (ρ:=ρ) rfl hl h
def mj (δ:List (Nat × Nat)) (N:Nat):V1->V1->Prop
 | .sc x,.sc y=>mi δ N x y
 | .agg a,.agg b=>gz δ N a b
 |_,_=>False
theorem rE {δ:List (Nat × Nat)} {N:Nat} {ρ:Map} {x y:V1} {v:Value} (h:mj δ N x y) (hx:bL ρ x v):bL (ρ.ren δ N) y v:=by
 cases x<;>cases y<;>simp only[mj] at h
 ·exact xj h hx
 ·obtain ⟨cs,rfl,hc⟩:=hx;exact ⟨cs,rfl,ja h hc⟩
def ou (δ:List (Nat × Nat)) (N:Nat):List V1->List V1->Prop
 | [],[]=>True
 |x::r,y::s=>mj δ N x y/\ou δ N r s
 |_,_=>False
theorem rF {δ:List (Nat × Nat)} {N:Nat} {ρ:Map}:∀ {a b:List V1} {vs:List Value},ou δ N a b->dg ρ a vs->dg (ρ.ren δ N) b vs
 | [],[],[],_,h=>h
 | [],[],_::_,_,h=>h.elim
 |_::_,_::_,[],_,h=>h.elim
 |_::_,_::_,_::_,hl,h=>⟨rE hl.1 h.1,rF hl.2 h.2⟩
 | [],_::_,_,hl,_=>hl.elim
 |_::_,[],_,hl,_=>hl.elim
def jb (δ:List (Nat × Nat)) (N:Nat):SV->SV->Prop
 | .one x,.one y=>mj δ N x y
 | .tup a,.tup b=>ou δ N a b
 |_,.junk=>True
 |_,_=>False
theorem Gy {δ:List (Nat × Nat)} {N:Nat} {ρ:Map} {t:Array Value} {x y:SV} {v:Value} (h:jb δ N x y) (hx:eK ρ t x v):eK (ρ.ren δ N) t y v:=by
 cases x<;>cases y<;>simp only[jb] at h<;>first
  |exact h.elim
  |trivial
  |exact rE h hx
  |(obtain ⟨vs,rfl,ht⟩:=hx;exact ⟨vs,rfl,rF h ht⟩)
theorem ov {δ:List (Nat × Nat)} {N:Nat} {ρ:Map} {x y:SV} {v:Value} (h:jb δ N x y) (hx:UR ρ x v) (hj:y ≠ .junk):UR (ρ.ren δ N) y v:=by
 cases x<;>cases y<;>simp only[jb] at h<;>first
  |exact h.elim
  |exact absurd rfl hj
  |exact rE h hx
  |(obtain ⟨vs,rfl,ht⟩:=hx;exact ⟨vs,rfl,rF h ht⟩)
def jc (δ:List (Nat × Nat)) (N i j:Nat):Ent->Ent->Prop
 | .own T a,.own T' b=>cr δ N i j=true/\T=T'/\gz δ N a b
 | .row T a,.row T' b=>cr δ N i j=true/\T=T'/\gz δ N a b
 | .own T a,.row T' b=>cr δ N i j=true/\T=T'/\gz δ N a b
 | .orow e d,.orow e' d'=>cr δ N i j=true/\e=e'/\d.rows=d'.rows
 | .ro a,.ro b=>cr δ N i j=true/\gz δ N a b
 |_,.gone=>True
 |_,_=>False
theorem ow {B:Nat} {ρ:Map} {δ:List (Nat × Nat)} {N b:Nat} (h:fk B ρ b):fk B (ρ.ren δ N) b:=h
theorem Gz {ρ:Map} {w:World} {b c:Nat} {e:TypeId} {d d':D} (h:d.rows=d'.rows) (hr:fm ρ w b c e d):fm ρ w b c e d':=by
 have hl:d.len=d'.len:=by unfold D.len;rw[h]
 have he:∀ i j,d.el i j=d'.el i j:=fun i j=>by unfold D.el;rw[h]
 obtain ⟨cs,h1,h2,h3,h4⟩:=hr;exact ⟨cs,h1,h2,by rw[<- hl];exact h3,fun i j k hi hk=>by rw[<- he];exact h4 i j k (by rw[hl];exact hi) hk⟩
theorem GA {δ:List (Nat × Nat)} {N:Nat} {B:Nat} {ρ:Map} {w:World} {i j:Nat} {x y:Ent} (h:jc δ N i j x y) (hx:c8 B ρ w i x):c8 B (ρ.ren δ N) w j y:=by
 unfold jc at h
 split at h
 ·obtain ⟨hi,rfl,h⟩:=h;obtain ⟨a,b,c,vs,d,e⟩:=hx;obtain ⟨e1,e2,e3,e4,_⟩:=eO hi ρ;exact ⟨by rw[e1];exact a,by rw[e4];exact b,by rw[e3];exact ow c,vs,ja h d,by rw[e3];exact e⟩
 ·obtain ⟨hi,rfl,h⟩:=h;obtain ⟨a,b,c,vs,r,d,e⟩:=hx;obtain ⟨e1,e2,e3,e4,_⟩:=eO hi ρ;exact ⟨by rw[e1];exact a,by rw[e4];exact b,by rw[e3];exact ow c,vs,r,ja h d,by rw[e3];exact e⟩
 ·obtain ⟨hi,rfl,h⟩:=h;obtain ⟨a,b,c,vs,d,e⟩:=hx;obtain ⟨e1,e2,e3,e4,_⟩:=eO hi ρ;exact ⟨by rw[e1];exact a,by rw[e4];exact b,by rw[e3];exact ow c,vs,[],ja h d,by rw[e3];simpa using e⟩
 ·obtain ⟨hi,rfl,h⟩:=h;obtain ⟨e1,e2,e3,e4,e5⟩:=eO hi ρ
  rcases hx with ⟨h0,h1⟩ |⟨a,b,c,r⟩
  ·exact .inl ⟨by rw[e1];exact h0,by unfold D.len at h1 ⊢;rw[<- h];exact h1⟩
  ·refine .inr ⟨by rw[e1];exact a,by rw[e4];exact b,by rw[e3];exact ow c,?_⟩;rw[e3,e5];exact Gz h r
 ·obtain ⟨hi,h⟩:=h;obtain ⟨a,vs,d,e⟩:=hx;obtain ⟨e1,e2,e3,e4,_⟩:=eO hi ρ;exact ⟨by rw[e1];exact a,vs,ja h d,by rw[e3,e4];exact e⟩
 ·trivial
 ·exact h.elim
theorem xk {δ:List (Nat × Nat)} {N i j:Nat} {x y:Ent} (h:jc δ N i j x y) (ho:y.isOwn=true):x.isOwn=true/\cr δ N i j=true:=by
 unfold jc at h
 split at h
 ·exact ⟨rfl,h.1⟩
 ·exact ⟨rfl,h.1⟩
 ·exact ⟨rfl,h.1⟩
 ·exact ⟨rfl,h.1⟩
 ·cases ho
 ·cases ho
 ·exact h.elim
def oz (δ:List (Nat × Nat)) (N:Nat) (s:aT):aT->Prop
 | []=>True
 |(t,y)::r=>(match ad s t with |some x=>jb δ N x y |none=>y = .junk)/\oz δ N s r
def oA (δ:List (Nat × Nat)) (n j:Nat):Ent->Prop
 | .gone=>True
 | .orow _ d=>n<=dm δ j/\d.rows=[]
 |_=>False
def oB (δ:List (Nat × Nat)) (N n:Nat) (s:ah):ah->Prop
 | []=>True
 |(j,y)::r=>(match ad s (dm δ j) with |some x=>jc δ N (dm δ j) j x y |none=>oA δ n j y)/\oB δ N n s r
theorem xl {δ:List (Nat × Nat)} {N:Nat} {s:aT}:∀ {t:aT},oz δ N s t->∀ k y,ad t k=some y->(∃ x,ad s k=some x/\jb δ N x y) ∨ y = .junk
 | [],_,k,y,h=>by simp [ad] at h
 |(j,z)::r,hs,k,y,h=>by
  simp only[ad] at h
  split at h
  ·rename_i hj;obtain rfl:j=k:=by simpa using hj
   obtain rfl:=by simpa using h
   have h1:=hs.1
   cases hl:ad s j with
   |some x=>rw[hl] at h1;exact .inl ⟨x,rfl,h1⟩
   |none=>rw[hl] at h1;exact .inr h1
  ·exact xl hs.2 k y h
theorem oC {δ:List (Nat × Nat)} {N n:Nat} {s:ah}:∀ {t:ah},oB δ N n s t->∀ k y,ad t k=some y->(∃ x,ad s (dm δ k)=some x/\jc δ N (dm δ k) k x y) ∨ oA δ n k y
 | [],_,k,y,h=>by simp [ad] at h
 |(j,z)::r,hs,k,y,h=>by
  simp only[ad] at h
  split at h
  ·rename_i hj;obtain rfl:j=k:=by simpa using hj
   obtain rfl:=by simpa using h
   have h1:=hs.1
   cases hl:ad s (dm δ j) with
   |some x=>rw[hl] at h1;exact .inl ⟨x,rfl,h1⟩
   |none=>rw[hl] at h1;exact .inr h1
  ·exact oC hs.2 k y h
def jd (δ:List (Nat × Nat)):ah->Bool
 | []=>true
 |(j,y)::r=>r.all (fun p=>Nat.beq p.1 j || !y.isOwn || !p.2.isOwn || !Nat.beq (dm δ p.1) (dm δ j))&&jd δ r
theorem rG {α:Type}:∀ {l:List (Nat × α)} {k:Nat} {x : α},ad l k=some x->(k,x)∈l
 | [],k,x,h=>by simp [ad] at h
 |(j,y)::r,k,x,h=>by
  simp only[ad] at h
  split at h
  ·rename_i hj;obtain rfl:j=k:=by simpa using hj
   obtain rfl:=by simpa using h
   exact List.mem_cons_self ..
  ·exact List.mem_cons_of_mem _ (rG h)
theorem xm {δ:List (Nat × Nat)}:∀ {h:ah},jd δ h=true->∀ i j e f,(i,e)∈h->(j,f)∈h->e.isOwn=true->f.isOwn=true->i≠j->dm δ i≠dm δ j
 | [],_,i,j,e,f,h,_,_,_,_=>by cases h
 |(k,y)::r,hk,i,j,e,f,hi,hj,he,hf,hne=>by
  simp only[jd,Bool.and_eq_true] at hk;have key:∀ p∈r,p.2.isOwn=true->y.isOwn=true->p.1≠k->dm δ p.1≠dm δ k:=fun p hp h1 h2 h3=>by
   have:=List.all_eq_true.1 hk.1 p hp;intro e;simp [h1,h2,h3,e] at this
  rcases List.mem_cons.1 hi with h1 |h1<;>rcases List.mem_cons.1 hj with h2 |h2
  ·cases h1;cases h2;exact absurd rfl hne
  ·cases h1;exact fun q=>key _ h2 hf he (Ne.symm hne) q.symm
  ·cases h2;exact key _ h1 he hf hne
  ·exact xm hk.2 i j e f h1 h2 he hf hne
def rH (δ:List (Nat × Nat)) (s t:St):Prop:=oz δ t.nx s.tm t.tm/\oB δ t.nx s.nx s.hp t.hp/\jd δ t.hp=true
theorem rI {δ:List (Nat × Nat)} {N n B k:Nat} {y:Ent} (h:oA δ n k y) {ρ:Map} (hf:∀ id,n<=id -> ρ id=none) (w:World):c8 B (ρ.ren δ N) w k y/\(y.isOwn=true->((ρ.ren δ N) k).isSome=true->False):=by
 cases y with
 |gone=>exact ⟨trivial,fun h=>by cases h⟩
 |orow e d=>
  have hn:(ρ.ren δ N) k=none:=by
   simp only[Map.ren];split
   ·exact hf _ h.1
   ·rfl
  exact ⟨.inl ⟨hn,by unfold D.len;rw[h.2];rfl⟩,fun _ h'=>by rw[hn] at h';cases h'⟩
 |own=>exact h.elim
 |row=>exact h.elim
 |ro=>exact h.elim
theorem ki {δ:List (Nat × Nat)} {s t:St} (h:rH δ s t) {w0:W0} (h0:w0.anc.isSome=true->dm δ 0=0/\0<t.nx) {nt:Nat} {ρ:Map} {a:Act} {w:World} (hs:SH w0 nt s ρ a w):SH w0 nt t (ρ.ren δ t.nx) a w:=by
 obtain ⟨h1,h2,h3⟩:=h;have some':∀ i,((ρ.ren δ t.nx) i).isSome=true->(ρ (dm δ i)).isSome=true:=fun i hi=>by
  simp only[Map.ren] at hi
  split at hi
  ·exact hi
  ·cases hi
 refine ⟨⟨hs.slots.size,hs.slots.defers,fun k y hy=>?_⟩,⟨hs.mem.below,fun k y hy=>?_,fun i j e f hi hj he hf hne hii hjj=>?_,hs.mem.froz,hs.mem.sub,hs.mem.mu0,hs.mem.f00,hs.mem.old,fun p hp=>?_,hs.mem.tab⟩,fun id hid=>?_⟩
 ·rcases xl h1 k y hy with ⟨x,hx,hl⟩ |rfl
  ·exact Gy hl (hs.slots.slots k x hx)
  ·trivial
 ·rcases oC h2 k y hy with ⟨x,hx,hl⟩ |hv
  ·exact GA hl (hs.mem.ents _ x hx)
  ·exact (rI hv hs.fresh w).1
 ·rcases oC h2 i e hi with ⟨x,hx,hl⟩ |hv
  ·rcases oC h2 j f hj with ⟨y,hy,hm⟩ |hv
   ·obtain ⟨g1,g2⟩:=xk hl he;obtain ⟨k1,k2⟩:=xk hm hf;rw[(eO g2 ρ).2.2.1,(eO k2 ρ).2.2.1];exact hs.mem.apart _ _ x y hx hy g1 k1 (xm h3 i j e f (rG hi) (rG hj) he hf hne) (some' i hii) (some' j hjj)
   ·exact ((rI (N:=t.nx) (B:=0) hv hs.fresh w).2 hf hjj).elim
  ·exact ((rI (N:=t.nx) (B:=0) hv hs.fresh w).2 he hii).elim
 ·obtain ⟨g1,g2⟩:=h0 (by rw[hp];rfl);simp only[Map.ren];rw[if_pos (by simpa [Nat.blt_eq] using g2),g1];exact hs.mem.anc p hp
 ·simp only[Map.ren];rw[if_neg]
  simpa using hid
def ml:List Prop->Prop
 | []=>True
 | [p]=>p
 |p::r=>p/\ml r
theorem kj:∀ {l:List Prop},ml l->All l
 | [],_=>trivial
 | [_],h=>⟨h,trivial⟩
 |_::_::_,h=>⟨h.1,kj h.2⟩
def je:List Prop->Prop->Prop
 | [],q=>q
 |p::r,q=>p->je r q
theorem mo {q:Prop}:∀ {l:List Prop},je l q↔(All l->q)
 | []=>by simp [je,All]
 |p::r=>by
  simp only[je,All,mo (l:=r)];exact ⟨fun h k=>h k.1 k.2,fun h k m=>h ⟨k,m⟩⟩
def scL (δ:List (Nat × Nat)) (N:Nat):SC->SC->Option (List Prop)
 | .int k n,.int k' m=>if kEq k k' then some [n.v=m.v] else none
 | .bool b,.bool c=>some [b.v=c.v]
 | .ptr i o,.ptr j q=>if cr δ N i j then (match o,q with | .lit a,.lit b=>if Nat.beq a b then some [] else none |o,q=>some [o.v=q.v]) else none
 | .slice i o n,.slice j q m=>if cr δ N i j then (match o,q with | .lit a,.lit b=>if Nat.beq a b then some [n.v=m.v] else none |o,q=>some [o.v=q.v,n.v=m.v]) else none
 | .nils,.slice _ _ m=>some [m.v=0]
 | .nils,.nils=>some []
 | .raw v,.raw u=>some [v=u]
 | .rows e d,.rows e' d'=>if Nat.beq e e' then some [d.rows=d'.rows] else none
 | .nils,.rows _ d=>some [d.rows=[]]
 | .fp e d i j,.fp e' d' i' j'=>if Nat.beq e e' then some [d=d',i=i',j=j'] else none
 | .osl e i lo n,.osl e' j lo' m=>if cr δ N i j&&Nat.beq e e' then (match lo,lo' with | .lit a,.lit b=>if Nat.beq a b then some [n.v=m.v] else none |lo,lo'=>some [lo.v=lo'.v,n.v=m.v]) else none
 | .nils,.osl _ _ _ m=>some [m.v=0]
 | .optr e i a b,.optr e' j a' b'=>if cr δ N i j&&Nat.beq e e' then some [a=a',b=b'] else none
 | .fn g e p o,.fn g' e' p' o'=>if (g==g')&&Nat.beq e e' then some [p=p',o=o'] else none
 | .bm g i,.bm g' j=>if cr δ N i j&&Nat.beq g g' then some [] else none
 |_,_=>none
theorem xn {δ:List (Nat × Nat)} {N:Nat} {x y:SC} {ps:List Prop} (h:scL δ N x y=some ps) (hp:All ps):mi δ N x y:=by
 unfold scL at h
 split at h
 ·split at h
  ·rename_i hk;simp only[Option.some.injEq] at h;subst h;exact ⟨hk,hp.1⟩
  ·cases h
 ·simp only[Option.some.injEq] at h;subst h;exact hp.1
 ·split at h
  ·rename_i hk
   split at h
   ·split at h
    ·rename_i hb;simp only[Option.some.injEq] at h;subst h;exact ⟨hk,Nat.eq_of_beq_eq_true hb⟩
    ·cases h
   ·simp only[Option.some.injEq] at h;subst h;exact ⟨hk,hp.1⟩
  ·cases h
 ·split at h
  ·rename_i hk
   split at h
   ·split at h
    ·rename_i hb;simp only[Option.some.injEq] at h;subst h;exact ⟨hk,Nat.eq_of_beq_eq_true hb,hp.1⟩
    ·cases h
   ·simp only[Option.some.injEq] at h;subst h;exact ⟨hk,hp.1,hp.2.1⟩
  ·cases h
 ·simp only[Option.some.injEq] at h;subst h;exact hp.1
 ·trivial
 ·simp only[Option.some.injEq] at h;subst h;exact hp.1
 ·split at h
  ·rename_i hk;simp only[Option.some.injEq] at h;subst h;exact ⟨Nat.eq_of_beq_eq_true hk,hp.1⟩
  ·cases h
 ·simp only[Option.some.injEq] at h;subst h;exact hp.1
 ·split at h
  ·rename_i hk;simp only[Option.some.injEq] at h;subst h;exact ⟨Nat.eq_of_beq_eq_true hk,hp.1,hp.2.1,hp.2.2.1⟩
  ·cases h
 ·split at h
  ·rename_i hk;simp only[Bool.and_eq_true] at hk
   split at h
   ·split at h
    ·rename_i hb;simp only[Option.some.injEq] at h;subst h;exact ⟨hk.1,Nat.eq_of_beq_eq_true hk.2,Nat.eq_of_beq_eq_true hb,hp.1⟩
    ·cases h
   ·simp only[Option.some.injEq] at h;subst h;exact ⟨hk.1,Nat.eq_of_beq_eq_true hk.2,hp.1,hp.2.1⟩
  ·cases h
 ·simp only[Option.some.injEq] at h;subst h;exact hp.1
 ·split at h
  ·rename_i hk;simp only[Bool.and_eq_true] at hk;simp only[Option.some.injEq] at h;subst h;exact ⟨hk.1,Nat.eq_of_beq_eq_true hk.2,hp.1,hp.2.1⟩
  ·cases h
 ·split at h
  ·rename_i hk;simp only[Bool.and_eq_true,beq_iff_eq] at hk;simp only[Option.some.injEq] at h;subst h;exact ⟨hk.1,Nat.eq_of_beq_eq_true hk.2,hp.1,hp.2.1⟩
  ·cases h
 ·split at h
  ·rename_i hk;simp only[Bool.and_eq_true] at hk;exact ⟨hk.1,Nat.eq_of_beq_eq_true hk.2⟩
  ·cases h
 ·cases h
def dG (δ:List (Nat × Nat)) (N:Nat):List Seg->List Seg->Option (List Prop)
 | [],[]=>some []
 | .c x::r,.c y::s=>(match scL δ N x y,dG δ N r s with |some a,some b=>some (a++b) |_,_=>none)
 | .ints k n f::r,.ints k' m g::s=>if kEq k k' then (match dG δ N r s with
    |some b=>(match n,m with
     | .lit a,.lit c=>if Nat.beq a c then some ((∀ o,o<a->f o=g o)::b) else none
     |n,m=>some ((n.v=m.v)::(∀ o,o<n.v->f o=g o)::b))
    |none=>none) else none
 |a,b=>if i9 b then some [bn a=bn b] else none
theorem ic {δ:List (Nat × Nat)} {N:Nat}:∀ {a b:List Seg} {ps:List Prop},dG δ N a b=some ps->All ps->gz δ N a b
 | [],[],ps,h,hp=>trivial
 | .c x::r,.c y::s,ps,h,hp=>by
   simp only[dG] at h
   split at h
   ·rename_i a b ha hb;simp only[Option.some.injEq] at h;subst h;obtain ⟨h1,h2⟩:=all_append.1 hp;exact ⟨xn ha h1,ic hb h2⟩
   ·cases h
 | .ints k n f::r,.ints k' m g::s,ps,h,hp=>by
   simp only[dG] at h
   split at h
   ·rename_i hk
    split at h
    ·rename_i b hb
     split at h
     ·split at h
      ·rename_i a c hac;simp only[Option.some.injEq] at h;subst h;exact ⟨⟨hk,by simp [SN.v,Nat.eq_of_beq_eq_true hac],hp.1⟩,ic hb hp.2⟩
      ·cases h
     ·simp only[Option.some.injEq] at h;subst h;exact ⟨⟨hk,hp.1,hp.2.1⟩,ic hb hp.2.2⟩
    ·cases h
   ·cases h
 | [],.c _::_,ps,h,hp=>by
   simp only[dG] at h
   split at h
   ·rename_i hn;simp only[Option.some.injEq] at h;subst h;exact ⟨hn,hp.1⟩
   ·cases h
 | [],.ints .. :: _,ps,h,hp=>by
   simp only[dG] at h
   split at h
   ·rename_i hn;simp only[Option.some.injEq] at h;subst h;exact ⟨hn,hp.1⟩
   ·cases h
 | .c _::_,[],ps,h,hp=>by
   simp only[dG] at h
   split at h
   ·rename_i hn;simp only[Option.some.injEq] at h;subst h;exact ⟨hn,hp.1⟩
   ·cases h
 | .c _::_,.ints .. :: _,ps,h,hp=>by
   simp only[dG] at h
   split at h
   ·rename_i hn;simp only[Option.some.injEq] at h;subst h;exact ⟨hn,hp.1⟩
   ·cases h
 | .ints .. :: _,[],ps,h,hp=>by
   simp only[dG] at h
   split at h
   ·rename_i hn;simp only[Option.some.injEq] at h;subst h;exact ⟨hn,hp.1⟩
   ·cases h
 | .ints .. :: _,.c _::_,ps,h,hp=>by
   simp only[dG] at h
   split at h
   ·rename_i hn;simp only[Option.some.injEq] at h;subst h;exact ⟨hn,hp.1⟩
   ·cases h
def v1L (δ:List (Nat × Nat)) (N:Nat):V1->V1->Option (List Prop)
 | .sc x,.sc y=>scL δ N x y
 | .agg a,.agg b=>dG δ N a b
 |_,_=>none
theorem xo {δ:List (Nat × Nat)} {N:Nat} {x y:V1} {ps:List Prop} (h:v1L δ N x y=some ps) (hp:All ps):mj δ N x y:=by
 cases x<;>cases y<;>simp only[v1L] at h<;>first |(cases h;done) |exact xn h hp |exact ic h hp
def km (δ:List (Nat × Nat)) (N:Nat):List V1->List V1->Option (List Prop)
 | [],[]=>some []
 |x::r,y::s=>(match v1L δ N x y,km δ N r s with |some a,some b=>some (a++b) |_,_=>none)
 |_,_=>none
theorem xp {δ:List (Nat × Nat)} {N:Nat}:∀ {a b:List V1} {ps:List Prop},km δ N a b=some ps->All ps->ou δ N a b
 | [],[],_,_,_=>trivial
 |x::r,y::s,ps,h,hp=>by
  simp only[km] at h
  split at h
  ·rename_i a b ha hb;simp only[Option.some.injEq] at h;subst h;obtain ⟨h1,h2⟩:=all_append.1 hp;exact ⟨xo ha h1,xp hb h2⟩
  ·cases h
 | [],_::_,_,h,_=>by simp [km] at h
 |_::_,[],_,h,_=>by simp [km] at h
def svL (δ:List (Nat × Nat)) (N:Nat):SV->SV->Option (List Prop)
 | .one x,.one y=>v1L δ N x y
 | .tup a,.tup b=>km δ N a b
 |_,.junk=>some []
 |_,_=>none
theorem mq {δ:List (Nat × Nat)} {N:Nat} {x y:SV} {ps:List Prop} (h:svL δ N x y=some ps) (hp:All ps):jb δ N x y:=by
 cases x<;>cases y<;>simp only[svL] at h<;>first |(cases h;done) |exact xo h hp |exact xp h hp |trivial
def rJ (δ:List (Nat × Nat)) (N i j:Nat):Ent->Ent->Option (List Prop)
 | .own T a,.own T' b=>if cr δ N i j&&Nat.beq T T' then dG δ N a b else none
 | .row T a,.row T' b=>if cr δ N i j&&Nat.beq T T' then dG δ N a b else none
 | .own T a,.row T' b=>if cr δ N i j&&Nat.beq T T' then dG δ N a b else none
 | .orow e d,.orow e' d'=>if cr δ N i j&&Nat.beq e e' then some [d.rows=d'.rows] else none
 | .ro a,.ro b=>if cr δ N i j then dG δ N a b else none
 |_,.gone=>some []
 |_,_=>none
theorem GB {δ:List (Nat × Nat)} {N i j:Nat} {x y:Ent} {ps:List Prop} (h:rJ δ N i j x y=some ps) (hp:All ps):jc δ N i j x y:=by
 unfold rJ at h
 split at h
 ·split at h
  ·rename_i hk;simp only[Bool.and_eq_true] at hk;exact ⟨hk.1,Nat.eq_of_beq_eq_true hk.2,ic h hp⟩
  ·cases h
 ·split at h
  ·rename_i hk;simp only[Bool.and_eq_true] at hk;exact ⟨hk.1,Nat.eq_of_beq_eq_true hk.2,ic h hp⟩
  ·cases h
 ·split at h
  ·rename_i hk;simp only[Bool.and_eq_true] at hk;exact ⟨hk.1,Nat.eq_of_beq_eq_true hk.2,ic h hp⟩
  ·cases h
 ·split at h
  ·rename_i hk;simp only[Bool.and_eq_true] at hk;simp only[Option.some.injEq] at h;subst h;exact ⟨hk.1,Nat.eq_of_beq_eq_true hk.2,hp.1⟩
  ·cases h
 ·split at h
  ·rename_i hk;exact ⟨hk,ic h hp⟩
  ·cases h
 ·cases x<;>trivial
 ·cases h
def mr (δ:List (Nat × Nat)) (N:Nat) (s:aT):aT->Option (List Prop)
 | []=>some []
 |(t,y)::r=>(match ad s t with
  |some x=>(match svL δ N x y,mr δ N s r with |some a,some b=>some (a++b) |_,_=>none)
  |none=>(match y with | .junk=>mr δ N s r |_=>none))
theorem rK {δ:List (Nat × Nat)} {N:Nat} {s:aT}:∀ {t:aT} {ps:List Prop},mr δ N s t=some ps->All ps->oz δ N s t
 | [],_,_,_=>trivial
 |(j,y)::r,ps,h,hp=>by
  simp only[mr] at h
  split at h
  ·rename_i x hx
   split at h
   ·rename_i a b ha hb;simp only[Option.some.injEq] at h;subst h;obtain ⟨h1,h2⟩:=all_append.1 hp;exact ⟨by rw[hx];exact mq ha h1,rK hb h2⟩
   ·cases h
  ·rename_i hx
   split at h
   ·exact ⟨by rw[hx],rK h hp⟩
   ·cases h
def rL (δ:List (Nat × Nat)) (n j:Nat):Ent->Option (List Prop)
 | .gone=>some []
 | .orow _ d=>if Nat.ble n (dm δ j) then some [d.rows=[]] else none
 |_=>none
def jf (δ:List (Nat × Nat)) (N n:Nat) (s:ah):ah->Option (List Prop)
 | []=>some []
 |(j,y)::r=>(match ad s (dm δ j) with
  |some x=>(match rJ δ N (dm δ j) j x y,jf δ N n s r with |some a,some b=>some (a++b) |_,_=>none)
  |none=>(match rL δ n j y,jf δ N n s r with |some a,some b=>some (a++b) |_,_=>none))
theorem GC {δ:List (Nat × Nat)} {n j:Nat} {y:Ent} {ps:List Prop} (h:rL δ n j y=some ps) (hp:All ps):oA δ n j y:=by
 cases y with
 |gone=>trivial
 |orow e d=>
  simp only[rL] at h
  split at h
  ·rename_i hk;simp only[Option.some.injEq] at h;subst h;exact ⟨Nat.le_of_ble_eq_true hk,hp.1⟩
  ·cases h
 |own=>cases h
 |row=>cases h
 |ro=>cases h
theorem jg {δ:List (Nat × Nat)} {N n:Nat} {s:ah}:∀ {t:ah} {ps:List Prop},jf δ N n s t=some ps->All ps->oB δ N n s t
 | [],_,_,_=>trivial
 |(j,y)::r,ps,h,hp=>by
  simp only[jf] at h
  split at h
  ·rename_i x hx
   split at h
   ·rename_i a b ha hb;simp only[Option.some.injEq] at h;subst h;obtain ⟨h1,h2⟩:=all_append.1 hp;exact ⟨by rw[hx];exact GB ha h1,jg hb h2⟩
   ·cases h
  ·rename_i hx
   split at h
   ·rename_i a b ha hb;simp only[Option.some.injEq] at h;subst h;obtain ⟨h1,h2⟩:=all_append.1 hp;exact ⟨by rw[hx];exact GC ha h1,jg hb h2⟩
   ·cases h
def mSc:SC->SC->List (Nat × Nat)
 | .ptr i _,.ptr j _=>[(j,i)]
 | .slice i _ _,.slice j _ _=>[(j,i)]
 | .osl _ i _ _,.osl _ j _ _=>[(j,i)]
 | .optr _ i _ _,.optr _ j _ _=>[(j,i)]
 | .nils,.osl _ j _ _=>[(j,1048576+j)]
 |_,_=>[]
def oD:List Seg->List Seg->List (Nat × Nat)
 | .c x::r,.c y::s=>mSc x y++oD r s
 | .ints .. :: r,.ints .. :: s=>oD r s
 |_,_=>[]
def mV1:V1->V1->List (Nat × Nat)
 | .sc x,.sc y=>mSc x y
 | .agg a,.agg b=>oD a b
 |_,_=>[]
def xq:List V1->List V1->List (Nat × Nat)
 |x::r,y::s=>mV1 x y++xq r s
 |_,_=>[]
def mSV:SV->SV->List (Nat × Nat)
 | .one x,.one y=>mV1 x y
 | .tup a,.tup b=>xq a b
 |_,_=>[]
def oE (s:aT):aT->List (Nat × Nat)
 | []=>[]
 |(t,y)::r=>(match ad s t with |some x=>mSV x y |none=>[])++oE s r
def eQ (s:ah):ah->List (Nat × Nat)->List (Nat × Nat)
 | [],δ=>δ
 |(j,y)::r,δ=>(match ad s (dm δ j) with
  |some x=>(match x.segs,y.segs with |some a,some b=>eQ s r (δ ++ oD a b) |_,_=>eQ s r δ)
  |none=>eQ s r δ)
def stL (s t:St):Option (List Prop):=
 let δ:=eQ s.hp t.hp (oE s.tm t.tm)
 match mr δ t.nx s.tm t.tm,jf δ t.nx s.nx s.hp t.hp with
 |some a,some b=>if jd δ t.hp then some (a++b) else none
 |_,_=>none
def LeP (s t:St):Prop:=match stL s t with |some ps=>ml ps |none=>False
def LeQ (b:Bool) (s t:St):Prop:=match b with
 |false=>LeP s t
 |true=>if Nat.beq (dm (eQ s.hp t.hp (oE s.tm t.tm)) 0) 0&&Nat.blt 0 t.nx then LeP s t else False
theorem xr {s t:St} (h:LeP s t):rH (eQ s.hp t.hp (oE s.tm t.tm)) s t:=by
 unfold LeP at h
 split at h
 ·rename_i ps hps;unfold stL at hps;dsimp only at hps
  split at hps
  ·rename_i a b ha hb
   split at hps
   ·rename_i hi;simp only[Option.some.injEq] at hps;subst hps;obtain ⟨h1,h2⟩:=all_append.1 (kj h);exact ⟨rK ha h1,jg hb h2,hi⟩
   ·cases hps
  ·cases hps
 ·exact h.elim
theorem xt {b:Bool} {s t:St} (h:LeQ b s t):∃ δ,rH δ s t/\(b=true->dm δ 0=0/\0<t.nx):=by
 unfold LeQ at h
 split at h
 ·exact ⟨_,xr h,fun h=>by cases h⟩
 ·split at h
  ·rename_i hc;simp only[Bool.and_eq_true] at hc;exact ⟨_,xr h,fun _=>⟨Nat.eq_of_beq_eq_true hc.1,by simpa [Nat.blt_eq] using hc.2⟩⟩
  ·exact h.elim
def jh (s:aT):List Nat->aT
 | []=>[]
 |t::r=>match ad s t with |some x=>(t,x)::jh s r |none=>jh s r
def mt (s:ah):List Nat->ah
 | []=>[]
 |t::r=>match ad s t with |some x=>(t,x)::mt s r |none=>mt s r
def bj (s:St) (t:Nat):Nat:=match ad s.tm t with |some (.one (.sc (.ptr id _)))=>id |some (.one (.sc (.slice id _ _)))=>id |some (.one (.sc (.osl _ id _ _)))=>id |some (.one (.sc (.optr _ id _ _)))=>id |_=>0
def sx (tt:TT) (nt:Nat) (A:Ann) (L:St->St->Prop):Code->(Ex->St->Prop)->St->Prop
 | .skip,K,s=>K .normal s
 | .label _,K,s=>K .normal s
 | .exit id,K,s=>K (.exit id) s
 | .ret,K,s=>K .ret s
 | .region id ops draw,K,s=>(match xf tt (A.C id) nt ops draw s with |some (ps,s')=>eN ps (K .normal s') |none=>if draw&&Nat.ble ops.size 5 then mh tt (A.C id) nt ops (K .normal) ops.size (List.replicate ops.size false) s else False)
 | .seq a b,K,s=>(match A.cut (mg b) with
   |some I=>sx tt nt A L a (fun e s'=>match e with | .normal=>∃ i,I.pre s i/\L s' (I.st s i) | .exit i=>K (.exit i) s' | .ret=>K .ret s') s/\∀ i,I.pre s i->sx tt nt A L b K (I.st s i)
   |none=>sx tt nt A L a (fun e s'=>match e with | .normal=>sx tt nt A L b K s' | .exit i=>K (.exit i) s' | .ret=>K .ret s') s)
 | .cond c a b,K,s=>(match evO s.tm [] c with
   |some (.one (.sc (.bool (.lit true))))=>sx tt nt A L a K s
   |some (.one (.sc (.bool (.lit false))))=>sx tt nt A L b K s
   |some (.one (.sc (.bool (.sym t))))=>(t=true->sx tt nt A L a K s)/\(t=false->sx tt nt A L b K s)
   |_=>False)
 | .block id c,K,s=>sx tt nt A L c (fun e s'=>match e with | .normal=>K .normal s' | .exit j=>if Nat.beq j id then K .normal s' else K (.exit j) s' | .ret=>K .ret s') s
 | .loop c,K,s=>(match A.inv (mg c) with
   |some I=>(∃ i,I.pre s i/\L s (I.st s i))/\∀ i,I.pre s i->sx tt nt A L c (fun e s'=>match e with | .normal=>∃ j,I.pre s j/\I.μ j<I.μ i/\L s' (I.st s j) | .exit k=>K (.exit k) s' | .ret=>K .ret s') (I.st s i)
   |none=>False)
 |_,_,_=>False
def cd:Exit->Option Ex | .normal=>some .normal | .exit i=>some (.exit i) | .ret=>some .ret |_=>none
theorem oF {P:Program} {tt:TT} (htt:aP P tt) (hm:P.follows .mixedOrders=true) {nt:Nat} {A:Ann} (hC:∀ id,cZ P (A.C id)) {w0:W0} {L:St->St->Prop} (hL:∀ s t,L s t->∀ ρ a w,SH w0 nt s ρ a w->∃ ρ',SH w0 nt t ρ' a w):∀ (c:Code) (K:Ex->St->Prop) (s:St),sx tt nt A L c K s->∀ (Q:Exit->Act->World->Prop),(∀ e ex s' ρ a w,cd e=some ex->K ex s'->SH w0 nt s' ρ a w->Q e a w) ->
 ∀ ρ a w,SH w0 nt s ρ a w->c.wp P Q a w:=by
 intro c
 induction c with
 |skip=>intro K s h Q hQ ρ a w hs;exact wp_skip (hQ .normal .normal s ρ a w rfl h hs)
 |label l=>intro K s h Q hQ ρ a w hs;exact wp_label (hQ .normal .normal s ρ a w rfl h hs)
 |exit id=>intro K s h Q hQ ρ a w hs;exact wp_exit (hQ (.exit id) (.exit id) s ρ a w rfl h hs)
 |ret=>intro K s h Q hQ ρ a w hs;exact wp_ret (hQ .ret .ret s ρ a w rfl h hs)
 |region id ops draw=>
  intro K s h Q hQ ρ a w hs;simp only[sx] at h
  split at h
  ·rename_i ps s' hr;rw[ey] at h;unfold xf at hr
   split at hr
   ·rename_i hd;subst hd;have:=Gv htt (hC id) hm hr h.1 hs (fun ρ' a' w' hs'=>hQ .normal .normal s' ρ' a' w' rfl h.2 hs') id
    simpa using this
   ·rename_i hd;have hd':draw=false:=by simpa using hd
    subst hd';exact wp_region_list (FN htt (hC id) _ _ _ _ hr h.1 ρ a w hs fun ρ' a' w' hs'=>hQ .normal .normal s' ρ' a' w' rfl h.2 hs')
  ·split at h
   ·rename_i hd;simp only[Bool.and_eq_true] at hd;obtain ⟨rfl,_⟩:=hd;have hz:(Array.replicate ops.size false)=(List.replicate ops.size false).toArray:=by simp
    refine wp_region_any hm ?_
    rw[hz];exact xh htt (hC id) (fun s' ρ' a' w' hk hs'=>hQ .normal .normal s' ρ' a' w' rfl hk hs') _ _ _ h ρ a _ ⟨hs.slots,⟨hs.mem.below.drew,hs.mem.ents,hs.mem.apart,hs.mem.froz,hs.mem.sub,hs.mem.mu0,hs.mem.f00,hs.mem.old,hs.mem.anc,hs.mem.tab⟩,hs.fresh⟩
   ·exact h.elim
 |seq x y ihx ihy=>
  intro K s h Q hQ ρ a w hs;simp only[sx] at h
  split at h
  ·rename_i I hI;obtain ⟨h1,h2⟩:=h;refine wp_seq (ihx _ s h1 _ ?_ ρ a w hs);intro e ex s' ρ' a' w' he hk hs'
   cases e with
   |normal=>
    simp only[cd,Option.some.injEq] at he;subst he;obtain ⟨i,hp,hl⟩:=hk;obtain ⟨ρt,ht⟩:=hL _ _ hl _ _ _ hs';exact ihy K _ (h2 i hp) Q hQ ρt a' w' ht
   |exit i=>
    simp only[cd,Option.some.injEq] at he;subst he;exact hQ (.exit i) (.exit i) s' ρ' a' w' rfl hk hs'
   |ret=>
    simp only[cd,Option.some.injEq] at he;subst he;exact hQ .ret .ret s' ρ' a' w' rfl hk hs'
   |goto l=>cases he
   |panic ch=>cases he
   |outgrown=>cases he
  ·refine wp_seq (ihx _ s h _ ?_ ρ a w hs);intro e ex s' ρ' a' w' he hk hs'
   cases e with
   |normal=>
    simp only[cd,Option.some.injEq] at he;subst he;exact ihy K s' hk Q hQ ρ' a' w' hs'
   |exit i=>
    simp only[cd,Option.some.injEq] at he;subst he;exact hQ (.exit i) (.exit i) s' ρ' a' w' rfl hk hs'
   |ret=>
    simp only[cd,Option.some.injEq] at he;subst he;exact hQ .ret .ret s' ρ' a' w' rfl hk hs'
   |goto l=>cases he
   |panic ch=>cases he
   |outgrown=>cases he
 |cond c x y ihx ihy=>
  intro K s h Q hQ ρ a w hs;simp only[sx] at h;have hE:=j7 hs.slots (g:=[]) (fun p hp=>by cases hp)
  split at h
  ·rename_i hc;exact wp_cond_true (hE _ _ hc) (ihx K s h Q hQ ρ a w hs)
  ·rename_i hc;exact wp_cond_false (hE _ _ hc) (ihy K s h Q hQ ρ a w hs)
  ·rename_i t hc;exact wp_cond_split (hE _ _ hc) (fun ht=>ihx K s (h.1 ht) Q hQ ρ a w hs) (fun ht=>ihy K s (h.2 ht) Q hQ ρ a w hs)
  ·exact h.elim
 |block id c ih=>
  intro K s h Q hQ ρ a w hs;simp only[sx] at h;refine wp_block (ih _ s h _ ?_ ρ a w hs);intro e ex s' ρ' a' w' he hk hs'
  cases e with
  |normal=>
   simp only[cd,Option.some.injEq] at he;subst he;exact hQ .normal .normal s' ρ' a' w' rfl hk hs'
  |exit i=>
   simp only[cd,Option.some.injEq] at he;subst he;dsimp only at hk;simp only[Exit.inBlock]
   by_cases hi:i=id
   ·rw[if_pos hi];rw[if_pos (by simp [hi])] at hk;exact hQ .normal .normal s' ρ' a' w' rfl hk hs'
   ·rw[if_neg hi];rw[if_neg (by simpa using hi)] at hk;exact hQ (.exit i) (.exit i) s' ρ' a' w' rfl hk hs'
  |ret=>
   simp only[cd,Option.some.injEq] at he;subst he;exact hQ .ret .ret s' ρ' a' w' rfl hk hs'
  |goto l=>cases he
  |panic ch=>cases he
  |outgrown=>cases he
 |loop c ih=>
  intro K s h Q hQ ρ a w hs;simp only[sx] at h
  split at h
  ·rename_i I hI;obtain ⟨⟨i0,hp0,hl0⟩,hround⟩:=h;obtain ⟨ρt0,ht0⟩:=hL _ _ hl0 _ _ _ hs;refine wp_loop_ghost (fun n a w=>∃ i ρ,I.μ i=n/\I.pre s i/\SH w0 nt (I.st s i) ρ a w) (I.μ i0) ⟨i0,ρt0,rfl,hp0,ht0⟩ ?_
   rintro n a' w' ⟨i,ρ',rfl,hpi,hsi⟩;refine ih _ _ (hround i hpi) _ ?_ ρ' a' w' hsi;intro e ex s' ρ'' a'' w'' he hk hs'
   cases e with
   |normal=>
    simp only[cd,Option.some.injEq] at he;subst he;obtain ⟨j,hpj,hlt,hl⟩:=hk;obtain ⟨ρt,ht⟩:=hL _ _ hl _ _ _ hs';exact ⟨I.μ j,hlt,j,ρt,rfl,hpj,ht⟩
   |exit k=>
    simp only[cd,Option.some.injEq] at he;subst he;exact hQ (.exit k) (.exit k) s' ρ'' a'' w'' rfl hk hs'
   |ret=>
    simp only[cd,Option.some.injEq] at he;subst he;exact hQ .ret .ret s' ρ'' a'' w'' rfl hk hs'
   |goto l=>cases he
   |panic ch=>cases he
   |outgrown=>cases he
  ·exact h.elim
 |_=>intro K s h;exact h.elim
end Go.Proofs.YtbhbjhejkamlnaaGreat.Sx
