import Derived.Test.YtbhbjhejkamlnaaGreatZx12
namespace Go.Proofs.YtbhbjhejkamlnaaGreat.Sx
open Go.RowKit
theorem xy {ρ ρ':Map} {g:List Nat} (ha:∀ id,nin id g=true -> ρ' id=ρ id /\ ρ'.cap id=ρ.cap id) {x:SC} (hz:ρ'.fz=ρ.fz ∨ oJ x=true) (hx:jk g x=true) {v:Value} (h:aJ ρ x v):aJ ρ' x v:=by
 have hat:∀ id,nin id g=true->∀ o,ρ'.at id o=ρ.at id o:=fun id hi o=>by simp [Map.at,Map.blk,Map.off,(ha id hi).1]
 have hbl:∀ id,nin id g=true -> ρ'.blk id=ρ.blk id:=fun id hi=>by simp [Map.blk,(ha id hi).1]
 cases x with
 |ptr id o=>obtain ⟨h0,rfl⟩:=h;exact ⟨by rw[(ha id hx).1];exact h0,by rw[hat id hx]⟩
 |slice id o n=>
  obtain ⟨A,c,rfl,hc,hA⟩:=h;exact ⟨A,c,rfl,hc,by rw[(ha id hx).1,hat id hx];exact hA⟩
 |osl e id lo n=>
  obtain ⟨A,c,rfl,hc,hA⟩:=h;exact ⟨A,c,rfl,hc,by rw[(ha id hx).1,(ha id hx).2,hbl id hx];exact hA⟩
 |optr e id i j=>obtain ⟨h0,rfl⟩:=h;exact ⟨by rw[(ha id hx).1];exact h0,by rw[hbl id hx]⟩
 |bm g id=>obtain ⟨h0,rfl⟩:=h;exact ⟨by rw[(ha id hx).1];exact h0,by rw[hat id hx]⟩
 |rows e d=>
  rcases hz with hz |hz
  ·show TRel ρ'.fz _ _ _;rw[hz];exact h
  ·cases hz
 |fp e d i j=>
  rcases hz with hz |hz
  ·obtain ⟨b,o,rfl,hr⟩:=h;exact ⟨b,o,rfl,by rw[hz];exact hr⟩
  ·cases hz
 |fn ag e p ok=>
  rcases hz with hz |hz
  ·show ∃ z,FzLe z ρ'.fz/\_;rw[hz];exact h
  ·cases hz
 |int=>exact h
 |bool=>exact h
 |nils=>exact h
 |raw=>exact h
theorem rS {g:List Nat}:∀ {l:List Seg},dH g l=true->∀ x∈cellsOf l,jk g x=true
 | [],_,x,h=>by simp [cellsOf] at h
 | .c y::r,hp,x,h=>by
   simp only[dH,Bool.and_eq_true] at hp;rw[aM,List.mem_append] at h
   rcases h with h |h
   ·simp only[Seg.cells,List.mem_singleton] at h;subst h;exact hp.1
   ·exact rS hp.2 x h
 | .ints k n f::r,hp,x,h=>by
   rw[aM,List.mem_append] at h
   rcases h with h |h
   ·simp only[Seg.cells,List.mem_map] at h;obtain ⟨o,_,rfl⟩:=h;rfl
   ·exact rS (l:=r) hp x h
theorem rT:∀ {l:List Seg},du l=true->∀ x∈cellsOf l,oJ x=true
 | [],_,x,h=>by simp [cellsOf] at h
 | .c y::r,hp,x,h=>by
   simp only[du,Bool.and_eq_true] at hp;rw[aM,List.mem_append] at h
   rcases h with h |h
   ·simp only[Seg.cells,List.mem_singleton] at h;subst h;exact hp.1
   ·exact rT hp.2 x h
 | .ints k n f::r,hp,x,h=>by
   rw[aM,List.mem_append] at h
   rcases h with h |h
   ·simp only[Seg.cells,List.mem_map] at h;obtain ⟨o,_,rfl⟩:=h;rfl
   ·exact rT (l:=r) hp x h
theorem mx {ρ ρ':Map} {g:List Nat} (ha:∀ id,nin id g=true -> ρ' id=ρ id /\ ρ'.cap id=ρ.cap id) {l:List Seg} (hz:ρ'.fz=ρ.fz ∨ du l=true) (hx:dH g l=true) {vs:List Value} (h:ax ρ (cellsOf l) vs):ax ρ' (cellsOf l) vs:=
 ⟨h.1,fun i x v h1 h2=>xy ha (hz.imp id fun hz=>rT hz x (List.mem_of_getElem? h1)) (rS hx x (List.mem_of_getElem? h1)) (h.2 i x v h1 h2)⟩
theorem xz {ρ ρ':Map} {g:List Nat} (ha:∀ id,nin id g=true -> ρ' id=ρ id /\ ρ'.cap id=ρ.cap id) {x:V1} (hz:ρ'.fz=ρ.fz ∨ oK x=true) (hx:ie g x=true) {v:Value} (h:bL ρ x v):bL ρ' x v:=by
 cases x with
 |sc c=>exact xy ha hz hx h
 |agg l=>obtain ⟨cs,rfl,hc⟩:=h;exact ⟨cs,rfl,mx ha hz hx hc⟩
theorem xA {ρ ρ':Map} {g:List Nat} (ha:∀ id,nin id g=true -> ρ' id=ρ id /\ ρ'.cap id=ρ.cap id):∀ {l:List V1} {vs:List Value},(ρ'.fz=ρ.fz ∨ l.all oK=true)->l.all (ie g)=true->dg ρ l vs->dg ρ' l vs
 | [],[],_,_,_=>trivial
 | [],_::_,_,_,h=>h.elim
 |_::_,[],_,_,h=>h.elim
 |x::l,v::vs,hz,hx,h=>by
  simp only[List.all_cons,Bool.and_eq_true] at hx hz;exact ⟨xz ha (hz.imp id And.left) hx.1 h.1,xA ha (hz.imp id And.right) hx.2 h.2⟩
theorem oO {ρ ρ':Map} {g:List Nat} (ha:∀ id,nin id g=true -> ρ' id=ρ id /\ ρ'.cap id=ρ.cap id) {x:SV} (hz:ρ'.fz=ρ.fz ∨ oL x=true) (hx:mw g x=true) {v:Value} (h:UR ρ x v):UR ρ' x v:=by
 cases x with
 |one x=>exact xz ha hz hx h
 |tup l=>obtain ⟨vs,rfl,ht⟩:=h;exact ⟨vs,rfl,xA ha hz hx ht⟩
 |cond=>cases hx
 |junk=>cases hx
def Ent.newIn (g:List Nat):Ent->Bool
 | .own _ l=>dH g l
 | .row _ l=>dH g l
 | .orow _ _=>true
 |_=>false
def Ent.plain:Ent->Bool
 | .own _ l=>du l
 | .row _ l=>du l
 | .orow e _=>ji (eks e)
 |_=>true
theorem cJ {g:List Nat} {fr:Nat}:∀ {h:ah},cR g fr h=true->∀ id x,ad h id=some x->x.isOwn=true/\fr<=id/\id<fr+8/\x.newIn g=true
 | [],_,id,x,h=>by simp [ad] at h
 |(i,e)::r,hk,id,x,h=>by
  simp only[ad] at h
  cases e with
  |own T l=>
   simp only[cR,Bool.and_eq_true] at hk
   split at h
   ·rename_i hj;obtain rfl:i=id:=by simpa using hj
    obtain rfl:=by simpa using h
    exact ⟨rfl,Nat.le_of_ble_eq_true hk.1.1.1,by simpa [Nat.blt_eq] using hk.1.1.2,hk.1.2⟩
   ·exact cJ hk.2 id x h
  |row T l=>
   simp only[cR,Bool.and_eq_true] at hk
   split at h
   ·rename_i hj;obtain rfl:i=id:=by simpa using hj
    obtain rfl:=by simpa using h
    exact ⟨rfl,Nat.le_of_ble_eq_true hk.1.1.1,by simpa [Nat.blt_eq] using hk.1.1.2,hk.1.2⟩
   ·exact cJ hk.2 id x h
  |orow e d=>
   simp only[cR,Bool.and_eq_true] at hk
   split at h
   ·rename_i hj;obtain rfl:i=id:=by simpa using hj
    obtain rfl:=by simpa using h
    exact ⟨rfl,Nat.le_of_ble_eq_true hk.1.1,by simpa [Nat.blt_eq] using hk.1.2,rfl⟩
   ·exact cJ hk.2 id x h
  |ro l=>cases hk
  |gone=>cases hk
theorem my:∀ {h:ah},fV h=true->∀ id x,ad h id=some x->x.plain=true
 | [],_,id,x,h=>by simp [ad] at h
 |(i,e)::r,hk,id,x,h=>by
  simp only[ad] at h
  split at h
  ·obtain rfl:=by simpa using h
   cases e<;>first |rfl |(simp only[fV,Bool.and_eq_true] at hk;exact hk.1)
  ·refine my (h:=r) ?_ id x h
   cases e<;>first |exact hk |(simp only[fV,Bool.and_eq_true] at hk;exact hk.2)
theorem ce {h:ah} {id:Nat}:nin id (aB h)=true↔(ad h id).isSome=true:=by
 induction h with
 |nil=>simp [nin,aB,ad]
 |cons p r ih=>
  obtain ⟨j,x⟩:=p;simp only[aB,List.map_cons,nin,List.any_cons,Bool.or_eq_true,ad]
  by_cases hj:j=id
  ·subst hj;simp
  ·have h1:(j==id)=false:=by simpa using hj
   have h2:Nat.beq id j=false:=by
    cases hb:Nat.beq id j with
    |false=>rfl
    |true=>exact absurd (Nat.eq_of_beq_eq_true hb).symm hj
   rw[h1,h2]
   simpa [nin,aB] using ih
theorem GI {fz fz':Fz} {k:K} (hk:ji [k]=true) {d:D} {v:Value} (h:TRel fz k d v):TRel fz' k d v:=by
 cases h with
 |int k d=>exact .int k d
 |bool d=>exact .bool d
 |str d=>exact .str d
 |nil e d h=>cases hk
 |empty=>cases hk
 |slice=>cases hk
theorem xB:∀ {l:List K},ji l=true->∀ (j:Nat) k,l[j]? = some k->ji [k]=true
 | [],_,j,k,h=>by simp at h
 |a::r,hp,j,k,h=>by
  cases j with
  |zero=>
   simp only[List.getElem?_cons_zero,Option.some.injEq] at h;subst h
   cases a<;>first |rfl |(cases hp)
  |succ j=>
   refine xB (l:=r) ?_ j k (by simpa using h)
   cases a<;>first |exact hp |(cases hp)
theorem GJ {ρ ρ':Map} {w:World} {b c:Nat} {e:TypeId} {d:D} (hz:ρ'.fz=ρ.fz ∨ ji (eks e)=true) (h:fm ρ w b c e d):fm ρ' w b c e d:=by
 obtain ⟨cs,h1,h2,h3,h4⟩:=h;refine ⟨cs,h1,h2,h3,fun i j k hi hk=>?_⟩;obtain ⟨u,hu,ht⟩:=h4 i j k hi hk;refine ⟨u,hu,?_⟩
 rcases hz with hz |hz
 ·rw[hz];exact ht
 ·exact GI (xB hz j k hk) ht
theorem oP {B B':Nat} {ρ ρ':Map} {g:List Nat} (ha:∀ id,nin id g=true -> ρ' id=ρ id /\ ρ'.cap id=ρ.cap id) {w:World} {id:Nat} {x:Ent} (hid:nin id g=true) (hz:ρ'.fz=ρ.fz ∨ x.plain=true) (hs:x.newIn g=true) (hm:(ρ id).isSome=true->fk B' ρ' (ρ.blk id)) (h:c8 B ρ w id x):c8 B' ρ' w id x:=by
 have hb:ρ'.blk id=ρ.blk id:=by simp [Map.blk,(ha id hid).1]
 have hf:ρ'.off id=ρ.off id:=by simp [Map.off,(ha id hid).1]
 cases x with
 |own T m=>
  obtain ⟨a,b,c,vs,d,e⟩:=h;exact ⟨by rw[(ha id hid).1];exact a,by rw[hf];exact b,by rw[hb];exact hm a,vs,mx ha hz hs d,by rw[hb];exact e⟩
 |row T m=>
  obtain ⟨a,b,c,vs,r,d,e⟩:=h;exact ⟨by rw[(ha id hid).1];exact a,by rw[hf];exact b,by rw[hb];exact hm a,vs,r,mx ha hz hs d,by rw[hb];exact e⟩
 |orow e d=>
  rcases h with ⟨a,b⟩ |⟨a,b,c,r⟩
  ·exact .inl ⟨by rw[(ha id hid).1];exact a,b⟩
  ·exact .inr ⟨by rw[(ha id hid).1];exact a,by rw[hf];exact b,by rw[hb];exact hm a,by rw[hb,(ha id hid).2];exact GJ hz r⟩
 |ro m=>cases hs
 |gone=>cases hs
section
variable {hp:ah} {w0:W0} {w:World} {ρ:Map} {all:List Nat}
theorem xD (hw:WH w0 ρ hp w) {x y:SC} {fs:List Prop} {ids:List Nat} {x':SC} (h:ig hp x y=(x',fs,ids)) (hp':All fs) (hall:∀ id∈ids,bE hp id=true->id∈all) {v:Value} (hv:aJ ρ x v):aJ (ρ.frz w all) x' v:=by
 have ext:Ext ρ (ρ.frz w all):=(cF (B:=0) hw.froz all .junk []).ext;unfold ig at h
 split at h
 ·rename_i e id lo n e' d
  split at h
  ·rename_i d' ps hc;simp only[Prod.mk.injEq] at h;obtain ⟨rfl,rfl,rfl⟩:=h;exact we hc hp' hw hv (fun i hi ho=>hall i (by simpa [iY] using hi) ho)
  ·simp only[Prod.mk.injEq] at h;obtain ⟨rfl,rfl,rfl⟩:=h;exact gV ext hv
 ·simp only[Prod.mk.injEq] at h;obtain ⟨rfl,rfl,rfl⟩:=h;exact gV ext hv
theorem oQ (hw:WH w0 ρ hp w):∀ (x y:List Seg) {fs:List Prop} {ids:List Nat} {x':List Seg},bY hp x y=(x',fs,ids)->All fs->(∀ id∈ids,bE hp id=true->id∈all)->∀ {vs:List Value},ax ρ (cellsOf x) vs->ax (ρ.frz w all) (cellsOf x') vs
 | .c x::r,.c y::s,fs,ids,x',h,hp',hall,vs,hv=>by
   simp only[bY,Prod.mk.injEq] at h;obtain ⟨rfl,rfl,rfl⟩:=h;have h1:ig hp x y=((ig hp x y).1,(ig hp x y).2.1,(ig hp x y).2.2):=rfl;have h2:bY hp r s=((bY hp r s).1,(bY hp r s).2.1,(bY hp r s).2.2):=rfl;obtain ⟨hp1,hp2⟩:=all_append.1 hp';rw[aM] at hv ⊢;obtain ⟨u,v,rfl,g1,g2⟩:=cG.1 hv;refine cG.2 ⟨u,v,rfl,⟨g1.1,fun i a b ha hb=>?_⟩,oQ hw r s h2 hp2 (fun id hi=>hall id (List.mem_append_right _ hi)) g2⟩
   cases i with
   |zero=>
    simp only[Seg.cells,List.getElem?_cons_zero,Option.some.injEq] at ha;subst ha;exact xD hw h1 hp1 (fun id hi=>hall id (List.mem_append_left _ hi)) (g1.2 0 x b (by simp [Seg.cells]) hb)
   |succ i=>simp [Seg.cells] at ha
 | .ints k n f::r,.ints _ _ _::s,fs,ids,x',h,hp',hall,vs,hv=>by
   simp only[bY,Prod.mk.injEq] at h;obtain ⟨rfl,rfl,rfl⟩:=h;have h2:bY hp r s=((bY hp r s).1,(bY hp r s).2.1,(bY hp r s).2.2):=rfl;rw[aM] at hv ⊢;obtain ⟨u,v,rfl,g1,g2⟩:=cG.1 hv;exact cG.2 ⟨u,v,rfl,dc (cF (B:=0) hw.froz all .junk []).ext g1,oQ hw r s h2 hp' hall g2⟩
 | [],y,fs,ids,x',h,hp',hall,vs,hv=>by
   simp only[bY,Prod.mk.injEq] at h;obtain ⟨rfl,rfl,rfl⟩:=h;exact dc (cF (B:=0) hw.froz all .junk []).ext hv
 | .c x::r,[],fs,ids,x',h,hp',hall,vs,hv=>by
   simp only[bY,Prod.mk.injEq] at h;obtain ⟨rfl,rfl,rfl⟩:=h;exact dc (cF (B:=0) hw.froz all .junk []).ext hv
 | .c x::r,.ints .. :: s,fs,ids,x',h,hp',hall,vs,hv=>by
   simp only[bY,Prod.mk.injEq] at h;obtain ⟨rfl,rfl,rfl⟩:=h;exact dc (cF (B:=0) hw.froz all .junk []).ext hv
 | .ints .. :: r,[],fs,ids,x',h,hp',hall,vs,hv=>by
   simp only[bY,Prod.mk.injEq] at h;obtain ⟨rfl,rfl,rfl⟩:=h;exact dc (cF (B:=0) hw.froz all .junk []).ext hv
 | .ints .. :: r,.c _::s,fs,ids,x',h,hp',hall,vs,hv=>by
   simp only[bY,Prod.mk.injEq] at h;obtain ⟨rfl,rfl,rfl⟩:=h;exact dc (cF (B:=0) hw.froz all .junk []).ext hv
theorem xE (hw:WH w0 ρ hp w) {x y:V1} {fs:List Prop} {ids:List Nat} {x':V1} (h:ii hp x y=(x',fs,ids)) (hp':All fs) (hall:∀ id∈ids,bE hp id=true->id∈all) {v:Value} (hv:bL ρ x v):bL (ρ.frz w all) x' v:=by
 have ext:Ext ρ (ρ.frz w all):=(cF (B:=0) hw.froz all .junk []).ext;unfold ii at h
 split at h
 ·rename_i x y;simp only[Prod.mk.injEq] at h;obtain ⟨rfl,rfl,rfl⟩:_/\_/\_:=⟨h.1,congrArg Prod.fst h.2,congrArg Prod.snd h.2⟩;exact xD hw (x:=x) (y:=y) rfl hp' hall hv
 ·rename_i a b;simp only[Prod.mk.injEq] at h;obtain ⟨rfl,rfl,rfl⟩:_/\_/\_:=⟨h.1,congrArg Prod.fst h.2,congrArg Prod.snd h.2⟩;have h1:bY hp a b=((bY hp a b).1,(bY hp a b).2.1,(bY hp a b).2.2):=rfl;obtain ⟨cs,rfl,hc⟩:=hv;exact ⟨cs,rfl,oQ hw _ _ h1 hp' hall hc⟩
 ·simp only[Prod.mk.injEq] at h;obtain ⟨rfl,rfl,rfl⟩:=h;exact nV ext hv
theorem xF (hw:WH w0 ρ hp w):∀ (x y:List V1) {fs:List Prop} {ids:List Nat} {x':List V1},d9 hp x y=(x',fs,ids)->All fs->(∀ id∈ids,bE hp id=true->id∈all)->∀ {vs:List Value},dg ρ x vs->dg (ρ.frz w all) x' vs
 |x::r,y::s,fs,ids,x',h,hp',hall,vs,hv=>by
  simp only[d9,Prod.mk.injEq] at h;obtain ⟨rfl,rfl,rfl⟩:=h;have h1:ii hp x y=((ii hp x y).1,(ii hp x y).2.1,(ii hp x y).2.2):=rfl;have h2:d9 hp r s=((d9 hp r s).1,(d9 hp r s).2.1,(d9 hp r s).2.2):=rfl;obtain ⟨hp1,hp2⟩:=all_append.1 hp'
  cases vs with
  |nil=>exact hv.elim
  |cons v vs=>exact ⟨xE hw h1 hp1 (fun id hi=>hall id (List.mem_append_left _ hi)) hv.1,xF hw r s h2 hp2 (fun id hi=>hall id (List.mem_append_right _ hi)) hv.2⟩
 | [],y,fs,ids,x',h,hp',hall,vs,hv=>by
   simp only[d9,Prod.mk.injEq] at h;obtain ⟨rfl,rfl,rfl⟩:=h;exact nW (cF (B:=0) hw.froz all .junk []).ext hv
 |x::r,[],fs,ids,x',h,hp',hall,vs,hv=>by
  simp only[d9,Prod.mk.injEq] at h;obtain ⟨rfl,rfl,rfl⟩:=h;exact nW (cF (B:=0) hw.froz all .junk []).ext hv
theorem mz (hw:WH w0 ρ hp w) {x y:SV} {fs:List Prop} {ids:List Nat} {x':SV} (h:dv hp x y=(x',fs,ids)) (hp':All fs) (hall:∀ id∈ids,bE hp id=true->id∈all) {v:Value} (hv:UR ρ x v):UR (ρ.frz w all) x' v:=by
 have ext:Ext ρ (ρ.frz w all):=(cF (B:=0) hw.froz all .junk []).ext;unfold dv at h
 split at h
 ·rename_i x y;simp only[Prod.mk.injEq] at h;obtain ⟨rfl,rfl,rfl⟩:_/\_/\_:=⟨h.1,congrArg Prod.fst h.2,congrArg Prod.snd h.2⟩;exact xE hw (x:=x) (y:=y) rfl hp' hall hv
 ·rename_i a b;simp only[Prod.mk.injEq] at h;obtain ⟨rfl,rfl,rfl⟩:_/\_/\_:=⟨h.1,congrArg Prod.fst h.2,congrArg Prod.snd h.2⟩;have h1:d9 hp a b=((d9 hp a b).1,(d9 hp a b).2.1,(d9 hp a b).2.2):=rfl;obtain ⟨vs,rfl,ht⟩:=hv;exact ⟨vs,rfl,xF hw _ _ h1 hp' hall ht⟩
 ·simp only[Prod.mk.injEq] at h;obtain ⟨rfl,rfl,rfl⟩:=h;exact vL ext hv
end
def rU:ah->List Nat
 | []=>[]
 |(i,.gone)::r=>i::rU r
 |_::r=>rU r
def xG (F:List Nat):SC->SC
 | .osl e id lo n=>if nin id F then .rows e (.l []) else .osl e id lo n
 |x=>x
def ij (F:List Nat):List Seg->List Seg
 | []=>[]
 | .c x::r=>.c (xG F x)::ij F r
 | .ints k n f::r=>.ints k n f::ij F r
def GK (F:List Nat):V1->V1
 | .sc x=>.sc (xG F x)
 | .agg l=>.agg (ij F l)
def fW (F:List Nat):SV->SV
 | .one x=>.one (GK F x)
 |_=>.junk
def fX (F:List Nat) (hp:ah):aT->aT × List Prop × List Nat
 | []=>([],[],[])
 |(t,x)::r=>(match dv hp x (fW F x),fX F hp r with |(x',ps,is),(r',qs,js)=>((t,x')::r',ps++qs,is++js))
def ik (F:List Nat) (hp:ah):Ent->Ent × List Prop × List Nat
 | .own T l=>(match bY hp l (ij F l) with |(l',ps,is)=>(.own T l',ps,is))
 |x=>(x,[],[])
def eg (F:List Nat) (hp:ah):ah->ah × List Prop × List Nat
 | []=>([],[],[])
 |(i,e)::r=>(match ik F hp e,eg F hp r with |(e',ps,is),(r',qs,js)=>((i,e')::r',ps++qs,is++js))
def rV (b:Bool) (F:List Nat) (s t:St):Prop:=
 match fX F s.hp s.tm,eg F s.hp s.hp with
 |(tm,ps,is),(h,qs,js)=>eN ps (eN qs (LeQ b {tm:=tm,hp:=aL (aw s.hp (is++js))++h,nx:=s.nx} t))
def LFb (b:Bool) (s t:St):Prop:=match rU t.hp with
 | []=>LeQ b s t
 |F=>rV b F s t
def LF (s t:St):Prop:=LFb false s t
theorem xH {F:List Nat} {hp:ah}:∀ {sl:aT} {t:Nat} {x':SV},ad (fX F hp sl).1 t=some x'->∃ x,ad sl t=some x/\(dv hp x (fW F x)).1=x'/\(∀ p∈(dv hp x (fW F x)).2.1,p∈(fX F hp sl).2.1)/\∀ i∈(dv hp x (fW F x)).2.2,i∈(fX F hp sl).2.2
 | [],t,x',h=>by simp [fX,ad] at h
 |(u,x)::r,t,x',h=>by
  simp only[fX,ad] at h ⊢
  split at h
  ·rename_i hu;rw[if_pos hu];exact ⟨x,rfl,by simpa using h,fun p hp=>List.mem_append_left _ hp,fun i hi=>List.mem_append_left _ hi⟩
  ·rename_i hu;rw[if_neg hu];obtain ⟨y,h1,h2,h3,h4⟩:=xH h;exact ⟨y,h1,h2,fun p hp=>List.mem_append_right _ (h3 p hp),fun i hi=>List.mem_append_right _ (h4 i hi)⟩
theorem xI {F:List Nat} {hp:ah}:∀ {h:ah} {t:Nat} {e':Ent},ad (eg F hp h).1 t=some e'->∃ e,ad h t=some e/\(ik F hp e).1=e'/\(∀ p∈(ik F hp e).2.1,p∈(eg F hp h).2.1)/\∀ i∈(ik F hp e).2.2,i∈(eg F hp h).2.2
 | [],t,x',h=>by simp [eg,ad] at h
 |(u,x)::r,t,x',h=>by
  simp only[eg,ad] at h ⊢
  split at h
  ·rename_i hu;rw[if_pos hu];exact ⟨x,rfl,by simpa using h,fun p hp=>List.mem_append_left _ hp,fun i hi=>List.mem_append_left _ hi⟩
  ·rename_i hu;rw[if_neg hu];obtain ⟨y,h1,h2,h3,h4⟩:=xI h;exact ⟨y,h1,h2,fun p hp=>List.mem_append_right _ (h3 p hp),fun i hi=>List.mem_append_right _ (h4 i hi)⟩
theorem oR {l:List Prop}:All l ↔ ∀ p∈l,p:=by
 induction l with
 |nil=>simp [All]
 |cons q r ih=>simp only[All,ih,List.mem_cons,forall_eq_or_imp]
theorem GL {F:List Nat} {hp:ah} (e:Ent):(ik F hp e).1.isOwn=e.isOwn:=by
 cases e<;>rfl
theorem xJ {α:Type} {a b:List (Nat × α)} {i:Nat}:ad (a++b) i=match ad a i with |some x=>some x |none=>ad b i:=by
 induction a with
 |nil=>rfl
 |cons y r ih=>
  obtain ⟨j,x⟩:=y;simp only[List.cons_append,ad];split
  ·rfl
  ·exact ih
theorem GM {b:Bool} {F:List Nat} {s t:St} (h:rV b F s t) {w0:W0} (hb:w0.anc.isSome=true->b=true) {nt:Nat} {ρ:Map} {a:Act} {w:World} (hs:SH w0 nt s ρ a w):∃ ρ',SH w0 nt t ρ' a w:=by
 unfold rV at h;dsimp only at h;rw[ey,ey] at h;obtain ⟨hps,hqs,hle⟩:=h;generalize hall:aw s.hp ((fX F s.hp s.tm).2.2++(eg F s.hp s.hp).2.2)=all at hle;have inAll:∀ i,i∈(fX F s.hp s.tm).2.2 ∨ i∈(eg F s.hp s.hp).2.2->bE s.hp i=true->i∈all:=fun i hi ho=>by
  rw[<- hall];exact cE.2 ⟨List.mem_append.2 hi,ho⟩
 have hfr0:=cF (B:=w0.heap.size) hs.mem.froz all .junk [];have ext:Ext ρ (ρ.frz w all):=hfr0.ext;have mem1:WH w0 (ρ.frz w all) (aL all++s.hp) w:=by
  have:=gZ hs.mem hfr0 (fun i x hx=>by rw[<- hall] at hx;exact lX i x hx) (fun _ _ h=>by simp [ad] at h);exact this
 have lk:∀ i e',ad (aL all++(eg F s.hp s.hp).1) i=some e'->e' = .gone ∨ ∃ e,ad (aL all++s.hp) i=some e/\ad s.hp i=some e/\(ik F s.hp e).1=e'/\(∀ p∈(ik F s.hp e).2.1,p∈(eg F s.hp s.hp).2.1)/\∀ i∈(ik F s.hp e).2.2,i∈(eg F s.hp s.hp).2.2:=fun i e' hl=>by
  rw[xJ] at hl
  split at hl
  ·rename_i x hx
   left
   rw[<- Option.some.inj hl];exact (c7 hx).1
  ·rename_i hx
   right
   obtain ⟨e,h1,h2,h3,h4⟩:=xI hl;exact ⟨e,by rw[xJ,hx];exact h1,h1,h2,h3,h4⟩
 have mem2:WH w0 (ρ.frz w all) (aL all++(eg F s.hp s.hp).1) w:=by
  refine ⟨mem1.below,fun i e' hl=>?_,fun i j x y hx hy ox oy=>?_,mem1.froz,mem1.sub,mem1.mu0,mem1.f00,mem1.old,mem1.anc,mem1.tab⟩
  ·rcases lk i e' hl with rfl |⟨e,h1,h2,h3,h4,h5⟩
   ·trivial
   ·have g1:=mem1.ents i e h1;have g0:=hs.mem.ents i e h2
    cases e with
    |own T l=>
     obtain ⟨a1,a2,a3,vs,hc,hh⟩:=g1;obtain ⟨_,_,_,vs0,hc0,hh0⟩:=g0;have ev:vs=vs0:=by
      have e1:(ρ.frz w all).blk i=ρ.blk i:=rfl;rw[e1,hh0] at hh;have:=Option.some.inj hh
      injection this with e2
      exact (Array.toList_inj.2 e2.symm:vs.toArray.toList=vs0.toArray.toList)
     subst ev;have hf:=oQ (all:=all) hs.mem l (ij F l) (x':=(bY s.hp l (ij F l)).1) (fs:=(bY s.hp l (ij F l)).2.1) (ids:=(bY s.hp l (ij F l)).2.2) rfl (oR.2 fun p hp=>oR.1 hqs p (h4 p hp)) (fun id hi ho=>inAll id (.inr (h5 id hi)) ho) hc0;rw[<- h3];exact ⟨a1,a2,a3,vs,hf,hh⟩
    |row T l=>rw[<- h3];exact g1
    |orow e d=>rw[<- h3];exact g1
    |ro l=>rw[<- h3];exact g1
    |gone=>rw[<- h3];exact g1
  ·have own:∀ i e',ad (aL all++(eg F s.hp s.hp).1) i=some e'->e'.isOwn=true->∃ e,ad (aL all++s.hp) i=some e/\e.isOwn=true:=fun i e' hl ho=>by
    rcases lk i e' hl with rfl |⟨e,h1,_,h3,_⟩
    ·cases ho
    ·exact ⟨e,h1,by rw[<- GL (F:=F) (hp:=s.hp) e,h3];exact ho⟩
   obtain ⟨x0,hx0,ox0⟩:=own i x hx ox;obtain ⟨y0,hy0,oy0⟩:=own j y hy oy;exact mem1.apart i j x0 y0 hx0 hy0 ox0 oy0
 have slots:AH (ρ.frz w all) nt (fX F s.hp s.tm).1 a:=by
  refine ⟨hs.slots.size,hs.slots.defers,fun u x' hl=>?_⟩;obtain ⟨x,h1,h2,h3,h4⟩:=xH hl;have hv:=hs.slots.slots u x h1;have hq:=fun hu=>mz (all:=all) hs.mem (x:=x) (y:=fW F x) (x':=(dv s.hp x (fW F x)).1) (fs:=(dv s.hp x (fW F x)).2.1) (ids:=(dv s.hp x (fW F x)).2.2) rfl (oR.2 fun p hp=>oR.1 hps p (h3 p hp)) (fun id hi ho=>inAll id (.inl (h4 id hi)) ho) (v:=a.tmps.getD u undef) hu
  rw[h2] at hq
  cases x with
  |one y=>
   have:=hq hv
   cases y with
   |sc c=>rw[<- h2] at this ⊢;exact this
   |agg l=>rw[<- h2] at this ⊢;exact this
  |tup l=>
   have e:(dv s.hp (.tup l) (fW F (.tup l))).1 = .tup l:=rfl;rw[<- h2,e];exact nX ext hv
  |cond g y=>
   have e:(dv s.hp (.cond g y) (fW F (.cond g y))).1 = .cond g y:=rfl;rw[<- h2,e];exact nX ext hv
  |junk=>rw[<- h2];trivial
 obtain ⟨δ,hl,hb2⟩:=xt hle;exact ⟨_,ki hl (fun h=>hb2 (hb h)) ⟨slots,mem2,hs.fresh⟩⟩
theorem rW {b:Bool} {w0:W0} (hb:w0.anc.isSome=true->b=true) {nt:Nat}:∀ s t,LFb b s t->∀ ρ a w,SH w0 nt s ρ a w->∃ ρ',SH w0 nt t ρ' a w:=fun s t h ρ a w hs=>by
 unfold LFb at h
 split at h
 ·obtain ⟨δ,hl,hb2⟩:=xt h;exact ⟨_,ki hl (fun h=>hb2 (hb h)) hs⟩
 ·exact GM h hb hs
theorem xK {w0:W0} (h0:w0.anc=none) {nt:Nat}:∀ s t,LF s t->∀ ρ a w,SH w0 nt s ρ a w->∃ ρ',SH w0 nt t ρ' a w:=rW (fun h=>by rw[h0] at h;cases h)
theorem GN {P:Program} {tt:TT} (htt:aP P tt) {s:St} {r:ResultVar} {x:V1} {ps:List Prop} (h:oM tt s r=some (x,ps)) (hp:All ps) {w0:W0} {w:World} {nt:Nat} {ρ:Map} {a:Act} (hs:SH w0 nt s ρ a w) :
 ∃ v,((match r with | .tmp t=>pure (a.tmps.getD t undef) | .cell t T=>do loadVar T (<- asAddr (a.tmps.getD t undef))):Sem Value).run P w = .ok v w/\bL ρ x v:=by
 cases r with
 |tmp t=>
  simp only[oM] at h
  split at h
  ·rename_i y hy;obtain ⟨rfl,rfl⟩:=by simpa using h
   exact ⟨_,rfl,hs.slots.slots t _ hy⟩
  ·cases h
 |cell t T=>
  simp only[oM] at h
  split at h
  ·rename_i c hl;obtain ⟨A,v,g0,h1,h2⟩:=zn htt h hp hs.mem (hs.slots.slots t _ hl);refine ⟨v,?_,h2⟩;simp only[g0,asAddr,Sem.run_bind,Sem.run_pure,Result.andThen_ok,h1]
  ·cases h
theorem xL {P:Program} {tt:TT} (htt:aP P tt) {s:St} {w0:W0} {w:World} {nt:Nat} {ρ:Map} {a:Act} (hs:SH w0 nt s ρ a w):∀ (l:List ResultVar) (xs:List V1) (ps:List Prop),kq tt s l=some (xs,ps)->All ps ->
 ∃ vs:List Value,(l.mapM fun | .tmp t=>pure (a.tmps.getD t undef) | .cell t T=>do loadVar T (<- asAddr (a.tmps.getD t undef)):Sem (List Value)).run P w = .ok vs w/\dg ρ xs vs/\xs.length=vs.length
 | [],xs,ps,h,_=>by
   simp only[kq,Option.some.injEq,Prod.mk.injEq] at h;obtain ⟨rfl,rfl⟩:=h;exact ⟨[],rfl,trivial,rfl⟩
 |r::l,xs,ps,h,hp=>by
  simp only[kq] at h
  split at h
  ·rename_i x ps1 ys qs hx hr;simp only[Option.some.injEq,Prod.mk.injEq] at h;obtain ⟨rfl,rfl⟩:=h;obtain ⟨hp1,hp2⟩:=all_append.1 hp;obtain ⟨v,h1,h2⟩:=GN htt hx hp1 hs;obtain ⟨vs,h3,h4,h5⟩:=xL htt hs l ys qs hr hp2;refine ⟨v::vs,?_,⟨h2,h4⟩,by simp [h5]⟩;rw[List.mapM_cons,Sem.run_bind,h1];simp only[Result.andThen_ok,Sem.run_bind];rw[h3];rfl
  ·cases h
theorem oS {P:Program} {tt:TT} (htt:aP P tt) {s:St} {w0:W0} {w:World} {nt:Nat} {ρ:Map} {a:Act} (hs:SH w0 nt s ρ a w) {fn:Func} {x:SV} {ps:List Prop} (h:oN tt s fn.results.toList=some (x,ps)) (hp:All ps) :
 ∃ v,(results fn a.tmps).run P w = .ok v w/\UR ρ x v:=by
 unfold oN at h;have key:∀ (xs:List V1) (qs:List Prop),kq tt s fn.results.toList=some (xs,qs)->All qs->∃ vs:List Value,(results fn a.tmps).run P w = .ok (if h:vs.toArray.size=1 then vs.toArray[0] else .tuple vs.toArray) w/\dg ρ xs vs/\xs.length=vs.length:=fun xs qs hx hq=>by
  obtain ⟨vs,h1,h2,h3⟩:=xL htt hs _ xs qs hx hq;refine ⟨vs,?_,h2,h3⟩;unfold results;rw[<- Array.toArray_toList (xs:=fn.results),List.mapM_toArray,Sem.run_bind,Sem.run_map]
  erw [h1]
  rfl
 split at h
 ·rename_i y qs hx;obtain ⟨rfl,rfl⟩:=by simpa using h
  obtain ⟨vs,h1,h2,h3⟩:=key _ _ hx hp
  match vs,h3 with
  | [v],_=>exact ⟨v,by simpa using h1,h2.1⟩
 ·rename_i xs qs hne hx;obtain ⟨rfl,rfl⟩:=by simpa using h
  obtain ⟨vs,h1,h2,h3⟩:=key _ _ hx hp;have hl:¬ vs.toArray.size=1:=by
   intro e;have:xs.length=1:=by rw[h3];simpa using e
   match xs,this with
   | [y],_=>exact hne y rfl
  rw[dif_neg hl] at h1;exact ⟨_,h1,vs.toArray,rfl,h2⟩
 ·cases h
theorem mA:∀ (l:List SV) (i t:Nat) x,ad (fo l i) t=some x->i<=t/\l[t-i]? = some x
 | [],i,t,x,h=>by simp [fo,ad] at h
 |y::l,i,t,x,h=>by
  simp only[fo,ad] at h
  split at h
  ·rename_i hj;obtain rfl:i=t:=by simpa using hj
   obtain rfl:=by simpa using h
   simp
  ·rename_i hj;have hne:i≠t:=by intro e;subst e;simp at hj
   obtain ⟨h1,h2⟩:=mA l (i+1) t x h;refine ⟨by omega,?_⟩;have e:t-i=(t-(i+1))+1:=by omega
   rw[e];simpa using h2
theorem mB {ρ:Map}:∀ {l:List SV} {vs:List Value} {i:Nat} {x:SV},dD ρ l vs->l[i]? = some x->∃ v,vs[i]? = some v/\UR ρ x v
 | [],_,i,x,_,h=>by simp at h
 |_::_,[],_,_,h,_=>h.elim
 |y::l,v::vs,i,x,h,hi=>by
  cases i with
  |zero=>simp at hi;subst hi;exact ⟨v,rfl,h.1⟩
  |succ i=>simpa using mB h.2 (by simpa using hi)
theorem mC {ρ:Map}:∀ {l:List SV} {vs:List Value},dD ρ l vs->l.length=vs.length
 | [],[],_=>rfl
 | [],_::_,h=>h.elim
 |_::_,[],h=>h.elim
 |_::_,_::_,h=>by simp [mC h.2]
theorem jm:∀ (aps:List AP) (ds:List Dat) (id:Nat) y h id',unP aps ds id=some (y,h,id')->y.length=aps.length
 | [],[],id,y,h,id',e=>by simp only[unP,Option.some.injEq,Prod.mk.injEq] at e;rw[<- e.1];rfl
 | [],_::_,_,_,_,_,e=>by simp [unP] at e
 | .sc a::l,[],_,_,_,_,e=>by simp [unP] at e
 | .sc a::l,d::ds,id,y,h,id',e=>by
   simp only[unP] at e
   split at e
   ·rename_i x h1 s h2 i2 _ hr;simp only[Option.some.injEq,Prod.mk.injEq] at e;rw[<- e.1];simp [jm l ds _ _ _ _ hr]
   ·cases e
 | .agg g::l,ds,id,y,h,id',e=>by
   simp only[unP] at e
   split at e
   ·rename_i x h1 ds' id1 hg
    split at e
    ·rename_i s h2 i2 hr;simp only[Option.some.injEq,Prod.mk.injEq] at e;rw[<- e.1];simp [jm l ds' _ _ _ _ hr]
    ·cases e
   ·cases e
 | .ptr g::l,ds,id,y,h,id',e=>by
   simp only[unP] at e
   split at e
   ·rename_i x h1 ds' id1 hg
    split at e
    ·rename_i s h2 i2 hr;simp only[Option.some.injEq,Prod.mk.injEq] at e;rw[<- e.1];simp [jm l ds' _ _ _ _ hr]
    ·cases e
   ·cases e
theorem GO {P:Program} {tt:TT} (htt:aP P tt) (hm:P.follows .mixedOrders=true) {f:FuncId} {fn:Func} {c:Code} (hf:P.funcs[f]? = some fn) (hb:fn.body=some c) (hen:∀ (args:Array Value) (w:World),(callFunc f args).run P w = .ok (.enter f args) w)
 {A:List Dat->Ann} (hC:∀ ds id,cZ P ((A ds).C id)) {aps:List AP} {spec:FSpec} (hn:Nat.ble aps.length fn.ntmps=true)
 (H:∀ ds fr e svs h id,spec ds fr=some e->All e.vc->unP aps ds 0=some (svs,h,id)->sx tt fn.ntmps (A ds) LF c (jl tt fn.results.toList e fr) {tm:=fo svs 0,hp:=h,nx:=id}):ConOK P f (con aps spec):=by
 refine ⟨hen,?_,fun hp fr caps e h=>by rw[jj] at h;cases h⟩;intro hp fr args e0 h0 hvc w0 w ρ vs hw hfr hargs;unfold con at h0
 split at h0
 ·rename_i ds ps hds
  split at h0
  ·rename_i e he;obtain rfl:=by simpa using h0
   obtain ⟨hp1,hp2⟩:=all_append.1 hvc;have hidsAll:∀ i∈be hp args,bE hp i=true->i∈aw hp (be hp args):=fun i hi ho=>cE.2 ⟨hi,ho⟩
   obtain ⟨svs,h,ρ1,id,hun,_,hin,hrel⟩:=gC hw aps args ds ps hds hp1 vs hargs hidsAll 0;have hsx:=H ds fr e svs h id he hp2 hun;have hlen:vs.length<=fn.ntmps:=by
    have h1:=jm aps ds 0 svs h id hun;have h2:=mC hrel;have:=Nat.le_of_ble_eq_true hn;omega
   have hsz:(vs.toArray++Array.replicate (fn.ntmps-vs.toArray.size) undef).size=fn.ntmps:=by simp;omega
   have hwh:WH ⟨w,bp ρ w (aw hp (be hp args)),fun _=>false,none⟩ ρ1 h w:=by
    refine ⟨BelowM.refl _ _ _,fun i x hx=>(hin.ents i x hx).1 _ _,fun i j x y hx _ ho=>?_,fun b cs hb=>?_,fun b cs hb=>?_,hin.hmu,hin.hf0,fun b cs hb=>.inl ?_,fun _ h=>(by cases h),hw.tabP _⟩
    ·have:=(hin.ents i x hx).2.1;rw[this] at ho;cases ho
    ·rw[hin.hfz] at hb;exact qY hw.froz hb
    ·rw[hin.hf0] at hb;rw[hin.hfz];exact hb
    ·rw[hin.hfz] at hb;rw[hin.hf0];exact hb
   refine calls_of_wp hf hb ?_
   refine oF htt hm (hC ds) (w0:=⟨w,bp ρ w (aw hp (be hp args)),fun _=>false,none⟩) (xK rfl) c _ _ hsx _ ?_ ρ1 _ w ⟨⟨hsz,rfl,?_⟩,hwh,fun i hi=>hin.out i (.inr hi)⟩
   ·intro ex xx s' ρ' a w' hex hk hs';have done:jl tt fn.results.toList e fr .ret s'->a.defers=[]/\∃ v,(results fn a.tmps).run P w' = .ok v w'/\∃ ρ'' u,Ending.returned v = .returned u/\UR ρ'' e.val u/\Fr w0.heap.size ρ ρ'' w w' {e with vc:=ps++e.vc,st:=if bJ e then [] else aL (aw hp (be hp args))}:=by
     intro hk;simp only[jl] at hk
     split at hk
     ·rename_i v qs hres;rw[ey] at hk;obtain ⟨hq,hk⟩:=hk;generalize hfrz:dv s'.hp v e.val=fz3 at hk;obtain ⟨v',fs,ids⟩:=fz3;dsimp only at hk;rw[ey] at hk;obtain ⟨hfs,hk⟩:=hk
      split at hk
      rename_i la lb hla hlb
      split at hk
      rename_i hok;obtain ⟨hk1,hk2⟩:=all_append.1 (kj hk);obtain ⟨u,hu1,hu2⟩:=oS htt hs' hres hq;have hu2':=mz hs'.mem hfrz hfs (fun i hi ho=>cE.2 ⟨hi,ho⟩) hu2;have hfr0:=cF (B:=w.heap.size) hs'.mem.froz (aw s'.hp ids) .junk [];have hmem':WH ⟨w,bp ρ w (aw hp (be hp args)),fun _=>false,none⟩ (ρ'.frz w' (aw s'.hp ids)) (aL (aw s'.hp ids)++s'.hp) w':=by
       have:=gZ hs'.mem hfr0 (fun i x hx=>lX i x hx) (fun _ _ h=>by simp [ad] at h);exact this
      have hs2:SH ⟨w,bp ρ w (aw hp (be hp args)),fun _=>false,none⟩ 0 {tm:=[],hp:=aL (aw s'.hp ids)++s'.hp,nx:=s'.nx} (ρ'.frz w' (aw s'.hp ids)) {a with tmps:=#[]} w':=⟨⟨rfl,hs'.slots.defers,fun t x hx=>by simp [ad] at hx⟩,hmem',hs'.fresh⟩;generalize hρ3:ρ'.frz w' (aw s'.hp ids)=ρ3 at hu2' hmem' hs2;have hle:=mq hla hk1;have hhe:=jg hlb hk2;generalize eQ (aL (aw s'.hp ids)++s'.hp) e.nw (mSV v' e.val)=δ at *;unfold rR at hok;simp only[Bool.and_eq_true] at hok;obtain ⟨⟨hinj,hnew⟩,hsv⟩:=hok;have hnj:e.val ≠ .junk:=fun hj=>by rw[hj] at hsv;cases hsv
      have hu3:=ov hle hu2' hnj;have hw2:=(ki (δ:=δ) (t:={tm:=[],hp:=e.nw,nx:=fr+8}) ⟨trivial,hhe,hinj⟩ (fun h=>by cases h) hs2).mem;have hB:w0.heap.size<=w.heap.size:=hw.below.size;generalize hρr:ρ3.ren δ (fr+8)=ρr at hu3 hw2;have hmu:ρr.mu=fun _=>false:=by rw[<- hρr,<- hρ3];exact hs'.mem.mu0
      have hf0:ρr.f0=bp ρ w (aw hp (be hp args)):=by rw[<- hρr,<- hρ3];exact hs'.mem.f00
      let ρ2:Map:={m:=fun i=>if nin i (aB e.nw) then ρr i else ρ i,cap:=fun i=>if nin i (aB e.nw) then ρr.cap i else ρ.cap i,fz:=if bJ e then ρ.fz else ρr.fz,f0:=ρ.f0,mu:=ρ.mu}
      have ag:∀ i,nin i (aB e.nw)=true -> ρ2 i=ρr i /\ ρ2.cap i=ρr.cap i:=fun i hi=>⟨by simp only[ρ2];rw[if_pos hi],by simp only[ρ2];rw[if_pos hi]⟩
      have off:∀ i,nin i (aB e.nw)=false -> ρ2 i=ρ i:=fun i hi=>by simp only[ρ2];rw[if_neg (by rw[hi];simp)]
      have oldKey:∀ i,(ρ i).isSome=true->nin i (aB e.nw)=false:=fun i hi=>by
       cases hn:nin i (aB e.nw) with
       |false=>rfl
       |true=>
        obtain ⟨x,hx⟩:=Option.isSome_iff_exists.1 (ce.1 hn);rw[hfr i x hx] at hi;cases hi
      have fzle:FzLe ρ.fz ρr.fz:=fun b cs hb=>hw2.sub b cs (by rw[hf0];exact eI _ _ _ b cs hb)
      have ownNew:∀ i x,ad e.nw i=some x->(ρr i).isSome=true->w.heap.size<=ρr.blk i /\ ρr.fz (ρr.blk i)=none:=fun i x hx hi=>by
       obtain ⟨ho,_⟩:=cJ hnew i x hx;obtain ⟨hM,_⟩:=fh (hw2.ents i x hx) ho hi;refine ⟨?_,hM.2⟩
       rcases hM.1 with h |h
       ·exact h
       ·rw[hmu] at h;cases h
      have blk2:∀ i,nin i (aB e.nw)=true -> ρ2.blk i=ρr.blk i:=fun i hi=>by simp [Map.blk,(ag i hi).1]
      have hzz:ρ2.fz=ρr.fz ∨ bJ e=true:=by
       cases hpl:bJ e with
       |true=>exact .inr rfl
       |false=>left;simp only[ρ2,hpl];rfl
      refine ⟨hs'.slots.defers,u,hu1,ρ2,u,rfl,oO ag (hzz.imp (fun h=>h) fun h=>by unfold bJ at h;exact (Bool.and_eq_true _ _ ▸ h).1) hsv hu3,?_⟩;refine ⟨⟨fun i p hi=>?_,fun i hi=>?_,?_,rfl,rfl⟩,fun i hi=>?_,⟨hs'.mem.below.os,hs'.mem.below.tape,hs'.mem.below.output,hs'.mem.below.size,fun k hk=>absurd hk (Nat.not_lt_zero k)⟩,fun b hb' _=>hs'.mem.below.block b hb' (by rw[hs'.mem.mu0]),fun i x hx=>?_,fun i x hx=>?_,fun i j x y hx hy hne hii hjj=>?_,fun b cs hb=>?_⟩
      ·rw[off i (oldKey i (by rw[hi];rfl))];exact hi
      ·have:=oldKey i hi;simp only[ρ2];rw[if_neg (by rw[this];simp)]
      ·simp only[ρ2];split
       ·exact fun _ _ h=>h
       ·exact fzle
      ·have hi':ad e.nw i=none:=hi;refine off i ?_
       cases hn:nin i (aB e.nw) with
       |false=>rfl
       |true=>rw[ce,hi'] at hn;cases hn
      ·have hx':ad (if bJ e then [] else aL (aw hp (be hp args))) i=some x:=hx
       split at hx'
       ·simp [ad] at hx'
       ·rw[(c7 hx').1];trivial
      ·have hx':ad e.nw i=some x:=hx;obtain ⟨ho,_,_,hni⟩:=cJ hnew i x hx';have hki:nin i (aB e.nw)=true:=ce.2 (by rw[hx'];rfl);refine ⟨oP ag hki (hzz.imp (fun h=>h) fun h=>by unfold bJ at h;exact my (Bool.and_eq_true _ _ ▸ h).2 i x hx') hni (fun hi=>?_) (hw2.ents i x hx'),fun hi=>.inl ?_,ho⟩
       ·obtain ⟨g1,g2⟩:=ownNew i x hx' hi;refine ⟨.inl (by omega),?_⟩;simp only[ρ2];split
        ·exact hw.froz.new g1
        ·exact g2
       ·rw[blk2 i hki];exact (ownNew i x hx' (by rw[<- (ag i hki).1];exact hi)).1
      ·have hx':ad e.nw i=some x:=hx;have hy':ad e.nw j=some y:=hy;have hki:nin i (aB e.nw)=true:=ce.2 (by rw[hx'];rfl);have hkj:nin j (aB e.nw)=true:=ce.2 (by rw[hy'];rfl);rw[blk2 i hki,blk2 j hkj];exact hw2.apart i j x y hx' hy' (cJ hnew i x hx').1 (cJ hnew j y hy').1 hne (by rw[<- (ag i hki).1];exact hii) (by rw[<- (ag j hkj).1];exact hjj)
      ·cases hpl:bJ e with
       |true=>
        left
        have:ρ2.fz b=some cs:=hb;simp only[ρ2,hpl] at this;exact this
       |false=>
        have hb2:ρr.fz b=some cs:=by
         have:ρ2.fz b=some cs:=hb;simp only[ρ2,hpl] at this;exact this
        have hnw:∀ i x,ad e.nw i=some x->(ρ2 i).isSome=true -> ρ2.blk i≠b:=fun i x hx hi hbb=>by
         have hki:nin i (aB e.nw)=true:=ce.2 (by rw[hx];rfl);obtain ⟨_,g2⟩:=ownNew i x hx (by rw[<- (ag i hki).1];exact hi);rw[<- blk2 i hki,hbb,hb2] at g2;cases g2
        rcases hw2.old b cs hb2 with h1 |h1 |h1
        ·rw[hf0] at h1
         rcases g8 h1 with h2 |⟨⟨i,hi,hsi,hbi⟩,_⟩
         ·exact .inl h2
         ·exact .inr ⟨.inr ⟨i,by simp only[Bool.false_eq_true,↓reduceIte];exact g9 hi,hsi,hbi.symm⟩,hw2.froz b cs hb2,hnw⟩
        ·exact .inr ⟨.inl h1,hw2.froz b cs hb2,hnw⟩
        ·rw[hmu] at h1;cases h1
      ·exact hk.elim
      ·exact hk.elim
     ·exact hk.elim
    cases ex with
    |normal=>simp only[cd,Option.some.injEq] at hex;subst hex;exact done hk
    |ret=>simp only[cd,Option.some.injEq] at hex;subst hex;exact done hk
    |exit i=>simp only[cd,Option.some.injEq] at hex;subst hex;exact hk.elim
    |goto l=>cases hex
    |panic ch=>cases hex
    |outgrown=>cases hex
   ·intro t x hx;obtain ⟨_,h2⟩:=mA svs 0 t x hx;obtain ⟨v,hv,hr⟩:=mB hrel (by simpa using h2);have hlt:=br hv;have:(vs.toArray++Array.replicate (fn.ntmps-vs.toArray.size) undef).getD t undef=v:=by
     simp only[Array.getD_eq_getD_getElem?];rw[Array.getElem?_append_left (by simpa using hlt)];simp [hv]
    rw[this];exact lZ hr
  ·cases h0
 ·cases h0
def Ob (tt:TT) (nt:Nat) (A:Ann) (c:Code) (rs:List ResultVar) (fr:Nat):Option Eff->Option (List SV × ah × Nat)->Prop
 |some e,some (svs,h,id)=>je e.vc (sx tt nt A LF c (jl tt rs e fr) {tm:=fo svs 0,hp:=h,nx:=id})
 |_,_=>True
theorem bg {P:Program} {tt:TT} (htt:aP P tt) (hm:P.follows .mixedOrders=true) {f:FuncId} {fn:Func} {c:Code} (hf:P.funcs[f]? = some fn) (hb:fn.body=some c) (hen:∀ (args:Array Value) (w:World),(callFunc f args).run P w = .ok (.enter f args) w)
 {A:List Dat->Ann} (hC:∀ ds id,cZ P ((A ds).C id)) {aps:List AP} {spec:FSpec} (hn:Nat.ble aps.length fn.ntmps=true)
 (H:∀ ds fr,Ob tt fn.ntmps (A ds) c fn.results.toList fr (spec ds fr) (unP aps ds 0)):ConOK P f (con aps spec):=
 GO htt hm hf hb hen hC hn fun ds fr e svs h id he hvc hun=>by
  have:=H ds fr;rw[he,hun] at this;exact mo.1 this hvc
def ac {α:Type} (a : α) (f : α -> Prop):Prop:=f a
theorem kmp {p q:Prop} (h:p=q) (hq:q):p:=h ▸ hq
def Cons.of:List (FuncId × Con)->Cons
 | [],_=>none
 |(f,c)::r,g=>if Nat.beq f g then some c else Cons.of r g
theorem aq {P:Program}:cZ P (Cons.of []):=fun f c h=>by cases h
theorem af {P:Program} {f:FuncId} {c:Con} {r:List (FuncId × Con)} (h:ConOK P f c) (k:cZ P (Cons.of r)):cZ P (Cons.of ((f,c)::r)):=fun g d hd=>by
 simp only[Cons.of] at hd
 split at hd
 ·rename_i hg;obtain rfl:=Nat.eq_of_beq_eq_true hg;obtain rfl:=by simpa using hd
  exact h
 ·exact k g d hd
def aN (s:St) (t:Nat):Nat:=match ad s.tm t with |some (.one (.sc (.int _ n)))=>n.v.toNat |_=>0
def aV (s:St) (sl:aT) (ks:List Nat) (es:ah) (hs:List Nat):St:={tm:=sl++jh s.tm ks,hp:=es++mt s.hp (hs.map (bj s)),nx:=s.nx}
theorem GP (w:World) (ht:TabF (b9 w)):WH ⟨w,b9 w,fun _=>false,none⟩ (Map.at0 (b9 w)) [] w:=
 ⟨BelowM.refl _ _ w,fun _ _ h=>by simp [ad] at h,fun _ _ _ _ h=>by simp [ad] at h,fun _ _ h=>qW h,fun _ _ h=>h,rfl,rfl,fun _ _ h=>.inl h,fun _ h=>(by cases h),ht⟩
end Go.Proofs.YtbhbjhejkamlnaaGreat.Sx
