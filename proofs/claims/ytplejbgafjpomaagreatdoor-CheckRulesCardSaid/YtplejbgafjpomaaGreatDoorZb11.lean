import Derived.KernelRfl
import Derived.Test.YtplejbgafjpomaaGreatDoorZb10
set_option linter.unusedVariables false
set_option linter.unusedSimpArgs false
namespace Go.Proofs.YtplejbgafjpomaaGreatDoor.Sx
open Go.RowKit
inductive Dat
 |i (n:Int)
 |b (b:Bool)
 |r (n:Nat) (f:Nat->Int)
 |f (f:Nat->Int)
 |v (v:Value)
 |s (s:ByteArray)
 |d (d:D)
 |q (p:List D->Bool) (ok:List D->Prop)
inductive AC
 |int (k:IntKind)
 |bool
 |row (k:IntKind) (sz:Nat)
 |any
 |str
 |rows (e:TypeId)
 |fn (ag:Bool) (e:TypeId)
 |pt (a:AC)
inductive AG
 |c (x:AC)
 |ints (k:IntKind) (n:Nat)
inductive AP
 |sc (x:AC)
 |agg (l:List AG)
 |ptr (l:List AG)
def getRow (l:List Seg) (o:SO) (k:IntKind):Option ((Nat->Int) × (Nat->List Prop)):=
 match o with
 | .lit o=>rowL l o k
 | .sym o s=>rowS l o s k
where
 rowL:List Seg->Nat->IntKind->Option ((Nat->Int) × (Nat->List Prop))
  | [],_,_=>none
  | .c _::r,o,k=>match o with | 0=>none |o+1=>rowL r o k
  | .ints k' (.lit m) f::r,o,k=>if Nat.blt o m then (if kEq k' k then some ((match o with | 0=>f |o+1=>fun j=>f (o+1+j)),fun n=>[o+n<=m]) else none) else rowL r (o-m) k
  | .ints k' (.sym m) f::_,o,k=>if kEq k' k then some ((match o with | 0=>f |o+1=>fun j=>f (o+1+j)),fun n=>[o+n<=m]) else none
 rowS:List Seg->Nat->Nat->IntKind->Option ((Nat->Int) × (Nat->List Prop))
  | [],_,_,_=>none
  | .c _::r,o,s,k=>match o with | 0=>none |o+1=>rowS r o s k
  | .ints k' (.lit m) f::r,o,s,k=>if Nat.blt o m then (if kEq k' k then some ((fun j=>f (o+s+j)),fun n=>[o+s+n<=m]) else none) else rowS r (o-m) s k
  | .ints k' (.sym m) f::_,o,s,k=>if kEq k' k then some ((fun j=>f (o+s+j)),fun n=>[o+s+n<=m]) else none
theorem rowL_spec:∀ (l:List Seg) (o:Nat) (k:IntKind) f g,getRow.rowL l o k=some (f,g)->∀ n,All (g n)->∀ j,j<n->(cellsOf l)[o+j]? = some (.int k (.sym (f j)))
 | [],_,_,_,_,h=>by simp [getRow.rowL] at h
 | .c y::r,o,k,f,g,h=>by
   intro n hp j hj;rw [cellsOf_cons]
   cases o with
   |zero=>simp [getRow.rowL] at h
   |succ o=>
    simp only [getRow.rowL] at h;have:=rowL_spec r o k f g h n hp j hj;have e:o+1+j=(o+j)+1:=by omega
    rw [e]
    simpa [Seg.cells] using this
 | .ints k' (.lit m) q::r,o,k,f,g,h=>by
   intro n hp j hj;rw [cellsOf_cons];simp only [getRow.rowL] at h
   split at h
   ·split at h
    ·rename_i hk;have:=kEq_eq hk;subst this;simp only [Option.some.injEq,Prod.mk.injEq] at h;obtain ⟨rfl,rfl⟩:=h;have hle:o+n<=m:=hp.1;rw [List.getElem?_append_left (by rw [cells_ints_len];simp only [SN.v];omega),cells_ints_get (by simp only [SN.v];omega)]
     cases o<;>simp
    ·cases h
   ·rename_i hlt;have hge:m<=o:=by
     have:¬ o<m:=by simpa [Nat.blt_eq] using hlt
     omega
    rw [List.getElem?_append_right (by rw [cells_ints_len];simp only [SN.v];omega),cells_ints_len];have e:o+j-m=(o-m)+j:=by omega
    show (cellsOf r)[o+j-m]? = _;rw [e];exact rowL_spec r _ k f g h n hp j hj
 | .ints k' (.sym m) q::r,o,k,f,g,h=>by
   intro n hp j hj;rw [cellsOf_cons];simp only [getRow.rowL] at h
   split at h
   ·rename_i hk;have:=kEq_eq hk;subst this;simp only [Option.some.injEq,Prod.mk.injEq] at h;obtain ⟨rfl,rfl⟩:=h;have hle:o+n<=m:=hp.1;rw [List.getElem?_append_left (by rw [cells_ints_len];simp only [SN.v];omega),cells_ints_get (by simp only [SN.v];omega)]
    cases o<;>simp
   ·cases h
theorem rowS_spec:∀ (l:List Seg) (o s:Nat) (k:IntKind) f g,getRow.rowS l o s k=some (f,g)->∀ n,All (g n)->∀ j,j<n->(cellsOf l)[o+s+j]? = some (.int k (.sym (f j)))
 | [],_,_,_,_,_,h=>by simp [getRow.rowS] at h
 | .c y::r,o,s,k,f,g,h=>by
   intro n hp j hj;rw [cellsOf_cons]
   cases o with
   |zero=>simp [getRow.rowS] at h
   |succ o=>
    simp only [getRow.rowS] at h;have:=rowS_spec r o s k f g h n hp j hj;have e:o+1+s+j=(o+s+j)+1:=by omega
    rw [e]
    simpa [Seg.cells] using this
 | .ints k' (.lit m) q::r,o,s,k,f,g,h=>by
   intro n hp j hj;rw [cellsOf_cons];simp only [getRow.rowS] at h
   split at h
   ·split at h
    ·rename_i hk;have:=kEq_eq hk;subst this;simp only [Option.some.injEq,Prod.mk.injEq] at h;obtain ⟨rfl,rfl⟩:=h;have hle:o+s+n<=m:=hp.1;rw [List.getElem?_append_left (by rw [cells_ints_len];simp only [SN.v];omega),cells_ints_get (by simp only [SN.v];omega)]
    ·cases h
   ·rename_i hlt;have hge:m<=o:=by
     have:¬ o<m:=by simpa [Nat.blt_eq] using hlt
     omega
    rw [List.getElem?_append_right (by rw [cells_ints_len];simp only [SN.v];omega),cells_ints_len];have e:o+s+j-m=(o-m)+s+j:=by omega
    show (cellsOf r)[o+s+j-m]? = _;rw [e];exact rowS_spec r _ s k f g h n hp j hj
 | .ints k' (.sym m) q::r,o,s,k,f,g,h=>by
   intro n hp j hj;rw [cellsOf_cons];simp only [getRow.rowS] at h
   split at h
   ·rename_i hk;have:=kEq_eq hk;subst this;simp only [Option.some.injEq,Prod.mk.injEq] at h;obtain ⟨rfl,rfl⟩:=h;have hle:o+s+n<=m:=hp.1;rw [List.getElem?_append_left (by rw [cells_ints_len];simp only [SN.v];omega),cells_ints_get (by simp only [SN.v];omega)]
   ·cases h
theorem getRow_spec {l:List Seg} {o:SO} {k:IntKind} {f:Nat->Int} {g:Nat->List Prop} (h:getRow l o k=some (f,g)) (n:Nat) (hp:All (g n)):∀ j,j<n->(cellsOf l)[o.v+j]? = some (.int k (.sym (f j))):=by
 cases o with
 |lit a=>exact rowL_spec l a k f g h n hp
 |sym a b=>exact rowS_spec l a b k f g h n hp
def rowy:SC->Bool | .osl .. | .slice .. | .ptr .. | .optr .. | .bm ..=>true |_=>false
def rowA:AC->Bool | .row .. | .pt _=>true |_=>false
def ptC (hp:Heap) (id:Nat):Option SC:=match look hp id with |some (.ro [.c x])=>some x |_=>none
theorem ptC_some {hp:Heap} {id:Nat} {x:SC} (h:ptC hp id=some x):look hp id=some (.ro [.c x]):=by
 unfold ptC at h
 split at h
 ·rename_i y hy;obtain rfl:=by simpa using h
  exact hy
 ·cases h
def flC (hp:Heap):AC->SC->Option (Dat × List Prop)
 | .int k,.int k' n=>if kEq k' k then some (.i n.v,[]) else none
 | .bool,.bool b=>some (.b b.v,[])
 | .row k sz,.slice id o n=>(match look hp id with
   |some e=>(match e.segs with
    |some l=>(match getRow l o k with |some (f,g)=>some (.r n.v f,g (n.v*sz)) |none=>none)
    |none=>none)
   |none=>none)
 | .row _ _,.nils=>some (.r 0 (fun _=>0),[])
 | .any,.raw v=>some (.v v,[])
 | .str,.raw (.string s)=>some (.s s,[])
 | .rows e,x=>(match conE hp e x with |some (d,ps)=>some (.d d,ps) |none=>none)
 | .fn ag e,.fn ag' e' p ok=>if (ag==ag')&&Nat.beq e e' then some (.q p ok,[]) else none
 | .pt a,.ptr id (.lit 0)=>(match ptC hp id with |some x=>if rowy x ||rowA a then none else flC hp a x |none=>none)
 |_,_=>none
def flG (hp:Heap):List AG->List Seg->Option (List Dat × List Prop)
 | [],[]=>some ([],[])
 | .c a::l,.c x::s=>(match flC hp a x,flG hp l s with |some (d,ps),some (ds,qs)=>some (d::ds,ps++qs) |_,_=>none)
 | .ints k n::l,.ints k' (.lit m) f::s=>if kEq k' k&&Nat.beq m n then (match flG hp l s with |some (ds,qs)=>some (.f f::ds,qs) |none=>none) else none
 |_,_=>none
def ptS (hp:Heap) (id:Nat):Option (List Seg):=match look hp id with |some e=>e.segs |none=>none
def idsPt (hp:Heap):SV->List Nat
 | .one (.sc (.ptr id _))=>id::(match ptS hp id with |some l=>idsS l |none=>[])
 |_=>[]
def idsX (hp:Heap):List SV->List Nat
 | []=>[]
 |x::r=>(idsSV x++idsPt hp x)++idsX hp r
def flP (hp:Heap):List AP->List SV->Option (List Dat × List Prop)
 | [],[]=>some ([],[])
 | .sc a::l,.one (.sc x)::s=>(match flC hp a x,flP hp l s with |some (d,ps),some (ds,qs)=>some (d::ds,ps++qs) |_,_=>none)
 | .agg g::l,.one (.agg x)::s=>(match flG hp g x,flP hp l s with |some (d,ps),some (ds,qs)=>some (d++ds,ps++qs) |_,_=>none)
 | .ptr g::l,.one (.sc (.ptr id (.lit 0)))::s=>(match ptS hp id with
   |some x=>(match flG hp g x,flP hp l s with |some (d,ps),some (ds,qs)=>some (d++ds,ps++qs) |_,_=>none)
   |none=>none)
 |_,_=>none
def unC0:AC->Dat->Option SC
 | .int k,.i n=>some (.int k (.sym n))
 | .bool,.b b=>some (.bool (.sym b))
 | .any,.v v=>some (.raw v)
 | .str,.s s=>some (.raw (.string s))
 | .rows e,.d d=>some (.rows e d)
 | .fn ag e,.q p ok=>some (.fn ag e p ok)
 |_,_=>none
def unC:AC->Dat->Nat->Option (SC × Heap)
 | .int k,.i n,_=>some (.int k (.sym n),[])
 | .bool,.b b,_=>some (.bool (.sym b),[])
 | .row k sz,.r n f,id=>some (.slice id (.lit 0) (.sym n),[(id,.ro [.ints k (.sym (n*sz)) f])])
 | .any,.v v,_=>some (.raw v,[])
 | .str,.s s,_=>some (.raw (.string s),[])
 | .rows e,.d d,_=>some (.rows e d,[])
 | .fn ag e,.q p ok,_=>some (.fn ag e p ok,[])
 | .pt a,d,id=>(match unC0 a d with |some y=>some (.ptr id (.lit 0),[(id,.ro [.c y])]) |none=>none)
 |_,_,_=>none
def unG:List AG->List Dat->Nat->Option (List Seg × Heap × List Dat × Nat)
 | [],ds,id=>some ([],[],ds,id)
 | .c a::l,d::ds,id=>(match unC a d id,unG l ds (id+1) with |some (x,h),some (s,h',ds',id')=>some (.c x::s,h++h',ds',id') |_,_=>none)
 | .ints k n::l,.f f::ds,id=>(match unG l ds (id+1) with |some (s,h',ds',id')=>some (.ints k (.lit n) f::s,h',ds',id') |none=>none)
 |_,_,_=>none
def unP:List AP->List Dat->Nat->Option (List SV × Heap × Nat)
 | [],[],id=>some ([],[],id)
 | .sc a::l,d::ds,id=>(match unC a d id,unP l ds (id+1) with |some (x,h),some (s,h',id')=>some (.one (.sc x)::s,h++h',id') |_,_=>none)
 | .agg g::l,ds,id=>(match unG g ds id with
   |some (x,h,ds',id1)=>(match unP l ds' id1 with |some (s,h',id')=>some (.one (.agg x)::s,h++h',id') |none=>none)
   |none=>none)
 | .ptr g::l,ds,id=>(match unG g ds id with
   |some (x,h,ds',id1)=>(match unP l ds' (id1+1) with |some (s,h',id')=>some (.one (.sc (.ptr id1 (.lit 0)))::s,(h++[(id1,.ro x)])++h',id') |none=>none)
   |none=>none)
 |_,_,_=>none
structure In (F:Fz) (ρ:Map) (lo hi:Nat) (h:Heap):Prop where
 ents:∀ id e,look h id=some e->(∀ B w,ERel B ρ w id e)/\e.isOwn=false/\lo<=id/\id<hi
 out:∀ id,(id<lo ∨ hi<=id) -> ρ id=none
 hfz:ρ.fz=F
 hf0:ρ.f0=F
 hmu:ρ.mu=fun _=>false
def Map.at0 (F:Fz):Map:=⟨fun _=>none,fun _=>0,F,F,fun _=>false,fun _ _=>none⟩
theorem in_nil (F:Fz) (n:Nat):In F (Map.at0 F) n n []:=⟨fun id e h=>by simp [look] at h,fun _ _=>rfl,rfl,rfl,rfl⟩
def Map.join (a b:Map) (n:Nat):Map:={a with m:=fun id=>if id<n then a id else b id,cap:=fun id=>if id<n then a.cap id else b.cap id}
theorem join_ext {F:Fz} {a b:Map} {lo n hi:Nat} {h k:Heap} (ha:In F a lo n h) (hb:In F b n hi k) (h1:lo<=n) (h2:n<=hi):Ext a (a.join b n)/\Ext b (a.join b n)/\In F (a.join b n) lo hi (h++k):=by
 have lt:∀ id,(a id).isSome=true->id<n:=fun id hi=>by
  rcases Nat.lt_or_ge id n with h |h
  ·exact h
  ·rw [ha.out id (.inr h)] at hi;cases hi
 have ge:∀ id,(b id).isSome=true->¬ id<n:=fun id hi h=>by rw [hb.out id (.inl h)] at hi;cases hi
 have e1:Ext a (a.join b n):=⟨fun id p hp=>by simp only [Map.join];rw [if_pos (lt id (by rw [hp];rfl))];exact hp,fun id hi=>by simp only [Map.join];rw [if_pos (lt id hi)],fun _ _ h=>h,rfl,rfl⟩;have e2:Ext b (a.join b n):=⟨fun id p hp=>by simp only [Map.join];rw [if_neg (ge id (by rw [hp];rfl))];exact hp,fun id hi=>by simp only [Map.join];rw [if_neg (ge id hi)],fun i cs hc=>by rw [hb.hfz] at hc;show a.fz i=_;rw [ha.hfz];exact hc,by show a.mu=b.mu;rw [ha.hmu,hb.hmu],by show a.f0=b.f0;rw [ha.hf0,hb.hf0]⟩;refine ⟨e1,e2,fun id e he=>?_,fun id hid=>?_,ha.hfz,ha.hf0,ha.hmu⟩
 ·rw [look_append] at he
  cases hl:look h id with
  |some x=>
   rw [hl] at he;obtain rfl:x=e:=by simpa using he
   obtain ⟨g1,g2,g3,g4⟩:=ha.ents id x hl;exact ⟨fun B w=>erel_keep e1 (by simp only [Map.join];rw [if_pos g4]) (fun ho=>by rw [g2] at ho;cases ho) (fun ho=>by rw [g2] at ho;cases ho) (g1 B w) (fun _ _=>rfl),g2,g3,by omega⟩
  |none=>
   rw [hl] at he;obtain ⟨g1,g2,g3,g4⟩:=hb.ents id e he;exact ⟨fun B w=>erel_keep e2 (by simp only [Map.join];rw [if_neg (by omega)]) (fun ho=>by rw [g2] at ho;cases ho) (fun ho=>by rw [g2] at ho;cases ho) (g1 B w) (fun _ _=>rfl),g2,by omega,g4⟩
 ·simp only [Map.join];split
  ·exact ha.out id (.inl (by omega))
  ·exact hb.out id (by omega)
def Map.only (F:Fz) (id:Nat) (p:Nat × Nat):Map:=⟨fun q=>if q=id then some p else none,fun _=>0,F,F,fun _=>false,fun _ _=>none⟩
theorem in_row {F:Fz} {id:Nat} {p:Nat × Nat} {k:IntKind} {n:Nat} {f:Nat->Int} (hc:∀ j,j<n->Fz.cell F p.1 (p.2+j)=some (.int k (f j))):In F (Map.only F id p) id (id+1) [(id,.ro [.ints k (.sym n) f])]:=by
 have hm:(Map.only F id p) id=some p:=by simp [Map.only]
 refine ⟨fun q e hq=>?_,fun q hq=>?_,rfl,rfl,rfl⟩
 ·simp only [look] at hq
  split at hq
  ·rename_i hj;obtain rfl:id=q:=by simpa using hj
   obtain rfl:=by simpa using hq
   refine ⟨fun B w=>⟨by rw [hm];rfl,(List.range n).map (fun j=>.int k (f j)),?_,?_⟩,rfl,Nat.le_refl _,by omega⟩
   ·have e:cellsOf [.ints k (.sym n) f]=(Seg.ints k (.sym n) f).cells:=by simp [cellsOf]
    rw [e];refine ⟨by rw [cells_ints_len];simp [SN.v],fun i x v hx hv=>?_⟩;have hi:=lt_of_get hx;rw [cells_ints_len] at hi;rw [cells_ints_get hi] at hx;obtain rfl:=by simpa using hx
    have hi':i<n:=hi;rw [List.getElem?_map,List.getElem?_range hi'] at hv;obtain rfl:=by simpa using hv
    rfl
   ·intro o v hv;have ho:=lt_of_get hv;simp only [List.length_map,List.length_range] at ho;rw [List.getElem?_map,List.getElem?_range ho] at hv;obtain rfl:=by simpa using hv
    have:=hc o ho
    simpa [Map.blk,Map.off,hm,Map.only] using this
  ·cases hq
 ·have:q≠id:=by omega
  simp [Map.only,this]
theorem flC_unC0 {hp:Heap} {a:AC} {x:SC} {d:Dat} {ps:List Prop} (h:flC hp a x=some (d,ps)) (hr:rowy x=false) (ha:rowA a=false):∃ y,unC0 a d=some y/\∀ {ρ ρ':Map} {v:Value},FzLe ρ.fz ρ'.fz->CRel ρ x v->CRel ρ' y v:=by
 unfold flC at h
 split at h
 ·split at h
  ·rename_i hk;have:=kEq_eq hk;subst this;obtain ⟨rfl,rfl⟩:=by simpa using h
   exact ⟨_,rfl,fun _ hv=>hv⟩
  ·cases h
 ·obtain ⟨rfl,rfl⟩:=by simpa using h
  exact ⟨_,rfl,fun _ hv=>hv⟩
 ·cases hr
 ·cases ha
 ·obtain ⟨rfl,rfl⟩:=by simpa using h
  exact ⟨_,rfl,fun _ hv=>hv⟩
 ·obtain ⟨rfl,rfl⟩:=by simpa using h
  exact ⟨_,rfl,fun _ hv=>hv⟩
 ·rename_i e
  split at h
  ·rename_i d' ps' hc;obtain ⟨rfl,rfl⟩:=by simpa using h
   unfold conE at hc
   split at hc
   ·obtain ⟨rfl,rfl⟩:=by simpa using hc
    refine ⟨_,rfl,fun _ hv=>?_⟩;obtain rfl:_=Value.slice none 0 0:=hv;exact .nil _ _ rfl
   ·rename_i e' d''
    split at hc
    ·rename_i he;obtain rfl:=Nat.eq_of_beq_eq_true he;obtain ⟨rfl,rfl⟩:=by simpa using hc
     exact ⟨_,rfl,fun hz hv=>TRel.mono hz hv⟩
    ·cases hc
   ·cases hr
   ·cases hc
  ·cases h
 ·split at h
  ·rename_i hk;simp only [Bool.and_eq_true,beq_iff_eq] at hk;obtain ⟨rfl,hk⟩:=hk;obtain rfl:=Nat.eq_of_beq_eq_true hk;obtain ⟨rfl,rfl⟩:=by simpa using h
   refine ⟨_,rfl,fun hz hv=>?_⟩;obtain ⟨z,h1,h2⟩:=hv;exact ⟨z,fun b cs hb=>hz b cs (h1 b cs hb),h2⟩
  ·cases h
 ·cases ha
 ·cases h
theorem in_ro {F:Fz} {id:Nat} {p:Nat × Nat} {y:SC} {u:Value} (hc:Fz.cell F p.1 p.2=some u) (hr:CRel (Map.only F id p) y u):In F (Map.only F id p) id (id+1) [(id,.ro [.c y])]:=by
 have hm:(Map.only F id p) id=some p:=by simp [Map.only]
 refine ⟨fun q e hq=>?_,fun q hq=>?_,rfl,rfl,rfl⟩
 ·simp only [look] at hq
  split at hq
  ·rename_i hj;obtain rfl:id=q:=by simpa using hj
   obtain rfl:=by simpa using hq
   refine ⟨fun B w=>⟨by rw [hm];rfl,[u],⟨rfl,fun i x v hx hv=>?_⟩,fun o v hv=>?_⟩,rfl,Nat.le_refl _,by omega⟩
   ·cases i with
    |zero=>
     obtain rfl:y=x:=by simpa [cellsOf,Seg.cells] using hx
     obtain rfl:u=v:=by simpa using hv
     exact hr
    |succ i=>simp at hv
   ·cases o with
    |zero=>
     obtain rfl:u=v:=by simpa using hv
     simpa [Map.blk,Map.off,hm,Map.only] using hc
    |succ o=>simp at hv
  ·cases hq
 ·have:q≠id:=by omega
  simp [Map.only,this]
theorem unC_spec {hp:Heap} {a:AC} {x:SC} {d:Dat} {ps:List Prop} (hf:flC hp a x=some (d,ps)) (hps:All ps) {w0:W0} {w:World} {ρ:Map} (hw:WH w0 ρ hp w) {v:Value} (hv:CRel ρ x v) {ids:List Nat} (hids:∀ id∈idsC x,ownId hp id=true->id∈ids) (id:Nat) :
 ∃ y h ρ',unC a d id=some (y,h)/\In (passF ρ w ids) ρ' id (id+1) h/\CRel ρ' y v:=by
 have plain:∀ (y:SC),unC a d id=some (y,[])->CRel (Map.at0 (passF ρ w ids)) y v->∃ y h ρ',unC a d id=some (y,h)/\In (passF ρ w ids) ρ' id (id+1) h/\CRel ρ' y v:=fun y h1 h2=>⟨y,[],_,h1,⟨fun i e h=>by simp [look] at h,fun _ _=>rfl,rfl,rfl,rfl⟩,h2⟩
 unfold flC at hf
 split at hf
 ·split at hf
  ·rename_i hk;have:=kEq_eq hk;subst this;obtain ⟨rfl,rfl⟩:=by simpa using hf
   exact plain _ rfl hv
  ·cases hf
 ·obtain ⟨rfl,rfl⟩:=by simpa using hf
  exact plain _ rfl hv
 ·rename_i k sz i o n
  split at hf
  ·rename_i e he
   split at hf
   ·rename_i l hl
    split at hf
    ·rename_i f g hg;obtain ⟨rfl,rfl⟩:=by simpa using hf
     have hcell:=getRow_spec hg (n.v*sz) hps;obtain ⟨A,c,rfl,hc',hA⟩:=hv
     rcases hA with ⟨hi,rfl⟩ |⟨h0,rfl⟩
     ·
      have hF:∀ (o:Nat) q,(cellsOf l)[o]? = some q->∃ u,Fz.cell (passF ρ w ids) (ρ.blk i) (ρ.off i+o)=some u/\CRel ρ q u:=fun o q hq=>by
       have hent:=hw.ents i e he
       by_cases hown:e.isOwn=true
       ·obtain ⟨vs,hvs,hc⟩:=ent_cells hw.froz hent hl;obtain ⟨u,hu,hr⟩:=csrel_get hvs hq;refine ⟨u,?_,hr⟩;have hcu:=hc o u hu;have hb:∃ cs T z,w.heap[ρ.blk i]? = some (.cells cs T z)/\cs[ρ.off i+o]? = some u:=by
         unfold World.cell? at hcu;simp only [Map.at] at hcu
         split at hcu
         ·rename_i cs T z hh;exact ⟨cs,T,z,hh,by simpa using hcu⟩
         ·cases hcu
        obtain ⟨cs,T,z,hh,hcs⟩:=hb;have:=passF_at hw.froz (hids i (by simp [idsC]) (by simp [ownId,he,hown])) hi hh;simp only [Fz.cell,this,hcs]
       ·cases e with
        |ro m=>
         obtain rfl:m=l:=by simpa [Ent.segs] using hl
         obtain ⟨_,vs,hvs,hc⟩:=hent;obtain ⟨u,hu,hr⟩:=csrel_get hvs hq;exact ⟨u,(passF_le ρ w ids).cell (hc o u hu),hr⟩
        |own=>exact absurd rfl hown
        |row=>exact absurd rfl hown
        |orow=>cases hl
        |gone=>cases hl
        |nrow=>cases hl
      refine ⟨_,_,Map.only (passF ρ w ids) id (ρ.blk i,ρ.off i+o.v),rfl,in_row ?_,?_⟩
      ·intro j hj;obtain ⟨u,hu,hur⟩:=hF _ _ (hcell j hj);have hur':u = .int k (f j):=hur;subst hur';rw [<- Nat.add_assoc] at hu;exact hu
      ·refine ⟨_,c,rfl,hc',.inl ⟨by simp [Map.only],?_⟩⟩;simp [Map.at,Map.blk,Map.off,Map.only,SO.v]
     ·refine ⟨_,_,Map.only (passF ρ w ids) id (0,0),rfl,in_row ?_,?_⟩
      ·intro j hj;rw [h0] at hj;simp at hj
      ·exact ⟨A,0,rfl,hc',.inr ⟨h0,rfl⟩⟩
    ·cases hf
   ·cases hf
  ·cases hf
 ·obtain ⟨rfl,rfl⟩:=by simpa using hf
  have hv':v = .slice none 0 0:=hv;subst hv';rename_i k sz;exact ⟨_,_,Map.only (passF ρ w ids) id (0,0),rfl,in_row (fun j hj=>by simp at hj),none,0,rfl,Nat.le_refl _,.inr ⟨rfl,rfl⟩⟩
 ·obtain ⟨rfl,rfl⟩:=by simpa using hf
  exact plain _ rfl hv
 ·obtain ⟨rfl,rfl⟩:=by simpa using hf
  exact plain _ rfl hv
 ·rename_i e
  split at hf
  ·rename_i d' ps' hc;obtain ⟨rfl,rfl⟩:=by simpa using hf
   exact plain _ rfl (conE_rel hc hps hw hv hids)
  ·cases hf
 ·split at hf
  ·rename_i hk;simp only [Bool.and_eq_true,beq_iff_eq] at hk;obtain ⟨rfl,hk⟩:=hk;obtain rfl:=Nat.eq_of_beq_eq_true hk;obtain ⟨rfl,rfl⟩:=by simpa using hf
   refine plain _ rfl ?_
   obtain ⟨z,h1,h2⟩:=hv;exact ⟨z,fun b cs hb=>passF_le ρ w ids b cs (h1 b cs hb),h2⟩
  ·cases hf
 ·rename_i a i
  split at hf
  ·rename_i x' hx'
   split at hf
   ·cases hf
   ·rename_i hrr;simp only [Bool.or_eq_true,not_or,Bool.not_eq_true] at hrr;obtain ⟨y,hy,hyr⟩:=flC_unC0 hf hrr.1 hrr.2;obtain ⟨hi,vs,hvs,hcell⟩:=hw.ents i _ (ptC_some hx');obtain ⟨u,hu,hur⟩:=csrel_get hvs (show (cellsOf [.c x'])[0]? = some x' from rfl);have hc:=(passF_le ρ w ids).cell (hcell 0 u hu);obtain ⟨_,rfl⟩:=hv;refine ⟨.ptr id (.lit 0),[(id,.ro [.c y])],Map.only (passF ρ w ids) id (ρ.blk i,ρ.off i),by simp only [unC,hy],in_ro hc (hyr (passF_le ρ w ids) hur),by simp [Map.only],?_⟩;simp [Map.at,Map.blk,Map.off,Map.only,SO.v]
  ·cases hf
 ·cases hf
theorem args_ext {ρ ρ':Map} (h:Ext ρ ρ'):∀ {l:List SV} {vs:List Value},ArgsRel ρ l vs->ArgsRel ρ' l vs
 | [],[],_=>trivial
 | [],_::_,hx=>hx.elim
 |_::_,[],hx=>hx.elim
 |_::_,_::_,hx=>⟨ur_ext h hx.1,args_ext h hx.2⟩
theorem unG_spec {hp:Heap} {w0:W0} {w:World} {ρ:Map} (hw:WH w0 ρ hp w) {ids:List Nat}:∀ (l:List AG) (s:List Seg) (ds rest:List Dat) (ps:List Prop),flG hp l s=some (ds,ps)->All ps->∀ (vs:List Value),CsRel ρ (cellsOf s) vs->(∀ id∈idsS s,ownId hp id=true->id∈ids)->∀ id,
 ∃ y h ρ' id',unG l (ds++rest) id=some (y,h,rest,id')/\id<=id'/\In (passF ρ w ids) ρ' id id' h/\CsRel ρ' (cellsOf y) vs
 | [],[],ds,rest,ps,h,hp',vs,hv,hids,id=>by
   simp only [flG,Option.some.injEq,Prod.mk.injEq] at h;obtain ⟨rfl,rfl⟩:=h;exact ⟨[],[],_,id,rfl,Nat.le_refl _,in_nil _ id,⟨hv.1,fun i x v hx=>by simp [cellsOf] at hx⟩⟩
 | .c a::l,.c x::s,ds,rest,ps,h,hp',vs,hv,hids,id=>by
   simp only [flG] at h
   split at h
   ·rename_i d ps1 ds1 qs hd hds;simp only [Option.some.injEq,Prod.mk.injEq] at h;obtain ⟨rfl,rfl⟩:=h;obtain ⟨hp1,hp2⟩:=all_append.1 hp';rw [cellsOf_cons] at hv;obtain ⟨u,v,rfl,h1,h2⟩:=csrel_cons.1 hv;have hu:∃ q,u=[q]:=by
     have:=h1.1;simp [Seg.cells] at this
     match u,this with
     | [q],_=>exact ⟨q,rfl⟩
    obtain ⟨q,rfl⟩:=hu;obtain ⟨y,hh,ρ1,e1,i1,r1⟩:=unC_spec hd hp1 hw (h1.2 0 x q (by simp [Seg.cells]) rfl) (fun i hi=>hids i (List.mem_append_left _ hi)) id;obtain ⟨ys,hs,ρ2,id',e2,hle,i2,r2⟩:=unG_spec hw l s ds1 rest qs hds hp2 v h2 (fun i hi=>hids i (List.mem_append_right _ hi)) (id+1);obtain ⟨x1,x2,hin⟩:=join_ext i1 i2 (by omega) (by omega);refine ⟨.c y::ys,hh++hs,_,id',by simp [unG,e1,e2],by omega,hin,?_⟩;rw [cellsOf_cons];refine csrel_cons.2 ⟨[q],v,rfl,⟨by simp [Seg.cells],fun i a b ha hb=>?_⟩,csrel_ext x2 r2⟩
    cases i with
    |zero=>simp [Seg.cells] at ha hb;subst ha hb;exact crel_ext x1 r1
    |succ i=>simp [Seg.cells] at ha
   ·cases h
 | .ints k n::l,.ints k' (.lit m) f::s,ds,rest,ps,h,hp',vs,hv,hids,id=>by
   simp only [flG] at h
   split at h
   ·rename_i hk;simp only [Bool.and_eq_true] at hk;have:=kEq_eq hk.1;subst this;have:=Nat.eq_of_beq_eq_true hk.2;subst this
    split at h
    ·rename_i ds1 qs hds;simp only [Option.some.injEq,Prod.mk.injEq] at h;obtain ⟨rfl,rfl⟩:=h;rw [cellsOf_cons] at hv;obtain ⟨u,v,rfl,h1,h2⟩:=csrel_cons.1 hv;obtain ⟨ys,hs,ρ2,id',e2,hle,i2,r2⟩:=unG_spec hw l s ds1 rest qs hds hp' v h2 hids (id+1);obtain ⟨x1,x2,hin⟩:=join_ext (a:=Map.at0 (passF ρ w ids)) (h:=[]) (lo:=id) (n:=id+1) ⟨fun q e hq=>by simp [look] at hq,fun _ _=>rfl,rfl,rfl,rfl⟩ i2 (by omega) (by omega);refine ⟨.ints k' (.lit m) f::ys,hs,_,id',by simp [unG,e2],by omega,hin,?_⟩;rw [cellsOf_cons];refine csrel_cons.2 ⟨u,v,rfl,⟨h1.1,fun i a b ha hb=>?_⟩,csrel_ext x2 r2⟩;have hb':=h1.2 i a b ha hb;have hi:=lt_of_get ha;rw [cells_ints_len] at hi;rw [cells_ints_get hi] at ha;obtain rfl:=by simpa using ha
     exact hb'
    ·cases h
   ·cases h
 | [],.c _::_,_,_,_,h,_,_,_,_,_=>by simp [flG] at h
 | [],.ints .. :: _,_,_,_,h,_,_,_,_,_=>by simp [flG] at h
 | .c _::_,[],_,_,_,h,_,_,_,_,_=>by simp [flG] at h
 | .c _::_,.ints .. :: _,_,_,_,h,_,_,_,_,_=>by simp [flG] at h
 | .ints .. :: _,[],_,_,_,h,_,_,_,_,_=>by simp [flG] at h
 | .ints .. :: _,.c _::_,_,_,_,h,_,_,_,_,_=>by simp [flG] at h
 | .ints .. :: _,.ints _ (.sym _) _::_,_,_,_,h,_,_,_,_,_=>by simp [flG] at h
theorem pts_rel {hp:Heap} {w0:W0} {w:World} {ρ:Map} (hw:WH w0 ρ hp w) {id:Nat} {x:List Seg} (h:ptS hp id=some x) (hi:(ρ id).isSome=true) {ids:List Nat} (hids:ownId hp id=true->id∈ids):∃ vs,CsRel ρ (cellsOf x) vs/\∀ (o:Nat) v,vs[o]? = some v->Fz.cell (passF ρ w ids) (ρ.blk id) (ρ.off id+o)=some v:=by
 unfold ptS at h
 split at h
 ·rename_i e hl;have hent:=hw.ents id e hl
  cases e with
  |own T m=>
   obtain rfl:m=x:=by simpa [Ent.segs] using h
   obtain ⟨_,ho,_,vs,hvs,hh⟩:=hent;have:=passF_at hw.froz (hids (by simp [ownId,hl,Ent.isOwn])) hi hh;exact ⟨vs,hvs,fun o v hv=>by rw [ho];simp only [Fz.cell,this];simpa using hv⟩
  |row T m=>
   obtain rfl:m=x:=by simpa [Ent.segs] using h
   obtain ⟨_,ho,_,vs,rest,hvs,hh⟩:=hent;have:=passF_at hw.froz (hids (by simp [ownId,hl,Ent.isOwn])) hi hh;refine ⟨vs,hvs,fun o v hv=>?_⟩;rw [ho];simp only [Fz.cell,this,Nat.zero_add,List.getElem?_toArray];rw [List.getElem?_append_left (lt_of_get hv)];exact hv
  |ro m=>
   obtain rfl:m=x:=by simpa [Ent.segs] using h
   obtain ⟨_,vs,hvs,hc⟩:=hent;exact ⟨vs,hvs,fun o v hv=>(passF_le ρ w ids).cell (hc o v hv)⟩
  |orow=>cases h
  |gone=>cases h
  |nrow=>cases h
 ·cases h
theorem in_add {F:Fz} {ρ1:Map} {lo n:Nat} {h:Heap} (hin:In F ρ1 lo n h) (hlo:lo<=n) {y:List Seg} {vs:List Value} (hr:CsRel ρ1 (cellsOf y) vs) {p:Nat × Nat} (hc:∀ (o:Nat) v,vs[o]? = some v->Fz.cell F p.1 (p.2+o)=some v) :
 ∃ ρ2,Ext ρ1 ρ2/\In F ρ2 lo (n+1) (h++[(n,.ro y)]) /\ ρ2 n=some p:=by
 obtain ⟨x1,x2,i⟩:=join_ext (a:=ρ1) (b:=Map.only F n p) (k:=[]) hin ⟨fun q e hq=>by simp [look] at hq,fun q hq=>by
  have:q≠n:=by omega
  simp [Map.only,this],rfl,rfl,rfl⟩ hlo (Nat.le_succ n)
 have hn:(ρ1.join (Map.only F n p) n) n=some p:=x2.m n p (by simp [Map.only]);refine ⟨_,x1,⟨fun id e he=>?_,i.out,i.hfz,i.hf0,i.hmu⟩,hn⟩;rw [look_append] at he
 cases hl:look h id with
 |some x=>
  rw [hl] at he;exact i.ents id e (by rw [List.append_nil,hl];exact he)
 |none=>
  rw [hl] at he;simp only [look] at he
  split at he
  ·rename_i hj;obtain rfl:n=id:=by simpa using hj
   obtain rfl:=by simpa using he
   refine ⟨fun B w=>⟨by rw [hn];rfl,vs,csrel_ext x1 hr,fun o v hv=>?_⟩,rfl,hlo,by omega⟩;have e1:(ρ1.join (Map.only F n p) n).blk n=p.1:=by simp [Map.blk,hn]
   have e2:(ρ1.join (Map.only F n p) n).off n=p.2:=by simp [Map.off,hn]
   rw [i.hfz,e1,e2];exact hc o v hv
  ·cases he
theorem unP_spec {hp:Heap} {w0:W0} {w:World} {ρ:Map} (hw:WH w0 ρ hp w) {ids:List Nat}:∀ (l:List AP) (s:List SV) (ds:List Dat) (ps:List Prop),flP hp l s=some (ds,ps)->All ps->∀ (vs:List Value),ArgsRel ρ s vs->(∀ id∈idsX hp s,ownId hp id=true->id∈ids)->∀ id,
 ∃ y h ρ' id',unP l ds id=some (y,h,id')/\id<=id'/\In (passF ρ w ids) ρ' id id' h/\ArgsRel ρ' y vs
 | [],[],ds,ps,h,hp',vs,hv,hids,id=>by
   simp only [flP,Option.some.injEq,Prod.mk.injEq] at h;obtain ⟨rfl,rfl⟩:=h
   cases vs with
   |nil=>exact ⟨[],[],_,id,rfl,Nat.le_refl _,in_nil _ id,trivial⟩
   |cons=>exact hv.elim
 | .sc a::l,.one (.sc x)::s,ds,ps,h,hp',vs,hv,hids,id=>by
   simp only [flP] at h
   split at h
   ·rename_i d ps1 ds1 qs hd hds;simp only [Option.some.injEq,Prod.mk.injEq] at h;obtain ⟨rfl,rfl⟩:=h;obtain ⟨hp1,hp2⟩:=all_append.1 hp'
    cases vs with
    |nil=>exact hv.elim
    |cons v vs=>
     obtain ⟨y,hh,ρ1,e1,i1,r1⟩:=unC_spec hd hp1 hw hv.1 (fun i hi=>hids i (List.mem_append_left _ (List.mem_append_left _ hi))) id;obtain ⟨ys,hs,ρ2,id',e2,hle,i2,r2⟩:=unP_spec hw l s ds1 qs hds hp2 vs hv.2 (fun i hi=>hids i (List.mem_append_right _ hi)) (id+1);obtain ⟨x1,x2,hin⟩:=join_ext i1 i2 (by omega) (by omega);exact ⟨.one (.sc y)::ys,hh++hs,_,id',by simp [unP,e1,e2],by omega,hin,crel_ext x1 r1,args_ext x2 r2⟩
   ·cases h
 | .agg g::l,.one (.agg x)::s,ds,ps,h,hp',vs,hv,hids,id=>by
   simp only [flP] at h
   split at h
   ·rename_i d ps1 ds1 qs hd hds;simp only [Option.some.injEq,Prod.mk.injEq] at h;obtain ⟨rfl,rfl⟩:=h;obtain ⟨hp1,hp2⟩:=all_append.1 hp'
    cases vs with
    |nil=>exact hv.elim
    |cons v vs=>
     obtain ⟨⟨cs,rfl,hc⟩,hv2⟩:=hv;obtain ⟨y,hh,ρ1,id1,e1,hle1,i1,r1⟩:=unG_spec hw g x d ds1 ps1 hd hp1 _ hc (fun i hi=>hids i (List.mem_append_left _ (List.mem_append_left _ hi))) id;obtain ⟨ys,hs,ρ2,id',e2,hle,i2,r2⟩:=unP_spec hw l s ds1 qs hds hp2 vs hv2 (fun i hi=>hids i (List.mem_append_right _ hi)) id1;obtain ⟨x1,x2,hin⟩:=join_ext i1 i2 hle1 hle;exact ⟨.one (.agg y)::ys,hh++hs,_,id',by simp [unP,e1,e2],by omega,hin,⟨cs,rfl,csrel_ext x1 r1⟩,args_ext x2 r2⟩
   ·cases h
 | .ptr g::l,.one (.sc (.ptr j (.lit 0)))::s,ds,ps,h,hp',vs,hv,hids,id=>by
   simp only [flP] at h
   split at h
   ·rename_i x hx
    split at h
    ·rename_i d ps1 ds1 qs hd hds;simp only [Option.some.injEq,Prod.mk.injEq] at h;obtain ⟨rfl,rfl⟩:=h;obtain ⟨hp1,hp2⟩:=all_append.1 hp'
     cases vs with
     |nil=>exact hv.elim
     |cons v vs=>
      obtain ⟨⟨hj,rfl⟩,hv2⟩:=hv;have hxi:idsPt hp (.one (.sc (.ptr j (.lit 0))))=j::idsS x:=by simp only [idsPt,hx]
      have hid:∀ i∈j::idsS x,ownId hp i=true->i∈ids:=fun i hi=>hids i (List.mem_append_left _ (List.mem_append_right _ (by rw [hxi];exact hi)))
      obtain ⟨cs,hcs,hcell⟩:=pts_rel hw hx hj (hid j (List.mem_cons_self ..));obtain ⟨y,hh,ρ1,id1,e1,hle1,i1,r1⟩:=unG_spec hw g x d ds1 ps1 hd hp1 _ hcs (fun i hi=>hid i (List.mem_cons_of_mem _ hi)) id;obtain ⟨ρ2,x0,i2,hn⟩:=in_add i1 hle1 r1 (p:=(ρ.blk j,ρ.off j)) hcell;obtain ⟨ys,hs,ρ3,id',e2,hle,i3,r2⟩:=unP_spec hw l s ds1 qs hds hp2 vs hv2 (fun i hi=>hids i (List.mem_append_right _ hi)) (id1+1);obtain ⟨x1,x2,hin⟩:=join_ext i2 i3 (by omega) hle;have hpt:CRel ρ2 (.ptr id1 (.lit 0)) (.pointer (some (ρ.at j 0))):=⟨by rw [hn];rfl,by simp [Map.at,Map.blk,Map.off,hn,SO.v]⟩;exact ⟨.one (.sc (.ptr id1 (.lit 0)))::ys,(hh++[(id1,.ro y)])++hs,_,id',by simp [unP,e1,e2],by omega,hin,crel_ext (x:=.ptr id1 (.lit 0)) x1 hpt,args_ext x2 r2⟩
    ·cases h
   ·cases h
 | .ptr _::_,.one (.agg _)::_,_,_,h,_,_,_,_,_=>by simp [flP] at h
 | .ptr _::_,.one (.sc (.ptr _ (.lit (_+1))))::_,_,_,h,_,_,_,_,_=>by simp [flP] at h
 | .ptr _::_,.one (.sc (.ptr _ (.sym _ _)))::_,_,_,h,_,_,_,_,_=>by simp [flP] at h
 | .ptr _::_,.one (.sc (.int _ _))::_,_,_,h,_,_,_,_,_=>by simp [flP] at h
 | .ptr _::_,.one (.sc (.bool _))::_,_,_,h,_,_,_,_,_=>by simp [flP] at h
 | .ptr _::_,.one (.sc (.slice _ _ _))::_,_,_,h,_,_,_,_,_=>by simp [flP] at h
 | .ptr _::_,.one (.sc .nils)::_,_,_,h,_,_,_,_,_=>by simp [flP] at h
 | .ptr _::_,.one (.sc (.raw _))::_,_,_,h,_,_,_,_,_=>by simp [flP] at h
 | .ptr _::_,.one (.sc (.rows _ _))::_,_,_,h,_,_,_,_,_=>by simp [flP] at h
 | .ptr _::_,.one (.sc (.fp _ _ _ _))::_,_,_,h,_,_,_,_,_=>by simp [flP] at h
 | .ptr _::_,.one (.sc (.osl _ _ _ _))::_,_,_,h,_,_,_,_,_=>by simp [flP] at h
 | .ptr _::_,.one (.sc (.optr _ _ _ _))::_,_,_,h,_,_,_,_,_=>by simp [flP] at h
 | .ptr _::_,.one (.sc (.fn _ _ _ _))::_,_,_,h,_,_,_,_,_=>by simp [flP] at h
 | .ptr _::_,.tup _::_,_,_,h,_,_,_,_,_=>by simp [flP] at h
 | .ptr _::_,.cond .. :: _,_,_,h,_,_,_,_,_=>by simp [flP] at h
 | .ptr _::_,.junk::_,_,_,h,_,_,_,_,_=>by simp [flP] at h
 | [],_::_,_,_,h,_,_,_,_,_=>by simp [flP] at h
 |_::_,[],_,_,h,_,_,_,_,_=>by simp [flP] at h
 | .sc _::_,.one (.agg _)::_,_,_,h,_,_,_,_,_=>by simp [flP] at h
 | .agg _::_,.one (.sc _)::_,_,_,h,_,_,_,_,_=>by simp [flP] at h
 | .sc _::_,.tup _::_,_,_,h,_,_,_,_,_=>by simp [flP] at h
 | .sc _::_,.cond .. :: _,_,_,h,_,_,_,_,_=>by simp [flP] at h
 | .sc _::_,.junk::_,_,_,h,_,_,_,_,_=>by simp [flP] at h
 | .agg _::_,.tup _::_,_,_,h,_,_,_,_,_=>by simp [flP] at h
 | .agg _::_,.cond .. :: _,_,_,h,_,_,_,_,_=>by simp [flP] at h
 | .agg _::_,.junk::_,_,_,h,_,_,_,_,_=>by simp [flP] at h
abbrev FSpec:=List Dat->Nat->Option Eff
def plainC:SC->Bool | .rows .. | .fp .. | .fn ..=>false |_=>true
def plainS:List Seg->Bool
 | []=>true
 | .c x::r=>plainC x&&plainS r
 | .ints .. :: r=>plainS r
def plainV:V1->Bool | .sc x=>plainC x | .agg l=>plainS l
def plainSV:SV->Bool | .one x=>plainV x | .tup l=>l.all plainV |_=>true
def plainK:List K->Bool
 | []=>true
 | .slice _::_=>false
 |_::r=>plainK r
def plainH:Heap->Bool
 | []=>true
 |(_,.own _ l)::r=>plainS l&&plainH r
 |(_,.row _ l)::r=>plainS l&&plainH r
 |(_,.orow e _)::r=>plainK (eks e)&&plainH r
 |_::r=>plainH r
def plainE (e:Eff):Bool:=plainSV e.val&&plainH e.nw
def con (aps:List AP) (spec:FSpec):Con:=fun hp fr args=>match flP hp aps args with
 |some (ds,ps)=>(match spec ds fr with
  |some e=>some {e with vc:=ps++e.vc,st:=if plainE e then [] else kills (keepOwn hp (idsX hp args))}
  |none=>none)
 |none=>none
theorem con_jf (aps:List AP) (spec:FSpec) (hp:Heap) (fr:Nat) (l:List SV):con aps spec hp fr (.junk::l)=none:=by
 have:flP hp aps (.junk::l)=none:=by
  cases aps with
  |nil=>rfl
  |cons a r=>cases a<;>rfl
 simp only [con,this]
def slots0:List SV->Nat->Slots
 | [],_=>[]
 |x::l,i=>(i,x)::slots0 l (i+1)
def resV (tt:TT) (s:St):ResultVar->Option (V1 × List Prop)
 | .tmp t=>(match look s.tm t with |some (.one x)=>some (x,[]) |_=>none)
 | .cell t T=>(match look s.tm t with |some (.one (.sc c))=>ldV tt s.hp T c |_=>none)
def resL (tt:TT) (s:St):List ResultVar->Option (List V1 × List Prop)
 | []=>some ([],[])
 |r::l=>(match resV tt s r,resL tt s l with |some (x,ps),some (xs,qs)=>some (x::xs,ps++qs) |_,_=>none)
def resS (tt:TT) (s:St) (l:List ResultVar):Option (SV × List Prop):=
 match resL tt s l with
 |some ([x],ps)=>some (.one x,ps)
 |some (xs,ps)=>some (.tup xs,ps)
 |none=>none
def scIn (g:List Nat):SC->Bool | .ptr id _ | .slice id _ _ | .osl _ id _ _ | .optr _ id _ _ | .bm _ id=>nin id g |_=>true
def segsIn (g:List Nat):List Seg->Bool
 | []=>true
 | .c x::r=>scIn g x&&segsIn g r
 | .ints .. :: r=>segsIn g r
def v1In (g:List Nat):V1->Bool | .sc x=>scIn g x | .agg l=>segsIn g l
def svIn (g:List Nat):SV->Bool | .one x=>v1In g x | .tup l=>l.all (v1In g) |_=>false
def newOK (g:List Nat) (fr:Nat):Heap->Bool
 | []=>true
 |(i,.own _ l)::r=>Nat.ble fr i&&Nat.blt i (fr+8)&&segsIn g l&&newOK g fr r
 |(i,.row _ l)::r=>Nat.ble fr i&&Nat.blt i (fr+8)&&segsIn g l&&newOK g fr r
 |(i,.orow _ _)::r=>Nat.ble fr i&&Nat.blt i (fr+8)&&newOK g fr r
 |_=>false
def frzC (hp:Heap):SC->SC->SC × List Prop × List Nat
 | .osl e id lo n,.rows _ _=>(match conE hp e (.osl e id lo n) with |some (d',ps)=>(.rows e d',ps,[id]) |none=>(.osl e id lo n,[],[]))
 |x,_=>(x,[],[])
def frzS (hp:Heap):List Seg->List Seg->List Seg × List Prop × List Nat
 | .c x::r,.c y::s=>(match frzC hp x y,frzS hp r s with |(x',ps,is),(r',qs,js)=>(.c x'::r',ps++qs,is++js))
 | .ints k n f::r,.ints _ _ _::s=>(match frzS hp r s with |(r',qs,js)=>(.ints k n f::r',qs,js))
 |x,_=>(x,[],[])
def frzV (hp:Heap):V1->V1->V1 × List Prop × List Nat
 | .sc x,.sc y=>(match frzC hp x y with |(x',r)=>(.sc x',r))
 | .agg a,.agg b=>(match frzS hp a b with |(a',r)=>(.agg a',r))
 |x,_=>(x,[],[])
def frzT (hp:Heap):List V1->List V1->List V1 × List Prop × List Nat
 |x::r,y::s=>(match frzV hp x y,frzT hp r s with |(x',ps,is),(r',qs,js)=>(x'::r',ps++qs,is++js))
 |x,_=>(x,[],[])
def frzSV (hp:Heap):SV->SV->SV × List Prop × List Nat
 | .one x,.one y=>(match frzV hp x y with |(x',r)=>(.one x',r))
 | .tup a,.tup b=>(match frzT hp a b with |(a',r)=>(.tup a',r))
 |x,_=>(x,[],[])
def keys (h:Heap):List Nat:=h.map (·.1)
def endOK (δ:List (Nat × Nat)) (fr:Nat) (e:Eff):Bool:=injOK δ e.nw&&newOK (keys e.nw) fr e.nw&&svIn (keys e.nw) e.val
def retK (tt:TT) (rs:List ResultVar) (e:Eff) (fr:Nat):Ex->St->Prop:=fun x s=>
 match x with
 | .exit _=>False
 |_=>(match resS tt s rs with
  |some (v,ps)=>AllK ps (match frzSV s.hp v e.val with
   |(v,fs,ids)=>AllK fs (
    let ids:=keepOwn s.hp ids
    let δ:=mHeap (kills ids++s.hp) e.nw (mSV v e.val)
    match svL δ (fr+8) v e.val,heapL δ (fr+8) s.nx (kills ids++s.hp) e.nw with
    |some a,some b=>if endOK δ fr e then Conj (a++b) else False
    |_,_=>False))
  |none=>False)
end Go.Proofs.YtplejbgafjpomaaGreatDoor.Sx
