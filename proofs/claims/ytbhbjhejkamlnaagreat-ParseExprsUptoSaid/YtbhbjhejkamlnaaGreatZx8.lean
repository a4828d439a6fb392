import Derived.Test.YtbhbjhejkamlnaaGreatZx7
namespace Go.Proofs.YtbhbjhejkamlnaaGreat.Sx
open Go.RowKit
def bE (hp:ah) (id:Nat):Bool:=match ad hp id with |some x=>x.isOwn |none=>false
def j5 (ρ:Map) (b:Nat):List Nat->Bool
 | []=>false
 |id::r=>((ρ id).isSome&&Nat.beq (ρ.blk id) b) ||j5 ρ b r
theorem fS {ρ:Map} {b:Nat}:∀ {l:List Nat},j5 ρ b l=true ↔ ∃ id∈l,(ρ id).isSome=true /\ ρ.blk id=b
 | []=>by simp [j5]
 |id::r=>by
  simp only[j5,Bool.or_eq_true,Bool.and_eq_true,fS (l:=r),List.mem_cons];constructor
  ·rintro (⟨h1,h2⟩ |⟨j,hj,h⟩)
   ·exact ⟨id,.inl rfl,h1,Nat.eq_of_beq_eq_true h2⟩
   ·exact ⟨j,.inr hj,h⟩
  ·rintro ⟨j,rfl |hj,h1,h2⟩
   ·exact .inl ⟨h1,by rw[h2];exact Nat.beq_refl b⟩
   ·exact .inr ⟨j,hj,h1,h2⟩
def b9 (w:World) (b:Nat):Option (Array Value):=match w.heap[b]? with |some (.cells cs _ _)=>some cs |_=>none
def bp (ρ:Map) (w:World) (ids:List Nat):Fz:=fun b=>match ρ.fz b with |some cs=>some cs |none=>if j5 ρ b ids then b9 w b else none
theorem eI (ρ:Map) (w:World) (ids:List Nat):FzLe ρ.fz (bp ρ w ids):=fun b cs h=>by unfold bp;rw[h]
theorem WH.tabP {w0:W0} {ρ:Map} {h:ah} {w:World} (hw:WH w0 ρ h w) (ids:List Nat):TabF (bp ρ w ids):=by
 have h1:=hw.tab;rw[<- hw.f00] at h1;exact (h1.mono hw.sub).mono (eI ρ w ids)
theorem qW {w:World} {b:Nat} {cs:Array Value} (h:b9 w b=some cs):∃ T z,w.heap[b]? = some (.cells cs T z):=by
 unfold b9 at h
 split at h
 ·rename_i cs' T z hh;obtain rfl:=by simpa using h
  exact ⟨T,z,hh⟩
 ·cases h
theorem g8 {ρ:Map} {w:World} {ids:List Nat} {b:Nat} {cs:Array Value} (h:bp ρ w ids b=some cs):ρ.fz b=some cs ∨ ((∃ id∈ids,(ρ id).isSome=true /\ ρ.blk id=b)/\∃ T z,w.heap[b]? = some (.cells cs T z)):=by
 unfold bp at h
 split at h
 ·rename_i cs' hc;exact .inl (by rw[hc];exact h)
 ·split at h
  ·rename_i hi;exact .inr ⟨fS.1 hi,qW h⟩
  ·cases h
theorem qY {ρ:Map} {w:World} (hz:Frozen ρ w) {ids:List Nat} {b:Nat} {cs:Array Value} (h:bp ρ w ids b=some cs):∃ T z,w.heap[b]? = some (.cells cs T z):=by
 rcases g8 h with h |⟨_,h⟩
 ·exact hz b cs h
 ·exact h
theorem qZ {ρ:Map} {w:World} (hz:Frozen ρ w) {ids:List Nat} {id:Nat} (hi:id∈ids) (hs:(ρ id).isSome=true) {cs:Array Value} {T:TypeId} {z:Nat × Nat} (hh:w.heap[ρ.blk id]? = some (.cells cs T z)):bp ρ w ids (ρ.blk id)=some cs:=by
 unfold bp;split
 ·rename_i cs' hc;obtain ⟨T',z',hh'⟩:=hz _ _ hc;rw[hh] at hh';simp only[Option.some.injEq,Obj.cells.injEq] at hh';rw[hh'.1]
 ·rw[if_pos (fS.2 ⟨id,hi,hs,rfl⟩)];unfold b9;rw[hh]
def iY:SC->List Nat | .slice id _ _=>[id] | .osl _ id _ _=>[id] |_=>[]
def j6:List Seg->List Nat
 | []=>[]
 | .c x::r=>iY x++j6 r
 | .ints .. :: r=>j6 r
def FA:V1->List Nat | .sc x=>iY x | .agg l=>j6 l
def FB:List V1->List Nat
 | []=>[]
 |x::r=>FA x++FB r
def MY:SV->List Nat | .one x=>FA x | .tup l=>FB l |_=>[]
def aw (hp:ah):List Nat->List Nat
 | []=>[]
 |id::r=>if bE hp id then id::aw hp r else aw hp r
theorem cE {hp:ah}:∀ {l:List Nat} {id:Nat},id∈aw hp l↔id∈l/\bE hp id=true
 | [],id=>by simp [aw]
 |j::r,id=>by
  simp only[aw];split
  ·rename_i h;simp only[List.mem_cons,cE (l:=r)];constructor
   ·rintro (rfl |⟨a,b⟩)
    ·exact ⟨.inl rfl,h⟩
    ·exact ⟨.inr a,b⟩
   ·rintro ⟨rfl |a,b⟩
    ·exact .inl rfl
    ·exact .inr ⟨a,b⟩
  ·rename_i h;rw[cE (l:=r),List.mem_cons];constructor
   ·rintro ⟨a,b⟩;exact ⟨.inr a,b⟩
   ·rintro ⟨rfl |a,b⟩
    ·exact absurd b h
    ·exact ⟨a,b⟩
theorem we {hp:ah} {e:TypeId} {c:SC} {d:D} {ps:List Prop} (h:fR hp e c=some (d,ps)) (hps:All ps) {w0:W0} {w:World} {ρ:Map} (hw:WH w0 ρ hp w) {v:Value} (hv:aJ ρ c v) {ids:List Nat} (hids:∀ id∈iY c,bE hp id=true->id∈ids):TRel (bp ρ w ids) (.slice e) d v:=by
 unfold fR at h
 split at h
 ·obtain ⟨rfl,rfl⟩:=by simpa using h
  obtain rfl:v=_:=hv;exact .nil _ _ rfl
 ·rename_i e' d'
  split at h
  ·rename_i he;obtain rfl:=Nat.eq_of_beq_eq_true he;obtain ⟨rfl,rfl⟩:=by simpa using h
   exact TRel.mono (eI ρ w ids) hv
  ·cases h
 ·rename_i e' id lo n
  split at h
  ·rename_i he;obtain rfl:=Nat.eq_of_beq_eq_true he
   split at h
   ·rename_i e'' d' hl
    split at h
    ·rename_i he';obtain rfl:=Nat.eq_of_beq_eq_true he';obtain ⟨rfl,rfl⟩:=by simpa using h
     obtain ⟨hle,_⟩:=hps;obtain ⟨A,cp,rfl,hc,hA⟩:=hv;have hlen:(d'.sub lo.v (lo.v+n.v)).len=n.v:=by rw[D.sub_len _ hle];omega
     rcases hA with ⟨hc0,hsp⟩ |⟨rfl,hcap,hid⟩
     ·have hn:n.v=0:=by omega
      cases A with
      |none=>
       rw[hn,hc0];exact .nil _ _ (by rw[Nat.add_zero,D.sub_len _ (by omega)];omega)
      |some a=>
       have:a=⟨a.block,a.off,none⟩:=by have:=hsp a rfl;cases a;simp_all
       rw[show Value.slice (some a) n.v cp=Value.slice (some ⟨a.block,a.off,none⟩) (d'.sub lo.v (lo.v+n.v)).len cp by rw[hlen,<- this]];exact .slice _ _ _ _ _ (fun _ _=>undef) (by omega) (fun i j hi _=>by omega) (fun i j k hi _=>by omega)
     ·rcases hw.ents id _ hl with ⟨g0,_⟩ |⟨_,_,_,cs,hh,hsz,hd,hcs⟩
      ·rw[g0] at hid;cases hid
      ·have hF:=qZ hw.froz (hids id (by simp [iY]) (by simp [bE,hl,Ent.isOwn])) hid hh;rw[show Value.slice (some ⟨ρ.blk id,lo.v*(eks e).length,none⟩) n.v cp=Value.slice (some ⟨ρ.blk id,lo.v*(eks e).length,none⟩) (d'.sub lo.v (lo.v+n.v)).len cp by rw[hlen]];have key:∀ i j,i<n.v->∀ k,(eks e)[j]? = some k->∃ u,cs[lo.v*(eks e).length+i*(eks e).length+j]? = some u/\TRel ρ.fz k ((d'.sub lo.v (lo.v+n.v)).el i j) u:=fun i j hi k hk=>by
        obtain ⟨u,hu,ht⟩:=hcs (lo.v+i) j k (by omega) hk;refine ⟨u,?_,?_⟩
        ·rw[<- hu];congr 1;rw[Nat.add_mul]
        ·rw[D.sub_el _ (by omega)];exact ht
       refine .slice _ _ _ _ _ (fun i j=>(cs[lo.v*(eks e).length+i*(eks e).length+j]?).getD undef) (by omega) (fun i j hi hj=>?_) (fun i j k hi hk=>?_)
       ·obtain ⟨u,hu,_⟩:=key i j (by omega) _ (List.getElem?_eq_getElem hj);simp only[Fz.cell,hF,hu,Option.getD_some]
       ·obtain ⟨u,hu,ht⟩:=key i j (by omega) k hk;simp only[hu,Option.getD_some];exact ht.mono (eI ρ w ids)
    ·cases h
   ·cases h
  ·cases h
 ·cases h
def aL:List Nat->ah
 | []=>[]
 |id::r=>(id,.gone)::aL r
theorem c7:∀ {l:List Nat} {id:Nat} {x:Ent},ad (aL l) id=some x->x = .gone/\id∈l
 | [],id,x,h=>by simp [aL,ad] at h
 |j::r,id,x,h=>by
  simp only[aL,ad] at h
  split at h
  ·rename_i hj;exact ⟨(by simpa using h.symm),by rw[show j=id by simpa using hj];exact List.mem_cons_self ..⟩
  ·obtain ⟨h1,h2⟩:=c7 h;exact ⟨h1,List.mem_cons_of_mem _ h2⟩
theorem g9:∀ {l:List Nat} {id:Nat},id∈l->ad (aL l) id=some .gone
 | [],id,h=>by cases h
 |j::r,id,h=>by
  simp only[aL,ad];split
  ·rfl
  ·rename_i hj
   rcases List.mem_cons.1 h with rfl |h
   ·exact absurd (by simp) hj
   ·exact g9 h
def Map.frz (ρ:Map) (w:World) (ids:List Nat):Map:={ρ with fz:=bp ρ w ids}
theorem cF {B:Nat} {ρ:Map} {w:World} (_hz:Frozen ρ w) (ids:List Nat) (sv:SV) (vc:List Prop):Fr B ρ (ρ.frz w ids) w w {val:=sv,vc:=vc,st:=aL ids}:=by
 refine ⟨⟨fun _ _ h=>h,fun _ _=>rfl,eI ρ w ids,rfl,rfl⟩,fun _ _=>rfl,Below.refl 0 w,fun _ _ _=>rfl,fun id x hx=>by rw[(c7 hx).1];trivial,fun _ _ h=>by simp [ad] at h,fun _ _ _ _ h=>by simp [ad] at h,fun b cs hc=>?_⟩
 rcases g8 hc with h |⟨⟨id,hi,hs,hb⟩,hh⟩
 ·exact .inl h
 ·exact .inr ⟨.inr ⟨id,g9 hi,hs,hb.symm⟩,hh,fun _ _ h=>by simp [ad] at h⟩
theorem lX {hp:ah} {ids:List Nat}:∀ id x,ad (aL (aw hp ids)) id=some x->x.okSt=true/\ad ([]:ah) id=none/\∃ y,ad hp id=some y/\y.isOwn=true:=fun id x hx=>by
 obtain ⟨rfl,hi⟩:=c7 hx;obtain ⟨_,ho⟩:=cE.1 hi;refine ⟨rfl,rfl,?_⟩;unfold bE at ho
 split at ho
 ·rename_i y hy;exact ⟨y,hy,ho⟩
 ·cases ho
def FC (E len:Nat):List (Nat × Nat)->Bool
 | []=>false
 |(t,m)::r=>(Nat.beq t E&&Nat.ble m len) ||FC E len r
def wg (tt:TT) (fr:Nat) (t:TypeId) (len:Nat) (pv:List (Nat × SV)):Option Eff:=
 match uD tt t with
 |some (.slice E)=>if FC E len Gr then (match elT tt E with
  |some x=>if Nat.ble (len*x.ks.length) 16777216 then (match fg (fun i=>some (i*x.ks.length,x.ks.length)) (List.replicate len x.zero).flatten pv with
   |some (l,ps)=>(match j4 x.zero x.ks with
    |some _=>some {val:=.one (.sc (.slice fr (.lit 0) (.lit len))),vc:=ps,nw:=[(fr,.own E l)]}
    |none=>none)
   |none=>none) else none
  |none=>none) else none
 |_=>none
theorem MZ {P:Program} {tt:TT} (htt:aP P tt) {fr:Nat} {t:TypeId} {len:Nat} {pv:List (Nat × SV)} {e:Eff} (h:wg tt fr t len pv=some e) (hvc:All e.vc) {ρ:Map} {w0:W0} {w:World} (hB:w0.heap.size<=w.heap.size) (hz:Frozen ρ w) (hfr:∀ id x,ad e.nw id=some x -> ρ id=none)
 {parts:Array (Nat × Value)} (hl:pv.length=parts.toList.length) (hv:∀ (i:Nat) a b,pv[i]? = some a->parts.toList[i]? = some b->a.1=b.1/\UR ρ a.2 b.2) :
 ∃ v w',(Instr.buildSlice t len parts).run P w = .ok v w'/\UR (ρ.set fr (w.heap.size,0)) e.val v/\Fr w0.heap.size ρ (ρ.set fr (w.heap.size,0)) w w' e:=by
 unfold wg at h
 split at h
 ·rename_i E hT;obtain ⟨d,hT,hd⟩:=bi htt hT;obtain rfl:=cU hd
  split at h
  ·split at h
   ·rename_i xi hxi;obtain ⟨g1,g2,i,z,g3,g4,g5,g6,g7⟩:=kM htt hxi
    split at h
    ·rename_i hlen;have hlen:=Nat.le_of_ble_eq_true hlen
     split at h
     ·rename_i l ps hf
      split at h
      ·rename_i zd hzd;obtain rfl:=by simpa using h
       have hzr:(zeroValue E).run P w = .ok z w:=by simp [zeroValue,typeInfo,g3,g5]
       have hsz:z.cells.size=xi.ks.length:=by simpa using (n7 hzd (g7 ρ)).2.1
       have hcs:ax ρ (cellsOf (List.replicate len xi.zero).flatten) ((Array.range (len*xi.ks.length)).map (z.cells[· % z.cells.size]!)).toList:=by
        rw[<- hsz,Ft (by omega)];exact v7 (g7 ρ) len
       obtain ⟨cells',h1,h2⟩:=lS pv parts.toList _ l ps _ hf hvc hl hv hcs;have hno:¬ len*xi.ks.length>2 ^ 24:=by omega
       refine ⟨.slice (some ⟨w.heap.size,0,none⟩) len len,w.alloc (.cells cells' E),?_,?_,qT hB hz (hfr fr (.own E l) (by simp [ad])) h2 _ _⟩
       ·simp only[Instr.buildSlice,Sem.run_bind,run_underlying hT,Result.andThen_ok,dC g3,g4,if_neg hno]
        by_cases h0:len*xi.ks.length=0
        ·have hl0:len=0:=by
          rcases Nat.mul_eq_zero.1 h0 with h |h
          ·exact h
          ·omega
         subst hl0;simp only[if_pos h0,Sem.run_bind,Sem.run_pure,Result.andThen_ok];have e0:((Array.range (0*xi.ks.length)).map fun q=>(#[]:Array Value)[q%(#[]:Array Value).size]!)=((Array.range (0*xi.ks.length)).map (z.cells[· % z.cells.size]!)):=by simp
         rw[e0,h1];rfl
        ·simp only[if_neg h0,Sem.run_bind,hzr,Sem.run_pure,Result.andThen_ok];rw[h1];rfl
       ·refine ⟨some ⟨w.heap.size,0,none⟩,len,rfl,Nat.le_refl _,.inl ⟨by simp [Map.set],?_⟩⟩;simp [Map.at,Map.blk,Map.off,Map.set,SO.v]
      ·cases h
     ·cases h
    ·cases h
   ·cases h
  ·cases h
 ·cases h
def sBS (tt:TT) (fr:Nat) (t:TypeId) (len:Nat) (pv:List (Nat × SV)):Option Eff:=match wg tt fr t len pv with |some e=>some e |none=>match v6 tt fr t len pv with |some e=>some e |none=>vU tt fr t len pv
theorem FD {P:Program} {tt:TT} (htt:aP P tt) {fr:Nat} {t:TypeId} {len:Nat} {pv:List (Nat × SV)} {e:Eff} (h:sBS tt fr t len pv=some e) (hvc:All e.vc) {ρ:Map} {w0:W0} {w:World} (hB:w0.heap.size<=w.heap.size) (hz:Frozen ρ w) (hfr:∀ id x,ad e.nw id=some x -> ρ id=none)
 {parts:Array (Nat × Value)} (hl:pv.length=parts.toList.length) (hv:∀ (i:Nat) a b,pv[i]? = some a->parts.toList[i]? = some b->a.1=b.1/\UR ρ a.2 b.2) :
 ∃ v w' c,(Instr.buildSlice t len parts).run P w = .ok v w'/\UR (ρ.set fr (w.heap.size,0) c) e.val v/\Fr w0.heap.size ρ (ρ.set fr (w.heap.size,0) c) w w' e:=by
 unfold sBS at h
 split at h
 ·rename_i e' hb;simp only[Option.some.injEq] at h;subst h;obtain ⟨v,w',h1,h2,h3⟩:=MZ htt hb hvc hB hz hfr hl hv;exact ⟨v,w',0,h1,h2,h3⟩
 ·split at h
  ·rename_i e' hb;simp only[Option.some.injEq] at h;subst h;exact MU htt hb hvc hB hz hfr hl hv
  ·obtain ⟨v,w',h1,h2,h3⟩:=MQ htt h hvc hB hz hfr hl hv;exact ⟨v,w',0,h1,h2,h3⟩
theorem FE {B:Nat} {ρ ρ2:Map} {w w2:World} {ids:List Nat} {e:Eff} (hz:Frozen ρ w) (h:Fr B (ρ.frz w ids) ρ2 w w2 e) (hst:∀ id x,ad e.st id=some x->(ρ id).isSome=true->(ρ.frz w ids).fz (ρ.blk id)=none) (ps:List Prop):Fr B ρ ρ2 w w2 {e with vc:=ps,st:=aL ids++e.st}:=by
 have f:=cF (B:=B) hz ids .junk [];have hl:∀ id x,ad e.st id=some x->∃ y,ad (aL ids++e.st) id=some y:=fun id x hx=>by
  rw[co]
  cases ad (aL ids) id with
  |some y=>exact ⟨y,rfl⟩
  |none=>exact ⟨x,hx⟩
 have hk:∀ b,j3 (ρ.frz w ids) e.st b->j3 ρ (aL ids++e.st) b:=fun b ⟨k,h1,h2,h3⟩=>by
  refine ⟨k,?_,h2,h3⟩;rw[co]
  cases hq:ad (aL ids) k with
  |some y=>rw[(c7 hq).1]
  |none=>exact h1
 refine ⟨f.ext.trans h.ext,fun id hid=>h.only id hid,h.below,fun b hb hn=>h.keep b hb fun id x hx hs=>?_,fun id x hx=>?_,fun id x hx=>?_,h.apart,fun b cs hc=>?_⟩
 ·obtain ⟨y,hy⟩:=hl id x hx;exact hn id y hy hs
 ·have hx':ad (aL ids++e.st) id=some x:=hx;rw[co] at hx'
  cases hq:ad (aL ids) id with
  |some y=>
   rw[hq] at hx';obtain rfl:=by simpa using hx'
   rw[(c7 hq).1];trivial
  |none=>rw[hq] at hx';exact h.st id x hx'
 ·obtain ⟨h1,h2,h3⟩:=h.nw id x hx;exact ⟨h1,fun hs=>(h2 hs).imp (fun h=>h) (hk _),h3⟩
 ·rcases h.fz b cs hc with h1 |⟨h1,h2,h3⟩
  ·rcases g8 h1 with h4 |⟨⟨id,hi,hs,hb⟩,T,z,hh⟩
   ·exact .inl h4
   ·refine .inr ⟨.inr ⟨id,?_,hs,hb.symm⟩,?_,fun i x hx hi' hbb=>?_⟩
    ·show ad (aL ids++e.st) id=_;rw[co,g9 hi]
    ·exact ⟨T,z,by rw[h.keep b (nY hh) (fun k y hy hks hkb=>by
      have:=hst k y hy hks;have hkb':ρ.blk k=b:=hkb;rw[hkb',h1] at this;cases this)];exact hh⟩
    ·obtain ⟨g1,_,g3⟩:=h.nw i x hx;have:=(fh g1 g3 hi').1.2;rw[hbb,hc] at this;cases this
  ·exact .inr ⟨h1.imp (fun h=>h) (hk _),h2,h3⟩
theorem cG {ρ:Map} {a b:List SC} {vs:List Value}:ax ρ (a++b) vs ↔ ∃ x y,vs=x++y/\ax ρ a x/\ax ρ b y:=by
 constructor
 ·intro h;refine ⟨vs.take a.length,vs.drop a.length,by simp,⟨by have:=h.1;simp at this ⊢;omega,fun i x v hx hv=>?_⟩,⟨by have:=h.1;simp at this ⊢;omega,fun i x v hx hv=>?_⟩⟩
  ·have hi:=br hx;rw[List.getElem?_take_of_lt hi] at hv;exact h.2 i x v (by rw[List.getElem?_append_left hi];exact hx) hv
  ·rw[List.getElem?_drop] at hv;exact h.2 (a.length+i) x v (by rw[List.getElem?_append_right (by omega)];simpa using hx) hv
 ·rintro ⟨x,y,rfl,h1,h2⟩;exact lR h1 h2
def fzC (hp:ah):SC->SC × List Prop × List Nat
 | .osl e id lo n=>(match fR hp e (.osl e id lo n) with |some (d,ps)=>(.rows e d,ps,[id]) |none=>(.osl e id lo n,[],[]))
 |x=>(x,[],[])
def fzS (hp:ah):List Seg->List Seg × List Prop × List Nat
 | []=>([],[],[])
 | .c x::r=>(match fzC hp x,fzS hp r with |(x',ps,is),(r',qs,js)=>(.c x'::r',ps++qs,is++js))
 | .ints k n f::r=>(match fzS hp r with |(r',qs,js)=>(.ints k n f::r',qs,js))
def fzV (hp:ah):V1->V1 × List Prop × List Nat
 | .sc x=>(match fzC hp x with |(x',r)=>(.sc x',r))
 | .agg a=>(match fzS hp a with |(a',r)=>(.agg a',r))
def iZ (hp:ah):SV->SV × List Prop × List Nat
 | .one x=>(match fzV hp x with |(x',r)=>(.one x',r))
 |x=>(x,[],[])
def fzP (hp:ah):List (Nat × SV)->List (Nat × SV) × List Prop × List Nat
 | []=>([],[],[])
 |(i,x)::r=>(match iZ hp x,fzP hp r with |(x',ps,is),(r',qs,js)=>((i,x')::r',ps++qs,is++js))
section
variable {hp:ah} {w0:W0} {w:World} {ρ:Map} {all:List Nat}
theorem FF (hw:WH w0 ρ hp w) (x:SC) (hp':All (fzC hp x).2.1) (hall:∀ id∈(fzC hp x).2.2,bE hp id=true->id∈all) {v:Value} (hv:aJ ρ x v):aJ (ρ.frz w all) (fzC hp x).1 v:=by
 have ext:Ext ρ (ρ.frz w all):=(cF (B:=0) hw.froz all .junk []).ext
 cases x with
 |osl e id lo n=>
  simp only[fzC] at hp' hall ⊢
  cases hc:fR hp e (.osl e id lo n) with
  |some p=>
   obtain ⟨d,ps⟩:=p;rw[hc] at hp' hall;dsimp only at hp' hall ⊢;exact we hc hp' hw hv (fun i hi ho=>hall i (by simpa [iY] using hi) ho)
  |none=>exact gV ext hv
 |_=>exact gV ext hv
theorem wh (hw:WH w0 ρ hp w):∀ (x:List Seg),All (fzS hp x).2.1->(∀ id∈(fzS hp x).2.2,bE hp id=true->id∈all)->∀ {vs:List Value},ax ρ (cellsOf x) vs->ax (ρ.frz w all) (cellsOf (fzS hp x).1) vs
 | [],_,_,vs,hv=>dc (cF (B:=0) hw.froz all .junk []).ext hv
 | .c x::r,hp',hall,vs,hv=>by
   obtain ⟨hp1,hp2⟩:=all_append.1 (show All ((fzC hp x).2.1++(fzS hp r).2.1) from hp');have hall':∀ id∈(fzC hp x).2.2++(fzS hp r).2.2,bE hp id=true->id∈all:=hall;show ax (ρ.frz w all) (cellsOf (.c (fzC hp x).1::(fzS hp r).1)) vs;rw[aM] at hv ⊢;obtain ⟨u,v,rfl,g1,g2⟩:=cG.1 hv;refine lR ⟨g1.1,fun i a b ha hb=>?_⟩ (wh hw r hp2 (fun id hi=>hall' id (List.mem_append_right _ hi)) g2)
   cases i with
   |zero=>
    simp only[Seg.cells,List.getElem?_cons_zero,Option.some.injEq] at ha;subst ha;exact FF hw x hp1 (fun id hi=>hall' id (List.mem_append_left _ hi)) (g1.2 0 x b (by simp [Seg.cells]) hb)
   |succ i=>simp [Seg.cells] at ha
 | .ints k n f::r,hp',hall,vs,hv=>by
   show ax (ρ.frz w all) (cellsOf (.ints k n f::(fzS hp r).1)) vs;rw[aM] at hv ⊢;obtain ⟨u,v,rfl,g1,g2⟩:=cG.1 hv;exact lR (dc (cF (B:=0) hw.froz all .junk []).ext g1) (wh hw r hp' hall g2)
theorem FG (hw:WH w0 ρ hp w) (x:V1) (hp':All (fzV hp x).2.1) (hall:∀ id∈(fzV hp x).2.2,bE hp id=true->id∈all) {v:Value} (hv:bL ρ x v):bL (ρ.frz w all) (fzV hp x).1 v:=by
 cases x with
 |sc c=>exact FF hw c hp' hall hv
 |agg l=>obtain ⟨cs,rfl,hc⟩:=hv;exact ⟨cs,rfl,wh hw l hp' hall hc⟩
theorem M0 (hw:WH w0 ρ hp w) (x:SV) (hp':All (iZ hp x).2.1) (hall:∀ id∈(iZ hp x).2.2,bE hp id=true->id∈all) {v:Value} (hv:UR ρ x v):UR (ρ.frz w all) (iZ hp x).1 v:=by
 cases x with
 |one c=>exact FG hw c hp' hall hv
 |tup l=>exact vL (cF (B:=0) hw.froz all .junk []).ext hv
 |cond=>exact hv.elim
 |junk=>exact hv.elim
theorem FH (hw:WH w0 ρ hp w):∀ (pv:List (Nat × SV)) (l:List (Nat × Value)),All (fzP hp pv).2.1->(∀ id∈(fzP hp pv).2.2,bE hp id=true->id∈all)->pv.length=l.length->(∀ (i:Nat) a b,pv[i]? = some a->l[i]? = some b->a.1=b.1/\UR ρ a.2 b.2) ->
 (fzP hp pv).1.length=l.length/\∀ (i:Nat) a b,(fzP hp pv).1[i]? = some a->l[i]? = some b->a.1=b.1/\UR (ρ.frz w all) a.2 b.2
 | [],l,_,_,hl,_=>⟨hl,fun i a b ha=>by simp [fzP] at ha⟩
 |(k,x)::r,[],_,_,hl,_=>by simp at hl
 |(k,x)::r,y::l,hp',hall,hl,hv=>by
  obtain ⟨hp1,hp2⟩:=all_append.1 (show All ((iZ hp x).2.1++(fzP hp r).2.1) from hp');have hall':∀ id∈(iZ hp x).2.2++(fzP hp r).2.2,bE hp id=true->id∈all:=hall;obtain ⟨h1,h2⟩:=FH hw r l hp2 (fun id hi=>hall' id (List.mem_append_right _ hi)) (by simpa using hl) (fun i a b ha hb=>hv (i+1) a b (by simpa using ha) (by simpa using hb));refine ⟨by show ((k,(iZ hp x).1)::(fzP hp r).1).length=_;simp [h1],fun i a b ha hb=>?_⟩;have ha':((k,(iZ hp x).1)::(fzP hp r).1)[i]? = some a:=ha
  cases i with
  |zero=>
   simp only[List.getElem?_cons_zero,Option.some.injEq] at ha' hb;subst ha' hb;obtain ⟨g1,g2⟩:=hv 0 (k,x) y rfl rfl;exact ⟨g1,M0 hw x hp1 (fun id hi=>hall' id (List.mem_append_left _ hi)) g2⟩
  |succ i=>exact h2 i a b (by simpa using ha') (by simpa using hb)
end
theorem wi {w0:W0} {w:World} {ρ:Map} {hp:ah} (hw:WH w0 ρ hp w) (ids:List Nat):WH w0 (ρ.frz w (aw hp ids)) (aL (aw hp ids)++hp) w:=by
 have:=gZ hw (cF (B:=w0.heap.size) hw.froz (aw hp ids) .junk []) (fun i x hx=>lX i x hx) (fun _ _ h=>by simp [ad] at h);exact this
def sBF (tt:TT) (hp:ah) (fr:Nat) (t:TypeId) (len:Nat) (pv:List (Nat × SV)):Option Eff:=match sBS tt fr t len pv with
 |some e=>some e
 |none=>(match fzP hp pv with
  |(pv',ps,ids)=>(match sBS tt fr t len pv' with
   |some e=>(match e.st with | []=>some {e with vc:=ps++e.vc,st:=aL (aw hp ids)} |_=>none)
   |none=>none))
theorem M1 {P:Program} {tt:TT} (htt:aP P tt) {hp:ah} {fr:Nat} {t:TypeId} {len:Nat} {pv:List (Nat × SV)} {e:Eff} (h:sBF tt hp fr t len pv=some e) (hvc:All e.vc) {ρ:Map} {w0:W0} {w:World} (hw:WH w0 ρ hp w) (hfr:∀ id x,ad e.nw id=some x -> ρ id=none)
 {parts:Array (Nat × Value)} (hl:pv.length=parts.toList.length) (hv:∀ (i:Nat) a b,pv[i]? = some a->parts.toList[i]? = some b->a.1=b.1/\UR ρ a.2 b.2) :
 ∃ v w' ρ',(Instr.buildSlice t len parts).run P w = .ok v w'/\UR ρ' e.val v/\Fr w0.heap.size ρ ρ' w w' e:=by
 unfold sBF at h
 split at h
 ·rename_i e' hb;simp only[Option.some.injEq] at h;subst h;obtain ⟨v,w',c,h1,h2,h3⟩:=FD htt hb hvc hw.below.size hw.froz hfr hl hv;exact ⟨v,w',_,h1,h2,h3⟩
 ·dsimp only at h
  split at h
  ·rename_i e' hb
   split at h
   ·rename_i hst;obtain rfl:=by simpa using h
    obtain ⟨hp1,hp2⟩:=all_append.1 hvc;obtain ⟨g1,g2⟩:=FH hw pv parts.toList hp1 (all:=aw hp (fzP hp pv).2.2) (fun id hi ho=>cE.2 ⟨hi,ho⟩) hl hv;obtain ⟨v,w',c,h1,h2,h3⟩:=FD htt hb hp2 (wi hw (fzP hp pv).2.2).below.size (wi hw (fzP hp pv).2.2).froz hfr g1 g2;refine ⟨v,w',_,h1,h2,?_⟩;have:=FE hw.froz h3 (fun id x hx=>by rw[hst] at hx;simp [ad] at hx) ((fzP hp pv).2.1++e'.vc);rw[hst,List.append_nil] at this;exact this
   ·cases h
  ·cases h
def wj (tt:TT) (hp:ah) (T e:TypeId) (id i j:Nat) (v:V1):Option Eff:=match lV tt hp T e id i j v with
 |some e=>some e
 |none=>(match fzV hp v with
  |(v',ps,ids)=>(match lV tt (aL (aw hp ids)++hp) T e id i j v' with
   |some ef=>some {ef with vc:=ps++ef.vc,st:=aL (aw hp ids)++ef.st}
   |none=>none))
theorem FI {tt:TT} {hp:ah} {T e:TypeId} {id i j:Nat} {v:V1} {ef:Eff} (h:lV tt hp T e id i j v=some ef):ef.val = .tup []/\∃ x,ef.st=[(id,x)]/\∃ y,ad hp id=some y/\y.isOwn=true:=by
 unfold lV at h
 split at h
 ·rename_i hl _
  split at h
  ·split at h
   ·obtain rfl:=by simpa using h
    exact ⟨rfl,_,rfl,_,hl,rfl⟩
   ·cases h
  ·cases h
 ·cases h
theorem M2 {P:Program} {tt:TT} (htt:aP P tt) {hp:ah} {T e:TypeId} {id i j:Nat} {v:V1} {ef:Eff} (h:wj tt hp T e id i j v=some ef) (hvc:All ef.vc) {ρ:Map} {w0:W0} {w:World} (hw:WH w0 ρ hp w) {pv x:Value} (hp':aJ ρ (.optr e id i j) pv) (hx:bL ρ v x) :
 ∃ a w' ρ',pv = .pointer (some a)/\(storeVar T a x).run P w = .ok () w'/\UR ρ' ef.val undef/\Fr w0.heap.size ρ ρ' w w' ef:=by
 unfold wj at h
 split at h
 ·rename_i e' hb;simp only[Option.some.injEq] at h;subst h;obtain ⟨a,w',g1,g2,_,g4⟩:=Fy htt hb hvc hw hp' hx;exact ⟨a,w',ρ,g1,g2,by rw[(FI hb).1];exact ⟨#[],rfl,trivial⟩,g4⟩
 ·dsimp only at h
  split at h
  ·rename_i e' hb;obtain rfl:=by simpa using h
   obtain ⟨hp1,hp2⟩:=all_append.1 hvc;have hw1:=wi hw (fzV hp v).2.2;have hp1':aJ (ρ.frz w (aw hp (fzV hp v).2.2)) (.optr e id i j) pv:=hp';obtain ⟨a,w',g1,g2,_,g4⟩:=Fy htt hb hp2 hw1 hp1' (FG hw v hp1 (all:=aw hp (fzV hp v).2.2) (fun i hi ho=>cE.2 ⟨hi,ho⟩) hx);obtain ⟨q1,y,q2,z,q3,q4⟩:=FI hb;refine ⟨a,w',_,g1,g2,by rw[show ({e' with vc:=(fzV hp v).2.1++e'.vc,st:=aL (aw hp (fzV hp v).2.2)++e'.st}:Eff).val=_ from q1];exact ⟨#[],rfl,trivial⟩,FE hw.froz g4 (fun k x' hx' hs=>?_) _⟩;rw[q2] at hx';simp only[ad] at hx'
   split at hx'
   ·rename_i hk;obtain rfl:id=k:=by simpa using hk
    exact (fh (hw1.ents _ _ q3) q4 hs).1.2
   ·cases hx'
  ·cases h
def sFn (tt:TT) (ag:Bool) (e:TypeId) (p:List D->Bool) (ok:List D->Prop):List SV->Option Eff
 | [x]=>(match ksT tt e,ag,x with
   |some ks,true,.one (.agg l)=>(match fQ l ks with |some (ds,[])=>some {val:=.one (.sc (.bool (.sym (p ds)))),vc:=[ok ds]} |_=>none)
   |some [k],false,.one (.sc x)=>(match scD k x with |some d=>some {val:=.one (.sc (.bool (.sym (p [d])))),vc:=[ok [d]]} |none=>none)
   |_,_,_=>none)
 |_=>none
theorem M3 {P:Program} {tt:TT} (htt:aP P tt) {ag:Bool} {e:TypeId} {p:List D->Bool} {ok:List D->Prop} {l:List SV} {ef:Eff} (h:sFn tt ag e p ok l=some ef) (hvc:All ef.vc) {ρ:Map} {hp:ah} {w0:W0} {w:World} (hw:WH w0 ρ hp w) {v:Value} (hv:aJ ρ (.fn ag e p ok) v) {vs:List Value} (ha:dD ρ l vs) :
 ∃ g cap,v = .func (.func g) #[] cap/\(∀ (args:Array Value) (w:World),(callFunc g args).run P w = .ok (.enter g args) w)/\Calls P g (vs.toArray++cap) w fun en w'=>∃ v',en = .returned v'/\UR ρ ef.val v'/\Fr w0.heap.size ρ ρ w w' ef:=by
 obtain ⟨z,hz,g,cap,rfl,hen,hq⟩:=hv;have key:∀ (ks:List K) (ds:List D) (x:SV) (l':List SV) (b:Bool),ksT tt e=some ks->l=x::l'->l'=[]->(∀ u,UR ρ x u->wQ ρ.fz ag e ds u)->b=p ds->ok ds->ef = {val:=.one (.sc (.bool (.sym b))),vc:=[ok ds]} ->
  ∃ g' cap',Value.func (.func g) #[] cap = .func (.func g') #[] cap'/\(∀ (args:Array Value) (w:World),(callFunc g' args).run P w = .ok (.enter g' args) w)/\Calls P g' (vs.toArray++cap') w fun en w'=>∃ v',en = .returned v'/\UR ρ ef.val v'/\Fr w0.heap.size ρ ρ w w' ef:=by
  intro ks ds x l' b hks hl hl' hx hb hok hef;subst hl hl' hb hef;obtain rfl:=HC htt hks
  match vs,ha with
  | [u],ha=>
    refine ⟨g,cap,rfl,hen,(hq w ρ.fz ds u hz hw.froz (hx u ha.1) hok).mono ?_⟩;rintro en w' ⟨rfl,hb⟩;refine ⟨_,rfl,rfl,Ext.refl ρ,fun _ _=>rfl,⟨hb.os,hb.tape,hb.output,hb.size,fun k hk=>absurd hk (Nat.not_lt_zero k)⟩,fun k hk _=>hb.block k hk,fun _ _ h=>by simp [ad] at h,fun _ _ h=>by simp [ad] at h,fun _ _ _ _ h=>by simp [ad] at h,fun _ _ h=>.inl h⟩
 unfold sFn at h
 split at h
 ·rename_i x
  split at h
  ·rename_i ks l0 hks
   split at h
   ·rename_i ds htk;obtain rfl:=by simpa using h
    refine key ks ds _ _ _ hks rfl rfl (fun u hu=>?_) rfl hvc.1 rfl;obtain ⟨cs,rfl,hcs⟩:=hu;obtain ⟨h1,h2,h3,h4⟩:=nZ _ _ _ _ htk _ hcs;obtain ⟨he,_,_⟩:=iu htt hks;have hl:=h4.1;simp only[cellsOf,List.flatMap_nil,List.length_nil,List.length_drop] at hl;exact ⟨cs.toList,by simp,by rw[he];omega,fun j k hk=>by rw[he] at hk;exact h3 j k hk⟩
   ·cases h
  ·rename_i k x0 hks
   split at h
   ·rename_i d hd;obtain rfl:=by simpa using h
    obtain ⟨he,_,_⟩:=iu htt hks;exact key [k] [d] _ _ _ hks rfl rfl (fun u hu=>⟨k,he,Fo hd hu⟩) rfl hvc.1 rfl
   ·cases h
  ·cases h
 ·cases h
def wk (tt:TT) (C:Cons) (hp:ah) (ev:Operand->Option SV) (fr:Nat) (op:Op):Option Eff:=
 match op with
 | .alloc T=>(match mL tt T with
   |some l=>some {val:=.one (.sc (.ptr fr (.lit 0))),vc:=[],nw:=[(fr,.own T l)]}
   |none=>none)
 | .box T x=>(match ev x with
   |some (.one v)=>if v.ok then some {val:=.one (.sc (.ptr fr (.lit 0))),vc:=[],nw:=[(fr,.own T v.segs)]} else none
   |_=>none)
 | .store T a x=>(match ev a,ev x with
   |some (.one (.sc (.ptr id o))),some (.one v)=>(match ad hp id,szT tt T with
    |some e,some i=>if j0 v.segs&&v.ok&&Nat.beq (vO v.segs) i then
      (match e.segs with
      |some l=>(match wr1 l o v.segs with
       |some (l',ps)=>(match e.put l' with |some e'=>some {val:=.tup [],vc:=ps,st:=[(id,e')]} |none=>none)
       |none=>none)
      |none=>none) else none
    |_,_=>none)
   |some (.one (.sc (.optr e id i j))),some (.one v)=>wj tt hp T e id i j v
   |_,_=>none)
 | .call {callee:=.value f,args,..}=>(match vN ev f,evs ev args.toList with
   |some f,some l=>(match C f with |some c=>c hp fr l |none=>none)
   |none,some l=>(match ev f with |some (.one (.sc (.fn ag e p ok)))=>sFn tt ag e p ok l |some (.one (.sc (.bm g id)))=>(match C g with |some c=>c hp fr (.one (.sc (.ptr id (.lit 0)))::l) |none=>none) |_=>none)
   |_,_=>none)
 | .call {callee:=.builtin .append,args,argTypes}=>(match args.toList,argTypes.toList with
   | [x,y],[T,T']=>if Nat.beq T T' then (match ev x,ev y with |some a,some b=>wa tt hp fr T a b |_,_=>none) else none
   |_,_=>none)
 | .makeSlice t l c=>(match ev l,ev c with |some a,some b=>v5 tt fr t a b |_,_=>none)
 | .call {callee:=.builtin .copy,args,argTypes}=>(match args.toList,argTypes.toList with
   | [x,y],T::_=>(match ev x,ev y with |some a,some b=>sCp tt hp T a b |_,_=>none)
   |_,_=>none)
 | .buildSlice t len parts=>(match evp ev parts.toList with |some pv=>sBF tt hp fr t len pv |none=>none)
 | .makeFunc fn first captured=>(match lT tt hp ev (.makeFunc fn first captured) with
   |some (v,ps)=>some {val:=v,vc:=ps}
   |none=>if Nat.beq first.size 0 then (match fn,evs ev captured.toList with
    | .func g,some l=>(match C g with |some c=>c hp fr (.junk::l) |none=>none)
    |_,_=>none) else none)
 |op=>(match lT tt hp ev op with |some (v,ps)=>some {val:=v,vc:=ps} |none=>none)
theorem n8 {ρ:Map} {E:Operand->Value} {ev:Operand->Option SV} (hE:gR ρ E ev):∀ (l:List Operand) svs,evs ev l=some svs->dD ρ svs (l.map E)
 | [],svs,h=>by
   simp only[evs,Option.some.injEq] at h;subst h;trivial
 |x::l,svs,h=>by
  simp only[evs] at h
  split at h
  ·rename_i a r hx hr;obtain rfl:=by simpa using h
   exact ⟨hE x a hx,n8 hE l r hr⟩
  ·cases h
theorem M4 {ρ:Map} {E:Operand->Value} (hEf:∀ f,E (.func f) = .func (.func f) #[] #[]) {ev:Operand->Option SV} (hE:gR ρ E ev) {x:Operand} {f:FuncId} (h:vN ev x=some f):E x = .func (.func f) #[] #[]:=by
 have key:vM (ev x)=some f->E x = .func (.func f) #[] #[]:=fun h=>by
  unfold vM at h
  split at h
  ·rename_i g a b heq
   split at h
   ·rename_i hb;simp only[Bool.and_eq_true] at hb;obtain rfl:=by simpa using h
    have h1:a=#[]:=Array.eq_empty_of_size_eq_zero (Nat.eq_of_beq_eq_true hb.1);have h2:b=#[]:=Array.eq_empty_of_size_eq_zero (Nat.eq_of_beq_eq_true hb.2);subst h1 h2;exact hE x _ heq
   ·cases h
  ·cases h
 cases x with
 |func g=>
  simp only[vN,Option.some.injEq] at h;subst h;exact hEf g
 |_=>exact key h
theorem M5 {P:Program} {tt:TT} (htt:aP P tt) {C:Cons} (hC:cZ P C) {hp:ah} {ev:Operand->Option SV} {fr:Nat} {o:Oper} {e:Eff} (h:wk tt C hp ev fr o.op=some e) (hvc:All e.vc) {ρ:Map} {a:Act} (hE:gR ρ a.eval ev) {w0:W0} {w:World} (hw:WH w0 ρ hp w)
 (hfr:∀ id x,ad e.nw id=some x -> ρ id=none) {K:Act->World->Prop} {Q:Exit->Act->World->Prop} (hK:∀ ρ' w' v,UR ρ' e.val v->Fr w0.heap.size ρ ρ' w w' e->K (a.put o.dst v) w'):o.wp P a w K Q:=by
 have hB:w0.heap.size<=w.heap.size:=hw.below.size;have pureCase:∀ {sv:SV} {ps:List Prop},lT tt hp ev o.op=some (sv,ps)->e = {val:=sv,vc:=ps}->o.wp P a w K Q:=by
  intro sv ps hs he;subst he;obtain ⟨v,h1,h2⟩:=ML htt hs hvc hE hw;unfold Oper.wp;rw[h1];exact hK ρ w v h2 (qU _ _)
 obtain ⟨dst,op,ty,pos,after,guard⟩:=o;dsimp only at h hK pureCase;have viaPure:(match lT tt hp ev op with |some (v,ps)=>some ({val:=v,vc:=ps}:Eff) |none=>none)=some e->Oper.wp P {dst:=dst,op:=op,type:=ty,pos:=pos,after:=after,guard:=guard} a w K Q:=fun h=>by
  split at h
  ·rename_i v ps hs;exact pureCase hs (by simpa using h.symm)
  ·cases h
 unfold wk at h
 split at h
 ·
  rename_i T
  split at h
  ·rename_i l hl;obtain rfl:=by simpa using h
   obtain ⟨i,z,hi,hz,hc⟩:=sG htt hl;have hzv:(zeroValue T).run P w = .ok z w:=by simp [zeroValue,typeInfo,hi,hz]
   have hrun:(execOp a.eval {dst:=dst,op:=.alloc T,type:=ty,pos:=pos,after:=after,guard:=guard}).run P w = .ok (.value (.pointer (some ⟨w.heap.size,0,none⟩))) (w.alloc (.cells z.cells T)):=by
    simp only[execOp,Instr.alloc,Sem.run_bind,hzv,Result.andThen_ok];rfl
   unfold Oper.wp;rw[hrun];refine hK (ρ.set fr (w.heap.size,0)) _ _ ?_ (qT hB hw.froz (hfr fr (.own T l) (by simp [ad])) (hc ρ) _ _)
   refine ⟨by simp [Map.set],?_⟩;simp [Map.at,Map.blk,Map.off,Map.set,SO.v]
  ·cases h
 ·
  rename_i T x
  split at h
  ·rename_i v hv
   split at h
   ·rename_i hok;obtain rfl:=by simpa using h
    have hx:=hE _ _ hv;have hc:=qM hx hok;have hrun:(execOp a.eval {dst:=dst,op:=.box T x,type:=ty,pos:=pos,after:=after,guard:=guard}).run P w = .ok (.value (.pointer (some ⟨w.heap.size,0,none⟩))) (w.alloc (.cells (a.eval x).cells T)):=by
     simp only[execOp,Instr.box,Sem.run_bind];rfl
    unfold Oper.wp;rw[hrun];refine hK (ρ.set fr (w.heap.size,0)) _ _ ?_ (qT hB hw.froz (hfr fr (.own T v.segs) (by simp [ad])) hc _ _)
    refine ⟨by simp [Map.set],?_⟩;simp [Map.at,Map.blk,Map.off,Map.set,SO.v]
   ·cases h
  ·cases h
 ·
  rename_i T p x
  split at h
  ·rename_i id o v hp' hv
   split at h
   ·rename_i en i0 hen hi0;obtain ⟨i,hi,rfl⟩:=eG htt hi0
    split at h
    ·rename_i hok;simp only[Bool.and_eq_true] at hok
     split at h
     ·rename_i l hl
      split at h
      ·rename_i l' ps hwr
       split at h
       ·rename_i en' hput;obtain rfl:=by simpa using h
        have hpx:=hE _ _ hp';have hx:=hE _ _ hv;obtain ⟨_,hpx⟩:=hpx;have hc:=qM hx hok.1.2;have h1:=MM v.segs _ hok.1.1 hc;have hsz:(a.eval x).cells.size=i.size:=by
         have g1:=hc.1;have g2:(cellsOf v.segs).length=vO v.segs:=by
          cases hs:v.segs with
          |nil=>simp [cellsOf,vO]
          |cons s r=>rw[hs] at hwr;exact vu _ _ _ _ hwr
         have g3:=Nat.eq_of_beq_eq_true hok.2;simp at g1;omega
        obtain ⟨w',g1,g2⟩:=MO (P:=P) hw rfl hen hl hwr hvc hput hc h1;have hrun:(execOp a.eval {dst:=dst,op:=.store T p x,type:=ty,pos:=pos,after:=after,guard:=guard}).run P w = .ok .skip w':=by
         simp only[execOp,Instr.storeAt,Sem.run_bind,hpx,Instr.sureAddr,Sem.run_pure,Result.andThen_ok,storeVar,dC hi,hsz,ne_eq,not_true_eq_false,↓reduceIte];rw[g1];rfl
        unfold Oper.wp;rw[hrun];exact hK ρ w' undef ⟨#[],rfl,trivial⟩ g2
       ·cases h
      ·cases h
     ·cases h
    ·cases h
   ·cases h
  ·rename_i el id i j v hp' hv;obtain ⟨A,w',ρ',g1,g2,g3,g4⟩:=M2 htt h hvc hw (hE _ _ hp') (hE _ _ hv);have hrun:(execOp a.eval {dst:=dst,op:=.store T p x,type:=ty,pos:=pos,after:=after,guard:=guard}).run P w = .ok .skip w':=by
    simp only[execOp,Instr.storeAt,Sem.run_bind,g1,Instr.sureAddr,Sem.run_pure,Result.andThen_ok];rw[g2];rfl
   unfold Oper.wp;rw[hrun];exact hK ρ' w' undef g3 g4
  ·cases h
 ·
  rename_i f args ats
  split at h
  ·rename_i g l hg hl
   split at h
   ·rename_i c hc;have hok:=hC g c hc;have hf:=M4 (fun _=>rfl) hE hg;have hargs:=n8 hE _ _ hl;have hcall:=hok.calls hp fr l e h hvc w0 w ρ _ hw hfr hargs;have hrun:(execOp a.eval {dst:=dst,op:=.call {callee:=.value f,args:=args,argTypes:=ats},type:=ty,pos:=pos,after:=after,guard:=guard}).run P w = .ok (.enter g (args.toList.map a.eval).toArray) w:=by
     have e1:(#[]++args.map a.eval++#[]:Array Value)=(args.toList.map a.eval).toArray:=by apply Array.toList_inj.1;simp
     have:=hok.enters (#[]++args.map a.eval++#[]) w;rw[e1] at this;simp only[execOp,resolve,hf,Sem.run_bind,Deferred.ofValue,Sem.run_pure,Result.andThen_ok,invoke];rw[<- this,<- e1]
    unfold Oper.wp;rw[hrun];refine hcall.mono ?_
    rintro en w' ⟨ρ',v,rfl,h1,h2⟩;exact hK ρ' w' v h1 h2
   ·cases h
  ·rename_i l _ hl
   split at h
   ·rename_i ag e0 p ok hf;obtain ⟨g,cap,hv,hen,hcall⟩:=M3 htt h hvc hw (hE _ _ hf) (n8 hE _ _ hl);have hrun:(execOp a.eval {dst:=dst,op:=.call {callee:=.value f,args:=args,argTypes:=ats},type:=ty,pos:=pos,after:=after,guard:=guard}).run P w = .ok (.enter g ((args.toList.map a.eval).toArray++cap)) w:=by
     have e1:(#[]++args.map a.eval++cap:Array Value)=(args.toList.map a.eval).toArray++cap:=by apply Array.toList_inj.1;simp
     have:=hen (#[]++args.map a.eval++cap) w;rw[e1] at this;simp only[execOp,resolve,hv,Sem.run_bind,Deferred.ofValue,Sem.run_pure,Result.andThen_ok,invoke];rw[<- this,<- e1]
    unfold Oper.wp;rw[hrun];refine hcall.mono ?_
    rintro en w' ⟨v,rfl,h1,h2⟩;exact hK ρ w' v h1 h2
   ·rename_i g id hf
    split at h
    ·rename_i c hc;have hok:=hC g c hc;obtain ⟨hid,hv⟩:=hE _ _ hf;have hargs:dD ρ (.one (.sc (.ptr id (.lit 0)))::l) (.pointer (some (ρ.at id 0))::args.toList.map a.eval):=⟨⟨hid,rfl⟩,n8 hE _ _ hl⟩;have hcall:=hok.calls hp fr _ e h hvc w0 w ρ _ hw hfr hargs;have hrun:(execOp a.eval {dst:=dst,op:=.call {callee:=.value f,args:=args,argTypes:=ats},type:=ty,pos:=pos,after:=after,guard:=guard}).run P w = .ok (.enter g (.pointer (some (ρ.at id 0))::args.toList.map a.eval).toArray) w:=by
      have e1:(#[.pointer (some (ρ.at id 0))]++args.map a.eval++#[]:Array Value)=(.pointer (some (ρ.at id 0))::args.toList.map a.eval).toArray:=by apply Array.toList_inj.1;simp
      have:=hok.enters (#[.pointer (some (ρ.at id 0))]++args.map a.eval++#[]) w;rw[e1] at this;simp only[execOp,resolve,hv,Sem.run_bind,Deferred.ofValue,Sem.run_pure,Result.andThen_ok,invoke];rw[<- this,<- e1]
     unfold Oper.wp;rw[hrun];refine hcall.mono ?_
     rintro en w' ⟨ρ',v,rfl,h1,h2⟩;exact hK ρ' w' v h1 h2
    ·cases h
   ·cases h
  ·cases h
 ·
  rename_i args ats
  split at h
  ·rename_i x y T T' hxy hat
   split at h
   ·rename_i hTT;obtain rfl:=Nat.eq_of_beq_eq_true hTT
    split at h
    ·rename_i a' b' hxa hyb;obtain ⟨v,w',ρ',h1,h2,h3⟩:=MV htt h hvc hw hfr (hE _ _ hxa) (hE _ _ hyb) ty;have hmap:args.map a.eval=#[a.eval x,a.eval y]:=by apply Array.toList_inj.1;simp [hxy]
     have hats:ats=#[T,T]:=by apply Array.toList_inj.1;simp [hat]
     have hrun:(execOp a.eval {dst:=dst,op:=.call {callee:=.builtin .append,args:=args,argTypes:=ats},type:=ty,pos:=pos,after:=after,guard:=guard}).run P w = .ok (.value v) w':=by
      show ((do pure (.value (<- Builtin.append_ ats ty (args.map a.eval))):Sem Next)).run P w=_;rw[hmap,hats,Sem.run_bind,h1];rfl
     unfold Oper.wp;rw[hrun];exact hK ρ' w' v h2 h3
    ·cases h
   ·cases h
  ·cases h
 ·
  rename_i t l c
  split at h
  ·rename_i a' b' hxa hyb;obtain ⟨v,w',c',h1,h2,h3⟩:=MT htt h hvc hB hw.froz hfr (hE _ _ hxa) (hE _ _ hyb);have hrun:(execOp a.eval {dst:=dst,op:=.makeSlice t l c,type:=ty,pos:=pos,after:=after,guard:=guard}).run P w = .ok (.value v) w':=by
    show ((do pure (.value (<- Instr.makeSlice t (a.eval l) (a.eval c))):Sem Next)).run P w=_;rw[Sem.run_bind,h1];rfl
   unfold Oper.wp;rw[hrun];exact hK _ w' v h2 h3
  ·cases h
 ·
  rename_i args ats
  split at h
  ·rename_i x y T r hxy hat
   split at h
   ·rename_i a' b' hxa hyb;obtain ⟨v,w',h1,h2,h3⟩:=MX htt h hvc hw (hE _ _ hxa) (hE _ _ hyb) (ats:=ats) (by rw[<- Array.getElem?_toList,hat];rfl) ty;have hmap:args.map a.eval=#[a.eval x,a.eval y]:=by apply Array.toList_inj.1;simp [hxy]
    have hrun:(execOp a.eval {dst:=dst,op:=.call {callee:=.builtin .copy,args:=args,argTypes:=ats},type:=ty,pos:=pos,after:=after,guard:=guard}).run P w = .ok (.value v) w':=by
     show ((do pure (.value (<- Builtin.copy_ ats ty (args.map a.eval))):Sem Next)).run P w=_;rw[hmap,Sem.run_bind,h1];rfl
    unfold Oper.wp;rw[hrun];exact hK ρ w' v h2 h3
   ·cases h
  ·cases h
 ·
  rename_i t len parts
  split at h
  ·rename_i pv hpv;obtain ⟨e1,e2⟩:=vw hE _ _ hpv;obtain ⟨v,w',ρ',h1,h2,h3⟩:=M1 htt h hvc hw hfr (parts:=parts.map fun (i,x)=>(i,a.eval x)) (by simpa using e1) (by simpa using e2);have hrun:(execOp a.eval {dst:=dst,op:=.buildSlice t len parts,type:=ty,pos:=pos,after:=after,guard:=guard}).run P w = .ok (.value v) w':=by
    show ((do pure (.value (<- Instr.buildSlice t len (parts.map fun (i,x)=>(i,a.eval x)))):Sem Next)).run P w=_;rw[Sem.run_bind,h1];rfl
   unfold Oper.wp;rw[hrun];exact hK _ w' v h2 h3
  ·cases h
 ·
  rename_i fn first captured
  split at h
  ·rename_i sv ps hs;exact pureCase hs (by simpa using h.symm)
  ·split at h
   ·rename_i hb
    split at h
    ·rename_i g l hl _
     split at h
     ·rename_i c hc;have h1:first=#[]:=Array.eq_empty_of_size_eq_zero (Nat.eq_of_beq_eq_true hb);subst h1;obtain ⟨ρ',g1,g2⟩:=(hC g c hc).clo hp fr l e h hvc w0 w ρ _ hw (n8 hE _ _ hl);have e1:(captured.toList.map a.eval).toArray=captured.map a.eval:=by apply Array.toList_inj.1;simp
      rw[e1] at g1;have hrun:(execOp a.eval {dst:=dst,op:=.makeFunc (.func g) #[] captured,type:=ty,pos:=pos,after:=after,guard:=guard}).run P w = .ok (.value (.func (.func g) #[] (captured.map a.eval))) w:=by
       simp [execOp,Instr.makeFunc]
      unfold Oper.wp;rw[hrun];exact hK ρ' w _ g1 g2
     ·cases h
    ·cases h
   ·cases h
 ·exact viaPure h
def pin (p:Nat × Bool) (g:List (Nat × Bool)):Bool:=g.any fun q=>Nat.beq q.1 p.1&&(q.2==p.2)
theorem FJ {p:Nat × Bool} {g:List (Nat × Bool)} (h:pin p g=true):p∈g:=by
 unfold pin at h;rw[List.any_eq_true] at h;obtain ⟨q,hq,hh⟩:=h;simp only[Bool.and_eq_true] at hh;have h1:=Nat.eq_of_beq_eq_true hh.1;have h2:q.2=p.2:=by simpa using hh.2
 have:q=p:=by cases q;cases p;simp_all
 rw[<- this];exact hq
def unw (g:List (Nat × Bool)):SV->Option SV
 | .one x=>some (.one x)
 | .tup l=>some (.tup l)
 | .cond g' x=>if g'.all (fun p=>pin p g) then some (.one x) else none
 | .junk=>none
theorem M6 {ρ:Map} {tmps:Array Value} {g:List (Nat × Bool)} {x y:SV} (h:unw g x=some y) (hg:Gd tmps g) {v:Value} (hv:eK ρ tmps x v):UR ρ y v:=by
 cases x with
 |one a=>simp only[unw,Option.some.injEq] at h;subst h;exact hv
 |tup l=>simp only[unw,Option.some.injEq] at h;subst h;exact hv
 |cond g' a=>
  simp only[unw] at h
  split at h
  ·rename_i ha;obtain rfl:=by simpa using h
   rw[List.all_eq_true] at ha;exact hv.1 fun p hp=>hg p (FJ (ha p hp))
  ·cases h
 |junk=>cases h
def evO (tm:aT) (g:List (Nat × Bool)):Operand->Option SV
 | .tmp t=>(match ad tm t with |some x=>unw g x |none=>none)
 | .const v=>(match qJ v with
   |some c=>some (.one (.sc c))
   |none=>(match v with
    | .agg cs=>(match gp (List.replicate cs.size .c) cs.toList with |some s=>some (.one (.agg s)) |none=>none)
    |_=>none))
 | .func f=>some (.one (.sc (.raw (.func (.func f) #[] #[]))))
 | .global _=>none
theorem j7 {ρ:Map} {nt:Nat} {tm:aT} {a:Act} (h:AH ρ nt tm a) {g:List (Nat × Bool)} (hg:Gd a.tmps g):gR ρ a.eval (evO tm g):=by
 intro x sv hx
 cases x with
 |tmp t=>
  simp only[evO] at hx
  split at hx
  ·rename_i y hy;exact M6 hx hg (h.slots t y hy)
  ·cases hx
 |const v=>
  simp only[evO] at hx
  split at hx
  ·rename_i c hc;obtain rfl:=by simpa using hx
   exact E0 hc ρ
  ·split at hx
   ·split at hx
    ·rename_i s hs;obtain rfl:=by simpa using hx
     exact ⟨_,rfl,qL _ _ s hs⟩
    ·cases hx
   ·cases hx
 |func f=>
  simp only[evO,Option.some.injEq] at hx;subst hx;rfl
 |global _=>cases hx
def wl (tm:aT) (t:Nat):Option SB:=match ad tm t with
 |some (.one (.sc (.bool b)))=>some b
 |some (.cond _ (.sc (.bool b)))=>some b
 |_=>none
def wm (tm:aT):List (Nat × Bool)->Prop
 | []=>True
 |(t,want)::r=>(match wl tm t with |some b=>b.v=want |none=>True)/\wm tm r
theorem M7 {ρ:Map} {nt:Nat} {tm:aT} {a:Act} (h:AH ρ nt tm a) {t:Nat} {want:Bool} (hv:a.tmps.getD t undef = .bool want) {b:SB} (hb:wl tm t=some b):b.v=want:=by
 unfold wl at hb
 split at hb
 ·rename_i b' hl;obtain rfl:=by simpa using hb
  have:=h.slots t _ hl;rw[hv] at this;exact (Value.bool.inj this).symm
 ·rename_i g b' hl;obtain rfl:=by simpa using hb
  obtain ⟨h1,h2⟩:=h.slots t _ hl
  by_cases hg:Gd a.tmps g
  ·have:=h1 hg;rw[hv] at this;exact (Value.bool.inj this).symm
  ·have:=h2 hg;rw[hv] at this
   cases this
 ·cases hb
theorem FK {ρ:Map} {nt:Nat} {tm:aT} {a:Act} (h:AH ρ nt tm a):∀ {g:List (Nat × Bool)},Gd a.tmps g->wm tm g
 | [],_=>trivial
 |(t,want)::r,hg=>by
  refine ⟨?_,FK h (g:=r) fun p hp=>hg p (List.mem_cons_of_mem _ hp)⟩;split
  ·rename_i b hb;exact M7 h (hg (t,want) (List.mem_cons_self ..)) hb
  ·trivial
def SB.pick (c a b:SB):SB:=match c with
 | .lit true=>a
 | .lit false=>b
 | .sym c=>(match a,b with
   | .lit true,b=>.sym (c ||b.v)
   |a,.lit false=>.sym (c&&a.v)
   |a,b=>.sym (if c then a.v else b.v))
theorem SB.pick_v (c a b:SB):(SB.pick c a b).v=if c.v then a.v else b.v:=by
 unfold SB.pick
 cases c with
 |lit c=>cases c<;>rfl
 |sym c=>
  dsimp only;split
  ·simp only[SB.v];cases c<;>rfl
  ·simp only[SB.v];cases c<;>simp
  ·rfl
def wn (tm:aT) (g:List (Nat × Bool)) (c a b:Operand):Option SV:=
 match evO tm g c with
 |some (.one (.sc (.bool (.lit true))))=>evO tm g a
 |some (.one (.sc (.bool (.lit false))))=>evO tm g b
 |some (.one (.sc (.bool (.sym cb))))=>(match c with
  | .tmp t=>(match evO tm ((t,true)::g) a,evO tm ((t,false)::g) b with
    |some (.one (.sc (.bool x))),some (.one (.sc (.bool y)))=>some (.one (.sc (.bool (SB.pick (.sym cb) x y))))
    |some (.one (.sc (.int k x))),some (.one (.sc (.int k' y)))=>if kEq k k' then some (.one (.sc (.int k (.sym (if cb then x.v else y.v))))) else none
    |_,_=>none)
  |_=>none)
 |_=>none
theorem M8 {P:Program} {ρ:Map} {nt:Nat} {tm:aT} {a:Act} (h:AH ρ nt tm a) {g:List (Nat × Bool)} (hg:Gd a.tmps g) {dst:Option Tmp} {c x y:Operand} {ty:TypeId} {pos:String} {after:Array Edge} {gu:Option (Nat × Bool)} {sv:SV} (hs:wn tm g c x y=some sv) (w:World) :
 ∃ v,(execOp a.eval {dst:=dst,op:=.pick c x y,type:=ty,pos:=pos,after:=after,guard:=gu}).run P w = .ok (.value v) w/\UR ρ sv v:=by
 have hE:=j7 h hg;have run:∀ (b:Bool),a.eval c = .bool b->(execOp a.eval {dst:=dst,op:=.pick c x y,type:=ty,pos:=pos,after:=after,guard:=gu}).run P w = .ok (.value (if b then a.eval x else a.eval y)) w:=fun b hb=>by
  simp only[execOp,hb];rfl
 unfold wn at hs
 split at hs
 ·rename_i hc;exact ⟨_,run true (hE _ _ hc),by simpa using hE _ _ hs⟩
 ·rename_i hc;exact ⟨_,run false (hE _ _ hc),by simpa using hE _ _ hs⟩
 ·rename_i cb hc;have hcv:a.eval c = .bool cb:=hE _ _ hc
  split at hs
  ·rename_i t;have gt:∀ b,cb=b->Gd a.tmps ((t,b)::g):=fun b hb p hp=>by
    rcases List.mem_cons.1 hp with rfl |hp
    ·subst hb;exact hcv
    ·exact hg p hp
   split at hs
   ·rename_i p q hx hy;obtain rfl:=by simpa using hs
    refine ⟨_,run cb hcv,?_⟩;show (if cb then a.eval x else a.eval y) = .bool (SB.pick (.sym cb) p q).v;rw[SB.pick_v];show (if cb then a.eval x else a.eval y) = .bool (if cb then p.v else q.v)
    cases hcb:cb with
    |true=>exact j7 h (gt true hcb) _ _ hx
    |false=>exact j7 h (gt false hcb) _ _ hy
   ·rename_i k p k' q hx hy
    split at hs
    ·rename_i hk;have:=dW hk;subst this;obtain rfl:=by simpa using hs
     refine ⟨_,run cb hcv,?_⟩;show (if cb then a.eval x else a.eval y) = .int k (if cb then p.v else q.v)
     cases hcb:cb with
     |true=>exact j7 h (gt true hcb) _ _ hx
     |false=>exact j7 h (gt false hcb) _ _ hy
    ·cases hs
   ·cases hs
  ·cases hs
 ·cases hs
def sop (tt:TT) (C:Cons) (hp:ah) (tm:aT) (g:List (Nat × Bool)) (fr:Nat) (op:Op):Option Eff:=
 match op with
 | .pick c a b=>(match wn tm g c a b with |some v=>some {val:=v,vc:=[]} |none=>none)
 |op=>wk tt C hp (evO tm g) fr op
theorem wo {P:Program} {tt:TT} (htt:aP P tt) {C:Cons} (hC:cZ P C) {hp:ah} {tm:aT} {g:List (Nat × Bool)} {fr:Nat} {o:Oper} {e:Eff} (h:sop tt C hp tm g fr o.op=some e) (hvc:All e.vc) {ρ:Map} {nt:Nat} {a:Act} (hA:AH ρ nt tm a) (hg:Gd a.tmps g) {w0:W0} {w:World} (hw:WH w0 ρ hp w)
 (hfr:∀ id x,ad e.nw id=some x -> ρ id=none) {K:Act->World->Prop} {Q:Exit->Act->World->Prop} (hK:∀ ρ' w' v,UR ρ' e.val v->Fr w0.heap.size ρ ρ' w w' e->K (a.put o.dst v) w'):o.wp P a w K Q:=by
 obtain ⟨dst,op,ty,pos,after,guard⟩:=o;dsimp only at h hK;unfold sop at h
 split at h
 ·rename_i c x y
  split at h
  ·rename_i v hv;obtain rfl:=by simpa using h
   obtain ⟨u,h1,h2⟩:=M8 (P:=P) (dst:=dst) (ty:=ty) (pos:=pos) (after:=after) (gu:=guard) hA hg hv w;unfold Oper.wp;rw[h1];exact hK ρ w u h2 (qU _ _)
  ·cases h
 ·exact M5 htt hC h hvc (j7 hA hg) hw hfr hK
inductive GRes |run (g:List (Nat × Bool)) |skip
def lY (ops:Array Oper) (tm:aT) (gu:Option (Nat × Bool)):Option GRes:=
 match gu with
 |none=>some (.run [])
 |some (j,want)=>(match (ops[j]?).bind (·.dst) with
  |none=>none
  |some t=>(match ad tm t with
   |some (.one (.sc (.bool (.lit b))))=>if b==want then some (.run []) else some .skip
   |some (.one (.sc (.bool (.sym _))))=>some (.run [(t,want)])
   |some (.cond g (.sc (.bool (.lit b))))=>if b==want then some (.run ((t,want)::g)) else some .skip
   |some (.cond g (.sc (.bool (.sym _))))=>some (.run ((t,want)::g))
   |some (.tup [])=>some .skip
   |_=>none))
theorem M9 {ops:Array Oper} {tmps:Array Value} {j t:Nat} {want:Bool} (ht:(ops[j]?).bind (·.dst)=some t):(yielded ops tmps j==some want)=true↔tmps.getD t undef = .bool want:=by
 unfold yielded;rw[ht];simp only[Option.bind_some]
 cases hv:tmps[t]? with
 |none=>simp [hv,undef]
 |some v=>
  have:tmps.getD t undef=v:=by simp [hv]
  rw[this]
  cases v<;>simp
theorem Na {ops:Array Oper} {tm:aT} {o:Oper} {ρ:Map} {nt:Nat} {a:Act} (h:AH ρ nt tm a):(∀ g,lY ops tm o.guard=some (.run g)->(Region.wanted o (yielded ops a.tmps)=true↔Gd a.tmps g))/\(lY ops tm o.guard=some .skip->Region.wanted o (yielded ops a.tmps)=false):=by
 cases hgu:o.guard with
 |none=>
  refine ⟨fun g hg=>?_,fun hg=>?_⟩
  ·simp only[lY,Option.some.injEq,GRes.run.injEq] at hg;subst hg;simp [Region.wanted,hgu,Gd]
  ·simp [lY] at hg
 |some jw=>
  obtain ⟨j,want⟩:=jw;have hwd:∀ t,(ops[j]?).bind (·.dst)=some t->(Region.wanted o (yielded ops a.tmps)=true↔a.tmps.getD t undef = .bool want):=fun t ht=>by
   simp only[Region.wanted,hgu];exact M9 ht
  have nope:∀ t,(ops[j]?).bind (·.dst)=some t->a.tmps.getD t undef ≠ .bool want->Region.wanted o (yielded ops a.tmps)=false:=fun t ht hne=>by
   cases hq:Region.wanted o (yielded ops a.tmps) with
   |false=>rfl
   |true=>exact absurd ((hwd t ht).1 hq) hne
  simp only[lY];split
  ·exact ⟨fun g hg=>(by cases hg),fun hg=>(by cases hg)⟩
  ·rename_i t ht;split
   ·rename_i b hl;have hv:a.tmps.getD t undef = .bool b:=h.slots t _ hl;split
    ·rename_i hbw;have hbw':b=want:=by simpa using hbw
     refine ⟨fun g hg=>?_,fun hg=>by cases hg⟩;simp only[Option.some.injEq,GRes.run.injEq] at hg;subst hg;rw[hwd t ht,hv,hbw'];simp [Gd]
    ·rename_i hbw;refine ⟨fun g hg=>(by cases hg),fun _=>nope t ht ?_⟩;rw[hv];intro e
     apply hbw
     simp [Value.bool.inj e]
   ·rename_i b hl;refine ⟨fun g hg=>?_,fun hg=>by cases hg⟩;simp only[Option.some.injEq,GRes.run.injEq] at hg;subst hg;rw[hwd t ht];simp [Gd]
   ·rename_i g b hl;obtain ⟨h1,h2⟩:=h.slots t _ hl;split
    ·rename_i hbw;have hbw':b=want:=by simpa using hbw
     refine ⟨fun g' hg=>?_,fun hg=>by cases hg⟩;simp only[Option.some.injEq,GRes.run.injEq] at hg;subst hg;rw[hwd t ht];constructor
     ·intro hv p hp
      rcases List.mem_cons.1 hp with rfl |hp
      ·exact hv
      ·by_cases hG:Gd a.tmps g
       ·exact hG p hp
       ·rw[h2 hG] at hv;cases hv
     ·intro hG;exact hG (t,want) (List.mem_cons_self ..)
    ·rename_i hbw;refine ⟨fun g hg=>(by cases hg),fun _=>nope t ht ?_⟩;intro e
     by_cases hG:Gd a.tmps g
     ·have h3:=h1 hG;rw[e] at h3;have h4:want=b:=Value.bool.inj h3
      apply hbw
      simp [h4]
     ·rw[h2 hG] at e;cases e
   ·rename_i g b hl;obtain ⟨h1,h2⟩:=h.slots t _ hl;refine ⟨fun g' hg=>?_,fun hg=>by cases hg⟩;simp only[Option.some.injEq,GRes.run.injEq] at hg;subst hg;rw[hwd t ht];constructor
    ·intro hv p hp
     rcases List.mem_cons.1 hp with rfl |hp
     ·exact hv
     ·by_cases hG:Gd a.tmps g
      ·exact hG p hp
      ·rw[h2 hG] at hv;cases hv
    ·intro hG;exact hG (t,want) (List.mem_cons_self ..)
   ·rename_i hl;obtain ⟨vs,hv,ht'⟩:=h.slots t _ hl;refine ⟨fun g hg=>(by cases hg),fun _=>nope t ht ?_⟩;rw[hv];intro e;cases e
   ·exact ⟨fun g hg=>(by cases hg),fun hg=>(by cases hg)⟩
structure Rec where
 sv:SV
 vc:List Prop
 st:ah:=[]
 nw:ah:=[]
def wq (p:Prop):List Prop->List Prop
 | []=>[]
 |q::r=>(p->q)::wq p r
theorem FL {p:Prop} (hp:p):∀ {l:List Prop},All (wq p l)->All l
 | [],_=>trivial
 |_::_,h=>⟨h.1 hp,FL hp h.2⟩
def q6 (tm:aT):List (Nat × Bool)->Option (List Prop)
 | []=>some []
 |(t,want)::r=>(match q6 tm r,ad tm t with
  |some ps,some (.one (.sc (.bool b)))=>some ((b.v=want)::ps)
  |some ps,some (.cond g (.sc (.bool b)))=>if g.all (fun p=>pin p r) then some ((b.v=want)::ps) else none
  |_,_=>none)
theorem wt {ρ:Map} {nt:Nat} {tm:aT} {a:Act} (h:AH ρ nt tm a):∀ {g:List (Nat × Bool)} {ps:List Prop},q6 tm g=some ps->All ps->Gd a.tmps g
 | [],_,_,_=>fun p hp=>by cases hp
 |(t,want)::r,ps,hg,hp=>by
  simp only[q6] at hg
  split at hg
  ·rename_i qs b hq hl;obtain rfl:=by simpa using hg
   have hr:=wt h hq hp.2;intro p hm
   rcases List.mem_cons.1 hm with rfl |hm
   ·have hv:a.tmps.getD t undef = .bool b.v:=h.slots t _ hl;rw[hv,hp.1]
   ·exact hr p hm
  ·rename_i qs g b hq hl
   split at hg
   ·rename_i hall;obtain rfl:=by simpa using hg
    have hr:=wt h hq hp.2;intro p hm
    rcases List.mem_cons.1 hm with rfl |hm
    ·obtain ⟨h1,_⟩:=h.slots t _ hl;have hv:a.tmps.getD t undef = .bool b.v:=h1 fun p hp'=>hr p (FJ (List.all_eq_true.1 hall p hp'))
     rw[hv,hp.1]
    ·exact hr p hm
   ·cases hg
  ·cases hg
def i4 (tt:TT) (C:Cons) (ops:Array Oper) (hp:ah) (tm:aT) (fr:Nat) (gu:Option (Nat × Bool)) (op:Op):Option Rec:=
 match lY ops tm gu with
 |some .skip=>some {sv:=.tup [],vc:=[]}
 |some (.run [])=>(match sop tt C hp tm [] fr op with
  |some e=>if gW hp e.nw e.st then some {sv:=e.val,vc:=e.vc,st:=e.st,nw:=e.nw} else none
  |none=>none)
 |some (.run (p::g))=>(match sop tt C hp tm (p::g) fr op with
  |some {val:=.one x,vc:=vc,st:=[],nw:=[]}=>some {sv:=.cond (p::g) x,vc:=wq (wm tm (p::g)) vc}
  |some e=>(match q6 tm (p::g) with
   |some ps=>if gW hp e.nw e.st then some {sv:=e.val,vc:=ps++e.vc,st:=e.st,nw:=e.nw} else none
   |none=>none)
  |none=>none)
 |none=>none
def Rec.eff (r:Rec):Eff:={val:=r.sv,vc:=r.vc,st:=r.st,nw:=r.nw}
theorem wu {B:Nat} {ρ ρ':Map} {w w':World} {e f:Eff} (h:Fr B ρ ρ' w w' e) (h1:f.st=e.st) (h2:f.nw=e.nw):Fr B ρ ρ' w w' f:=by
 obtain ⟨a,b,c,d,e1,f1,g1,k1⟩:=h;rw[<- h2] at b f1 g1 k1;rw[<- h1] at d e1 f1 k1;exact ⟨a,b,c,d,e1,f1,g1,k1⟩
theorem lZ {ρ:Map} {t:Array Value} {x:SV} {v:Value} (h:UR ρ x v):eK ρ t x v:=by
 cases x with
 |one x=>exact h
 |tup l=>exact h
 |cond=>exact h.elim
 |junk=>exact h.elim
theorem l4 {P:Program} {tt:TT} (htt:aP P tt) {C:Cons} (hC:cZ P C) {ops:Array Oper} {hp:ah} {tm:aT} {fr:Nat} {o:Oper} {r:Rec} (h:i4 tt C ops hp tm fr o.guard o.op=some r) (hvc:All r.vc) {ρ:Map} {nt:Nat} {a:Act} (hA:AH ρ nt tm a) {w0:W0} {w:World} (hw:WH w0 ρ hp w)
 (hfr:∀ id x,ad r.nw id=some x -> ρ id=none) {K:Act->World->Prop} {Q:Exit->Act->World->Prop} (hK:∀ ρ' w' v,eK ρ' a.tmps r.sv v->Fr w0.heap.size ρ ρ' w w' r.eff->K (a.put o.dst v) w') :
 gW hp r.nw r.st=true/\if Region.wanted o (yielded ops a.tmps) then o.wp P a w K Q ∨ (o.asks P a w/\LetsOut Q) else K (a.put o.dst undef) w:=by
 obtain ⟨hs1,hs2⟩:=Na (ops:=ops) (o:=o) hA;unfold i4 at h
 split at h
 ·rename_i hg;obtain rfl:=by simpa using h
  refine ⟨rfl,?_⟩;rw[hs2 hg];simp only[Bool.false_eq_true,↓reduceIte];exact hK ρ w undef ⟨#[],rfl,trivial⟩ (qU _ _)
 ·rename_i hg
  split at h
  ·rename_i e he
   split at h
   ·rename_i hst;obtain rfl:=by simpa using h
    refine ⟨hst,?_⟩;have hG:Gd a.tmps []:=fun p hp=>by cases hp
    rw[if_pos ((hs1 _ hg).2 hG)];exact .inl (wo htt hC he hvc hA hG hw hfr fun ρ' w' v h1 h2=>hK ρ' w' v (lZ h1) (wu h2 rfl rfl))
   ·cases h
  ·cases h
 ·rename_i p g hg
  split at h
  ·rename_i x vc he;obtain rfl:=by simpa using h
   refine ⟨rfl,?_⟩
   by_cases hG:Gd a.tmps (p::g)
   ·rw[if_pos ((hs1 _ hg).2 hG)];refine .inl (wo htt hC he (FL (FK hA hG) hvc) hA hG hw (fun id x hx=>by simp [ad] at hx) fun ρ' w' v h1 h2=>hK ρ' w' v ?_ (wu h2 rfl rfl));exact ⟨fun _=>h1,fun hn=>absurd hG hn⟩
   ·rw[if_neg (fun hq=>hG ((hs1 _ hg).1 hq))];exact hK ρ w undef ⟨fun hq=>absurd hq hG,fun _=>rfl⟩ (qU _ _)
  ·rename_i e _ he
   split at h
   ·rename_i ps hps
    split at h
    ·rename_i hst;obtain rfl:=by simpa using h
     refine ⟨hst,?_⟩;obtain ⟨hv1,hv2⟩:=all_append.1 hvc;have hG:=wt hA hps hv1;rw[if_pos ((hs1 _ hg).2 hG)];exact .inl (wo htt hC he hv2 hA hG hw hfr fun ρ' w' v h1 h2=>hK ρ' w' v (lZ h1) (wu h2 rfl rfl))
    ·cases h
   ·cases h
  ·cases h
 ·cases h
end Go.Proofs.YtbhbjhejkamlnaaGreat.Sx
