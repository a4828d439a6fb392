import Derived.Test.YtplejbgafjpomaaGreatDoorZa7
set_option linter.unusedVariables false
set_option linter.unusedSimpArgs false
namespace Go.Proofs.YtplejbgafjpomaaGreatDoor.Sx
open Go.RowKit
def ownId (hp:Heap) (id:Nat):Bool:=match look hp id with |some x=>x.isOwn |none=>false
def inIds (ρ:Map) (b:Nat):List Nat->Bool
 | []=>false
 |id::r=>((ρ id).isSome&&Nat.beq (ρ.blk id) b) ||inIds ρ b r
theorem inIds_iff {ρ:Map} {b:Nat}:∀ {l:List Nat},inIds ρ b l=true ↔ ∃ id∈l,(ρ id).isSome=true /\ ρ.blk id=b
 | []=>by simp [inIds]
 |id::r=>by
  simp only [inIds,Bool.or_eq_true,Bool.and_eq_true,inIds_iff (l:=r),List.mem_cons];constructor
  ·rintro (⟨h1,h2⟩ |⟨j,hj,h⟩)
   ·exact ⟨id,.inl rfl,h1,Nat.eq_of_beq_eq_true h2⟩
   ·exact ⟨j,.inr hj,h⟩
  ·rintro ⟨j,rfl |hj,h1,h2⟩
   ·exact .inl ⟨h1,by rw [h2];exact Nat.beq_refl b⟩
   ·exact .inr ⟨j,hj,h1,h2⟩
def cellsAt (w:World) (b:Nat):Option (Array Value):=match w.heap[b]? with |some (.cells cs _ _)=>some cs |_=>none
def passF (ρ:Map) (w:World) (ids:List Nat):Fz:=fun b=>match ρ.fz b with |some cs=>some cs |none=>if inIds ρ b ids then cellsAt w b else none
theorem passF_le (ρ:Map) (w:World) (ids:List Nat):FzLe ρ.fz (passF ρ w ids):=fun b cs h=>by unfold passF;rw [h]
theorem WH.tabP {w0:W0} {ρ:Map} {h:Heap} {w:World} (hw:WH w0 ρ h w) (ids:List Nat):TabF (passF ρ w ids):=by
 have h1:=hw.tab;rw [<- hw.f00] at h1;exact (h1.mono hw.sub).mono (passF_le ρ w ids)
theorem cellsAt_some {w:World} {b:Nat} {cs:Array Value} (h:cellsAt w b=some cs):∃ T z,w.heap[b]? = some (.cells cs T z):=by
 unfold cellsAt at h
 split at h
 ·rename_i cs' T z hh;obtain rfl:=by simpa using h
  exact ⟨T,z,hh⟩
 ·cases h
theorem passF_some {ρ:Map} {w:World} {ids:List Nat} {b:Nat} {cs:Array Value} (h:passF ρ w ids b=some cs):ρ.fz b=some cs ∨ ((∃ id∈ids,(ρ id).isSome=true /\ ρ.blk id=b)/\∃ T z,w.heap[b]? = some (.cells cs T z)):=by
 unfold passF at h
 split at h
 ·rename_i cs' hc;exact .inl (by rw [hc];exact h)
 ·split at h
  ·rename_i hi;exact .inr ⟨inIds_iff.1 hi,cellsAt_some h⟩
  ·cases h
theorem passF_froz {ρ:Map} {w:World} (hz:Frozen ρ w) {ids:List Nat} {b:Nat} {cs:Array Value} (h:passF ρ w ids b=some cs):∃ T z,w.heap[b]? = some (.cells cs T z):=by
 rcases passF_some h with h |⟨_,h⟩
 ·exact hz b cs h
 ·exact h
theorem passF_at {ρ:Map} {w:World} (hz:Frozen ρ w) {ids:List Nat} {id:Nat} (hi:id∈ids) (hs:(ρ id).isSome=true) {cs:Array Value} {T:TypeId} {z:Nat × Nat} (hh:w.heap[ρ.blk id]? = some (.cells cs T z)):passF ρ w ids (ρ.blk id)=some cs:=by
 unfold passF;split
 ·rename_i cs' hc;obtain ⟨T',z',hh'⟩:=hz _ _ hc;rw [hh] at hh';simp only [Option.some.injEq,Obj.cells.injEq] at hh';rw [hh'.1]
 ·rw [if_pos (inIds_iff.2 ⟨id,hi,hs,rfl⟩)];unfold cellsAt;rw [hh]
def idsC:SC->List Nat | .slice id _ _=>[id] | .osl _ id _ _=>[id] |_=>[]
def idsS:List Seg->List Nat
 | []=>[]
 | .c x::r=>idsC x++idsS r
 | .ints .. :: r=>idsS r
def idsV:V1->List Nat | .sc x=>idsC x | .agg l=>idsS l
def idsT:List V1->List Nat
 | []=>[]
 |x::r=>idsV x++idsT r
def idsSV:SV->List Nat | .one x=>idsV x | .tup l=>idsT l |_=>[]
def keepOwn (hp:Heap):List Nat->List Nat
 | []=>[]
 |id::r=>if ownId hp id then id::keepOwn hp r else keepOwn hp r
theorem keepOwn_mem {hp:Heap}:∀ {l:List Nat} {id:Nat},id∈keepOwn hp l↔id∈l/\ownId hp id=true
 | [],id=>by simp [keepOwn]
 |j::r,id=>by
  simp only [keepOwn];split
  ·rename_i h;simp only [List.mem_cons,keepOwn_mem (l:=r)];constructor
   ·rintro (rfl |⟨a,b⟩)
    ·exact ⟨.inl rfl,h⟩
    ·exact ⟨.inr a,b⟩
   ·rintro ⟨rfl |a,b⟩
    ·exact .inl rfl
    ·exact .inr ⟨a,b⟩
  ·rename_i h;rw [keepOwn_mem (l:=r),List.mem_cons];constructor
   ·rintro ⟨a,b⟩;exact ⟨.inr a,b⟩
   ·rintro ⟨rfl |a,b⟩
    ·exact absurd b h
    ·exact ⟨a,b⟩
theorem conE_rel {hp:Heap} {e:TypeId} {c:SC} {d:D} {ps:List Prop} (h:conE hp e c=some (d,ps)) (hps:All ps) {w0:W0} {w:World} {ρ:Map} (hw:WH w0 ρ hp w) {v:Value} (hv:CRel ρ c v) {ids:List Nat} (hids:∀ id∈idsC c,ownId hp id=true->id∈ids):TRel (passF ρ w ids) (.slice e) d v:=by
 unfold conE at h
 split at h
 ·obtain ⟨rfl,rfl⟩:=by simpa using h
  obtain rfl:v=_:=hv;exact .nil _ _ rfl
 ·rename_i e' d'
  split at h
  ·rename_i he;obtain rfl:=Nat.eq_of_beq_eq_true he;obtain ⟨rfl,rfl⟩:=by simpa using h
   exact TRel.mono (passF_le ρ w ids) hv
  ·cases h
 ·rename_i e' id lo n
  split at h
  ·rename_i he;obtain rfl:=Nat.eq_of_beq_eq_true he
   split at h
   ·rename_i e'' d' hl
    split at h
    ·rename_i he';obtain rfl:=Nat.eq_of_beq_eq_true he';obtain ⟨rfl,rfl⟩:=by simpa using h
     obtain ⟨hle,_⟩:=hps;obtain ⟨A,cp,rfl,hc,hA⟩:=hv;have hlen:(d'.sub lo.v (lo.v+n.v)).len=n.v:=by rw [D.sub_len _ hle];omega
     rcases hA with ⟨hc0,hsp⟩ |⟨rfl,hcap,hid⟩
     ·have hn:n.v=0:=by omega
      cases A with
      |none=>
       rw [hn,hc0];exact .nil _ _ (by rw [Nat.add_zero,D.sub_len _ (by omega)];omega)
      |some a=>
       have:a=⟨a.block,a.off,none⟩:=by have:=hsp a rfl;cases a;simp_all
       rw [show Value.slice (some a) n.v cp=Value.slice (some ⟨a.block,a.off,none⟩) (d'.sub lo.v (lo.v+n.v)).len cp by rw [hlen,<- this]];exact .slice _ _ _ _ _ (fun _ _=>undef) (by omega) (fun i j hi _=>by omega) (fun i j k hi _=>by omega)
     ·rcases hw.ents id _ hl with ⟨g0,_⟩ |⟨_,_,_,cs,hh,hsz,hd,hcs⟩
      ·rw [g0] at hid;cases hid
      ·have hF:=passF_at hw.froz (hids id (by simp [idsC]) (by simp [ownId,hl,Ent.isOwn])) hid hh;rw [show Value.slice (some ⟨ρ.blk id,lo.v*(eks e).length,none⟩) n.v cp=Value.slice (some ⟨ρ.blk id,lo.v*(eks e).length,none⟩) (d'.sub lo.v (lo.v+n.v)).len cp by rw [hlen]];have key:∀ i j,i<n.v->∀ k,(eks e)[j]? = some k->∃ u,cs[lo.v*(eks e).length+i*(eks e).length+j]? = some u/\TRel ρ.fz k ((d'.sub lo.v (lo.v+n.v)).el i j) u:=fun i j hi k hk=>by
        obtain ⟨u,hu,ht⟩:=hcs (lo.v+i) j k (by omega) hk;refine ⟨u,?_,?_⟩
        ·rw [<- hu];congr 1;rw [Nat.add_mul]
        ·rw [D.sub_el _ (by omega)];exact ht
       refine .slice _ _ _ _ _ (fun i j=>(cs[lo.v*(eks e).length+i*(eks e).length+j]?).getD undef) (by omega) (fun i j hi hj=>?_) (fun i j k hi hk=>?_)
       ·obtain ⟨u,hu,_⟩:=key i j (by omega) _ (List.getElem?_eq_getElem hj);simp only [Fz.cell,hF,hu,Option.getD_some]
       ·obtain ⟨u,hu,ht⟩:=key i j (by omega) k hk;simp only [hu,Option.getD_some];exact ht.mono (passF_le ρ w ids)
    ·cases h
   ·cases h
  ·cases h
 ·cases h
def kills:List Nat->Heap
 | []=>[]
 |id::r=>(id,.gone)::kills r
theorem kills_look:∀ {l:List Nat} {id:Nat} {x:Ent},look (kills l) id=some x->x = .gone/\id∈l
 | [],id,x,h=>by simp [kills,look] at h
 |j::r,id,x,h=>by
  simp only [kills,look] at h
  split at h
  ·rename_i hj;exact ⟨(by simpa using h.symm),by rw [show j=id by simpa using hj];exact List.mem_cons_self ..⟩
  ·obtain ⟨h1,h2⟩:=kills_look h;exact ⟨h1,List.mem_cons_of_mem _ h2⟩
theorem kills_mem:∀ {l:List Nat} {id:Nat},id∈l->look (kills l) id=some .gone
 | [],id,h=>by cases h
 |j::r,id,h=>by
  simp only [kills,look];split
  ·rfl
  ·rename_i hj
   rcases List.mem_cons.1 h with rfl |h
   ·exact absurd (by simp) hj
   ·exact kills_mem h
def Map.frz (ρ:Map) (w:World) (ids:List Nat):Map:={ρ with fz:=passF ρ w ids}
theorem fr_freeze {B:Nat} {ρ:Map} {w:World} (_hz:Frozen ρ w) (ids:List Nat) (sv:SV) (vc:List Prop):Fr B ρ (ρ.frz w ids) w w {val:=sv,vc:=vc,st:=kills ids}:=by
 refine ⟨⟨fun _ _ h=>h,fun _ _=>rfl,passF_le ρ w ids,rfl,rfl⟩,fun _ _=>rfl,Below.refl 0 w,fun _ _ _=>rfl,fun id x hx=>by rw [(kills_look hx).1];trivial,fun _ _ h=>by simp [look] at h,fun _ _ _ _ h=>by simp [look] at h,fun b cs hc=>?_,rfl⟩
 rcases passF_some hc with h |⟨⟨id,hi,hs,hb⟩,hh⟩
 ·exact .inl h
 ·exact .inr ⟨.inr ⟨id,kills_mem hi,hs,hb.symm⟩,hh,fun _ _ h=>by simp [look] at h⟩
theorem stOK_kills {hp:Heap} {ids:List Nat}:∀ id x,look (kills (keepOwn hp ids)) id=some x->x.okSt=true/\look ([]:Heap) id=none/\∃ y,look hp id=some y/\y.isOwn=true:=fun id x hx=>by
 obtain ⟨rfl,hi⟩:=kills_look hx;obtain ⟨_,ho⟩:=keepOwn_mem.1 hi;refine ⟨rfl,rfl,?_⟩;unfold ownId at ho
 split at ho
 ·rename_i y hy;exact ⟨y,hy,ho⟩
 ·cases ho
def isLit (E len:Nat):List (Nat × Nat)->Bool
 | []=>false
 |(t,m)::r=>(Nat.beq t E&&Nat.ble m len) ||isLit E len r
def sBSliceG (tt:TT) (fr:Nat) (t:TypeId) (len:Nat) (pv:List (Nat × SV)):Option Eff:=
 match uD tt t with
 |some (.slice E)=>if isLit E len litTs then (match elT tt E with
  |some x=>if Nat.ble (len*x.ks.length) 16777216 then (match fillS (fun i=>some (i*x.ks.length,x.ks.length)) (List.replicate len x.zero).flatten pv with
   |some (l,ps)=>(match toDs x.zero x.ks with
    |some _=>some {val:=.one (.sc (.slice fr (.lit 0) (.lit len))),vc:=ps,nw:=[(fr,.own E l)]}
    |none=>none)
   |none=>none) else none
  |none=>none) else none
 |_=>none
theorem sBSliceG_spec {P:Program} {tt:TT} (htt:TTOK P tt) {fr:Nat} {t:TypeId} {len:Nat} {pv:List (Nat × SV)} {e:Eff} (h:sBSliceG tt fr t len pv=some e) (hvc:All e.vc) {ρ:Map} {w0:W0} {w:World} (hB:w0.heap.size<=w.heap.size) (hz:Frozen ρ w) (hfr:∀ id x,look e.nw id=some x -> ρ id=none)
 {parts:Array (Nat × Value)} (hl:pv.length=parts.toList.length) (hv:∀ (i:Nat) a b,pv[i]? = some a->parts.toList[i]? = some b->a.1=b.1/\UR ρ a.2 b.2) :
 ∃ v w',(Instr.buildSlice t len parts).run P w = .ok v w'/\UR (ρ.set fr (w.heap.size,0)) e.val v/\Fr w0.heap.size ρ (ρ.set fr (w.heap.size,0)) w w' e:=by
 unfold sBSliceG at h
 split at h
 ·rename_i E hT;obtain ⟨d,hT,hd⟩:=tt_u htt hT;obtain rfl:=u_slice hd
  split at h
  ·split at h
   ·rename_i xi hxi;obtain ⟨g1,g2,i,z,g3,g4,g5,g6,g7⟩:=tt_el htt hxi
    split at h
    ·rename_i hlen;have hlen:=Nat.le_of_ble_eq_true hlen
     split at h
     ·rename_i l ps hf
      split at h
      ·rename_i zd hzd;obtain rfl:=by simpa using h
       have hzr:(zeroValue E).run P w = .ok z w:=by simp [zeroValue,typeInfo,g3,g5]
       have hsz:z.cells.size=xi.ks.length:=by simpa using (toDs_spec hzd (g7 ρ)).2.1
       have hcs:CsRel ρ (cellsOf (List.replicate len xi.zero).flatten) ((Array.range (len*xi.ks.length)).map (z.cells[· % z.cells.size]!)).toList:=by
        rw [<- hsz,rep_cells (by omega)];exact csrel_rep (g7 ρ) len
       obtain ⟨cells',h1,h2⟩:=fillS_spec pv parts.toList _ l ps _ hf hvc hl hv hcs;have hno:¬ len*xi.ks.length>2 ^ 24:=by omega
       refine ⟨.slice (some ⟨w.heap.size,0,none⟩) len len,w.alloc (.cells cells' E),?_,?_,fr_alloc hB hz (hfr fr (.own E l) (by simp [look])) h2 _ _⟩
       ·simp only [Instr.buildSlice,Sem.run_bind,run_underlying hT,Result.andThen_ok,run_sizeOf g3,g4,if_neg hno]
        by_cases h0:len*xi.ks.length=0
        ·have hl0:len=0:=by
          rcases Nat.mul_eq_zero.1 h0 with h |h
          ·exact h
          ·omega
         subst hl0;simp only [if_pos h0,Sem.run_bind,Sem.run_pure,Result.andThen_ok];have e0:((Array.range (0*xi.ks.length)).map fun q=>(#[]:Array Value)[q%(#[]:Array Value).size]!)=((Array.range (0*xi.ks.length)).map (z.cells[· % z.cells.size]!)):=by simp
         rw [e0,h1];rfl
        ·simp only [if_neg h0,Sem.run_bind,hzr,Sem.run_pure,Result.andThen_ok];rw [h1];rfl
       ·refine ⟨some ⟨w.heap.size,0,none⟩,len,rfl,Nat.le_refl _,.inl ⟨by simp [Map.set],?_⟩⟩;simp [Map.at,Map.blk,Map.off,Map.set,SO.v]
      ·cases h
     ·cases h
    ·cases h
   ·cases h
  ·cases h
 ·cases h
def sBS (tt:TT) (fr:Nat) (t:TypeId) (len:Nat) (pv:List (Nat × SV)):Option Eff:=match sBSliceG tt fr t len pv with |some e=>some e |none=>match sBSliceE tt fr t len pv with |some e=>some e |none=>sBSlice tt fr t len pv
theorem sBS_spec {P:Program} {tt:TT} (htt:TTOK P tt) {fr:Nat} {t:TypeId} {len:Nat} {pv:List (Nat × SV)} {e:Eff} (h:sBS tt fr t len pv=some e) (hvc:All e.vc) {ρ:Map} {w0:W0} {w:World} (hB:w0.heap.size<=w.heap.size) (hz:Frozen ρ w) (hfr:∀ id x,look e.nw id=some x -> ρ id=none)
 {parts:Array (Nat × Value)} (hl:pv.length=parts.toList.length) (hv:∀ (i:Nat) a b,pv[i]? = some a->parts.toList[i]? = some b->a.1=b.1/\UR ρ a.2 b.2) :
 ∃ v w' c,(Instr.buildSlice t len parts).run P w = .ok v w'/\UR (ρ.set fr (w.heap.size,0) c) e.val v/\Fr w0.heap.size ρ (ρ.set fr (w.heap.size,0) c) w w' e:=by
 unfold sBS at h
 split at h
 ·rename_i e' hb;simp only [Option.some.injEq] at h;subst h;obtain ⟨v,w',h1,h2,h3⟩:=sBSliceG_spec htt hb hvc hB hz hfr hl hv;exact ⟨v,w',0,h1,h2,h3⟩
 ·split at h
  ·rename_i e' hb;simp only [Option.some.injEq] at h;subst h;exact sBSliceE_spec htt hb hvc hB hz hfr hl hv
  ·obtain ⟨v,w',h1,h2,h3⟩:=sBSlice_spec htt h hvc hB hz hfr hl hv;exact ⟨v,w',0,h1,h2,h3⟩
theorem fr_comp {B:Nat} {ρ ρ2:Map} {w w2:World} {ids:List Nat} {e:Eff} (hz:Frozen ρ w) (h:Fr B (ρ.frz w ids) ρ2 w w2 e) (hst:∀ id x,look e.st id=some x->(ρ id).isSome=true->(ρ.frz w ids).fz (ρ.blk id)=none) (ps:List Prop):Fr B ρ ρ2 w w2 {e with vc:=ps,st:=kills ids++e.st}:=by
 have f:=fr_freeze (B:=B) hz ids .junk [];have hl:∀ id x,look e.st id=some x->∃ y,look (kills ids++e.st) id=some y:=fun id x hx=>by
  rw [look_append]
  cases look (kills ids) id with
  |some y=>exact ⟨y,rfl⟩
  |none=>exact ⟨x,hx⟩
 have hk:∀ b,Killed (ρ.frz w ids) e.st b->Killed ρ (kills ids++e.st) b:=fun b ⟨k,h1,h2,h3⟩=>by
  refine ⟨k,?_,h2,h3⟩;rw [look_append]
  cases hq:look (kills ids) k with
  |some y=>rw [(kills_look hq).1]
  |none=>exact h1
 refine ⟨f.ext.trans h.ext,fun id hid=>h.only id hid,h.below,fun b hb hn=>h.keep b hb fun id x hx hs=>?_,fun id x hx=>?_,fun id x hx=>?_,h.apart,fun b cs hc=>?_,h.kid⟩
 ·obtain ⟨y,hy⟩:=hl id x hx;exact hn id y hy hs
 ·have hx':look (kills ids++e.st) id=some x:=hx;rw [look_append] at hx'
  cases hq:look (kills ids) id with
  |some y=>
   rw [hq] at hx';obtain rfl:=by simpa using hx'
   rw [(kills_look hq).1];trivial
  |none=>rw [hq] at hx';exact h.st id x hx'
 ·obtain ⟨h1,h2,h3⟩:=h.nw id x hx;exact ⟨h1,fun hs=>(h2 hs).imp (fun h=>h) (hk _),h3⟩
 ·rcases h.fz b cs hc with h1 |⟨h1,h2,h3⟩
  ·rcases passF_some h1 with h4 |⟨⟨id,hi,hs,hb⟩,T,z,hh⟩
   ·exact .inl h4
   ·refine .inr ⟨.inr ⟨id,?_,hs,hb.symm⟩,?_,fun i x hx hi' hbb=>?_⟩
    ·show look (kills ids++e.st) id=_;rw [look_append,kills_mem hi]
    ·exact ⟨T,z,by rw [h.keep b (heap_lt hh) (fun k y hy hks hkb=>by
      have:=hst k y hy hks;have hkb':ρ.blk k=b:=hkb;rw [hkb',h1] at this;cases this)];exact hh⟩
    ·obtain ⟨g1,_,g3⟩:=h.nw i x hx;have:=(erel_some g1 (Ent.pl_own g3) hi').1.2;rw [hbb,hc] at this;cases this
  ·exact .inr ⟨h1.imp (fun h=>h) (hk _),h2,h3⟩
theorem csrel_cons {ρ:Map} {a b:List SC} {vs:List Value}:CsRel ρ (a++b) vs ↔ ∃ x y,vs=x++y/\CsRel ρ a x/\CsRel ρ b y:=by
 constructor
 ·intro h;refine ⟨vs.take a.length,vs.drop a.length,by simp,⟨by have:=h.1;simp at this ⊢;omega,fun i x v hx hv=>?_⟩,⟨by have:=h.1;simp at this ⊢;omega,fun i x v hx hv=>?_⟩⟩
  ·have hi:=lt_of_get hx;rw [List.getElem?_take_of_lt hi] at hv;exact h.2 i x v (by rw [List.getElem?_append_left hi];exact hx) hv
  ·rw [List.getElem?_drop] at hv;exact h.2 (a.length+i) x v (by rw [List.getElem?_append_right (by omega)];simpa using hx) hv
 ·rintro ⟨x,y,rfl,h1,h2⟩;exact csrel_append h1 h2
def fzC (hp:Heap):SC->SC × List Prop × List Nat
 | .osl e id lo n=>(match conE hp e (.osl e id lo n) with |some (d,ps)=>(.rows e d,ps,[id]) |none=>(.osl e id lo n,[],[]))
 |x=>(x,[],[])
def fzS (hp:Heap):List Seg->List Seg × List Prop × List Nat
 | []=>([],[],[])
 | .c x::r=>(match fzC hp x,fzS hp r with |(x',ps,is),(r',qs,js)=>(.c x'::r',ps++qs,is++js))
 | .ints k n f::r=>(match fzS hp r with |(r',qs,js)=>(.ints k n f::r',qs,js))
def fzV (hp:Heap):V1->V1 × List Prop × List Nat
 | .sc x=>(match fzC hp x with |(x',r)=>(.sc x',r))
 | .agg a=>(match fzS hp a with |(a',r)=>(.agg a',r))
def fzSV (hp:Heap):SV->SV × List Prop × List Nat
 | .one x=>(match fzV hp x with |(x',r)=>(.one x',r))
 |x=>(x,[],[])
def fzP (hp:Heap):List (Nat × SV)->List (Nat × SV) × List Prop × List Nat
 | []=>([],[],[])
 |(i,x)::r=>(match fzSV hp x,fzP hp r with |(x',ps,is),(r',qs,js)=>((i,x')::r',ps++qs,is++js))
section
variable {hp:Heap} {w0:W0} {w:World} {ρ:Map} {all:List Nat}
theorem fzC_spec (hw:WH w0 ρ hp w) (x:SC) (hp':All (fzC hp x).2.1) (hall:∀ id∈(fzC hp x).2.2,ownId hp id=true->id∈all) {v:Value} (hv:CRel ρ x v):CRel (ρ.frz w all) (fzC hp x).1 v:=by
 have ext:Ext ρ (ρ.frz w all):=(fr_freeze (B:=0) hw.froz all .junk []).ext
 cases x with
 |osl e id lo n=>
  simp only [fzC] at hp' hall ⊢
  cases hc:conE hp e (.osl e id lo n) with
  |some p=>
   obtain ⟨d,ps⟩:=p;rw [hc] at hp' hall;dsimp only at hp' hall ⊢;exact conE_rel hc hp' hw hv (fun i hi ho=>hall i (by simpa [idsC] using hi) ho)
  |none=>exact crel_ext ext hv
 |_=>exact crel_ext ext hv
theorem fzS_spec (hw:WH w0 ρ hp w):∀ (x:List Seg),All (fzS hp x).2.1->(∀ id∈(fzS hp x).2.2,ownId hp id=true->id∈all)->∀ {vs:List Value},CsRel ρ (cellsOf x) vs->CsRel (ρ.frz w all) (cellsOf (fzS hp x).1) vs
 | [],_,_,vs,hv=>csrel_ext (fr_freeze (B:=0) hw.froz all .junk []).ext hv
 | .c x::r,hp',hall,vs,hv=>by
   obtain ⟨hp1,hp2⟩:=all_append.1 (show All ((fzC hp x).2.1++(fzS hp r).2.1) from hp');have hall':∀ id∈(fzC hp x).2.2++(fzS hp r).2.2,ownId hp id=true->id∈all:=hall;show CsRel (ρ.frz w all) (cellsOf (.c (fzC hp x).1::(fzS hp r).1)) vs;rw [cellsOf_cons] at hv ⊢;obtain ⟨u,v,rfl,g1,g2⟩:=csrel_cons.1 hv;refine csrel_append ⟨g1.1,fun i a b ha hb=>?_⟩ (fzS_spec hw r hp2 (fun id hi=>hall' id (List.mem_append_right _ hi)) g2)
   cases i with
   |zero=>
    simp only [Seg.cells,List.getElem?_cons_zero,Option.some.injEq] at ha;subst ha;exact fzC_spec hw x hp1 (fun id hi=>hall' id (List.mem_append_left _ hi)) (g1.2 0 x b (by simp [Seg.cells]) hb)
   |succ i=>simp [Seg.cells] at ha
 | .ints k n f::r,hp',hall,vs,hv=>by
   show CsRel (ρ.frz w all) (cellsOf (.ints k n f::(fzS hp r).1)) vs;rw [cellsOf_cons] at hv ⊢;obtain ⟨u,v,rfl,g1,g2⟩:=csrel_cons.1 hv;exact csrel_append (csrel_ext (fr_freeze (B:=0) hw.froz all .junk []).ext g1) (fzS_spec hw r hp' hall g2)
theorem fzV_spec (hw:WH w0 ρ hp w) (x:V1) (hp':All (fzV hp x).2.1) (hall:∀ id∈(fzV hp x).2.2,ownId hp id=true->id∈all) {v:Value} (hv:V1Rel ρ x v):V1Rel (ρ.frz w all) (fzV hp x).1 v:=by
 cases x with
 |sc c=>exact fzC_spec hw c hp' hall hv
 |agg l=>obtain ⟨cs,rfl,hc⟩:=hv;exact ⟨cs,rfl,fzS_spec hw l hp' hall hc⟩
theorem fzSV_spec (hw:WH w0 ρ hp w) (x:SV) (hp':All (fzSV hp x).2.1) (hall:∀ id∈(fzSV hp x).2.2,ownId hp id=true->id∈all) {v:Value} (hv:UR ρ x v):UR (ρ.frz w all) (fzSV hp x).1 v:=by
 cases x with
 |one c=>exact fzV_spec hw c hp' hall hv
 |tup l=>exact ur_ext (fr_freeze (B:=0) hw.froz all .junk []).ext hv
 |cond=>exact hv.elim
 |junk=>exact hv.elim
theorem fzP_spec (hw:WH w0 ρ hp w):∀ (pv:List (Nat × SV)) (l:List (Nat × Value)),All (fzP hp pv).2.1->(∀ id∈(fzP hp pv).2.2,ownId hp id=true->id∈all)->pv.length=l.length->(∀ (i:Nat) a b,pv[i]? = some a->l[i]? = some b->a.1=b.1/\UR ρ a.2 b.2) ->
 (fzP hp pv).1.length=l.length/\∀ (i:Nat) a b,(fzP hp pv).1[i]? = some a->l[i]? = some b->a.1=b.1/\UR (ρ.frz w all) a.2 b.2
 | [],l,_,_,hl,_=>⟨hl,fun i a b ha=>by simp [fzP] at ha⟩
 |(k,x)::r,[],_,_,hl,_=>by simp at hl
 |(k,x)::r,y::l,hp',hall,hl,hv=>by
  obtain ⟨hp1,hp2⟩:=all_append.1 (show All ((fzSV hp x).2.1++(fzP hp r).2.1) from hp');have hall':∀ id∈(fzSV hp x).2.2++(fzP hp r).2.2,ownId hp id=true->id∈all:=hall;obtain ⟨h1,h2⟩:=fzP_spec hw r l hp2 (fun id hi=>hall' id (List.mem_append_right _ hi)) (by simpa using hl) (fun i a b ha hb=>hv (i+1) a b (by simpa using ha) (by simpa using hb));refine ⟨by show ((k,(fzSV hp x).1)::(fzP hp r).1).length=_;simp [h1],fun i a b ha hb=>?_⟩;have ha':((k,(fzSV hp x).1)::(fzP hp r).1)[i]? = some a:=ha
  cases i with
  |zero=>
   simp only [List.getElem?_cons_zero,Option.some.injEq] at ha' hb;subst ha' hb;obtain ⟨g1,g2⟩:=hv 0 (k,x) y rfl rfl;exact ⟨g1,fzSV_spec hw x hp1 (fun id hi=>hall' id (List.mem_append_left _ hi)) g2⟩
  |succ i=>exact h2 i a b (by simpa using ha') (by simpa using hb)
end
theorem wh_frz {w0:W0} {w:World} {ρ:Map} {hp:Heap} (hw:WH w0 ρ hp w) (ids:List Nat):WH w0 (ρ.frz w (keepOwn hp ids)) (kills (keepOwn hp ids)++hp) w:=by
 have:=wh_step hw (fr_freeze (B:=w0.heap.size) hw.froz (keepOwn hp ids) .junk []) (fun i x hx=>stOK_kills i x hx) (fun _ _ h=>by simp [look] at h);exact this
def sBF (tt:TT) (hp:Heap) (fr:Nat) (t:TypeId) (len:Nat) (pv:List (Nat × SV)):Option Eff:=match sBS tt fr t len pv with
 |some e=>some e
 |none=>(match fzP hp pv with
  |(pv',ps,ids)=>(match sBS tt fr t len pv' with
   |some e=>(match e.st with | []=>some {e with vc:=ps++e.vc,st:=kills (keepOwn hp ids)} |_=>none)
   |none=>none))
theorem sBF_spec {P:Program} {tt:TT} (htt:TTOK P tt) {hp:Heap} {fr:Nat} {t:TypeId} {len:Nat} {pv:List (Nat × SV)} {e:Eff} (h:sBF tt hp fr t len pv=some e) (hvc:All e.vc) {ρ:Map} {w0:W0} {w:World} (hw:WH w0 ρ hp w) (hfr:∀ id x,look e.nw id=some x -> ρ id=none)
 {parts:Array (Nat × Value)} (hl:pv.length=parts.toList.length) (hv:∀ (i:Nat) a b,pv[i]? = some a->parts.toList[i]? = some b->a.1=b.1/\UR ρ a.2 b.2) :
 ∃ v w' ρ',(Instr.buildSlice t len parts).run P w = .ok v w'/\UR ρ' e.val v/\Fr w0.heap.size ρ ρ' w w' e:=by
 unfold sBF at h
 split at h
 ·rename_i e' hb;simp only [Option.some.injEq] at h;subst h;obtain ⟨v,w',c,h1,h2,h3⟩:=sBS_spec htt hb hvc hw.below.size hw.froz hfr hl hv;exact ⟨v,w',_,h1,h2,h3⟩
 ·dsimp only at h
  split at h
  ·rename_i e' hb
   split at h
   ·rename_i hst;obtain rfl:=by simpa using h
    obtain ⟨hp1,hp2⟩:=all_append.1 hvc;obtain ⟨g1,g2⟩:=fzP_spec hw pv parts.toList hp1 (all:=keepOwn hp (fzP hp pv).2.2) (fun id hi ho=>keepOwn_mem.2 ⟨hi,ho⟩) hl hv;obtain ⟨v,w',c,h1,h2,h3⟩:=sBS_spec htt hb hp2 (wh_frz hw (fzP hp pv).2.2).below.size (wh_frz hw (fzP hp pv).2.2).froz hfr g1 g2;refine ⟨v,w',_,h1,h2,?_⟩;have:=fr_comp hw.froz h3 (fun id x hx=>by rw [hst] at hx;simp [look] at hx) ((fzP hp pv).2.1++e'.vc);rw [hst,List.append_nil] at this;exact this
   ·cases h
  ·cases h
def sStoreF (tt:TT) (hp:Heap) (T e:TypeId) (id i j:Nat) (v:V1):Option Eff:=match sStoreE tt hp T e id i j v with
 |some e=>some e
 |none=>(match fzV hp v with
  |(v',ps,ids)=>(match sStoreE tt (kills (keepOwn hp ids)++hp) T e id i j v' with
   |some ef=>some {ef with vc:=ps++ef.vc,st:=kills (keepOwn hp ids)++ef.st}
   |none=>none))
theorem sStoreE_val {tt:TT} {hp:Heap} {T e:TypeId} {id i j:Nat} {v:V1} {ef:Eff} (h:sStoreE tt hp T e id i j v=some ef):ef.val = .tup []/\∃ x,ef.st=[(id,x)]/\∃ y,look hp id=some y/\y.isOwn=true:=by
 unfold sStoreE at h
 split at h
 ·rename_i hl _
  split at h
  ·split at h
   ·obtain rfl:=by simpa using h
    exact ⟨rfl,_,rfl,_,hl,rfl⟩
   ·cases h
  ·cases h
 ·cases h
theorem sStoreF_spec {P:Program} {tt:TT} (htt:TTOK P tt) {hp:Heap} {T e:TypeId} {id i j:Nat} {v:V1} {ef:Eff} (h:sStoreF tt hp T e id i j v=some ef) (hvc:All ef.vc) {ρ:Map} {w0:W0} {w:World} (hw:WH w0 ρ hp w) {pv x:Value} (hp':CRel ρ (.optr e id i j) pv) (hx:V1Rel ρ v x) :
 ∃ a w' ρ',pv = .pointer (some a)/\(storeVar T a x).run P w = .ok () w'/\UR ρ' ef.val undef/\Fr w0.heap.size ρ ρ' w w' ef:=by
 unfold sStoreF at h
 split at h
 ·rename_i e' hb;simp only [Option.some.injEq] at h;subst h;obtain ⟨a,w',g1,g2,_,g4⟩:=sStoreE_spec htt hb hvc hw hp' hx;exact ⟨a,w',ρ,g1,g2,by rw [(sStoreE_val hb).1];exact ⟨#[],rfl,trivial⟩,g4⟩
 ·dsimp only at h
  split at h
  ·rename_i e' hb;obtain rfl:=by simpa using h
   obtain ⟨hp1,hp2⟩:=all_append.1 hvc;have hw1:=wh_frz hw (fzV hp v).2.2;have hp1':CRel (ρ.frz w (keepOwn hp (fzV hp v).2.2)) (.optr e id i j) pv:=hp';obtain ⟨a,w',g1,g2,_,g4⟩:=sStoreE_spec htt hb hp2 hw1 hp1' (fzV_spec hw v hp1 (all:=keepOwn hp (fzV hp v).2.2) (fun i hi ho=>keepOwn_mem.2 ⟨hi,ho⟩) hx);obtain ⟨q1,y,q2,z,q3,q4⟩:=sStoreE_val hb;refine ⟨a,w',_,g1,g2,by rw [show ({e' with vc:=(fzV hp v).2.1++e'.vc,st:=kills (keepOwn hp (fzV hp v).2.2)++e'.st}:Eff).val=_ from q1];exact ⟨#[],rfl,trivial⟩,fr_comp hw.froz g4 (fun k x' hx' hs=>?_) _⟩;rw [q2] at hx';simp only [look] at hx'
   split at hx'
   ·rename_i hk;obtain rfl:id=k:=by simpa using hk
    exact (erel_some (hw1.ents _ _ q3) q4 hs).1.2
   ·cases hx'
  ·cases h
end Go.Proofs.YtplejbgafjpomaaGreatDoor.Sx
namespace Go.Proofs.YtplejbgafjpomaaGreatDoor.Sx
open Go.RowKit
def sFn (tt:TT) (ag:Bool) (e:TypeId) (p:List D->Bool) (ok:List D->Prop):List SV->Option Eff
 | [x]=>(match ksT tt e,ag,x with
   |some ks,true,.one (.agg l)=>(match takeDs l ks with |some (ds,[])=>some {val:=.one (.sc (.bool (.sym (p ds)))),vc:=[ok ds]} |_=>none)
   |some [k],false,.one (.sc x)=>(match scD k x with |some d=>some {val:=.one (.sc (.bool (.sym (p [d])))),vc:=[ok [d]]} |none=>none)
   |_,_,_=>none)
 |_=>none
theorem sFn_spec {P:Program} {tt:TT} (htt:TTOK P tt) {ag:Bool} {e:TypeId} {p:List D->Bool} {ok:List D->Prop} {l:List SV} {ef:Eff} (h:sFn tt ag e p ok l=some ef) (hvc:All ef.vc) {ρ:Map} {hp:Heap} {w0:W0} {w:World} (hw:WH w0 ρ hp w) {v:Value} (hv:CRel ρ (.fn ag e p ok) v) {vs:List Value} (ha:ArgsRel ρ l vs) :
 ∃ g cap,v = .func (.func g) #[] cap/\(∀ (args:Array Value) (w:World),(callFunc g args).run P w = .ok (.enter g args) w)/\Calls P g (vs.toArray++cap) w fun en w'=>∃ v',en = .returned v'/\UR ρ ef.val v'/\Fr w0.heap.size ρ ρ w w' ef:=by
 obtain ⟨z,hz,g,cap,rfl,hen,hq⟩:=hv;have key:∀ (ks:List K) (ds:List D) (x:SV) (l':List SV) (b:Bool),ksT tt e=some ks->l=x::l'->l'=[]->(∀ u,UR ρ x u->ElVal ρ.fz ag e ds u)->b=p ds->ok ds->ef = {val:=.one (.sc (.bool (.sym b))),vc:=[ok ds]} ->
  ∃ g' cap',Value.func (.func g) #[] cap = .func (.func g') #[] cap'/\(∀ (args:Array Value) (w:World),(callFunc g' args).run P w = .ok (.enter g' args) w)/\Calls P g' (vs.toArray++cap') w fun en w'=>∃ v',en = .returned v'/\UR ρ ef.val v'/\Fr w0.heap.size ρ ρ w w' ef:=by
  intro ks ds x l' b hks hl hl' hx hb hok hef;subst hl hl' hb hef;obtain rfl:=tt_pr htt hks
  match vs,ha with
  | [u],ha=>
    refine ⟨g,cap,rfl,hen,(hq w ρ.fz ds u hz hw.froz (hx u ha.1) hok).mono ?_⟩;rintro en w' ⟨rfl,hb⟩;refine ⟨_,rfl,rfl,Ext.refl ρ,fun _ _=>rfl,⟨hb.os,hb.tape,hb.output,hb.size,fun k hk=>absurd hk (Nat.not_lt_zero k)⟩,fun k hk _=>hb.block k hk,fun _ _ h=>by simp [look] at h,fun _ _ h=>by simp [look] at h,fun _ _ _ _ h=>by simp [look] at h,fun _ _ h=>.inl h,rfl⟩
 unfold sFn at h
 split at h
 ·rename_i x
  split at h
  ·rename_i ks l0 hks
   split at h
   ·rename_i ds htk;obtain rfl:=by simpa using h
    refine key ks ds _ _ _ hks rfl rfl (fun u hu=>?_) rfl hvc.1 rfl;obtain ⟨cs,rfl,hcs⟩:=hu;obtain ⟨h1,h2,h3,h4⟩:=takeDs_spec _ _ _ _ htk _ hcs;obtain ⟨he,_,_⟩:=tt_ks htt hks;have hl:=h4.1;simp only [cellsOf,List.flatMap_nil,List.length_nil,List.length_drop] at hl;exact ⟨cs.toList,by simp,by rw [he];omega,fun j k hk=>by rw [he] at hk;exact h3 j k hk⟩
   ·cases h
  ·rename_i k x0 hks
   split at h
   ·rename_i d hd;obtain rfl:=by simpa using h
    obtain ⟨he,_,_⟩:=tt_ks htt hks;exact key [k] [d] _ _ _ hks rfl rfl (fun u hu=>⟨k,he,scD_spec hd hu⟩) rfl hvc.1 rfl
   ·cases h
  ·cases h
 ·cases h
def seff (tt:TT) (C:Cons) (hp:Heap) (ev:Operand->Option SV) (fr:Nat) (op:Op):Option Eff:=
 match op with
 | .alloc T=>(match zeroT tt T with
   |some l=>some {val:=.one (.sc (.ptr fr (.lit 0))),vc:=[],nw:=[(fr,.own T l)]}
   |none=>none)
 | .box T x=>(match ev x with
   |some (.one v)=>if v.ok then some {val:=.one (.sc (.ptr fr (.lit 0))),vc:=[],nw:=[(fr,.own T v.segs)]} else none
   |_=>none)
 | .store T a x=>(match ev a,ev x with
   |some (.one (.sc (.ptr id o))),some (.one v)=>(match look hp id,szT tt T with
    |some e,some i=>if okSegs v.segs&&v.ok&&Nat.beq (segsSz v.segs) i then
      (match e.segs with
      |some l=>(match wr1 l o v.segs with
       |some (l',ps)=>(match e.put l' with |some e'=>some {val:=.tup [],vc:=ps,st:=[(id,e')]} |none=>none)
       |none=>none)
      |none=>none) else none
    |_,_=>none)
   |some (.one (.sc (.optr e id i j))),some (.one v)=>sStoreF tt hp T e id i j v
   |_,_=>none)
 | .call {callee:=.value f,args,..}=>(match calleeOf ev f,evs ev args.toList with
   |some f,some l=>(match C f with |some c=>c hp fr l |none=>none)
   |none,some l=>(match ev f with |some (.one (.sc (.fn ag e p ok)))=>sFn tt ag e p ok l |some (.one (.sc (.bm g id)))=>(match C g with |some c=>c hp fr (.one (.sc (.ptr id (.lit 0)))::l) |none=>none) |_=>none)
   |_,_=>none)
 | .call {callee:=.builtin .append,args,argTypes}=>(match args.toList,argTypes.toList with
   | [x,y],[T,T']=>if Nat.beq T T' then (match ev x,ev y with |some a,some b=>sAppend tt hp fr T a b |_,_=>none) else none
   |_,_=>none)
 | .makeSlice t l c=>(match ev l,ev c with |some a,some b=>sMake tt fr t a b |_,_=>none)
 | .call {callee:=.builtin .copy,args,argTypes}=>(match args.toList,argTypes.toList with
   | [x,y],T::_=>(match ev x,ev y with |some a,some b=>sCp tt hp T a b |_,_=>none)
   |_,_=>none)
 | .buildSlice t len parts=>(match evp ev parts.toList with |some pv=>sBF tt hp fr t len pv |none=>none)
 | .makeFunc fn first captured=>(match spure tt hp ev (.makeFunc fn first captured) with
   |some (v,ps)=>some {val:=v,vc:=ps}
   |none=>if Nat.beq first.size 0 then (match fn,evs ev captured.toList with
    | .func g,some l=>(match C g with |some c=>c hp fr (.junk::l) |none=>none)
    |_,_=>none) else none)
 |op=>(match spure tt hp ev op with |some (v,ps)=>some {val:=v,vc:=ps} |none=>none)
theorem args_rel {ρ:Map} {E:Operand->Value} {ev:Operand->Option SV} (hE:EvOK ρ E ev):∀ (l:List Operand) svs,evs ev l=some svs->ArgsRel ρ svs (l.map E)
 | [],svs,h=>by
   simp only [evs,Option.some.injEq] at h;subst h;trivial
 |x::l,svs,h=>by
  simp only [evs] at h
  split at h
  ·rename_i a r hx hr;obtain rfl:=by simpa using h
   exact ⟨hE x a hx,args_rel hE l r hr⟩
  ·cases h
theorem callee_val {ρ:Map} {E:Operand->Value} (hEf:∀ f,E (.func f) = .func (.func f) #[] #[]) {ev:Operand->Option SV} (hE:EvOK ρ E ev) {x:Operand} {f:FuncId} (h:calleeOf ev x=some f):E x = .func (.func f) #[] #[]:=by
 have key:fnOfSV (ev x)=some f->E x = .func (.func f) #[] #[]:=fun h=>by
  unfold fnOfSV at h
  split at h
  ·rename_i g a b heq
   split at h
   ·rename_i hb;simp only [Bool.and_eq_true] at hb;obtain rfl:=by simpa using h
    have h1:a=#[]:=Array.eq_empty_of_size_eq_zero (Nat.eq_of_beq_eq_true hb.1);have h2:b=#[]:=Array.eq_empty_of_size_eq_zero (Nat.eq_of_beq_eq_true hb.2);subst h1 h2;exact hE x _ heq
   ·cases h
  ·cases h
 cases x with
 |func g=>
  simp only [calleeOf,Option.some.injEq] at h;subst h;exact hEf g
 |_=>exact key h
theorem seff_spec {P:Program} {tt:TT} (htt:TTOK P tt) {C:Cons} (hC:CtxOK P C) {hp:Heap} {ev:Operand->Option SV} {fr:Nat} {o:Oper} {e:Eff} (h:seff tt C hp ev fr o.op=some e) (hvc:All e.vc) {ρ:Map} {a:Act} (hE:EvOK ρ a.eval ev) {w0:W0} {w:World} (hw:WH w0 ρ hp w)
 (hfr:∀ id x,look e.nw id=some x -> ρ id=none) {K:Act->World->Prop} {Q:Exit->Act->World->Prop} (hK:∀ ρ' w' v,UR ρ' e.val v->Fr w0.heap.size ρ ρ' w w' e->K (a.put o.dst v) w'):o.wp P a w K Q:=by
 have hB:w0.heap.size<=w.heap.size:=hw.below.size;have pureCase:∀ {sv:SV} {ps:List Prop},spure tt hp ev o.op=some (sv,ps)->e = {val:=sv,vc:=ps}->o.wp P a w K Q:=by
  intro sv ps hs he;subst he;obtain ⟨v,h1,h2⟩:=spure_spec htt hs hvc hE hw;unfold Oper.wp;rw [h1];exact hK ρ w v h2 (fr_none _ _)
 obtain ⟨dst,op,ty,pos,after,guard⟩:=o;dsimp only at h hK pureCase;have viaPure:(match spure tt hp ev op with |some (v,ps)=>some ({val:=v,vc:=ps}:Eff) |none=>none)=some e->Oper.wp P {dst:=dst,op:=op,type:=ty,pos:=pos,after:=after,guard:=guard} a w K Q:=fun h=>by
  split at h
  ·rename_i v ps hs;exact pureCase hs (by simpa using h.symm)
  ·cases h
 unfold seff at h
 split at h
 ·
  rename_i T
  split at h
  ·rename_i l hl;obtain rfl:=by simpa using h
   obtain ⟨i,z,hi,hz,hc⟩:=tt_zero htt hl;have hzv:(zeroValue T).run P w = .ok z w:=by simp [zeroValue,typeInfo,hi,hz]
   have hrun:(execOp a.eval {dst:=dst,op:=.alloc T,type:=ty,pos:=pos,after:=after,guard:=guard}).run P w = .ok (.value (.pointer (some ⟨w.heap.size,0,none⟩))) (w.alloc (.cells z.cells T)):=by
    simp only [execOp,Instr.alloc,Sem.run_bind,hzv,Result.andThen_ok];rfl
   unfold Oper.wp;rw [hrun];refine hK (ρ.set fr (w.heap.size,0)) _ _ ?_ (fr_alloc hB hw.froz (hfr fr (.own T l) (by simp [look])) (hc ρ) _ _)
   refine ⟨by simp [Map.set],?_⟩;simp [Map.at,Map.blk,Map.off,Map.set,SO.v]
  ·cases h
 ·
  rename_i T x
  split at h
  ·rename_i v hv
   split at h
   ·rename_i hok;obtain rfl:=by simpa using h
    have hx:=hE _ _ hv;have hc:=v1_cells hx hok;have hrun:(execOp a.eval {dst:=dst,op:=.box T x,type:=ty,pos:=pos,after:=after,guard:=guard}).run P w = .ok (.value (.pointer (some ⟨w.heap.size,0,none⟩))) (w.alloc (.cells (a.eval x).cells T)):=by
     simp only [execOp,Instr.box,Sem.run_bind];rfl
    unfold Oper.wp;rw [hrun];refine hK (ρ.set fr (w.heap.size,0)) _ _ ?_ (fr_alloc hB hw.froz (hfr fr (.own T v.segs) (by simp [look])) hc _ _)
    refine ⟨by simp [Map.set],?_⟩;simp [Map.at,Map.blk,Map.off,Map.set,SO.v]
   ·cases h
  ·cases h
 ·
  rename_i T p x
  split at h
  ·rename_i id o v hp' hv
   split at h
   ·rename_i en i0 hen hi0;obtain ⟨i,hi,rfl⟩:=tt_sz htt hi0
    split at h
    ·rename_i hok;simp only [Bool.and_eq_true] at hok
     split at h
     ·rename_i l hl
      split at h
      ·rename_i l' ps hwr
       split at h
       ·rename_i en' hput;obtain rfl:=by simpa using h
        have hpx:=hE _ _ hp';have hx:=hE _ _ hv;obtain ⟨_,hpx⟩:=hpx;have hc:=v1_cells hx hok.1.2;have h1:=okSegs_cells v.segs _ hok.1.1 hc;have hsz:(a.eval x).cells.size=i.size:=by
         have g1:=hc.1;have g2:(cellsOf v.segs).length=segsSz v.segs:=by
          cases hs:v.segs with
          |nil=>simp [cellsOf,segsSz]
          |cons s r=>rw [hs] at hwr;exact wrs_szs _ _ _ _ hwr
         have g3:=Nat.eq_of_beq_eq_true hok.2;simp at g1;omega
        obtain ⟨w',g1,g2⟩:=store_run (P:=P) hw rfl hen hl hwr hvc hput hc h1;have hrun:(execOp a.eval {dst:=dst,op:=.store T p x,type:=ty,pos:=pos,after:=after,guard:=guard}).run P w = .ok .skip w':=by
         simp only [execOp,Instr.storeAt,Sem.run_bind,hpx,Instr.sureAddr,Sem.run_pure,Result.andThen_ok,storeVar,run_sizeOf hi,hsz,ne_eq,not_true_eq_false,↓reduceIte];rw [g1];rfl
        unfold Oper.wp;rw [hrun];exact hK ρ w' undef ⟨#[],rfl,trivial⟩ g2
       ·cases h
      ·cases h
     ·cases h
    ·cases h
   ·cases h
  ·rename_i el id i j v hp' hv;obtain ⟨A,w',ρ',g1,g2,g3,g4⟩:=sStoreF_spec htt h hvc hw (hE _ _ hp') (hE _ _ hv);have hrun:(execOp a.eval {dst:=dst,op:=.store T p x,type:=ty,pos:=pos,after:=after,guard:=guard}).run P w = .ok .skip w':=by
    simp only [execOp,Instr.storeAt,Sem.run_bind,g1,Instr.sureAddr,Sem.run_pure,Result.andThen_ok];rw [g2];rfl
   unfold Oper.wp;rw [hrun];exact hK ρ' w' undef g3 g4
  ·cases h
 ·
  rename_i f args ats
  split at h
  ·rename_i g l hg hl
   split at h
   ·rename_i c hc;have hok:=hC g c hc;have hf:=callee_val (fun _=>rfl) hE hg;have hargs:=args_rel hE _ _ hl;have hcall:=hok.calls hp fr l e h hvc w0 w ρ _ hw hfr hargs;have hrun:(execOp a.eval {dst:=dst,op:=.call {callee:=.value f,args:=args,argTypes:=ats},type:=ty,pos:=pos,after:=after,guard:=guard}).run P w = .ok (.enter g (args.toList.map a.eval).toArray) w:=by
     have e1:(#[]++args.map a.eval++#[]:Array Value)=(args.toList.map a.eval).toArray:=by apply Array.toList_inj.1;simp
     have:=hok.enters (#[]++args.map a.eval++#[]) w;rw [e1] at this;simp only [execOp,resolve,hf,Sem.run_bind,Deferred.ofValue,Sem.run_pure,Result.andThen_ok,invoke];rw [<- this,<- e1]
    unfold Oper.wp;rw [hrun];refine hcall.mono ?_
    rintro en w' ⟨ρ',v,rfl,h1,h2⟩;exact hK ρ' w' v h1 h2
   ·cases h
  ·rename_i l _ hl
   split at h
   ·rename_i ag e0 p ok hf;obtain ⟨g,cap,hv,hen,hcall⟩:=sFn_spec htt h hvc hw (hE _ _ hf) (args_rel hE _ _ hl);have hrun:(execOp a.eval {dst:=dst,op:=.call {callee:=.value f,args:=args,argTypes:=ats},type:=ty,pos:=pos,after:=after,guard:=guard}).run P w = .ok (.enter g ((args.toList.map a.eval).toArray++cap)) w:=by
     have e1:(#[]++args.map a.eval++cap:Array Value)=(args.toList.map a.eval).toArray++cap:=by apply Array.toList_inj.1;simp
     have:=hen (#[]++args.map a.eval++cap) w;rw [e1] at this;simp only [execOp,resolve,hv,Sem.run_bind,Deferred.ofValue,Sem.run_pure,Result.andThen_ok,invoke];rw [<- this,<- e1]
    unfold Oper.wp;rw [hrun];refine hcall.mono ?_
    rintro en w' ⟨v,rfl,h1,h2⟩;exact hK ρ w' v h1 h2
   ·rename_i g id hf
    split at h
    ·rename_i c hc;have hok:=hC g c hc;obtain ⟨hid,hv⟩:=hE _ _ hf;have hargs:ArgsRel ρ (.one (.sc (.ptr id (.lit 0)))::l) (.pointer (some (ρ.at id 0))::args.toList.map a.eval):=⟨⟨hid,rfl⟩,args_rel hE _ _ hl⟩;have hcall:=hok.calls hp fr _ e h hvc w0 w ρ _ hw hfr hargs;have hrun:(execOp a.eval {dst:=dst,op:=.call {callee:=.value f,args:=args,argTypes:=ats},type:=ty,pos:=pos,after:=after,guard:=guard}).run P w = .ok (.enter g (.pointer (some (ρ.at id 0))::args.toList.map a.eval).toArray) w:=by
      have e1:(#[.pointer (some (ρ.at id 0))]++args.map a.eval++#[]:Array Value)=(.pointer (some (ρ.at id 0))::args.toList.map a.eval).toArray:=by apply Array.toList_inj.1;simp
      have:=hok.enters (#[.pointer (some (ρ.at id 0))]++args.map a.eval++#[]) w;rw [e1] at this;simp only [execOp,resolve,hv,Sem.run_bind,Deferred.ofValue,Sem.run_pure,Result.andThen_ok,invoke];rw [<- this,<- e1]
     unfold Oper.wp;rw [hrun];refine hcall.mono ?_
     rintro en w' ⟨ρ',v,rfl,h1,h2⟩;exact hK ρ' w' v h1 h2
    ·cases h
   ·cases h
  ·cases h
 ·
  rename_i args ats
  split at h
  ·rename_i x y T T' hxy hat
   split at h
   ·rename_i hTT;obtain rfl:=Nat.eq_of_beq_eq_true hTT
    split at h
    ·rename_i a' b' hxa hyb;obtain ⟨v,w',ρ',h1,h2,h3⟩:=sAppend_spec htt h hvc hw hfr (hE _ _ hxa) (hE _ _ hyb) ty;have hmap:args.map a.eval=#[a.eval x,a.eval y]:=by apply Array.toList_inj.1;simp [hxy]
     have hats:ats=#[T,T]:=by apply Array.toList_inj.1;simp [hat]
     have hrun:(execOp a.eval {dst:=dst,op:=.call {callee:=.builtin .append,args:=args,argTypes:=ats},type:=ty,pos:=pos,after:=after,guard:=guard}).run P w = .ok (.value v) w':=by
      show ((do pure (.value (<- Builtin.append_ ats ty (args.map a.eval))):Sem Next)).run P w=_;rw [hmap,hats,Sem.run_bind,h1];rfl
     unfold Oper.wp;rw [hrun];exact hK ρ' w' v h2 h3
    ·cases h
   ·cases h
  ·cases h
 ·
  rename_i t l c
  split at h
  ·rename_i a' b' hxa hyb;obtain ⟨v,w',c',h1,h2,h3⟩:=sMake_spec htt h hvc hB hw.froz hfr (hE _ _ hxa) (hE _ _ hyb);have hrun:(execOp a.eval {dst:=dst,op:=.makeSlice t l c,type:=ty,pos:=pos,after:=after,guard:=guard}).run P w = .ok (.value v) w':=by
    show ((do pure (.value (<- Instr.makeSlice t (a.eval l) (a.eval c))):Sem Next)).run P w=_;rw [Sem.run_bind,h1];rfl
   unfold Oper.wp;rw [hrun];exact hK _ w' v h2 h3
  ·cases h
 ·
  rename_i args ats
  split at h
  ·rename_i x y T r hxy hat
   split at h
   ·rename_i a' b' hxa hyb;obtain ⟨v,w',h1,h2,h3⟩:=sCp_spec htt h hvc hw (hE _ _ hxa) (hE _ _ hyb) (ats:=ats) (by rw [<- Array.getElem?_toList,hat];rfl) ty;have hmap:args.map a.eval=#[a.eval x,a.eval y]:=by apply Array.toList_inj.1;simp [hxy]
    have hrun:(execOp a.eval {dst:=dst,op:=.call {callee:=.builtin .copy,args:=args,argTypes:=ats},type:=ty,pos:=pos,after:=after,guard:=guard}).run P w = .ok (.value v) w':=by
     show ((do pure (.value (<- Builtin.copy_ ats ty (args.map a.eval))):Sem Next)).run P w=_;rw [hmap,Sem.run_bind,h1];rfl
    unfold Oper.wp;rw [hrun];exact hK ρ w' v h2 h3
   ·cases h
  ·cases h
 ·
  rename_i t len parts
  split at h
  ·rename_i pv hpv;obtain ⟨e1,e2⟩:=evp_spec hE _ _ hpv;obtain ⟨v,w',ρ',h1,h2,h3⟩:=sBF_spec htt h hvc hw hfr (parts:=parts.map fun (i,x)=>(i,a.eval x)) (by simpa using e1) (by simpa using e2);have hrun:(execOp a.eval {dst:=dst,op:=.buildSlice t len parts,type:=ty,pos:=pos,after:=after,guard:=guard}).run P w = .ok (.value v) w':=by
    show ((do pure (.value (<- Instr.buildSlice t len (parts.map fun (i,x)=>(i,a.eval x)))):Sem Next)).run P w=_;rw [Sem.run_bind,h1];rfl
   unfold Oper.wp;rw [hrun];exact hK _ w' v h2 h3
  ·cases h
 ·
  rename_i fn first captured
  split at h
  ·rename_i sv ps hs;exact pureCase hs (by simpa using h.symm)
  ·split at h
   ·rename_i hb
    split at h
    ·rename_i g l hl _
     split at h
     ·rename_i c hc;have h1:first=#[]:=Array.eq_empty_of_size_eq_zero (Nat.eq_of_beq_eq_true hb);subst h1;obtain ⟨ρ',g1,g2⟩:=(hC g c hc).clo hp fr l e h hvc w0 w ρ _ hw (args_rel hE _ _ hl);have e1:(captured.toList.map a.eval).toArray=captured.map a.eval:=by apply Array.toList_inj.1;simp
      rw [e1] at g1;have hrun:(execOp a.eval {dst:=dst,op:=.makeFunc (.func g) #[] captured,type:=ty,pos:=pos,after:=after,guard:=guard}).run P w = .ok (.value (.func (.func g) #[] (captured.map a.eval))) w:=by
       simp [execOp,Instr.makeFunc]
      unfold Oper.wp;rw [hrun];exact hK ρ' w _ g1 g2
     ·cases h
    ·cases h
   ·cases h
 ·exact viaPure h
end Go.Proofs.YtplejbgafjpomaaGreatDoor.Sx
namespace Go.Proofs.YtplejbgafjpomaaGreatDoor.Sx
open Go.RowKit
structure Stp (w0:W0) (hp:Heap) (ρ ρ':Map) (w w':World) (e:Eff):Prop where
 ext:Ext ρ ρ'
 only:∀ id,look e.nw id=none -> ρ' id=ρ id
 mem:∀ hp2,WH w0 ρ hp2 w->(∀ id y,look hp id=some y->y = .gone ∨ look hp2 id=some y)->WH w0 ρ' (e.st++(e.nw++hp2)) w'
theorem stp_fr {w0:W0} {hp:Heap} {ρ ρ':Map} {w w':World} {e:Eff} (hf:Fr w0.heap.size ρ ρ' w w' e) (hst:stOK hp e.nw e.st=true) (hnw:∀ id x,look e.nw id=some x -> ρ id=none):Stp w0 hp ρ ρ' w w' e:=
 ⟨hf.ext,hf.only,fun hp2 hw hs=>wh_step hw hf (fun id x hx=>by
   obtain ⟨g1,g0,y,g2,g3⟩:=stOK_spec hst id x hx;refine ⟨g1,g0,y,?_,g3⟩
   rcases hs id y g2 with rfl |h
   ·cases g3
   ·exact h) hnw⟩
theorem lin_sub {B:Nat} {ρ:Map} {h k:Heap} {w:World} (hl:Lin B ρ h w) (hs:∀ id e,look k id=some e->e = .gone ∨ look h id=some e):Lin B ρ k w:=fun id c e d g hk hi i b cap hkid=>by
 rcases hs id _ hk with h0 |h1
 ·cases h0
 obtain ⟨c1,c2,c3,c4,c5⟩:=hl id c e d g h1 hi i b cap hkid;refine ⟨c1,c2,c3,fun j f hj hjo hji=>?_,fun j c' e2 d' g' q cap' hj hji hjk=>?_⟩
 ·rcases hs j f hj with rfl |h2
  ·cases hjo
  ·exact c4 j f h2 hjo hji
 ·rcases hs j _ hj with h0 |h2
  ·cases h0
  ·exact c5 j c' e2 d' g' q cap' h2 hji hjk
theorem wh_sub2 {w0:W0} {w:World} {ρ:Map} {h k:Heap} (hw:WH w0 ρ h w) (hs:∀ id e,look k id=some e->e = .gone ∨ look h id=some e):WH w0 ρ k w:=
 ⟨hw.below,fun id e he=>by
   rcases hs id e he with rfl |h'
   ·trivial
   ·exact hw.ents id e h',fun i j e f hi hj a b c=>by
   rcases hs i e hi with rfl |h1
   ·cases a
   ·rcases hs j f hj with rfl |h2
    ·cases b
    ·exact hw.apart i j e f h1 h2 a b c,hw.froz,hw.sub,hw.mu0,hw.f00,hw.old,hw.anc,hw.tab,lin_sub hw.lin hs⟩
theorem wh_ren {w0:W0} {w:World} {ρ ρ':Map} {h:Heap} (hw:WH w0 ρ h w) (hx:Ext ρ ρ') (hz:ρ'.fz=ρ.fz) (hs:∀ id e,look h id=some e->e ≠ .gone -> ρ' id=ρ id/\(e.isOwn=true -> ρ'.kid id=ρ.kid id)):WH w0 ρ' h w:=by
 have ng:∀ {e:Ent},e.isOwn=true->e ≠ .gone:=fun h e=>by subst e;cases h
 have nblk:∀ id e,look h id=some e->e ≠ .gone -> ρ'.blk id=ρ.blk id:=fun id e he hg=>by unfold Map.blk;rw [(hs id e he hg).1]
 refine ⟨by rw [hx.mu];exact hw.below,fun id e he=>?_,fun i j e f hi hj a b c d1 d2=>?_,fun b cs hb=>hw.froz b cs (by rw [<- hz];exact hb),by rw [hx.f0,hz];exact hw.sub,hx.mu.trans hw.mu0,hx.f0.trans hw.f00,fun b cs hb=>by rw [hx.f0,hx.mu];exact hw.old b cs (by rw [<- hz];exact hb),fun p hp=>hx.m 0 p (hw.anc p hp),hw.tab,?_⟩
 ·by_cases hg:e = .gone
  ·subst hg;trivial
  ·obtain ⟨g1,g2⟩:=hs id e he hg;exact erel_keep hx g1 g2 (fun ho hi=>by rw [hz];exact (erel_some (hw.ents id e he) ho hi).1.2) (hw.ents id e he) fun _ _=>rfl
 ·rw [nblk i e hi (ng a),nblk j f hj (ng b)];exact hw.apart i j e f hi hj a b c (by rw [<- (hs i e hi (ng a)).1];exact d1) (by rw [<- (hs j f hj (ng b)).1];exact d2)
 ·intro id c e d g hl hi i b cap hk;obtain ⟨g1,g2⟩:=hs id _ hl (fun h=>by cases h);rw [g2 rfl] at hk;obtain ⟨c1,c2,c3,c4,c5⟩:=hw.lin id c e d g hl (by rw [<- g1];exact hi) i b cap hk;refine ⟨⟨by rw [hx.mu];exact c1.1,by rw [hz];exact c1.2⟩,c2,fun e' h1 h2 h3=>rowAt_mono hx.fz rfl (c3 e' h1 h2 h3),fun j f hj hjo hji=>?_,fun j c' e2 d' g' q cap' hj hji hjk=>?_⟩
  ·rw [nblk j f hj (ng hjo)];exact c4 j f hj hjo (by rw [<- (hs j f hj (ng hjo)).1];exact hji)
  ·obtain ⟨k1,k2⟩:=hs j _ hj (fun h=>by cases h);rw [k2 rfl] at hjk;exact c5 j c' e2 d' g' q cap' hj (by rw [<- k1];exact hji) hjk
theorem wh_put {w0:W0} {w:World} {ρ:Map} {h:Heap} (hw:WH w0 ρ h w) {id:Nat} {x:Ent} (hx:ERel w0.heap.size ρ w id x)
 (h2:∀ j f,j≠id->look h j=some f->f.isOwn=true->(ρ j).isSome=true->(ρ id).isSome=true -> ρ.blk j≠ρ.blk id)
 (h3:∀ j c e d g k cp,j≠id->look h j=some (.nrow c e d g)->(ρ j).isSome=true->(ρ id).isSome=true -> ρ.kid j k≠some (ρ.blk id,cp))
 (h4:∀ c e d g,x = .nrow c e d g->(ρ id).isSome=true->∀ k b cp,ρ.kid id k=some (b,cp)->Mine w0.heap.size ρ b/\b<w.heap.size/\(∀ e',(eks e)[c]? = some (.slice e')->k<d.len->holeAt g k=none->RowAt ρ w b cp e' (d.el k c)) /\ ρ.blk id≠b /\
   (∀ j f,j≠id->look h j=some f->f.isOwn=true->(ρ j).isSome=true -> ρ.blk j≠b)/\(∀ j c' e' d' g' k' cp',j≠id->look h j=some (.nrow c' e' d' g')->(ρ j).isSome=true -> ρ.kid j k'≠some (b,cp'))/\(∀ k' cp',ρ.kid id k'=some (b,cp')->k'=k)) :
 WH w0 ρ ((id,x)::h) w:=by
 have lk:∀ j f,look ((id,x)::h) j=some f->(j=id/\f=x) ∨ (j≠id/\look h j=some f):=fun j f hj=>by
  simp only [look] at hj
  split at hj
  ·rename_i hij;exact .inl ⟨(by simpa using hij:id=j).symm,by simpa using hj.symm⟩
  ·rename_i hij;exact .inr ⟨fun e=>hij (by simp [e]),hj⟩
 refine ⟨hw.below,fun j f hj=>?_,fun i j e f hi hj a b hne d1 d2=>?_,hw.froz,hw.sub,hw.mu0,hw.f00,hw.old,hw.anc,hw.tab,?_⟩
 ·rcases lk j f hj with ⟨rfl,rfl⟩ |⟨_,h'⟩
  ·exact hx
  ·exact hw.ents j f h'
 ·rcases lk i e hi with ⟨rfl,rfl⟩ |⟨n1,k1⟩<;>rcases lk j f hj with ⟨rfl,rfl⟩ |⟨n2,k2⟩
  ·exact absurd rfl hne
  ·exact (h2 j f n2 k2 b d2 d1).symm
  ·exact h2 i e n1 k1 a d1 d2
  ·exact hw.apart i j e f k1 k2 a b hne d1 d2
 ·intro j c e d g hj hi i b cap hk
  rcases lk j _ hj with ⟨rfl,rfl⟩ |⟨n1,k1⟩
  ·obtain ⟨c1,c2,c3,c0,c4,c5,c6⟩:=h4 c e d g rfl hi i b cap hk;refine ⟨c1,c2,c3,fun q f hq hqo hqi=>?_,fun q c' e2 d' g' r cap' hq hqi hqk=>?_⟩
   ·rcases lk q f hq with ⟨rfl,_⟩ |⟨n2,k2⟩
    ·exact c0
    ·exact c4 q f n2 k2 hqo hqi
   ·rcases lk q _ hq with ⟨rfl,_⟩ |⟨n2,k2⟩
    ·exact ⟨rfl,c6 r cap' hqk⟩
    ·exact absurd hqk (c5 q c' e2 d' g' r cap' n2 k2 hqi)
  ·obtain ⟨c1,c2,c3,c4,c5⟩:=hw.lin j c e d g k1 hi i b cap hk;refine ⟨c1,c2,c3,fun q f hq hqo hqi=>?_,fun q c' e2 d' g' r cap' hq hqi hqk=>?_⟩
   ·rcases lk q f hq with ⟨rfl,rfl⟩ |⟨n2,k2⟩
    ·intro hb;exact h3 j c e d g i cap n1 k1 hi hqi (by rw [hb];exact hk)
    ·exact c4 q f k2 hqo hqi
   ·rcases lk q _ hq with ⟨rfl,hqx⟩ |⟨n2,k2⟩
    ·obtain ⟨_,_,_,_,_,c6,_⟩:=h4 c' e2 d' g' hqx.symm hqi r b cap' hqk;exact absurd hk (c6 j c e d g i cap n1 k1 hi)
    ·exact c5 q c' e2 d' g' r cap' k2 hqi hqk
theorem wh_kill {w0:W0} {w w':World} {ρ:Map} {h:Heap} {ids:List Nat} (hw:WH w0 ρ h w) (hids:∀ id∈ids,∃ y,look h id=some y/\y.isOwn=true) (hb:Below 0 w w') (hk:∀ b,b<w.heap.size->(∀ id∈ids,(ρ id).isSome=true -> ρ.blk id≠b)->w'.heap[b]? = w.heap[b]?):WH w0 ρ (kills ids++h) w':=by
 have hf:Fr w0.heap.size ρ ρ w w' {val:=.junk,vc:=[],st:=kills ids}:=⟨Ext.refl ρ,fun _ _=>rfl,hb,fun b hlt hn=>hk b hlt fun id hi hs=>hn id .gone (kills_mem hi) hs,fun id x hx=>by rw [(kills_look hx).1];trivial,fun _ _ h=>by simp [look] at h,fun _ _ _ _ h=>by simp [look] at h,fun _ _ h=>.inl h,rfl⟩;exact wh_step hw hf (fun id x hx=>by
  obtain ⟨rfl,hi⟩:=kills_look hx;exact ⟨rfl,rfl,hids id hi⟩) (fun _ _ h=>by simp [look] at h)
def Map.add (ρ:Map) (fr:Nat) (p:Nat × Nat) (c:Nat) (kd:Nat->Option (Nat × Nat)):Map:={ρ with m:=fun j=>if j=fr then some p else ρ j,cap:=fun j=>if j=fr then c else ρ.cap j,kid:=fun j=>if j=fr then kd else ρ.kid j}
theorem add_at (ρ:Map) (fr:Nat) (p:Nat × Nat) (c:Nat) (kd:Nat->Option (Nat × Nat)):(ρ.add fr p c kd) fr=some p/\(ρ.add fr p c kd).cap fr=c/\(ρ.add fr p c kd).kid fr=kd/\(ρ.add fr p c kd).blk fr=p.1/\(ρ.add fr p c kd).off fr=p.2:=by
 simp [Map.add,Map.blk,Map.off]
theorem add_ne {ρ:Map} {fr j:Nat} (h:j≠fr) (p:Nat × Nat) (c:Nat) (kd:Nat->Option (Nat × Nat)):(ρ.add fr p c kd) j=ρ j/\(ρ.add fr p c kd).cap j=ρ.cap j/\(ρ.add fr p c kd).kid j=ρ.kid j/\(ρ.add fr p c kd).blk j=ρ.blk j:=by
 simp [Map.add,Map.blk,h]
theorem add_ext {ρ:Map} {fr:Nat} (h:ρ fr=none) (p:Nat × Nat) (c:Nat) (kd:Nat->Option (Nat × Nat)):Ext ρ (ρ.add fr p c kd):=by
 have key:∀ j,(ρ j).isSome=true->j≠fr:=fun j hj e=>by subst e;rw [h] at hj;cases hj
 refine ⟨fun j q hq=>?_,fun j hj=>?_,fun _ _ hc=>hc,rfl,rfl⟩
 ·rw [(add_ne (key j (by rw [hq];rfl)) p c kd).1];exact hq
 ·exact (add_ne (key j hj) p c kd).2.1
end Go.Proofs.YtplejbgafjpomaaGreatDoor.Sx
namespace Go.Proofs.YtplejbgafjpomaaGreatDoor.Sx
open Go.RowKit
theorem napp_raw {P:Program} {w:World} (t ty e:TypeId) (i:TypeInfo) (z:Value) (sz:Nat) (ht:P.underlying t=some (.slice e)) (hi:P.info? e=some i) (hz:i.zero=some z) (hzs:z.cells.size=sz) (his:i.size=sz)
 {A:Option Addr} {n c:Nat} (hA:(c=0/\n=0) ∨ ∃ b cs cap,A=some ⟨b,0,none⟩/\w.heap[b]? = some (.cells cs e (0,0))/\cs.size=cap*sz/\c<=cap/\n<=c)
 {b2 c2:Nat} {news:List Value} (hl:news.length=sz) (hf:∀ (q:Nat) u,news[q]? = some u->w.cell? ⟨b2,q,none⟩=some u) (h1:∀ v∈news,v.oneCell'=true) (hby:(n+1)*i.bytes<=140737488355328) (hb:0<i.bytes) :
 ∃ w' b' cs' cap' cc',(Builtin.append_ #[t,t] ty #[.slice A n c,.slice (some ⟨b2,0,none⟩) 1 c2]).run P w = .ok (.slice (some ⟨b',0,none⟩) (n+1) cc') w'/\n+1<=cc'/\cc'<=cap'/\w'.heap[b']? = some (.cells cs' e (0,0))/\cs'.size=cap'*sz /\
   (∀ b cs,A=some ⟨b,0,none⟩->c≠0->w.heap[b]? = some (.cells cs e (0,0))->∀ q,q<n*sz->cs'[q]? = cs[q]?)/\(∀ q,q<sz->cs'[n*sz+q]? = news[q]?)/\Below 0 w w' /\
   (∀ k,k<w.heap.size->(c≠0->A≠some ⟨k,0,none⟩)->w'.heap[k]? = w.heap[k]?)/\(b'=w.heap.size ∨ (c≠0/\A=some ⟨b',0,none⟩)):=by
 have hln:news.length=1*i.size:=by rw [his,Nat.one_mul];exact hl
 have hf':∀ (j:Nat) v,news[j]? = some v->w.cell? ((⟨b2,0,none⟩:Addr).add j)=some v:=fun j v hv=>by
  rw [addr_add,Nat.zero_add];exact hf j v hv
 have hbn:n+1<=(n+1)*i.bytes:=Nat.le_mul_of_pos_right _ hb;have hns:(n+1)*sz=n*sz+sz:=by rw [Nat.add_mul,Nat.one_mul]
 by_cases hfit:n+1<=c
 ·have hc0:c≠0:=by omega
  obtain ⟨b,cs,cap,rfl,hh,hsz,hcap,hnc⟩:=hA.resolve_left fun h=>hc0 h.1
  have hroom:n*sz+news.length<=cs.size:=by
   rw [hl,hsz,<- hns];exact Nat.mul_le_mul_right _ (by omega)
  have hst:=run_storeCells_at P b (n*sz) e news 0 cs w hh (by omega) h1;simp only [Nat.add_zero] at hst;have hap:∀ (p:Nat),(cs.toList.take (n*sz)++news++cs.toList.drop (n*sz+news.length)).toArray[p]? = if n*sz<=p/\p<n*sz+news.length then news[p-n*sz]? else cs[p]?:=fun p=>by
   have:=over_get (l:=cs.toList) (m:=news) (o:=n*sz) (by simpa using hroom) p;unfold over at this;rw [List.getElem?_toArray,this];split<;>simp
  refine ⟨_,b,_,cap,c,run_append_fit t ty e i ht hi _ _ n c 1 c2 news hln (fun q u hu=>⟨_,rfl,hf' q u hu⟩) hfit (w':=w.setRow b (cs.toList.take (n*sz)++news++cs.toList.drop (n*sz+news.length)).toArray) (by rw [his];simp only [addr_add,Nat.zero_add];exact hst),hfit,hcap,setRow_heap _ _ _ _ _ _ hh,?_,fun b' cs' hb' _ hh' q hq=>?_,fun q hq=>?_,⟨rfl,rfl,rfl,by simp,fun k hk=>absurd hk (Nat.not_lt_zero k)⟩,fun k hk hne=>?_,.inr ⟨hc0,rfl⟩⟩
  ·simp;omega
  ·have:b=b':=by simpa using hb'
   subst this;rw [hh] at hh';have:cs=cs':=by simpa using hh'
   subst this;rw [hap,if_neg (by omega)]
  ·rw [hap,if_pos (by omega),Nat.add_sub_cancel_left]
  ·exact setRow_other _ _ _ _ (fun e'=>hne hc0 (by rw [e']))
 ·
  obtain ⟨olds,o1,o2,o3,o4⟩:∃ olds:List Value,olds.length=n*sz/\(∀ (q:Nat) u,olds[q]? = some u->∃ a,A=some a/\w.cell? (a.add q)=some u)/\(A=none->c=0/\n=0)/\∀ b cs,A=some ⟨b,0,none⟩->c≠0->w.heap[b]? = some (.cells cs e (0,0))->∀ q,q<n*sz->olds[q]? = cs[q]?:=by
   rcases hA with ⟨hc0,hn0⟩ |⟨b,cs,cap,rfl,hh,hsz,hcap,hnc⟩
   ·exact ⟨[],by simp [hn0],fun q u hu=>by simp at hu,fun _=>⟨hc0,hn0⟩,fun b cs _ h _=>absurd hc0 h⟩
   ·have hle:n*sz<=cs.size:=by rw [hsz];exact Nat.mul_le_mul_right _ (by omega)
    refine ⟨cs.toList.take (n*sz),by simp;omega,fun q u hu=>⟨_,rfl,?_⟩,fun h=>(by cases h),fun b' cs' hb' _ hh' q hq=>?_⟩
    ·have hq:q<n*sz:=by
      have:=lt_of_get hu;simp at this;omega
     rw [List.getElem?_take_of_lt hq] at hu;rw [addr_add];simp only [World.cell?,hh,Nat.zero_add]
     simpa using hu
    ·have:b=b':=by simpa using hb'
     subst this;rw [hh] at hh';have:cs=cs':=by simpa using hh'
     subst this;rw [List.getElem?_take_of_lt hq,Array.getElem?_toList]
  have hrun:∃ old:Nat,(Builtin.append_ #[t,t] ty #[.slice A n c,.slice (some ⟨b2,0,none⟩) 1 c2]).run P w = .ok (.slice (some ⟨w.heap.size,0,none⟩) (n+1) (grownCap w (n+1) old e)) (w.drew.alloc (.cells (olds.toArray++news.toArray++Builtin.zeroCells z.cells (grownCap w (n+1) old e-(n+1))) e)):=by
   cases A with
   |none=>
    obtain ⟨rfl,rfl⟩:=o3 rfl;have ho:olds=[]:=List.length_eq_zero_iff.1 (by rw [o1];simp);subst ho;refine ⟨0,?_⟩;have:=run_append_nil (P:=P) (w:=w) t ty e i z ht hi hz ⟨b2,0,none⟩ 1 c2 news hln hf' (by omega) (by omega) (by rw [Nat.zero_add] at hby;omega)
    simpa using this
   |some a1=>
    refine ⟨c,?_⟩;exact run_append_grow (P:=P) (w:=w) t ty e i z ht hi hz a1 n c olds (by rw [his];exact o1) (fun j v hv=>by
     obtain ⟨a,ha,hc⟩:=o2 j v hv;obtain rfl:=by simpa using ha
     exact hc) ⟨b2,0,none⟩ 1 c2 news hln hf' (by omega) (by omega) (growslice_fits (by omega) hby)
  obtain ⟨old,hrun⟩:=hrun;have hge:=grownCap_le w (n+1) old e;have hs:(olds.toArray++news.toArray++Builtin.zeroCells z.cells (grownCap w (n+1) old e-(n+1))).size=grownCap w (n+1) old e*sz:=by
   simp only [Array.size_append,List.size_toArray,o1,hl,size_zeroCells,hzs];have:grownCap w (n+1) old e=(n+1)+(grownCap w (n+1) old e-(n+1)):=by omega
   rw [this,Nat.add_mul,hns]
   congr 2;omega
  refine ⟨_,w.heap.size,_,grownCap w (n+1) old e,_,hrun,hge,Nat.le_refl _,?_,hs,fun b' cs' hb' hc hh' q hq=>?_,fun q hq=>?_,?_,fun k hk _=>?_,.inl rfl⟩
  ·show (w.heap.push _)[w.heap.size]? = _
   simp
  ·rw [<- o4 b' cs' hb' hc hh' q hq,Array.append_assoc,Array.getElem?_append_left (by simp [o1];omega),List.getElem?_toArray]
  ·rw [Array.append_assoc,Array.getElem?_append_right (by simp [o1]),List.size_toArray,o1,Nat.add_sub_cancel_left,Array.getElem?_append_left (by simp [hl];omega),List.getElem?_toArray]
  ·have:=below0_alloc w.drew (.cells (olds.toArray++news.toArray++Builtin.zeroCells z.cells (grownCap w (n+1) old e-(n+1))) e);exact ⟨this.os,this.tape,this.output,this.size,this.block⟩
  ·exact Below.heap_alloc _ _ _ hk
theorem kills_one (id:Nat):kills [id]=[(id,.gone)]:=rfl
theorem wh_upd {w0:W0} {ρ:Map} {h:Heap} {w w':World} (hw:WH w0 ρ h w) {id c:Nat} {e:TypeId} {d d':D} {g g':Option (Nat × Nat × Nat)} (hl:look h id=some (.nrow c e d g)) (hid:(ρ id).isSome=true) (hb:Below 0 w w') (hk:∀ b,b<w.heap.size -> ρ.blk id≠b->w'.heap[b]? = w.heap[b]?)
 (hx:ERel w0.heap.size ρ w' id (.nrow c e d' g')) (hlen:d'.len=d.len) (hel:∀ k,k<d.len->holeAt g' k=none->d'.el k c=d.el k c) (hg:∀ k,holeAt g' k=none->holeAt g k=none):WH w0 ρ ((id,.nrow c e d' g')::h) w':=by
 have wk:=wh_kill (ids:=[id]) hw (fun i hi=>by
  obtain rfl:i=id:=by simpa using hi
  exact ⟨_,hl,rfl⟩) hb fun b hlt hne=>hk b hlt (hne id (by simp) hid)
 rw [kills_one] at wk;have lk:∀ j f,j≠id->look ([(id,Ent.gone)]++h) j=some f->look h j=some f:=fun j f hne hj=>by
  simp only [List.singleton_append,look] at hj;rw [if_neg (by simpa using (Ne.symm hne))] at hj;exact hj
 have wp:=wh_put wk (id:=id) (x:=.nrow c e d' g') hx (fun j f hne hj ho hji _=>hw.apart j id f _ (lk j f hne hj) hl ho rfl hne hji hid)
  (fun j c2 e2 d2 g2 k cp hne hj hji _ hkk=>(hw.lin j c2 e2 d2 g2 (lk j _ hne hj) hji k _ cp hkk).2.2.2.1 id _ hl rfl hid rfl)
  (fun c2 e2 d2 g2 hxx _ k b cp hkk=>by
    obtain ⟨rfl,rfl,rfl,rfl⟩:=by simpa using hxx
    obtain ⟨c1,c2,c3,c4,c5⟩:=hw.lin id _ _ d g hl hid k b cp hkk;have hne:=c4 id _ hl rfl hid;refine ⟨c1,Nat.lt_of_lt_of_le c2 hb.size,fun e' h1 h2 h3=>?_,hne,fun j f hj hl2 ho hji=>c4 j f (lk j f hj hl2) ho hji,fun j c' e' d3 g3 k' cp' hj hl2 hji hk2=>hj (c5 j c' e' d3 g3 k' cp' (lk j _ hj hl2) hji hk2).1,fun k' cp' hk2=>(c5 id _ _ d g k' cp' hl hid hk2).2⟩;rw [hel k (by rw [<- hlen];exact h2) h3];exact rowAt_mono (fun _ _ h=>h) (hk b c2 hne) (c3 e' h1 (by rw [<- hlen];exact h2) (hg k h3)))
 refine wh_sub2 wp fun i f hi=>.inr ?_
 simp only [look] at hi ⊢
 split at hi
 ·rename_i hq;rw [if_pos hq];exact hi
 ·rename_i hq;rw [if_neg hq];simp only [List.singleton_append,look];rw [if_neg hq];exact hi
theorem wh_new {w0:W0} {ρ:Map} {h:Heap} {w w':World} {ids:List Nat} (hw:WH w0 ρ h w) (hids:∀ i∈ids,∃ y,look h i=some y/\y.isOwn=true) (hb:Below 0 w w') {fr bf cf c:Nat} {e:TypeId} {d:D} {g:Option (Nat × Nat × Nat)} {kd:Nat->Option (Nat × Nat)} (hfr:ρ fr=none)
 (hk:∀ b,b<w.heap.size->(∀ i∈ids,(ρ i).isSome=true -> ρ.blk i≠b)->w'.heap[b]? = w.heap[b]?) (hbf:bf=w.heap.size ∨ ∃ i∈ids,(ρ i).isSome=true/\bf=ρ.blk i)
 (hx:ERel w0.heap.size (ρ.add fr (bf,0) cf kd) w' fr (.nrow c e d g))
 (hkd:∀ k b cp,kd k=some (b,cp)->∃ i k0 e0 d0 g0,i∈ids/\look h i=some (.nrow c e0 d0 g0)/\(ρ i).isSome=true /\ ρ.kid i k0=some (b,cp)/\(∀ e',(eks e)[c]? = some (.slice e')->k<d.len->holeAt g k=none->RowAt ρ w b cp e' (d.el k c)))
 (hinj:∀ k k' b cp cp',kd k=some (b,cp)->kd k'=some (b,cp')->k'=k):WH w0 (ρ.add fr (bf,0) cf kd) (kills ids++((fr,.nrow c e d g)::h)) w':=by
 obtain ⟨a1,a2,a3,a4,a5⟩:=add_at ρ fr (bf,0) cf kd;have ext:=add_ext hfr (bf,0) cf kd;have wk:=wh_kill (ids:=ids) hw hids hb hk;have wk2:WH w0 ρ ((fr,.gone)::(kills ids++h)) w':=wh_sub2 wk fun i f hi=>by
  simp only [look] at hi
  split at hi
  ·exact .inl (by simpa using hi.symm)
  ·exact .inr hi
 have wr:=wh_ren (ρ':=ρ.add fr (bf,0) cf kd) wk2 ext rfl fun i f hi hg=>by
  simp only [look] at hi
  split at hi
  ·exact absurd (by simpa using hi.symm) hg
  ·rename_i hq;have hne:i≠fr:=fun e=>hq (by simp [e])
   obtain ⟨q1,_,q3,_⟩:=add_ne hne (bf,0) cf kd (ρ:=ρ);exact ⟨q1,fun _=>q3⟩
 have lk:∀ j f,j≠fr->look ((fr,Ent.gone)::(kills ids++h)) j=some f->f.isOwn=true->look h j=some f/\j ∉ ids:=fun j f hne hj ho=>by
  simp only [look] at hj;rw [if_neg (by simpa using (Ne.symm hne)),look_append] at hj
  cases hq:look (kills ids) j with
  |some y=>
   rw [hq] at hj;obtain rfl:=by simpa using hj
   rw [(kills_look hq).1] at ho;cases ho
  |none=>
   rw [hq] at hj;refine ⟨hj,fun hi=>?_⟩;rw [kills_mem hi] at hq;cases hq
 have hsz:=hb.size;have ne':∀ {j:Nat} {f:Ent},look h j=some f->f.isOwn=true->(ρ j).isSome=true->j ∉ ids -> ρ.blk j≠bf:=fun {j f} hj ho hji hni=>by
  rcases hbf with rfl |⟨i,hi,his,rfl⟩
  ·have:=(erel_some (hw.ents j f hj) ho hji).2;omega
  ·obtain ⟨y,hy,hyo⟩:=hids i hi;exact hw.apart j i f y hj hy ho hyo (fun e=>hni (by rw [e];exact hi)) hji his
 have kid_ne:∀ {j c2 e2 d2 g2 k b cp},look h j=some (.nrow c2 e2 d2 g2)->(ρ j).isSome=true -> ρ.kid j k=some (b,cp)->bf≠b:=fun {j c2 e2 d2 g2 k b cp} hj hji hk2=>by
  obtain ⟨_,c2',_,c4,_⟩:=hw.lin j _ _ _ _ hj hji k b cp hk2
  rcases hbf with rfl |⟨i,hi,his,rfl⟩
  ·omega
  ·obtain ⟨y,hy,hyo⟩:=hids i hi;exact c4 i y hy hyo his
 have wp:=wh_put wr (id:=fr) (x:=.nrow c e d g) hx (fun j f hne hj ho hji _=>by
  obtain ⟨h1,h2⟩:=lk j f hne hj ho;obtain ⟨q1,_,_,q4⟩:=add_ne hne (bf,0) cf kd (ρ:=ρ);rw [q1] at hji;rw [q4,a4];exact ne' h1 ho hji h2)
  (fun j c2 e2 d2 g2 k cp hne hj hji _ hkk=>by
    obtain ⟨h1,h2⟩:=lk j _ hne hj rfl;obtain ⟨q1,_,q3,_⟩:=add_ne hne (bf,0) cf kd (ρ:=ρ);rw [q1] at hji;rw [q3,a4] at hkk;exact kid_ne h1 hji hkk rfl)
  (fun c2 e2 d2 g2 hxx _ k b cp hkk=>by
    obtain ⟨rfl,rfl,rfl,rfl⟩:=by simpa using hxx
    rw [a3] at hkk;obtain ⟨i,k0,e0,d0,g0,hi,hli,his,hki,hrow⟩:=hkd k b cp hkk;obtain ⟨c1,c2,c3,c4,c5⟩:=hw.lin i _ e0 d0 g0 hli his k0 b cp hki;have hkeep:w'.heap[b]? = w.heap[b]?:=hk b c2 fun i' hi' his'=>by
     obtain ⟨y,hy,hyo⟩:=hids i' hi';exact c4 i' y hy hyo his'
    refine ⟨c1,Nat.lt_of_lt_of_le c2 hsz,fun e' h1 h2 h3=>rowAt_mono (fun _ _ h=>h) hkeep (hrow e' h1 h2 h3),?_,fun j f hj hl2 ho hji=>?_,fun j c' e' d3 g3 k' cp' hj hl2 hji hk2=>?_,fun k' cp' hk2=>?_⟩
    ·rw [a4];exact kid_ne hli his hki
    ·obtain ⟨h1,h2⟩:=lk j f hj hl2 ho;obtain ⟨q1,_,_,q4⟩:=add_ne hj (bf,0) cf kd (ρ:=ρ);rw [q1] at hji;rw [q4];exact c4 j f h1 ho hji
    ·obtain ⟨h1,h2⟩:=lk j _ hj hl2 rfl;obtain ⟨q1,_,q3,_⟩:=add_ne hj (bf,0) cf kd (ρ:=ρ);rw [q1] at hji;rw [q3] at hk2;exact h2 (by rw [(c5 j c' e' d3 g3 k' cp' h1 hji hk2).1];exact hi)
    ·rw [a3] at hk2;exact hinj k k' b cp cp' hkk hk2)
 refine wh_sub2 wp fun i f hi=>?_
 rw [look_append] at hi
 cases hq:look (kills ids) i with
 |some y=>
  rw [hq] at hi;obtain rfl:=by simpa using hi
  exact .inl (kills_look hq).1
 |none=>
  rw [hq] at hi
  right
  simp only [look] at hi ⊢
  split at hi
  ·rename_i hc;rw [if_pos hc];exact hi
  ·rename_i hc;rw [if_neg hc,if_neg hc,look_append,hq];exact hi
end Go.Proofs.YtplejbgafjpomaaGreatDoor.Sx
