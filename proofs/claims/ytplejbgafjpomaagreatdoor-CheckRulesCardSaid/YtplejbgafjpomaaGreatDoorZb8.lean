import Derived.Test.YtplejbgafjpomaaGreatDoorZb7
set_option linter.unusedVariables false
set_option linter.unusedSimpArgs false
namespace Go.Proofs.YtplejbgafjpomaaGreatDoor.Sx
open Go.RowKit
def ownId (hp:Heap) (id:Nat):Bool:=match look hp id with |some x=>x.isOwn |none=>false
def inIds (ρ:Map) (b:Nat):List Nat->Bool
 | []=>false
 |id::r=>((ρ id).isSome&&Nat.beq (ρ.blk id) b) ||inIds ρ b r
theorem inIds_iff {ρ:Map} {b:Nat}:∀ {l:List Nat},inIds ρ b l=true ↔ ∃ id∈l,(ρ id).isSome=true /\ ρ.blk id=b
 | []=>by simp [inIds]
 |id::r=>by
  simp only [inIds,Bool.or_eq_true,Bool.and_eq_true,inIds_iff (l:=r),List.mem_cons];constructor
  ·rintro (⟨h1,h2⟩ |⟨j,hj,h⟩)
   ·exact ⟨id,.inl rfl,h1,Nat.eq_of_beq_eq_true h2⟩
   ·exact ⟨j,.inr hj,h⟩
  ·rintro ⟨j,rfl |hj,h1,h2⟩
   ·exact .inl ⟨h1,by rw [h2];exact Nat.beq_refl b⟩
   ·exact .inr ⟨j,hj,h1,h2⟩
def cellsAt (w:World) (b:Nat):Option (Array Value):=match w.heap[b]? with |some (.cells cs _ _)=>some cs |_=>none
def passF (ρ:Map) (w:World) (ids:List Nat):Fz:=fun b=>match ρ.fz b with |some cs=>some cs |none=>if inIds ρ b ids then cellsAt w b else none
theorem passF_le (ρ:Map) (w:World) (ids:List Nat):FzLe ρ.fz (passF ρ w ids):=fun b cs h=>by unfold passF;rw [h]
theorem WH.tabP {w0:W0} {ρ:Map} {h:Heap} {w:World} (hw:WH w0 ρ h w) (ids:List Nat):TabF (passF ρ w ids):=by
 have h1:=hw.tab;rw [<- hw.f00] at h1;exact (h1.mono hw.sub).mono (passF_le ρ w ids)
theorem cellsAt_some {w:World} {b:Nat} {cs:Array Value} (h:cellsAt w b=some cs):∃ T z,w.heap[b]? = some (.cells cs T z):=by
 unfold cellsAt at h
 split at h
 ·rename_i cs' T z hh;obtain rfl:=by simpa using h
  exact ⟨T,z,hh⟩
 ·cases h
theorem passF_some {ρ:Map} {w:World} {ids:List Nat} {b:Nat} {cs:Array Value} (h:passF ρ w ids b=some cs):ρ.fz b=some cs ∨ ((∃ id∈ids,(ρ id).isSome=true /\ ρ.blk id=b)/\∃ T z,w.heap[b]? = some (.cells cs T z)):=by
 unfold passF at h
 split at h
 ·rename_i cs' hc;exact .inl (by rw [hc];exact h)
 ·split at h
  ·rename_i hi;exact .inr ⟨inIds_iff.1 hi,cellsAt_some h⟩
  ·cases h
theorem passF_froz {ρ:Map} {w:World} (hz:Frozen ρ w) {ids:List Nat} {b:Nat} {cs:Array Value} (h:passF ρ w ids b=some cs):∃ T z,w.heap[b]? = some (.cells cs T z):=by
 rcases passF_some h with h |⟨_,h⟩
 ·exact hz b cs h
 ·exact h
theorem passF_at {ρ:Map} {w:World} (hz:Frozen ρ w) {ids:List Nat} {id:Nat} (hi:id∈ids) (hs:(ρ id).isSome=true) {cs:Array Value} {T:TypeId} {z:Nat × Nat} (hh:w.heap[ρ.blk id]? = some (.cells cs T z)):passF ρ w ids (ρ.blk id)=some cs:=by
 unfold passF;split
 ·rename_i cs' hc;obtain ⟨T',z',hh'⟩:=hz _ _ hc;rw [hh] at hh';simp only [Option.some.injEq,Obj.cells.injEq] at hh';rw [hh'.1]
 ·rw [if_pos (inIds_iff.2 ⟨id,hi,hs,rfl⟩)];unfold cellsAt;rw [hh]
def idsC:SC->List Nat | .slice id _ _=>[id] | .osl _ id _ _=>[id] |_=>[]
def idsS:List Seg->List Nat
 | []=>[]
 | .c x::r=>idsC x++idsS r
 | .ints .. :: r=>idsS r
def idsV:V1->List Nat | .sc x=>idsC x | .agg l=>idsS l
def idsT:List V1->List Nat
 | []=>[]
 |x::r=>idsV x++idsT r
def idsSV:SV->List Nat | .one x=>idsV x | .tup l=>idsT l |_=>[]
def keepOwn (hp:Heap):List Nat->List Nat
 | []=>[]
 |id::r=>if ownId hp id then id::keepOwn hp r else keepOwn hp r
theorem keepOwn_mem {hp:Heap}:∀ {l:List Nat} {id:Nat},id∈keepOwn hp l↔id∈l/\ownId hp id=true
 | [],id=>by simp [keepOwn]
 |j::r,id=>by
  simp only [keepOwn];split
  ·rename_i h;simp only [List.mem_cons,keepOwn_mem (l:=r)];constructor
   ·rintro (rfl |⟨a,b⟩)
    ·exact ⟨.inl rfl,h⟩
    ·exact ⟨.inr a,b⟩
   ·rintro ⟨rfl |a,b⟩
    ·exact .inl rfl
    ·exact .inr ⟨a,b⟩
  ·rename_i h;rw [keepOwn_mem (l:=r),List.mem_cons];constructor
   ·rintro ⟨a,b⟩;exact ⟨.inr a,b⟩
   ·rintro ⟨rfl |a,b⟩
    ·exact absurd b h
    ·exact ⟨a,b⟩
theorem conE_rel {hp:Heap} {e:TypeId} {c:SC} {d:D} {ps:List Prop} (h:conE hp e c=some (d,ps)) (hps:All ps) {w0:W0} {w:World} {ρ:Map} (hw:WH w0 ρ hp w) {v:Value} (hv:CRel ρ c v) {ids:List Nat} (hids:∀ id∈idsC c,ownId hp id=true->id∈ids):TRel (passF ρ w ids) (.slice e) d v:=by
 unfold conE at h
 split at h
 ·obtain ⟨rfl,rfl⟩:=by simpa using h
  obtain rfl:v=_:=hv;exact .nil _ _ rfl
 ·rename_i e' d'
  split at h
  ·rename_i he;obtain rfl:=Nat.eq_of_beq_eq_true he;obtain ⟨rfl,rfl⟩:=by simpa using h
   exact TRel.mono (passF_le ρ w ids) hv
  ·cases h
 ·rename_i e' id lo n
  split at h
  ·rename_i he;obtain rfl:=Nat.eq_of_beq_eq_true he
   split at h
   ·rename_i e'' d' hl
    split at h
    ·rename_i he';obtain rfl:=Nat.eq_of_beq_eq_true he';obtain ⟨rfl,rfl⟩:=by simpa using h
     obtain ⟨hle,_⟩:=hps;obtain ⟨A,cp,rfl,hc,hA⟩:=hv;have hlen:(d'.sub lo.v (lo.v+n.v)).len=n.v:=by rw [D.sub_len _ hle];omega
     rcases hA with ⟨hc0,hsp⟩ |⟨rfl,hcap,hid⟩
     ·have hn:n.v=0:=by omega
      cases A with
      |none=>
       rw [hn,hc0];exact .nil _ _ (by rw [Nat.add_zero,D.sub_len _ (by omega)];omega)
      |some a=>
       have:a=⟨a.block,a.off,none⟩:=by have:=hsp a rfl;cases a;simp_all
       rw [show Value.slice (some a) n.v cp=Value.slice (some ⟨a.block,a.off,none⟩) (d'.sub lo.v (lo.v+n.v)).len cp by rw [hlen,<- this]];exact .slice _ _ _ _ _ (fun _ _=>undef) (by omega) (fun i j hi _=>by omega) (fun i j k hi _=>by omega)
     ·rcases hw.ents id _ hl with ⟨g0,_⟩ |⟨_,_,_,cs,hh,hsz,hd,hcs⟩
      ·rw [g0] at hid;cases hid
      ·have hF:=passF_at hw.froz (hids id (by simp [idsC]) (by simp [ownId,hl,Ent.isOwn])) hid hh;rw [show Value.slice (some ⟨ρ.blk id,lo.v*(eks e).length,none⟩) n.v cp=Value.slice (some ⟨ρ.blk id,lo.v*(eks e).length,none⟩) (d'.sub lo.v (lo.v+n.v)).len cp by rw [hlen]];have key:∀ i j,i<n.v->∀ k,(eks e)[j]? = some k->∃ u,cs[lo.v*(eks e).length+i*(eks e).length+j]? = some u/\TRel ρ.fz k ((d'.sub lo.v (lo.v+n.v)).el i j) u:=fun i j hi k hk=>by
        obtain ⟨u,hu,ht⟩:=hcs (lo.v+i) j k (by omega) hk;refine ⟨u,?_,?_⟩
        ·rw [<- hu];congr 1;rw [Nat.add_mul]
        ·rw [D.sub_el _ (by omega)];exact ht
       refine .slice _ _ _ _ _ (fun i j=>(cs[lo.v*(eks e).length+i*(eks e).length+j]?).getD undef) (by omega) (fun i j hi hj=>?_) (fun i j k hi hk=>?_)
       ·obtain ⟨u,hu,_⟩:=key i j (by omega) _ (List.getElem?_eq_getElem hj);simp only [Fz.cell,hF,hu,Option.getD_some]
       ·obtain ⟨u,hu,ht⟩:=key i j (by omega) k hk;simp only [hu,Option.getD_some];exact ht.mono (passF_le ρ w ids)
    ·cases h
   ·cases h
  ·cases h
 ·cases h
def kills:List Nat->Heap
 | []=>[]
 |id::r=>(id,.gone)::kills r
theorem kills_look:∀ {l:List Nat} {id:Nat} {x:Ent},look (kills l) id=some x->x = .gone/\id∈l
 | [],id,x,h=>by simp [kills,look] at h
 |j::r,id,x,h=>by
  simp only [kills,look] at h
  split at h
  ·rename_i hj;exact ⟨(by simpa using h.symm),by rw [show j=id by simpa using hj];exact List.mem_cons_self ..⟩
  ·obtain ⟨h1,h2⟩:=kills_look h;exact ⟨h1,List.mem_cons_of_mem _ h2⟩
theorem kills_mem:∀ {l:List Nat} {id:Nat},id∈l->look (kills l) id=some .gone
 | [],id,h=>by cases h
 |j::r,id,h=>by
  simp only [kills,look];split
  ·rfl
  ·rename_i hj
   rcases List.mem_cons.1 h with rfl |h
   ·exact absurd (by simp) hj
   ·exact kills_mem h
def Map.frz (ρ:Map) (w:World) (ids:List Nat):Map:={ρ with fz:=passF ρ w ids}
theorem fr_freeze {B:Nat} {ρ:Map} {w:World} (_hz:Frozen ρ w) (ids:List Nat) (sv:SV) (vc:List Prop):Fr B ρ (ρ.frz w ids) w w {val:=sv,vc:=vc,st:=kills ids}:=by
 refine ⟨⟨fun _ _ h=>h,fun _ _=>rfl,passF_le ρ w ids,rfl,rfl⟩,fun _ _=>rfl,Below.refl 0 w,fun _ _ _=>rfl,fun id x hx=>by rw [(kills_look hx).1];trivial,fun _ _ h=>by simp [look] at h,fun _ _ _ _ h=>by simp [look] at h,fun b cs hc=>?_,rfl⟩
 rcases passF_some hc with h |⟨⟨id,hi,hs,hb⟩,hh⟩
 ·exact .inl h
 ·exact .inr ⟨.inr ⟨id,kills_mem hi,hs,hb.symm⟩,hh,fun _ _ h=>by simp [look] at h⟩
theorem stOK_kills {hp:Heap} {ids:List Nat}:∀ id x,look (kills (keepOwn hp ids)) id=some x->x.okSt=true/\look ([]:Heap) id=none/\∃ y,look hp id=some y/\y.isOwn=true:=fun id x hx=>by
 obtain ⟨rfl,hi⟩:=kills_look hx;obtain ⟨_,ho⟩:=keepOwn_mem.1 hi;refine ⟨rfl,rfl,?_⟩;unfold ownId at ho
 split at ho
 ·rename_i y hy;exact ⟨y,hy,ho⟩
 ·cases ho
def isLit (E len:Nat):List (Nat × Nat)->Bool
 | []=>false
 |(t,m)::r=>(Nat.beq t E&&Nat.ble m len) ||isLit E len r
def sBSliceG (tt:TT) (fr:Nat) (t:TypeId) (len:Nat) (pv:List (Nat × SV)):Option Eff:=
 match uD tt t with
 |some (.slice E)=>if isLit E len litTs then (match elT tt E with
  |some x=>if Nat.ble (len*x.ks.length) 16777216 then (match fillS (fun i=>some (i*x.ks.length,x.ks.length)) (List.replicate len x.zero).flatten pv with
   |some (l,ps)=>(match toDs x.zero x.ks with
    |some _=>some {val:=.one (.sc (.slice fr (.lit 0) (.lit len))),vc:=ps,nw:=[(fr,.own E l)]}
    |none=>none)
   |none=>none) else none
  |none=>none) else none
 |_=>none
theorem sBSliceG_spec {P:Program} {tt:TT} (htt:TTOK P tt) {fr:Nat} {t:TypeId} {len:Nat} {pv:List (Nat × SV)} {e:Eff} (h:sBSliceG tt fr t len pv=some e) (hvc:All e.vc) {ρ:Map} {w0:W0} {w:World} (hB:w0.heap.size<=w.heap.size) (hz:Frozen ρ w) (hfr:∀ id x,look e.nw id=some x -> ρ id=none)
 {parts:Array (Nat × Value)} (hl:pv.length=parts.toList.length) (hv:∀ (i:Nat) a b,pv[i]? = some a->parts.toList[i]? = some b->a.1=b.1/\UR ρ a.2 b.2) :
 ∃ v w',(Instr.buildSlice t len parts).run P w = .ok v w'/\UR (ρ.set fr (w.heap.size,0)) e.val v/\Fr w0.heap.size ρ (ρ.set fr (w.heap.size,0)) w w' e:=by
 unfold sBSliceG at h
 split at h
 ·rename_i E hT;obtain ⟨d,hT,hd⟩:=tt_u htt hT;obtain rfl:=u_slice hd
  split at h
  ·split at h
   ·rename_i xi hxi;obtain ⟨g1,g2,i,z,g3,g4,g5,g6,g7⟩:=tt_el htt hxi
    split at h
    ·rename_i hlen;have hlen:=Nat.le_of_ble_eq_true hlen
     split at h
     ·rename_i l ps hf
      split at h
      ·rename_i zd hzd;obtain rfl:=by simpa using h
       have hzr:(zeroValue E).run P w = .ok z w:=by simp [zeroValue,typeInfo,g3,g5]
       have hsz:z.cells.size=xi.ks.length:=by simpa using (toDs_spec hzd (g7 ρ)).2.1
       have hcs:CsRel ρ (cellsOf (List.replicate len xi.zero).flatten) ((Array.range (len*xi.ks.length)).map (z.cells[· % z.cells.size]!)).toList:=by
        rw [<- hsz,rep_cells (by omega)];exact csrel_rep (g7 ρ) len
       obtain ⟨cells',h1,h2⟩:=fillS_spec pv parts.toList _ l ps _ hf hvc hl hv hcs;have hno:¬ len*xi.ks.length>2 ^ 24:=by omega
       refine ⟨.slice (some ⟨w.heap.size,0,none⟩) len len,w.alloc (.cells cells' E),?_,?_,fr_alloc hB hz (hfr fr (.own E l) (by simp [look])) h2 _ _⟩
       ·simp only [Instr.buildSlice,Sem.run_bind,run_underlying hT,Result.andThen_ok,run_sizeOf g3,g4,if_neg hno]
        by_cases h0:len*xi.ks.length=0
        ·have hl0:len=0:=by
          rcases Nat.mul_eq_zero.1 h0 with h |h
          ·exact h
          ·omega
         subst hl0;simp only [if_pos h0,Sem.run_bind,Sem.run_pure,Result.andThen_ok];have e0:((Array.range (0*xi.ks.length)).map fun q=>(#[]:Array Value)[q%(#[]:Array Value).size]!)=((Array.range (0*xi.ks.length)).map (z.cells[· % z.cells.size]!)):=by simp
         rw [e0,h1];rfl
        ·simp only [if_neg h0,Sem.run_bind,hzr,Sem.run_pure,Result.andThen_ok];rw [h1];rfl
       ·refine ⟨some ⟨w.heap.size,0,none⟩,len,rfl,Nat.le_refl _,.inl ⟨by simp [Map.set],?_⟩⟩;simp [Map.at,Map.blk,Map.off,Map.set,SO.v]
      ·cases h
     ·cases h
    ·cases h
   ·cases h
  ·cases h
 ·cases h
def sBS (tt:TT) (fr:Nat) (t:TypeId) (len:Nat) (pv:List (Nat × SV)):Option Eff:=match sBSliceG tt fr t len pv with |some e=>some e |none=>match sBSliceE tt fr t len pv with |some e=>some e |none=>sBSlice tt fr t len pv
theorem sBS_spec {P:Program} {tt:TT} (htt:TTOK P tt) {fr:Nat} {t:TypeId} {len:Nat} {pv:List (Nat × SV)} {e:Eff} (h:sBS tt fr t len pv=some e) (hvc:All e.vc) {ρ:Map} {w0:W0} {w:World} (hB:w0.heap.size<=w.heap.size) (hz:Frozen ρ w) (hfr:∀ id x,look e.nw id=some x -> ρ id=none)
 {parts:Array (Nat × Value)} (hl:pv.length=parts.toList.length) (hv:∀ (i:Nat) a b,pv[i]? = some a->parts.toList[i]? = some b->a.1=b.1/\UR ρ a.2 b.2) :
 ∃ v w' c,(Instr.buildSlice t len parts).run P w = .ok v w'/\UR (ρ.set fr (w.heap.size,0) c) e.val v/\Fr w0.heap.size ρ (ρ.set fr (w.heap.size,0) c) w w' e:=by
 unfold sBS at h
 split at h
 ·rename_i e' hb;simp only [Option.some.injEq] at h;subst h;obtain ⟨v,w',h1,h2,h3⟩:=sBSliceG_spec htt hb hvc hB hz hfr hl hv;exact ⟨v,w',0,h1,h2,h3⟩
 ·split at h
  ·rename_i e' hb;simp only [Option.some.injEq] at h;subst h;exact sBSliceE_spec htt hb hvc hB hz hfr hl hv
  ·obtain ⟨v,w',h1,h2,h3⟩:=sBSlice_spec htt h hvc hB hz hfr hl hv;exact ⟨v,w',0,h1,h2,h3⟩
theorem fr_comp {B:Nat} {ρ ρ2:Map} {w w2:World} {ids:List Nat} {e:Eff} (hz:Frozen ρ w) (h:Fr B (ρ.frz w ids) ρ2 w w2 e) (hst:∀ id x,look e.st id=some x->(ρ id).isSome=true->(ρ.frz w ids).fz (ρ.blk id)=none) (ps:List Prop):Fr B ρ ρ2 w w2 {e with vc:=ps,st:=kills ids++e.st}:=by
 have f:=fr_freeze (B:=B) hz ids .junk [];have hl:∀ id x,look e.st id=some x->∃ y,look (kills ids++e.st) id=some y:=fun id x hx=>by
  rw [look_append]
  cases look (kills ids) id with
  |some y=>exact ⟨y,rfl⟩
  |none=>exact ⟨x,hx⟩
 have hk:∀ b,Killed (ρ.frz w ids) e.st b->Killed ρ (kills ids++e.st) b:=fun b ⟨k,h1,h2,h3⟩=>by
  refine ⟨k,?_,h2,h3⟩;rw [look_append]
  cases hq:look (kills ids) k with
  |some y=>rw [(kills_look hq).1]
  |none=>exact h1
 refine ⟨f.ext.trans h.ext,fun id hid=>h.only id hid,h.below,fun b hb hn=>h.keep b hb fun id x hx hs=>?_,fun id x hx=>?_,fun id x hx=>?_,h.apart,fun b cs hc=>?_,h.kid⟩
 ·obtain ⟨y,hy⟩:=hl id x hx;exact hn id y hy hs
 ·have hx':look (kills ids++e.st) id=some x:=hx;rw [look_append] at hx'
  cases hq:look (kills ids) id with
  |some y=>
   rw [hq] at hx';obtain rfl:=by simpa using hx'
   rw [(kills_look hq).1];trivial
  |none=>rw [hq] at hx';exact h.st id x hx'
 ·obtain ⟨h1,h2,h3⟩:=h.nw id x hx;exact ⟨h1,fun hs=>(h2 hs).imp (fun h=>h) (hk _),h3⟩
 ·rcases h.fz b cs hc with h1 |⟨h1,h2,h3⟩
  ·rcases passF_some h1 with h4 |⟨⟨id,hi,hs,hb⟩,T,z,hh⟩
   ·exact .inl h4
   ·refine .inr ⟨.inr ⟨id,?_,hs,hb.symm⟩,?_,fun i x hx hi' hbb=>?_⟩
    ·show look (kills ids++e.st) id=_;rw [look_append,kills_mem hi]
    ·exact ⟨T,z,by rw [h.keep b (heap_lt hh) (fun k y hy hks hkb=>by
      have:=hst k y hy hks;have hkb':ρ.blk k=b:=hkb;rw [hkb',h1] at this;cases this)];exact hh⟩
    ·obtain ⟨g1,_,g3⟩:=h.nw i x hx;have:=(erel_some g1 (Ent.pl_own g3) hi').1.2;rw [hbb,hc] at this;cases this
  ·exact .inr ⟨h1.imp (fun h=>h) (hk _),h2,h3⟩
theorem csrel_cons {ρ:Map} {a b:List SC} {vs:List Value}:CsRel ρ (a++b) vs ↔ ∃ x y,vs=x++y/\CsRel ρ a x/\CsRel ρ b y:=by
 constructor
 ·intro h;refine ⟨vs.take a.length,vs.drop a.length,by simp,⟨by have:=h.1;simp at this ⊢;omega,fun i x v hx hv=>?_⟩,⟨by have:=h.1;simp at this ⊢;omega,fun i x v hx hv=>?_⟩⟩
  ·have hi:=lt_of_get hx;rw [List.getElem?_take_of_lt hi] at hv;exact h.2 i x v (by rw [List.getElem?_append_left hi];exact hx) hv
  ·rw [List.getElem?_drop] at hv;exact h.2 (a.length+i) x v (by rw [List.getElem?_append_right (by omega)];simpa using hx) hv
 ·rintro ⟨x,y,rfl,h1,h2⟩;exact csrel_append h1 h2
def fzC (hp:Heap):SC->SC × List Prop × List Nat
 | .osl e id lo n=>(match conE hp e (.osl e id lo n) with |some (d,ps)=>(.rows e d,ps,[id]) |none=>(.osl e id lo n,[],[]))
 |x=>(x,[],[])
def fzS (hp:Heap):List Seg->List Seg × List Prop × List Nat
 | []=>([],[],[])
 | .c x::r=>(match fzC hp x,fzS hp r with |(x',ps,is),(r',qs,js)=>(.c x'::r',ps++qs,is++js))
 | .ints k n f::r=>(match fzS hp r with |(r',qs,js)=>(.ints k n f::r',qs,js))
def fzV (hp:Heap):V1->V1 × List Prop × List Nat
 | .sc x=>(match fzC hp x with |(x',r)=>(.sc x',r))
 | .agg a=>(match fzS hp a with |(a',r)=>(.agg a',r))
def fzSV (hp:Heap):SV->SV × List Prop × List Nat
 | .one x=>(match fzV hp x with |(x',r)=>(.one x',r))
 |x=>(x,[],[])
def fzP (hp:Heap):List (Nat × SV)->List (Nat × SV) × List Prop × List Nat
 | []=>([],[],[])
 |(i,x)::r=>(match fzSV hp x,fzP hp r with |(x',ps,is),(r',qs,js)=>((i,x')::r',ps++qs,is++js))
section
variable {hp:Heap} {w0:W0} {w:World} {ρ:Map} {all:List Nat}
theorem fzC_spec (hw:WH w0 ρ hp w) (x:SC) (hp':All (fzC hp x).2.1) (hall:∀ id∈(fzC hp x).2.2,ownId hp id=true->id∈all) {v:Value} (hv:CRel ρ x v):CRel (ρ.frz w all) (fzC hp x).1 v:=by
 have ext:Ext ρ (ρ.frz w all):=(fr_freeze (B:=0) hw.froz all .junk []).ext
 cases x with
 |osl e id lo n=>
  simp only [fzC] at hp' hall ⊢
  cases hc:conE hp e (.osl e id lo n) with
  |some p=>
   obtain ⟨d,ps⟩:=p;rw [hc] at hp' hall;dsimp only at hp' hall ⊢;exact conE_rel hc hp' hw hv (fun i hi ho=>hall i (by simpa [idsC] using hi) ho)
  |none=>exact crel_ext ext hv
 |_=>exact crel_ext ext hv
theorem fzS_spec (hw:WH w0 ρ hp w):∀ (x:List Seg),All (fzS hp x).2.1->(∀ id∈(fzS hp x).2.2,ownId hp id=true->id∈all)->∀ {vs:List Value},CsRel ρ (cellsOf x) vs->CsRel (ρ.frz w all) (cellsOf (fzS hp x).1) vs
 | [],_,_,vs,hv=>csrel_ext (fr_freeze (B:=0) hw.froz all .junk []).ext hv
 | .c x::r,hp',hall,vs,hv=>by
   obtain ⟨hp1,hp2⟩:=all_append.1 (show All ((fzC hp x).2.1++(fzS hp r).2.1) from hp');have hall':∀ id∈(fzC hp x).2.2++(fzS hp r).2.2,ownId hp id=true->id∈all:=hall;show CsRel (ρ.frz w all) (cellsOf (.c (fzC hp x).1::(fzS hp r).1)) vs;rw [cellsOf_cons] at hv ⊢;obtain ⟨u,v,rfl,g1,g2⟩:=csrel_cons.1 hv;refine csrel_append ⟨g1.1,fun i a b ha hb=>?_⟩ (fzS_spec hw r hp2 (fun id hi=>hall' id (List.mem_append_right _ hi)) g2)
   cases i with
   |zero=>
    simp only [Seg.cells,List.getElem?_cons_zero,Option.some.injEq] at ha;subst ha;exact fzC_spec hw x hp1 (fun id hi=>hall' id (List.mem_append_left _ hi)) (g1.2 0 x b (by simp [Seg.cells]) hb)
   |succ i=>simp [Seg.cells] at ha
 | .ints k n f::r,hp',hall,vs,hv=>by
   show CsRel (ρ.frz w all) (cellsOf (.ints k n f::(fzS hp r).1)) vs;rw [cellsOf_cons] at hv ⊢;obtain ⟨u,v,rfl,g1,g2⟩:=csrel_cons.1 hv;exact csrel_append (csrel_ext (fr_freeze (B:=0) hw.froz all .junk []).ext g1) (fzS_spec hw r hp' hall g2)
theorem fzV_spec (hw:WH w0 ρ hp w) (x:V1) (hp':All (fzV hp x).2.1) (hall:∀ id∈(fzV hp x).2.2,ownId hp id=true->id∈all) {v:Value} (hv:V1Rel ρ x v):V1Rel (ρ.frz w all) (fzV hp x).1 v:=by
 cases x with
 |sc c=>exact fzC_spec hw c hp' hall hv
 |agg l=>obtain ⟨cs,rfl,hc⟩:=hv;exact ⟨cs,rfl,fzS_spec hw l hp' hall hc⟩
theorem fzSV_spec (hw:WH w0 ρ hp w) (x:SV) (hp':All (fzSV hp x).2.1) (hall:∀ id∈(fzSV hp x).2.2,ownId hp id=true->id∈all) {v:Value} (hv:UR ρ x v):UR (ρ.frz w all) (fzSV hp x).1 v:=by
 cases x with
 |one c=>exact fzV_spec hw c hp' hall hv
 |tup l=>exact ur_ext (fr_freeze (B:=0) hw.froz all .junk []).ext hv
 |cond=>exact hv.elim
 |junk=>exact hv.elim
theorem fzP_spec (hw:WH w0 ρ hp w):∀ (pv:List (Nat × SV)) (l:List (Nat × Value)),All (fzP hp pv).2.1->(∀ id∈(fzP hp pv).2.2,ownId hp id=true->id∈all)->pv.length=l.length->(∀ (i:Nat) a b,pv[i]? = some a->l[i]? = some b->a.1=b.1/\UR ρ a.2 b.2) ->
 (fzP hp pv).1.length=l.length/\∀ (i:Nat) a b,(fzP hp pv).1[i]? = some a->l[i]? = some b->a.1=b.1/\UR (ρ.frz w all) a.2 b.2
 | [],l,_,_,hl,_=>⟨hl,fun i a b ha=>by simp [fzP] at ha⟩
 |(k,x)::r,[],_,_,hl,_=>by simp at hl
 |(k,x)::r,y::l,hp',hall,hl,hv=>by
  obtain ⟨hp1,hp2⟩:=all_append.1 (show All ((fzSV hp x).2.1++(fzP hp r).2.1) from hp');have hall':∀ id∈(fzSV hp x).2.2++(fzP hp r).2.2,ownId hp id=true->id∈all:=hall;obtain ⟨h1,h2⟩:=fzP_spec hw r l hp2 (fun id hi=>hall' id (List.mem_append_right _ hi)) (by simpa using hl) (fun i a b ha hb=>hv (i+1) a b (by simpa using ha) (by simpa using hb));refine ⟨by show ((k,(fzSV hp x).1)::(fzP hp r).1).length=_;simp [h1],fun i a b ha hb=>?_⟩;have ha':((k,(fzSV hp x).1)::(fzP hp r).1)[i]? = some a:=ha
  cases i with
  |zero=>
   simp only [List.getElem?_cons_zero,Option.some.injEq] at ha' hb;subst ha' hb;obtain ⟨g1,g2⟩:=hv 0 (k,x) y rfl rfl;exact ⟨g1,fzSV_spec hw x hp1 (fun id hi=>hall' id (List.mem_append_left _ hi)) g2⟩
  |succ i=>exact h2 i a b (by simpa using ha') (by simpa using hb)
end
theorem wh_frz {w0:W0} {w:World} {ρ:Map} {hp:Heap} (hw:WH w0 ρ hp w) (ids:List Nat):WH w0 (ρ.frz w (keepOwn hp ids)) (kills (keepOwn hp ids)++hp) w:=by
 have:=wh_step hw (fr_freeze (B:=w0.heap.size) hw.froz (keepOwn hp ids) .junk []) (fun i x hx=>stOK_kills i x hx) (fun _ _ h=>by simp [look] at h);exact this
def sBF (tt:TT) (hp:Heap) (fr:Nat) (t:TypeId) (len:Nat) (pv:List (Nat × SV)):Option Eff:=match sBS tt fr t len pv with
 |some e=>some e
 |none=>(match fzP hp pv with
  |(pv',ps,ids)=>(match sBS tt fr t len pv' with
   |some e=>(match e.st with | []=>some {e with vc:=ps++e.vc,st:=kills (keepOwn hp ids)} |_=>none)
   |none=>none))
theorem sBF_spec {P:Program} {tt:TT} (htt:TTOK P tt) {hp:Heap} {fr:Nat} {t:TypeId} {len:Nat} {pv:List (Nat × SV)} {e:Eff} (h:sBF tt hp fr t len pv=some e) (hvc:All e.vc) {ρ:Map} {w0:W0} {w:World} (hw:WH w0 ρ hp w) (hfr:∀ id x,look e.nw id=some x -> ρ id=none)
 {parts:Array (Nat × Value)} (hl:pv.length=parts.toList.length) (hv:∀ (i:Nat) a b,pv[i]? = some a->parts.toList[i]? = some b->a.1=b.1/\UR ρ a.2 b.2) :
 ∃ v w' ρ',(Instr.buildSlice t len parts).run P w = .ok v w'/\UR ρ' e.val v/\Fr w0.heap.size ρ ρ' w w' e:=by
 unfold sBF at h
 split at h
 ·rename_i e' hb;simp only [Option.some.injEq] at h;subst h;obtain ⟨v,w',c,h1,h2,h3⟩:=sBS_spec htt hb hvc hw.below.size hw.froz hfr hl hv;exact ⟨v,w',_,h1,h2,h3⟩
 ·dsimp only at h
  split at h
  ·rename_i e' hb
   split at h
   ·rename_i hst;obtain rfl:=by simpa using h
    obtain ⟨hp1,hp2⟩:=all_append.1 hvc;obtain ⟨g1,g2⟩:=fzP_spec hw pv parts.toList hp1 (all:=keepOwn hp (fzP hp pv).2.2) (fun id hi ho=>keepOwn_mem.2 ⟨hi,ho⟩) hl hv;obtain ⟨v,w',c,h1,h2,h3⟩:=sBS_spec htt hb hp2 (wh_frz hw (fzP hp pv).2.2).below.size (wh_frz hw (fzP hp pv).2.2).froz hfr g1 g2;refine ⟨v,w',_,h1,h2,?_⟩;have:=fr_comp hw.froz h3 (fun id x hx=>by rw [hst] at hx;simp [look] at hx) ((fzP hp pv).2.1++e'.vc);rw [hst,List.append_nil] at this;exact this
   ·cases h
  ·cases h
def sStoreF (tt:TT) (hp:Heap) (T e:TypeId) (id i j:Nat) (v:V1):Option Eff:=match sStoreE tt hp T e id i j v with
 |some e=>some e
 |none=>(match fzV hp v with
  |(v',ps,ids)=>(match sStoreE tt (kills (keepOwn hp ids)++hp) T e id i j v' with
   |some ef=>some {ef with vc:=ps++ef.vc,st:=kills (keepOwn hp ids)++ef.st}
   |none=>none))
theorem sStoreE_val {tt:TT} {hp:Heap} {T e:TypeId} {id i j:Nat} {v:V1} {ef:Eff} (h:sStoreE tt hp T e id i j v=some ef):ef.val = .tup []/\∃ x,ef.st=[(id,x)]/\∃ y,look hp id=some y/\y.isOwn=true:=by
 unfold sStoreE at h
 split at h
 ·rename_i hl _
  split at h
  ·split at h
   ·obtain rfl:=by simpa using h
    exact ⟨rfl,_,rfl,_,hl,rfl⟩
   ·cases h
  ·cases h
 ·cases h
theorem sStoreF_spec {P:Program} {tt:TT} (htt:TTOK P tt) {hp:Heap} {T e:TypeId} {id i j:Nat} {v:V1} {ef:Eff} (h:sStoreF tt hp T e id i j v=some ef) (hvc:All ef.vc) {ρ:Map} {w0:W0} {w:World} (hw:WH w0 ρ hp w) {pv x:Value} (hp':CRel ρ (.optr e id i j) pv) (hx:V1Rel ρ v x) :
 ∃ a w' ρ',pv = .pointer (some a)/\(storeVar T a x).run P w = .ok () w'/\UR ρ' ef.val undef/\Fr w0.heap.size ρ ρ' w w' ef:=by
 unfold sStoreF at h
 split at h
 ·rename_i e' hb;simp only [Option.some.injEq] at h;subst h;obtain ⟨a,w',g1,g2,_,g4⟩:=sStoreE_spec htt hb hvc hw hp' hx;exact ⟨a,w',ρ,g1,g2,by rw [(sStoreE_val hb).1];exact ⟨#[],rfl,trivial⟩,g4⟩
 ·dsimp only at h
  split at h
  ·rename_i e' hb;obtain rfl:=by simpa using h
   obtain ⟨hp1,hp2⟩:=all_append.1 hvc;have hw1:=wh_frz hw (fzV hp v).2.2;have hp1':CRel (ρ.frz w (keepOwn hp (fzV hp v).2.2)) (.optr e id i j) pv:=hp';obtain ⟨a,w',g1,g2,_,g4⟩:=sStoreE_spec htt hb hp2 hw1 hp1' (fzV_spec hw v hp1 (all:=keepOwn hp (fzV hp v).2.2) (fun i hi ho=>keepOwn_mem.2 ⟨hi,ho⟩) hx);obtain ⟨q1,y,q2,z,q3,q4⟩:=sStoreE_val hb;refine ⟨a,w',_,g1,g2,by rw [show ({e' with vc:=(fzV hp v).2.1++e'.vc,st:=kills (keepOwn hp (fzV hp v).2.2)++e'.st}:Eff).val=_ from q1];exact ⟨#[],rfl,trivial⟩,fr_comp hw.froz g4 (fun k x' hx' hs=>?_) _⟩;rw [q2] at hx';simp only [look] at hx'
   split at hx'
   ·rename_i hk;obtain rfl:id=k:=by simpa using hk
    exact (erel_some (hw1.ents _ _ q3) q4 hs).1.2
   ·cases hx'
  ·cases h
def sFn (tt:TT) (ag:Bool) (e:TypeId) (p:List D->Bool) (ok:List D->Prop):List SV->Option Eff
 | [x]=>(match ksT tt e,ag,x with
   |some ks,true,.one (.agg l)=>(match takeDs l ks with |some (ds,[])=>some {val:=.one (.sc (.bool (.sym (p ds)))),vc:=[ok ds]} |_=>none)
   |some [k],false,.one (.sc x)=>(match scD k x with |some d=>some {val:=.one (.sc (.bool (.sym (p [d])))),vc:=[ok [d]]} |none=>none)
   |_,_,_=>none)
 |_=>none
theorem sFn_spec {P:Program} {tt:TT} (htt:TTOK P tt) {ag:Bool} {e:TypeId} {p:List D->Bool} {ok:List D->Prop} {l:List SV} {ef:Eff} (h:sFn tt ag e p ok l=some ef) (hvc:All ef.vc) {ρ:Map} {hp:Heap} {w0:W0} {w:World} (hw:WH w0 ρ hp w) {v:Value} (hv:CRel ρ (.fn ag e p ok) v) {vs:List Value} (ha:ArgsRel ρ l vs) :
 ∃ g cap,v = .func (.func g) #[] cap/\(∀ (args:Array Value) (w:World),(callFunc g args).run P w = .ok (.enter g args) w)/\Calls P g (vs.toArray++cap) w fun en w'=>∃ v',en = .returned v'/\UR ρ ef.val v'/\Fr w0.heap.size ρ ρ w w' ef:=by
 obtain ⟨z,hz,g,cap,rfl,hen,hq⟩:=hv;have key:∀ (ks:List K) (ds:List D) (x:SV) (l':List SV) (b:Bool),ksT tt e=some ks->l=x::l'->l'=[]->(∀ u,UR ρ x u->ElVal ρ.fz ag e ds u)->b=p ds->ok ds->ef = {val:=.one (.sc (.bool (.sym b))),vc:=[ok ds]} ->
  ∃ g' cap',Value.func (.func g) #[] cap = .func (.func g') #[] cap'/\(∀ (args:Array Value) (w:World),(callFunc g' args).run P w = .ok (.enter g' args) w)/\Calls P g' (vs.toArray++cap') w fun en w'=>∃ v',en = .returned v'/\UR ρ ef.val v'/\Fr w0.heap.size ρ ρ w w' ef:=by
  intro ks ds x l' b hks hl hl' hx hb hok hef;subst hl hl' hb hef;obtain rfl:=tt_pr htt hks
  match vs,ha with
  | [u],ha=>
    refine ⟨g,cap,rfl,hen,(hq w ρ.fz ds u hz hw.froz (hx u ha.1) hok).mono ?_⟩;rintro en w' ⟨rfl,hb⟩;refine ⟨_,rfl,rfl,Ext.refl ρ,fun _ _=>rfl,⟨hb.os,hb.tape,hb.output,hb.size,fun k hk=>absurd hk (Nat.not_lt_zero k)⟩,fun k hk _=>hb.block k hk,fun _ _ h=>by simp [look] at h,fun _ _ h=>by simp [look] at h,fun _ _ _ _ h=>by simp [look] at h,fun _ _ h=>.inl h,rfl⟩
 unfold sFn at h
 split at h
 ·rename_i x
  split at h
  ·rename_i ks l0 hks
   split at h
   ·rename_i ds htk;obtain rfl:=by simpa using h
    refine key ks ds _ _ _ hks rfl rfl (fun u hu=>?_) rfl hvc.1 rfl;obtain ⟨cs,rfl,hcs⟩:=hu;obtain ⟨h1,h2,h3,h4⟩:=takeDs_spec _ _ _ _ htk _ hcs;obtain ⟨he,_,_⟩:=tt_ks htt hks;have hl:=h4.1;simp only [cellsOf,List.flatMap_nil,List.length_nil,List.length_drop] at hl;exact ⟨cs.toList,by simp,by rw [he];omega,fun j k hk=>by rw [he] at hk;exact h3 j k hk⟩
   ·cases h
  ·rename_i k x0 hks
   split at h
   ·rename_i d hd;obtain rfl:=by simpa using h
    obtain ⟨he,_,_⟩:=tt_ks htt hks;exact key [k] [d] _ _ _ hks rfl rfl (fun u hu=>⟨k,he,scD_spec hd hu⟩) rfl hvc.1 rfl
   ·cases h
  ·cases h
 ·cases h
def seff (tt:TT) (C:Cons) (hp:Heap) (ev:Operand->Option SV) (fr:Nat) (op:Op):Option Eff:=
 match op with
 | .alloc T=>(match zeroT tt T with
   |some l=>some {val:=.one (.sc (.ptr fr (.lit 0))),vc:=[],nw:=[(fr,.own T l)]}
   |none=>none)
 | .box T x=>(match ev x with
   |some (.one v)=>if v.ok then some {val:=.one (.sc (.ptr fr (.lit 0))),vc:=[],nw:=[(fr,.own T v.segs)]} else none
   |_=>none)
 | .store T a x=>(match ev a,ev x with
   |some (.one (.sc (.ptr id o))),some (.one v)=>(match look hp id,szT tt T with
    |some e,some i=>if okSegs v.segs&&v.ok&&Nat.beq (segsSz v.segs) i then
      (match e.segs with
      |some l=>(match wr1 l o v.segs with
       |some (l',ps)=>(match e.put l' with |some e'=>some {val:=.tup [],vc:=ps,st:=[(id,e')]} |none=>none)
       |none=>none)
      |none=>none) else none
    |_,_=>none)
   |some (.one (.sc (.optr e id i j))),some (.one v)=>sStoreF tt hp T e id i j v
   |_,_=>none)
 | .call {callee:=.value f,args,..}=>(match calleeOf ev f,evs ev args.toList with
   |some f,some l=>(match C f with |some c=>c hp fr l |none=>none)
   |none,some l=>(match ev f with |some (.one (.sc (.fn ag e p ok)))=>sFn tt ag e p ok l |some (.one (.sc (.bm g id)))=>(match C g with |some c=>c hp fr (.one (.sc (.ptr id (.lit 0)))::l) |none=>none) |_=>none)
   |_,_=>none)
 | .call {callee:=.builtin .append,args,argTypes}=>(match args.toList,argTypes.toList with
   | [x,y],[T,T']=>if Nat.beq T T' then (match ev x,ev y with |some a,some b=>sAppend tt hp fr T a b |_,_=>none) else none
   |_,_=>none)
 | .makeSlice t l c=>(match ev l,ev c with |some a,some b=>sMake tt fr t a b |_,_=>none)
 | .call {callee:=.builtin .copy,args,argTypes}=>(match args.toList,argTypes.toList with
   | [x,y],T::_=>(match ev x,ev y with |some a,some b=>sCp tt hp T a b |_,_=>none)
   |_,_=>none)
 | .buildSlice t len parts=>(match evp ev parts.toList with |some pv=>sBF tt hp fr t len pv |none=>none)
 | .makeFunc fn first captured=>(match spure tt hp ev (.makeFunc fn first captured) with
   |some (v,ps)=>some {val:=v,vc:=ps}
   |none=>if Nat.beq first.size 0 then (match fn,evs ev captured.toList with
    | .func g,some l=>(match C g with |some c=>c hp fr (.junk::l) |none=>none)
    |_,_=>none) else none)
 |op=>(match spure tt hp ev op with |some (v,ps)=>some {val:=v,vc:=ps} |none=>none)
theorem args_rel {ρ:Map} {E:Operand->Value} {ev:Operand->Option SV} (hE:EvOK ρ E ev):∀ (l:List Operand) svs,evs ev l=some svs->ArgsRel ρ svs (l.map E)
 | [],svs,h=>by
   simp only [evs,Option.some.injEq] at h;subst h;trivial
 |x::l,svs,h=>by
  simp only [evs] at h
  split at h
  ·rename_i a r hx hr;obtain rfl:=by simpa using h
   exact ⟨hE x a hx,args_rel hE l r hr⟩
  ·cases h
theorem callee_val {ρ:Map} {E:Operand->Value} (hEf:∀ f,E (.func f) = .func (.func f) #[] #[]) {ev:Operand->Option SV} (hE:EvOK ρ E ev) {x:Operand} {f:FuncId} (h:calleeOf ev x=some f):E x = .func (.func f) #[] #[]:=by
 have key:fnOfSV (ev x)=some f->E x = .func (.func f) #[] #[]:=fun h=>by
  unfold fnOfSV at h
  split at h
  ·rename_i g a b heq
   split at h
   ·rename_i hb;simp only [Bool.and_eq_true] at hb;obtain rfl:=by simpa using h
    have h1:a=#[]:=Array.eq_empty_of_size_eq_zero (Nat.eq_of_beq_eq_true hb.1);have h2:b=#[]:=Array.eq_empty_of_size_eq_zero (Nat.eq_of_beq_eq_true hb.2);subst h1 h2;exact hE x _ heq
   ·cases h
  ·cases h
 cases x with
 |func g=>
  simp only [calleeOf,Option.some.injEq] at h;subst h;exact hEf g
 |_=>exact key h
theorem seff_spec {P:Program} {tt:TT} (htt:TTOK P tt) {C:Cons} (hC:CtxOK P C) {hp:Heap} {ev:Operand->Option SV} {fr:Nat} {o:Oper} {e:Eff} (h:seff tt C hp ev fr o.op=some e) (hvc:All e.vc) {ρ:Map} {a:Act} (hE:EvOK ρ a.eval ev) {w0:W0} {w:World} (hw:WH w0 ρ hp w)
 (hfr:∀ id x,look e.nw id=some x -> ρ id=none) {K:Act->World->Prop} {Q:Exit->Act->World->Prop} (hK:∀ ρ' w' v,UR ρ' e.val v->Fr w0.heap.size ρ ρ' w w' e->K (a.put o.dst v) w'):o.wp P a w K Q:=by
 have hB:w0.heap.size<=w.heap.size:=hw.below.size;have pureCase:∀ {sv:SV} {ps:List Prop},spure tt hp ev o.op=some (sv,ps)->e = {val:=sv,vc:=ps}->o.wp P a w K Q:=by
  intro sv ps hs he;subst he;obtain ⟨v,h1,h2⟩:=spure_spec htt hs hvc hE hw;unfold Oper.wp;rw [h1];exact hK ρ w v h2 (fr_none _ _)
 obtain ⟨dst,op,ty,pos,after,guard⟩:=o;dsimp only at h hK pureCase;have viaPure:(match spure tt hp ev op with |some (v,ps)=>some ({val:=v,vc:=ps}:Eff) |none=>none)=some e->Oper.wp P {dst:=dst,op:=op,type:=ty,pos:=pos,after:=after,guard:=guard} a w K Q:=fun h=>by
  split at h
  ·rename_i v ps hs;exact pureCase hs (by simpa using h.symm)
  ·cases h
 unfold seff at h
 split at h
 ·
  rename_i T
  split at h
  ·rename_i l hl;obtain rfl:=by simpa using h
   obtain ⟨i,z,hi,hz,hc⟩:=tt_zero htt hl;have hzv:(zeroValue T).run P w = .ok z w:=by simp [zeroValue,typeInfo,hi,hz]
   have hrun:(execOp a.eval {dst:=dst,op:=.alloc T,type:=ty,pos:=pos,after:=after,guard:=guard}).run P w = .ok (.value (.pointer (some ⟨w.heap.size,0,none⟩))) (w.alloc (.cells z.cells T)):=by
    simp only [execOp,Instr.alloc,Sem.run_bind,hzv,Result.andThen_ok];rfl
   unfold Oper.wp;rw [hrun];refine hK (ρ.set fr (w.heap.size,0)) _ _ ?_ (fr_alloc hB hw.froz (hfr fr (.own T l) (by simp [look])) (hc ρ) _ _)
   refine ⟨by simp [Map.set],?_⟩;simp [Map.at,Map.blk,Map.off,Map.set,SO.v]
  ·cases h
 ·
  rename_i T x
  split at h
  ·rename_i v hv
   split at h
   ·rename_i hok;obtain rfl:=by simpa using h
    have hx:=hE _ _ hv;have hc:=v1_cells hx hok;have hrun:(execOp a.eval {dst:=dst,op:=.box T x,type:=ty,pos:=pos,after:=after,guard:=guard}).run P w = .ok (.value (.pointer (some ⟨w.heap.size,0,none⟩))) (w.alloc (.cells (a.eval x).cells T)):=by
     simp only [execOp,Instr.box,Sem.run_bind];rfl
    unfold Oper.wp;rw [hrun];refine hK (ρ.set fr (w.heap.size,0)) _ _ ?_ (fr_alloc hB hw.froz (hfr fr (.own T v.segs) (by simp [look])) hc _ _)
    refine ⟨by simp [Map.set],?_⟩;simp [Map.at,Map.blk,Map.off,Map.set,SO.v]
   ·cases h
  ·cases h
 ·
  rename_i T p x
  split at h
  ·rename_i id o v hp' hv
   split at h
   ·rename_i en i0 hen hi0;obtain ⟨i,hi,rfl⟩:=tt_sz htt hi0
    split at h
    ·rename_i hok;simp only [Bool.and_eq_true] at hok
     split at h
     ·rename_i l hl
      split at h
      ·rename_i l' ps hwr
       split at h
       ·rename_i en' hput;obtain rfl:=by simpa using h
        have hpx:=hE _ _ hp';have hx:=hE _ _ hv;obtain ⟨_,hpx⟩:=hpx;have hc:=v1_cells hx hok.1.2;have h1:=okSegs_cells v.segs _ hok.1.1 hc;have hsz:(a.eval x).cells.size=i.size:=by
         have g1:=hc.1;have g2:(cellsOf v.segs).length=segsSz v.segs:=by
          cases hs:v.segs with
          |nil=>simp [cellsOf,segsSz]
          |cons s r=>rw [hs] at hwr;exact wrs_szs _ _ _ _ hwr
         have g3:=Nat.eq_of_beq_eq_true hok.2;simp at g1;omega
        obtain ⟨w',g1,g2⟩:=store_run (P:=P) hw rfl hen hl hwr hvc hput hc h1;have hrun:(execOp a.eval {dst:=dst,op:=.store T p x,type:=ty,pos:=pos,after:=after,guard:=guard}).run P w = .ok .skip w':=by
         simp only [execOp,Instr.storeAt,Sem.run_bind,hpx,Instr.sureAddr,Sem.run_pure,Result.andThen_ok,storeVar,run_sizeOf hi,hsz,ne_eq,not_true_eq_false,↓reduceIte];rw [g1];rfl
        unfold Oper.wp;rw [hrun];exact hK ρ w' undef ⟨#[],rfl,trivial⟩ g2
       ·cases h
      ·cases h
     ·cases h
    ·cases h
   ·cases h
  ·rename_i el id i j v hp' hv;obtain ⟨A,w',ρ',g1,g2,g3,g4⟩:=sStoreF_spec htt h hvc hw (hE _ _ hp') (hE _ _ hv);have hrun:(execOp a.eval {dst:=dst,op:=.store T p x,type:=ty,pos:=pos,after:=after,guard:=guard}).run P w = .ok .skip w':=by
    simp only [execOp,Instr.storeAt,Sem.run_bind,g1,Instr.sureAddr,Sem.run_pure,Result.andThen_ok];rw [g2];rfl
   unfold Oper.wp;rw [hrun];exact hK ρ' w' undef g3 g4
  ·cases h
 ·
  rename_i f args ats
  split at h
  ·rename_i g l hg hl
   split at h
   ·rename_i c hc;have hok:=hC g c hc;have hf:=callee_val (fun _=>rfl) hE hg;have hargs:=args_rel hE _ _ hl;have hcall:=hok.calls hp fr l e h hvc w0 w ρ _ hw hfr hargs;have hrun:(execOp a.eval {dst:=dst,op:=.call {callee:=.value f,args:=args,argTypes:=ats},type:=ty,pos:=pos,after:=after,guard:=guard}).run P w = .ok (.enter g (args.toList.map a.eval).toArray) w:=by
     have e1:(#[]++args.map a.eval++#[]:Array Value)=(args.toList.map a.eval).toArray:=by apply Array.toList_inj.1;simp
     have:=hok.enters (#[]++args.map a.eval++#[]) w;rw [e1] at this;simp only [execOp,resolve,hf,Sem.run_bind,Deferred.ofValue,Sem.run_pure,Result.andThen_ok,invoke];rw [<- this,<- e1]
    unfold Oper.wp;rw [hrun];refine hcall.mono ?_
    rintro en w' ⟨ρ',v,rfl,h1,h2⟩;exact hK ρ' w' v h1 h2
   ·cases h
  ·rename_i l _ hl
   split at h
   ·rename_i ag e0 p ok hf;obtain ⟨g,cap,hv,hen,hcall⟩:=sFn_spec htt h hvc hw (hE _ _ hf) (args_rel hE _ _ hl);have hrun:(execOp a.eval {dst:=dst,op:=.call {callee:=.value f,args:=args,argTypes:=ats},type:=ty,pos:=pos,after:=after,guard:=guard}).run P w = .ok (.enter g ((args.toList.map a.eval).toArray++cap)) w:=by
     have e1:(#[]++args.map a.eval++cap:Array Value)=(args.toList.map a.eval).toArray++cap:=by apply Array.toList_inj.1;simp
     have:=hen (#[]++args.map a.eval++cap) w;rw [e1] at this;simp only [execOp,resolve,hv,Sem.run_bind,Deferred.ofValue,Sem.run_pure,Result.andThen_ok,invoke];rw [<- this,<- e1]
    unfold Oper.wp;rw [hrun];refine hcall.mono ?_
    rintro en w' ⟨v,rfl,h1,h2⟩;exact hK ρ w' v h1 h2
   ·rename_i g id hf
    split at h
    ·rename_i c hc;have hok:=hC g c hc;obtain ⟨hid,hv⟩:=hE _ _ hf;have hargs:ArgsRel ρ (.one (.sc (.ptr id (.lit 0)))::l) (.pointer (some (ρ.at id 0))::args.toList.map a.eval):=⟨⟨hid,rfl⟩,args_rel hE _ _ hl⟩;have hcall:=hok.calls hp fr _ e h hvc w0 w ρ _ hw hfr hargs;have hrun:(execOp a.eval {dst:=dst,op:=.call {callee:=.value f,args:=args,argTypes:=ats},type:=ty,pos:=pos,after:=after,guard:=guard}).run P w = .ok (.enter g (.pointer (some (ρ.at id 0))::args.toList.map a.eval).toArray) w:=by
      have e1:(#[.pointer (some (ρ.at id 0))]++args.map a.eval++#[]:Array Value)=(.pointer (some (ρ.at id 0))::args.toList.map a.eval).toArray:=by apply Array.toList_inj.1;simp
      have:=hok.enters (#[.pointer (some (ρ.at id 0))]++args.map a.eval++#[]) w;rw [e1] at this;simp only [execOp,resolve,hv,Sem.run_bind,Deferred.ofValue,Sem.run_pure,Result.andThen_ok,invoke];rw [<- this,<- e1]
     unfold Oper.wp;rw [hrun];refine hcall.mono ?_
     rintro en w' ⟨ρ',v,rfl,h1,h2⟩;exact hK ρ' w' v h1 h2
    ·cases h
   ·cases h
  ·cases h
 ·
  rename_i args ats
  split at h
  ·rename_i x y T T' hxy hat
   split at h
   ·rename_i hTT;obtain rfl:=Nat.eq_of_beq_eq_true hTT
    split at h
    ·rename_i a' b' hxa hyb;obtain ⟨v,w',ρ',h1,h2,h3⟩:=sAppend_spec htt h hvc hw hfr (hE _ _ hxa) (hE _ _ hyb) ty;have hmap:args.map a.eval=#[a.eval x,a.eval y]:=by apply Array.toList_inj.1;simp [hxy]
     have hats:ats=#[T,T]:=by apply Array.toList_inj.1;simp [hat]
     have hrun:(execOp a.eval {dst:=dst,op:=.call {callee:=.builtin .append,args:=args,argTypes:=ats},type:=ty,pos:=pos,after:=after,guard:=guard}).run P w = .ok (.value v) w':=by
      show ((do pure (.value (<- Builtin.append_ ats ty (args.map a.eval))):Sem Next)).run P w=_;rw [hmap,hats,Sem.run_bind,h1];rfl
     unfold Oper.wp;rw [hrun];exact hK ρ' w' v h2 h3
    ·cases h
   ·cases h
  ·cases h
 ·
  rename_i t l c
  split at h
  ·rename_i a' b' hxa hyb;obtain ⟨v,w',c',h1,h2,h3⟩:=sMake_spec htt h hvc hB hw.froz hfr (hE _ _ hxa) (hE _ _ hyb);have hrun:(execOp a.eval {dst:=dst,op:=.makeSlice t l c,type:=ty,pos:=pos,after:=after,guard:=guard}).run P w = .ok (.value v) w':=by
    show ((do pure (.value (<- Instr.makeSlice t (a.eval l) (a.eval c))):Sem Next)).run P w=_;rw [Sem.run_bind,h1];rfl
   unfold Oper.wp;rw [hrun];exact hK _ w' v h2 h3
  ·cases h
 ·
  rename_i args ats
  split at h
  ·rename_i x y T r hxy hat
   split at h
   ·rename_i a' b' hxa hyb;obtain ⟨v,w',h1,h2,h3⟩:=sCp_spec htt h hvc hw (hE _ _ hxa) (hE _ _ hyb) (ats:=ats) (by rw [<- Array.getElem?_toList,hat];rfl) ty;have hmap:args.map a.eval=#[a.eval x,a.eval y]:=by apply Array.toList_inj.1;simp [hxy]
    have hrun:(execOp a.eval {dst:=dst,op:=.call {callee:=.builtin .copy,args:=args,argTypes:=ats},type:=ty,pos:=pos,after:=after,guard:=guard}).run P w = .ok (.value v) w':=by
     show ((do pure (.value (<- Builtin.copy_ ats ty (args.map a.eval))):Sem Next)).run P w=_;rw [hmap,Sem.run_bind,h1];rfl
    unfold Oper.wp;rw [hrun];exact hK ρ w' v h2 h3
   ·cases h
  ·cases h
 ·
  rename_i t len parts
  split at h
  ·rename_i pv hpv;obtain ⟨e1,e2⟩:=evp_spec hE _ _ hpv;obtain ⟨v,w',ρ',h1,h2,h3⟩:=sBF_spec htt h hvc hw hfr (parts:=parts.map fun (i,x)=>(i,a.eval x)) (by simpa using e1) (by simpa using e2);have hrun:(execOp a.eval {dst:=dst,op:=.buildSlice t len parts,type:=ty,pos:=pos,after:=after,guard:=guard}).run P w = .ok (.value v) w':=by
    show ((do pure (.value (<- Instr.buildSlice t len (parts.map fun (i,x)=>(i,a.eval x)))):Sem Next)).run P w=_;rw [Sem.run_bind,h1];rfl
   unfold Oper.wp;rw [hrun];exact hK _ w' v h2 h3
  ·cases h
 ·
  rename_i fn first captured
  split at h
  ·rename_i sv ps hs;exact pureCase hs (by simpa using h.symm)
  ·split at h
   ·rename_i hb
    split at h
    ·rename_i g l hl _
     split at h
     ·rename_i c hc;have h1:first=#[]:=Array.eq_empty_of_size_eq_zero (Nat.eq_of_beq_eq_true hb);subst h1;obtain ⟨ρ',g1,g2⟩:=(hC g c hc).clo hp fr l e h hvc w0 w ρ _ hw (args_rel hE _ _ hl);have e1:(captured.toList.map a.eval).toArray=captured.map a.eval:=by apply Array.toList_inj.1;simp
      rw [e1] at g1;have hrun:(execOp a.eval {dst:=dst,op:=.makeFunc (.func g) #[] captured,type:=ty,pos:=pos,after:=after,guard:=guard}).run P w = .ok (.value (.func (.func g) #[] (captured.map a.eval))) w:=by
       simp [execOp,Instr.makeFunc]
      unfold Oper.wp;rw [hrun];exact hK ρ' w _ g1 g2
     ·cases h
    ·cases h
   ·cases h
 ·exact viaPure h
structure Stp (w0:W0) (hp:Heap) (ρ ρ':Map) (w w':World) (e:Eff):Prop where
 ext:Ext ρ ρ'
 only:∀ id,look e.nw id=none -> ρ' id=ρ id
 mem:∀ hp2,WH w0 ρ hp2 w->(∀ id y,look hp id=some y->y = .gone ∨ look hp2 id=some y)->WH w0 ρ' (e.st++(e.nw++hp2)) w'
theorem stp_fr {w0:W0} {hp:Heap} {ρ ρ':Map} {w w':World} {e:Eff} (hf:Fr w0.heap.size ρ ρ' w w' e) (hst:stOK hp e.nw e.st=true) (hnw:∀ id x,look e.nw id=some x -> ρ id=none):Stp w0 hp ρ ρ' w w' e:=
 ⟨hf.ext,hf.only,fun hp2 hw hs=>wh_step hw hf (fun id x hx=>by
   obtain ⟨g1,g0,y,g2,g3⟩:=stOK_spec hst id x hx;refine ⟨g1,g0,y,?_,g3⟩
   rcases hs id y g2 with rfl |h
   ·cases g3
   ·exact h) hnw⟩
theorem lin_sub {B:Nat} {ρ:Map} {h k:Heap} {w:World} (hl:Lin B ρ h w) (hs:∀ id e,look k id=some e->e = .gone ∨ look h id=some e):Lin B ρ k w:=fun id c e d g hk hi i b cap hkid=>by
 rcases hs id _ hk with h0 |h1
 ·cases h0
 obtain ⟨c1,c2,c3,c4,c5⟩:=hl id c e d g h1 hi i b cap hkid;refine ⟨c1,c2,c3,fun j f hj hjo hji=>?_,fun j c' e2 d' g' q cap' hj hji hjk=>?_⟩
 ·rcases hs j f hj with rfl |h2
  ·cases hjo
  ·exact c4 j f h2 hjo hji
 ·rcases hs j _ hj with h0 |h2
  ·cases h0
  ·exact c5 j c' e2 d' g' q cap' h2 hji hjk
theorem wh_sub2 {w0:W0} {w:World} {ρ:Map} {h k:Heap} (hw:WH w0 ρ h w) (hs:∀ id e,look k id=some e->e = .gone ∨ look h id=some e):WH w0 ρ k w:=
 ⟨hw.below,fun id e he=>by
   rcases hs id e he with rfl |h'
   ·trivial
   ·exact hw.ents id e h',fun i j e f hi hj a b c=>by
   rcases hs i e hi with rfl |h1
   ·cases a
   ·rcases hs j f hj with rfl |h2
    ·cases b
    ·exact hw.apart i j e f h1 h2 a b c,hw.froz,hw.sub,hw.mu0,hw.f00,hw.old,hw.anc,hw.tab,lin_sub hw.lin hs⟩
theorem wh_ren {w0:W0} {w:World} {ρ ρ':Map} {h:Heap} (hw:WH w0 ρ h w) (hx:Ext ρ ρ') (hz:ρ'.fz=ρ.fz) (hs:∀ id e,look h id=some e->e ≠ .gone -> ρ' id=ρ id/\(e.isOwn=true -> ρ'.kid id=ρ.kid id)):WH w0 ρ' h w:=by
 have ng:∀ {e:Ent},e.isOwn=true->e ≠ .gone:=fun h e=>by subst e;cases h
 have nblk:∀ id e,look h id=some e->e ≠ .gone -> ρ'.blk id=ρ.blk id:=fun id e he hg=>by unfold Map.blk;rw [(hs id e he hg).1]
 refine ⟨by rw [hx.mu];exact hw.below,fun id e he=>?_,fun i j e f hi hj a b c d1 d2=>?_,fun b cs hb=>hw.froz b cs (by rw [<- hz];exact hb),by rw [hx.f0,hz];exact hw.sub,hx.mu.trans hw.mu0,hx.f0.trans hw.f00,fun b cs hb=>by rw [hx.f0,hx.mu];exact hw.old b cs (by rw [<- hz];exact hb),fun p hp=>hx.m 0 p (hw.anc p hp),hw.tab,?_⟩
 ·by_cases hg:e = .gone
  ·subst hg;trivial
  ·obtain ⟨g1,g2⟩:=hs id e he hg;exact erel_keep hx g1 g2 (fun ho hi=>by rw [hz];exact (erel_some (hw.ents id e he) ho hi).1.2) (hw.ents id e he) fun _ _=>rfl
 ·rw [nblk i e hi (ng a),nblk j f hj (ng b)];exact hw.apart i j e f hi hj a b c (by rw [<- (hs i e hi (ng a)).1];exact d1) (by rw [<- (hs j f hj (ng b)).1];exact d2)
 ·intro id c e d g hl hi i b cap hk;obtain ⟨g1,g2⟩:=hs id _ hl (fun h=>by cases h);rw [g2 rfl] at hk;obtain ⟨c1,c2,c3,c4,c5⟩:=hw.lin id c e d g hl (by rw [<- g1];exact hi) i b cap hk;refine ⟨⟨by rw [hx.mu];exact c1.1,by rw [hz];exact c1.2⟩,c2,fun e' h1 h2 h3=>rowAt_mono hx.fz rfl (c3 e' h1 h2 h3),fun j f hj hjo hji=>?_,fun j c' e2 d' g' q cap' hj hji hjk=>?_⟩
  ·rw [nblk j f hj (ng hjo)];exact c4 j f hj hjo (by rw [<- (hs j f hj (ng hjo)).1];exact hji)
  ·obtain ⟨k1,k2⟩:=hs j _ hj (fun h=>by cases h);rw [k2 rfl] at hjk;exact c5 j c' e2 d' g' q cap' hj (by rw [<- k1];exact hji) hjk
theorem wh_put {w0:W0} {w:World} {ρ:Map} {h:Heap} (hw:WH w0 ρ h w) {id:Nat} {x:Ent} (hx:ERel w0.heap.size ρ w id x)
 (h2:∀ j f,j≠id->look h j=some f->f.isOwn=true->(ρ j).isSome=true->(ρ id).isSome=true -> ρ.blk j≠ρ.blk id)
 (h3:∀ j c e d g k cp,j≠id->look h j=some (.nrow c e d g)->(ρ j).isSome=true->(ρ id).isSome=true -> ρ.kid j k≠some (ρ.blk id,cp))
 (h4:∀ c e d g,x = .nrow c e d g->(ρ id).isSome=true->∀ k b cp,ρ.kid id k=some (b,cp)->Mine w0.heap.size ρ b/\b<w.heap.size/\(∀ e',(eks e)[c]? = some (.slice e')->k<d.len->holeAt g k=none->RowAt ρ w b cp e' (d.el k c)) /\ ρ.blk id≠b /\
   (∀ j f,j≠id->look h j=some f->f.isOwn=true->(ρ j).isSome=true -> ρ.blk j≠b)/\(∀ j c' e' d' g' k' cp',j≠id->look h j=some (.nrow c' e' d' g')->(ρ j).isSome=true -> ρ.kid j k'≠some (b,cp'))/\(∀ k' cp',ρ.kid id k'=some (b,cp')->k'=k)) :
 WH w0 ρ ((id,x)::h) w:=by
 have lk:∀ j f,look ((id,x)::h) j=some f->(j=id/\f=x) ∨ (j≠id/\look h j=some f):=fun j f hj=>by
  simp only [look] at hj
  split at hj
  ·rename_i hij;exact .inl ⟨(by simpa using hij:id=j).symm,by simpa using hj.symm⟩
  ·rename_i hij;exact .inr ⟨fun e=>hij (by simp [e]),hj⟩
 refine ⟨hw.below,fun j f hj=>?_,fun i j e f hi hj a b hne d1 d2=>?_,hw.froz,hw.sub,hw.mu0,hw.f00,hw.old,hw.anc,hw.tab,?_⟩
 ·rcases lk j f hj with ⟨rfl,rfl⟩ |⟨_,h'⟩
  ·exact hx
  ·exact hw.ents j f h'
 ·rcases lk i e hi with ⟨rfl,rfl⟩ |⟨n1,k1⟩<;>rcases lk j f hj with ⟨rfl,rfl⟩ |⟨n2,k2⟩
  ·exact absurd rfl hne
  ·exact (h2 j f n2 k2 b d2 d1).symm
  ·exact h2 i e n1 k1 a d1 d2
  ·exact hw.apart i j e f k1 k2 a b hne d1 d2
 ·intro j c e d g hj hi i b cap hk
  rcases lk j _ hj with ⟨rfl,rfl⟩ |⟨n1,k1⟩
  ·obtain ⟨c1,c2,c3,c0,c4,c5,c6⟩:=h4 c e d g rfl hi i b cap hk;refine ⟨c1,c2,c3,fun q f hq hqo hqi=>?_,fun q c' e2 d' g' r cap' hq hqi hqk=>?_⟩
   ·rcases lk q f hq with ⟨rfl,_⟩ |⟨n2,k2⟩
    ·exact c0
    ·exact c4 q f n2 k2 hqo hqi
   ·rcases lk q _ hq with ⟨rfl,_⟩ |⟨n2,k2⟩
    ·exact ⟨rfl,c6 r cap' hqk⟩
    ·exact absurd hqk (c5 q c' e2 d' g' r cap' n2 k2 hqi)
  ·obtain ⟨c1,c2,c3,c4,c5⟩:=hw.lin j c e d g k1 hi i b cap hk;refine ⟨c1,c2,c3,fun q f hq hqo hqi=>?_,fun q c' e2 d' g' r cap' hq hqi hqk=>?_⟩
   ·rcases lk q f hq with ⟨rfl,rfl⟩ |⟨n2,k2⟩
    ·intro hb;exact h3 j c e d g i cap n1 k1 hi hqi (by rw [hb];exact hk)
    ·exact c4 q f k2 hqo hqi
   ·rcases lk q _ hq with ⟨rfl,hqx⟩ |⟨n2,k2⟩
    ·obtain ⟨_,_,_,_,_,c6,_⟩:=h4 c' e2 d' g' hqx.symm hqi r b cap' hqk;exact absurd hk (c6 j c e d g i cap n1 k1 hi)
    ·exact c5 q c' e2 d' g' r cap' k2 hqi hqk
theorem wh_kill {w0:W0} {w w':World} {ρ:Map} {h:Heap} {ids:List Nat} (hw:WH w0 ρ h w) (hids:∀ id∈ids,∃ y,look h id=some y/\y.isOwn=true) (hb:Below 0 w w') (hk:∀ b,b<w.heap.size->(∀ id∈ids,(ρ id).isSome=true -> ρ.blk id≠b)->w'.heap[b]? = w.heap[b]?):WH w0 ρ (kills ids++h) w':=by
 have hf:Fr w0.heap.size ρ ρ w w' {val:=.junk,vc:=[],st:=kills ids}:=⟨Ext.refl ρ,fun _ _=>rfl,hb,fun b hlt hn=>hk b hlt fun id hi hs=>hn id .gone (kills_mem hi) hs,fun id x hx=>by rw [(kills_look hx).1];trivial,fun _ _ h=>by simp [look] at h,fun _ _ _ _ h=>by simp [look] at h,fun _ _ h=>.inl h,rfl⟩;exact wh_step hw hf (fun id x hx=>by
  obtain ⟨rfl,hi⟩:=kills_look hx;exact ⟨rfl,rfl,hids id hi⟩) (fun _ _ h=>by simp [look] at h)
def Map.add (ρ:Map) (fr:Nat) (p:Nat × Nat) (c:Nat) (kd:Nat->Option (Nat × Nat)):Map:={ρ with m:=fun j=>if j=fr then some p else ρ j,cap:=fun j=>if j=fr then c else ρ.cap j,kid:=fun j=>if j=fr then kd else ρ.kid j}
theorem add_at (ρ:Map) (fr:Nat) (p:Nat × Nat) (c:Nat) (kd:Nat->Option (Nat × Nat)):(ρ.add fr p c kd) fr=some p/\(ρ.add fr p c kd).cap fr=c/\(ρ.add fr p c kd).kid fr=kd/\(ρ.add fr p c kd).blk fr=p.1/\(ρ.add fr p c kd).off fr=p.2:=by
 simp [Map.add,Map.blk,Map.off]
theorem add_ne {ρ:Map} {fr j:Nat} (h:j≠fr) (p:Nat × Nat) (c:Nat) (kd:Nat->Option (Nat × Nat)):(ρ.add fr p c kd) j=ρ j/\(ρ.add fr p c kd).cap j=ρ.cap j/\(ρ.add fr p c kd).kid j=ρ.kid j/\(ρ.add fr p c kd).blk j=ρ.blk j:=by
 simp [Map.add,Map.blk,h]
theorem add_ext {ρ:Map} {fr:Nat} (h:ρ fr=none) (p:Nat × Nat) (c:Nat) (kd:Nat->Option (Nat × Nat)):Ext ρ (ρ.add fr p c kd):=by
 have key:∀ j,(ρ j).isSome=true->j≠fr:=fun j hj e=>by subst e;rw [h] at hj;cases hj
 refine ⟨fun j q hq=>?_,fun j hj=>?_,fun _ _ hc=>hc,rfl,rfl⟩
 ·rw [(add_ne (key j (by rw [hq];rfl)) p c kd).1];exact hq
 ·exact (add_ne (key j hj) p c kd).2.1
theorem napp_raw {P:Program} {w:World} (t ty e:TypeId) (i:TypeInfo) (z:Value) (sz:Nat) (ht:P.underlying t=some (.slice e)) (hi:P.info? e=some i) (hz:i.zero=some z) (hzs:z.cells.size=sz) (his:i.size=sz)
 {A:Option Addr} {n c:Nat} (hA:(c=0/\n=0) ∨ ∃ b cs cap,A=some ⟨b,0,none⟩/\w.heap[b]? = some (.cells cs e (0,0))/\cs.size=cap*sz/\c<=cap/\n<=c)
 {b2 c2:Nat} {news:List Value} (hl:news.length=sz) (hf:∀ (q:Nat) u,news[q]? = some u->w.cell? ⟨b2,q,none⟩=some u) (h1:∀ v∈news,v.oneCell'=true) (hby:(n+1)*i.bytes<=140737488355328) (hb:0<i.bytes) :
 ∃ w' b' cs' cap' cc',(Builtin.append_ #[t,t] ty #[.slice A n c,.slice (some ⟨b2,0,none⟩) 1 c2]).run P w = .ok (.slice (some ⟨b',0,none⟩) (n+1) cc') w'/\n+1<=cc'/\cc'<=cap'/\w'.heap[b']? = some (.cells cs' e (0,0))/\cs'.size=cap'*sz /\
   (∀ b cs,A=some ⟨b,0,none⟩->c≠0->w.heap[b]? = some (.cells cs e (0,0))->∀ q,q<n*sz->cs'[q]? = cs[q]?)/\(∀ q,q<sz->cs'[n*sz+q]? = news[q]?)/\Below 0 w w' /\
   (∀ k,k<w.heap.size->(c≠0->A≠some ⟨k,0,none⟩)->w'.heap[k]? = w.heap[k]?)/\(b'=w.heap.size ∨ (c≠0/\A=some ⟨b',0,none⟩)):=by
 have hln:news.length=1*i.size:=by rw [his,Nat.one_mul];exact hl
 have hf':∀ (j:Nat) v,news[j]? = some v->w.cell? ((⟨b2,0,none⟩:Addr).add j)=some v:=fun j v hv=>by
  rw [addr_add,Nat.zero_add];exact hf j v hv
 have hbn:n+1<=(n+1)*i.bytes:=Nat.le_mul_of_pos_right _ hb;have hns:(n+1)*sz=n*sz+sz:=by rw [Nat.add_mul,Nat.one_mul]
 by_cases hfit:n+1<=c
 ·have hc0:c≠0:=by omega
  obtain ⟨b,cs,cap,rfl,hh,hsz,hcap,hnc⟩:=hA.resolve_left fun h=>hc0 h.1
  have hroom:n*sz+news.length<=cs.size:=by
   rw [hl,hsz,<- hns];exact Nat.mul_le_mul_right _ (by omega)
  have hst:=run_storeCells_at P b (n*sz) e news 0 cs w hh (by omega) h1;simp only [Nat.add_zero] at hst;have hap:∀ (p:Nat),(cs.toList.take (n*sz)++news++cs.toList.drop (n*sz+news.length)).toArray[p]? = if n*sz<=p/\p<n*sz+news.length then news[p-n*sz]? else cs[p]?:=fun p=>by
   have:=over_get (l:=cs.toList) (m:=news) (o:=n*sz) (by simpa using hroom) p;unfold over at this;rw [List.getElem?_toArray,this];split<;>simp
  refine ⟨_,b,_,cap,c,run_append_fit t ty e i ht hi _ _ n c 1 c2 news hln (fun q u hu=>⟨_,rfl,hf' q u hu⟩) hfit (w':=w.setRow b (cs.toList.take (n*sz)++news++cs.toList.drop (n*sz+news.length)).toArray) (by rw [his];simp only [addr_add,Nat.zero_add];exact hst),hfit,hcap,setRow_heap _ _ _ _ _ _ hh,?_,fun b' cs' hb' _ hh' q hq=>?_,fun q hq=>?_,⟨rfl,rfl,rfl,by simp,fun k hk=>absurd hk (Nat.not_lt_zero k)⟩,fun k hk hne=>?_,.inr ⟨hc0,rfl⟩⟩
  ·simp;omega
  ·have:b=b':=by simpa using hb'
   subst this;rw [hh] at hh';have:cs=cs':=by simpa using hh'
   subst this;rw [hap,if_neg (by omega)]
  ·rw [hap,if_pos (by omega),Nat.add_sub_cancel_left]
  ·exact setRow_other _ _ _ _ (fun e'=>hne hc0 (by rw [e']))
 ·
  obtain ⟨olds,o1,o2,o3,o4⟩:∃ olds:List Value,olds.length=n*sz/\(∀ (q:Nat) u,olds[q]? = some u->∃ a,A=some a/\w.cell? (a.add q)=some u)/\(A=none->c=0/\n=0)/\∀ b cs,A=some ⟨b,0,none⟩->c≠0->w.heap[b]? = some (.cells cs e (0,0))->∀ q,q<n*sz->olds[q]? = cs[q]?:=by
   rcases hA with ⟨hc0,hn0⟩ |⟨b,cs,cap,rfl,hh,hsz,hcap,hnc⟩
   ·exact ⟨[],by simp [hn0],fun q u hu=>by simp at hu,fun _=>⟨hc0,hn0⟩,fun b cs _ h _=>absurd hc0 h⟩
   ·have hle:n*sz<=cs.size:=by rw [hsz];exact Nat.mul_le_mul_right _ (by omega)
    refine ⟨cs.toList.take (n*sz),by simp;omega,fun q u hu=>⟨_,rfl,?_⟩,fun h=>(by cases h),fun b' cs' hb' _ hh' q hq=>?_⟩
    ·have hq:q<n*sz:=by
      have:=lt_of_get hu;simp at this;omega
     rw [List.getElem?_take_of_lt hq] at hu;rw [addr_add];simp only [World.cell?,hh,Nat.zero_add]
     simpa using hu
    ·have:b=b':=by simpa using hb'
     subst this;rw [hh] at hh';have:cs=cs':=by simpa using hh'
     subst this;rw [List.getElem?_take_of_lt hq,Array.getElem?_toList]
  have hrun:∃ old:Nat,(Builtin.append_ #[t,t] ty #[.slice A n c,.slice (some ⟨b2,0,none⟩) 1 c2]).run P w = .ok (.slice (some ⟨w.heap.size,0,none⟩) (n+1) (grownCap w (n+1) old e)) (w.drew.alloc (.cells (olds.toArray++news.toArray++Builtin.zeroCells z.cells (grownCap w (n+1) old e-(n+1))) e)):=by
   cases A with
   |none=>
    obtain ⟨rfl,rfl⟩:=o3 rfl;have ho:olds=[]:=List.length_eq_zero_iff.1 (by rw [o1];simp);subst ho;refine ⟨0,?_⟩;have:=run_append_nil (P:=P) (w:=w) t ty e i z ht hi hz ⟨b2,0,none⟩ 1 c2 news hln hf' (by omega) (by omega) (by rw [Nat.zero_add] at hby;omega)
    simpa using this
   |some a1=>
    refine ⟨c,?_⟩;exact run_append_grow (P:=P) (w:=w) t ty e i z ht hi hz a1 n c olds (by rw [his];exact o1) (fun j v hv=>by
     obtain ⟨a,ha,hc⟩:=o2 j v hv;obtain rfl:=by simpa using ha
     exact hc) ⟨b2,0,none⟩ 1 c2 news hln hf' (by omega) (by omega) (growslice_fits (by omega) hby)
  obtain ⟨old,hrun⟩:=hrun;have hge:=grownCap_le w (n+1) old e;have hs:(olds.toArray++news.toArray++Builtin.zeroCells z.cells (grownCap w (n+1) old e-(n+1))).size=grownCap w (n+1) old e*sz:=by
   simp only [Array.size_append,List.size_toArray,o1,hl,size_zeroCells,hzs];have:grownCap w (n+1) old e=(n+1)+(grownCap w (n+1) old e-(n+1)):=by omega
   rw [this,Nat.add_mul,hns]
   congr 2;omega
  refine ⟨_,w.heap.size,_,grownCap w (n+1) old e,_,hrun,hge,Nat.le_refl _,?_,hs,fun b' cs' hb' hc hh' q hq=>?_,fun q hq=>?_,?_,fun k hk _=>?_,.inl rfl⟩
  ·show (w.heap.push _)[w.heap.size]? = _
   simp
  ·rw [<- o4 b' cs' hb' hc hh' q hq,Array.append_assoc,Array.getElem?_append_left (by simp [o1];omega),List.getElem?_toArray]
  ·rw [Array.append_assoc,Array.getElem?_append_right (by simp [o1]),List.size_toArray,o1,Nat.add_sub_cancel_left,Array.getElem?_append_left (by simp [hl];omega),List.getElem?_toArray]
  ·have:=below0_alloc w.drew (.cells (olds.toArray++news.toArray++Builtin.zeroCells z.cells (grownCap w (n+1) old e-(n+1))) e);exact ⟨this.os,this.tape,this.output,this.size,this.block⟩
  ·exact Below.heap_alloc _ _ _ hk
theorem kills_one (id:Nat):kills [id]=[(id,.gone)]:=rfl
theorem wh_upd {w0:W0} {ρ:Map} {h:Heap} {w w':World} (hw:WH w0 ρ h w) {id c:Nat} {e:TypeId} {d d':D} {g g':Option (Nat × Nat × Nat)} (hl:look h id=some (.nrow c e d g)) (hid:(ρ id).isSome=true) (hb:Below 0 w w') (hk:∀ b,b<w.heap.size -> ρ.blk id≠b->w'.heap[b]? = w.heap[b]?)
 (hx:ERel w0.heap.size ρ w' id (.nrow c e d' g')) (hlen:d'.len=d.len) (hel:∀ k,k<d.len->holeAt g' k=none->d'.el k c=d.el k c) (hg:∀ k,holeAt g' k=none->holeAt g k=none):WH w0 ρ ((id,.nrow c e d' g')::h) w':=by
 have wk:=wh_kill (ids:=[id]) hw (fun i hi=>by
  obtain rfl:i=id:=by simpa using hi
  exact ⟨_,hl,rfl⟩) hb fun b hlt hne=>hk b hlt (hne id (by simp) hid)
 rw [kills_one] at wk;have lk:∀ j f,j≠id->look ([(id,Ent.gone)]++h) j=some f->look h j=some f:=fun j f hne hj=>by
  simp only [List.singleton_append,look] at hj;rw [if_neg (by simpa using (Ne.symm hne))] at hj;exact hj
 have wp:=wh_put wk (id:=id) (x:=.nrow c e d' g') hx (fun j f hne hj ho hji _=>hw.apart j id f _ (lk j f hne hj) hl ho rfl hne hji hid)
  (fun j c2 e2 d2 g2 k cp hne hj hji _ hkk=>(hw.lin j c2 e2 d2 g2 (lk j _ hne hj) hji k _ cp hkk).2.2.2.1 id _ hl rfl hid rfl)
  (fun c2 e2 d2 g2 hxx _ k b cp hkk=>by
    obtain ⟨rfl,rfl,rfl,rfl⟩:=by simpa using hxx
    obtain ⟨c1,c2,c3,c4,c5⟩:=hw.lin id _ _ d g hl hid k b cp hkk;have hne:=c4 id _ hl rfl hid;refine ⟨c1,Nat.lt_of_lt_of_le c2 hb.size,fun e' h1 h2 h3=>?_,hne,fun j f hj hl2 ho hji=>c4 j f (lk j f hj hl2) ho hji,fun j c' e' d3 g3 k' cp' hj hl2 hji hk2=>hj (c5 j c' e' d3 g3 k' cp' (lk j _ hj hl2) hji hk2).1,fun k' cp' hk2=>(c5 id _ _ d g k' cp' hl hid hk2).2⟩;rw [hel k (by rw [<- hlen];exact h2) h3];exact rowAt_mono (fun _ _ h=>h) (hk b c2 hne) (c3 e' h1 (by rw [<- hlen];exact h2) (hg k h3)))
 refine wh_sub2 wp fun i f hi=>.inr ?_
 simp only [look] at hi ⊢
 split at hi
 ·rename_i hq;rw [if_pos hq];exact hi
 ·rename_i hq;rw [if_neg hq];simp only [List.singleton_append,look];rw [if_neg hq];exact hi
theorem wh_new {w0:W0} {ρ:Map} {h:Heap} {w w':World} {ids:List Nat} (hw:WH w0 ρ h w) (hids:∀ i∈ids,∃ y,look h i=some y/\y.isOwn=true) (hb:Below 0 w w') {fr bf cf c:Nat} {e:TypeId} {d:D} {g:Option (Nat × Nat × Nat)} {kd:Nat->Option (Nat × Nat)} (hfr:ρ fr=none)
 (hk:∀ b,b<w.heap.size->(∀ i∈ids,(ρ i).isSome=true -> ρ.blk i≠b)->w'.heap[b]? = w.heap[b]?) (hbf:bf=w.heap.size ∨ ∃ i∈ids,(ρ i).isSome=true/\bf=ρ.blk i)
 (hx:ERel w0.heap.size (ρ.add fr (bf,0) cf kd) w' fr (.nrow c e d g))
 (hkd:∀ k b cp,kd k=some (b,cp)->∃ i k0 e0 d0 g0,i∈ids/\look h i=some (.nrow c e0 d0 g0)/\(ρ i).isSome=true /\ ρ.kid i k0=some (b,cp)/\(∀ e',(eks e)[c]? = some (.slice e')->k<d.len->holeAt g k=none->RowAt ρ w b cp e' (d.el k c)))
 (hinj:∀ k k' b cp cp',kd k=some (b,cp)->kd k'=some (b,cp')->k'=k):WH w0 (ρ.add fr (bf,0) cf kd) (kills ids++((fr,.nrow c e d g)::h)) w':=by
 obtain ⟨a1,a2,a3,a4,a5⟩:=add_at ρ fr (bf,0) cf kd;have ext:=add_ext hfr (bf,0) cf kd;have wk:=wh_kill (ids:=ids) hw hids hb hk;have wk2:WH w0 ρ ((fr,.gone)::(kills ids++h)) w':=wh_sub2 wk fun i f hi=>by
  simp only [look] at hi
  split at hi
  ·exact .inl (by simpa using hi.symm)
  ·exact .inr hi
 have wr:=wh_ren (ρ':=ρ.add fr (bf,0) cf kd) wk2 ext rfl fun i f hi hg=>by
  simp only [look] at hi
  split at hi
  ·exact absurd (by simpa using hi.symm) hg
  ·rename_i hq;have hne:i≠fr:=fun e=>hq (by simp [e])
   obtain ⟨q1,_,q3,_⟩:=add_ne hne (bf,0) cf kd (ρ:=ρ);exact ⟨q1,fun _=>q3⟩
 have lk:∀ j f,j≠fr->look ((fr,Ent.gone)::(kills ids++h)) j=some f->f.isOwn=true->look h j=some f/\j ∉ ids:=fun j f hne hj ho=>by
  simp only [look] at hj;rw [if_neg (by simpa using (Ne.symm hne)),look_append] at hj
  cases hq:look (kills ids) j with
  |some y=>
   rw [hq] at hj;obtain rfl:=by simpa using hj
   rw [(kills_look hq).1] at ho;cases ho
  |none=>
   rw [hq] at hj;refine ⟨hj,fun hi=>?_⟩;rw [kills_mem hi] at hq;cases hq
 have hsz:=hb.size;have ne':∀ {j:Nat} {f:Ent},look h j=some f->f.isOwn=true->(ρ j).isSome=true->j ∉ ids -> ρ.blk j≠bf:=fun {j f} hj ho hji hni=>by
  rcases hbf with rfl |⟨i,hi,his,rfl⟩
  ·have:=(erel_some (hw.ents j f hj) ho hji).2;omega
  ·obtain ⟨y,hy,hyo⟩:=hids i hi;exact hw.apart j i f y hj hy ho hyo (fun e=>hni (by rw [e];exact hi)) hji his
 have kid_ne:∀ {j c2 e2 d2 g2 k b cp},look h j=some (.nrow c2 e2 d2 g2)->(ρ j).isSome=true -> ρ.kid j k=some (b,cp)->bf≠b:=fun {j c2 e2 d2 g2 k b cp} hj hji hk2=>by
  obtain ⟨_,c2',_,c4,_⟩:=hw.lin j _ _ _ _ hj hji k b cp hk2
  rcases hbf with rfl |⟨i,hi,his,rfl⟩
  ·omega
  ·obtain ⟨y,hy,hyo⟩:=hids i hi;exact c4 i y hy hyo his
 have wp:=wh_put wr (id:=fr) (x:=.nrow c e d g) hx (fun j f hne hj ho hji _=>by
  obtain ⟨h1,h2⟩:=lk j f hne hj ho;obtain ⟨q1,_,_,q4⟩:=add_ne hne (bf,0) cf kd (ρ:=ρ);rw [q1] at hji;rw [q4,a4];exact ne' h1 ho hji h2)
  (fun j c2 e2 d2 g2 k cp hne hj hji _ hkk=>by
    obtain ⟨h1,h2⟩:=lk j _ hne hj rfl;obtain ⟨q1,_,q3,_⟩:=add_ne hne (bf,0) cf kd (ρ:=ρ);rw [q1] at hji;rw [q3,a4] at hkk;exact kid_ne h1 hji hkk rfl)
  (fun c2 e2 d2 g2 hxx _ k b cp hkk=>by
    obtain ⟨rfl,rfl,rfl,rfl⟩:=by simpa using hxx
    rw [a3] at hkk;obtain ⟨i,k0,e0,d0,g0,hi,hli,his,hki,hrow⟩:=hkd k b cp hkk;obtain ⟨c1,c2,c3,c4,c5⟩:=hw.lin i _ e0 d0 g0 hli his k0 b cp hki;have hkeep:w'.heap[b]? = w.heap[b]?:=hk b c2 fun i' hi' his'=>by
     obtain ⟨y,hy,hyo⟩:=hids i' hi';exact c4 i' y hy hyo his'
    refine ⟨c1,Nat.lt_of_lt_of_le c2 hsz,fun e' h1 h2 h3=>rowAt_mono (fun _ _ h=>h) hkeep (hrow e' h1 h2 h3),?_,fun j f hj hl2 ho hji=>?_,fun j c' e' d3 g3 k' cp' hj hl2 hji hk2=>?_,fun k' cp' hk2=>?_⟩
    ·rw [a4];exact kid_ne hli his hki
    ·obtain ⟨h1,h2⟩:=lk j f hj hl2 ho;obtain ⟨q1,_,_,q4⟩:=add_ne hj (bf,0) cf kd (ρ:=ρ);rw [q1] at hji;rw [q4];exact c4 j f h1 ho hji
    ·obtain ⟨h1,h2⟩:=lk j _ hj hl2 rfl;obtain ⟨q1,_,q3,_⟩:=add_ne hj (bf,0) cf kd (ρ:=ρ);rw [q1] at hji;rw [q3] at hk2;exact h2 (by rw [(c5 j c' e' d3 g3 k' cp' h1 hji hk2).1];exact hi)
    ·rw [a3] at hk2;exact hinj k k' b cp cp' hkk hk2)
 refine wh_sub2 wp fun i f hi=>?_
 rw [look_append] at hi
 cases hq:look (kills ids) i with
 |some y=>
  rw [hq] at hi;obtain rfl:=by simpa using hi
  exact .inl (kills_look hq).1
 |none=>
  rw [hq] at hi
  right
  simp only [look] at hi ⊢
  split at hi
  ·rename_i hc;rw [if_pos hc];exact hi
  ·rename_i hc;rw [if_neg hc,if_neg hc,look_append,hq];exact hi
def nStore (tt:TT) (hp:Heap) (T e:TypeId) (id i j:Nat) (v:SC):Option Eff:=
 match look hp id,ksT tt e,szT tt T with
 |some (.nrow c e' d g),some ks,some 1=>if Nat.beq e e'&&okSc v then (match ks[j]? with
  |some k=>if Nat.beq j c then (match k,v with
    | .slice e2,.osl e3 id2 (.lit 0) n=>if Nat.beq e2 e3 then (match g with
      |none=>some {val:=.tup [],vc:=[i<d.len],st:=[(id,.nrow c e d (some (i,id2,n.v)))]}
      |some (i0,_,_)=>some {val:=.tup [],vc:=[i<d.len,i=i0],st:=[(id,.nrow c e d (some (i0,id2,n.v)))]}) else none
    |_,_=>none) else (match scD k v with
    |some x=>some {val:=.tup [],vc:=[i<d.len],st:=[(id,.nrow c e (d.setc ks.length i j [x]) g)]}
    |none=>none)
  |none=>none) else none
 |_,_,_=>none
theorem nStore_spec {P:Program} {tt:TT} (htt:TTOK P tt) {hp:Heap} {T e:TypeId} {id i j:Nat} {v:SC} {ef:Eff} (h:nStore tt hp T e id i j v=some ef) (hvc:All ef.vc) {ρ:Map} {w0:W0} {w:World} (hw:WH w0 ρ hp w) {pv x:Value} (hp':CRel ρ (.optr e id i j) pv) (hx:CRel ρ v x) :
 ∃ a w',pv = .pointer (some a)/\(storeVar T a x).run P w = .ok () w'/\UR ρ ef.val (.tuple #[])/\Stp w0 hp ρ ρ w w' ef:=by
 unfold nStore at h
 split at h
 ·rename_i c e' d g ks hl hks hsz;obtain ⟨hke,_⟩:=tt_ks htt hks;obtain ⟨ti,hti,htn⟩:=tt_sz htt hsz
  split at h
  ·rename_i hok;simp only [Bool.and_eq_true] at hok;obtain rfl:=Nat.eq_of_beq_eq_true hok.1;obtain ⟨hone,hcells⟩:=okSc_one hx hok.2;obtain ⟨hid,rfl⟩:=hp';have her:=hw.ents id _ hl
   split at h
   ·rename_i k hk;have core:∀ (d':D) (g':Option (Nat × Nat × Nat)),ef.val = .tup []->ef.st=[(id,.nrow c e d' g')]->ef.nw=[]->i<d.len->d'.len=d.len->(∀ q,q<d.len->holeAt g' q=none->d'.el q c=d.el q c)->(∀ q,holeAt g' q=none->holeAt g q=none) ->
     (∀ a q,q≠c->q<ks.length->(a=i/\q=j->TRel ρ.fz k (d'.el a q) x)/\(¬ (a=i/\q=j)->d'.el a q=d.el a q)) ->
     (∀ e3 a u,(eks e)[c]? = some (.slice e3)->a<d.len->(a=i/\c=j->KV ρ id e3 (d'.el a c) g' a x)/\(¬ (a=i/\c=j)->KV ρ id e3 (d.el a c) g a u->KV ρ id e3 (d'.el a c) g' a u)) ->
     ∃ a w',Value.pointer (some ⟨ρ.blk id,i*(eks e).length+j,none⟩) = .pointer (some a)/\(storeVar T a x).run P w = .ok () w'/\UR ρ ef.val (.tuple #[])/\Stp w0 hp ρ ρ w w' ef:=by
     intro d' g' hv hst hnw hi hlen hel hg hoth hcol
     rcases her with ⟨h0,_⟩ |⟨_,hoff,hM,cs,e3,hh,hcsz,hle,hc3,hcs⟩
     ·rw [h0] at hid;cases hid
     have hj:j<(eks e).length:=by rw [hke];exact lt_of_get hk
     have hidx:i*(eks e).length+j+1<=cs.size:=by
      rw [hcsz]
      calc i*(eks e).length+j+1<=i*(eks e).length+(eks e).length:=by omega
       _=(i+1)*(eks e).length:=by rw [Nat.add_mul];omega
       _<=ρ.cap id*(eks e).length:=Nat.mul_le_mul_right _ (by omega)
     have hst':=run_storeCells_at P (ρ.blk id) (i*(eks e).length+j) e [x] 0 cs w hh (by simpa using hidx) (fun v hv=>by
      obtain rfl:v=x:=by simpa using hv
      exact hone)
     simp only [Nat.add_zero] at hst';have hap:∀ (p:Nat),(cs.toList.take (i*(eks e).length+j)++[x]++cs.toList.drop (i*(eks e).length+j+[x].length)).toArray[p]? = if p=i*(eks e).length+j then some x else cs[p]?:=fun p=>by
      have:=over_get (l:=cs.toList) (m:=[x]) (o:=i*(eks e).length+j) (by simpa using hidx) p;unfold over at this;rw [List.getElem?_toArray,this]
      by_cases hp:p=i*(eks e).length+j
      ·subst hp;rw [if_pos ⟨Nat.le_refl _,by simp⟩,if_pos rfl];simp
      ·rw [if_neg hp,if_neg (by simp only [List.length_cons,List.length_nil];omega),Array.getElem?_toList]
     refine ⟨_,w.setRow (ρ.blk id) (cs.toList.take (i*(eks e).length+j)++[x]++cs.toList.drop (i*(eks e).length+j+[x].length)).toArray,rfl,?_,by rw [hv];exact ⟨#[],rfl,trivial⟩,Ext.refl ρ,fun _ _=>rfl,fun hp2 hw2 hs2=>?_⟩
     ·have hs1:x.cells.size=1:=by rw [hcells];rfl
      simp only [storeVar,Sem.run_bind,run_sizeOf hti,Result.andThen_ok,hs1,htn,ne_eq,not_true_eq_false,↓reduceIte,hcells];exact hst'
     ·have hl2:look hp2 id=some (.nrow c e d g):=by
       rcases hs2 id _ hl with h |h
       ·cases h
       ·exact h
      rw [hst,hnw];refine wh_upd hw2 hl2 hid ⟨rfl,rfl,rfl,by simp,fun k hk=>absurd hk (Nat.not_lt_zero k)⟩ (fun b _ hne=>setRow_other _ _ _ _ hne.symm) ?_ hlen hel hg;refine .inr ⟨hid,hoff,hM,_,e3,setRow_heap _ _ _ _ _ _ hh,?_,by rw [hlen];exact hle,hc3,fun a q k' ha hk'=>?_⟩
      ·simp;omega
      ·rw [hlen] at ha;have hq:=lt_of_get hk';obtain ⟨u,hu,hr⟩:=hcs a q k' ha hk';rw [hap]
       by_cases hp:a*(eks e).length+q=i*(eks e).length+j
       ·have hai:a=i/\q=j:=by
         rcases Nat.lt_trichotomy a i with h |h |h
         ·have:(a+1)*(eks e).length<=i*(eks e).length:=Nat.mul_le_mul_right _ h;rw [Nat.add_mul] at this;omega
         ·subst h;exact ⟨rfl,by omega⟩
         ·have:(i+1)*(eks e).length<=a*(eks e).length:=Nat.mul_le_mul_right _ h;rw [Nat.add_mul] at this;omega
        obtain ⟨rfl,rfl⟩:=hai;rw [if_pos hp];refine ⟨x,rfl,?_⟩
        by_cases hqc:q=c
        ·rw [if_pos hqc];exact (hcol e3 a u hc3 ha).1 ⟨rfl,hqc.symm⟩
        ·rw [if_neg hqc];have:k'=k:=by
          rw [hke,hk] at hk';exact (Option.some.inj hk').symm
         subst this;exact (hoth a q hqc (by rw [<- hke];exact hq)).1 ⟨rfl,rfl⟩
       ·rw [if_neg hp];have hai:¬ (a=i/\q=j):=fun ⟨h1,h2⟩=>hp (by rw [h1,h2])
        refine ⟨u,hu,?_⟩
        by_cases hqc:q=c
        ·subst hqc;rw [if_pos rfl] at hr ⊢;exact (hcol e3 a u hc3 ha).2 hai hr
        ·rw [if_neg hqc] at hr ⊢;rw [(hoth a q hqc (by rw [<- hke];exact hq)).2 hai];exact hr
    split at h
    ·rename_i hjc;have hjc:=Nat.eq_of_beq_eq_true hjc
     split at h
     ·rename_i e2 e4 id2 n
      split at h
      ·rename_i hee;obtain rfl:=Nat.eq_of_beq_eq_true hee;have col:∀ (i0:Nat),i0=i->(∀ a,holeAt g a=none ∨ a=i)->∀ e3 a u,(eks e)[c]? = some (.slice e3)->a<d.len->(a=i/\c=j->KV ρ id e3 (d.el a c) (some (i0,id2,n.v)) a x)/\(¬ (a=i/\c=j)->KV ρ id e3 (d.el a c) g a u->KV ρ id e3 (d.el a c) (some (i0,id2,n.v)) a u):=fun i0 hi0 hga e3 a u hc3 ha=>by
        subst hi0;have h32:e3=e2:=by
         rw [<- hjc,hke,hk] at hc3
         simpa using hc3.symm
        subst h32;refine ⟨fun ⟨h1,_⟩=>?_,fun hn hkv=>?_⟩
        ·subst h1;unfold KV;simp only [holeAt,↓reduceIte];obtain ⟨A,cc,q1,q2,q3⟩:=hx;exact ⟨A,cc,q1,q2,q3⟩
        ·have hne:a≠i0:=fun h=>hn ⟨h,hjc.symm⟩
         have h0:holeAt g a=none:=(hga a).resolve_right hne;unfold KV at hkv ⊢;rw [h0] at hkv;simp only [holeAt,if_neg hne];exact hkv
       have oth:∀ a q,q≠c->q<ks.length->(a=i/\q=j->TRel ρ.fz (.slice e2) (d.el a q) x)/\(¬ (a=i/\q=j)->d.el a q=d.el a q):=fun a q hq _=>⟨fun hh=>absurd (hh.2.trans hjc) hq,fun _=>rfl⟩
       split at h
       ·obtain rfl:=by simpa using h
        exact core d _ rfl rfl rfl hvc.1 rfl (fun _ _ _=>rfl) (fun _ _=>rfl) oth (col i rfl (fun _=>.inl rfl))
       ·rename_i i0 a0 n0;obtain rfl:=by simpa using h
        obtain ⟨h1,h2,_⟩:=hvc;refine core d _ rfl rfl rfl h1 rfl (fun _ _ _=>rfl) (fun q hq=>?_) oth (col i0 h2.symm (fun a=>?_))
        ·simp only [holeAt] at hq ⊢
         split at hq
         ·cases hq
         ·rename_i hne;rw [if_neg hne]
        ·by_cases ha:a=i
         ·exact .inr ha
         ·left;simp only [holeAt];rw [if_neg (by rw [<- h2];exact ha)]
      ·cases h
     ·cases h
    ·rename_i hjc;have hjc:j≠c:=fun e=>hjc (by rw [e];simp)
     split at h
     ·rename_i y hy;obtain rfl:=by simpa using h
      have hi:i<d.len:=hvc.1;have hjk:j<ks.length:=lt_of_get hk;refine core _ g rfl rfl rfl hi (D.setc_len ..) (fun q hq _=>?_) (fun _ h=>h) (fun a q hq hqk=>?_) (fun e3 a u hc3 ha=>?_)
      ·by_cases hck:c<ks.length
       ·rw [D.setc_el hi (by simp only [List.length_cons,List.length_nil];omega) q c hck,if_neg (by simp only [List.length_cons,List.length_nil];omega)]
       ·rcases her with ⟨h0,_⟩ |⟨_,_,_,_,e3,_,_,_,hc3,_⟩
        ·rw [h0] at hid;cases hid
        ·rw [hke] at hc3;exact absurd (lt_of_get hc3) hck
      ·rw [D.setc_el hi (by simp only [List.length_cons,List.length_nil];omega) a q hqk];refine ⟨fun ⟨h1,h2⟩=>?_,fun hn=>?_⟩
       ·rw [if_pos ⟨h1,by omega,by simp only [List.length_cons,List.length_nil];omega⟩,h2,Nat.sub_self];exact scD_spec hy hx
       ·rw [if_neg (by simp only [List.length_cons,List.length_nil];omega)]
      ·refine ⟨fun ⟨_,h2⟩=>absurd h2.symm hjc,fun _ hkv=>?_⟩;have hck:c<ks.length:=by rw [<- hke];exact lt_of_get hc3
       rw [D.setc_el hi (by simp only [List.length_cons,List.length_nil];omega) a c hck,if_neg (by simp only [List.length_cons,List.length_nil];omega)];exact hkv
     ·cases h
   ·cases h
  ·cases h
 ·cases h
def nElem (l:List Seg) (c:Nat) (ks:List K):Option (List D × Option (Nat × Nat × Nat)):=
 match getL l c,wr1 l (.lit c) [.c .nils],ks[c]? with
 |some (q,[]),some (l',[]),some (.slice e2)=>(match toDs l' ks with
  |some ds=>(match q with
   | .osl e3 id2 (.lit 0) n=>if Nat.beq e2 e3 then some (ds,some (0,id2,n.v)) else none
   | .nils=>some (ds,none)
   |_=>none)
  |none=>none)
 |_,_,_=>none
theorem nElem_spec {ρ:Map} {l:List Seg} {c:Nat} {ks:List K} {ds:List D} {g:Option (Nat × Nat × Nat)} (h:nElem l c ks=some (ds,g)) {vs:List Value} (hv:CsRel ρ (cellsOf l) vs) :
 ∃ e2,ks[c]? = some (.slice e2)/\vs.length=ks.length/\∀ j k,ks[j]? = some k->∃ u,vs[j]? = some u/\u.oneCell'=true/\(j≠c->TRel ρ.fz k (ds.getD j (.i 0)) u)/\(j=c->∀ ρ' id,Ext ρ ρ'->KV ρ' id e2 (ds.getD c (.i 0)) g 0 u):=by
 unfold nElem at h
 split at h
 ·rename_i q l' e2 hq hw hk
  split at h
  ·rename_i ds' hds;have hn:CsRel ρ (cellsOf [.c .nils]) [Value.slice none 0 0]:=⟨rfl,fun i x v hx hv=>by
    cases i with
    |zero=>simp [cellsOf,Seg.cells] at hx hv;subst hx hv;rfl
    |succ i=>simp [cellsOf,Seg.cells] at hx⟩
   obtain ⟨hle,hrel⟩:=wrs_rel hw trivial hv hn;simp only [SO.lv,List.length_cons,List.length_nil] at hle;have hrel:CsRel ρ (cellsOf l') (over vs c [Value.slice none 0 0]):=hrel;obtain ⟨k1,k2,k3⟩:=toDs_spec hds hrel;have hlen:vs.length=ks.length:=by rw [<- k2,over_len (by simpa using hle)]
   have hc:=getL_spec l c q [] hq trivial;obtain ⟨u0,hu0,hr0⟩:=csrel_get hv hc;have ov:∀ j,(over vs c [Value.slice none 0 0])[j]? = if j=c then some (.slice none 0 0) else vs[j]?:=fun j=>by
    rw [over_get (by simpa using hle)]
    by_cases hj:j=c
    ·subst hj;rw [if_pos ⟨Nat.le_refl _,by simp⟩,if_pos rfl];simp
    ·rw [if_neg hj,if_neg (by simp only [List.length_cons,List.length_nil];omega)]
   have rest:∀ (g':Option (Nat × Nat × Nat)),u0.oneCell'=true->(∀ ρ' id,Ext ρ ρ'->KV ρ' id e2 (ds'.getD c (.i 0)) g' 0 u0)->∃ e2,ks[c]? = some (.slice e2)/\vs.length=ks.length/\∀ j k,ks[j]? = some k->∃ u,vs[j]? = some u/\u.oneCell'=true/\(j≠c->TRel ρ.fz k (ds'.getD j (.i 0)) u)/\(j=c->∀ ρ' id,Ext ρ ρ'->KV ρ' id e2 (ds'.getD c (.i 0)) g' 0 u):=fun g' h1 h2=>by
    refine ⟨e2,hk,hlen,fun j k hj=>?_⟩
    by_cases hjc:j=c
    ·subst hjc;exact ⟨u0,hu0,h1,fun h=>absurd rfl h,fun _=>h2⟩
    ·obtain ⟨u,hu,ht⟩:=k3 j k hj;rw [ov,if_neg hjc] at hu;exact ⟨u,hu,trel_one ht,fun _=>ht,fun h=>absurd h hjc⟩
   split at h
   ·rename_i e3 id2 n
    split at h
    ·rename_i he;obtain rfl:=Nat.eq_of_beq_eq_true he;simp only [Option.some.injEq,Prod.mk.injEq] at h;obtain ⟨rfl,rfl⟩:=h;refine rest _ ?_ fun ρ' id hx=>?_
     ·obtain ⟨A,cc,rfl,_⟩:=hr0;rfl
     ·have:=crel_ext hx hr0;unfold KV;simp only [holeAt,↓reduceIte];obtain ⟨A,cc,q1,q2,q3⟩:=this;exact ⟨A,cc,q1,q2,q3⟩
    ·cases h
   ·simp only [Option.some.injEq,Prod.mk.injEq] at h;obtain ⟨rfl,rfl⟩:=h;obtain rfl:u0=_:=hr0;refine rest _ rfl fun ρ' id hx=>?_
    obtain ⟨u,hu,ht⟩:=k3 c _ hk;rw [ov,if_pos rfl] at hu;obtain rfl:=Option.some.inj hu;have h0:(ds'.getD c (.i 0)).len=0:=by
     cases ht with
     |nil _ _ h=>exact h
    unfold KV;simp only [holeAt];exact ⟨none,0,by rw [h0],by omega,.inl ⟨rfl,fun _ h=>by cases h⟩⟩
   ·cases h
  ·cases h
 ·cases h
def nBuild (tt:TT) (fr:Nat) (t:TypeId) (len:Nat) (pv:List (Nat × SV)):Option Eff:=
 match uD tt t with
 |some (.slice E)=>(match look nrTs E,elT tt E with
  |some c,some x=>if Nat.beq len 1&&Nat.ble x.ks.length 16777216 then (match fillS (fun i=>some (i*x.ks.length,x.ks.length)) x.zero pv with
   |some (l,ps)=>(match nElem l c x.ks,toDs x.zero x.ks with
    |some (ds,g),some _=>some {val:=.one (.sc (.osl E fr (.lit 0) (.lit 1))),vc:=ps,nw:=[(fr,.nrow c E (.l [ds]) g)]}
    |_,_=>none)
   |none=>none) else none
  |_,_=>none)
 |_=>none
theorem nBuild_spec {P:Program} {tt:TT} (htt:TTOK P tt) {hp:Heap} {fr:Nat} {t:TypeId} {len:Nat} {pv:List (Nat × SV)} {e:Eff} (h:nBuild tt fr t len pv=some e) (hvc:All e.vc) {ρ:Map} {w0:W0} {w:World} (hw:WH w0 ρ hp w) (hfr:∀ id x,look e.nw id=some x -> ρ id=none)
 {parts:Array (Nat × Value)} (hl:pv.length=parts.toList.length) (hv:∀ (i:Nat) a b,pv[i]? = some a->parts.toList[i]? = some b->a.1=b.1/\UR ρ a.2 b.2) :
 ∃ v w' ρ',(Instr.buildSlice t len parts).run P w = .ok v w'/\UR ρ' e.val v/\Stp w0 hp ρ ρ' w w' e:=by
 unfold nBuild at h
 split at h
 ·rename_i E hT;obtain ⟨d,hT,hd⟩:=tt_u htt hT;obtain rfl:=u_slice hd
  split at h
  ·rename_i c xi hnr hxi;obtain ⟨g1,g2,i,z,g3,g4,g5,g6,g7⟩:=tt_el htt hxi
   split at h
   ·rename_i hlen;simp only [Bool.and_eq_true] at hlen;obtain rfl:=Nat.eq_of_beq_eq_true hlen.1;have hk16:=Nat.le_of_ble_eq_true hlen.2
    split at h
    ·rename_i l ps hf
     split at h
     ·rename_i ds g zd hne hzd;obtain rfl:=by simpa using h
      have hfr:=hfr fr _ (by simp only [look];rw [if_pos (by simp)]);have hzr:(zeroValue E).run P w = .ok z w:=by simp [zeroValue,typeInfo,g3,g5]
      have hsz:z.cells.size=xi.ks.length:=by simpa using (toDs_spec hzd (g7 ρ)).2.1
      have hrep:((Array.range (1*xi.ks.length)).map (z.cells[· % z.cells.size]!))=z.cells:=by
       apply Array.toList_inj.1
       rw [<- hsz,rep_cells (by omega)]
       simp
      obtain ⟨cells',h1,h2⟩:=fillS_spec pv parts.toList _ l ps _ hf hvc hl hv (g7 ρ);obtain ⟨e2,n1,n2,n3⟩:=nElem_spec hne h2;have hno:¬ 1*xi.ks.length>2 ^ 24:=by omega
      have hn0:¬ (1*xi.ks.length=0):=by omega
      have ext:=add_ext hfr (w.heap.size,0) 1 (fun _=>none);obtain ⟨a1,a2,a3,a4,a5⟩:=add_at ρ fr (w.heap.size,0) 1 (fun _=>none);refine ⟨.slice (some ⟨w.heap.size,0,none⟩) 1 1,w.alloc (.cells cells' E),ρ.add fr (w.heap.size,0) 1 (fun _=>none),?_,?_,ext,fun id hid=>?_,fun hp2 hw2 hs2=>?_⟩
      ·simp only [Instr.buildSlice,Sem.run_bind,run_underlying hT,Result.andThen_ok,run_sizeOf g3,g4,if_neg hno,if_neg hn0,hzr,Sem.run_pure];rw [hrep,h1];rfl
      ·exact ⟨_,1,rfl,Nat.le_refl _,.inr ⟨by rw [a4];simp [SN.v],by rw [a2];simp [SN.v],by rw [a1];rfl⟩⟩
      ·refine (add_ne (fun e=>?_) _ _ _).1;subst e;simp [look] at hid
      ·refine wh_new (ids:=[]) hw2 (fun i hi=>by cases hi) (below0_alloc w _) hfr (fun b hb _=>Below.heap_alloc _ _ _ hb) (.inl rfl) (.inr ⟨by rw [a1];rfl,a5,by rw [a4];exact ⟨.inl hw2.below.size,hw2.froz.new (Nat.le_refl _)⟩,cells',e2,?_,?_,?_,by rw [g1];exact n1,fun a j k ha hk=>?_⟩) (fun k b cp hk=>by cases hk) (fun k k' b cp cp' hk=>by cases hk)
       ·rw [a4];show (w.heap.push _)[w.heap.size]? = _;simp
       ·rw [a2,g1,Nat.one_mul,<- n2];simp
       ·rw [a2];exact Nat.le_refl _
       ·have ha0:a=0:=by
         have:a<1:=ha;omega
        subst ha0;rw [g1] at hk;obtain ⟨u,hu,_,ht,hkv⟩:=n3 j k hk;refine ⟨u,by rw [Nat.zero_mul,Nat.zero_add,<- Array.getElem?_toList];exact hu,?_⟩;split
        ·rename_i hjc;exact hkv hjc _ fr ext
        ·rename_i hjc;exact ht hjc
     ·cases h
    ·cases h
   ·cases h
  ·cases h
 ·cases h
def shG (g:Option (Nat × Nat × Nat)) (m:Nat):Option (Nat × Nat × Nat):=match g with |some (i,a,k)=>some (m+i,a,k) |none=>none
theorem shG_hi (g:Option (Nat × Nat × Nat)) (m i:Nat):holeAt (shG g m) (m+i)=holeAt g i:=by
 cases g with
 |none=>rfl
 |some p=>
  obtain ⟨i0,a,k⟩:=p;simp only [shG,holeAt]
  by_cases h:i=i0
  ·subst h;rw [if_pos rfl,if_pos rfl]
  ·rw [if_neg (by omega),if_neg h]
theorem shG_lo (g:Option (Nat × Nat × Nat)) {m i:Nat} (h:i<m):holeAt (shG g m) i=none:=by
 cases g with
 |none=>rfl
 |some p=>
  obtain ⟨i0,a,k⟩:=p;simp only [shG,holeAt];rw [if_neg (by omega)]
theorem kv_one {ρ:Map} {id:Nat} {e:TypeId} {x:D} {g:Option (Nat × Nat × Nat)} {i:Nat} {u:Value} (h:KV ρ id e x g i u):u.oneCell'=true:=by
 unfold KV at h
 split at h
 ·obtain ⟨A,cc,rfl,_⟩:=h;rfl
 ·obtain ⟨A,cc,rfl,_⟩:=h;rfl
theorem kv_move {ρ ρ':Map} (hx:Ext ρ ρ') {id id':Nat} {e:TypeId} {x:D} {g g':Option (Nat × Nat × Nat)} {i i':Nat} (hg:holeAt g' i'=holeAt g i) (hk:ρ'.kid id' i'=ρ.kid id i) {u:Value} (h:KV ρ id e x g i u):KV ρ' id' e x g' i' u:=by
 unfold KV at h ⊢;rw [hg];split
 ·rename_i id2 n hh;rw [hh] at h;exact crel_ext hx h
 ·rename_i hh;rw [hh] at h;rw [hk];exact h
theorem nApp_core {P:Program} {hp:Heap} {e:TypeId} {w0:W0} {w:World} {ρ:Map} (hw:WH w0 ρ hp w) {fr:Nat} (hfr:ρ fr=none) {t ty:TypeId} {i:TypeInfo} {z:Value} (ht:P.underlying t=some (.slice e)) (hi:P.info? e=some i) (hz:i.zero=some z) (hzs:z.cells.size=(eks e).length) (his:i.size=(eks e).length) (h0:0<(eks e).length) (hb:0<i.bytes)
 {A:Option Addr} {n cc:Nat} {c:Nat} {d d2:D} {g2:Option (Nat × Nat × Nat)} {ids:List Nat} {id3:Nat} (hids:∀ k∈ids,∃ y,look hp k=some y/\y.isOwn=true) (h3:id3∈ids) (hl3:look hp id3=some (.nrow c e d2 g2)) (hn:d.len=n) (hn2:d2.len=1)
 (hold:(cc=0/\n=0) ∨ ∃ id,id∈ids/\id≠id3/\A=some ⟨ρ.blk id,0,none⟩/\look hp id=some (.nrow c e d none)/\(ρ id).isSome=true/\cc<=ρ.cap id/\n<=cc)
 {y:Value} (hy:CRel ρ (.osl e id3 (.lit 0) (.lit 1)) y) (hby:(n+1)*i.bytes<=140737488355328) {N:SN} (hN:N.v=n+1) (sv:SV) (vc:List Prop) :
 ∃ v w' ρ',(Builtin.append_ #[t,t] ty #[.slice A n cc,y]).run P w = .ok v w'/\CRel ρ' (.osl e fr (.lit 0) N) v/\Stp w0 hp ρ ρ' w w' {val:=sv,vc:=vc,st:=kills ids,nw:=[(fr,.nrow c e (d.app d2) (shG g2 d.len))]}:=by
 obtain ⟨A2,c2,rfl,hc2,hA2⟩:=hy;have hc2:1<=c2:=hc2;obtain ⟨rfl,hcap2,hid3⟩:A2=some ⟨ρ.blk id3,(SN.lit 0).v*(eks e).length,none⟩/\(SN.lit 0).v+c2<=ρ.cap id3/\(ρ id3).isSome=true:=hA2.resolve_left fun h=>by omega
 have hz0:(SN.lit 0).v*(eks e).length=0:=by simp [SN.v]
 rw [hz0]
 rcases hw.ents id3 _ hl3 with ⟨h,_⟩ |⟨_,hoff3,hM3,cs3,e3,hh3,hsz3,hle3,hc3,hcs3⟩
 ·rw [h] at hid3;cases hid3
 have hle:(eks e).length<=cs3.size:=by
  rw [hsz3]
  calc (eks e).length=1*(eks e).length:=(Nat.one_mul _).symm
   _<=ρ.cap id3*(eks e).length:=Nat.mul_le_mul_right _ (by omega)
 have hnew:∀ q,q<(eks e).length->(cs3.toList.take (eks e).length)[q]? = cs3[q]?:=fun q hq=>by
  rw [List.getElem?_take_of_lt hq,Array.getElem?_toList]
 have hnl:(cs3.toList.take (eks e).length).length=(eks e).length:=by simp;omega
 have hone:∀ v∈cs3.toList.take (eks e).length,v.oneCell'=true:=fun v hv=>by
  obtain ⟨q,hq,rfl⟩:=List.getElem_of_mem hv;have hq':q<(eks e).length:=by omega
  obtain ⟨u,hu,hr⟩:=hcs3 0 q _ (by omega) (List.getElem?_eq_getElem hq');rw [Nat.zero_mul,Nat.zero_add,<- hnew q hq',List.getElem?_eq_getElem hq] at hu;obtain rfl:=Option.some.inj hu
  split at hr
  ·exact kv_one hr
  ·exact trel_one hr
 have hA:(cc=0/\n=0) ∨ ∃ b cs cap,A=some ⟨b,0,none⟩/\w.heap[b]? = some (.cells cs e (0,0))/\cs.size=cap*(eks e).length/\cc<=cap/\n<=cc:=by
  rcases hold with h |⟨id,_,_,rfl,hl,his,hcap,hnc⟩
  ·exact .inl h
  ·rcases hw.ents id _ hl with ⟨h,_⟩ |⟨_,_,_,cs,_,hh,hsz,_⟩
   ·rw [h] at his;cases his
   ·exact .inr ⟨_,cs,_,rfl,hh,hsz,hcap,hnc⟩
 obtain ⟨w',b',cs',cap',cc',r1,r2,r3,r4,r5,r6,r7,r8,r9,r10⟩:=napp_raw (P:=P) (w:=w) t ty e i z (eks e).length ht hi hz hzs his hA (b2:=ρ.blk id3) (c2:=c2) hnl (fun q u hu=>by
  have hq:q<(eks e).length:=by have:=lt_of_get hu;omega
  rw [hnew q hq] at hu;simp only [World.cell?,hh3]
  simpa using hu) hone hby hb
 obtain ⟨kold,hkold⟩:∃ kold:Nat->Option (Nat × Nat),(n=0/\cc=0/\kold=fun _=>none) ∨ ∃ id,id∈ids/\id≠id3/\A=some ⟨ρ.blk id,0,none⟩/\look hp id=some (.nrow c e d none)/\(ρ id).isSome=true/\n<=cc/\kold=ρ.kid id:=by
  rcases hold with ⟨h1,h2⟩ |⟨id,q1,q2,q3,q4,q5,_,q6⟩
  ·exact ⟨_,.inl ⟨h2,h1,rfl⟩⟩
  ·exact ⟨_,.inr ⟨id,q1,q2,q3,q4,q5,q6,rfl⟩⟩
 have ext:=add_ext hfr (b',0) cap' (fun k=>if k<n then kold k else if k=n then ρ.kid id3 0 else none);obtain ⟨a1,a2,a3,a4,a5⟩:=add_at ρ fr (b',0) cap' (fun k=>if k<n then kold k else if k=n then ρ.kid id3 0 else none);have hkillid:∀ {k:Nat},k∈ids->(ρ k).isSome=true->Mine w0.heap.size ρ (ρ.blk k) /\ ρ.blk k<w.heap.size:=fun {k} hk hs=>by
  obtain ⟨y,hy,hyo⟩:=hids k hk;exact erel_some (hw.ents k y hy) hyo hs
 refine ⟨_,w',ρ.add fr (b',0) cap' (fun k=>if k<n then kold k else if k=n then ρ.kid id3 0 else none),r1,⟨_,cc',by rw [hN],by rw [hN];exact r2,.inr ⟨by rw [a4];simp [SN.v],by rw [a2];simpa [SN.v] using r3,by rw [a1];rfl⟩⟩,ext,fun id hid=>?_,fun hp2 hw2 hs2=>?_⟩
 ·refine (add_ne (fun e=>?_) _ _ _).1;subst e;simp [look] at hid
 ·have sub:∀ id y,look hp id=some y->y.isOwn=true->look hp2 id=some y:=fun id y hy ho=>by
   rcases hs2 id y hy with rfl |h
   ·cases ho
   ·exact h
  have hbf:b'=w.heap.size ∨ ∃ k∈ids,(ρ k).isSome=true/\b'=ρ.blk k:=by
   rcases r10 with h |⟨h1,h2⟩
   ·exact .inl h
   ·rcases hkold with ⟨_,h,_⟩ |⟨id,q1,_,q3,_,q5,_⟩
    ·exact absurd h h1
    ·rw [q3] at h2;exact .inr ⟨id,q1,q5,by simpa using h2.symm⟩
  have hMb:Mine w0.heap.size ρ b':=by
   rcases hbf with rfl |⟨k,hk,hs,rfl⟩
   ·exact ⟨.inl hw2.below.size,hw2.froz.new (Nat.le_refl _)⟩
   ·exact (hkillid hk hs).1
  refine wh_new (ids:=ids) hw2 (fun k hk=>?_) r8 hfr (fun b hlt hne=>r9 b hlt fun hc he=>?_) hbf (.inr ⟨by rw [a1];rfl,a5,by rw [a4];exact hMb,cs',e3,by rw [a4];exact r4,by rw [a2];exact r5,by rw [a2,D.app_len,hn,hn2];omega,hc3,fun a j k ha hk=>?_⟩) (fun k b cp hk=>?_) (fun k k' b cp cp' hk hk'=>?_)
  ·obtain ⟨y,hy,hyo⟩:=hids k hk;exact ⟨y,sub k y hy hyo,hyo⟩
  ·rcases hkold with ⟨_,h,_⟩ |⟨id,q1,_,q3,_,q5,_⟩
   ·exact hc h
   ·rw [q3] at he;exact hne id q1 q5 (by simpa using he)
  ·rw [D.app_len,hn2,hn] at ha;have hj:=lt_of_get hk
   by_cases han:a<n
   ·obtain ⟨_,h,_⟩ |⟨id,q1,q2,q3,q4,q5,q6,q7⟩:=hkold
    ·omega
    ·have hcne:cc≠0:=by omega
     rcases hw.ents id _ q4 with ⟨h,_⟩ |⟨_,_,_,cs,e5,hh,hsz,hle',hc5,hcs⟩
     ·rw [h] at q5;cases q5
     obtain ⟨u,hu,hr⟩:=hcs a j k (by omega) hk;have e53:e5=e3:=by rw [hc5] at hc3;simpa using hc3
     subst e53;have hlt:a*(eks e).length+j<n*(eks e).length:=by
      calc a*(eks e).length+j<a*(eks e).length+(eks e).length:=by omega
       _=(a+1)*(eks e).length:=by rw [Nat.add_mul];omega
       _<=n*(eks e).length:=Nat.mul_le_mul_right _ han
     refine ⟨u,by rw [r6 _ cs q3 hcne hh _ hlt];exact hu,?_⟩;have eA:∀ q,(d.app d2).el a q=d.el a q:=fun q=>by rw [D.app_el,if_pos (by omega)]
     split
     ·rename_i hjc;rw [if_pos hjc] at hr;rw [eA];exact kv_move ext (by rw [shG_lo _ (by omega)];rfl) (by rw [a3];simp only [];rw [if_pos han,q7]) hr
     ·rename_i hjc;rw [if_neg hjc] at hr;rw [eA];exact hr
   ·have hae:a=n:=by omega
    subst hae;obtain ⟨u,hu,hr⟩:=hcs3 0 j k (by omega) hk;rw [Nat.zero_mul,Nat.zero_add] at hu;refine ⟨u,by rw [r7 j hj,hnew j hj];exact hu,?_⟩;have eA:∀ q,(d.app d2).el a q=d2.el 0 q:=fun q=>by rw [D.app_el,if_neg (by omega),hn,Nat.sub_self]
    split
    ·rename_i hjc;rw [if_pos hjc] at hr;rw [eA];exact kv_move ext (by rw [hn];exact shG_hi g2 a 0) (by rw [a3];simp) hr
    ·rename_i hjc;rw [if_neg hjc] at hr;rw [eA];exact hr
  ·by_cases hkn:k<n
   ·rw [if_pos hkn] at hk
    rcases hkold with ⟨h,_,_⟩ |⟨id,q1,q2,q3,q4,q5,q6,q7⟩
    ·omega
    ·rw [q7] at hk;obtain ⟨c1,c2,c3',c4,c5⟩:=hw.lin id c e d none q4 q5 k b cp hk;refine ⟨id,k,e,d,none,q1,sub id _ q4 rfl,q5,hk,fun e' h1 h2 h3=>?_⟩;rw [D.app_el,if_pos (by omega)];exact c3' e' h1 (by omega) rfl
   ·rw [if_neg hkn] at hk
    by_cases hke:k=n
    ·rw [if_pos hke] at hk;obtain ⟨c1,c2,c3',c4,c5⟩:=hw.lin id3 c e d2 g2 hl3 hid3 0 b cp hk;refine ⟨id3,0,e,d2,g2,h3,sub id3 _ hl3 rfl,hid3,hk,fun e' h1 h2 h3=>?_⟩;rw [D.app_el,if_neg (by omega),hke,hn,Nat.sub_self];rw [hke,hn] at h3;exact c3' e' h1 (by omega) (by rw [<- shG_hi g2 n 0];exact h3)
    ·rw [if_neg hke] at hk;cases hk
  ·have src:∀ k b cp,(if k<n then kold k else if k=n then ρ.kid id3 0 else none)=some (b,cp)->∃ i k0 d0 g0,look hp i=some (.nrow c e d0 g0)/\(ρ i).isSome=true /\ ρ.kid i k0=some (b,cp)/\((k<n/\i≠id3/\k0=k) ∨ (k=n/\i=id3)):=fun k b cp hk=>by
    by_cases hkn:k<n
    ·rw [if_pos hkn] at hk
     rcases hkold with ⟨h,_,_⟩ |⟨id,q1,q2,q3,q4,q5,q6,q7⟩
     ·omega
     ·rw [q7] at hk;exact ⟨id,k,d,none,q4,q5,hk,.inl ⟨hkn,q2,rfl⟩⟩
    ·rw [if_neg hkn] at hk
     by_cases hke:k=n
     ·rw [if_pos hke] at hk;exact ⟨id3,0,d2,g2,hl3,hid3,hk,.inr ⟨hke,rfl⟩⟩
     ·rw [if_neg hke] at hk;cases hk
   obtain ⟨i1,k1,d1,g1,l1,s1,m1,x1⟩:=src k b cp hk;obtain ⟨i2,k2,d3,g3,l2,s2,m2,x2⟩:=src k' b cp' hk';obtain ⟨y1,y2⟩:=(hw.lin i1 c e d1 g1 l1 s1 k1 b cp m1).2.2.2.2 i2 c e d3 g3 k2 cp' l2 s2 m2
   rcases x1 with ⟨z1,z2,z3⟩ |⟨z1,z2⟩<;>rcases x2 with ⟨z4,z5,z6⟩ |⟨z4,z5⟩
   ·omega
   ·exact absurd (y1.symm.trans z5) z2
   ·exact absurd (y1.trans z2) z5
   ·omega
def nApp (tt:TT) (hp:Heap) (fr:Nat) (T:TypeId) (a b:SC):Option Eff:=
 match uD tt T,b with
 |some (.slice e),.osl e3 id3 (.lit 0) (.lit 1)=>(match look nrTs e,elT tt e,look hp id3 with
  |some c,some x,some (.nrow c3 e4 d2 g2)=>if Nat.beq e e3&&Nat.beq e e4&&Nat.beq c c3&&Nat.blt 0 x.bytes then (match toDs x.zero x.ks with
   |some _=>(match a with
    | .nils=>some {val:=.one (.sc (.osl e fr (.lit 0) (.lit 1))),vc:=[d2.len=1,(0+1)*x.bytes<=140737488355328],st:=kills [id3],nw:=[(fr,.nrow c e ((D.l []).app d2) (shG g2 (D.l []).len))]}
    | .osl e' id (.lit 0) n=>(match look hp id with
      |some (.nrow c5 e5 d none)=>if Nat.beq e e'&&Nat.beq e e5&&Nat.beq c c5 && !(Nat.beq id id3) then some {val:=.one (.sc (.osl e fr (.lit 0) (.sym (n.v+1)))),vc:=[n.v=d.len,d2.len=1,(n.v+1)*x.bytes<=140737488355328],st:=kills [id,id3],nw:=[(fr,.nrow c e (d.app d2) (shG g2 d.len))]} else none
      |_=>none)
    |_=>none)
   |none=>none) else none
  |_,_,_=>none)
 |_,_=>none
theorem nApp_spec {P:Program} {tt:TT} (htt:TTOK P tt) {hp:Heap} {fr:Nat} {T:TypeId} {a b:SC} {ef:Eff} (h:nApp tt hp fr T a b=some ef) (hvc:All ef.vc) {ρ:Map} {w0:W0} {w:World} (hw:WH w0 ρ hp w) (hfr:∀ id x,look ef.nw id=some x -> ρ id=none) {x y:Value} (hx:CRel ρ a x) (hy:CRel ρ b y) (ty:TypeId) :
 ∃ v w' ρ',(Builtin.append_ #[T,T] ty #[x,y]).run P w = .ok v w'/\UR ρ' ef.val v/\Stp w0 hp ρ ρ' w w' ef:=by
 unfold nApp at h
 split at h
 ·rename_i e e3 id3 hT;obtain ⟨d,hT,hd⟩:=tt_u htt hT;obtain rfl:=u_slice hd
  split at h
  ·rename_i c xi c3 e4 d2 g2 hnr hxi hl3;obtain ⟨g1,g2',i,z,g3,g4,g5,g6,g7⟩:=tt_el htt hxi
   split at h
   ·rename_i hok;simp only [Bool.and_eq_true] at hok;obtain rfl:=Nat.eq_of_beq_eq_true hok.1.1.1;obtain rfl:=Nat.eq_of_beq_eq_true hok.1.1.2;obtain rfl:=Nat.eq_of_beq_eq_true hok.1.2;have hby:0<xi.bytes:=by simpa [Nat.blt_eq] using hok.2
    split at h
    ·rename_i zd hzd;have hzs:z.cells.size=(eks e).length:=by rw [g1];simpa using (toDs_spec hzd (g7 ρ)).2.1
     split at h
     ·simp only [Option.some.injEq] at h;subst h;obtain ⟨hn2,hb1,_⟩:=hvc;obtain rfl:x=_:=hx;obtain ⟨v,w',ρ',r1,r2,r3⟩:=nApp_core (P:=P) (d:=.l []) (d2:=d2) (A:=none) (n:=0) (cc:=0) (N:=.lit 1) hw (hfr fr _ (by simp only [look];rw [if_pos (by simp)])) hT g3 g5 hzs (by rw [g4,g1]) (by rw [g1];exact g2') (by rw [g6];exact hby) (ty:=ty)
       (ids:=[id3]) (fun k hk=>by
         obtain rfl:k=id3:=by simpa using hk
         exact ⟨_,hl3,rfl⟩) (by simp) hl3 rfl hn2 (.inl ⟨rfl,rfl⟩) hy (by rw [g6];exact hb1) rfl (.one (.sc (.osl e fr (.lit 0) (.lit 1)))) [d2.len=1,(0+1)*xi.bytes<=140737488355328]
      exact ⟨v,w',ρ',r1,r2,r3⟩
     ·rename_i e' id n
      split at h
      ·rename_i c5 e5 d hl
       split at h
       ·rename_i hee;simp only [Bool.and_eq_true] at hee;obtain rfl:=Nat.eq_of_beq_eq_true hee.1.1.1;obtain rfl:=Nat.eq_of_beq_eq_true hee.1.1.2;obtain rfl:=Nat.eq_of_beq_eq_true hee.1.2;have hne:id≠id3:=fun e=>by have:=hee.2;simp [e] at this
        obtain rfl:=by simpa using h
        obtain ⟨hn,hn2,hb1,_⟩:=hvc;obtain ⟨A,cc,rfl,hnc,hA⟩:=hx;obtain ⟨v,w',ρ',r1,r2,r3⟩:=nApp_core (P:=P) (d:=d) (d2:=d2) (A:=A) (n:=n.v) (cc:=cc) (N:=.sym (n.v+1)) hw (hfr fr _ (by simp only [look];rw [if_pos (by simp)])) hT g3 g5 hzs (by rw [g4,g1]) (by rw [g1];exact g2') (by rw [g6];exact hby) (ty:=ty)
         (ids:=[id,id3]) (fun k hk=>by
           rcases List.mem_cons.1 hk with rfl |hk
           ·exact ⟨_,hl,rfl⟩
           ·obtain rfl:k=id3:=by simpa using hk
            exact ⟨_,hl3,rfl⟩) (by simp) hl3 hn.symm hn2 (by
            rcases hA with ⟨hc0,_⟩ |⟨rfl,hcap,hid⟩
            ·exact .inl ⟨hc0,by omega⟩
            ·exact .inr ⟨id,by simp,hne,by simp [SN.v],hl,hid,by simpa [SN.v] using hcap,hnc⟩) hy (by rw [g6];exact hb1) rfl (.one (.sc (.osl e fr (.lit 0) (.sym (n.v+1))))) [n.v=d.len,d2.len=1,(n.v+1)*xi.bytes<=140737488355328]
        exact ⟨v,w',ρ',r1,r2,r3⟩
       ·cases h
      ·cases h
     ·cases h
    ·cases h
   ·cases h
  ·cases h
 ·cases h
def nMake (tt:TT) (fr:Nat) (t:TypeId):SV->SV->Option Eff
 | .one (.sc (.int _ l)),.one (.sc (.int _ c))=>(match uD tt t with
   |some (.slice e)=>(match look nrTs e,elT tt e,siN l with
    |some k,some x,some n=>(match nElem x.zero k x.ks,toDs x.zero x.ks with
     |some (z,none),some _=>some {val:=.one (.sc (.osl e fr (.lit 0) n)),vc:=[l.v=c.v,0<=l.v,(x.bytes:Int)*l.v<=281474976710656,l.v<=9223372036854775807],nw:=[(fr,.nrow k e (.l (List.replicate n.v z)) none)]}
     |_,_=>none)
    |_,_,_=>none)
   |_=>none)
 |_,_=>none
theorem nMake_spec {P:Program} {tt:TT} (htt:TTOK P tt) {hp:Heap} {fr:Nat} {t:TypeId} {a b:SV} {e:Eff} (h:nMake tt fr t a b=some e) (hvc:All e.vc) {ρ:Map} {w0:W0} {w:World} (hw:WH w0 ρ hp w) (hfr:∀ id x,look e.nw id=some x -> ρ id=none) {x y:Value} (hx:UR ρ a x) (hy:UR ρ b y) :
 ∃ v w' ρ',(Instr.makeSlice t x y).run P w = .ok v w'/\UR ρ' e.val v/\Stp w0 hp ρ ρ' w w' e:=by
 unfold nMake at h
 split at h
 ·rename_i kl l kc c;obtain rfl:x=_:=hx;obtain rfl:y=_:=hy
  split at h
  ·rename_i el hT;obtain ⟨d,hT,hd⟩:=tt_u htt hT;obtain rfl:=u_slice hd
   split at h
   ·rename_i k xi n hnr hxi hn;obtain ⟨g1,g2,i,z,g3,g4,g5,g6,g7⟩:=tt_el htt hxi
    split at h
    ·rename_i zs zd hne hzd;obtain rfl:=by simpa using h
     obtain ⟨hlc,h0,hby,h63,_⟩:=hvc;have hfr:=hfr fr _ (by simp only [look];rw [if_pos (by simp)]);have hrun:=run_make (P:=P) w t el i z hT g3 g5 kl kc l.v c.v h0 (by omega) (by rw [g6,<- hlc];exact hby) (by omega);have hnv:=siN_v hn;rw [<- hlc] at hrun;have hzs:z.cells.size=xi.ks.length:=by simpa using (toDs_spec hzd (g7 ρ)).2.1
     obtain ⟨e2,n1,n2,n3⟩:=nElem_spec hne (g7 ρ);have ext:=add_ext hfr (w.heap.size,0) l.v.toNat (fun _=>none);obtain ⟨a1,a2,a3,a4,a5⟩:=add_at ρ fr (w.heap.size,0) l.v.toNat (fun _=>none);have hsz:(madeCells z.cells (l.v.toNat*i.size)).size=l.v.toNat*(eks el).length:=by rw [size_madeCells,g4,g1]
     refine ⟨_,_,ρ.add fr (w.heap.size,0) l.v.toNat (fun _=>none),by rw [<- hlc];exact hrun,?_,ext,fun id hid=>?_,fun hp2 hw2 hs2=>?_⟩
     ·exact ⟨_,l.v.toNat,by rw [hnv],by rw [hnv];exact Nat.le_refl _,.inr ⟨by rw [a4];simp [SN.v],by rw [a2];simp [SN.v],by rw [a1];rfl⟩⟩
     ·refine (add_ne (fun e=>?_) _ _ _).1;subst e;simp [look] at hid
     ·refine wh_new (ids:=[]) hw2 (fun i hi=>by cases hi) (below0_alloc w _) hfr (fun b hb _=>Below.heap_alloc _ _ _ hb) (.inl rfl) (.inr ⟨by rw [a1];rfl,a5,by rw [a4];exact ⟨.inl hw2.below.size,hw2.froz.new (Nat.le_refl _)⟩,madeCells z.cells (l.v.toNat*i.size),e2,?_,?_,?_,by rw [g1];exact n1,fun q j k' hq hk=>?_⟩) (fun k b cp hk=>by cases hk) (fun k k' b cp cp' hk=>by cases hk)
      ·rw [a4];show (w.heap.push _)[w.heap.size]? = _;simp
      ·rw [a2];exact hsz
      ·rw [a2];show (List.replicate n.v zs).length<=_;simp [hnv]
      ·have hq':q<l.v.toNat:=by
        have:q<(List.replicate n.v zs).length:=hq
        simpa [hnv] using this
       have hj:j<(eks el).length:=lt_of_get hk;obtain ⟨u,hu,_,ht,hkv⟩:=n3 j k' (by rw [<- g1];exact hk);have hel:∀ r,(D.l (List.replicate n.v zs)).el q r=zs.getD r (.i 0):=fun r=>by
        show ((List.replicate n.v zs).getD q []).getD r (.i 0)=_;rw [List.getD_eq_getElem?_getD (l:=List.replicate _ _),List.getElem?_replicate,if_pos (by omega)];rfl
       refine ⟨u,?_,?_⟩
       ·rw [g1] at hj ⊢;rw [madeCells_get,hzs,Nat.mul_comm q,Nat.mul_add_mod,Nat.mod_eq_of_lt hj]
        ·rw [<- Array.getElem?_toList];exact hu
        ·rw [g4]
         calc q*xi.ks.length+j<q*xi.ks.length+xi.ks.length:=by omega
          _=(q+1)*xi.ks.length:=by rw [Nat.add_mul];omega
          _<=l.v.toNat*xi.ks.length:=Nat.mul_le_mul_right _ hq'
        ·omega
       ·split
        ·rename_i hjc;rw [hel];exact kv_move (id:=fr) (id':=fr) (i:=0) (i':=q) (g':=none) (Ext.refl _) rfl (by rw [a3]) (hkv hjc _ fr ext)
        ·rename_i hjc;rw [hel];exact ht hjc
    ·cases h
   ·cases h
  ·cases h
 ·cases h
def nop (tt:TT) (C:Cons) (hp:Heap) (ev:Operand->Option SV) (fr:Nat) (op:Op):Option Eff:=
 if (C nrF).isSome then (match op with
  | .store T p x=>(match ev p,ev x with |some (.one (.sc (.optr e id i j))),some (.one (.sc v))=>nStore tt hp T e id i j v |_,_=>none)
  | .buildSlice t len parts=>(match evp ev parts.toList with |some pv=>nBuild tt fr t len pv |none=>none)
  | .makeSlice t l c=>(match ev l,ev c with |some a,some b=>nMake tt fr t a b |_,_=>none)
  | .call {callee:=.builtin .append,args,argTypes}=>(match args.toList,argTypes.toList with
    | [x,y],[T,T']=>if Nat.beq T T' then (match ev x,ev y with |some (.one (.sc a)),some (.one (.sc b))=>nApp tt hp fr T a b |_,_=>none) else none
    |_,_=>none)
  |_=>none) else none
theorem nop_spec {P:Program} {tt:TT} (htt:TTOK P tt) {C:Cons} {hp:Heap} {ev:Operand->Option SV} {fr:Nat} {o:Oper} {e:Eff} (h:nop tt C hp ev fr o.op=some e) (hvc:All e.vc) {ρ:Map} {a:Act} (hE:EvOK ρ a.eval ev) {w0:W0} {w:World} (hw:WH w0 ρ hp w)
 (hfr:∀ id x,look e.nw id=some x -> ρ id=none) {K:Act->World->Prop} {Q:Exit->Act->World->Prop} (hK:∀ ρ' w' v,UR ρ' e.val v->Stp w0 hp ρ ρ' w w' e->K (a.put o.dst v) w'):o.wp P a w K Q:=by
 obtain ⟨dst,op,ty,pos,after,guard⟩:=o;dsimp only at h hK;unfold nop at h
 split at h
 ·split at h
  ·
   rename_i T p x
   split at h
   ·rename_i el id i j v hp' hv;obtain ⟨A,w',g1,g2,g3,g4⟩:=nStore_spec htt h hvc hw (hE _ _ hp') (hE _ _ hv);have hrun:(execOp a.eval {dst:=dst,op:=.store T p x,type:=ty,pos:=pos,after:=after,guard:=guard}).run P w = .ok .skip w':=by
     simp only [execOp,Instr.storeAt,Sem.run_bind,g1,Instr.sureAddr,Sem.run_pure,Result.andThen_ok];rw [g2];rfl
    unfold Oper.wp;rw [hrun];exact hK ρ w' undef g3 g4
   ·cases h
  ·
   rename_i t len parts
   split at h
   ·rename_i pv hpv;obtain ⟨e1,e2⟩:=evp_spec hE _ _ hpv;obtain ⟨v,w',ρ',h1,h2,h3⟩:=nBuild_spec htt h hvc hw hfr (parts:=parts.map fun (i,x)=>(i,a.eval x)) (by simpa using e1) (by simpa using e2);have hrun:(execOp a.eval {dst:=dst,op:=.buildSlice t len parts,type:=ty,pos:=pos,after:=after,guard:=guard}).run P w = .ok (.value v) w':=by
     show ((do pure (.value (<- Instr.buildSlice t len (parts.map fun (i,x)=>(i,a.eval x)))):Sem Next)).run P w=_;rw [Sem.run_bind,h1];rfl
    unfold Oper.wp;rw [hrun];exact hK _ w' v h2 h3
   ·cases h
  ·
   rename_i t l c
   split at h
   ·rename_i a' b' hxa hyb;obtain ⟨v,w',ρ',h1,h2,h3⟩:=nMake_spec htt h hvc hw hfr (hE _ _ hxa) (hE _ _ hyb);have hrun:(execOp a.eval {dst:=dst,op:=.makeSlice t l c,type:=ty,pos:=pos,after:=after,guard:=guard}).run P w = .ok (.value v) w':=by
     show ((do pure (.value (<- Instr.makeSlice t (a.eval l) (a.eval c))):Sem Next)).run P w=_;rw [Sem.run_bind,h1];rfl
    unfold Oper.wp;rw [hrun];exact hK _ w' v h2 h3
   ·cases h
  ·
   rename_i args ats
   split at h
   ·rename_i x y T T' hxy hat
    split at h
    ·rename_i hTT;obtain rfl:=Nat.eq_of_beq_eq_true hTT
     split at h
     ·rename_i a' b' hxa hyb;obtain ⟨v,w',ρ',h1,h2,h3⟩:=nApp_spec htt h hvc hw hfr (hE _ _ hxa) (hE _ _ hyb) ty;have hmap:args.map a.eval=#[a.eval x,a.eval y]:=by apply Array.toList_inj.1;simp [hxy]
      have hats:ats=#[T,T]:=by apply Array.toList_inj.1;simp [hat]
      have hrun:(execOp a.eval {dst:=dst,op:=.call {callee:=.builtin .append,args:=args,argTypes:=ats},type:=ty,pos:=pos,after:=after,guard:=guard}).run P w = .ok (.value v) w':=by
       show ((do pure (.value (<- Builtin.append_ ats ty (args.map a.eval))):Sem Next)).run P w=_;rw [hmap,hats,Sem.run_bind,h1];rfl
      unfold Oper.wp;rw [hrun];exact hK ρ' w' v h2 h3
     ·cases h
    ·cases h
   ·cases h
  ·cases h
 ·cases h
def pin (p:Nat × Bool) (g:List (Nat × Bool)):Bool:=g.any fun q=>Nat.beq q.1 p.1&&(q.2==p.2)
theorem pin_spec {p:Nat × Bool} {g:List (Nat × Bool)} (h:pin p g=true):p∈g:=by
 unfold pin at h;rw [List.any_eq_true] at h;obtain ⟨q,hq,hh⟩:=h;simp only [Bool.and_eq_true] at hh;have h1:=Nat.eq_of_beq_eq_true hh.1;have h2:q.2=p.2:=by simpa using hh.2
 have:q=p:=by cases q;cases p;simp_all
 rw [<- this];exact hq
def unw (g:List (Nat × Bool)):SV->Option SV
 | .one x=>some (.one x)
 | .tup l=>some (.tup l)
 | .cond g' x=>if g'.all (fun p=>pin p g) then some (.one x) else none
 | .junk=>none
theorem unw_spec {ρ:Map} {tmps:Array Value} {g:List (Nat × Bool)} {x y:SV} (h:unw g x=some y) (hg:Gd tmps g) {v:Value} (hv:VRel ρ tmps x v):UR ρ y v:=by
 cases x with
 |one a=>simp only [unw,Option.some.injEq] at h;subst h;exact hv
 |tup l=>simp only [unw,Option.some.injEq] at h;subst h;exact hv
 |cond g' a=>
  simp only [unw] at h
  split at h
  ·rename_i ha;obtain rfl:=by simpa using h
   rw [List.all_eq_true] at ha;exact hv.1 fun p hp=>hg p (pin_spec (ha p hp))
  ·cases h
 |junk=>cases h
def evO (tm:Slots) (g:List (Nat × Bool)):Operand->Option SV
 | .tmp t=>(match look tm t with |some x=>unw g x |none=>none)
 | .const v=>(match ofSc v with
   |some c=>some (.one (.sc c))
   |none=>(match v with
    | .agg cs=>(match ofCells (List.replicate cs.size .c) cs.toList with |some s=>some (.one (.agg s)) |none=>none)
    |_=>none))
 | .func f=>some (.one (.sc (.raw (.func (.func f) #[] #[]))))
 | .global _=>none
theorem evO_spec {ρ:Map} {nt:Nat} {tm:Slots} {a:Act} (h:AH ρ nt tm a) {g:List (Nat × Bool)} (hg:Gd a.tmps g):EvOK ρ a.eval (evO tm g):=by
 intro x sv hx
 cases x with
 |tmp t=>
  simp only [evO] at hx
  split at hx
  ·rename_i y hy;exact unw_spec hx hg (h.slots t y hy)
  ·cases hx
 |const v=>
  simp only [evO] at hx
  split at hx
  ·rename_i c hc;obtain rfl:=by simpa using hx
   exact ofSc_spec hc ρ
  ·split at hx
   ·split at hx
    ·rename_i s hs;obtain rfl:=by simpa using hx
     exact ⟨_,rfl,ofCells_spec _ _ s hs⟩
    ·cases hx
   ·cases hx
 |func f=>
  simp only [evO,Option.some.injEq] at hx;subst hx;rfl
 |global _=>cases hx
def gbool (tm:Slots) (t:Nat):Option SB:=match look tm t with
 |some (.one (.sc (.bool b)))=>some b
 |some (.cond _ (.sc (.bool b)))=>some b
 |_=>none
def gcond (tm:Slots):List (Nat × Bool)->Prop
 | []=>True
 |(t,want)::r=>(match gbool tm t with |some b=>b.v=want |none=>True)/\gcond tm r
theorem gbool_spec {ρ:Map} {nt:Nat} {tm:Slots} {a:Act} (h:AH ρ nt tm a) {t:Nat} {want:Bool} (hv:a.tmps.getD t undef = .bool want) {b:SB} (hb:gbool tm t=some b):b.v=want:=by
 unfold gbool at hb
 split at hb
 ·rename_i b' hl;obtain rfl:=by simpa using hb
  have:=h.slots t _ hl;rw [hv] at this;exact (Value.bool.inj this).symm
 ·rename_i g b' hl;obtain rfl:=by simpa using hb
  obtain ⟨h1,h2⟩:=h.slots t _ hl
  by_cases hg:Gd a.tmps g
  ·have:=h1 hg;rw [hv] at this;exact (Value.bool.inj this).symm
  ·have:=h2 hg;rw [hv] at this
   cases this
 ·cases hb
theorem gcond_spec {ρ:Map} {nt:Nat} {tm:Slots} {a:Act} (h:AH ρ nt tm a):∀ {g:List (Nat × Bool)},Gd a.tmps g->gcond tm g
 | [],_=>trivial
 |(t,want)::r,hg=>by
  refine ⟨?_,gcond_spec h (g:=r) fun p hp=>hg p (List.mem_cons_of_mem _ hp)⟩;split
  ·rename_i b hb;exact gbool_spec h (hg (t,want) (List.mem_cons_self ..)) hb
  ·trivial
def SB.pick (c a b:SB):SB:=match c with
 | .lit true=>a
 | .lit false=>b
 | .sym c=>(match a,b with
   | .lit true,b=>.sym (c ||b.v)
   |a,.lit false=>.sym (c&&a.v)
   |a,b=>.sym (if c then a.v else b.v))
theorem SB.pick_v (c a b:SB):(SB.pick c a b).v=if c.v then a.v else b.v:=by
 unfold SB.pick
 cases c with
 |lit c=>cases c<;>rfl
 |sym c=>
  dsimp only;split
  ·simp only [SB.v];cases c<;>rfl
  ·simp only [SB.v];cases c<;>simp
  ·rfl
def spick (tm:Slots) (g:List (Nat × Bool)) (c a b:Operand):Option SV:=
 match evO tm g c with
 |some (.one (.sc (.bool (.lit true))))=>evO tm g a
 |some (.one (.sc (.bool (.lit false))))=>evO tm g b
 |some (.one (.sc (.bool (.sym cb))))=>(match c with
  | .tmp t=>(match evO tm ((t,true)::g) a,evO tm ((t,false)::g) b with
    |some (.one (.sc (.bool x))),some (.one (.sc (.bool y)))=>some (.one (.sc (.bool (SB.pick (.sym cb) x y))))
    |some (.one (.sc (.int k x))),some (.one (.sc (.int k' y)))=>if kEq k k' then some (.one (.sc (.int k (.sym (if cb then x.v else y.v))))) else none
    |_,_=>none)
  |_=>none)
 |_=>none
theorem spick_spec {P:Program} {ρ:Map} {nt:Nat} {tm:Slots} {a:Act} (h:AH ρ nt tm a) {g:List (Nat × Bool)} (hg:Gd a.tmps g) {dst:Option Tmp} {c x y:Operand} {ty:TypeId} {pos:String} {after:Array Edge} {gu:Option (Nat × Bool)} {sv:SV} (hs:spick tm g c x y=some sv) (w:World) :
 ∃ v,(execOp a.eval {dst:=dst,op:=.pick c x y,type:=ty,pos:=pos,after:=after,guard:=gu}).run P w = .ok (.value v) w/\UR ρ sv v:=by
 have hE:=evO_spec h hg;have run:∀ (b:Bool),a.eval c = .bool b->(execOp a.eval {dst:=dst,op:=.pick c x y,type:=ty,pos:=pos,after:=after,guard:=gu}).run P w = .ok (.value (if b then a.eval x else a.eval y)) w:=fun b hb=>by
  simp only [execOp,hb];rfl
 unfold spick at hs
 split at hs
 ·rename_i hc;exact ⟨_,run true (hE _ _ hc),by simpa using hE _ _ hs⟩
 ·rename_i hc;exact ⟨_,run false (hE _ _ hc),by simpa using hE _ _ hs⟩
 ·rename_i cb hc;have hcv:a.eval c = .bool cb:=hE _ _ hc
  split at hs
  ·rename_i t;have gt:∀ b,cb=b->Gd a.tmps ((t,b)::g):=fun b hb p hp=>by
    rcases List.mem_cons.1 hp with rfl |hp
    ·subst hb;exact hcv
    ·exact hg p hp
   split at hs
   ·rename_i p q hx hy;obtain rfl:=by simpa using hs
    refine ⟨_,run cb hcv,?_⟩;show (if cb then a.eval x else a.eval y) = .bool (SB.pick (.sym cb) p q).v;rw [SB.pick_v];show (if cb then a.eval x else a.eval y) = .bool (if cb then p.v else q.v)
    cases hcb:cb with
    |true=>exact evO_spec h (gt true hcb) _ _ hx
    |false=>exact evO_spec h (gt false hcb) _ _ hy
   ·rename_i k p k' q hx hy
    split at hs
    ·rename_i hk;have:=kEq_eq hk;subst this;obtain rfl:=by simpa using hs
     refine ⟨_,run cb hcv,?_⟩;show (if cb then a.eval x else a.eval y) = .int k (if cb then p.v else q.v)
     cases hcb:cb with
     |true=>exact evO_spec h (gt true hcb) _ _ hx
     |false=>exact evO_spec h (gt false hcb) _ _ hy
    ·cases hs
   ·cases hs
  ·cases hs
 ·cases hs
def sop (tt:TT) (C:Cons) (hp:Heap) (tm:Slots) (g:List (Nat × Bool)) (fr:Nat) (op:Op):Option Eff:=
 match op with
 | .pick c a b=>(match spick tm g c a b with |some v=>some {val:=v,vc:=[]} |none=>none)
 |op=>seff tt C hp (evO tm g) fr op
theorem sop_spec {P:Program} {tt:TT} (htt:TTOK P tt) {C:Cons} (hC:CtxOK P C) {hp:Heap} {tm:Slots} {g:List (Nat × Bool)} {fr:Nat} {o:Oper} {e:Eff} (h:sop tt C hp tm g fr o.op=some e) (hvc:All e.vc) {ρ:Map} {nt:Nat} {a:Act} (hA:AH ρ nt tm a) (hg:Gd a.tmps g) {w0:W0} {w:World} (hw:WH w0 ρ hp w)
 (hfr:∀ id x,look e.nw id=some x -> ρ id=none) {K:Act->World->Prop} {Q:Exit->Act->World->Prop} (hK:∀ ρ' w' v,UR ρ' e.val v->Fr w0.heap.size ρ ρ' w w' e->K (a.put o.dst v) w'):o.wp P a w K Q:=by
 obtain ⟨dst,op,ty,pos,after,guard⟩:=o;dsimp only at h hK;unfold sop at h
 split at h
 ·rename_i c x y
  split at h
  ·rename_i v hv;obtain rfl:=by simpa using h
   obtain ⟨u,h1,h2⟩:=spick_spec (P:=P) (dst:=dst) (ty:=ty) (pos:=pos) (after:=after) (gu:=guard) hA hg hv w;unfold Oper.wp;rw [h1];exact hK ρ w u h2 (fr_none _ _)
  ·cases h
 ·exact seff_spec htt hC h hvc (evO_spec hA hg) hw hfr hK
inductive GRes |run (g:List (Nat × Bool)) |skip
def sguard (ops:Array Oper) (tm:Slots) (gu:Option (Nat × Bool)):Option GRes:=
 match gu with
 |none=>some (.run [])
 |some (j,want)=>(match (ops[j]?).bind (·.dst) with
  |none=>none
  |some t=>(match look tm t with
   |some (.one (.sc (.bool (.lit b))))=>if b==want then some (.run []) else some .skip
   |some (.one (.sc (.bool (.sym _))))=>some (.run [(t,want)])
   |some (.cond g (.sc (.bool (.lit b))))=>if b==want then some (.run ((t,want)::g)) else some .skip
   |some (.cond g (.sc (.bool (.sym _))))=>some (.run ((t,want)::g))
   |some (.tup [])=>some .skip
   |_=>none))
theorem yielded_iff {ops:Array Oper} {tmps:Array Value} {j t:Nat} {want:Bool} (ht:(ops[j]?).bind (·.dst)=some t):(yielded ops tmps j==some want)=true↔tmps.getD t undef = .bool want:=by
 unfold yielded;rw [ht];simp only [Option.bind_some]
 cases hv:tmps[t]? with
 |none=>simp [hv,undef]
 |some v=>
  have:tmps.getD t undef=v:=by simp [hv]
  rw [this]
  cases v<;>simp
theorem sguard_spec {ops:Array Oper} {tm:Slots} {o:Oper} {ρ:Map} {nt:Nat} {a:Act} (h:AH ρ nt tm a):(∀ g,sguard ops tm o.guard=some (.run g)->(Region.wanted o (yielded ops a.tmps)=true↔Gd a.tmps g))/\(sguard ops tm o.guard=some .skip->Region.wanted o (yielded ops a.tmps)=false):=by
 cases hgu:o.guard with
 |none=>
  refine ⟨fun g hg=>?_,fun hg=>?_⟩
  ·simp only [sguard,Option.some.injEq,GRes.run.injEq] at hg;subst hg;simp [Region.wanted,hgu,Gd]
  ·simp [sguard] at hg
 |some jw=>
  obtain ⟨j,want⟩:=jw;have hwd:∀ t,(ops[j]?).bind (·.dst)=some t->(Region.wanted o (yielded ops a.tmps)=true↔a.tmps.getD t undef = .bool want):=fun t ht=>by
   simp only [Region.wanted,hgu];exact yielded_iff ht
  have nope:∀ t,(ops[j]?).bind (·.dst)=some t->a.tmps.getD t undef ≠ .bool want->Region.wanted o (yielded ops a.tmps)=false:=fun t ht hne=>by
   cases hq:Region.wanted o (yielded ops a.tmps) with
   |false=>rfl
   |true=>exact absurd ((hwd t ht).1 hq) hne
  simp only [sguard];split
  ·exact ⟨fun g hg=>(by cases hg),fun hg=>(by cases hg)⟩
  ·rename_i t ht;split
   ·rename_i b hl;have hv:a.tmps.getD t undef = .bool b:=h.slots t _ hl;split
    ·rename_i hbw;have hbw':b=want:=by simpa using hbw
     refine ⟨fun g hg=>?_,fun hg=>by cases hg⟩;simp only [Option.some.injEq,GRes.run.injEq] at hg;subst hg;rw [hwd t ht,hv,hbw'];simp [Gd]
    ·rename_i hbw;refine ⟨fun g hg=>(by cases hg),fun _=>nope t ht ?_⟩;rw [hv];intro e
     apply hbw
     simp [Value.bool.inj e]
   ·rename_i b hl;refine ⟨fun g hg=>?_,fun hg=>by cases hg⟩;simp only [Option.some.injEq,GRes.run.injEq] at hg;subst hg;rw [hwd t ht];simp [Gd]
   ·rename_i g b hl;obtain ⟨h1,h2⟩:=h.slots t _ hl;split
    ·rename_i hbw;have hbw':b=want:=by simpa using hbw
     refine ⟨fun g' hg=>?_,fun hg=>by cases hg⟩;simp only [Option.some.injEq,GRes.run.injEq] at hg;subst hg;rw [hwd t ht];constructor
     ·intro hv p hp
      rcases List.mem_cons.1 hp with rfl |hp
      ·exact hv
      ·by_cases hG:Gd a.tmps g
       ·exact hG p hp
       ·rw [h2 hG] at hv;cases hv
     ·intro hG;exact hG (t,want) (List.mem_cons_self ..)
    ·rename_i hbw;refine ⟨fun g hg=>(by cases hg),fun _=>nope t ht ?_⟩;intro e
     by_cases hG:Gd a.tmps g
     ·have h3:=h1 hG;rw [e] at h3;have h4:want=b:=Value.bool.inj h3
      apply hbw
      simp [h4]
     ·rw [h2 hG] at e;cases e
   ·rename_i g b hl;obtain ⟨h1,h2⟩:=h.slots t _ hl;refine ⟨fun g' hg=>?_,fun hg=>by cases hg⟩;simp only [Option.some.injEq,GRes.run.injEq] at hg;subst hg;rw [hwd t ht];constructor
    ·intro hv p hp
     rcases List.mem_cons.1 hp with rfl |hp
     ·exact hv
     ·by_cases hG:Gd a.tmps g
      ·exact hG p hp
      ·rw [h2 hG] at hv;cases hv
    ·intro hG;exact hG (t,want) (List.mem_cons_self ..)
   ·rename_i hl;obtain ⟨vs,hv,ht'⟩:=h.slots t _ hl;refine ⟨fun g hg=>(by cases hg),fun _=>nope t ht ?_⟩;rw [hv];intro e;cases e
   ·exact ⟨fun g hg=>(by cases hg),fun hg=>(by cases hg)⟩
structure Rec where
 sv:SV
 vc:List Prop
 st:Heap:=[]
 nw:Heap:=[]
def guardVC (p:Prop):List Prop->List Prop
 | []=>[]
 |q::r=>(p->q)::guardVC p r
theorem guardVC_spec {p:Prop} (hp:p):∀ {l:List Prop},All (guardVC p l)->All l
 | [],_=>trivial
 |_::_,h=>⟨h.1 hp,guardVC_spec hp h.2⟩
def gmust (tm:Slots):List (Nat × Bool)->Option (List Prop)
 | []=>some []
 |(t,want)::r=>(match gmust tm r,look tm t with
  |some ps,some (.one (.sc (.bool b)))=>some ((b.v=want)::ps)
  |some ps,some (.cond g (.sc (.bool b)))=>if g.all (fun p=>pin p r) then some ((b.v=want)::ps) else none
  |_,_=>none)
theorem gmust_spec {ρ:Map} {nt:Nat} {tm:Slots} {a:Act} (h:AH ρ nt tm a):∀ {g:List (Nat × Bool)} {ps:List Prop},gmust tm g=some ps->All ps->Gd a.tmps g
 | [],_,_,_=>fun p hp=>by cases hp
 |(t,want)::r,ps,hg,hp=>by
  simp only [gmust] at hg
  split at hg
  ·rename_i qs b hq hl;obtain rfl:=by simpa using hg
   have hr:=gmust_spec h hq hp.2;intro p hm
   rcases List.mem_cons.1 hm with rfl |hm
   ·have hv:a.tmps.getD t undef = .bool b.v:=h.slots t _ hl;rw [hv,hp.1]
   ·exact hr p hm
  ·rename_i qs g b hq hl
   split at hg
   ·rename_i hall;obtain rfl:=by simpa using hg
    have hr:=gmust_spec h hq hp.2;intro p hm
    rcases List.mem_cons.1 hm with rfl |hm
    ·obtain ⟨h1,_⟩:=h.slots t _ hl;have hv:a.tmps.getD t undef = .bool b.v:=h1 fun p hp'=>hr p (pin_spec (List.all_eq_true.1 hall p hp'))
     rw [hv,hp.1]
    ·exact hr p hm
   ·cases hg
  ·cases hg
def sstepO (tt:TT) (C:Cons) (hp:Heap) (tm:Slots) (fr:Nat) (g:List (Nat × Bool)) (op:Op):Option Rec:=
 match g with
 | []=>(match sop tt C hp tm [] fr op with
   |some e=>if stOK hp e.nw e.st then some {sv:=e.val,vc:=e.vc,st:=e.st,nw:=e.nw} else none
   |none=>none)
 |p::g=>(match sop tt C hp tm (p::g) fr op with
  |some {val:=.one x,vc:=vc,st:=[],nw:=[]}=>some {sv:=.cond (p::g) x,vc:=guardVC (gcond tm (p::g)) vc}
  |some e=>(match gmust tm (p::g) with
   |some ps=>if stOK hp e.nw e.st then some {sv:=e.val,vc:=ps++e.vc,st:=e.st,nw:=e.nw} else none
   |none=>none)
  |none=>none)
def sstep (tt:TT) (C:Cons) (ops:Array Oper) (hp:Heap) (tm:Slots) (fr:Nat) (gu:Option (Nat × Bool)) (op:Op):Option Rec:=
 match sguard ops tm gu with
 |some .skip=>some {sv:=.tup [],vc:=[]}
 |some (.run g)=>(match nop tt C hp (evO tm g) fr op with
  |some e=>(match gmust tm g with |some ps=>some {sv:=e.val,vc:=ps++e.vc,st:=e.st,nw:=e.nw} |none=>none)
  |none=>sstepO tt C hp tm fr g op)
 |none=>none
def Rec.eff (r:Rec):Eff:={val:=r.sv,vc:=r.vc,st:=r.st,nw:=r.nw}
theorem fr_val {B:Nat} {ρ ρ':Map} {w w':World} {e f:Eff} (h:Fr B ρ ρ' w w' e) (h1:f.st=e.st) (h2:f.nw=e.nw):Fr B ρ ρ' w w' f:=by
 obtain ⟨a,b,c,d,e1,f1,g1,k1,l1⟩:=h;rw [<- h2] at b f1 g1 k1;rw [<- h1] at d e1 f1 k1;exact ⟨a,b,c,d,e1,f1,g1,k1,l1⟩
theorem ur_vrel {ρ:Map} {t:Array Value} {x:SV} {v:Value} (h:UR ρ x v):VRel ρ t x v:=by
 cases x with
 |one x=>exact h
 |tup l=>exact h
 |cond=>exact h.elim
 |junk=>exact h.elim
theorem sstep_spec {P:Program} {tt:TT} (htt:TTOK P tt) {C:Cons} (hC:CtxOK P C) {ops:Array Oper} {hp:Heap} {tm:Slots} {fr:Nat} {o:Oper} {r:Rec} (h:sstep tt C ops hp tm fr o.guard o.op=some r) (hvc:All r.vc) {ρ:Map} {nt:Nat} {a:Act} (hA:AH ρ nt tm a) {w0:W0} {w:World} (hw:WH w0 ρ hp w)
 (hfr:∀ id x,look r.nw id=some x -> ρ id=none) {K:Act->World->Prop} {Q:Exit->Act->World->Prop} (hK:∀ ρ' w' v,VRel ρ' a.tmps r.sv v->Stp w0 hp ρ ρ' w w' r.eff->K (a.put o.dst v) w') :
 if Region.wanted o (yielded ops a.tmps) then o.wp P a w K Q ∨ (o.asks P a w/\LetsOut Q) else K (a.put o.dst undef) w:=by
 obtain ⟨hs1,hs2⟩:=sguard_spec (ops:=ops) (o:=o) hA;unfold sstep at h
 split at h
 ·rename_i hg;obtain rfl:=by simpa using h
  rw [hs2 hg];simp only [Bool.false_eq_true,↓reduceIte];exact hK ρ w undef ⟨#[],rfl,trivial⟩ (stp_fr (fr_none _ _) rfl (fun _ _ h=>by simp [Rec.eff,look] at h))
 ·rename_i g hg
  split at h
  ·rename_i e he
   split at h
   ·rename_i ps hps;obtain rfl:=by simpa using h
    obtain ⟨hv1,hv2⟩:=all_append.1 hvc;have hG:=gmust_spec hA hps hv1;rw [if_pos ((hs1 _ hg).2 hG)];exact .inl (nop_spec htt he hv2 (evO_spec hA hG) hw hfr fun ρ' w' v h1 h2=>hK ρ' w' v (ur_vrel h1) ⟨h2.ext,h2.only,h2.mem⟩)
   ·cases h
  ·cases g with
   |nil=>
    unfold sstepO at h;dsimp only at h
    split at h
    ·rename_i e he
     split at h
     ·rename_i hst;obtain rfl:=by simpa using h
      have hG:Gd a.tmps []:=fun p hp=>by cases hp
      rw [if_pos ((hs1 _ hg).2 hG)];exact .inl (sop_spec htt hC he hvc hA hG hw hfr fun ρ' w' v h1 h2=>hK ρ' w' v (ur_vrel h1) (stp_fr (fr_val h2 rfl rfl) hst hfr))
     ·cases h
    ·cases h
   |cons p g=>
    unfold sstepO at h;dsimp only at h
    split at h
    ·rename_i x vc he;obtain rfl:=by simpa using h
     by_cases hG:Gd a.tmps (p::g)
     ·rw [if_pos ((hs1 _ hg).2 hG)];refine .inl (sop_spec htt hC he (guardVC_spec (gcond_spec hA hG) hvc) hA hG hw (fun id x hx=>by simp [look] at hx) fun ρ' w' v h1 h2=>hK ρ' w' v ?_ (stp_fr (fr_val h2 rfl rfl) rfl hfr));exact ⟨fun _=>h1,fun hn=>absurd hG hn⟩
     ·rw [if_neg (fun hq=>hG ((hs1 _ hg).1 hq))];exact hK ρ w undef ⟨fun hq=>absurd hq hG,fun _=>rfl⟩ (stp_fr (fr_none _ _) rfl hfr)
    ·rename_i e _ he
     split at h
     ·rename_i ps hps
      split at h
      ·rename_i hst;obtain rfl:=by simpa using h
       obtain ⟨hv1,hv2⟩:=all_append.1 hvc;have hG:=gmust_spec hA hps hv1;rw [if_pos ((hs1 _ hg).2 hG)];exact .inl (sop_spec htt hC he hv2 hA hG hw hfr fun ρ' w' v h1 h2=>hK ρ' w' v (ur_vrel h1) (stp_fr (fr_val h2 rfl rfl) hst hfr))
      ·cases h
     ·cases h
    ·cases h
 ·cases h
structure St where
 tm:Slots
 hp:Heap
 nx:Nat
structure SH (w0:W0) (nt:Nat) (s:St) (ρ:Map) (a:Act) (w:World):Prop where
 slots:AH ρ nt s.tm a
 mem:WH w0 ρ s.hp w
 fresh:∀ id,s.nx<=id -> ρ id=none
def nwIn (n:Nat):Heap->Bool
 | []=>true
 |(id,_)::r=>Nat.ble n id&&Nat.blt id (n+8)&&nwIn n r
theorem nwIn_spec {n:Nat}:∀ {h:Heap},nwIn n h=true->∀ id x,look h id=some x->n<=id/\id<n+8
 | [],_,id,x,h=>by simp [look] at h
 |(j,y)::r,hn,id,x,h=>by
  simp only [nwIn,Bool.and_eq_true] at hn;simp only [look] at h
  split at h
  ·rename_i hj;obtain rfl:j=id:=by simpa using hj
   exact ⟨Nat.le_of_ble_eq_true hn.1.1,by simpa [Nat.blt_eq] using hn.1.2⟩
  ·exact nwIn_spec hn.2 id x h
def strip:Slots->Slots
 | []=>[]
 |(t,.cond _ _)::r=>(t,.junk)::strip r
 |(t,x)::r=>(t,x)::strip r
theorem strip_look:∀ (tm:Slots) (t:Nat) x,look (strip tm) t=some x->x = .junk ∨ look tm t=some x
 | [],t,x,h=>by simp [strip,look] at h
 |(j,sv)::r,t,x,h=>by
  cases sv<;>simp only [strip,look] at h ⊢<;>split at h<;>first
   |(rename_i hj;rw [if_pos hj];exact .inr h)
   |(left;simpa using h.symm)
   |(rename_i hj;rw [if_neg hj];exact strip_look r t x h)
theorem ah_strip {ρ:Map} {nt:Nat} {tm:Slots} {a:Act} (h:AH ρ nt tm a):AH ρ nt (strip tm) a:=
 ⟨h.size,h.defers,fun t x ht=>by
   rcases strip_look tm t x ht with rfl |h'
   ·trivial
   ·exact h.slots t x h'⟩
def seqGo (tt:TT) (C:Cons) (nt:Nat) (ops:Array Oper):List Oper->St->Option (List Prop × St)
 | [],s=>some ([],{s with tm:=strip s.tm})
 |o::r,s=>match sstep tt C ops s.hp s.tm s.nx o.guard o.op with
  |some q=>if dOK nt s.tm o.dst q.sv&&nwIn s.nx q.nw then
    (match seqGo tt C nt ops r {tm:=putS o.dst q.sv s.tm,hp:=q.st++(q.nw++s.hp),nx:=s.nx+8} with
    |some (ps,s')=>some (q.vc++ps,s')
    |none=>none) else none
  |none=>none
theorem seqGo_spec {P:Program} {tt:TT} (htt:TTOK P tt) {C:Cons} (hC:CtxOK P C) {nt:Nat} {ops:Array Oper} {w0:W0} {Q:Exit->Act->World->Prop}:∀ (l:List Oper) (s s':St) (ps:List Prop),seqGo tt C nt ops l s=some (ps,s')->All ps ->
 ∀ ρ a w,SH w0 nt s ρ a w->(∀ ρ' a' w',SH w0 nt s' ρ' a' w'->Q .normal a' w')->wpList P ops Q l a w
 | [],s,s',ps,h,hp,ρ,a,w,hs,hQ=>by
   simp only [seqGo,Option.some.injEq,Prod.mk.injEq] at h;obtain ⟨rfl,rfl⟩:=h;exact hQ ρ a w ⟨ah_strip hs.slots,hs.mem,hs.fresh⟩
 |o::r,s,s',ps,h,hp,ρ,a,w,hs,hQ=>by
  simp only [seqGo] at h
  split at h
  ·rename_i q hq
   split at h
   ·rename_i hok;simp only [Bool.and_eq_true] at hok
    split at h
    ·rename_i ps' s1 hr;simp only [Option.some.injEq,Prod.mk.injEq] at h;obtain ⟨rfl,rfl⟩:=h;obtain ⟨hp1,hp2⟩:=all_append.1 hp;have hnw:=nwIn_spec hok.2;have hfr:∀ id x,look q.nw id=some x -> ρ id=none:=fun id x hx=>hs.fresh id (hnw id x hx).1
     have:=(sstep_spec (K:=wpList P ops Q r) (Q:=Q) htt hC hq hp1 hs.slots hs.mem hfr (fun ρ' w' v h1 h2=>
      seqGo_spec htt hC r _ s1 ps' hr hp2 ρ' (a.put o.dst v) w' ⟨ah_step hs.slots h2.ext hok.1 h1,h2.mem _ hs.mem (fun _ _ h=>.inr h),fun id hid=>by
       have hn:look q.eff.nw id=none:=by
        cases hl:look q.nw id with
        |none=>exact hl
        |some x=>have:=(hnw id x hl).2;exact absurd hid (by show ¬ s.nx+8<=id;omega)
       rw [h2.only id hn];exact hs.fresh id (by have:s.nx+8<=id:=hid;omega)⟩ hQ))
     unfold wpList;exact this
    ·cases h
   ·cases h
  ·cases h
theorem wh_sub {w0:W0} {w:World} {ρ:Map} {h k:Heap} (hw:WH w0 ρ h w) (hs:∀ id e,look k id=some e->look h id=some e):WH w0 ρ k w:=
 ⟨hw.below,fun id e he=>hw.ents id e (hs id e he),fun i j e f hi hj a b c=>hw.apart i j e f (hs i e hi) (hs j f hj) a b c,hw.froz,hw.sub,hw.mu0,hw.f00,hw.old,hw.anc,hw.tab,lin_sub hw.lin fun id e he=>.inr (hs id e he)⟩
theorem ah_sub {ρ:Map} {nt:Nat} {tm tn:Slots} {a:Act} (h:AH ρ nt tm a) (hs:∀ t x,look tn t=some x->x = .junk ∨ look tm t=some x):AH ρ nt tn a:=
 ⟨h.size,h.defers,fun t x ht=>by
   rcases hs t x ht with rfl |h'
   ·trivial
   ·exact h.slots t x h'⟩
def ancStep (acc:List Nat) (o:Oper):Nat:=o.after.toList.foldl (fun s e=>if Region.binds .any e then s ||| 2 ^ e.on |||acc.getD e.on 0 else s) 0
def ancs:List Oper->List Nat->List Nat
 | [],acc=>acc
 |o::r,acc=>ancs r (acc++[ancStep acc o])
def mkS (f:Nat->Option SV):List (Nat × Option Nat)->Slots->Slots
 | [],tm=>tm
 |(j,d)::r,tm=>match d,f j with
  |some d,some x=>(d,x)::mkS f r tm
  |_,_=>mkS f r tm
theorem mkS_sub {f g:Nat->Option SV} (tm:Slots):∀ (l:List (Nat × Option Nat)),(∀ p∈l,f p.1=some .junk ∨ f p.1=g p.1)->∀ t x,look (mkS f l tm) t=some x->x = .junk ∨ look (mkS g l tm) t=some x
 | [],_,t,x,h=>.inr h
 |(j,d)::r,hf,t,x,h=>by
  have ih:=mkS_sub (f:=f) (g:=g) tm r (fun p hp=>hf p (List.mem_cons_of_mem _ hp)) t x;have hj:=hf (j,d) (List.mem_cons_self ..);dsimp only at hj
  cases d with
  |none=>simp only [mkS] at h ⊢;exact ih h
  |some d=>
   simp only [mkS] at h ⊢
   cases hfj:f j with
   |none=>
    rw [hfj] at h hj;have hgj:g j=none:=by
     rcases hj with hj |hj
     ·cases hj
     ·exact hj.symm
    rw [hgj];exact ih h
   |some y=>
    rw [hfj] at h hj;simp only [look] at h
    split at h
    ·rename_i hdt;obtain rfl:=by simpa using h
     rcases hj with hj |hj
     ·left;simpa using hj
     ·right;rw [<- hj];simp only [look];rw [if_pos hdt]
    ·rename_i hdt
     rcases ih h with h' |h'
     ·exact .inl h'
     ·right
      cases hgj:g j with
      |none=>exact h'
      |some z=>simp only [look];rw [if_neg hdt];exact h'
def upd (f:Nat->Option SV) (i:Nat) (x:SV):Nat->Option SV:=fun j=>if j=i then some x else f j
theorem mkS_ne {f:Nat->Option SV} {i d:Nat} {x:SV} (tm:Slots) {t:Nat} (ht:d≠t):∀ (l:List (Nat × Option Nat)),(∀ p∈l,p.1=i->p.2=some d)->look (mkS (upd f i x) l tm) t=look (mkS f l tm) t
 | [],_=>rfl
 |(j,e)::r,h2=>by
  have ih:=mkS_ne (f:=f) (i:=i) (x:=x) tm ht r (fun p hp=>h2 p (List.mem_cons_of_mem _ hp));have hne:(d==t)=false:=by simpa using ht
  cases e with
  |none=>simp only [mkS];exact ih
  |some e=>
   by_cases hj:j=i
   ·have:some e=some d:=h2 (j,some e) (List.mem_cons_self ..) hj;obtain rfl:e=d:=by simpa using this
    simp only [mkS];have hu:upd f i x j=some x:=by simp [upd,hj]
    rw [hu];simp only [look,hne,Bool.false_eq_true,↓reduceIte];rw [ih]
    cases f j with
    |none=>rfl
    |some z=>simp only [look,hne,Bool.false_eq_true,↓reduceIte]
   ·simp only [mkS];have hu:upd f i x j=f j:=by simp [upd,hj]
    rw [hu]
    cases f j with
    |none=>exact ih
    |some z=>simp only [look];rw [ih]
theorem mkS_eq {f:Nat->Option SV} {i d:Nat} {x:SV} (tm:Slots):∀ (l:List (Nat × Option Nat)),(i,some d)∈l->(∀ p∈l,p.2=some d->p.1=i)->look (mkS (upd f i x) l tm) d=some x
 | [],h,_=>by cases h
 |(j,e)::r,h,h1=>by
  by_cases he:e=some d
  ·subst he;have:j=i:=h1 (j,some d) (List.mem_cons_self ..) rfl;simp only [mkS];have hu:upd f i x j=some x:=by simp [upd,this]
   rw [hu];simp [look]
  ·have hm:(i,some d)∈r:=by
    rcases List.mem_cons.1 h with hh |hh
    ·exact absurd (congrArg Prod.snd hh).symm he
    ·exact hh
   have ih:=mkS_eq (f:=f) (x:=x) tm r hm (fun p hp=>h1 p (List.mem_cons_of_mem _ hp))
   cases e with
   |none=>simp only [mkS];exact ih
   |some e=>
    have hne:(e==d)=false:=by simp only [beq_eq_false_iff_ne];intro q;exact he (by rw [q])
    simp only [mkS]
    cases upd f i x j with
    |none=>exact ih
    |some z=>simp only [look,hne,Bool.false_eq_true,↓reduceIte];exact ih
theorem mkS_upd {f:Nat->Option SV} {i d:Nat} {x:SV} (tm:Slots) (l:List (Nat × Option Nat)) (hm:(i,some d)∈l) (h1:∀ p∈l,p.2=some d->p.1=i) (h2:∀ p∈l,p.1=i->p.2=some d) (t:Nat):look (mkS (upd f i x) l tm) t=look ((d,x)::mkS f l tm) t:=by
 by_cases ht:d=t
 ·subst ht;rw [mkS_eq tm l hm h1];simp [look]
 ·rw [mkS_ne tm ht l h2];have hne:(d==t)=false:=by simpa using ht
  simp only [look,hne,Bool.false_eq_true,↓reduceIte]
theorem mkS_upd_none {f:Nat->Option SV} {i:Nat} {x:SV} (tm:Slots):∀ (l:List (Nat × Option Nat)),(∀ p∈l,p.1=i->p.2=none)->mkS (upd f i x) l tm=mkS f l tm
 | [],_=>rfl
 |(j,e)::r,h2=>by
  have ih:=mkS_upd_none (f:=f) (i:=i) (x:=x) tm r (fun p hp=>h2 p (List.mem_cons_of_mem _ hp))
  cases e with
  |none=>simp only [mkS];exact ih
  |some e=>
   by_cases hj:j=i
   ·have:=h2 (j,some e) (List.mem_cons_self ..) hj
    cases this
   ·simp only [mkS];have hu:upd f i x j=f j:=by simp [upd,hj]
    rw [hu,ih]
def onto (o:Option Heap) (hp:Heap):Heap:=match o with |some h=>h++hp |none=>hp
def mkH (f:Nat->Option Heap):List Nat->Heap->Heap
 | [],hp=>hp
 |j::r,hp=>mkH f r (onto (f j) hp)
def tch (h:Option Heap) (id:Nat):Bool:=match h with |some h=>(look h id).isSome |none=>false
theorem onto_un {o:Option Heap} {hp:Heap} {id:Nat} (h:tch o id=false):look (onto o hp) id=look hp id:=by
 cases o with
 |none=>rfl
 |some x=>
  simp only [onto,look_append];simp only [tch] at h
  cases hx:look x id with
  |none=>rfl
  |some z=>rw [hx] at h;cases h
theorem onto_congr {o:Option Heap} {hp hq:Heap} {id:Nat} (h:look hp id=look hq id):look (onto o hp) id=look (onto o hq) id:=by
 cases o with
 |none=>exact h
 |some x=>simp only [onto,look_append,h]
theorem mkH_same {f g:Nat->Option Heap} (id:Nat):∀ (l:List Nat) (h k:Heap),look h id=look k id->(∀ j∈l,f j=g j ∨ (tch (f j) id=false/\tch (g j) id=false))->look (mkH f l h) id=look (mkH g l k) id
 | [],h,k,he,_=>he
 |j::r,h,k,he,hl=>by
  simp only [mkH];refine mkH_same id r _ _ ?_ (fun p hp=>hl p (List.mem_cons_of_mem _ hp))
  rcases hl j (List.mem_cons_self ..) with hj |⟨h1,h2⟩
  ·rw [hj];exact onto_congr he
  ·rw [onto_un h1,onto_un h2];exact he
theorem mkH_upd {f:Nat->Option Heap} {i:Nat} {h:Heap} (id:Nat):∀ (l:List Nat) (hp:Heap),i∈l->l.Nodup->f i=none->(tch (some h) id=true->∀ j∈l,j≠i->tch (f j) id=true->j<i)->l.Pairwise (· < ·) ->
 look (mkH (fun j=>if j=i then some h else f j) l hp) id=look (h++mkH f l hp) id
 | [],hp,hi,_,_,_,_=>by cases hi
 |j::r,hp,hi,hn,hf,ht,hl=>by
  have hn':=List.nodup_cons.1 hn;have hl':=List.pairwise_cons.1 hl
  by_cases hj:j=i
  ·subst hj;simp only [mkH,↓reduceIte,hf];show look (mkH (fun k=>if k=j then some h else f k) r (h++hp)) id=look (h++mkH f r hp) id;have e1:mkH (fun k=>if k=j then some h else f k) r (h++hp)=mkH f r (h++hp):=by
    have:∀ (l:List Nat) (q:Heap),j ∉ l->mkH (fun k=>if k=j then some h else f k) l q=mkH f l q:=by
     intro l
     induction l with
     |nil=>intro q _;rfl
     |cons a l ih=>
      intro q hq;have ha:a≠j:=fun e=>hq (by rw [e];exact List.mem_cons_self ..)
      simp only [mkH,ha,↓reduceIte];exact ih _ (fun e=>hq (List.mem_cons_of_mem _ e))
    exact this r _ hn'.1
   rw [e1]
   cases hc:look h id with
   |none=>
    rw [look_append,hc];dsimp only;refine mkH_same id r _ _ ?_ (fun _ _=>.inl rfl)
    rw [look_append,hc]
   |some z=>
    rw [look_append,hc];dsimp only;have hno:∀ k∈r,tch (f k) id=false:=fun k hk=>by
     cases hq:tch (f k) id with
     |false=>rfl
     |true=>
      have:=ht (by simp [tch,hc]) k (List.mem_cons_of_mem _ hk) (fun e=>hn'.1 (by rw [<- e];exact hk)) hq;have:=hl'.1 k hk;omega
    have:∀ (l:List Nat) (q:Heap),(∀ k∈l,tch (f k) id=false)->look (mkH f l q) id=look q id:=by
     intro l
     induction l with
     |nil=>intro q _;rfl
     |cons a l ih=>
      intro q hq;simp only [mkH];rw [ih _ (fun k hk=>hq k (List.mem_cons_of_mem _ hk)),onto_un (hq a (List.mem_cons_self ..))]
    rw [this r _ hno,look_append,hc]
  ·have hi':i∈r:=by
    rcases List.mem_cons.1 hi with e |e
    ·exact absurd e.symm hj
    ·exact e
   simp only [mkH,hj,↓reduceIte];exact mkH_upd id r _ hi' hn'.2 hf (fun h1 k hk hne h2=>ht h1 k (List.mem_cons_of_mem _ hk) hne h2) hl'.2
def idxs:List Oper->Nat->List (Nat × Option Nat)
 | [],_=>[]
 |o::r,i=>(i,o.dst)::idxs r (i+1)
theorem idxs_mem:∀ (l:List Oper) (i:Nat) (p:Nat × Option Nat),p∈idxs l i ↔ ∃ j o,l[j]? = some o/\p=(i+j,o.dst)
 | [],i,p=>by simp [idxs]
 |o::r,i,p=>by
  simp only [idxs,List.mem_cons,idxs_mem r (i+1) p];constructor
  ·rintro (rfl |⟨j,o',h,rfl⟩)
   ·exact ⟨0,o,rfl,by simp⟩
   ·exact ⟨j+1,o',by simpa using h,by simp;omega⟩
  ·rintro ⟨j,o',h,rfl⟩
   cases j with
   |zero=>left;simp at h;subst h;simp
   |succ j=>right;exact ⟨j,o',by simpa using h,by simp;omega⟩
def Rec.heap (r:Rec):Heap:=r.st++r.nw
def bit (ms:List Nat) (i j:Nat):Bool:=(ms.getD i 0).testBit j
def vS (ms:List Nat) (recs:List Rec) (i j:Nat):Option SV:=if Nat.beq j i then none else if bit ms i j then (match recs[j]? with |some r=>some r.sv |none=>some .junk) else if bit ms j i then none else some .junk
def vH (ms:List Nat) (recs:List Rec) (i j:Nat):Option Heap:=if bit ms i j then (match recs[j]? with |some r=>some r.heap |none=>none) else none
def nin (id:Nat) (l:List Nat):Bool:=l.any (Nat.beq id)
def remI (rm:List Nat):Heap->Heap
 | []=>[]
 |(id,e)::r=>if nin id rm then (id,.gone)::remI rm r else (id,e)::remI rm r
theorem remI_look (rm:List Nat):∀ (h:Heap) (id:Nat) e,look (remI rm h) id=some e->e = .gone ∨ (nin id rm=false/\look h id=some e)
 | [],id,e,h=>by simp [remI,look] at h
 |(j,x)::r,id,e,h=>by
  simp only [remI] at h
  split at h<;>simp only [look] at h ⊢<;>split at h
  ·left;simpa using h.symm
  ·rename_i hj;rw [if_neg hj];exact remI_look rm r id e h
  ·rename_i hn hj;obtain rfl:j=id:=by simpa using hj
   right;rw [if_pos hj];exact ⟨by simpa using hn,h⟩
  ·rename_i hj;rw [if_neg hj];exact remI_look rm r id e h
def unord (ms:List Nat) (gs:List (List Nat)) (i:Nat):List Nat->List Nat
 | []=>[]
 |j::r=>if Nat.beq j i ||bit ms i j ||bit ms j i then unord ms gs i r else gs.getD j []++unord ms gs i r
theorem unord_mem {ms:List Nat} {gs:List (List Nat)} {i id:Nat}:∀ {l:List Nat},nin id (unord ms gs i l)=false->∀ j∈l,j≠i->bit ms i j=false->bit ms j i=false->nin id (gs.getD j [])=false
 | [],_,j,hj,_,_,_=>by cases hj
 |k::r,h,j,hj,hne,h1,h2=>by
  simp only [unord] at h
  rcases List.mem_cons.1 hj with rfl |hj
  ·rw [if_neg (by simp [h1,h2];omega)] at h;simp only [nin,List.any_append,Bool.or_eq_false_iff] at h;exact h.1
  ·split at h
   ·exact unord_mem h j hj hne h1 h2
   ·simp only [nin,List.any_append,Bool.or_eq_false_iff] at h;exact unord_mem (by simpa [nin] using h.2) j hj hne h1 h2
def keysIn (h:Heap) (g:List Nat):Bool:=h.all fun p=>nin p.1 g
theorem keysIn_spec {g:List Nat}:∀ {h:Heap},keysIn h g=true->∀ id,(look h id).isSome=true->nin id g=true
 | [],_,id,h=>by simp [look] at h
 |(j,x)::r,hk,id,h=>by
  simp only [keysIn,List.all_cons,Bool.and_eq_true] at hk;simp only [look] at h
  split at h
  ·rename_i hj;obtain rfl:j=id:=by simpa using hj
   exact hk.1
  ·exact keysIn_spec (h:=r) (by simpa [keysIn] using hk.2) id h
def svGs:SV->List (Nat × Bool) | .cond g _=>g |_=>[]
def noCond:Slots->Bool
 | []=>true
 |(_,.cond _ _)::_=>false
 |_::r=>noCond r
theorem noCond_spec:∀ {tm:Slots},noCond tm=true->∀ t g x,look tm t≠some (.cond g x)
 | [],_,t,g,x=>by simp [look]
 |(j,sv)::r,h,t,g,x=>by
  intro hl;simp only [look] at hl
  split at hl
  ·obtain rfl:=by simpa using hl
   simp [noCond] at h
  ·refine noCond_spec (tm:=r) ?_ t g x hl
   cases sv<;>first |exact h |(simp [noCond] at h)
structure DIn where
 s:St
 ms:List Nat
 gs:List (List Nat)
 l:List Oper
def DIn.n (d:DIn):Nat:=d.l.length
def DIn.tmv (d:DIn) (recs:List Rec) (i:Nat):Slots:=mkS (vS d.ms recs i) (idxs d.l 0) d.s.tm
def DIn.hpv (d:DIn) (recs:List Rec) (i:Nat):Heap:=remI (unord d.ms d.gs i (List.range d.n)) (mkH (vH d.ms recs i) (List.range d.n) d.s.hp)
def dchk (nt:Nat) (d:Option Nat) (sv:SV):Bool:=match d with |some t=>Nat.blt t nt&&(svGs sv).all (fun p=>!Nat.beq p.1 t) |none=>true
def drawGo (tt:TT) (C:Cons) (nt:Nat) (ops:Array Oper) (d:DIn):List Oper->Nat->List Rec->Option (List Rec)
 | [],_,recs=>some recs
 |o::r,i,recs=>match sstep tt C ops (d.hpv recs i) (d.tmv recs i) (d.s.nx+8*i) o.guard o.op with
  |some q=>if nwIn (d.s.nx+8*i) q.nw&&keysIn q.heap (d.gs.getD i [])&&dchk nt o.dst q.sv then drawGo tt C nt ops d r (i+1) (recs++[q]) else none
  |none=>none
def edgesOK:List Oper->Nat->Bool
 | [],_=>true
 |o::r,i=>(o.after.toList.all fun e=>!Region.binds .any e ||Nat.blt e.on i)&&edgesOK r (i+1)
def dstsOK:List Oper->Bool
 | []=>true
 |o::r=>(match o.dst with |some t=>r.all (fun q=>match q.dst with |some u=>!Nat.beq t u |none=>true) |none=>true)&&dstsOK r
def disj (a b:List Nat):Bool:=a.all fun x=>!nin x b
def pairsOK (d:DIn):Bool:=(List.range d.n).all fun j=>(List.range j).all fun i=>bit d.ms j i ||disj (d.gs.getD i []) (d.gs.getD j [])
def guardsOK (d:DIn) (recs:List Rec):Bool:=(List.range d.n).all fun k=>(match recs[k]? with
 |some q=>(svGs q.sv).all fun p=>(idxs d.l 0).all fun e=>(match e.2 with |some t=>!Nat.beq p.1 t ||bit d.ms k e.1 |none=>true)
 |none=>true)
def vcs:List Rec->List Prop
 | []=>[]
 |r::l=>r.vc++vcs l
def drawR (tt:TT) (C:Cons) (nt:Nat) (l:List Oper) (gs:List (List Nat)) (s:St):Option (List Prop × St):=
 let d:DIn:={s:=s,ms:=ancs l [],gs:=gs,l:=l}
 if edgesOK l 0&&dstsOK l&&pairsOK d&&noCond s.tm then
  (match drawGo tt C nt l.toArray d l 0 [] with
  |some recs=>if guardsOK d recs then some (vcs recs,{tm:=strip (mkS (fun j=>match recs[j]? with |some r=>some r.sv |none=>none) (idxs l 0) s.tm),hp:=mkH (fun j=>match recs[j]? with |some r=>some r.heap |none=>none) (List.range l.length) s.hp,nx:=s.nx+8*l.length}) else none
  |none=>none)
 else none
theorem testBit_two (e k:Nat):(2 ^ e).testBit k=decide (e=k):=Nat.testBit_two_pow
theorem ancStep_bit (acc:List Nat) (o:Oper) (k:Nat):(ancStep acc o).testBit k=true ↔ ∃ e∈o.after.toList,Region.binds .any e=true/\(k=e.on ∨ (acc.getD e.on 0).testBit k=true):=by
 have key:∀ (l:List Edge) (s:Nat),(l.foldl (fun s e=>if Region.binds .any e then s ||| 2 ^ e.on |||acc.getD e.on 0 else s) s).testBit k=true↔s.testBit k=true ∨ ∃ e∈l,Region.binds .any e=true/\(k=e.on ∨ (acc.getD e.on 0).testBit k=true):=by
  intro l
  induction l with
  |nil=>intro s;simp
  |cons e r ih=>
   intro s;rw [List.foldl_cons,ih]
   by_cases hb:Region.binds .any e=true
   ·rw [if_pos hb];simp only [Nat.testBit_or,testBit_two,Bool.or_eq_true,decide_eq_true_eq,List.mem_cons,exists_eq_or_imp,hb,true_and];constructor
    ·rintro (((h |h) |h) |h)
     ·exact .inl h
     ·exact .inr (.inl (.inl h.symm))
     ·exact .inr (.inl (.inr h))
     ·exact .inr (.inr h)
    ·rintro (h |(h |h) |h)
     ·exact .inl (.inl (.inl h))
     ·exact .inl (.inl (.inr h.symm))
     ·exact .inl (.inr h)
     ·exact .inr h
   ·rw [if_neg hb];simp only [List.mem_cons,exists_eq_or_imp,hb,false_and,false_or,Bool.false_eq_true]
 unfold ancStep;rw [key]
 simp
theorem ancs_spec:∀ (l:List Oper) (acc:List Nat),(∃ t,ancs l acc=acc++t)/\∀ (j:Nat) o,l[j]? = some o->(ancs l acc).getD (acc.length+j) 0=ancStep ((ancs l acc).take (acc.length+j)) o
 | [],acc=>⟨⟨[],by simp [ancs]⟩,fun j o h=>by simp at h⟩
 |o::r,acc=>by
  obtain ⟨⟨t,ht⟩,ih⟩:=ancs_spec r (acc++[ancStep acc o]);have e:ancs (o::r) acc=ancs r (acc++[ancStep acc o]):=rfl;refine ⟨⟨ancStep acc o::t,by rw [e,ht];simp⟩,fun j o' h=>?_⟩
  cases j with
  |zero=>
   simp at h;subst h;rw [e,ht]
   simp
  |succ j=>
   have:=ih j o' (by simpa using h);simp only [List.length_append,List.length_cons,List.length_nil] at this;rw [e];have e2:acc.length+(j+1)=acc.length+(0+1)+j:=by omega
   rw [e2];exact this
theorem edgesOK_spec:∀ {l:List Oper} {i:Nat},edgesOK l i=true->∀ (j:Nat) o,l[j]? = some o->∀ e∈o.after.toList,Region.binds .any e=true->e.on<i+j
 | [],i,_,j,o,h=>by simp at h
 |q::r,i,hk,j,o,h=>by
  simp only [edgesOK,Bool.and_eq_true] at hk
  cases j with
  |zero=>
   simp at h;subst h;intro e he hb;have:=List.all_eq_true.1 hk.1 e he;simp only [hb,Bool.not_true,Bool.false_or,Nat.blt_eq] at this;omega
  |succ j=>
   intro e he hb;have:=edgesOK_spec hk.2 j o (by simpa using h) e he hb;omega
theorem bit_iff {l:List Oper} (hk:edgesOK l 0=true) {i:Nat} {o:Oper} (ho:l[i]? = some o) (k:Nat):bit (ancs l []) i k=true ↔ ∃ e∈o.after.toList,Region.binds .any e=true/\(k=e.on ∨ bit (ancs l []) e.on k=true):=by
 have h1:=(ancs_spec l []).2 i o ho;simp only [List.length_nil,Nat.zero_add] at h1;unfold bit;rw [h1,ancStep_bit];have hlt:∀ e∈o.after.toList,Region.binds .any e=true->((ancs l []).take i).getD e.on 0=(ancs l []).getD e.on 0:=fun e he hb=>by
  have:=edgesOK_spec hk i o ho e he hb;simp only [Nat.zero_add] at this;simp only [List.getD_eq_getElem?_getD];rw [List.getElem?_take_of_lt this]
 constructor
 ·rintro ⟨e,he,hb,h⟩;exact ⟨e,he,hb,by rw [<- hlt e he hb];exact h⟩
 ·rintro ⟨e,he,hb,h⟩;exact ⟨e,he,hb,by rw [hlt e he hb];exact h⟩
theorem ancs_len:∀ (l:List Oper) (acc:List Nat),(ancs l acc).length=acc.length+l.length
 | [],acc=>by simp [ancs]
 |o::r,acc=>by rw [show ancs (o::r) acc=ancs r (acc++[ancStep acc o]) from rfl,ancs_len];simp;omega
theorem bit_lt {l:List Oper} (hk:edgesOK l 0=true):∀ (i k:Nat),bit (ancs l []) i k=true->k<i:=by
 intro i
 induction i using Nat.strongRecOn with
 |_ i ih=>
  intro k h
  cases ho:l[i]? with
  |none=>
   have hl:(ancs l []).length<=i:=by
    rw [ancs_len];have:=List.getElem?_eq_none_iff.1 ho
    simpa using this
   unfold bit at h;rw [List.getD_eq_getElem?_getD,List.getElem?_eq_none hl] at h;simp at h
  |some o=>
   obtain ⟨e,he,hb,h'⟩:=(bit_iff hk ho k).1 h;have hlt:=edgesOK_spec hk i o ho e he hb;simp only [Nat.zero_add] at hlt
   rcases h' with rfl |h'
   ·exact hlt
   ·have:=ih e.on hlt k h';omega
theorem bit_closed {l:List Oper} (hk:edgesOK l 0=true) {D:Nat->Prop} (hD:∀ i o,l[i]? = some o->D i->∀ e∈o.after.toList,Region.binds .any e=true->D e.on):∀ (i k:Nat),i<l.length->D i->bit (ancs l []) i k=true->D k:=by
 intro i
 induction i using Nat.strongRecOn with
 |_ i ih=>
  intro k hi hDi h;have ho:=List.getElem?_eq_getElem hi;obtain ⟨e,he,hb,h'⟩:=(bit_iff hk ho k).1 h;have hlt:=edgesOK_spec hk i _ ho e he hb;simp only [Nat.zero_add] at hlt;have hDe:=hD i _ ho hDi e he hb
  rcases h' with rfl |h'
  ·exact hDe
  ·exact ih e.on hlt k (by omega) hDe h'
theorem drawGo_spec {tt:TT} {C:Cons} {nt:Nat} {ops:Array Oper} {d:DIn}:∀ (l:List Oper) (i:Nat) (r0 recs:List Rec),drawGo tt C nt ops d l i r0=some recs->r0.length=i->(∃ t,recs=r0++t)/\recs.length=i+l.length /\
 ∀ (j:Nat) o,l[j]? = some o->∃ q,recs[i+j]? = some q/\sstep tt C ops (d.hpv (recs.take (i+j)) (i+j)) (d.tmv (recs.take (i+j)) (i+j)) (d.s.nx+8*(i+j)) o.guard o.op=some q/\nwIn (d.s.nx+8*(i+j)) q.nw=true /\
   keysIn q.heap (d.gs.getD (i+j) [])=true/\dchk nt o.dst q.sv=true
 | [],i,r0,recs,h,hl=>by
   simp only [drawGo,Option.some.injEq] at h;subst h;exact ⟨⟨[],by simp⟩,by simpa using hl,fun j o h=>by simp at h⟩
 |o::r,i,r0,recs,h,hl=>by
  simp only [drawGo] at h
  split at h
  ·rename_i q hq
   split at h
   ·rename_i hok;simp only [Bool.and_eq_true] at hok;obtain ⟨⟨t,ht⟩,hlen,ih⟩:=drawGo_spec r (i+1) (r0++[q]) recs h (by simp [hl]);have htk:recs.take i=r0:=by rw [ht,<- hl];simp
    refine ⟨⟨q::t,by rw [ht];simp⟩,by rw [hlen];simp;omega,fun j o' ho=>?_⟩
    cases j with
    |zero=>
     simp at ho;subst ho;refine ⟨q,?_,?_,hok.1.1,hok.1.2,hok.2⟩
     ·rw [ht,<- hl];simp
     ·rw [show i+0=i from rfl,htk];exact hq
    |succ j=>
     have:=ih j o' (by simpa using ho);have e:i+(j+1)=i+1+j:=by omega
     rw [e];exact this
   ·cases h
  ·cases h
end Go.Proofs.YtplejbgafjpomaaGreatDoor.Sx
