import Derived.Test.YtplejbgafjpomaaGreatDoorZb5
set_option linter.unusedVariables false
set_option linter.unusedSimpArgs false
namespace Go.Proofs.YtplejbgafjpomaaGreatDoor.Sx
open Go.RowKit
structure Eff where
 val:SV
 vc:List Prop
 st:Heap:=[]
 nw:Heap:=[]
abbrev Con:=Heap->Nat->List SV->Option Eff
structure Ext (ρ ρ':Map):Prop where
 m:∀ id p,ρ id=some p -> ρ' id=some p
 cap:∀ id,(ρ id).isSome=true -> ρ'.cap id=ρ.cap id
 fz:FzLe ρ.fz ρ'.fz
 mu:ρ'.mu=ρ.mu
 f0:ρ'.f0=ρ.f0
theorem Ext.refl (ρ:Map):Ext ρ ρ:=⟨fun _ _ h=>h,fun _ _=>rfl,fun _ _ h=>h,rfl,rfl⟩
theorem Ext.at {ρ ρ':Map} (h:Ext ρ ρ') {id:Nat} (hi:(ρ id).isSome=true):(ρ' id).isSome=true /\ ρ'.blk id=ρ.blk id /\ ρ'.off id=ρ.off id/\∀ o,ρ'.at id o=ρ.at id o:=by
 obtain ⟨p,hp⟩:=Option.isSome_iff_exists.1 hi;have:=h.m id p hp;simp [Map.blk,Map.off,Map.at,hp,this]
theorem Ext.trans {a b c:Map} (h:Ext a b) (k:Ext b c):Ext a c:=
 ⟨fun id p hp=>k.m id p (h.m id p hp),fun id hi=>(k.cap id (h.at hi).1).trans (h.cap id hi),fun i cs hc=>k.fz i cs (h.fz i cs hc),k.mu.trans h.mu,k.f0.trans h.f0⟩
theorem crel_ext {ρ ρ':Map} (h:Ext ρ ρ') {x:SC} {v:Value} (hx:CRel ρ x v):CRel ρ' x v:=by
 cases x with
 |ptr id o=>
  obtain ⟨hi,rfl⟩:=hx;obtain ⟨h1,_,_,h2⟩:=h.at hi;exact ⟨h1,by rw [h2]⟩
 |slice id o n=>
  obtain ⟨A,c,rfl,hc,hA⟩:=hx;refine ⟨A,c,rfl,hc,?_⟩
  rcases hA with ⟨hi,rfl⟩ |h0
  ·obtain ⟨h1,_,_,h2⟩:=h.at hi;exact .inl ⟨h1,by rw [h2]⟩
  ·exact .inr h0
 |rows e d=>exact TRel.mono h.fz hx
 |fp e d i j=>
  obtain ⟨b,o,rfl,hr⟩:=hx;refine ⟨b,o,rfl,fun j' k hk=>?_⟩;obtain ⟨u,hu,ht⟩:=hr j' k hk;exact ⟨u,h.fz.cell hu,ht.mono h.fz⟩
 |osl e id lo n=>
  obtain ⟨A,c,rfl,hc,hA⟩:=hx;refine ⟨A,c,rfl,hc,?_⟩
  rcases hA with h0 |⟨rfl,hcap,hi⟩
  ·exact .inl h0
  ·obtain ⟨h1,h2,_⟩:=h.at hi;exact .inr ⟨by rw [h2],by rw [h.cap id hi];exact hcap,h1⟩
 |optr e id i j=>
  obtain ⟨hi,rfl⟩:=hx;obtain ⟨h1,h2,_⟩:=h.at hi;exact ⟨h1,by rw [h2]⟩
 |fn ag e p ok=>obtain ⟨z,hz,hq⟩:=hx;exact ⟨z,fun b cs hb=>h.fz b cs (hz b cs hb),hq⟩
 |bm g id=>
  obtain ⟨hi,rfl⟩:=hx;obtain ⟨h1,_,_,h2⟩:=h.at hi;exact ⟨h1,by rw [h2]⟩
 |_=>exact hx
theorem csrel_ext {ρ ρ':Map} (h:Ext ρ ρ') {l:List SC} {vs:List Value} (hx:CsRel ρ l vs):CsRel ρ' l vs:=⟨hx.1,fun i x v a b=>crel_ext h (hx.2 i x v a b)⟩
theorem v1_ext {ρ ρ':Map} (h:Ext ρ ρ') {x:V1} {v:Value} (hx:V1Rel ρ x v):V1Rel ρ' x v:=by
 cases x with
 |sc c=>exact crel_ext h hx
 |agg l=>obtain ⟨cs,rfl,hc⟩:=hx;exact ⟨cs,rfl,csrel_ext h hc⟩
theorem tup_ext {ρ ρ':Map} (h:Ext ρ ρ'):∀ {l:List V1} {vs:List Value},TupRel ρ l vs->TupRel ρ' l vs
 | [],[],_=>trivial
 | [],_::_,hx=>hx.elim
 |_::_,[],hx=>hx.elim
 |_::_,_::_,hx=>⟨v1_ext h hx.1,tup_ext h hx.2⟩
theorem ur_ext {ρ ρ':Map} (h:Ext ρ ρ') {x:SV} {v:Value} (hx:UR ρ x v):UR ρ' x v:=by
 cases x with
 |one x=>exact v1_ext h hx
 |tup l=>obtain ⟨vs,rfl,ht⟩:=hx;exact ⟨vs,rfl,tup_ext h ht⟩
 |cond=>exact hx.elim
 |junk=>exact hx.elim
theorem vrel_ext {ρ ρ':Map} (h:Ext ρ ρ') {t:Array Value} {x:SV} {v:Value} (hx:VRel ρ t x v):VRel ρ' t x v:=by
 cases x with
 |one x=>exact v1_ext h hx
 |tup l=>obtain ⟨vs,rfl,ht⟩:=hx;exact ⟨vs,rfl,tup_ext h ht⟩
 |cond g x=>exact ⟨fun hg=>v1_ext h (hx.1 hg),hx.2⟩
 |junk=>trivial
def Killed (ρ:Map) (st:Heap) (b:Nat):Prop:=∃ k,look st k=some .gone/\(ρ k).isSome=true/\b=ρ.blk k
structure Fr (B:Nat) (ρ ρ':Map) (w w':World) (e:Eff):Prop where
 ext:Ext ρ ρ'
 only:∀ id,look e.nw id=none -> ρ' id=ρ id
 below:Below 0 w w'
 keep:∀ b,b<w.heap.size->(∀ id x,look e.st id=some x->(ρ id).isSome=true -> ρ.blk id≠b)->w'.heap[b]? = w.heap[b]?
 st:∀ id x,look e.st id=some x->ERel B ρ' w' id x
 nw:∀ id x,look e.nw id=some x->ERel B ρ' w' id x/\((ρ' id).isSome=true->w.heap.size<=ρ'.blk id ∨ Killed ρ e.st (ρ'.blk id))/\x.isPl=true
 apart:∀ i j x y,look e.nw i=some x->look e.nw j=some y->i≠j->(ρ' i).isSome=true->(ρ' j).isSome=true -> ρ'.blk i≠ρ'.blk j
 fz:∀ b cs,ρ'.fz b=some cs -> ρ.fz b=some cs ∨ ((w.heap.size<=b ∨ Killed ρ e.st b)/\(∃ T z,w'.heap[b]? = some (.cells cs T z))/\∀ id x,look e.nw id=some x->(ρ' id).isSome=true -> ρ'.blk id≠b)
 kid:ρ'.kid=ρ.kid
def ArgsRel (ρ:Map):List SV->List Value->Prop
 | [],[]=>True
 |x::l,v::vs=>UR ρ x v/\ArgsRel ρ l vs
 |_,_=>False
structure ConOK (P:Program) (f:FuncId) (c:Con):Prop where
 enters:∀ (args:Array Value) (w:World),(callFunc f args).run P w = .ok (.enter f args) w
 calls:∀ (hp:Heap) (fr:Nat) (args:List SV) (e:Eff),c hp fr args=some e->All e.vc->∀ (w0:W0) (w:World) (ρ:Map) (vs:List Value),WH w0 ρ hp w->(∀ id x,look e.nw id=some x -> ρ id=none)->ArgsRel ρ args vs ->
  Calls P f vs.toArray w fun en w'=>∃ ρ' v,en = .returned v/\UR ρ' e.val v/\Fr w0.heap.size ρ ρ' w w' e
 clo:∀ (hp:Heap) (fr:Nat) (caps:List SV) (e:Eff),c hp fr (.junk::caps)=some e->All e.vc->∀ (w0:W0) (w:World) (ρ:Map) (vs:List Value),WH w0 ρ hp w->ArgsRel ρ caps vs ->
  ∃ ρ',UR ρ' e.val (.func (.func f) #[] vs.toArray)/\Fr w0.heap.size ρ ρ' w w e
abbrev Cons:=FuncId->Option Con
def CtxOK (P:Program) (C:Cons):Prop:=∀ f c,C f=some c->ConOK P f c
def fnOfSV:Option SV->Option FuncId
 |some (.one (.sc (.raw (.func (.func f) a b))))=>if Nat.beq a.size 0&&Nat.beq b.size 0 then some f else none
 |_=>none
def calleeOf (ev:Operand->Option SV):Operand->Option FuncId
 | .func f=>some f
 |x=>fnOfSV (ev x)
def Ent.put:Ent->List Seg->Option Ent
 | .own T _,l=>some (.own T l)
 | .row T _,l=>some (.row T l)
 |_,_=>none
def segsSz (l:List Seg):Nat:=(l.map fun s=>(s.sz).getD 0).sum
theorem okSegs_cells {ρ:Map}:∀ (l:List Seg) (vs:List Value),okSegs l=true->CsRel ρ (cellsOf l) vs->∀ v∈vs,v.oneCell'=true:=by
 intro l vs ho hc v hv;obtain ⟨i,hi,rfl⟩:=List.getElem_of_mem hv;have hl:=hc.1;have hx:=hc.2 i (cellsOf l)[i] vs[i] (List.getElem?_eq_getElem (by omega)) (List.getElem?_eq_getElem hi);have key:∀ (l:List Seg),okSegs l=true->∀ x∈cellsOf l,okSc x=true:=by
  intro l
  induction l with
  |nil=>intro _ x hx;simp [cellsOf] at hx
  |cons s r ih=>
   intro ho x hx;rw [cellsOf_cons,List.mem_append] at hx
   cases s with
   |c y=>
    simp only [okSegs,Bool.and_eq_true] at ho
    rcases hx with hx |hx
    ·simp only [Seg.cells,List.mem_singleton] at hx;subst hx;exact ho.1
    ·exact ih ho.2 x hx
   |ints k n f=>
    simp only [okSegs] at ho
    rcases hx with hx |hx
    ·simp only [Seg.cells,List.mem_map] at hx;obtain ⟨o,_,rfl⟩:=hx;rfl
    ·exact ih ho x hx
 exact (okSc_one hx (key l ho _ (List.getElem_mem _))).1
theorem below0_alloc (w:World) (o:Obj):Below 0 w (w.alloc o):=(Below.refl 0 w).alloc (Nat.zero_le _) o
def Map.set (ρ:Map) (id:Nat) (p:Nat × Nat) (c:Nat:=0):Map:={ρ with m:=fun j=>if j=id then some p else ρ j,cap:=fun j=>if j=id then c else ρ.cap j}
theorem set_at (ρ:Map) (id:Nat) (p:Nat × Nat) (c:Nat):(ρ.set id p c) id=some p:=by simp [Map.set]
theorem set_ne {ρ:Map} {id j:Nat} (h:j≠id) (p:Nat × Nat) (c:Nat):(ρ.set id p c) j=ρ j:=by simp [Map.set,h]
theorem set_ext {ρ:Map} {id:Nat} (h:ρ id=none) (p:Nat × Nat) (c:Nat:=0):Ext ρ (ρ.set id p c):=by
 have key:∀ j,(ρ j).isSome=true->j≠id:=fun j hj e=>by subst e;rw [h] at hj;cases hj
 refine ⟨fun j q hq=>?_,fun j hj=>?_,fun _ _ hc=>hc,rfl,rfl⟩
 ·rw [set_ne (key j (by rw [hq];rfl))];exact hq
 ·simp [Map.set,key j hj]
theorem Frozen.new {ρ:Map} {w:World} (h:Frozen ρ w) {b:Nat} (hb:w.heap.size<=b):ρ.fz b=none:=by
 cases hf:ρ.fz b with
 |none=>rfl
 |some cs=>
  obtain ⟨T,z,hh⟩:=h b cs hf;rw [Array.getElem?_eq_none hb] at hh;cases hh
theorem fr_new {B:Nat} {ρ:Map} {w w':World} {fr:Nat} {x:Ent} {c:Nat} {o:Obj} (hf:ρ fr=none) (hw:w'=w.alloc o ∨ w'=w.drew.alloc o) (hx:ERel B (ρ.set fr (w.heap.size,0) c) w' fr x) (ho:x.isPl=true) (sv:SV) (vc:List Prop) :
 Fr B ρ (ρ.set fr (w.heap.size,0) c) w w' {val:=sv,vc:=vc,nw:=[(fr,x)]}:=by
 have hs:=set_at ρ fr (w.heap.size,0) c;have hb:(ρ.set fr (w.heap.size,0) c).blk fr=w.heap.size:=by simp [Map.blk,hs]
 have hlook:∀ id y,look [(fr,x)] id=some y->id=fr/\y=x:=fun id y hy=>by
  simp only [look] at hy
  split at hy
  ·rename_i he;exact ⟨(by simpa using he:fr=id).symm,by simpa using hy.symm⟩
  ·cases hy
 refine ⟨set_ext hf _ c,fun id hid=>?_,?_,?_,?_,?_,?_,fun b cs hc=>.inl hc,rfl⟩
 ·rw [set_ne];intro e;subst e;simp [look] at hid
 ·rcases hw with rfl |rfl
  ·exact below0_alloc _ _
  ·have:=below0_alloc w.drew o;exact ⟨this.os,this.tape,this.output,this.size,this.block⟩
 ·intro b hb' _
  rcases hw with rfl |rfl
  ·exact Below.heap_alloc _ _ _ hb'
  ·exact Below.heap_alloc _ _ _ hb'
 ·intro id x hx;simp [look] at hx
 ·intro id y hy;obtain ⟨rfl,rfl⟩:=hlook id y hy;exact ⟨hx,fun _=>.inl (by rw [hb];exact Nat.le_refl _),ho⟩
 ·intro i j y z hi hj hne;exact absurd ((hlook i y hi).1.trans (hlook j z hj).1.symm) hne
theorem fr_alloc {B:Nat} {ρ:Map} {w:World} {fr:Nat} {T:TypeId} {l:List Seg} {cs:Array Value} (hB:B<=w.heap.size) (hz:Frozen ρ w) (hf:ρ fr=none) (hc:CsRel ρ (cellsOf l) cs.toList) (sv:SV) (vc:List Prop) :
 Fr B ρ (ρ.set fr (w.heap.size,0)) w (w.alloc (.cells cs T)) {val:=sv,vc:=vc,nw:=[(fr,.own T l)]}:=by
 have hs:=set_at ρ fr (w.heap.size,0) 0;have hb:(ρ.set fr (w.heap.size,0)).blk fr=w.heap.size:=by simp [Map.blk,hs]
 have ho:(ρ.set fr (w.heap.size,0)).off fr=0:=by simp [Map.off,hs]
 have hx:ERel B (ρ.set fr (w.heap.size,0)) (w.alloc (.cells cs T)) fr (.own T l):=by
  refine ⟨by rw [hs];rfl,ho,⟨by rw [hb];exact .inl hB,by rw [hb];exact hz.new (Nat.le_refl _)⟩,cs.toList,csrel_ext (set_ext hf _) hc,?_⟩;rw [hb];show (w.heap.push _)[w.heap.size]? = _
  simp
 exact fr_new hf (.inl rfl) hx rfl sv vc
theorem fr_none {B:Nat} {ρ:Map} {w:World} (sv:SV) (vc:List Prop):Fr B ρ ρ w w {val:=sv,vc:=vc}:=
 ⟨Ext.refl ρ,fun _ _=>rfl,Below.refl 0 w,fun _ _ _=>rfl,fun _ _ h=>by simp [look] at h,fun _ _ h=>by simp [look] at h,fun _ _ _ _ h=>by simp [look] at h,fun _ _ h=>.inl h,rfl⟩
theorem cs_over_row {vs rest us:List Value} {o:Nat} (h:o+us.length<=vs.length):over (vs++rest) o us=over vs o us++rest:=over_left h
theorem store_run' {P:Program} {B:Nat} {ρ:Map} {hp:Heap} {w0:W0} {w:World} {id:Nat} {e e':Ent} {l l':List Seg} {o:SO} {ps:List Prop} (hw:WH w0 ρ hp w) (hB:B=w0.heap.size) (he:look hp id=some e) (hl:e.segs=some l)
 (hput:e.put l'=some e') {us:List Value} (H:∀ vs,CsRel ρ (cellsOf l) vs->o.v+us.length<=vs.length/\CsRel ρ (cellsOf l') (over vs o.v us)) (h1:∀ v∈us,v.oneCell'=true) {sv:SV} :
 ∃ w',(storeCells (ρ.at id o.v) us).run P w = .ok () w'/\Fr B ρ ρ w w' {val:=sv,vc:=ps,st:=[(id,e')]}:=by
 subst hB;have her:=hw.ents id e he;have key:∃ (T:TypeId) (vs rest:List Value),ρ.off id=0/\CsRel ρ (cellsOf l) vs/\w.heap[ρ.blk id]? = some (.cells (vs++rest).toArray T (0,0)) /\
  ∀ (w':World) (vs':List Value),CsRel ρ (cellsOf l') vs'->w'.heap[ρ.blk id]? = some (.cells (vs'++rest).toArray T (0,0))->ERel w0.heap.size ρ w' id e':=by
  cases e with
  |own T m=>
   obtain rfl:m=l:=by simpa [Ent.segs] using hl
   obtain rfl:Ent.own T l'=e':=by simpa [Ent.put] using hput
   obtain ⟨g0,g1,g2,vs,g3,g4⟩:=her;exact ⟨T,vs,[],g1,g3,by simpa using g4,fun w' vs' h h'=>⟨g0,g1,g2,vs',h,by simpa using h'⟩⟩
  |row T m=>
   obtain rfl:m=l:=by simpa [Ent.segs] using hl
   obtain rfl:Ent.row T l'=e':=by simpa [Ent.put] using hput
   obtain ⟨g0,g1,g2,vs,rest,g3,g4⟩:=her;exact ⟨T,vs,rest,g1,g3,g4,fun w' vs' h h'=>⟨g0,g1,g2,vs',rest,h,h'⟩⟩
  |ro m=>simp [Ent.put] at hput
  |orow e d=>simp [Ent.put] at hput
  |gone=>simp [Ent.put] at hput
  |nrow c e d g=>simp [Ent.put] at hput
 obtain ⟨T,vs,rest,hoff,hvs,hh,hback⟩:=key;obtain ⟨hle,hrel⟩:=H vs hvs;have hat:ρ.at id o.v=⟨ρ.blk id,o.v,none⟩:=by simp [Map.at,hoff]
 have hst:=run_storeCells_at P (ρ.blk id) o.v T us 0 (vs++rest).toArray w hh (by simp;omega) h1;have hcs:((vs++rest).toArray.toList.take (o.v+0)++us++(vs++rest).toArray.toList.drop (o.v+0+us.length))=over vs o.v us++rest:=by
  rw [<- cs_over_row hle];simp [over]
 rw [hcs] at hst;refine ⟨_,by rw [hat];exact hst,?_⟩;have hsome:(ρ id).isSome=true:=by
  cases e with
  |own T m=>exact her.1
  |row T m=>exact her.1
  |ro m=>exact her.1
  |orow e d=>simp [Ent.put] at hput
  |gone=>simp [Ent.put] at hput
  |nrow c e d g=>simp [Ent.put] at hput
 refine ⟨Ext.refl ρ,fun _ _=>rfl,⟨rfl,rfl,rfl,by simp,fun k hk=>absurd hk (Nat.not_lt_zero k)⟩,?_,?_,fun _ _ h=>by simp [look] at h,fun _ _ _ _ h=>by simp [look] at h,fun _ _ h=>.inl h,rfl⟩
 ·intro b hb hne;exact setRow_other _ _ _ _ (fun e=>hne id e' (by simp [look]) hsome e.symm)
 ·intro j x hx;simp only [look] at hx
  split at hx
  ·rename_i hij;obtain rfl:id=j:=by simpa using hij
   obtain rfl:=by simpa using hx
   exact hback _ _ hrel (setRow_heap _ _ _ _ _ _ hh)
  ·cases hx
theorem store_run {P:Program} {B:Nat} {ρ:Map} {hp:Heap} {w0:W0} {w:World} {id:Nat} {e e':Ent} {l l' ss:List Seg} {o:SO} {ps:List Prop} (hw:WH w0 ρ hp w) (hB:B=w0.heap.size) (he:look hp id=some e) (hl:e.segs=some l) (hwr:wr1 l o ss=some (l',ps)) (hps:All ps)
 (hput:e.put l'=some e') {us:List Value} (hu:CsRel ρ (cellsOf ss) us) (h1:∀ v∈us,v.oneCell'=true) :
 ∃ w',(storeCells (ρ.at id o.v) us).run P w = .ok () w'/\Fr B ρ ρ w w' {val:=.tup [],vc:=ps,st:=[(id,e')]}:=
 store_run' hw hB he hl hput (fun _ hvs=>wrs_rel hwr hps hvs hu) h1
def cpF (o n:Nat) (f g:Nat->Int) (j:Nat):Int:=if (Nat.ble o j&&Nat.blt j (o+n))=true then f (j-o) else g j
def sCopy (tt:TT) (hp:Heap) (T:TypeId):SV->SV->Option Eff
 | .one (.sc (.slice id o n)),.one (.sc (.slice id2 o2 m))=>(match uD tt T with
   |some (.slice E)=>(match szT tt E,look hp id,look hp id2 with
    |some 1,some e1,some e2=>(match e1.segs,e2.segs with
     |some [.ints k1 (.lit N) g],some l2=>(match getI l2 o2 (Nat.min m.v n.v) with
      |some (k2,f,ps)=>if kEq k1 k2 then (match e1.put [.ints k1 (.lit N) (cpF o.v (Nat.min m.v n.v) f g)] with
       |some e'=>some {val:=.one (.sc (.int .i64 (.sym (Nat.min m.v n.v)))),vc:=(o.v+Nat.min m.v n.v<=N)::ps,st:=[(id,e')]}
       |none=>none) else none
      |none=>none)
     |_,_=>none)
    |_,_,_=>none)
   |_=>none)
 |_,_=>none
theorem cpF_zero (o:Nat) (f g:Nat->Int):cpF o 0 f g=g:=by
 funext j
 unfold cpF;rw [if_neg];simp only [Bool.and_eq_true,Nat.ble_eq,Nat.blt_eq];omega
theorem cp_rel {ρ:Map} {k:IntKind} {N o n:Nat} {f g:Nat->Int} {vs:List Value} (h:CsRel ρ (cellsOf [.ints k (.lit N) g]) vs) (hle:o+n<=N) :
 o+((List.range n).map fun j=>Value.int k (f j)).length<=vs.length/\CsRel ρ (cellsOf [.ints k (.lit N) (cpF o n f g)]) (over vs o ((List.range n).map fun j=>Value.int k (f j))):=by
 have hl:=h.1;simp only [cellsOf,List.flatMap_cons,List.flatMap_nil,List.append_nil,Seg.cells,SN.lv,List.length_map,List.length_range] at hl;have hle2:o+((List.range n).map fun j=>Value.int k (f j)).length<=vs.length:=by simp;omega
 refine ⟨hle2,?_,fun i x v hx hv=>?_⟩
 ·simp [cellsOf,Seg.cells,SN.lv,over];omega
 ·simp only [cellsOf,List.flatMap_cons,List.flatMap_nil,List.append_nil,Seg.cells,SN.lv,List.getElem?_map] at hx;have hi:i<N:=by
   rcases Nat.lt_or_ge i N with hi |hi
   ·exact hi
   ·rw [List.getElem?_eq_none (by simpa using hi)] at hx;cases hx
  rw [List.getElem?_range hi] at hx;simp only [Option.map_some,Option.some.injEq] at hx;subst hx;simp only [CRel,SI.sv];unfold over at hv
  by_cases h1:i<o
  ·rw [List.append_assoc,List.getElem?_append_left (by simp;omega),List.getElem?_take_of_lt h1] at hv;have:=h.2 i (.int k (.sym (g i))) v (by simp [cellsOf,Seg.cells,SN.lv,List.getElem?_range hi]) hv;rw [this];unfold cpF;rw [if_neg (by simp only [Bool.and_eq_true,Nat.ble_eq,Nat.blt_eq];omega)];rfl
  ·by_cases h2:i<o+n
   ·rw [List.getElem?_append_left (by simp;omega),List.getElem?_append_right (by simp;omega)] at hv;have e:i-(vs.take o).length=i-o:=by simp;omega
    rw [e,List.getElem?_map,List.getElem?_range (by omega)] at hv;simp only [Option.map_some,Option.some.injEq] at hv;rw [<- hv];unfold cpF;rw [if_pos (by simp only [Bool.and_eq_true,Nat.ble_eq,Nat.blt_eq];omega)]
   ·rw [List.getElem?_append_right (by simp;omega),List.getElem?_drop] at hv;have e:o+((List.range n).map fun j=>Value.int k (f j)).length+(i-(vs.take o++(List.range n).map fun j=>Value.int k (f j)).length)=i:=by simp;omega
    rw [e] at hv;have:=h.2 i (.int k (.sym (g i))) v (by simp [cellsOf,Seg.cells,SN.lv,List.getElem?_range hi]) hv;rw [this];unfold cpF;rw [if_neg (by simp only [Bool.and_eq_true,Nat.ble_eq,Nat.blt_eq];omega)];rfl
theorem sCopy_spec {P:Program} {tt:TT} (htt:TTOK P tt) {hp:Heap} {T:TypeId} {a b:SV} {e:Eff} (h:sCopy tt hp T a b=some e) (hvc:All e.vc) {ρ:Map} {w0:W0} {w:World} (hw:WH w0 ρ hp w) {x y:Value} (hx:UR ρ a x) (hy:UR ρ b y) {ats:Array TypeId} (hat:ats[0]? = some T) (ty:TypeId) :
 ∃ v w',(Builtin.copy_ ats ty #[x,y]).run P w = .ok v w'/\UR ρ e.val v/\Fr w0.heap.size ρ ρ w w' e:=by
 unfold sCopy at h
 split at h
 ·rename_i id o n id2 o2 m
  split at h
  ·rename_i E hT;obtain ⟨d,hT,hd⟩:=tt_u htt hT;obtain rfl:=u_slice hd
   split at h
   ·rename_i e1 e2 hsz he1 he2;obtain ⟨i,hi,hisz⟩:=tt_sz htt hsz
    split at h
    ·rename_i k1 N g l2 hs1 hs2
     split at h
     ·rename_i k2 f ps hg
      split at h
      ·rename_i hk;obtain rfl:=kEq_eq hk
       split at h
       ·rename_i e' hput;obtain rfl:=by simpa using h
        obtain ⟨hle,hps⟩:=hvc;obtain ⟨A,c,rfl,hc,hA⟩:=hx;obtain ⟨A2,c2,rfl,hc2,hA2⟩:=hy;have hsize:(sizeOf E).run P w = .ok 1 w:=by rw [run_sizeOf hi,hisz]
        have hcnt:Nat.min m.v n.v=0 ∨ Nat.min m.v n.v≠0:=by omega
        have hfirst:(Builtin.firstCells 1 (Nat.min m.v n.v) (.slice A2 m.v c2)).run P w = .ok ((List.range (Nat.min m.v n.v)).map fun j=>Value.int k1 (f j)).toArray w:=by
         rcases hA2 with ⟨hid2,rfl⟩ |⟨hm0,_⟩
         ·refine run_firstCells_some w 1 _ _ _ _ _ (by simp) fun j v hv=>?_
          obtain ⟨vs,hvs,hcell⟩:=ent_cells hw.froz (hw.ents id2 e2 he2) hs2;have hj:j<Nat.min m.v n.v:=by
           rcases Nat.lt_or_ge j (Nat.min m.v n.v) with h |h
           ·exact h
           ·rw [List.getElem?_eq_none (by simpa using h)] at hv;cases hv
          rw [List.getElem?_map,List.getElem?_range hj] at hv;simp only [Option.map_some,Option.some.injEq] at hv;obtain ⟨u,hu,hr⟩:=csrel_get hvs (getI_spec hg hps j hj);rw [at_add];rw [hcell _ _ hu];simp only [CRel,SI.sv] at hr;rw [hr,hv]
         ·have h0:Nat.min m.v n.v=0:=by rw [hm0];exact Nat.zero_min _
          rw [h0]
          cases A2<;>rfl
        have hrest:∀ (w':World),(match A with |some a=>storeCells a ((List.range (Nat.min m.v n.v)).map fun j=>Value.int k1 (f j)) |none=>(pure ():Sem Unit)).run P w = .ok () w'->(Builtin.copy_ ats ty #[.slice A n.v c,.slice A2 m.v c2]).run P w = .ok (goInt (Nat.min m.v n.v)) w':=fun w' h'=>by
         cases A with
         |none=>
          have hww:w=w':=by simpa using h'
          subst hww;simp only [Builtin.copy_,hat,List.getElem?_toArray,List.getElem?_cons_zero,List.getElem?_cons_succ,Sem.run_bind,run_underlying hT,Result.andThen_ok,Builtin.lenOf,Sem.run_pure,hsize,hfirst]
         |some a=>
          simp only at h'
          simp only [Builtin.copy_,hat,List.getElem?_toArray,List.getElem?_cons_zero,List.getElem?_cons_succ,Sem.run_bind,run_underlying hT,Result.andThen_ok,Builtin.lenOf,Sem.run_pure,hsize,hfirst,h']
        have hval:UR ρ (.one (.sc (.int .i64 (.sym ((Nat.min m.v n.v:Nat):Int))))) (goInt (Nat.min m.v n.v)):=rfl
        rcases hA with ⟨hid,rfl⟩ |⟨hn0,_⟩
        ·obtain ⟨w',h1,h2⟩:=store_run' (P:=P) (sv:=.one (.sc (.int .i64 (.sym ((Nat.min m.v n.v:Nat):Int))))) (ps:=(o.v+Nat.min m.v n.v<=N)::ps) hw rfl he1 hs1 hput (us:=(List.range (Nat.min m.v n.v)).map fun j=>Value.int k1 (f j)) (fun vs hvs=>cp_rel hvs hle) (fun v hv=>by
          obtain ⟨j,_,rfl⟩:=List.mem_map.1 hv
          rfl)
         exact ⟨_,w',hrest w' h1,hval,h2⟩
        ·have h0:Nat.min m.v n.v=0:=by rw [hn0];exact Nat.min_zero _
         have hee:e'=e1:=by
          rw [h0,cpF_zero] at hput
          cases e1<;>simp [Ent.segs,Ent.put] at hs1 hput<;>(subst hs1;exact hput.symm)
         refine ⟨_,w,hrest w ?_,hval,Ext.refl ρ,fun _ _=>rfl,Below.refl 0 w,fun _ _ _=>rfl,fun j z hj=>?_,fun _ _ h=>by simp [look] at h,fun _ _ _ _ h=>by simp [look] at h,fun _ _ h=>.inl h,rfl⟩
         ·rw [h0];cases A<;>rfl
         ·simp only [look] at hj
          split at hj
          ·rename_i hij;obtain rfl:id=j:=by simpa using hij
           obtain rfl:=by simpa using hj
           rw [hee];exact hw.ents id e1 he1
          ·cases hj
       ·cases h
      ·cases h
     ·cases h
    ·cases h
   ·cases h
  ·cases h
 ·cases h
def sBSlice (tt:TT) (fr:Nat) (t:TypeId) (len:Nat) (pv:List (Nat × SV)):Option Eff:=
 match uD tt t with
 |some (.slice E)=>(match szT tt E,zeroT tt E with
  |some 1,some [.c (.int k (.lit z))]=>if Nat.ble len 1000 then (match fillS (fun i=>some (i*1,1)) [.ints k (.lit len) (fun _=>z)] pv with
   |some (l,ps)=>some {val:=.one (.sc (.slice fr (.lit 0) (.lit len))),vc:=ps,nw:=[(fr,.own E l)]}
   |none=>none) else none
  |_,_=>none)
 |_=>none
theorem sBSlice_spec {P:Program} {tt:TT} (htt:TTOK P tt) {fr:Nat} {t:TypeId} {len:Nat} {pv:List (Nat × SV)} {e:Eff} (h:sBSlice tt fr t len pv=some e) (hvc:All e.vc) {ρ:Map} {w0:W0} {w:World} (hB:w0.heap.size<=w.heap.size) (hz:Frozen ρ w) (hfr:∀ id x,look e.nw id=some x -> ρ id=none)
 {parts:Array (Nat × Value)} (hl:pv.length=parts.toList.length) (hv:∀ (i:Nat) a b,pv[i]? = some a->parts.toList[i]? = some b->a.1=b.1/\UR ρ a.2 b.2) :
 ∃ v w',(Instr.buildSlice t len parts).run P w = .ok v w'/\UR (ρ.set fr (w.heap.size,0)) e.val v/\Fr w0.heap.size ρ (ρ.set fr (w.heap.size,0)) w w' e:=by
 unfold sBSlice at h
 split at h
 ·rename_i E hT;obtain ⟨d,hT,hd⟩:=tt_u htt hT;obtain rfl:=u_slice hd
  split at h
  ·rename_i k z hsz hzt;obtain ⟨i,hi,hisz⟩:=tt_sz htt hsz;obtain ⟨j,zv,hj,hzv,hc⟩:=tt_zero htt hzt
   split at h
   ·rename_i hlen;have hlen:=Nat.le_of_ble_eq_true hlen
    split at h
    ·rename_i l ps hf;obtain rfl:=by simpa using h
     have hzr:(zeroValue E).run P w = .ok zv w:=by simp [zeroValue,typeInfo,hj,hzv]
     have hcells:zv.cells=#[.int k z]:=by
      have h1:=hc ρ;obtain ⟨h2,h3⟩:=h1;simp only [cellsOf,List.flatMap_cons,List.flatMap_nil,List.append_nil,Seg.cells,List.length_singleton] at h2 h3
      apply Array.toList_inj.1
      obtain ⟨a,ha⟩:=List.length_eq_one_iff.1 h2.symm;rw [ha] at h3 ⊢;have:=h3 0 _ a rfl rfl;rw [this];rfl
     have hzero:(if len*1=0 then pure #[] else do pure (<- zeroValue E).cells:Sem (Array Value)).run P w = .ok (if len*1=0 then #[] else #[.int k z]) w:=by
      split
      ·rfl
      ·simp only [Sem.run_bind,hzr,Result.andThen_ok,hcells];rfl
     have hrep:((Array.range (len*1)).map fun q=>(if len*1=0 then (#[]:Array Value) else #[.int k z])[q%(if len*1=0 then (#[]:Array Value) else #[.int k z]).size]!)=((List.range len).map fun _=>Value.int k z).toArray:=by
      by_cases h0:len*1=0
      ·have:len=0:=by omega
       subst this;simp
      ·simp only [if_neg h0]
       apply Array.toList_inj.1
       simp [Nat.mod_one]
     have hcs:CsRel ρ (cellsOf [.ints k (.lit len) (fun _=>z)]) ((List.range len).map fun _=>Value.int k z):=by
      refine ⟨by simp [cellsOf,Seg.cells,SN.lv],fun q x v hx hv=>?_⟩;simp only [cellsOf,List.flatMap_cons,List.flatMap_nil,List.append_nil,Seg.cells,SN.lv,List.getElem?_map] at hx hv
      cases hr:(List.range len)[q]? with
      |none=>rw [hr] at hx;cases hx
      |some r=>
       rw [hr] at hx hv;simp only [Option.map_some,Option.some.injEq] at hx hv;subst hx hv;rfl
     obtain ⟨cells',h1,h2⟩:=fillS_spec pv parts.toList _ l ps ((List.range len).map fun _=>Value.int k z).toArray hf hvc hl hv (by simpa using hcs);have hno:¬ len*1>2 ^ 24:=by omega
     refine ⟨.slice (some ⟨w.heap.size,0,none⟩) len len,w.alloc (.cells cells' E),?_,?_,fr_alloc hB hz (hfr fr (.own E l) (by simp [look])) h2 _ _⟩
     ·simp only [Instr.buildSlice,Sem.run_bind,run_underlying hT,Result.andThen_ok,run_sizeOf hi,hisz,if_neg hno]
      by_cases h0:len*1=0
      ·simp only [if_pos h0] at hrep ⊢;simp only [Sem.run_bind,Sem.run_pure,Result.andThen_ok];rw [hrep,h1];rfl
      ·simp only [if_neg h0] at hrep ⊢;simp only [Sem.run_bind,hzr,hcells,Sem.run_pure,Result.andThen_ok];rw [hrep,h1];rfl
     ·refine ⟨some ⟨w.heap.size,0,none⟩,len,rfl,Nat.le_refl _,.inl ⟨by simp [Map.set],?_⟩⟩;simp [Map.at,Map.blk,Map.off,Map.set,SO.v]
    ·cases h
   ·cases h
  ·cases h
 ·cases h
theorem look_append {α:Type} (a b:List (Nat × α)) (k:Nat):look (a++b) k=match look a k with |some x=>some x |none=>look b k:=by
 induction a with
 |nil=>rfl
 |cons p r ih=>
  obtain ⟨j,x⟩:=p;simp only [List.cons_append,look];split
  ·rfl
  ·exact ih
def Ent.okSt:Ent->Bool | .gone=>true |x=>x.isPl
def stOK (hp nw:Heap):Heap->Bool
 | []=>true
 |(id,x)::r=>x.okSt&&(look nw id).isNone&&(match look hp id with |some y=>y.isOwn |none=>false)&&stOK hp nw r
theorem stOK_spec {hp nw:Heap}:∀ {st:Heap},stOK hp nw st=true->∀ id x,look st id=some x->x.okSt=true/\look nw id=none/\∃ y,look hp id=some y/\y.isOwn=true
 | [],_,id,x,h=>by simp [look] at h
 |(j,y)::r,hs,id,x,h=>by
  simp only [stOK,Bool.and_eq_true] at hs;simp only [look] at h
  split at h
  ·rename_i hj;obtain rfl:j=id:=by simpa using hj
   obtain rfl:=by simpa using h
   refine ⟨hs.1.1.1,by simpa using hs.1.1.2,?_⟩;have:=hs.1.2
   split at this
   ·rename_i z hz;exact ⟨z,hz,this⟩
   ·cases this
  ·exact stOK_spec hs.2 id x h
theorem heap_lt {w:World} {b:Nat} {x:Obj} (h:w.heap[b]? = some x):b<w.heap.size:=by
 rcases Nat.lt_or_ge b w.heap.size with h' |h'
 ·exact h'
 ·rw [Array.getElem?_eq_none h'] at h;cases h
theorem erel_some {B:Nat} {ρ:Map} {w:World} {id:Nat} {e:Ent} (h:ERel B ρ w id e) (ho:e.isOwn=true) (hi:(ρ id).isSome=true):Mine B ρ (ρ.blk id) /\ ρ.blk id<w.heap.size:=by
 cases e with
 |own T l=>obtain ⟨_,_,h1,vs,_,hh⟩:=h;exact ⟨h1,heap_lt hh⟩
 |row T l=>obtain ⟨_,_,h1,vs,r,_,hh⟩:=h;exact ⟨h1,heap_lt hh⟩
 |orow e d=>
  rcases h with ⟨h0,_⟩ |⟨_,_,h1,cs,hh,_⟩
  ·rw [h0] at hi;cases hi
  ·exact ⟨h1,heap_lt hh⟩
 |ro l=>cases ho
 |gone=>cases ho
 |nrow c e d g=>
  rcases h with ⟨h0,_⟩ |⟨_,_,h1,cs,_,hh,_⟩
  ·rw [h0] at hi;cases hi
  ·exact ⟨h1,heap_lt hh⟩
theorem rowAt_mono {ρ ρ':Map} {w w':World} {b c:Nat} {e:TypeId} {d:D} (hz:FzLe ρ.fz ρ'.fz) (hk:w'.heap[b]? = w.heap[b]?) (h:RowAt ρ w b c e d):RowAt ρ' w' b c e d:=by
 obtain ⟨cs,h1,h2,h3,h4⟩:=h;refine ⟨cs,by rw [hk];exact h1,h2,h3,fun i j k hi hj=>?_⟩;obtain ⟨u,hu,hr⟩:=h4 i j k hi hj;exact ⟨u,hu,hr.mono hz⟩
theorem kv_ext {ρ ρ':Map} (hx:Ext ρ ρ') {id:Nat} (hkid:ρ'.kid id=ρ.kid id) {e:TypeId} {x:D} {g:Option (Nat × Nat × Nat)} {i:Nat} {u:Value} (h:KV ρ id e x g i u):KV ρ' id e x g i u:=by
 unfold KV at h ⊢;split
 ·rename_i id2 n hg;rw [hg] at h;exact crel_ext hx h
 ·rename_i hg;rw [hg] at h;rw [hkid];exact h
theorem erel_keep {B:Nat} {ρ ρ':Map} {w w':World} {id:Nat} {e:Ent} (hx:Ext ρ ρ') (heq:ρ' id=ρ id) (hkid:e.isOwn=true -> ρ'.kid id=ρ.kid id) (hm:e.isOwn=true->(ρ id).isSome=true -> ρ'.fz (ρ.blk id)=none) (h:ERel B ρ w id e) (hk:e.isOwn=true->(ρ id).isSome=true->w'.heap[ρ.blk id]? = w.heap[ρ.blk id]?):ERel B ρ' w' id e:=by
 have mine:e.isOwn=true->(ρ id).isSome=true->Mine B ρ (ρ.blk id)->Mine B ρ' (ρ'.blk id):=fun ho hi hM=>by
  rw [(hx.at hi).2.1];exact ⟨by rw [hx.mu];exact hM.1,hm ho hi⟩
 cases e with
 |own T l=>
  obtain ⟨h0,h1,h2,vs,h3,h4⟩:=h;obtain ⟨g0,g1,g2,_⟩:=hx.at h0;exact ⟨g0,by rw [g2];exact h1,mine rfl h0 h2,vs,csrel_ext hx h3,by rw [g1,hk rfl h0];exact h4⟩
 |row T l=>
  obtain ⟨h0,h1,h2,vs,r,h3,h4⟩:=h;obtain ⟨g0,g1,g2,_⟩:=hx.at h0;exact ⟨g0,by rw [g2];exact h1,mine rfl h0 h2,vs,r,csrel_ext hx h3,by rw [g1,hk rfl h0];exact h4⟩
 |orow e d=>
  rcases h with ⟨h0,h1⟩ |⟨h0,h1,h2,h3⟩
  ·exact .inl ⟨by rw [heq];exact h0,h1⟩
  ·obtain ⟨g0,g1,g2,_⟩:=hx.at h0;refine .inr ⟨g0,by rw [g2];exact h1,mine rfl h0 h2,?_⟩;rw [g1,hx.cap id h0];exact rowAt_mono hx.fz (hk rfl h0) h3
 |ro l=>
  obtain ⟨h0,vs,h3,h4⟩:=h;obtain ⟨g0,g1,g2,g3⟩:=hx.at h0;refine ⟨g0,vs,csrel_ext hx h3,fun o v ho=>?_⟩;rw [g1,g2];exact hx.fz.cell (h4 o v ho)
 |gone=>trivial
 |nrow c e d g=>
  rcases h with ⟨h0,h1⟩ |⟨h0,h1,h2,cs,e',k1,k2,k3,k4,k5⟩
  ·exact .inl ⟨by rw [heq];exact h0,h1⟩
  ·obtain ⟨g0,g1,g2,_⟩:=hx.at h0;refine .inr ⟨g0,by rw [g2];exact h1,mine rfl h0 h2,cs,e',by rw [g1,hk rfl h0];exact k1,by rw [hx.cap id h0];exact k2,by rw [hx.cap id h0];exact k3,k4,fun i j k hi hj=>?_⟩;obtain ⟨u,hu,hr⟩:=k5 i j k hi hj;refine ⟨u,hu,?_⟩;split
   ·rename_i hjc;rw [if_pos hjc] at hr;exact kv_ext hx (hkid rfl) hr
   ·rename_i hjc;rw [if_neg hjc] at hr;exact hr.mono hx.fz
theorem wh_step {w0:W0} {w w':World} {ρ ρ':Map} {hp:Heap} {e:Eff} (h:WH w0 ρ hp w) (hf:Fr w0.heap.size ρ ρ' w w' e) (hst':∀ id x,look e.st id=some x->x.okSt=true/\look e.nw id=none/\∃ y,look hp id=some y/\y.isOwn=true) (_hnw:∀ id x,look e.nw id=some x -> ρ id=none):WH w0 ρ' (e.st++(e.nw++hp)) w':=by
 have hB:w0.heap.size<=w.heap.size:=h.below.size;have stM:∀ id x,look e.st id=some x->(ρ id).isSome=true->Mine w0.heap.size ρ (ρ.blk id):=fun id x hx hi=>by
  obtain ⟨_,_,y,hy,ho⟩:=hst' id x hx;exact (erel_some (h.ents id y hy) ho hi).1
 have ownOld:∀ id y,look hp id=some y->y.isOwn=true->(ρ id).isSome=true->Mine w0.heap.size ρ (ρ.blk id) /\ ρ.blk id<w.heap.size:=fun id y hy ho hi=>erel_some (h.ents id y hy) ho hi
 have fzKeep:∀ b cs,ρ.fz b=some cs->w'.heap[b]? = w.heap[b]?:=fun b cs hc=>by
  obtain ⟨T,z,hh⟩:=h.froz b cs hc;refine hf.keep b (heap_lt hh) fun id x hx hi hb=>?_
  have:=(stM id x hx hi).2;rw [hb,hc] at this;cases this
 have fzOld:∀ id y,look hp id=some y->y.isOwn=true->(ρ id).isSome=true->look e.st id≠some .gone -> ρ'.fz (ρ.blk id)=none:=fun id y hy ho hi hg=>by
  cases hc:ρ'.fz (ρ.blk id) with
  |none=>rfl
  |some cs=>
   obtain ⟨hM,hlt⟩:=ownOld id y hy ho hi
   rcases hf.fz _ cs hc with h1 |⟨h1 |⟨k,hk,hki,hkb⟩,_⟩
   ·rw [hM.2] at h1;cases h1
   ·omega
   ·obtain ⟨_,_,z,hz,hzo⟩:=hst' k _ hk
    by_cases hkid:k=id
    ·subst hkid;exact absurd hk hg
    ·exact absurd hkb (fun e=>h.apart k id z y hz hy hzo ho hkid hki hi e.symm)
 have cases3:∀ id x,look (e.st++(e.nw++hp)) id=some x->(look e.st id=some x) ∨ (look e.st id=none/\look e.nw id=some x) ∨ (look e.st id=none/\look e.nw id=none/\look hp id=some x):=fun id x hx=>by
  rw [look_append] at hx
  cases h1:look e.st id with
  |some y=>rw [h1] at hx;exact .inl hx
  |none=>
   rw [h1,look_append] at hx
   cases h2:look e.nw id with
   |some y=>rw [h2] at hx;exact .inr (.inl ⟨rfl,hx⟩)
   |none=>rw [h2] at hx;exact .inr (.inr ⟨rfl,rfl,hx⟩)
 have blkOf:∀ id x,look (e.st++(e.nw++hp)) id=some x->x.isOwn=true->(ρ' id).isSome=true->(look e.st id≠some .gone/\(ρ id).isSome=true/\(∃ y,look hp id=some y/\y.isOwn=true) /\ ρ'.blk id=ρ.blk id /\ ρ.blk id<w.heap.size) ∨ (look e.nw id=some x/\look e.st id=none/\(w.heap.size<=ρ'.blk id ∨ Killed ρ e.st (ρ'.blk id))):=fun id x hx ho hi=>by
  rcases cases3 id x hx with h1 |⟨h1,h2⟩ |⟨h1,h2,h3⟩
  ·obtain ⟨_,hn,y,hy,hyo⟩:=hst' id x h1;have hi':(ρ id).isSome=true:=by rw [<- hf.only id hn];exact hi
   obtain ⟨_,g2⟩:=ownOld id y hy hyo hi';refine .inl ⟨fun hg=>?_,hi',⟨y,hy,hyo⟩,(hf.ext.at hi').2.1,g2⟩;rw [h1] at hg;obtain rfl:=by simpa using hg
   cases ho
  ·exact .inr ⟨h2,h1,(hf.nw id x h2).2.1 hi⟩
  ·have hi':(ρ id).isSome=true:=by rw [<- hf.only id h2];exact hi
   obtain ⟨_,g2⟩:=ownOld id x h3 ho hi';exact .inl ⟨(by rw [h1];exact (fun h=>by cases h)),hi',⟨x,h3,ho⟩,(hf.ext.at hi').2.1,g2⟩
 refine ⟨?_,?_,?_,?_,?_,hf.ext.mu.trans h.mu0,hf.ext.f0.trans h.f00,?_,fun p hp=>hf.ext.m 0 p (h.anc p hp),h.tab,?_⟩
 ·rw [hf.ext.mu];refine h.below.trans ?_
  refine ⟨hf.below.os,hf.below.tape,hf.below.output,hf.below.size,fun k hk hm=>hf.keep k (by omega) fun id x hx hi hb=>?_⟩
  rcases (stM id x hx hi).1 with h1 |h1
  ·omega
  ·rw [hb,hm] at h1;cases h1
 ·intro id x hx
  rcases cases3 id x hx with h1 |⟨_,h2⟩ |⟨h1,h2,h3⟩
  ·exact hf.st id x h1
  ·exact (hf.nw id x h2).1
  ·have old:=h.ents id x h3;refine erel_keep hf.ext (hf.only id h2) (fun _=>by rw [hf.kid]) (fun ho hi=>fzOld id x h3 ho hi (by rw [h1];exact (fun h=>by cases h))) old fun ho hi=>hf.keep _ (ownOld id x h3 ho hi).2 fun j y hj hji=>?_
   obtain ⟨_,_,z,hz,hzo⟩:=hst' j y hj;refine h.apart j id z _ hz h3 hzo ho ?_ hji hi;rintro rfl;rw [h1] at hj;cases hj
 ·intro i j x y hi hj hxo hyo hne hii hjj
  rcases blkOf i x hi hxo hii with ⟨hgi,hsi,⟨a,ha,hao⟩,hbi,hli⟩ |⟨hni,_,hbi⟩
  ·rcases blkOf j y hj hyo hjj with ⟨_,hsj,⟨b,hb,hbo⟩,hbj,hlj⟩ |⟨hnj,_,hbj⟩
   ·rw [hbi,hbj];exact h.apart i j a b ha hb hao hbo hne hsi hsj
   ·rw [hbi]
    rcases hbj with hbj |⟨k,hk,hki,hkb⟩
    ·omega
    ·rw [hkb];obtain ⟨_,_,z,hz,hzo⟩:=hst' k _ hk;refine h.apart i k a z ha hz hao hzo ?_ hsi hki;rintro rfl;exact hgi hk
  ·rcases blkOf j y hj hyo hjj with ⟨hgj,hsj,⟨b,hb,hbo⟩,hbj,hlj⟩ |⟨hnj,_,hbj⟩
   ·rw [hbj]
    rcases hbi with hbi |⟨k,hk,hki,hkb⟩
    ·omega
    ·rw [hkb];obtain ⟨_,_,z,hz,hzo⟩:=hst' k _ hk;refine h.apart k j z b hz hb hzo hbo ?_ hki hsj;rintro rfl;exact hgj hk
   ·exact hf.apart i j x y hni hnj hne hii hjj
 ·intro b cs hc
  rcases hf.fz b cs hc with h1 |⟨_,h2,_⟩
  ·rw [fzKeep b cs h1];exact h.froz b cs h1
  ·exact h2
 ·rw [hf.ext.f0];exact fun b cs hc=>hf.ext.fz b cs (h.sub b cs hc)
 ·intro b cs hc;rw [hf.ext.f0,hf.ext.mu]
  rcases hf.fz b cs hc with h1 |⟨h1 |⟨k,hk,hki,rfl⟩,_⟩
  ·exact h.old b cs h1
  ·exact .inr (.inl (by omega))
  ·exact .inr (stM k _ hk hki).1
 ·
  have isOld:∀ id c e' d g,look (e.st++(e.nw++hp)) id=some (.nrow c e' d g)->look e.nw id=none/\look hp id=some (.nrow c e' d g):=fun id c e' d g hl=>by
   rcases cases3 id _ hl with h1 |⟨_,h2⟩ |⟨_,h2,h3⟩
   ·have:=(hst' id _ h1).1;cases this
   ·have:=(hf.nw id _ h2).2.2;cases this
   ·exact ⟨h2,h3⟩
  intro id c e' d g hl hi i b cap hk;obtain ⟨hn,hl'⟩:=isOld id c e' d g hl;have hi':(ρ id).isSome=true:=by rw [<- hf.only id hn];exact hi
  rw [hf.kid] at hk;obtain ⟨c1,c2,c3,c4,c5⟩:=h.lin id c e' d g hl' hi' i b cap hk;have hkeep:w'.heap[b]? = w.heap[b]?:=hf.keep b c2 fun j x hj hji=>by
   obtain ⟨_,_,y,hy,hyo⟩:=hst' j x hj;exact c4 j y hy hyo hji
  have hkl:¬ Killed ρ e.st b:=fun ⟨k,hk1,hk2,hk3⟩=>by
   obtain ⟨_,_,y,hy,hyo⟩:=hst' k _ hk1;exact c4 k y hy hyo hk2 hk3.symm
  refine ⟨⟨by rw [hf.ext.mu];exact c1.1,?_⟩,by have:=hf.below.size;omega,fun e2 h1 h2 h3=>rowAt_mono hf.ext.fz hkeep (c3 e2 h1 h2 h3),fun j f hj hjo hji=>?_,fun j c' e2 d' g' k cap' hj hji hjk=>?_⟩
  ·cases hc:ρ'.fz b with
   |none=>rfl
   |some cs=>
    rcases hf.fz b cs hc with h1 |⟨h1 |h1,_⟩
    ·rw [c1.2] at h1;cases h1
    ·omega
    ·exact absurd h1 hkl
  ·rcases blkOf j f hj hjo hji with ⟨_,g1,⟨y,hy,hyo⟩,g3,_⟩ |⟨_,_,g1⟩
   ·rw [g3];exact c4 j y hy hyo g1
   ·intro hb
    rcases g1 with g1 |g1
    ·omega
    ·rw [hb] at g1;exact hkl g1
  ·obtain ⟨hn2,hl2⟩:=isOld j c' e2 d' g' hj;rw [hf.kid] at hjk;exact c5 j c' e2 d' g' k cap' hl2 (by rw [<- hf.only j hn2];exact hji) hjk
def noG (d:Nat):Slots->Bool
 | []=>true
 |(_,.cond g _)::r=>g.all (fun p=>!Nat.beq p.1 d)&&noG d r
 |_::r=>noG d r
theorem gd_put {a:Act} {d:Nat} {v:Value} {g:List (Nat × Bool)} (h:g.all (fun p=>!Nat.beq p.1 d)=true):Gd (a.put (some d) v).tmps g↔Gd a.tmps g:=by
 unfold Gd;rw [List.all_eq_true] at h;have key:∀ p∈g,(a.put (some d) v).tmps.getD p.1 undef=a.tmps.getD p.1 undef:=fun p hp=>by
  have:=h p hp;have hne:d≠p.1:=by
   intro e;subst e;simp at this
  simp [Act.put,Array.getElem?_setIfInBounds_ne hne]
 constructor
 ·intro hg p hp;rw [<- key p hp];exact hg p hp
 ·intro hg p hp;rw [key p hp];exact hg p hp
theorem noG_spec {d:Nat}:∀ {tm:Slots},noG d tm=true->∀ t g x,look tm t=some (.cond g x)->g.all (fun p=>!Nat.beq p.1 d)=true
 | [],_,t,g,x,h=>by simp [look] at h
 |(j,sv)::r,hn,t,g,x,h=>by
  simp only [look] at h
  split at h
  ·obtain rfl:=by simpa using h
   simp only [noG,Bool.and_eq_true] at hn;exact hn.1
  ·refine noG_spec ?_ t g x h
   cases sv<;>first |exact hn |(simp only [noG,Bool.and_eq_true] at hn;exact hn.2)
def svG (d:Nat):SV->Bool | .cond g _=>g.all (fun p=>!Nat.beq p.1 d) |_=>true
theorem vrel_put {ρ:Map} {a:Act} {d:Nat} {v:Value} {x:SV} {u:Value} (hx:svG d x=true) (h:VRel ρ a.tmps x u):VRel ρ (a.put (some d) v).tmps x u:=by
 cases x with
 |cond g y=>
  have:=gd_put (a:=a) (v:=v) hx;exact ⟨fun hg=>h.1 (this.1 hg),fun hg=>h.2 (fun hg'=>hg (this.2 hg'))⟩
 |_=>exact h
def putS (d:Option Nat) (sv:SV) (tm:Slots):Slots:=match d with |some d=>(d,sv)::tm |none=>tm
def dOK (nt:Nat) (tm:Slots) (d:Option Nat) (sv:SV):Bool:=match d with |some d=>Nat.blt d nt&&noG d tm&&svG d sv |none=>true
theorem ah_step2 {ρ ρ':Map} {nt:Nat} {tm:Slots} {a:Act} {d:Nat} {sv:SV} {v:Value} (h:AH ρ nt tm a) (hx:Ext ρ ρ') (hlt:d<nt) (hn:∀ t g x,look tm t=some (.cond g x)->g.all (fun p=>!Nat.beq p.1 d)=true) (hs:svG d sv=true) (hv:VRel ρ' a.tmps sv v):AH ρ' nt ((d,sv)::tm) (a.put (some d) v):=by
 have hlt':d<a.tmps.size:=by rw [h.size];exact hlt
 refine ⟨by simp [Act.put,h.size],h.defers,fun t x ht=>?_⟩;simp only [look] at ht
 split at ht
 ·rename_i hj;obtain rfl:d=t:=by simpa using hj
  obtain rfl:=by simpa using ht
  have:(a.put (some d) v).tmps.getD d undef=v:=by simp [Act.put,hlt']
  rw [this];exact vrel_put hs hv
 ·rename_i hj;have hne:d≠t:=by intro e;subst e;simp at hj
  have:(a.put (some d) v).tmps.getD t undef=a.tmps.getD t undef:=by simp [Act.put,Array.getElem?_setIfInBounds_ne hne]
  rw [this];refine vrel_put ?_ (vrel_ext hx (h.slots t x ht))
  cases x with
  |cond g y=>exact hn t g y ht
  |_=>rfl
theorem ah_step {ρ ρ':Map} {nt:Nat} {tm:Slots} {a:Act} {d:Option Nat} {sv:SV} {v:Value} (h:AH ρ nt tm a) (hx:Ext ρ ρ') (hd:dOK nt tm d sv=true) (hv:VRel ρ' a.tmps sv v):AH ρ' nt (putS d sv tm) (a.put d v):=by
 cases d with
 |none=>exact ⟨h.size,h.defers,fun t x ht=>vrel_ext hx (h.slots t x ht)⟩
 |some d=>
  simp only [dOK,Bool.and_eq_true] at hd;obtain ⟨⟨hlt,hn⟩,hs⟩:=hd;exact ah_step2 h hx (by simpa [Nat.blt_eq] using hlt) (noG_spec hn) hs hv
end Go.Proofs.YtplejbgafjpomaaGreatDoor.Sx
