import Derived.Deep.LoopGhost
import Derived.Test.YtplejbgafjpomaaGreatDoorZb9
set_option linter.unusedVariables false
set_option linter.unusedSimpArgs false
namespace Go.Proofs.YtplejbgafjpomaaGreatDoor.Sx
open Go.RowKit
inductive Ex
 |normal
 |exit (id:Nat)
 |ret
structure Inv where
 ι:Type
 st:St -> ι -> St
 pre:St -> ι -> Prop
 μ : ι -> Nat
structure Ann where
 C:Nat->Cons
 inv:Nat->Option Inv
 cut:Nat->Option Inv
def firstReg:Code->Nat
 | .region id _ _=>id
 | .seq a _=>firstReg a
 | .block _ c=>firstReg c
 | .loop c=>firstReg c
 |_=>0
def AllK:List Prop->Prop->Prop
 | [],q=>q
 |p::r,q=>p/\AllK r q
theorem allK_iff {q:Prop}:∀ {l:List Prop},AllK l q↔All l/\q
 | []=>by simp [AllK,All]
 |p::r=>by simp [AllK,All,allK_iff (l:=r),and_assoc]
def drawG0 (tt:TT) (C:Cons) (ops:Array Oper) (d:DIn):List Oper->Nat->List Rec->List (List Nat)
 | [],_,recs=>recs.map fun r=>r.heap.map (·.1)
 |o::r,i,recs=>match sstep tt C ops (d.hpv recs i) (d.tmv recs i) (d.s.nx+8*i) o.guard o.op with
  |some q=>drawG0 tt C ops d r (i+1) (recs++[q])
  |none=>[]
def regR (tt:TT) (C:Cons) (nt:Nat) (ops:Array Oper) (draw:Bool) (s:St):Option (List Prop × St):=
 if draw then drawR tt C nt ops.toList (drawG0 tt C ops {s:=s,ms:=ancs ops.toList [],gs:=[],l:=ops.toList} ops.toList 0 []) s
 else seqGo tt C nt ops ops.toList s
def readyS (l:List Oper) (ls:List Bool):List Nat:=
 (List.range l.length).filter fun i=>!ls.getD i true&&((l[i]?).map fun o=>o.after.toList.all fun e=>!Region.binds .any e ||ls.getD e.on false).getD false
theorem readyS_eq (ops:Array Oper) (ls:List Bool):Region.ready .any ops ls.toArray=readyS ops.toList ls:=by
 unfold Region.ready readyS;rw [show ops.size=ops.toList.length from rfl]
 congr 1
 funext i
 congr 1
 ·simp [Array.getD_eq_getD_getElem?,List.getD_eq_getElem?_getD]
 ·rw [Array.getElem?_toList]
  cases ops[i]? with
  |none=>rfl
  |some o=>simp [<- Array.all_toList,Array.getD_eq_getD_getElem?,List.getD_eq_getElem?_getD]
def AllR:List Nat->(Nat->Prop)->Prop
 | [],_=>True
 |i::r,f=>f i/\AllR r f
theorem allR_mem {f:Nat->Prop}:∀ {l:List Nat},AllR l f->∀ i∈l,f i
 | [],_,i,h=>by cases h
 |j::r,h,i,hi=>by
  rcases List.mem_cons.1 hi with rfl |hi
  ·exact h.1
  ·exact allR_mem h.2 i hi
def anyS (tt:TT) (C:Cons) (nt:Nat) (ops:Array Oper) (K:St->Prop):Nat->List Bool->St->Prop
 | 0,ls,s=>(match readyS ops.toList ls with | []=>K {s with tm:=strip s.tm} |_=>False)
 |f+1,ls,s=>(match readyS ops.toList ls with
  | []=>K {s with tm:=strip s.tm}
  |r=>AllR r fun i=>match ops.toList[i]? with
   |some o=>(match sstep tt C ops s.hp s.tm s.nx o.guard o.op with
    |some q=>if dOK nt s.tm o.dst q.sv&&nwIn s.nx q.nw then AllK q.vc (anyS tt C nt ops K f (ls.set i true) {tm:=putS o.dst q.sv s.tm,hp:=q.st++(q.nw++s.hp),nx:=s.nx+8}) else False
    |none=>False)
   |none=>False)
theorem anyS_spec {P:Program} {tt:TT} (htt:TTOK P tt) {C:Cons} (hC:CtxOK P C) {nt:Nat} {ops:Array Oper} {w0:W0} {K:St->Prop} {Q:Exit->Act->World->Prop} (hQ:∀ s' ρ' a' w',K s'->SH w0 nt s' ρ' a' w'->Q .normal a' w'):∀ (f:Nat) (ls:List Bool) (s:St),anyS tt C nt ops K f ls s ->
 ∀ ρ a w,SH w0 nt s ρ a w->wpAny P .any ops Q f ls.toArray a w
 | 0,ls,s,h,ρ,a,w,hs=>by
   unfold anyS at h
   split at h
   ·rename_i hr;exact ⟨by rw [readyS_eq];exact hr,hQ _ ρ a w h ⟨ah_strip hs.slots,hs.mem,hs.fresh⟩⟩
   ·exact h.elim
 |f+1,ls,s,h,ρ,a,w,hs=>by
  unfold anyS at h
  split at h
  ·rename_i hr;refine ⟨fun _=>hQ _ ρ a w h ⟨ah_strip hs.slots,hs.mem,hs.fresh⟩,fun i hi=>?_⟩;rw [readyS_eq,hr] at hi
   cases hi
  ·rename_i hr;refine ⟨fun h0=>?_,fun i hi=>?_⟩
   ·rw [readyS_eq] at h0;exact absurd h0 hr
   ·rw [readyS_eq] at hi;have hi2:=allR_mem h i hi;rw [Array.getElem?_toList] at hi2;unfold wpOp
    split at hi2
    ·rename_i o ho;rw [ho];dsimp only
     split at hi2
     ·rename_i q hq
      split at hi2
      ·rename_i hok;simp only [Bool.and_eq_true] at hok;rw [allK_iff] at hi2;have hnw:=nwIn_spec hok.2;have hfr:∀ id x,look q.nw id=some x -> ρ id=none:=fun id x hx=>hs.fresh id (hnw id x hx).1
       have:=(sstep_spec (K:=wpAny P .any ops Q f (ls.set i true).toArray) (Q:=Q) htt hC hq hi2.1 hs.slots hs.mem hfr (fun ρ' w' v h1 h2=>
        anyS_spec htt hC hQ f _ _ hi2.2 ρ' (a.put o.dst v) w' ⟨ah_step hs.slots h2.ext hok.1 h1,h2.mem _ hs.mem (fun _ _ h=>.inr h),fun id hid=>by
         have hn:look q.eff.nw id=none:=by
          cases hl:look q.nw id with
          |none=>exact hl
          |some x=>have:=(hnw id x hl).2;exact absurd hid (by show ¬ s.nx+8<=id;omega)
         rw [h2.only id hn];exact hs.fresh id (by have:s.nx+8<=id:=hid;omega)⟩))
       have e:(ls.set i true).toArray=ls.toArray.setIfInBounds i true:=by simp
       rw [e] at this;split
       ·rename_i hw;rw [if_pos hw] at this;exact this
       ·rename_i hw;rw [if_neg hw] at this;exact this
      ·exact hi2.elim
     ·exact hi2.elim
    ·exact hi2.elim
def dm (δ:List (Nat × Nat)) (j:Nat):Nat:=match look δ j with |some k=>k |none=>j
def Map.ren (ρ:Map) (δ:List (Nat × Nat)) (N:Nat):Map:={ρ with m:=fun j=>if Nat.blt j N then ρ (dm δ j) else none,cap:=fun j=>ρ.cap (dm δ j),kid:=fun j=>ρ.kid (dm δ j)}
def idLe (δ:List (Nat × Nat)) (N i j:Nat):Bool:=Nat.beq i (dm δ j)&&Nat.blt j N
theorem idLe_spec {δ:List (Nat × Nat)} {N i j:Nat} (h:idLe δ N i j=true) (ρ:Map):(ρ.ren δ N) j=ρ i/\(∀ o,(ρ.ren δ N).at j o=ρ.at i o)/\(ρ.ren δ N).blk j=ρ.blk i/\(ρ.ren δ N).off j=ρ.off i/\(ρ.ren δ N).cap j=ρ.cap i:=by
 simp only [idLe,Bool.and_eq_true] at h;have h1:=Nat.eq_of_beq_eq_true h.1;have e:(ρ.ren δ N) j=ρ i:=by simp only [Map.ren];rw [if_pos h.2,h1]
 refine ⟨e,?_,?_,?_,by simp only [Map.ren];rw [h1]⟩<;>simp [Map.at,Map.blk,Map.off,e]
def scLe (δ:List (Nat × Nat)) (N:Nat):SC->SC->Prop
 | .int k n,.int k' m=>kEq k k'=true/\n.v=m.v
 | .bool b,.bool c=>b.v=c.v
 | .ptr i o,.ptr j q=>idLe δ N i j=true/\o.v=q.v
 | .slice i o n,.slice j q m=>idLe δ N i j=true/\o.v=q.v/\n.v=m.v
 | .nils,.slice _ _ m=>m.v=0
 | .nils,.nils=>True
 | .raw v,.raw u=>v=u
 | .rows e d,.rows e' d'=>e=e'/\d.rows=d'.rows
 | .nils,.rows _ d=>d.rows=[]
 | .fp e d i j,.fp e' d' i' j'=>e=e'/\d=d'/\i=i'/\j=j'
 | .osl e i lo n,.osl e' j lo' m=>idLe δ N i j=true/\e=e'/\lo.v=lo'.v/\n.v=m.v
 | .nils,.osl _ _ _ m=>m.v=0
 | .optr e i a b,.optr e' j a' b'=>idLe δ N i j=true/\e=e'/\a=a'/\b=b'
 | .fn g e p o,.fn g' e' p' o'=>g=g'/\e=e'/\p=p'/\o=o'
 | .bm g i,.bm g' j=>idLe δ N i j=true/\g=g'
 |_,_=>False
theorem trel_rows {fz:Fz} {e:TypeId} {d d':D} (h:d.rows=d'.rows) {v:Value} (hv:TRel fz (.slice e) d v):TRel fz (.slice e) d' v:=by
 have hl:d.len=d'.len:=by unfold D.len;rw [h]
 have he:∀ i j,d.el i j=d'.el i j:=fun i j=>by unfold D.el;rw [h]
 cases hv with
 |nil _ _ h0=>exact .nil _ _ (by rw [<- hl];exact h0)
 |empty _ _ a c h0=>exact .empty _ _ a c (by rw [<- hl];exact h0)
 |slice _ _ b o c u hc hcell hrel=>
  rw [hl];exact .slice _ _ b o c u (by rw [<- hl];exact hc) (fun i j hi hj=>hcell i j (by rw [hl];exact hi) hj) (fun i j k hi hk=>by rw [<- he];exact hrel i j k (by rw [hl];exact hi) hk)
theorem scLe_spec {δ:List (Nat × Nat)} {N:Nat} {ρ:Map} {x y:SC} {v:Value} (h:scLe δ N x y) (hx:CRel ρ x v):CRel (ρ.ren δ N) y v:=by
 unfold scLe at h
 split at h
 ·obtain ⟨hk,h⟩:=h;have:=kEq_eq hk;subst this;simp only [CRel] at hx ⊢;rw [hx,h]
 ·simp only [CRel] at hx ⊢;rw [hx,h]
 ·obtain ⟨hi,h⟩:=h;obtain ⟨h0,rfl⟩:=hx;obtain ⟨e1,e2,_⟩:=idLe_spec hi ρ;exact ⟨by rw [e1];exact h0,by rw [e2,h]⟩
 ·obtain ⟨hi,h1,h2⟩:=h;obtain ⟨A,c,rfl,hc,hA⟩:=hx;obtain ⟨e1,e2,_⟩:=idLe_spec hi ρ;exact ⟨A,c,by rw [h2],by rw [<- h2];exact hc,by rw [e1,e2,<- h1,<- h2];exact hA⟩
 ·have hv:v = .slice none 0 0:=hx;subst hv;exact ⟨none,0,by rw [h],by omega,.inr ⟨h,rfl⟩⟩
 ·exact hx
 ·subst h;exact hx
 ·obtain ⟨rfl,h⟩:=h;exact trel_rows h hx
 ·have hv:v = .slice none 0 0:=hx;subst hv;exact .nil _ _ (by unfold D.len;rw [h];rfl)
 ·obtain ⟨rfl,rfl,rfl,rfl⟩:=h;exact hx
 ·obtain ⟨hi,rfl,h1,h2⟩:=h;obtain ⟨A,c,rfl,hc,hA⟩:=hx;obtain ⟨e1,_,e3,_,e5⟩:=idLe_spec hi ρ;exact ⟨A,c,by rw [h2],by rw [<- h2];exact hc,by rw [e1,e3,e5,<- h1];exact hA⟩
 ·have hv:v = .slice none 0 0:=hx;subst hv;exact ⟨none,0,by rw [h],by omega,.inl ⟨rfl,fun _ h=>by cases h⟩⟩
 ·obtain ⟨hi,rfl,rfl,rfl⟩:=h;obtain ⟨h0,rfl⟩:=hx;obtain ⟨e1,_,e3,_⟩:=idLe_spec hi ρ;exact ⟨by rw [e1];exact h0,by rw [e3]⟩
 ·obtain ⟨rfl,rfl,rfl,rfl⟩:=h;exact hx
 ·obtain ⟨hi,rfl⟩:=h;obtain ⟨h0,rfl⟩:=hx;obtain ⟨e1,e2,_⟩:=idLe_spec hi ρ;exact ⟨by rw [e1];exact h0,by rw [e2]⟩
 ·exact h.elim
def noPtr:List Seg->Bool
 | []=>true
 | .c (.ptr ..)::_ | .c (.slice ..)::_ | .c (.osl ..)::_ | .c (.optr ..)::_ | .c (.bm ..)::_=>false
 |_::r=>noPtr r
def segsLe (δ:List (Nat × Nat)) (N:Nat):List Seg->List Seg->Prop
 | [],[]=>True
 | .c x::r,.c y::s=>scLe δ N x y/\segsLe δ N r s
 | .ints k n f::r,.ints k' m g::s=>(kEq k k'=true/\n.v=m.v/\∀ o,o<n.v->f o=g o)/\segsLe δ N r s
 |a,b=>noPtr b=true/\cellsN a=cellsN b
def noP:SC->Bool | .ptr .. | .slice .. | .osl .. | .optr .. | .bm ..=>false |_=>true
theorem noP_rel {ρ ρ':Map} (hz:ρ'.fz=ρ.fz) {x:SC} (h:noP x=true) {v:Value} (hx:CRel ρ x v):CRel ρ' x v:=by
 cases x with
 |rows e d=>show TRel ρ'.fz _ _ _;rw [hz];exact hx
 |fp e d i j=>
  obtain ⟨b,o,rfl,hr⟩:=hx;exact ⟨b,o,rfl,by rw [hz];exact hr⟩
 |fn ag e p ok=>show ∃ z,FzLe z ρ'.fz/\_;rw [hz];exact hx
 |ptr=>cases h
 |slice=>cases h
 |osl=>cases h
 |optr=>cases h
 |bm=>cases h
 |int=>exact hx
 |bool=>exact hx
 |nils=>exact hx
 |raw=>exact hx
theorem noPtr_mem:∀ {l:List Seg},noPtr l=true->∀ x∈cellsOf l,noP x=true
 | [],_,x,h=>by simp [cellsOf] at h
 | .ints k n f::r,hp,x,h=>by
   rw [cellsOf_cons,List.mem_append] at h
   rcases h with h |h
   ·simp only [Seg.cells,List.mem_map] at h;obtain ⟨o,_,rfl⟩:=h;rfl
   ·exact noPtr_mem (l:=r) (by simpa [noPtr] using hp) x h
 | .c y::r,hp,x,h=>by
   rw [cellsOf_cons,List.mem_append] at h;have hr:noP y=true/\noPtr r=true:=by cases y<;>first |exact ⟨rfl,hp⟩ |cases hp
   rcases h with h |h
   ·simp only [Seg.cells,List.mem_singleton] at h;subst h;exact hr.1
   ·exact noPtr_mem hr.2 x h
theorem fallback {ρ ρ':Map} (hz:ρ'.fz=ρ.fz) {a b:List Seg} {vs:List Value} (h:noPtr b=true/\cellsN a=cellsN b) (hv:CsRel ρ (cellsOf a) vs):CsRel ρ' (cellsOf b) vs:=by
 have h1:=csrel_n.2 hv;have h2:cellsN a=cellsN b:=h.2;unfold cellsN at h2;rw [h2] at h1;have h3:=csrel_n.1 h1;exact ⟨h3.1,fun i x v hx hv=>noP_rel hz (noPtr_mem h.1 x (List.mem_of_getElem? hx)) (h3.2 i x v hx hv)⟩
theorem segsLe_spec {δ:List (Nat × Nat)} {N:Nat} {ρ:Map}:∀ {a b:List Seg} {vs:List Value},segsLe δ N a b->CsRel ρ (cellsOf a) vs->CsRel (ρ.ren δ N) (cellsOf b) vs
 | [],[],vs,_,h=>⟨h.1,fun i x v hx=>by simp [cellsOf] at hx⟩
 | .c x::r,.c y::s,vs,hl,h=>by
   rw [cellsOf_cons] at h ⊢;obtain ⟨u,v,rfl,h1,h2⟩:=csrel_cons.1 h;refine csrel_cons.2 ⟨u,v,rfl,⟨h1.1,fun i a b ha hb=>?_⟩,segsLe_spec hl.2 h2⟩
   cases i with
   |zero=>
    simp [Seg.cells] at ha;subst ha;exact scLe_spec hl.1 (h1.2 0 x b (by simp [Seg.cells]) hb)
   |succ i=>simp [Seg.cells] at ha
 | .ints k n f::r,.ints k' m g::s,vs,hl,h=>by
   obtain ⟨⟨hk,hn,hf⟩,hr⟩:=hl;have:=kEq_eq hk;subst this;rw [cellsOf_cons] at h ⊢;obtain ⟨u,v,rfl,h1,h2⟩:=csrel_cons.1 h;refine csrel_cons.2 ⟨u,v,rfl,⟨by rw [cells_ints_len,<- hn,<- cells_ints_len (k:=k) (f:=f)];exact h1.1,fun i a b ha hb=>?_⟩,segsLe_spec hr h2⟩;have hi:=lt_of_get ha;rw [cells_ints_len] at hi;rw [cells_ints_get hi] at ha;obtain rfl:=by simpa using ha
   have:=h1.2 i _ b (cells_ints_get (f:=f) (by omega)) hb;rw [hf i (by omega)] at this;exact this
 | [],.c _::_,_,hl,h=>fallback (ρ':=ρ.ren δ N) (ρ:=ρ) rfl hl h
 | [],.ints .. :: _,_,hl,h=>fallback (ρ':=ρ.ren δ N) (ρ:=ρ) rfl hl h
 | .c _::_,[],_,hl,h=>fallback (ρ':=ρ.ren δ N) (ρ:=ρ) rfl hl h
 | .c _::_,.ints .. :: _,_,hl,h=>fallback (ρ':=ρ.ren δ N) (ρ:=ρ) rfl hl h
 | .ints .. :: _,[],_,hl,h=>fallback (ρ':=ρ.ren δ N) (ρ:=ρ) rfl hl h
 | .ints .. :: _,.c _::_,_,hl,h=>fallback (ρ':=ρ.ren δ N) (ρ:=ρ) rfl hl h
def v1Le (δ:List (Nat × Nat)) (N:Nat):V1->V1->Prop
 | .sc x,.sc y=>scLe δ N x y
 | .agg a,.agg b=>segsLe δ N a b
 |_,_=>False
theorem v1Le_spec {δ:List (Nat × Nat)} {N:Nat} {ρ:Map} {x y:V1} {v:Value} (h:v1Le δ N x y) (hx:V1Rel ρ x v):V1Rel (ρ.ren δ N) y v:=by
 cases x<;>cases y<;>simp only [v1Le] at h
 ·exact scLe_spec h hx
 ·obtain ⟨cs,rfl,hc⟩:=hx;exact ⟨cs,rfl,segsLe_spec h hc⟩
def tupLe (δ:List (Nat × Nat)) (N:Nat):List V1->List V1->Prop
 | [],[]=>True
 |x::r,y::s=>v1Le δ N x y/\tupLe δ N r s
 |_,_=>False
theorem tupLe_spec {δ:List (Nat × Nat)} {N:Nat} {ρ:Map}:∀ {a b:List V1} {vs:List Value},tupLe δ N a b->TupRel ρ a vs->TupRel (ρ.ren δ N) b vs
 | [],[],[],_,h=>h
 | [],[],_::_,_,h=>h.elim
 |_::_,_::_,[],_,h=>h.elim
 |_::_,_::_,_::_,hl,h=>⟨v1Le_spec hl.1 h.1,tupLe_spec hl.2 h.2⟩
 | [],_::_,_,hl,_=>hl.elim
 |_::_,[],_,hl,_=>hl.elim
def svLe (δ:List (Nat × Nat)) (N:Nat):SV->SV->Prop
 | .one x,.one y=>v1Le δ N x y
 | .tup a,.tup b=>tupLe δ N a b
 |_,.junk=>True
 |_,_=>False
theorem svLe_spec {δ:List (Nat × Nat)} {N:Nat} {ρ:Map} {t:Array Value} {x y:SV} {v:Value} (h:svLe δ N x y) (hx:VRel ρ t x v):VRel (ρ.ren δ N) t y v:=by
 cases x<;>cases y<;>simp only [svLe] at h<;>first
  |exact h.elim
  |trivial
  |exact v1Le_spec h hx
  |(obtain ⟨vs,rfl,ht⟩:=hx;exact ⟨vs,rfl,tupLe_spec h ht⟩)
theorem ur_le {δ:List (Nat × Nat)} {N:Nat} {ρ:Map} {x y:SV} {v:Value} (h:svLe δ N x y) (hx:UR ρ x v) (hj:y ≠ .junk):UR (ρ.ren δ N) y v:=by
 cases x<;>cases y<;>simp only [svLe] at h<;>first
  |exact h.elim
  |exact absurd rfl hj
  |exact v1Le_spec h hx
  |(obtain ⟨vs,rfl,ht⟩:=hx;exact ⟨vs,rfl,tupLe_spec h ht⟩)
def gLe (δ:List (Nat × Nat)) (N:Nat):Option (Nat × Nat × Nat)->Option (Nat × Nat × Nat)->Prop
 |none,none=>True
 |some (i,a,n),some (i',b,n')=>i=i'/\n=n'/\idLe δ N a b=true
 |_,_=>False
def entLe (δ:List (Nat × Nat)) (N i j:Nat):Ent->Ent->Prop
 | .own T a,.own T' b=>idLe δ N i j=true/\T=T'/\segsLe δ N a b
 | .row T a,.row T' b=>idLe δ N i j=true/\T=T'/\segsLe δ N a b
 | .own T a,.row T' b=>idLe δ N i j=true/\T=T'/\segsLe δ N a b
 | .orow e d,.orow e' d'=>idLe δ N i j=true/\e=e'/\d.rows=d'.rows
 | .ro a,.ro b=>idLe δ N i j=true/\segsLe δ N a b
 | .nrow c e d g,.nrow c' e' d' g'=>idLe δ N i j=true/\c=c'/\e=e'/\d.rows=d'.rows/\gLe δ N g g'
 |_,.gone=>True
 |_,_=>False
theorem mine_ren {B:Nat} {ρ:Map} {δ:List (Nat × Nat)} {N b:Nat} (h:Mine B ρ b):Mine B (ρ.ren δ N) b:=h
theorem rowAt_rows {ρ:Map} {w:World} {b c:Nat} {e:TypeId} {d d':D} (h:d.rows=d'.rows) (hr:RowAt ρ w b c e d):RowAt ρ w b c e d':=by
 have hl:d.len=d'.len:=by unfold D.len;rw [h]
 have he:∀ i j,d.el i j=d'.el i j:=fun i j=>by unfold D.el;rw [h]
 obtain ⟨cs,h1,h2,h3,h4⟩:=hr;exact ⟨cs,h1,h2,by rw [<- hl];exact h3,fun i j k hi hk=>by rw [<- he];exact h4 i j k (by rw [hl];exact hi) hk⟩
theorem dlen_rows {d d':D} (h:d.rows=d'.rows):d.len=d'.len:=by unfold D.len;rw [h]
theorem del_rows {d d':D} (h:d.rows=d'.rows) (i j:Nat):d.el i j=d'.el i j:=by unfold D.el;rw [h]
theorem hole_le {δ:List (Nat × Nat)} {N:Nat} {g g':Option (Nat × Nat × Nat)} (hg:gLe δ N g g') (p:Nat):(holeAt g p=none/\holeAt g' p=none) ∨ ∃ a b n,holeAt g p=some (a,n)/\holeAt g' p=some (b,n)/\idLe δ N a b=true:=by
 match g,g',hg with
 |none,none,_=>exact .inl ⟨rfl,rfl⟩
 |some (i,a,n),some (i',b,n'),⟨h1,h2,h3⟩=>
  subst h1 h2
  by_cases hp:p=i
  ·exact .inr ⟨a,b,n,by simp [holeAt,hp],by simp [holeAt,hp],h3⟩
  ·exact .inl ⟨by simp [holeAt,hp],by simp [holeAt,hp]⟩
theorem kv_le {δ:List (Nat × Nat)} {N:Nat} {ρ:Map} {i j:Nat} (hi:idLe δ N i j=true) {g g':Option (Nat × Nat × Nat)} (hg:gLe δ N g g') {e:TypeId} {x:D} {p:Nat} {u:Value} (h:KV ρ i e x g p u):KV (ρ.ren δ N) j e x g' p u:=by
 have hkid:(ρ.ren δ N).kid j=ρ.kid i:=by
  simp only [idLe,Bool.and_eq_true] at hi;simp only [Map.ren];rw [Nat.eq_of_beq_eq_true hi.1]
 unfold KV at h ⊢
 rcases hole_le hg p with ⟨h1,h2⟩ |⟨a,b,n,h1,h2,h3⟩
 ·rw [h1] at h;rw [h2,hkid];exact h
 ·rw [h1] at h;rw [h2];exact scLe_spec (x:=.osl e a (.lit 0) (.sym n)) ⟨h3,rfl,rfl,rfl⟩ h
theorem entLe_spec {δ:List (Nat × Nat)} {N:Nat} {B:Nat} {ρ:Map} {w:World} {i j:Nat} {x y:Ent} (h:entLe δ N i j x y) (hx:ERel B ρ w i x):ERel B (ρ.ren δ N) w j y:=by
 unfold entLe at h
 split at h
 ·obtain ⟨hi,rfl,h⟩:=h;obtain ⟨a,b,c,vs,d,e⟩:=hx;obtain ⟨e1,e2,e3,e4,_⟩:=idLe_spec hi ρ;exact ⟨by rw [e1];exact a,by rw [e4];exact b,by rw [e3];exact mine_ren c,vs,segsLe_spec h d,by rw [e3];exact e⟩
 ·obtain ⟨hi,rfl,h⟩:=h;obtain ⟨a,b,c,vs,r,d,e⟩:=hx;obtain ⟨e1,e2,e3,e4,_⟩:=idLe_spec hi ρ;exact ⟨by rw [e1];exact a,by rw [e4];exact b,by rw [e3];exact mine_ren c,vs,r,segsLe_spec h d,by rw [e3];exact e⟩
 ·obtain ⟨hi,rfl,h⟩:=h;obtain ⟨a,b,c,vs,d,e⟩:=hx;obtain ⟨e1,e2,e3,e4,_⟩:=idLe_spec hi ρ;exact ⟨by rw [e1];exact a,by rw [e4];exact b,by rw [e3];exact mine_ren c,vs,[],segsLe_spec h d,by rw [e3];simpa using e⟩
 ·obtain ⟨hi,rfl,h⟩:=h;obtain ⟨e1,e2,e3,e4,e5⟩:=idLe_spec hi ρ
  rcases hx with ⟨h0,h1⟩ |⟨a,b,c,r⟩
  ·exact .inl ⟨by rw [e1];exact h0,by unfold D.len at h1 ⊢;rw [<- h];exact h1⟩
  ·refine .inr ⟨by rw [e1];exact a,by rw [e4];exact b,by rw [e3];exact mine_ren c,?_⟩;rw [e3,e5];exact rowAt_rows h r
 ·obtain ⟨hi,h⟩:=h;obtain ⟨a,vs,d,e⟩:=hx;obtain ⟨e1,e2,e3,e4,_⟩:=idLe_spec hi ρ;exact ⟨by rw [e1];exact a,vs,segsLe_spec h d,by rw [e3,e4];exact e⟩
 ·obtain ⟨hi,rfl,rfl,h,hg⟩:=h;obtain ⟨e1,e2,e3,e4,e5⟩:=idLe_spec hi ρ
  rcases hx with ⟨h0,h1⟩ |⟨a,b,c,cs,e',k1,k2,k3,k4,k5⟩
  ·exact .inl ⟨by rw [e1];exact h0,by unfold D.len at h1 ⊢;rw [<- h];exact h1⟩
  ·refine .inr ⟨by rw [e1];exact a,by rw [e4];exact b,by rw [e3];exact mine_ren c,cs,e',by rw [e3];exact k1,by rw [e5];exact k2,by rw [e5,<- dlen_rows h];exact k3,k4,fun p q k hp hk=>?_⟩;obtain ⟨u,hu,hr⟩:=k5 p q k (by rw [dlen_rows h];exact hp) hk;refine ⟨u,hu,?_⟩;split
   ·rename_i hq;rw [if_pos hq] at hr;rw [<- del_rows h];exact kv_le hi hg hr
   ·rename_i hq;rw [if_neg hq] at hr;rw [<- del_rows h];exact hr
 ·trivial
 ·exact h.elim
theorem entLe_own {δ:List (Nat × Nat)} {N i j:Nat} {x y:Ent} (h:entLe δ N i j x y) (ho:y.isOwn=true):x.isOwn=true/\idLe δ N i j=true:=by
 unfold entLe at h
 split at h
 ·exact ⟨rfl,h.1⟩
 ·exact ⟨rfl,h.1⟩
 ·exact ⟨rfl,h.1⟩
 ·exact ⟨rfl,h.1⟩
 ·cases ho
 ·exact ⟨rfl,h.1⟩
 ·cases ho
 ·exact h.elim
theorem entLe_nrow {δ:List (Nat × Nat)} {N i j:Nat} {x:Ent} {c:Nat} {e:TypeId} {d:D} {g:Option (Nat × Nat × Nat)} (h:entLe δ N i j x (.nrow c e d g)):∃ d0 g0,x = .nrow c e d0 g0/\d0.rows=d.rows/\gLe δ N g0 g/\idLe δ N i j=true:=by
 cases x with
 |nrow c' e' d0 g0=>
  obtain ⟨h1,rfl,rfl,h2,h3⟩:=h;exact ⟨d0,g0,rfl,h2,h3,h1⟩
 |_=>exact h.elim
def slotsLe (δ:List (Nat × Nat)) (N:Nat) (s:Slots):Slots->Prop
 | []=>True
 |(t,y)::r=>(match look s t with |some x=>svLe δ N x y |none=>y = .junk)/\slotsLe δ N s r
def voidLe (δ:List (Nat × Nat)) (n j:Nat):Ent->Prop
 | .gone=>True
 | .orow _ d=>n<=dm δ j/\d.rows=[]
 |_=>False
def heapLe (δ:List (Nat × Nat)) (N n:Nat) (s:Heap):Heap->Prop
 | []=>True
 |(j,y)::r=>(match look s (dm δ j) with |some x=>entLe δ N (dm δ j) j x y |none=>voidLe δ n j y)/\heapLe δ N n s r
theorem slotsLe_spec {δ:List (Nat × Nat)} {N:Nat} {s:Slots}:∀ {t:Slots},slotsLe δ N s t->∀ k y,look t k=some y->(∃ x,look s k=some x/\svLe δ N x y) ∨ y = .junk
 | [],_,k,y,h=>by simp [look] at h
 |(j,z)::r,hs,k,y,h=>by
  simp only [look] at h
  split at h
  ·rename_i hj;obtain rfl:j=k:=by simpa using hj
   obtain rfl:=by simpa using h
   have h1:=hs.1
   cases hl:look s j with
   |some x=>rw [hl] at h1;exact .inl ⟨x,rfl,h1⟩
   |none=>rw [hl] at h1;exact .inr h1
  ·exact slotsLe_spec hs.2 k y h
theorem heapLe_spec {δ:List (Nat × Nat)} {N n:Nat} {s:Heap}:∀ {t:Heap},heapLe δ N n s t->∀ k y,look t k=some y->(∃ x,look s (dm δ k)=some x/\entLe δ N (dm δ k) k x y) ∨ voidLe δ n k y
 | [],_,k,y,h=>by simp [look] at h
 |(j,z)::r,hs,k,y,h=>by
  simp only [look] at h
  split at h
  ·rename_i hj;obtain rfl:j=k:=by simpa using hj
   obtain rfl:=by simpa using h
   have h1:=hs.1
   cases hl:look s (dm δ j) with
   |some x=>rw [hl] at h1;exact .inl ⟨x,rfl,h1⟩
   |none=>rw [hl] at h1;exact .inr h1
  ·exact heapLe_spec hs.2 k y h
def injOK (δ:List (Nat × Nat)):Heap->Bool
 | []=>true
 |(j,y)::r=>r.all (fun p=>Nat.beq p.1 j || !y.isOwn || !p.2.isOwn || !Nat.beq (dm δ p.1) (dm δ j))&&injOK δ r
theorem look_mem {α:Type}:∀ {l:List (Nat × α)} {k:Nat} {x : α},look l k=some x->(k,x)∈l
 | [],k,x,h=>by simp [look] at h
 |(j,y)::r,k,x,h=>by
  simp only [look] at h
  split at h
  ·rename_i hj;obtain rfl:j=k:=by simpa using hj
   obtain rfl:=by simpa using h
   exact List.mem_cons_self ..
  ·exact List.mem_cons_of_mem _ (look_mem h)
theorem injOK_spec {δ:List (Nat × Nat)}:∀ {h:Heap},injOK δ h=true->∀ i j e f,(i,e)∈h->(j,f)∈h->e.isOwn=true->f.isOwn=true->i≠j->dm δ i≠dm δ j
 | [],_,i,j,e,f,h,_,_,_,_=>by cases h
 |(k,y)::r,hk,i,j,e,f,hi,hj,he,hf,hne=>by
  simp only [injOK,Bool.and_eq_true] at hk;have key:∀ p∈r,p.2.isOwn=true->y.isOwn=true->p.1≠k->dm δ p.1≠dm δ k:=fun p hp h1 h2 h3=>by
   have:=List.all_eq_true.1 hk.1 p hp;intro e;simp [h1,h2,h3,e] at this
  rcases List.mem_cons.1 hi with h1 |h1<;>rcases List.mem_cons.1 hj with h2 |h2
  ·cases h1;cases h2;exact absurd rfl hne
  ·cases h1;exact fun q=>key _ h2 hf he (Ne.symm hne) q.symm
  ·cases h2;exact key _ h1 he hf hne
  ·exact injOK_spec hk.2 i j e f h1 h2 he hf hne
def stLe (δ:List (Nat × Nat)) (s t:St):Prop:=slotsLe δ t.nx s.tm t.tm/\heapLe δ t.nx s.nx s.hp t.hp/\injOK δ t.hp=true
theorem void_rel {δ:List (Nat × Nat)} {N n B k:Nat} {y:Ent} (h:voidLe δ n k y) {ρ:Map} (hf:∀ id,n<=id -> ρ id=none) (w:World):ERel B (ρ.ren δ N) w k y/\(y.isOwn=true->((ρ.ren δ N) k).isSome=true->False):=by
 cases y with
 |gone=>exact ⟨trivial,fun h=>by cases h⟩
 |orow e d=>
  have hn:(ρ.ren δ N) k=none:=by
   simp only [Map.ren];split
   ·exact hf _ h.1
   ·rfl
  exact ⟨.inl ⟨hn,by unfold D.len;rw [h.2];rfl⟩,fun _ h'=>by rw [hn] at h';cases h'⟩
 |own=>exact h.elim
 |row=>exact h.elim
 |ro=>exact h.elim
 |nrow=>exact h.elim
theorem stLe_spec {δ:List (Nat × Nat)} {s t:St} (h:stLe δ s t) {w0:W0} (h0:w0.anc.isSome=true->dm δ 0=0/\0<t.nx) {nt:Nat} {ρ:Map} {a:Act} {w:World} (hs:SH w0 nt s ρ a w):SH w0 nt t (ρ.ren δ t.nx) a w:=by
 obtain ⟨h1,h2,h3⟩:=h;have some':∀ i,((ρ.ren δ t.nx) i).isSome=true->(ρ (dm δ i)).isSome=true:=fun i hi=>by
  simp only [Map.ren] at hi
  split at hi
  ·exact hi
  ·cases hi
 refine ⟨⟨hs.slots.size,hs.slots.defers,fun k y hy=>?_⟩,⟨hs.mem.below,fun k y hy=>?_,fun i j e f hi hj he hf hne hii hjj=>?_,hs.mem.froz,hs.mem.sub,hs.mem.mu0,hs.mem.f00,hs.mem.old,fun p hp=>?_,hs.mem.tab,?_⟩,fun id hid=>?_⟩
 ·rcases slotsLe_spec h1 k y hy with ⟨x,hx,hl⟩ |rfl
  ·exact svLe_spec hl (hs.slots.slots k x hx)
  ·trivial
 ·rcases heapLe_spec h2 k y hy with ⟨x,hx,hl⟩ |hv
  ·exact entLe_spec hl (hs.mem.ents _ x hx)
  ·exact (void_rel hv hs.fresh w).1
 ·rcases heapLe_spec h2 i e hi with ⟨x,hx,hl⟩ |hv
  ·rcases heapLe_spec h2 j f hj with ⟨y,hy,hm⟩ |hv
   ·obtain ⟨g1,g2⟩:=entLe_own hl he;obtain ⟨k1,k2⟩:=entLe_own hm hf;rw [(idLe_spec g2 ρ).2.2.1,(idLe_spec k2 ρ).2.2.1];exact hs.mem.apart _ _ x y hx hy g1 k1 (injOK_spec h3 i j e f (look_mem hi) (look_mem hj) he hf hne) (some' i hii) (some' j hjj)
   ·exact ((void_rel (N:=t.nx) (B:=0) hv hs.fresh w).2 hf hjj).elim
  ·exact ((void_rel (N:=t.nx) (B:=0) hv hs.fresh w).2 he hii).elim
 ·obtain ⟨g1,g2⟩:=h0 (by rw [hp];rfl);simp only [Map.ren];rw [if_pos (by simpa [Nat.blt_eq] using g2),g1];exact hs.mem.anc p hp
 ·have src:∀ j c e d g,look t.hp j=some (.nrow c e d g)->∃ d0 g0,look s.hp (dm δ j)=some (.nrow c e d0 g0)/\d0.rows=d.rows/\gLe δ t.nx g0 g/\idLe δ t.nx (dm δ j) j=true:=fun j c e d g hj=>by
   rcases heapLe_spec h2 j _ hj with ⟨x,hx,hl⟩ |hv
   ·obtain ⟨d0,g0,rfl,k1,k2,k3⟩:=entLe_nrow hl;exact ⟨d0,g0,hx,k1,k2,k3⟩
   ·exact hv.elim
  intro j c e d g hj hi k b cap hk;obtain ⟨d0,g0,hl0,hr,hg,hid⟩:=src j c e d g hj;obtain ⟨c1,c2,c3,c4,c5⟩:=hs.mem.lin (dm δ j) c e d0 g0 hl0 (some' j hi) k b cap hk;refine ⟨c1,c2,fun e' he hlt hh=>?_,fun j2 f hj2 ho hi2=>?_,fun j2 c' e2 d' g' q cap' hj2 hi2 hk2=>?_⟩
  ·rw [<- del_rows hr];refine c3 e' he (by rw [dlen_rows hr];exact hlt) ?_
   rcases hole_le hg k with ⟨h4,_⟩ |⟨_,_,_,_,h5,_⟩
   ·exact h4
   ·rw [hh] at h5;cases h5
  ·rcases heapLe_spec h2 j2 f hj2 with ⟨y,hy,hm⟩ |hv
   ·obtain ⟨k1,k2⟩:=entLe_own hm ho;rw [(idLe_spec k2 ρ).2.2.1];exact c4 _ y hy k1 (some' j2 hi2)
   ·exact ((void_rel (N:=t.nx) (B:=0) hv hs.fresh w).2 ho hi2).elim
  ·obtain ⟨d1,g1,hl1,_,_,_⟩:=src j2 c' e2 d' g' hj2;obtain ⟨m1,m2⟩:=c5 (dm δ j2) c' e2 d1 g1 q cap' hl1 (some' j2 hi2) hk2;refine ⟨?_,m2⟩
   by_cases hne:j2=j
   ·exact hne
   ·exact absurd m1 (injOK_spec h3 j2 j _ _ (look_mem hj2) (look_mem hj) rfl rfl hne)
 ·simp only [Map.ren];rw [if_neg]
  simpa using hid
def Conj:List Prop->Prop
 | []=>True
 | [p]=>p
 |p::r=>p/\Conj r
theorem conj_all:∀ {l:List Prop},Conj l->All l
 | [],_=>trivial
 | [_],h=>⟨h,trivial⟩
 |_::_::_,h=>⟨h.1,conj_all h.2⟩
def AllI:List Prop->Prop->Prop
 | [],q=>q
 |p::r,q=>p->AllI r q
theorem allI_iff {q:Prop}:∀ {l:List Prop},AllI l q↔(All l->q)
 | []=>by simp [AllI,All]
 |p::r=>by
  simp only [AllI,All,allI_iff (l:=r)];exact ⟨fun h k=>h k.1 k.2,fun h k m=>h ⟨k,m⟩⟩
def scL (δ:List (Nat × Nat)) (N:Nat):SC->SC->Option (List Prop)
 | .int k n,.int k' m=>if kEq k k' then some [n.v=m.v] else none
 | .bool b,.bool c=>some [b.v=c.v]
 | .ptr i o,.ptr j q=>if idLe δ N i j then (match o,q with | .lit a,.lit b=>if Nat.beq a b then some [] else none |o,q=>some [o.v=q.v]) else none
 | .slice i o n,.slice j q m=>if idLe δ N i j then (match o,q with | .lit a,.lit b=>if Nat.beq a b then some [n.v=m.v] else none |o,q=>some [o.v=q.v,n.v=m.v]) else none
 | .nils,.slice _ _ m=>some [m.v=0]
 | .nils,.nils=>some []
 | .raw v,.raw u=>some [v=u]
 | .rows e d,.rows e' d'=>if Nat.beq e e' then some [d.rows=d'.rows] else none
 | .nils,.rows _ d=>some [d.rows=[]]
 | .fp e d i j,.fp e' d' i' j'=>if Nat.beq e e' then some [d=d',i=i',j=j'] else none
 | .osl e i lo n,.osl e' j lo' m=>if idLe δ N i j&&Nat.beq e e' then (match lo,lo' with | .lit a,.lit b=>if Nat.beq a b then some [n.v=m.v] else none |lo,lo'=>some [lo.v=lo'.v,n.v=m.v]) else none
 | .nils,.osl _ _ _ m=>some [m.v=0]
 | .optr e i a b,.optr e' j a' b'=>if idLe δ N i j&&Nat.beq e e' then some [a=a',b=b'] else none
 | .fn g e p o,.fn g' e' p' o'=>if (g==g')&&Nat.beq e e' then some [p=p',o=o'] else none
 | .bm g i,.bm g' j=>if idLe δ N i j&&Nat.beq g g' then some [] else none
 |_,_=>none
theorem scL_spec {δ:List (Nat × Nat)} {N:Nat} {x y:SC} {ps:List Prop} (h:scL δ N x y=some ps) (hp:All ps):scLe δ N x y:=by
 unfold scL at h
 split at h
 ·split at h
  ·rename_i hk;simp only [Option.some.injEq] at h;subst h;exact ⟨hk,hp.1⟩
  ·cases h
 ·simp only [Option.some.injEq] at h;subst h;exact hp.1
 ·split at h
  ·rename_i hk
   split at h
   ·split at h
    ·rename_i hb;simp only [Option.some.injEq] at h;subst h;exact ⟨hk,Nat.eq_of_beq_eq_true hb⟩
    ·cases h
   ·simp only [Option.some.injEq] at h;subst h;exact ⟨hk,hp.1⟩
  ·cases h
 ·split at h
  ·rename_i hk
   split at h
   ·split at h
    ·rename_i hb;simp only [Option.some.injEq] at h;subst h;exact ⟨hk,Nat.eq_of_beq_eq_true hb,hp.1⟩
    ·cases h
   ·simp only [Option.some.injEq] at h;subst h;exact ⟨hk,hp.1,hp.2.1⟩
  ·cases h
 ·simp only [Option.some.injEq] at h;subst h;exact hp.1
 ·trivial
 ·simp only [Option.some.injEq] at h;subst h;exact hp.1
 ·split at h
  ·rename_i hk;simp only [Option.some.injEq] at h;subst h;exact ⟨Nat.eq_of_beq_eq_true hk,hp.1⟩
  ·cases h
 ·simp only [Option.some.injEq] at h;subst h;exact hp.1
 ·split at h
  ·rename_i hk;simp only [Option.some.injEq] at h;subst h;exact ⟨Nat.eq_of_beq_eq_true hk,hp.1,hp.2.1,hp.2.2.1⟩
  ·cases h
 ·split at h
  ·rename_i hk;simp only [Bool.and_eq_true] at hk
   split at h
   ·split at h
    ·rename_i hb;simp only [Option.some.injEq] at h;subst h;exact ⟨hk.1,Nat.eq_of_beq_eq_true hk.2,Nat.eq_of_beq_eq_true hb,hp.1⟩
    ·cases h
   ·simp only [Option.some.injEq] at h;subst h;exact ⟨hk.1,Nat.eq_of_beq_eq_true hk.2,hp.1,hp.2.1⟩
  ·cases h
 ·simp only [Option.some.injEq] at h;subst h;exact hp.1
 ·split at h
  ·rename_i hk;simp only [Bool.and_eq_true] at hk;simp only [Option.some.injEq] at h;subst h;exact ⟨hk.1,Nat.eq_of_beq_eq_true hk.2,hp.1,hp.2.1⟩
  ·cases h
 ·split at h
  ·rename_i hk;simp only [Bool.and_eq_true,beq_iff_eq] at hk;simp only [Option.some.injEq] at h;subst h;exact ⟨hk.1,Nat.eq_of_beq_eq_true hk.2,hp.1,hp.2.1⟩
  ·cases h
 ·split at h
  ·rename_i hk;simp only [Bool.and_eq_true] at hk;exact ⟨hk.1,Nat.eq_of_beq_eq_true hk.2⟩
  ·cases h
 ·cases h
def segsL (δ:List (Nat × Nat)) (N:Nat):List Seg->List Seg->Option (List Prop)
 | [],[]=>some []
 | .c x::r,.c y::s=>(match scL δ N x y,segsL δ N r s with |some a,some b=>some (a++b) |_,_=>none)
 | .ints k n f::r,.ints k' m g::s=>if kEq k k' then (match segsL δ N r s with
    |some b=>(match n,m with
     | .lit a,.lit c=>if Nat.beq a c then some ((∀ o,o<a->f o=g o)::b) else none
     |n,m=>some ((n.v=m.v)::(∀ o,o<n.v->f o=g o)::b))
    |none=>none) else none
 |a,b=>if noPtr b then some [cellsN a=cellsN b] else none
theorem segsL_spec {δ:List (Nat × Nat)} {N:Nat}:∀ {a b:List Seg} {ps:List Prop},segsL δ N a b=some ps->All ps->segsLe δ N a b
 | [],[],ps,h,hp=>trivial
 | .c x::r,.c y::s,ps,h,hp=>by
   simp only [segsL] at h
   split at h
   ·rename_i a b ha hb;simp only [Option.some.injEq] at h;subst h;obtain ⟨h1,h2⟩:=all_append.1 hp;exact ⟨scL_spec ha h1,segsL_spec hb h2⟩
   ·cases h
 | .ints k n f::r,.ints k' m g::s,ps,h,hp=>by
   simp only [segsL] at h
   split at h
   ·rename_i hk
    split at h
    ·rename_i b hb
     split at h
     ·split at h
      ·rename_i a c hac;simp only [Option.some.injEq] at h;subst h;exact ⟨⟨hk,by simp [SN.v,Nat.eq_of_beq_eq_true hac],hp.1⟩,segsL_spec hb hp.2⟩
      ·cases h
     ·simp only [Option.some.injEq] at h;subst h;exact ⟨⟨hk,hp.1,hp.2.1⟩,segsL_spec hb hp.2.2⟩
    ·cases h
   ·cases h
 | [],.c _::_,ps,h,hp=>by
   simp only [segsL] at h
   split at h
   ·rename_i hn;simp only [Option.some.injEq] at h;subst h;exact ⟨hn,hp.1⟩
   ·cases h
 | [],.ints .. :: _,ps,h,hp=>by
   simp only [segsL] at h
   split at h
   ·rename_i hn;simp only [Option.some.injEq] at h;subst h;exact ⟨hn,hp.1⟩
   ·cases h
 | .c _::_,[],ps,h,hp=>by
   simp only [segsL] at h
   split at h
   ·rename_i hn;simp only [Option.some.injEq] at h;subst h;exact ⟨hn,hp.1⟩
   ·cases h
 | .c _::_,.ints .. :: _,ps,h,hp=>by
   simp only [segsL] at h
   split at h
   ·rename_i hn;simp only [Option.some.injEq] at h;subst h;exact ⟨hn,hp.1⟩
   ·cases h
 | .ints .. :: _,[],ps,h,hp=>by
   simp only [segsL] at h
   split at h
   ·rename_i hn;simp only [Option.some.injEq] at h;subst h;exact ⟨hn,hp.1⟩
   ·cases h
 | .ints .. :: _,.c _::_,ps,h,hp=>by
   simp only [segsL] at h
   split at h
   ·rename_i hn;simp only [Option.some.injEq] at h;subst h;exact ⟨hn,hp.1⟩
   ·cases h
def v1L (δ:List (Nat × Nat)) (N:Nat):V1->V1->Option (List Prop)
 | .sc x,.sc y=>scL δ N x y
 | .agg a,.agg b=>segsL δ N a b
 |_,_=>none
theorem v1L_spec {δ:List (Nat × Nat)} {N:Nat} {x y:V1} {ps:List Prop} (h:v1L δ N x y=some ps) (hp:All ps):v1Le δ N x y:=by
 cases x<;>cases y<;>simp only [v1L] at h<;>first |(cases h;done) |exact scL_spec h hp |exact segsL_spec h hp
def tupL (δ:List (Nat × Nat)) (N:Nat):List V1->List V1->Option (List Prop)
 | [],[]=>some []
 |x::r,y::s=>(match v1L δ N x y,tupL δ N r s with |some a,some b=>some (a++b) |_,_=>none)
 |_,_=>none
theorem tupL_spec {δ:List (Nat × Nat)} {N:Nat}:∀ {a b:List V1} {ps:List Prop},tupL δ N a b=some ps->All ps->tupLe δ N a b
 | [],[],_,_,_=>trivial
 |x::r,y::s,ps,h,hp=>by
  simp only [tupL] at h
  split at h
  ·rename_i a b ha hb;simp only [Option.some.injEq] at h;subst h;obtain ⟨h1,h2⟩:=all_append.1 hp;exact ⟨v1L_spec ha h1,tupL_spec hb h2⟩
  ·cases h
 | [],_::_,_,h,_=>by simp [tupL] at h
 |_::_,[],_,h,_=>by simp [tupL] at h
def svL (δ:List (Nat × Nat)) (N:Nat):SV->SV->Option (List Prop)
 | .one x,.one y=>v1L δ N x y
 | .tup a,.tup b=>tupL δ N a b
 |_,.junk=>some []
 |_,_=>none
theorem svL_spec {δ:List (Nat × Nat)} {N:Nat} {x y:SV} {ps:List Prop} (h:svL δ N x y=some ps) (hp:All ps):svLe δ N x y:=by
 cases x<;>cases y<;>simp only [svL] at h<;>first |(cases h;done) |exact v1L_spec h hp |exact tupL_spec h hp |trivial
def gL (δ:List (Nat × Nat)) (N:Nat):Option (Nat × Nat × Nat)->Option (Nat × Nat × Nat)->Option (List Prop)
 |none,none=>some []
 |some (i,a,n),some (i',b,n')=>if idLe δ N a b then some [i=i',n=n'] else none
 |_,_=>none
theorem gL_spec {δ:List (Nat × Nat)} {N:Nat} {g g':Option (Nat × Nat × Nat)} {ps:List Prop} (h:gL δ N g g'=some ps) (hp:All ps):gLe δ N g g':=by
 match g,g',h with
 |none,none,_=>trivial
 |some (i,a,n),some (i',b,n'),h=>
  simp only [gL] at h
  split at h
  ·rename_i hi;simp only [Option.some.injEq] at h;subst h;exact ⟨hp.1,hp.2.1,hi⟩
  ·cases h
def entL (δ:List (Nat × Nat)) (N i j:Nat):Ent->Ent->Option (List Prop)
 | .own T a,.own T' b=>if idLe δ N i j&&Nat.beq T T' then segsL δ N a b else none
 | .row T a,.row T' b=>if idLe δ N i j&&Nat.beq T T' then segsL δ N a b else none
 | .own T a,.row T' b=>if idLe δ N i j&&Nat.beq T T' then segsL δ N a b else none
 | .orow e d,.orow e' d'=>if idLe δ N i j&&Nat.beq e e' then some [d.rows=d'.rows] else none
 | .ro a,.ro b=>if idLe δ N i j then segsL δ N a b else none
 | .nrow c e d g,.nrow c' e' d' g'=>if idLe δ N i j&&Nat.beq c c'&&Nat.beq e e' then (match gL δ N g g' with |some ps=>some ((d.rows=d'.rows)::ps) |none=>none) else none
 |_,.gone=>some []
 |_,_=>none
theorem entL_spec {δ:List (Nat × Nat)} {N i j:Nat} {x y:Ent} {ps:List Prop} (h:entL δ N i j x y=some ps) (hp:All ps):entLe δ N i j x y:=by
 unfold entL at h
 split at h
 ·split at h
  ·rename_i hk;simp only [Bool.and_eq_true] at hk;exact ⟨hk.1,Nat.eq_of_beq_eq_true hk.2,segsL_spec h hp⟩
  ·cases h
 ·split at h
  ·rename_i hk;simp only [Bool.and_eq_true] at hk;exact ⟨hk.1,Nat.eq_of_beq_eq_true hk.2,segsL_spec h hp⟩
  ·cases h
 ·split at h
  ·rename_i hk;simp only [Bool.and_eq_true] at hk;exact ⟨hk.1,Nat.eq_of_beq_eq_true hk.2,segsL_spec h hp⟩
  ·cases h
 ·split at h
  ·rename_i hk;simp only [Bool.and_eq_true] at hk;simp only [Option.some.injEq] at h;subst h;exact ⟨hk.1,Nat.eq_of_beq_eq_true hk.2,hp.1⟩
  ·cases h
 ·split at h
  ·rename_i hk;exact ⟨hk,segsL_spec h hp⟩
  ·cases h
 ·split at h
  ·rename_i hk;simp only [Bool.and_eq_true] at hk
   split at h
   ·rename_i qs hg;simp only [Option.some.injEq] at h;subst h;exact ⟨hk.1.1,Nat.eq_of_beq_eq_true hk.1.2,Nat.eq_of_beq_eq_true hk.2,hp.1,gL_spec hg hp.2⟩
   ·cases h
  ·cases h
 ·cases x<;>trivial
 ·cases h
def slotsL (δ:List (Nat × Nat)) (N:Nat) (s:Slots):Slots->Option (List Prop)
 | []=>some []
 |(t,y)::r=>(match look s t with
  |some x=>(match svL δ N x y,slotsL δ N s r with |some a,some b=>some (a++b) |_,_=>none)
  |none=>(match y with | .junk=>slotsL δ N s r |_=>none))
theorem slotsL_spec {δ:List (Nat × Nat)} {N:Nat} {s:Slots}:∀ {t:Slots} {ps:List Prop},slotsL δ N s t=some ps->All ps->slotsLe δ N s t
 | [],_,_,_=>trivial
 |(j,y)::r,ps,h,hp=>by
  simp only [slotsL] at h
  split at h
  ·rename_i x hx
   split at h
   ·rename_i a b ha hb;simp only [Option.some.injEq] at h;subst h;obtain ⟨h1,h2⟩:=all_append.1 hp;exact ⟨by rw [hx];exact svL_spec ha h1,slotsL_spec hb h2⟩
   ·cases h
  ·rename_i hx
   split at h
   ·exact ⟨by rw [hx],slotsL_spec h hp⟩
   ·cases h
def voidL (δ:List (Nat × Nat)) (n j:Nat):Ent->Option (List Prop)
 | .gone=>some []
 | .orow _ d=>if Nat.ble n (dm δ j) then some [d.rows=[]] else none
 |_=>none
def heapL (δ:List (Nat × Nat)) (N n:Nat) (s:Heap):Heap->Option (List Prop)
 | []=>some []
 |(j,y)::r=>(match look s (dm δ j) with
  |some x=>(match entL δ N (dm δ j) j x y,heapL δ N n s r with |some a,some b=>some (a++b) |_,_=>none)
  |none=>(match voidL δ n j y,heapL δ N n s r with |some a,some b=>some (a++b) |_,_=>none))
theorem voidL_spec {δ:List (Nat × Nat)} {n j:Nat} {y:Ent} {ps:List Prop} (h:voidL δ n j y=some ps) (hp:All ps):voidLe δ n j y:=by
 cases y with
 |gone=>trivial
 |orow e d=>
  simp only [voidL] at h
  split at h
  ·rename_i hk;simp only [Option.some.injEq] at h;subst h;exact ⟨Nat.le_of_ble_eq_true hk,hp.1⟩
  ·cases h
 |own=>cases h
 |row=>cases h
 |ro=>cases h
 |nrow=>cases h
theorem heapL_spec {δ:List (Nat × Nat)} {N n:Nat} {s:Heap}:∀ {t:Heap} {ps:List Prop},heapL δ N n s t=some ps->All ps->heapLe δ N n s t
 | [],_,_,_=>trivial
 |(j,y)::r,ps,h,hp=>by
  simp only [heapL] at h
  split at h
  ·rename_i x hx
   split at h
   ·rename_i a b ha hb;simp only [Option.some.injEq] at h;subst h;obtain ⟨h1,h2⟩:=all_append.1 hp;exact ⟨by rw [hx];exact entL_spec ha h1,heapL_spec hb h2⟩
   ·cases h
  ·rename_i hx
   split at h
   ·rename_i a b ha hb;simp only [Option.some.injEq] at h;subst h;obtain ⟨h1,h2⟩:=all_append.1 hp;exact ⟨by rw [hx];exact voidL_spec ha h1,heapL_spec hb h2⟩
   ·cases h
def mSc:SC->SC->List (Nat × Nat)
 | .ptr i _,.ptr j _=>[(j,i)]
 | .slice i _ _,.slice j _ _=>[(j,i)]
 | .osl _ i _ _,.osl _ j _ _=>[(j,i)]
 | .optr _ i _ _,.optr _ j _ _=>[(j,i)]
 | .nils,.osl _ j _ _=>[(j,1048576+j)]
 |_,_=>[]
def mSegs:List Seg->List Seg->List (Nat × Nat)
 | .c x::r,.c y::s=>mSc x y++mSegs r s
 | .ints .. :: r,.ints .. :: s=>mSegs r s
 |_,_=>[]
def mV1:V1->V1->List (Nat × Nat)
 | .sc x,.sc y=>mSc x y
 | .agg a,.agg b=>mSegs a b
 |_,_=>[]
def mTup:List V1->List V1->List (Nat × Nat)
 |x::r,y::s=>mV1 x y++mTup r s
 |_,_=>[]
def mSV:SV->SV->List (Nat × Nat)
 | .one x,.one y=>mV1 x y
 | .tup a,.tup b=>mTup a b
 |_,_=>[]
def mSlots (s:Slots):Slots->List (Nat × Nat)
 | []=>[]
 |(t,y)::r=>(match look s t with |some x=>mSV x y |none=>[])++mSlots s r
def mHeap (s:Heap):Heap->List (Nat × Nat)->List (Nat × Nat)
 | [],δ=>δ
 |(j,y)::r,δ=>(match look s (dm δ j) with
  |some x=>(match x.segs,y.segs with |some a,some b=>mHeap s r (δ ++ mSegs a b) |_,_=>(match x,y with | .nrow _ _ _ (some (_,a,_)),.nrow _ _ _ (some (_,b,_))=>mHeap s r (δ ++ [(b,a)]) |_,_=>mHeap s r δ))
  |none=>mHeap s r δ)
def stL (s t:St):Option (List Prop):=
 let δ:=mHeap s.hp t.hp (mSlots s.tm t.tm)
 match slotsL δ t.nx s.tm t.tm,heapL δ t.nx s.nx s.hp t.hp with
 |some a,some b=>if injOK δ t.hp then some (a++b) else none
 |_,_=>none
def LeP (s t:St):Prop:=match stL s t with |some ps=>Conj ps |none=>False
def LeQ (b:Bool) (s t:St):Prop:=match b with
 |false=>LeP s t
 |true=>if Nat.beq (dm (mHeap s.hp t.hp (mSlots s.tm t.tm)) 0) 0&&Nat.blt 0 t.nx then LeP s t else False
theorem leP_spec' {s t:St} (h:LeP s t):stLe (mHeap s.hp t.hp (mSlots s.tm t.tm)) s t:=by
 unfold LeP at h
 split at h
 ·rename_i ps hps;unfold stL at hps;dsimp only at hps
  split at hps
  ·rename_i a b ha hb
   split at hps
   ·rename_i hi;simp only [Option.some.injEq] at hps;subst hps;obtain ⟨h1,h2⟩:=all_append.1 (conj_all h);exact ⟨slotsL_spec ha h1,heapL_spec hb h2,hi⟩
   ·cases hps
  ·cases hps
 ·exact h.elim
theorem leQ_spec {b:Bool} {s t:St} (h:LeQ b s t):∃ δ,stLe δ s t/\(b=true->dm δ 0=0/\0<t.nx):=by
 unfold LeQ at h
 split at h
 ·exact ⟨_,leP_spec' h,fun h=>by cases h⟩
 ·split at h
  ·rename_i hc;simp only [Bool.and_eq_true] at hc;exact ⟨_,leP_spec' h,fun _=>⟨Nat.eq_of_beq_eq_true hc.1,by simpa [Nat.blt_eq] using hc.2⟩⟩
  ·exact h.elim
def keepS (s:Slots):List Nat->Slots
 | []=>[]
 |t::r=>match look s t with |some x=>(t,x)::keepS s r |none=>keepS s r
def keepH (s:Heap):List Nat->Heap
 | []=>[]
 |t::r=>match look s t with |some x=>(t,x)::keepH s r |none=>keepH s r
def idOf (s:St) (t:Nat):Nat:=match look s.tm t with |some (.one (.sc (.ptr id _)))=>id |some (.one (.sc (.slice id _ _)))=>id |some (.one (.sc (.osl _ id _ _)))=>id |some (.one (.sc (.optr _ id _ _)))=>id |_=>0
def sx (tt:TT) (nt:Nat) (A:Ann) (L:St->St->Prop):Code->(Ex->St->Prop)->St->Prop
 | .skip,K,s=>K .normal s
 | .label _,K,s=>K .normal s
 | .exit id,K,s=>K (.exit id) s
 | .ret,K,s=>K .ret s
 | .region id ops draw,K,s=>(match regR tt (A.C id) nt ops draw s with |some (ps,s')=>AllK ps (K .normal s') |none=>if draw&&Nat.ble ops.size 5 then anyS tt (A.C id) nt ops (K .normal) ops.size (List.replicate ops.size false) s else False)
 | .seq a b,K,s=>(match A.cut (firstReg b) with
   |some I=>sx tt nt A L a (fun e s'=>match e with | .normal=>∃ i,I.pre s i/\L s' (I.st s i) | .exit i=>K (.exit i) s' | .ret=>K .ret s') s/\∀ i,I.pre s i->sx tt nt A L b K (I.st s i)
   |none=>sx tt nt A L a (fun e s'=>match e with | .normal=>sx tt nt A L b K s' | .exit i=>K (.exit i) s' | .ret=>K .ret s') s)
 | .cond c a b,K,s=>(match evO s.tm [] c with
   |some (.one (.sc (.bool (.lit true))))=>sx tt nt A L a K s
   |some (.one (.sc (.bool (.lit false))))=>sx tt nt A L b K s
   |some (.one (.sc (.bool (.sym t))))=>(t=true->sx tt nt A L a K s)/\(t=false->sx tt nt A L b K s)
   |_=>False)
 | .block id c,K,s=>sx tt nt A L c (fun e s'=>match e with | .normal=>K .normal s' | .exit j=>if Nat.beq j id then K .normal s' else K (.exit j) s' | .ret=>K .ret s') s
 | .loop c,K,s=>(match A.inv (firstReg c) with
   |some I=>(∃ i,I.pre s i/\L s (I.st s i))/\∀ i,I.pre s i->sx tt nt A L c (fun e s'=>match e with | .normal=>∃ j,I.pre s j/\I.μ j<I.μ i/\L s' (I.st s j) | .exit k=>K (.exit k) s' | .ret=>K .ret s') (I.st s i)
   |none=>False)
 |_,_,_=>False
def exOf:Exit->Option Ex | .normal=>some .normal | .exit i=>some (.exit i) | .ret=>some .ret |_=>none
theorem sx_spec {P:Program} {tt:TT} (htt:TTOK P tt) (hm:P.follows .mixedOrders=true) {nt:Nat} {A:Ann} (hC:∀ id,CtxOK P (A.C id)) {w0:W0} {L:St->St->Prop} (hL:∀ s t,L s t->∀ ρ a w,SH w0 nt s ρ a w->∃ ρ',SH w0 nt t ρ' a w):∀ (c:Code) (K:Ex->St->Prop) (s:St),sx tt nt A L c K s->∀ (Q:Exit->Act->World->Prop),(∀ e ex s' ρ a w,exOf e=some ex->K ex s'->SH w0 nt s' ρ a w->Q e a w) ->
 ∀ ρ a w,SH w0 nt s ρ a w->c.wp P Q a w:=by
 intro c
 induction c with
 |skip=>intro K s h Q hQ ρ a w hs;exact wp_skip (hQ .normal .normal s ρ a w rfl h hs)
 |label l=>intro K s h Q hQ ρ a w hs;exact wp_label (hQ .normal .normal s ρ a w rfl h hs)
 |exit id=>intro K s h Q hQ ρ a w hs;exact wp_exit (hQ (.exit id) (.exit id) s ρ a w rfl h hs)
 |ret=>intro K s h Q hQ ρ a w hs;exact wp_ret (hQ .ret .ret s ρ a w rfl h hs)
 |region id ops draw=>
  intro K s h Q hQ ρ a w hs;simp only [sx] at h
  split at h
  ·rename_i ps s' hr;rw [allK_iff] at h;unfold regR at hr
   split at hr
   ·rename_i hd;subst hd;have:=drawR_spec htt (hC id) hm hr h.1 hs (fun ρ' a' w' hs'=>hQ .normal .normal s' ρ' a' w' rfl h.2 hs') id
    simpa using this
   ·rename_i hd;have hd':draw=false:=by simpa using hd
    subst hd';exact wp_region_list (seqGo_spec htt (hC id) _ _ _ _ hr h.1 ρ a w hs fun ρ' a' w' hs'=>hQ .normal .normal s' ρ' a' w' rfl h.2 hs')
  ·split at h
   ·rename_i hd;simp only [Bool.and_eq_true] at hd;obtain ⟨rfl,_⟩:=hd;have hz:(Array.replicate ops.size false)=(List.replicate ops.size false).toArray:=by simp
    refine wp_region_any hm ?_
    rw [hz];exact anyS_spec htt (hC id) (fun s' ρ' a' w' hk hs'=>hQ .normal .normal s' ρ' a' w' rfl hk hs') _ _ _ h ρ a _ ⟨hs.slots,⟨hs.mem.below.drew,hs.mem.ents,hs.mem.apart,hs.mem.froz,hs.mem.sub,hs.mem.mu0,hs.mem.f00,hs.mem.old,hs.mem.anc,hs.mem.tab,hs.mem.lin⟩,hs.fresh⟩
   ·exact h.elim
 |seq x y ihx ihy=>
  intro K s h Q hQ ρ a w hs;simp only [sx] at h
  split at h
  ·rename_i I hI;obtain ⟨h1,h2⟩:=h;refine wp_seq (ihx _ s h1 _ ?_ ρ a w hs);intro e ex s' ρ' a' w' he hk hs'
   cases e with
   |normal=>
    simp only [exOf,Option.some.injEq] at he;subst he;obtain ⟨i,hp,hl⟩:=hk;obtain ⟨ρt,ht⟩:=hL _ _ hl _ _ _ hs';exact ihy K _ (h2 i hp) Q hQ ρt a' w' ht
   |exit i=>
    simp only [exOf,Option.some.injEq] at he;subst he;exact hQ (.exit i) (.exit i) s' ρ' a' w' rfl hk hs'
   |ret=>
    simp only [exOf,Option.some.injEq] at he;subst he;exact hQ .ret .ret s' ρ' a' w' rfl hk hs'
   |goto l=>cases he
   |panic ch=>cases he
   |outgrown=>cases he
  ·refine wp_seq (ihx _ s h _ ?_ ρ a w hs);intro e ex s' ρ' a' w' he hk hs'
   cases e with
   |normal=>
    simp only [exOf,Option.some.injEq] at he;subst he;exact ihy K s' hk Q hQ ρ' a' w' hs'
   |exit i=>
    simp only [exOf,Option.some.injEq] at he;subst he;exact hQ (.exit i) (.exit i) s' ρ' a' w' rfl hk hs'
   |ret=>
    simp only [exOf,Option.some.injEq] at he;subst he;exact hQ .ret .ret s' ρ' a' w' rfl hk hs'
   |goto l=>cases he
   |panic ch=>cases he
   |outgrown=>cases he
 |cond c x y ihx ihy=>
  intro K s h Q hQ ρ a w hs;simp only [sx] at h;have hE:=evO_spec hs.slots (g:=[]) (fun p hp=>by cases hp)
  split at h
  ·rename_i hc;exact wp_cond_true (hE _ _ hc) (ihx K s h Q hQ ρ a w hs)
  ·rename_i hc;exact wp_cond_false (hE _ _ hc) (ihy K s h Q hQ ρ a w hs)
  ·rename_i t hc;exact wp_cond_split (hE _ _ hc) (fun ht=>ihx K s (h.1 ht) Q hQ ρ a w hs) (fun ht=>ihy K s (h.2 ht) Q hQ ρ a w hs)
  ·exact h.elim
 |block id c ih=>
  intro K s h Q hQ ρ a w hs;simp only [sx] at h;refine wp_block (ih _ s h _ ?_ ρ a w hs);intro e ex s' ρ' a' w' he hk hs'
  cases e with
  |normal=>
   simp only [exOf,Option.some.injEq] at he;subst he;exact hQ .normal .normal s' ρ' a' w' rfl hk hs'
  |exit i=>
   simp only [exOf,Option.some.injEq] at he;subst he;dsimp only at hk;simp only [Exit.inBlock]
   by_cases hi:i=id
   ·rw [if_pos hi];rw [if_pos (by simp [hi])] at hk;exact hQ .normal .normal s' ρ' a' w' rfl hk hs'
   ·rw [if_neg hi];rw [if_neg (by simpa using hi)] at hk;exact hQ (.exit i) (.exit i) s' ρ' a' w' rfl hk hs'
  |ret=>
   simp only [exOf,Option.some.injEq] at he;subst he;exact hQ .ret .ret s' ρ' a' w' rfl hk hs'
  |goto l=>cases he
  |panic ch=>cases he
  |outgrown=>cases he
 |loop c ih=>
  intro K s h Q hQ ρ a w hs;simp only [sx] at h
  split at h
  ·rename_i I hI;obtain ⟨⟨i0,hp0,hl0⟩,hround⟩:=h;obtain ⟨ρt0,ht0⟩:=hL _ _ hl0 _ _ _ hs;refine wp_loop_ghost (fun n a w=>∃ i ρ,I.μ i=n/\I.pre s i/\SH w0 nt (I.st s i) ρ a w) (I.μ i0) ⟨i0,ρt0,rfl,hp0,ht0⟩ ?_
   rintro n a' w' ⟨i,ρ',rfl,hpi,hsi⟩;refine ih _ _ (hround i hpi) _ ?_ ρ' a' w' hsi;intro e ex s' ρ'' a'' w'' he hk hs'
   cases e with
   |normal=>
    simp only [exOf,Option.some.injEq] at he;subst he;obtain ⟨j,hpj,hlt,hl⟩:=hk;obtain ⟨ρt,ht⟩:=hL _ _ hl _ _ _ hs';exact ⟨I.μ j,hlt,j,ρt,rfl,hpj,ht⟩
   |exit k=>
    simp only [exOf,Option.some.injEq] at he;subst he;exact hQ (.exit k) (.exit k) s' ρ'' a'' w'' rfl hk hs'
   |ret=>
    simp only [exOf,Option.some.injEq] at he;subst he;exact hQ .ret .ret s' ρ'' a'' w'' rfl hk hs'
   |goto l=>cases he
   |panic ch=>cases he
   |outgrown=>cases he
  ·exact h.elim
 |_=>intro K s h;exact h.elim
end Go.Proofs.YtplejbgafjpomaaGreatDoor.Sx
