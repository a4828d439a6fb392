import Derived.Test.YtplejbgafjpomaaGreatDoorZb3
set_option linter.unusedVariables false
set_option linter.unusedSimpArgs false
namespace Go.Proofs.YtplejbgafjpomaaGreatDoor.Sx
open Go.RowKit
theorem lt_of_get {α:Type} {l:List α} {j:Nat} {x : α} (h:l[j]? = some x):j<l.length:=by
 rcases Nat.lt_or_ge j l.length with h' |h'
 ·exact h'
 ·rw [List.getElem?_eq_none h'] at h;cases h
theorem cs_sub {ρ:Map} {l s:List SC} {vs:List Value} {o:Nat} (hv:CsRel ρ l vs) (h2:∀ j x,s[j]? = some x->l[o+j]? = some x) :
 ((vs.drop o).take s.length).length=s.length/\CsRel ρ s ((vs.drop o).take s.length):=by
 have hl:((vs.drop o).take s.length).length=s.length:=by
  rcases Nat.eq_zero_or_pos s.length with h0 |h0
  ·simp [h0]
  ·have h3:=h2 (s.length-1) _ (List.getElem?_eq_getElem (by omega));obtain ⟨v,hv',_⟩:=csrel_get hv h3;have:=lt_of_get hv'
   simp;omega
 refine ⟨hl,hl.symm,fun j x v hx hv'=>?_⟩;have hj:=lt_of_get hx;rw [List.getElem?_take_of_lt hj,List.getElem?_drop] at hv';exact hv.2 _ _ _ (h2 j x hx) hv'
def partV (tt:TT) (l:List Seg) (T:TypeId) (o:SO):Option (V1 × List Prop):=
 match shapeT tt T with
 |some none=>match getC l o with |some (x,ps)=>some (.sc x,ps) |none=>none
 |some (some L)=>match rdL l o L with |some (s,ps)=>some (.agg s,ps) |none=>none
 |none=>none
theorem isAgg_run {P:Program} {T:TypeId} {d:TypeDesc} (hd:P.underlying T=some d) (w:World):(isAgg T).run P w = .ok (isAggD d) w:=by
 unfold isAgg;rw [Sem.run_bind,run_underlying hd w]
 cases d<;>simp [isAggD]
theorem partV_spec {P:Program} {tt:TT} (htt:TTOK P tt) {l:List Seg} {T:TypeId} {o:SO} {x:V1} {ps:List Prop} (h:partV tt l T o=some (x,ps)) (hps:All ps) {ρ:Map} {cs:Array Value} (hc:CsRel ρ (cellsOf l) cs.toList) (w:World) :
 ∃ v,(part T cs o.v).run P w = .ok v w/\V1Rel ρ x v:=by
 unfold partV at h
 split at h
 ·rename_i hsh;obtain ⟨d,hd,hda⟩:=shapeOf_none (tt_shape htt hsh)
  split at h
  ·rename_i y ps' hg;obtain ⟨rfl,rfl⟩:=by simpa using h
   obtain ⟨v,hv,hr⟩:=csrel_get hc (getC_spec hg hps);refine ⟨v,?_,hr⟩;have hv':cs[o.v]? = some v:=by rw [<- Array.getElem?_toList];exact hv
   simp [part,isAgg_run hd,hda,hv']
  ·cases h
 ·rename_i LL hsh;obtain ⟨d,i,hd,hda,hi,hsz⟩:=shapeOf_some (tt_shape htt hsh)
  split at h
  ·rename_i s ps' hg;obtain ⟨rfl,rfl⟩:=by simpa using h
   obtain ⟨h1,h2⟩:=rdL_spec l o LL s _ hg hps;obtain ⟨h3,h4⟩:=cs_sub hc h2;refine ⟨.agg (cs.extract o.v (o.v+i.size)),by simp [part,isAgg_run hd,hda,sizeOf,typeInfo,hi],_,rfl,?_⟩;rw [Array.toList_extract,List.extract_eq_take_drop];have e:o.v+i.size-o.v=(cellsOf s).length:=by omega
   rw [e];exact h4
  ·cases h
 ·cases h
def ofSc:Value->Option SC
 | .int k n=>some (.int k (.lit n))
 | .bool b=>some (.bool (.lit b))
 | .slice none 0 0=>some .nils
 | .agg _=>none
 | .tuple _=>none
 |v=>some (.raw v)
theorem ofSc_spec {v:Value} {x:SC} (h:ofSc v=some x) (ρ:Map):CRel ρ x v:=by
 unfold ofSc at h
 split at h<;>first |(simp only [Option.some.injEq] at h;subst h;rfl) |(cases h;done)
def takeInts (k:IntKind):Nat->List Value->Option (List Int × List Value)
 | 0,vs=>some ([],vs)
 |n+1,.int k' x::vs=>if kEq k k' then (match takeInts k n vs with |some (l,r)=>some (x::l,r) |none=>none) else none
 |_+1,_=>none
theorem takeInts_spec {k:IntKind}:∀ (n:Nat) (vs:List Value) l r,takeInts k n vs=some (l,r)->l.length=n/\vs=l.map (Value.int k)++r
 | 0,vs,l,r,h=>by
   simp only [takeInts,Option.some.injEq,Prod.mk.injEq] at h;obtain ⟨rfl,rfl⟩:=h
   simp
 |n+1,[],l,r,h=>by simp [takeInts] at h
 |n+1,v::vs,l,r,h=>by
  cases v<;>simp only [takeInts] at h<;>first |(cases h;done) |skip
  rename_i k' x
  split at h
  ·rename_i hk;have:=kEq_eq hk;subst this
   split at h
   ·rename_i l' r' ht;obtain ⟨rfl,rfl⟩:=by simpa using h
    obtain ⟨h1,h2⟩:=takeInts_spec n vs l' _ ht;exact ⟨by simp [h1],by simp [h2]⟩
   ·cases h
  ·cases h
def allZ:List Int->Bool | []=>true |x::r=>decide (x=0)&&allZ r
def fnOf (l:List Int):Nat->Int:=if allZ l then fun _=>0 else fun j=>l.getD j 0
theorem fnOf_spec (l:List Int) (j:Nat) (h:j<l.length):fnOf l j=l[j]:=by
 unfold fnOf;split
 ·rename_i hz;have:∀ (l:List Int),allZ l=true->∀ j (h:j<l.length),l[j]=0:=by
   intro l
   induction l with
   |nil=>intro _ j h;simp at h
   |cons x r ih=>
    intro hz j h;simp only [allZ,Bool.and_eq_true,decide_eq_true_eq] at hz
    cases j with
    |zero=>simpa using hz.1
    |succ j=>simpa using ih hz.2 j (by simpa using h)
  exact (this l hz j h).symm
 ·simp [List.getD,List.getElem?_eq_getElem h]
def ofCells:List L->List Value->Option (List Seg)
 | [],[]=>some []
 | .c::r,v::vs=>match ofSc v,ofCells r vs with |some x,some s=>some (.c x::s) |_,_=>none
 | .ints k n::r,vs=>match takeInts k n vs with
   |some (l,vs')=>(match ofCells r vs' with |some s=>some (.ints k (.lit n) (fnOf l)::s) |none=>none)
   |none=>none
 |_,_=>none
theorem csrel_append {ρ:Map} {a b:List SC} {x y:List Value} (h:CsRel ρ a x) (k:CsRel ρ b y):CsRel ρ (a++b) (x++y):=by
 refine ⟨by simp [h.1,k.1],fun i c v hc hv=>?_⟩
 by_cases hi:i<a.length
 ·rw [List.getElem?_append_left hi] at hc;rw [List.getElem?_append_left (by rw [<- h.1];exact hi)] at hv;exact h.2 i c v hc hv
 ·rw [List.getElem?_append_right (by omega)] at hc;rw [List.getElem?_append_right (by rw [<- h.1];omega),<- h.1] at hv;exact k.2 _ c v hc hv
theorem csrel_ints {ρ:Map} {k:IntKind} {l:List Int} {f:Nat->Int} {n:SN} (hl:l.length=n.v) (hf:∀ j (h:j<l.length),f j=l[j]):CsRel ρ (Seg.ints k n f).cells (l.map (Value.int k)):=by
 refine ⟨by rw [cells_ints_len];simp [hl],fun i c v hc hv=>?_⟩;have hi:=lt_of_get hv;simp only [List.length_map] at hi;rw [cells_ints_get (by omega)] at hc;obtain rfl:=by simpa using hc
 rw [List.getElem?_map,List.getElem?_eq_getElem hi] at hv;obtain rfl:=by simpa using hv
 simp [CRel,SI.v,hf i hi]
theorem ofCells_spec {ρ:Map}:∀ (L:List L) (vs:List Value) s,ofCells L vs=some s->CsRel ρ (cellsOf s) vs
 | [],[],s,h=>by
   simp only [ofCells,Option.some.injEq] at h;subst h;exact ⟨rfl,fun i c v hc hv=>by simp [cellsOf] at hc⟩
 | [],_::_,s,h=>by simp [ofCells] at h
 | .c::r,[],s,h=>by simp [ofCells] at h
 | .c::r,v::vs,s,h=>by
   simp only [ofCells] at h
   split at h
   ·rename_i x s' hx hs;obtain rfl:=by simpa using h
    rw [cellsOf_cons];have h1:=ofCells_spec (ρ:=ρ) r vs s' hs;have h2:CsRel ρ [x] [v]:=⟨rfl,fun i c u hc hu=>by
     cases i with
     |zero=>simp at hc hu;subst hc hu;exact ofSc_spec hx ρ
     |succ i=>simp at hc⟩
    exact csrel_append (a:=[x]) (x:=[v]) h2 h1
   ·cases h
 | .ints k n::r,vs,s,h=>by
   simp only [ofCells] at h
   split at h
   ·rename_i l vs' ht
    split at h
    ·rename_i s' hs;obtain rfl:=by simpa using h
     obtain ⟨h1,rfl⟩:=takeInts_spec n vs l vs' ht;rw [cellsOf_cons];exact csrel_append (csrel_ints (n:=.lit n) h1 (fun j h=>fnOf_spec l j h)) (ofCells_spec r vs' s' hs)
    ·cases h
   ·cases h
def ckOf (P:Program) (t:TypeId) (u:TypeDesc):Option CKs:=if isAggD u && !P.eqGuardType P.depth t then kindsT P 9 t else none
def mkTI (P:Program) (ks:Option (List K)) (t:TypeId):Option TI:=
 match P.underlying t,shapeOf P t,P.info? t with
 |some u,some sh,some q=>(match q.zero with
  |some z=>(match ofCells (sh.getD [.c]) z.cells.toList with |some l=>some {u:=uOf u,size:=q.size,shape:=sh,zero:=l,ck:=ckOf P t u,ks:=ks,bytes:=q.bytes} |none=>none)
  |none=>none)
 |_,_,_=>none
def ksOK (t:TypeId) (i:TI):Prop:=match i.ks with |some ks=>eks t=ks/\Nat.beq ks.length i.size=true/\Nat.blt 0 i.size=true |none=>True
theorem mkTI_ok {P:Program} {t:TypeId} {ks0:Option (List K)} {i:TI} (hP:P=PG) (h:mkTI P ks0 t=some i) (hk0:ksOK t i):TIOK P t i:=by
 unfold mkTI at h
 split at h
 ·rename_i u sh q hu hs hq
  split at h
  ·rename_i z hz
   split at h
   ·rename_i l hl;obtain rfl:=by simpa using h
    refine ⟨⟨u,hu,rfl⟩,hs,⟨q,z,hq,rfl,hz,rfl,fun ρ=>ofCells_spec _ _ _ hl⟩,fun ks hk=>?_,fun ks hk=>?_,hP⟩;dsimp only [ckOf] at hk
    split at hk
    ·rename_i hb;simp only [Bool.and_eq_true,Bool.not_eq_true'] at hb;exact ⟨hb.2,hk,u,hu,hb.1⟩
    ·cases hk
    ·have hk:ks0=some ks:=hk;subst hk;exact ⟨hk0.1,Nat.eq_of_beq_eq_true hk0.2.1,by simpa [Nat.blt_eq] using hk0.2.2⟩
   ·cases h
  ·cases h
 ·cases h
def ttAll (P:Program):TT->Prop
 | []=>True
 |(t,i)::r=>mkTI P i.ks t=some i/\ksOK t i/\ttAll P r
theorem ttAll_ok {P:Program} (hP:P=PG):∀ {tt:TT},ttAll P tt->TTOK P tt
 | [],_,t,i,h=>by simp [look] at h
 |(j,x)::r,ha,t,i,h=>by
  simp only [look] at h
  split at h
  ·rename_i hj;obtain rfl:j=t:=by simpa using hj
   obtain rfl:=by simpa using h
   exact mkTI_ok hP ha.1 ha.2.1
  ·exact ttAll_ok hP ha.2.2 t i h
def Seg.sz:Seg->Option Nat | .c _=>some 1 | .ints _ (.lit n) _=>some n | .ints _ (.sym _) _=>none
theorem Seg.sz_spec {s:Seg} {n:Nat} (h:s.sz=some n):s.cells.length=n:=by
 cases s with
 |c x=>simp only [Seg.sz,Option.some.injEq] at h;subst h;rfl
 |ints k m f=>cases m<;>simp only [Seg.sz,Option.some.injEq] at h<;>first |(cases h;done) |(subst h;rw [cells_ints_len];rfl)
def wrs (l:List Seg):SO->List Seg->Option (List Seg × List Prop)
 |_,[]=>some (l,[])
 |o,s::r=>match wrC l o s,s.sz with
  |some (l',ps),some n=>(match wrs l' (o.add n) r with |some (l'',qs)=>some (l'',ps++qs) |none=>none)
  |_,_=>none
theorem over_nil {α:Type} (l:List α) (o:Nat):over l o []=l:=by simp [over]
theorem over_over {α:Type} {l a b:List α} {o:Nat} (h:o+a.length+b.length<=l.length):over (over l o a) (o+a.length) b=over l o (a++b):=by
 apply List.ext_getElem?
 intro j;rw [over_get (by rw [over_len (by omega)];omega),over_get (by omega),over_get (by rw [List.length_append];omega),List.length_append]
 by_cases h1:o+a.length<=j/\j<o+a.length+b.length
 ·rw [if_pos h1,if_pos (by omega),List.getElem?_append_right (by omega)]
  congr 1;omega
 ·rw [if_neg h1]
  by_cases h2:o<=j/\j<o+a.length
  ·rw [if_pos h2,if_pos (by omega),List.getElem?_append_left (by omega)]
  ·rw [if_neg h2,if_neg (by omega)]
theorem wrs_spec:∀ (ss:List Seg) (l:List Seg) (o:SO) l' ps,wrs l o ss=some (l',ps)->All ps->o.v<=(cellsN l).length->o.v+(cellsN ss).length<=(cellsN l).length/\cellsN l'=over (cellsN l) o.v (cellsN ss)
 | [],l,o,l',ps,h,hp,hb=>by
   simp only [wrs,Option.some.injEq,Prod.mk.injEq] at h;obtain ⟨rfl,rfl⟩:=h;refine ⟨by simpa [cellsN,cellsOf] using hb,?_⟩;simp [cellsN,cellsOf,over_nil]
 |s::r,l,o,l',ps,h,hp,_=>by
  simp only [wrs] at h
  split at h
  ·rename_i l1 ps1 n hw hn
   split at h
   ·rename_i l2 qs hr;simp only [Option.some.injEq,Prod.mk.injEq] at h;obtain ⟨rfl,rfl⟩:=h;obtain ⟨hp1,hp2⟩:=all_append.1 hp;obtain ⟨h1,h2⟩:=wrC_spec hw hp1;have hsz:=Seg.sz_spec hn;have e1:(cellsN l1).length=(cellsN l).length:=by rw [h2,over_len (by simpa using h1)]
    obtain ⟨h3,h4⟩:=wrs_spec r l1 _ l2 qs hr hp2 (by rw [SO.add_v];omega);rw [SO.add_v] at h3 h4;rw [cellsN_cons];refine ⟨by rw [List.length_append,List.length_map];omega,?_⟩;rw [h4,h2];have:=over_over (l:=cellsN l) (a:=s.cells.map SC.n) (b:=cellsN r) (o:=o.v) (by rw [List.length_map];omega);rw [List.length_map,hsz] at this;exact this
   ·cases h
  ·cases h
theorem csrel_over {ρ:Map} {a b:List SC} {x y:List Value} {o:Nat} (h:CsRel ρ a x) (k:CsRel ρ b y) (hle:o+b.length<=a.length):CsRel ρ (over a o b) (over x o y):=by
 have h1:=h.1;have k1:=k.1;refine ⟨by rw [over_len hle,over_len (by omega)];exact h1,fun i c v hc hv=>?_⟩;rw [over_get hle] at hc;rw [over_get (by omega)] at hv
 by_cases hi:o<=i/\i<o+b.length
 ·rw [if_pos hi] at hc;rw [if_pos (by omega)] at hv;exact k.2 _ c v hc hv
 ·rw [if_neg hi] at hc;rw [if_neg (by omega)] at hv;exact h.2 i c v hc hv
def wr1 (l:List Seg) (o:SO):List Seg->Option (List Seg × List Prop)
 | []=>none
 |s::r=>wrs l o (s::r)
theorem wrs_rel {ss l l':List Seg} {o:SO} {ps:List Prop} (h:wr1 l o ss=some (l',ps)) (hp:All ps) {ρ:Map} {vs us:List Value} (hv:CsRel ρ (cellsOf l) vs) (hu:CsRel ρ (cellsOf ss) us) :
 o.v+us.length<=vs.length/\CsRel ρ (cellsOf l') (over vs o.v us):=by
 have hb:wrs l o ss=some (l',ps)/\o.v<=(cellsN l).length:=by
  cases ss with
  |nil=>cases h
  |cons s r=>
   refine ⟨h,?_⟩;simp only [wr1,wrs] at h
   split at h
   ·rename_i l1 ps1 n hw hn
    split at h
    ·simp only [Option.some.injEq,Prod.mk.injEq] at h;obtain ⟨rfl,rfl⟩:=h;have:=(wrC_spec hw (all_append.1 hp).1).1;omega
    ·cases h
   ·cases h
 obtain ⟨h1,h2⟩:=wrs_spec ss l o l' ps hb.1 hp hb.2;rw [cellsN_len,cellsN_len] at h1;refine ⟨by rw [<- hu.1,<- hv.1];exact h1,?_⟩;have:=csrel_over (csrel_n.2 hv) (csrel_n.2 hu) (o:=o.v) (by simpa using h1);unfold cellsN at h2;rw [<- h2] at this;exact csrel_n.1 this
def V1.segs:V1->List Seg | .sc c=>[.c c] | .agg l=>l
def okSc:SC->Bool
 | .raw (.agg _) | .raw (.tuple _)=>false
 |_=>true
def okSegs:List Seg->Bool
 | []=>true
 | .c x::r=>okSc x&&okSegs r
 | .ints .. :: r=>okSegs r
def V1.ok:V1->Bool | .sc c=>okSc c | .agg _=>true
theorem okSc_one {ρ:Map} {c:SC} {v:Value} (h:CRel ρ c v) (ho:okSc c=true):v.oneCell'=true/\v.cells=#[v]:=by
 cases c with
 |int k n=>obtain rfl:v=_:=h;exact ⟨rfl,rfl⟩
 |bool b=>obtain rfl:v=_:=h;exact ⟨rfl,rfl⟩
 |ptr id o=>obtain ⟨_,rfl⟩:=h;exact ⟨rfl,rfl⟩
 |slice id o l=>obtain ⟨A,c,rfl,_⟩:=h;exact ⟨rfl,rfl⟩
 |nils=>obtain rfl:v=_:=h;exact ⟨rfl,rfl⟩
 |rows e d=>
  have h':TRel ρ.fz (.slice e) d v:=h
  cases h'<;>exact ⟨rfl,rfl⟩
 |fp e d i j=>obtain ⟨b,o,rfl,_⟩:=h;exact ⟨rfl,rfl⟩
 |osl e id lo n=>obtain ⟨A,c,rfl,_⟩:=h;exact ⟨rfl,rfl⟩
 |optr e id i j=>obtain ⟨_,rfl⟩:=h;exact ⟨rfl,rfl⟩
 |fn ag e p ok=>obtain ⟨_,_,g,cap,rfl,_⟩:=h;exact ⟨rfl,rfl⟩
 |bm g id=>obtain ⟨_,rfl⟩:=h;exact ⟨rfl,rfl⟩
 |raw x=>
  obtain rfl:v=x:=h
  cases v<;>first |exact ⟨rfl,rfl⟩ |(simp [okSc] at ho)
theorem v1_cells {ρ:Map} {x:V1} {v:Value} (h:V1Rel ρ x v) (ho:x.ok=true):CsRel ρ (cellsOf x.segs) v.cells.toList:=by
 cases x with
 |sc c=>
  rw [(okSc_one h ho).2];refine ⟨rfl,fun i y u hy hu=>?_⟩
  cases i with
  |zero=>simp [V1.segs,cellsOf,Seg.cells] at hy hu;subst hy hu;exact h
  |succ i=>simp at hu
 |agg l=>obtain ⟨cs,rfl,hc⟩:=h;exact hc
theorem foldl_over:∀ (us:List Value) (k off:Nat) (cells:Array Value),off+k+us.length<=cells.size ->
 ((us.zipIdx k).foldl (fun cs (c,j)=>cs.setIfInBounds (off+j) c) cells).toList=over cells.toList (off+k) us
 | [],k,off,cells,h=>by simp [over_nil]
 |u::us,k,off,cells,h=>by
  simp only [List.zipIdx_cons,List.foldl_cons];simp only [List.length_cons] at h;rw [foldl_over us (k+1) off _ (by simp;omega)];have e:u::us=[u]++us:=rfl;rw [e,<- over_over (by simp;omega)];have e2:(cells.setIfInBounds (off+k) u).toList=over cells.toList (off+k) [u]:=by
   apply List.ext_getElem?
   intro j;rw [over_get (by simp;omega),Array.toList_setIfInBounds,List.getElem?_set]
   by_cases hj:off+k=j
   ·subst hj;have h0:off+k<cells.size:=by omega
    rw [if_pos rfl,if_pos (show off+k<cells.toList.length by simpa using h0),if_pos ⟨Nat.le_refl _,by simp⟩]
    simp
   ·rw [if_neg hj,if_neg (by simp;omega)]
  rw [e2];rfl
def fillS (place:Nat->Option (Nat × Nat)) (l:List Seg):List (Nat × SV)->Option (List Seg × List Prop)
 | []=>some (l,[])
 |(i,.one x)::r=>match place i with
  |some (off,size)=>(match wr1 l (.lit off) x.segs with
   |some (l',ps)=>if x.ok&&Nat.beq ((x.segs.map fun s=>(s.sz).getD 0).sum) size then
     (match fillS place l' r with |some (l'',qs)=>some (l'',ps++qs) |none=>none) else none
   |none=>none)
  |none=>none
 |_::_=>none
theorem wrs_szs:∀ (ss l:List Seg) (o:SO) r,wrs l o ss=some r->(cellsOf ss).length=(ss.map fun s=>(s.sz).getD 0).sum
 | [],_,_,_,_=>by simp [cellsOf]
 |s::ss,l,o,r,h=>by
  simp only [wrs] at h
  split at h
  ·rename_i l1 ps1 n hw hn
   split at h
   ·rename_i l2 qs hr;rw [cellsOf_cons,List.length_append,Seg.sz_spec hn,wrs_szs ss _ _ _ hr];simp [hn]
   ·cases h
  ·cases h
theorem fillS_spec {ρ:Map} {place:Nat->Option (Nat × Nat)}:∀ (pv:List (Nat × SV)) (vs:List (Nat × Value)) (l l':List Seg) (ps:List Prop) (cells:Array Value),fillS place l pv=some (l',ps)->All ps ->
 pv.length=vs.length->(∀ (i:Nat) a b,pv[i]? = some a->vs[i]? = some b->a.1=b.1/\UR ρ a.2 b.2)->CsRel ρ (cellsOf l) cells.toList->∃ cells',Instr.fill place cells vs=some cells'/\CsRel ρ (cellsOf l') cells'.toList
 | [],[],l,l',ps,cells,h,hp,hl,hv,hc=>by
   simp only [fillS,Option.some.injEq,Prod.mk.injEq] at h;obtain ⟨rfl,rfl⟩:=h;exact ⟨cells,rfl,hc⟩
 | [],_::_,l,l',ps,cells,h,hp,hl,hv,hc=>by simp at hl
 |_::_,[],l,l',ps,cells,h,hp,hl,hv,hc=>by simp at hl
 |(i,sv)::pv,(j,v)::vs,l,l',ps,cells,h,hp,hl,hv,hc=>by
  cases sv with
  |tup=>simp [fillS] at h
  |cond=>simp [fillS] at h
  |junk=>simp [fillS] at h
  |one x=>
   simp only [fillS] at h
   split at h
   ·rename_i off size hpl
    split at h
    ·rename_i l1 ps1 hw
     split at h
     ·rename_i hok;simp only [Bool.and_eq_true] at hok
      split at h
      ·rename_i l2 qs hr;simp only [Option.some.injEq,Prod.mk.injEq] at h;obtain ⟨rfl,rfl⟩:=h;obtain ⟨hp1,hp2⟩:=all_append.1 hp;obtain ⟨hij,hx⟩:=hv 0 (i,.one x) (j,v) rfl rfl;dsimp only at hij hx;subst hij;have hcx:=v1_cells hx hok.1;obtain ⟨hb,hc1⟩:=wrs_rel hw hp1 hc hcx;have hsz:v.cells.size=size:=by
        have h1:=hcx.1;have h2:(cellsOf x.segs).length=(x.segs.map fun s=>(s.sz).getD 0).sum:=by
         cases hs:x.segs with
         |nil=>simp [cellsOf]
         |cons s r=>rw [hs] at hw;exact wrs_szs _ _ _ _ hw
        have h3:=Nat.eq_of_beq_eq_true hok.2;simp at h1;omega
       have hb':off+v.cells.size<=cells.size:=by simpa [SO.v] using hb
       have hfo:=foldl_over v.cells.toList 0 off cells (by simpa using hb');have hc2:CsRel ρ (cellsOf l1) (v.cells.zipIdx.foldl (fun cs (c,j)=>cs.setIfInBounds (off+j) c) cells).toList:=by
        rw [<- Array.foldl_toList,Array.toList_zipIdx,hfo];exact hc1
       obtain ⟨cells',h1,h2⟩:=fillS_spec pv vs l1 _ qs _ hr hp2 (by simpa using hl) (fun m a b ha hb=>hv (m+1) a b ha hb) hc2;refine ⟨cells',?_,h2⟩;simp only [Instr.fill,hpl];rw [if_neg (by simp [hsz];omega)];exact h1
      ·cases h
     ·cases h
    ·cases h
   ·cases h
def evp (ev:Operand->Option SV):List (Nat × Operand)->Option (List (Nat × SV))
 | []=>some []
 |(i,x)::r=>match ev x,evp ev r with |some a,some l=>some ((i,a)::l) |_,_=>none
theorem evp_spec {ρ:Map} {E:Operand->Value} {ev:Operand->Option SV} (hE:EvOK ρ E ev):∀ (l:List (Nat × Operand)) pv,evp ev l=some pv->pv.length=(l.map fun (i,x)=>(i,E x)).length/\∀ (i:Nat) a b,pv[i]? = some a->(l.map fun (i,x)=>(i,E x))[i]? = some b->a.1=b.1/\UR ρ a.2 b.2
 | [],pv,h=>by
   simp only [evp,Option.some.injEq] at h;subst h;exact ⟨rfl,fun i a b ha=>by simp at ha⟩
 |(j,x)::r,pv,h=>by
  simp only [evp] at h
  split at h
  ·rename_i a l hx hr;obtain rfl:=by simpa using h
   obtain ⟨h1,h2⟩:=evp_spec hE r l hr;refine ⟨by simp [h1],fun i a' b' ha hb=>?_⟩
   cases i with
   |zero=>simp at ha hb;subst ha hb;exact ⟨rfl,hE x _ hx⟩
   |succ i=>exact h2 i a' b' (by simpa using ha) (by simpa using hb)
  ·cases h
def fieldsIn (tt:TT) (fs:List (TypeId × Nat)):Bool:=fs.all fun f=>(szT tt f.1).isSome
def placeF (tt:TT) (fs:List (TypeId × Nat)) (i:Nat):Option (Nat × Nat):=match fs[i]? with |some f=>(match szT tt f.1 with |some n=>some (f.2,n) |none=>none) |none=>none
theorem run_sizeOf {P:Program} {t:TypeId} {i:TypeInfo} (h:P.info? t=some i) (w:World):(sizeOf t).run P w = .ok i.size w:=by
 simp [sizeOf,typeInfo,h]
theorem run_places {P:Program} (w:World):∀ (fs:List Field),(∀ f∈fs,(P.info? f.type).isSome=true)->(fs.mapM fun f=>do pure (f.offset,<- sizeOf f.type):Sem (List (Nat × Nat))).run P w = .ok (fs.map fun f=>(f.offset,((P.info? f.type).map (·.size)).getD 0)) w
 | [],_=>rfl
 |f::fs,h=>by
  have ih:=run_places w fs (fun g hg=>h g (List.mem_cons_of_mem _ hg));have hf0:=h f (List.mem_cons_self ..)
  cases hf:P.info? f.type with
  |none=>simp [hf] at hf0
  |some i=>
   simp only [List.mapM_cons,Sem.run_bind,run_sizeOf hf,Result.andThen_ok,Sem.run_pure];rw [ih];simp [hf]
def sBuild (tt:TT) (t:TypeId) (pv:List (Nat × SV)):Option (V1 × List Prop):=
 match zeroT tt t with
 |some l=>(match uD tt t with
  |some (.struct fs)=>if fieldsIn tt fs then (match fillS (placeF tt fs) l pv with |some (l',ps)=>some (.agg l',ps) |none=>none) else none
  |some (.array _ e)=>(match szT tt e with |some x=>(match fillS (fun i=>some (i*x,x)) l pv with |some (l',ps)=>some (.agg l',ps) |none=>none) |none=>none)
  |_=>none)
 |none=>none
theorem sBuild_spec {P:Program} {tt:TT} (htt:TTOK P tt) {t:TypeId} {pv:List (Nat × SV)} {x:V1} {ps:List Prop} (h:sBuild tt t pv=some (x,ps)) (hp:All ps) {ρ:Map} {parts:Array (Nat × Value)} (hl:pv.length=parts.toList.length)
 (hv:∀ (i:Nat) a b,pv[i]? = some a->parts.toList[i]? = some b->a.1=b.1/\UR ρ a.2 b.2) (w:World):∃ v,(Instr.build t parts).run P w = .ok v w/\V1Rel ρ x v:=by
 unfold sBuild at h
 split at h
 ·rename_i l hof;obtain ⟨i,z,hi,hz,hc⟩:=tt_zero htt hof;have hzv:(zeroValue t).run P w = .ok z w:=by simp [zeroValue,typeInfo,hi,hz]
  split at h
  ·rename_i fs0 hu;obtain ⟨d,hu,hd⟩:=tt_u htt hu;obtain ⟨fs,rfl,hfs⟩:=u_struct hd
   split at h
   ·rename_i hin
    split at h
    ·rename_i l' ps' hf;obtain ⟨rfl,rfl⟩:=by simpa using h
     have hsome:∀ f∈fs.toList,∃ n q,szT tt f.type=some n/\P.info? f.type=some q/\q.size=n:=fun f hfm=>by
      have h1:=List.all_eq_true.1 hin (f.type,f.offset) (by rw [<- hfs];exact List.mem_map.2 ⟨f,hfm,rfl⟩);obtain ⟨n,hn⟩:=Option.isSome_iff_exists.1 h1;obtain ⟨q,hq,hqs⟩:=tt_sz htt hn;exact ⟨n,q,hn,hq,hqs⟩
     have hpl:(fun i=>((fs.map fun f=>(f.offset,((P.info? f.type).map (·.size)).getD 0)):Array (Nat × Nat))[i]?)=placeF tt fs0:=by
      funext j
      simp only [placeF,Array.getElem?_map,<- hfs,List.getElem?_map,Array.getElem?_toList]
      cases hj:fs[j]? with
      |none=>rfl
      |some f=>
       obtain ⟨n,q,h1,h2,h3⟩:=hsome f (Array.mem_toList_iff.2 (Array.mem_of_getElem? hj));simp [h1,h2,h3]
     obtain ⟨cells',h1,h2⟩:=fillS_spec pv parts.toList l l' _ z.cells hf hp hl hv (hc ρ);refine ⟨.agg cells',?_,cells',rfl,h2⟩;have hm:(fs.mapM fun f=>do pure (f.offset,<- sizeOf f.type):Sem (Array (Nat × Nat))).run P w = .ok (fs.map fun f=>(f.offset,((P.info? f.type).map (·.size)).getD 0)) w:=by
      rw [<- Array.toArray_toList (xs:=fs),List.mapM_toArray,Sem.run_map,run_places w fs.toList (fun f hfm=>by obtain ⟨n,q,_,h5,_⟩:=hsome f hfm;rw [h5];rfl)];simp only [Result.andThen_ok]
      congr 1
      apply Array.toList_inj.1
      simp
     simp only [Instr.build,Sem.run_bind,hzv,Result.andThen_ok,run_underlying hu];rw [hm];simp only [Result.andThen_ok];rw [hpl,h1];rfl
    ·cases h
   ·cases h
  ·rename_i n e hu;obtain ⟨d,hu,hd⟩:=tt_u htt hu;obtain rfl:=u_array hd
   split at h
   ·rename_i q hq;obtain ⟨q',hq',rfl⟩:=tt_sz htt hq
    split at h
    ·rename_i l' ps' hf;obtain ⟨rfl,rfl⟩:=by simpa using h
     obtain ⟨cells',h1,h2⟩:=fillS_spec pv parts.toList l l' _ z.cells hf hp hl hv (hc ρ);refine ⟨.agg cells',?_,cells',rfl,h2⟩;simp only [Instr.build,Sem.run_bind,hzv,Result.andThen_ok,run_underlying hu,run_sizeOf hq'];rw [h1];rfl
    ·cases h
   ·cases h
  ·cases h
 ·cases h
end Go.Proofs.YtplejbgafjpomaaGreatDoor.Sx
