import Derived.Laws.Cells
import Derived.Laws.CopyRow
import Derived.Laws.Rows
import Derived.Test.YtplejbgafjpomaaGreatDoorZb1
set_option linter.unusedVariables false
set_option linter.unusedSimpArgs false
namespace Go.Proofs.YtplejbgafjpomaaGreatDoor.Sx
open Go.RowKit
theorem at_add (ρ:Map) (id o n:Nat):(ρ.at id o).add n=ρ.at id (o+n):=by
 unfold Addr.add Map.at;split
 ·rename_i h;subst h;rfl
 ·simp [Nat.add_assoc]
def SO.add:SO->Nat->SO
 | .lit n,k=>.lit (n+k)
 | .sym l s,k=>.sym (l+k) s
def SO.addS:SO->Nat->SO
 | .lit n,i=>.sym n i
 | .sym l s,i=>.sym l (s+i)
theorem SO.add_v (o:SO) (k:Nat):(o.add k).v=o.v+k:=by cases o<;>simp [SO.add,SO.v];omega
theorem SO.addS_v (o:SO) (k:Nat):(o.addS k).v=o.v+k:=by cases o<;>simp [SO.addS,SO.v];omega
def kEqB:IntKind->IntKind->Bool
 | .i8,.i8 | .i16,.i16 | .i32,.i32 | .i64,.i64 | .u8,.u8 | .u16,.u16 | .u32,.u32 | .u64,.u64=>true
 |_,_=>false
theorem kEqB_eq {a b:IntKind} (h:kEqB a b=true):a=b:=by cases a<;>cases b<;>first |rfl |cases h
inductive L
 |c
 |ints (k:IntKind) (n:Nat)
def L.size:L->Nat | .c=>1 | .ints _ n=>n
def sizeL (l:List L):Nat:=(l.map L.size).sum
def arrL (u:Option TypeDesc) (n:Nat):List L->List L
 | [.c]=>match u with |some (.int k)=>[.ints k n] |_=>List.replicate n .c
 | [.ints k m]=>[.ints k (n*m)]
 |l=>(List.replicate n l).flatten
def layF (f:TypeId->Option (List L)):List Field->Option (List L)
 | []=>some []
 |x::r=>match f x.type,layF f r with |some a,some b=>some (a++b) |_,_=>none
def lay (P:Program):Nat->TypeId->Option (List L)
 | 0,_=>none
 |d+1,T=>match P.underlying T with
  |some (.struct fs)=>layF (lay P d) fs.toList
  |some (.array n e)=>match lay P d e with |some l=>some (arrL (P.underlying e) n l) |none=>none
  |some _=>some [.c]
  |none=>none
def isAggD:TypeDesc->Bool | .struct _ | .array _ _=>true |_=>false
def shapeOf (P:Program) (T:TypeId):Option (Option (List L)):=
 match P.underlying T with
 |none=>none
 |some d=>match isAggD d with
  |false=>some none
  |true=>match lay P 9 T,P.info? T with
   |some l,some i=>if Nat.beq (sizeL l) i.size then some (some l) else none
   |_,_=>none
theorem shapeOf_none {P:Program} {T:TypeId} (h:shapeOf P T=some none):∃ d,P.underlying T=some d/\isAggD d=false:=by
 unfold shapeOf at h
 split at h
 ·cases h
 ·rename_i d hd
  split at h
  ·rename_i hb;exact ⟨d,hd,hb⟩
  ·split at h
   ·split at h<;>cases h
   ·cases h
theorem shapeOf_some {P:Program} {T:TypeId} {l:List L} (h:shapeOf P T=some (some l)):∃ d i,P.underlying T=some d/\isAggD d=true/\P.info? T=some i/\sizeL l=i.size:=by
 unfold shapeOf at h
 split at h
 ·cases h
 ·rename_i d hd
  split at h
  ·cases h
  ·rename_i hb
   split at h
   ·rename_i l' i hl hi
    split at h
    ·rename_i he;obtain rfl:l'=l:=by simpa using h
     exact ⟨d,i,hd,hb,hi,Nat.eq_of_beq_eq_true he⟩
    ·cases h
   ·cases h
inductive UD
 |bool
 |int (k:IntKind)
 |string
 |slice (e:TypeId)
 |array (n:Nat) (e:TypeId)
 |struct (fs:List (TypeId × Nat))
 |other
def uOf:TypeDesc->UD
 | .bool=>.bool
 | .int k=>.int k
 | .string=>.string
 | .slice e=>.slice e
 | .array n e=>.array n e
 | .struct fs=>.struct (fs.toList.map fun f=>(f.type,f.offset))
 |_=>.other
structure TI where
 u:UD
 size:Nat
 shape:Option (List L)
 zero:List Seg
 ck:Option CKs:=none
 ks:Option (List K):=none
 bytes:Nat:=0
abbrev TT:=List (Nat × TI)
def uD (tt:TT) (t:TypeId):Option UD:=match look tt t with |some i=>some i.u |none=>none
def szT (tt:TT) (t:TypeId):Option Nat:=match look tt t with |some i=>some i.size |none=>none
def shapeT (tt:TT) (t:TypeId):Option (Option (List L)):=match look tt t with |some i=>some i.shape |none=>none
def zeroT (tt:TT) (t:TypeId):Option (List Seg):=match look tt t with |some i=>some i.zero |none=>none
structure TIOK (P:Program) (t:TypeId) (i:TI):Prop where
 u:∃ d,P.underlying t=some d/\uOf d=i.u
 shape:shapeOf P t=some i.shape
 info:∃ q z,P.info? t=some q/\q.size=i.size/\q.zero=some z/\q.bytes=i.bytes/\∀ ρ,CsRel ρ (cellsOf i.zero) z.cells.toList
 eqs:∀ ks,i.ck=some ks->P.eqGuardType P.depth t=false/\kindsT P 9 t=some ks/\∃ d,P.underlying t=some d/\isAggD d=true
 kinds:∀ ks,i.ks=some ks->eks t=ks/\ks.length=i.size/\0<i.size
 pr:P=PG
def TTOK (P:Program) (tt:TT):Prop:=∀ t i,look tt t=some i->TIOK P t i
theorem tt_u {P:Program} {tt:TT} (h:TTOK P tt) {t:TypeId} {u:UD} (hu:uD tt t=some u):∃ d,P.underlying t=some d/\uOf d=u:=by
 unfold uD at hu
 split at hu
 ·rename_i i hi;obtain rfl:=by simpa using hu
  exact (h t i hi).u
 ·cases hu
theorem tt_sz {P:Program} {tt:TT} (h:TTOK P tt) {t:TypeId} {n:Nat} (hu:szT tt t=some n):∃ i,P.info? t=some i/\i.size=n:=by
 unfold szT at hu
 split at hu
 ·rename_i i hi;obtain rfl:=by simpa using hu
  obtain ⟨q,_,h1,h2,_⟩:=(h t i hi).info;exact ⟨q,h1,h2⟩
 ·cases hu
theorem tt_shape {P:Program} {tt:TT} (h:TTOK P tt) {t:TypeId} {x:Option (List L)} (hu:shapeT tt t=some x):shapeOf P t=some x:=by
 unfold shapeT at hu
 split at hu
 ·rename_i i hi;obtain rfl:=by simpa using hu
  exact (h t i hi).shape
 ·cases hu
theorem tt_zero {P:Program} {tt:TT} (h:TTOK P tt) {t:TypeId} {l:List Seg} (hu:zeroT tt t=some l):∃ q z,P.info? t=some q/\q.zero=some z/\∀ ρ,CsRel ρ (cellsOf l) z.cells.toList:=by
 unfold zeroT at hu
 split at hu
 ·rename_i i hi;obtain rfl:=by simpa using hu
  obtain ⟨q,z,h1,_,h3,_,h4⟩:=(h t i hi).info;exact ⟨q,z,h1,h3,h4⟩
 ·cases hu
def ksT (tt:TT) (t:TypeId):Option (List K):=match look tt t with |some i=>i.ks |none=>none
theorem tt_ks {P:Program} {tt:TT} (h:TTOK P tt) {t:TypeId} {ks:List K} (hu:ksT tt t=some ks):eks t=ks/\0<ks.length/\∃ q z,P.info? t=some q/\q.size=ks.length/\q.zero=some z:=by
 unfold ksT at hu
 split at hu
 ·rename_i i hi;obtain ⟨h1,h2,h3⟩:=(h t i hi).kinds ks hu;obtain ⟨q,z,g1,g2,g3,_,_⟩:=(h t i hi).info;exact ⟨h1,by omega,q,z,g1,by omega,g3⟩
 ·cases hu
theorem tt_pr {P:Program} {tt:TT} (h:TTOK P tt) {t:TypeId} {ks:List K} (hu:ksT tt t=some ks):P=PG:=by
 unfold ksT at hu
 split at hu
 ·rename_i i hi;exact (h t i hi).pr
 ·cases hu
structure ElI where
 ks:List K
 bytes:Nat
 zero:List Seg
def elT (tt:TT) (t:TypeId):Option ElI:=match look tt t with |some i=>(match i.ks with |some ks=>some ⟨ks,i.bytes,i.zero⟩ |none=>none) |none=>none
theorem tt_el {P:Program} {tt:TT} (h:TTOK P tt) {t:TypeId} {x:ElI} (hu:elT tt t=some x):eks t=x.ks/\0<x.ks.length/\∃ q z,P.info? t=some q/\q.size=x.ks.length/\q.zero=some z/\q.bytes=x.bytes/\∀ ρ,CsRel ρ (cellsOf x.zero) z.cells.toList:=by
 unfold elT at hu
 split at hu
 ·rename_i i hi
  split at hu
  ·rename_i ks hk;obtain rfl:=by simpa using hu
   obtain ⟨h1,h2,h3⟩:=(h t i hi).kinds ks hk;obtain ⟨q,z,g1,g2,g3,g4,g5⟩:=(h t i hi).info;exact ⟨h1,by show 0<ks.length;omega,q,z,g1,by show q.size=ks.length;omega,g3,g4,g5⟩
  ·cases hu
 ·cases hu
def ckT (tt:TT) (t:TypeId):Option CKs:=match look tt t with |some i=>i.ck |none=>none
theorem tt_ck {P:Program} {tt:TT} (h:TTOK P tt) {t:TypeId} {ks:CKs} (hu:ckT tt t=some ks):P.eqGuardType P.depth t=false/\kindsT P 9 t=some ks/\∃ d,P.underlying t=some d/\isAggD d=true:=by
 unfold ckT at hu
 split at hu
 ·rename_i i hi;exact (h t i hi).eqs ks hu
 ·cases hu
theorem u_bool {d:TypeDesc} (h:uOf d = .bool):d = .bool:=by cases d<;>first |rfl |cases h
theorem u_int {d:TypeDesc} {k:IntKind} (h:uOf d = .int k):d = .int k:=by cases d<;>first |(cases h;done) |(simp only [uOf,UD.int.injEq] at h;rw [h])
theorem u_string {d:TypeDesc} (h:uOf d = .string):d = .string:=by cases d<;>first |rfl |cases h
theorem u_slice {d:TypeDesc} {e:TypeId} (h:uOf d = .slice e):d = .slice e:=by cases d<;>first |(cases h;done) |(simp only [uOf,UD.slice.injEq] at h;rw [h])
theorem u_array {d:TypeDesc} {n:Nat} {e:TypeId} (h:uOf d = .array n e):d = .array n e:=by cases d<;>first |(cases h;done) |(simp only [uOf,UD.array.injEq] at h;rw [h.1,h.2])
theorem u_struct {d:TypeDesc} {fs:List (TypeId × Nat)} (h:uOf d = .struct fs):∃ gs:Array Field,d = .struct gs/\gs.toList.map (fun f=>(f.type,f.offset))=fs:=by
 cases d<;>first |(cases h;done) |(simp only [uOf,UD.struct.injEq] at h;exact ⟨_,rfl,h⟩)
def getIL:List Seg->Nat->Nat->Option (IntKind × (Nat->Int) × List Prop)
 | [],_,_=>none
 | .c _::r,o,n=>match o with | 0=>none |o+1=>getIL r o n
 | .ints k (.lit m) f::r,o,n=>if Nat.blt o m then (if Nat.ble (o+n) m then some (k,(match o with | 0=>f |o+1=>fun j=>f (o+1+j)),[]) else none) else getIL r (o-m) n
 | .ints k (.sym m) f::_,o,n=>some (k,(match o with | 0=>f |o+1=>fun j=>f (o+1+j)),[o+n<=m])
def getIS:List Seg->Nat->Nat->Nat->Option (IntKind × (Nat->Int) × List Prop)
 | [],_,_,_=>none
 | .c _::r,o,s,n=>match o with | 0=>none |o+1=>getIS r o s n
 | .ints k (.lit m) f::r,o,s,n=>if Nat.blt o m then some (k,(fun j=>f (o+s+j)),[o+s+n<=m]) else getIS r (o-m) s n
 | .ints k (.sym m) f::_,o,s,n=>some (k,(fun j=>f (o+s+j)),[o+s+n<=m])
def getI (l:List Seg):SO->Nat->Option (IntKind × (Nat->Int) × List Prop)
 | .lit o,n=>getIL l o n
 | .sym o s,n=>getIS l o s n
theorem getIL_spec:∀ (l:List Seg) (o n:Nat) k f ps,getIL l o n=some (k,f,ps)->All ps->∀ j,j<n->(cellsOf l)[o+j]? = some (.int k (.sym (f j)))
 | [],_,_,_,_,_,h,_=>by simp [getIL] at h
 | .c y::r,o,n,k,f,ps,h,hp=>by
   intro j hj;rw [cellsOf_cons]
   cases o with
   |zero=>simp [getIL] at h
   |succ o=>
    simp only [getIL] at h;have:=getIL_spec r o n k f ps h hp j hj;have e:o+1+j=(o+j)+1:=by omega
    rw [e]
    simpa [Seg.cells] using this
 | .ints k' (.lit m) g::r,o,n,k,f,ps,h,hp=>by
   intro j hj;rw [cellsOf_cons];simp only [getIL] at h
   split at h
   ·split at h
    ·rename_i hle;have hle':o+n<=m:=by simpa using hle
     simp only [Option.some.injEq,Prod.mk.injEq] at h;obtain ⟨rfl,rfl,rfl⟩:=h;rw [List.getElem?_append_left (by rw [cells_ints_len];simp only [SN.v];omega),cells_ints_get (by simp only [SN.v];omega)]
     cases o<;>simp
    ·cases h
   ·rename_i hlt;have hge:m<=o:=by
     have:¬ o<m:=by simpa [Nat.blt_eq] using hlt
     omega
    rw [List.getElem?_append_right (by rw [cells_ints_len];simp only [SN.v];omega),cells_ints_len];have e:o+j-m=(o-m)+j:=by omega
    show (cellsOf r)[o+j-m]? = _;rw [e];exact getIL_spec r _ n k f ps h hp j hj
 | .ints k' (.sym m) g::r,o,n,k,f,ps,h,hp=>by
   intro j hj;rw [cellsOf_cons];simp only [getIL,Option.some.injEq,Prod.mk.injEq] at h;obtain ⟨rfl,rfl,rfl⟩:=h;have hle:o+n<=m:=hp.1;rw [List.getElem?_append_left (by rw [cells_ints_len];simp only [SN.v];omega),cells_ints_get (by simp only [SN.v];omega)]
   cases o<;>simp
theorem getIS_spec:∀ (l:List Seg) (o s n:Nat) k f ps,getIS l o s n=some (k,f,ps)->All ps->∀ j,j<n->(cellsOf l)[o+s+j]? = some (.int k (.sym (f j)))
 | [],_,_,_,_,_,_,h,_=>by simp [getIS] at h
 | .c y::r,o,s,n,k,f,ps,h,hp=>by
   intro j hj;rw [cellsOf_cons]
   cases o with
   |zero=>simp [getIS] at h
   |succ o=>
    simp only [getIS] at h;have:=getIS_spec r o s n k f ps h hp j hj;have e:o+1+s+j=(o+s+j)+1:=by omega
    rw [e]
    simpa [Seg.cells] using this
 | .ints k' (.lit m) g::r,o,s,n,k,f,ps,h,hp=>by
   intro j hj;rw [cellsOf_cons];simp only [getIS] at h
   split at h
   ·simp only [Option.some.injEq,Prod.mk.injEq] at h;obtain ⟨rfl,rfl,rfl⟩:=h;have hle:o+s+n<=m:=hp.1;rw [List.getElem?_append_left (by rw [cells_ints_len];simp only [SN.v];omega),cells_ints_get (by simp only [SN.v];omega)]
   ·rename_i hlt;have hge:m<=o:=by
     have:¬ o<m:=by simpa [Nat.blt_eq] using hlt
     omega
    rw [List.getElem?_append_right (by rw [cells_ints_len];simp only [SN.v];omega),cells_ints_len];have e:o+s+j-m=(o-m)+s+j:=by omega
    show (cellsOf r)[o+s+j-m]? = _;rw [e];exact getIS_spec r _ s n k f ps h hp j hj
 | .ints k' (.sym m) g::r,o,s,n,k,f,ps,h,hp=>by
   intro j hj;rw [cellsOf_cons];simp only [getIS,Option.some.injEq,Prod.mk.injEq] at h;obtain ⟨rfl,rfl,rfl⟩:=h;have hle:o+s+n<=m:=hp.1;rw [List.getElem?_append_left (by rw [cells_ints_len];simp only [SN.v];omega),cells_ints_get (by simp only [SN.v];omega)]
theorem getI_spec {l:List Seg} {o:SO} {n:Nat} {k:IntKind} {f:Nat->Int} {ps:List Prop} (h:getI l o n=some (k,f,ps)) (hp:All ps):∀ j,j<n->(cellsOf l)[o.v+j]? = some (.int k (.sym (f j))):=by
 cases o with
 |lit a=>exact getIL_spec l a n k f ps h hp
 |sym a b=>exact getIS_spec l a b n k f ps h hp
def rdL (l:List Seg):SO->List L->Option (List Seg × List Prop)
 |_,[]=>some ([],[])
 |o,.c::r=>match getC l o,rdL l (o.add 1) r with |some (x,ps),some (s,qs)=>some (.c x::s,ps++qs) |_,_=>none
 |o,.ints k n::r=>match getI l o n,rdL l (o.add n) r with |some (k',f,ps),some (s,qs)=>if k'=k then some (.ints k (.lit n) f::s,ps++qs) else none |_,_=>none
theorem rdL_spec (l:List Seg):∀ (o:SO) (L:List L) (s:List Seg) (ps:List Prop),rdL l o L=some (s,ps)->All ps->(cellsOf s).length=sizeL L/\∀ j x,(cellsOf s)[j]? = some x->(cellsOf l)[o.v+j]? = some x
 |o,[],s,ps,h,_=>by
  simp only [rdL,Option.some.injEq,Prod.mk.injEq] at h;obtain ⟨rfl,rfl⟩:=h;exact ⟨by simp [cellsOf,sizeL],fun j x hx=>by simp [cellsOf] at hx⟩
 |o,.c::r,s,ps,h,hp=>by
  simp only [rdL] at h
  split at h
  ·rename_i x ps' s' qs hg hr;simp only [Option.some.injEq,Prod.mk.injEq] at h;obtain ⟨rfl,rfl⟩:=h;obtain ⟨hp1,hp2⟩:=all_append.1 hp;obtain ⟨h1,h2⟩:=rdL_spec l _ r s' qs hr hp2;have h0:=getC_spec hg hp1;refine ⟨by rw [cellsOf_cons,List.length_append,h1];simp [Seg.cells,sizeL,L.size],fun j y hy=>?_⟩;rw [cellsOf_cons] at hy
   cases j with
   |zero=>simp only [Seg.cells,List.cons_append,List.nil_append,List.getElem?_cons_zero,Option.some.injEq] at hy;subst hy;exact h0
   |succ j=>
    have:=h2 j y (by simpa [Seg.cells] using hy);rw [SO.add_v] at this;rw [<- this];congr 1;omega
  ·cases h
 |o,.ints k n::r,s,ps,h,hp=>by
  simp only [rdL] at h
  split at h
  ·rename_i k' f ps' s' qs hg hr
   split at h
   ·rename_i hk;subst hk;simp only [Option.some.injEq,Prod.mk.injEq] at h;obtain ⟨rfl,rfl⟩:=h;obtain ⟨hp1,hp2⟩:=all_append.1 hp;obtain ⟨h1,h2⟩:=rdL_spec l _ r s' qs hr hp2;have h0:=getI_spec hg hp1;refine ⟨by rw [cellsOf_cons,List.length_append,h1,cells_ints_len];simp [sizeL,L.size,SN.v],fun j y hy=>?_⟩;rw [cellsOf_cons] at hy
    by_cases hj:j<n
    ·rw [List.getElem?_append_left (by rw [cells_ints_len];exact hj),cells_ints_get hj] at hy;obtain rfl:=by simpa using hy
     exact h0 j hj
    ·rw [List.getElem?_append_right (by rw [cells_ints_len];simp only [SN.v];omega),cells_ints_len] at hy;have:=h2 (j-n) y hy;rw [SO.add_v] at this;rw [<- this];congr 1;omega
   ·cases h
  ·cases h
def Ent.segs:Ent->Option (List Seg)
 | .own _ l | .row _ l | .ro l=>some l
 | .orow .. | .gone | .nrow ..=>none
theorem ent_cells {B:Nat} {ρ:Map} {w:World} {id:Nat} {e:Ent} {l:List Seg} (hz:Frozen ρ w) (h:ERel B ρ w id e) (hl:e.segs=some l) :
 ∃ vs:List Value,CsRel ρ (cellsOf l) vs/\∀ (o:Nat) v,vs[o]? = some v->w.cell? (ρ.at id o)=some v:=by
 cases e with
 |own T m=>
  obtain rfl:m=l:=by simpa [Ent.segs] using hl
  obtain ⟨_,h0,_,vs,hv,hh⟩:=h;refine ⟨vs,hv,fun o v ho=>?_⟩;simp only [World.cell?,Map.at,h0,hh]
  simpa using ho
 |row T m=>
  obtain rfl:m=l:=by simpa [Ent.segs] using hl
  obtain ⟨_,h0,_,vs,rest,hv,hh⟩:=h;refine ⟨vs,hv,fun o v ho=>?_⟩;simp only [World.cell?,Map.at,h0,hh];have:o<vs.length:=by
   rcases Nat.lt_or_ge o vs.length with h' |h'
   ·exact h'
   ·rw [List.getElem?_eq_none h'] at ho;cases ho
  simp only [Nat.zero_add,Option.isSome_none,Bool.false_eq_true,↓reduceIte,List.getElem?_toArray];rw [List.getElem?_append_left this];exact ho
 |ro m=>
  obtain rfl:m=l:=by simpa [Ent.segs] using hl
  obtain ⟨_,vs,hv,hh⟩:=h;exact ⟨vs,hv,fun o v ho=>hz.cell (hh o v ho)⟩
 |orow e d=>cases hl
 |gone=>cases hl
 |nrow c e d g=>cases hl
def cellSC:K->D->Option SC
 | .int k,x=>some (.int k (.sym x.toI))
 | .bool,x=>some (.bool (.sym x.toB))
 | .str,x=>some (.raw (.string x.toS))
 | .slice e,x=>some (.rows e x)
 | .other,_=>none
theorem cellSC_spec {ρ:Map} {k:K} {x:D} {c:SC} (h:cellSC k x=some c) {v:Value} (hv:TRel ρ.fz k x v):CRel ρ c v:=by
 cases k<;>simp only [cellSC,Option.some.injEq] at h<;>first |(subst h;cases hv;rfl) |(subst h;exact hv) |(cases h)
def intsK (k:IntKind):Nat->List K->Bool
 | 0,_=>true
 |n+1,.int k'::r=>kEqB k k'&&intsK k n r
 |_+1,_=>false
theorem intsK_spec {k:IntKind}:∀ {n:Nat} {l:List K},intsK k n l=true->∀ j,j<n->l[j]? = some (.int k)
 | 0,_,_,j,hj=>by omega
 |n+1,.int k'::r,h,j,hj=>by
  simp only [intsK,Bool.and_eq_true] at h;obtain rfl:=kEqB_eq h.1
  cases j with
  |zero=>rfl
  |succ j=>simpa using intsK_spec h.2 j (by omega)
 |n+1,.bool::r,h,_,_=>by cases h
 |n+1,.str::r,h,_,_=>by cases h
 |n+1,.slice _::r,h,_,_=>by cases h
 |n+1,.other::r,h,_,_=>by cases h
 |n+1,[],h,_,_=>by cases h
def elSegs (ks:List K) (d:D) (i:Nat):Nat->List L->Option (List Seg)
 |_,[]=>some []
 |j,.c::r=>match ks[j]? with
  |some k=>(match cellSC k (d.el i j),elSegs ks d i (j+1) r with |some x,some s=>some (.c x::s) |_,_=>none)
  |none=>none
 |j,.ints k n::r=>if intsK k n (ks.drop j) then (match elSegs ks d i (j+n) r with |some s=>some (.ints k (.lit n) (fun o=>(d.el i (j+o)).toI)::s) |none=>none) else none
def ElAt (ρ:Map) (w:World) (b o:Nat) (e:TypeId) (d:D) (i:Nat):Prop:=∀ j k,(eks e)[j]? = some k->∃ u,w.cell? ⟨b,o+j,none⟩=some u/\TRel ρ.fz k (d.el i j) u
theorem elSegs_spec {ρ:Map} {w:World} {b o:Nat} {e:TypeId} {d:D} {i:Nat} (hE:ElAt ρ w b o e d i):∀ (L:List L) (j:Nat) (s:List Seg),elSegs (eks e) d i j L=some s->(cellsOf s).length=sizeL L/\∀ q x,(cellsOf s)[q]? = some x->∃ u,w.cell? ⟨b,o+(j+q),none⟩=some u/\CRel ρ x u
 | [],j,s,h=>by
   simp only [elSegs,Option.some.injEq] at h;subst h;exact ⟨by simp [cellsOf,sizeL],fun q x hx=>by simp [cellsOf] at hx⟩
 | .c::r,j,s,h=>by
   simp only [elSegs] at h
   split at h
   ·rename_i k hk
    split at h
    ·rename_i x s' hx hs;obtain rfl:=by simpa using h
     obtain ⟨h1,h2⟩:=elSegs_spec hE r _ s' hs;refine ⟨by rw [cellsOf_cons,List.length_append,h1];simp [Seg.cells,sizeL,L.size],fun q y hy=>?_⟩;rw [cellsOf_cons] at hy
     cases q with
     |zero=>
      simp only [Seg.cells,List.cons_append,List.nil_append,List.getElem?_cons_zero,Option.some.injEq] at hy;subst hy;obtain ⟨u,hu,hr⟩:=hE j k hk;exact ⟨u,hu,cellSC_spec hx hr⟩
     |succ q=>
      obtain ⟨u,hu,hr⟩:=h2 q y (by simpa [Seg.cells] using hy);exact ⟨u,by rw [<- hu];congr 2;omega,hr⟩
    ·cases h
   ·cases h
 | .ints k n::r,j,s,h=>by
   simp only [elSegs] at h
   split at h
   ·rename_i hk
    split at h
    ·rename_i s' hs;obtain rfl:=by simpa using h
     obtain ⟨h1,h2⟩:=elSegs_spec hE r _ s' hs;refine ⟨by rw [cellsOf_cons,List.length_append,h1,cells_ints_len];simp [sizeL,L.size,SN.v],fun q y hy=>?_⟩;rw [cellsOf_cons] at hy
     by_cases hq:q<n
     ·rw [List.getElem?_append_left (by rw [cells_ints_len];exact hq),cells_ints_get hq] at hy;obtain rfl:=by simpa using hy
      have hkk:=intsK_spec hk q hq;rw [List.getElem?_drop] at hkk;obtain ⟨u,hu,hr⟩:=hE (j+q) _ hkk;refine ⟨u,hu,?_⟩
      cases hr;rfl
     ·rw [List.getElem?_append_right (by rw [cells_ints_len];simp only [SN.v];omega),cells_ints_len] at hy;obtain ⟨u,hu,hr⟩:=h2 (q-n) y hy;exact ⟨u,by rw [<- hu];congr 2;simp only [SN.v] at *;omega,hr⟩
    ·cases h
   ·cases h
def elV (tt:TT) (T e:TypeId) (d:D) (i j:Nat):Option V1:=
 match ksT tt e with
 |some ks=>(match shapeT tt T with
  |some none=>(match ks[j]? with |some k=>(match cellSC k (d.el i j) with |some c=>some (.sc c) |none=>none) |none=>none)
  |some (some L)=>(match elSegs ks d i j L with |some s=>some (.agg s) |none=>none)
  |none=>none)
 |none=>none
def ldV (tt:TT) (hp:Heap) (T:TypeId):SC->Option (V1 × List Prop)
 | .ptr id o=>(match look hp id with
   |some e=>match e.segs with
    |some l=>match shapeT tt T with
     |some none=>match getC l o with |some (x,ps)=>some (.sc x,ps) |none=>none
     |some (some L)=>match rdL l o L with |some (s,ps)=>some (.agg s,ps) |none=>none
     |none=>none
    |none=>none
   |none=>none)
 | .fp e d i j=>(match elV tt T e d i j with |some v=>some (v,[]) |none=>none)
 | .optr e id i j=>(match look hp id with
   |some (.orow e' d)=>if Nat.beq e e' then (match elV tt T e d i j with |some v=>some (v,[i<d.len]) |none=>none) else none
   |some (.nrow c e' d g)=>if Nat.beq e e' then (match ksT tt e,shapeT tt T with
    |some ks,some none=>(match ks[j]? with
     |some k=>if Nat.beq j c then (match k,g with
       | .slice e2,some (i0,id2,n)=>some (.sc (.osl e2 id2 (.lit 0) (.sym n)),[i=i0,i<d.len])
       |_,_=>none) else (match cellSC k (d.el i j) with |some q=>some (.sc q,[i<d.len]) |none=>none)
     |none=>none)
    |_,_=>none) else none
   |_=>none)
 |_=>none
theorem csrel_get {ρ:Map} {l:List SC} {vs:List Value} (h:CsRel ρ l vs) {i:Nat} {x:SC} (hx:l[i]? = some x):∃ v,vs[i]? = some v/\CRel ρ x v:=by
 obtain ⟨h1,h2⟩:=h;have hi:i<l.length:=by
  rcases Nat.lt_or_ge i l.length with h' |h'
  ·exact h'
  ·rw [List.getElem?_eq_none h'] at hx;cases hx
 refine ⟨vs[i],List.getElem?_eq_getElem (by omega),h2 i x _ hx (List.getElem?_eq_getElem (by omega))⟩
theorem ld_one {P:Program} {tt:TT} (htt:TTOK P tt) {T:TypeId} (hsh:shapeT tt T=some none) {ρ:Map} {w:World} {a:Addr} {x:SC} {v:Value} (hc:w.cell? a=some v) (hr:CRel ρ x v):∃ v,(loadVar T a).run P w = .ok v w/\V1Rel ρ (.sc x) v:=by
 obtain ⟨d,hd,hda⟩:=shapeOf_none (tt_shape htt hsh);refine ⟨v,?_,hr⟩;have hagg:(isAgg T).run P w = .ok false w:=by
  unfold isAgg;rw [Sem.run_bind,run_underlying hd w]
  cases d<;>simp_all [isAggD]
 simp [loadVar,Sem.run_bind,hagg,hc]
theorem ld_many {P:Program} {tt:TT} (htt:TTOK P tt) {T:TypeId} {LL:List L} (hsh:shapeT tt T=some (some LL)) {ρ:Map} {w:World} {a:Addr} {s:List Seg} (hl:(cellsOf s).length=sizeL LL) (hc:∀ j x,(cellsOf s)[j]? = some x->∃ u,w.cell? (a.add j)=some u/\CRel ρ x u) :
 ∃ v,(loadVar T a).run P w = .ok v w/\V1Rel ρ (.agg s) v:=by
 obtain ⟨d,i,hd,hda,hi,hsz⟩:=shapeOf_some (tt_shape htt hsh);have hagg:(isAgg T).run P w = .ok true w:=by
  unfold isAgg;rw [Sem.run_bind,run_underlying hd w]
  cases d<;>simp_all [isAggD]
 have hv:∀ j,j<(cellsOf s).length->∃ u,w.cell? (a.add j)=some u:=fun j hj=>by
  obtain ⟨u,hu,_⟩:=hc j _ (List.getElem?_eq_getElem hj);exact ⟨u,hu⟩
 let cs:List Value:=(List.range (cellsOf s).length).map fun j=>(w.cell? (a.add j)).getD undef
 have hcl:cs.length=(cellsOf s).length:=by simp [cs]
 have hcg:∀ j v,cs[j]? = some v->w.cell? (a.add j)=some v:=fun j v hjv=>by
  simp only [cs,List.getElem?_map] at hjv
  by_cases hj:j<(cellsOf s).length
  ·rw [List.getElem?_range hj] at hjv;obtain ⟨u,hu⟩:=hv j hj;simp only [Option.map_some,hu,Option.getD_some,Option.some.injEq] at hjv;rw [hu,hjv]
  ·rw [List.getElem?_eq_none (by simpa using hj)] at hjv;cases hjv
 have hload:(loadCells a cs.length).run P w = .ok cs.toArray w:=run_loadCells_list w _ cs hcg;rw [hcl,hl,hsz] at hload;refine ⟨.agg cs.toArray,by simp [loadVar,Sem.run_bind,hagg,sizeOf,typeInfo,hi,hload],cs.toArray,rfl,?_⟩;refine ⟨by simp [hcl],fun j x v hx hv=>?_⟩;have h1:=hcg j v (by simpa using hv);obtain ⟨u,hu,hr⟩:=hc j x hx;rw [hu] at h1;obtain rfl:=by simpa using h1
 exact hr
theorem elV_spec {P:Program} {tt:TT} (htt:TTOK P tt) {T e:TypeId} {d:D} {i j:Nat} {x:V1} (h:elV tt T e d i j=some x) {ρ:Map} {w:World} {b o:Nat} (hE:ElAt ρ w b o e d i):∃ v,(loadVar T ⟨b,o+j,none⟩).run P w = .ok v w/\V1Rel ρ x v:=by
 unfold elV at h
 split at h
 ·rename_i ks hks;obtain ⟨hl,_⟩:=tt_ks htt hks
  split at h
  ·rename_i hsh
   split at h
   ·rename_i k hk
    split at h
    ·rename_i c hc;obtain rfl:=by simpa using h
     obtain ⟨u,hu,hr⟩:=hE j k (by rw [hl];exact hk);exact ld_one htt hsh hu (cellSC_spec hc hr)
    ·cases h
   ·cases h
  ·rename_i LL hsh
   split at h
   ·rename_i s hs;obtain rfl:=by simpa using h
    rw [<- hl] at hs;obtain ⟨h1,h2⟩:=elSegs_spec hE LL j s hs;refine ld_many htt hsh h1 fun q y hy=>?_
    obtain ⟨u,hu,hr⟩:=h2 q y hy;refine ⟨u,?_,hr⟩;rw [<- hu];unfold Addr.add;split
    ·rename_i h0;subst h0;rfl
    ·dsimp only;congr 2;omega
   ·cases h
  ·cases h
 ·cases h
theorem ldV_spec {P:Program} {tt:TT} (htt:TTOK P tt) {hp:Heap} {T:TypeId} {c:SC} {x:V1} {ps:List Prop} (h:ldV tt hp T c=some (x,ps)) (hps:All ps) {w0:W0} {w:World} {ρ:Map} (hw:WH w0 ρ hp w) {pv:Value} (hpv:CRel ρ c pv) :
 ∃ a v,pv = .pointer (some a)/\(loadVar T a).run P w = .ok v w/\V1Rel ρ x v:=by
 unfold ldV at h
 split at h
 ·rename_i id o;obtain ⟨_,rfl⟩:=hpv;refine ⟨ρ.at id o.v,?_⟩
  split at h
  ·rename_i e he
   split at h
   ·rename_i l hl;obtain ⟨vs,hvs,hc⟩:=ent_cells hw.froz (hw.ents id e he) hl
    split at h
    ·rename_i hsh
     split at h
     ·rename_i y ps' hg;obtain ⟨rfl,rfl⟩:=by simpa using h
      obtain ⟨v,hv,hr⟩:=csrel_get hvs (getC_spec hg hps);obtain ⟨v',h1,h2⟩:=ld_one htt hsh (hc _ _ hv) hr;exact ⟨v',rfl,h1,h2⟩
     ·cases h
    ·rename_i LL hsh
     split at h
     ·rename_i s ps' hg;obtain ⟨rfl,rfl⟩:=by simpa using h
      obtain ⟨h1,h2⟩:=rdL_spec l o LL s _ hg hps;obtain ⟨v',g1,g2⟩:=ld_many (ρ:=ρ) (w:=w) (a:=ρ.at id o.v) htt hsh h1 fun j x hx=>by
       obtain ⟨v,hv,hr⟩:=csrel_get hvs (h2 j x hx);exact ⟨v,by rw [at_add];exact hc _ _ hv,hr⟩
      exact ⟨v',rfl,g1,g2⟩
     ·cases h
    ·cases h
   ·cases h
  ·cases h
 ·rename_i e d i j
  split at h
  ·rename_i v hv;obtain ⟨rfl,rfl⟩:=by simpa using h
   obtain ⟨b,o,rfl,hE⟩:=hpv;obtain ⟨v',h1,h2⟩:=elV_spec htt hv (ρ:=ρ) (w:=w) (b:=b) (o:=o) (fun j' k hk=>by
    obtain ⟨u,hu,hr⟩:=hE j' k hk;exact ⟨u,hw.froz.cell hu,hr⟩)
   exact ⟨_,v',rfl,h1,h2⟩
  ·cases h
 ·rename_i e id i j
  split at h
  ·rename_i e' d he
   split at h
   ·rename_i hee;obtain rfl:=Nat.eq_of_beq_eq_true hee
    split at h
    ·rename_i v hv;obtain ⟨rfl,rfl⟩:=by simpa using h
     obtain ⟨hi,rfl⟩:=hpv;have her:=hw.ents id _ he
     rcases her with ⟨h0,_⟩ |⟨_,hoff,_,cs,hh,hsz,hle,hcs⟩
     ·rw [h0] at hi;cases hi
     obtain ⟨v',h1,h2⟩:=elV_spec htt hv (ρ:=ρ) (w:=w) (b:=ρ.blk id) (o:=i*(eks e).length) (fun j' k hk=>by
      obtain ⟨u,hu,hr⟩:=hcs i j' k hps.1 hk;refine ⟨u,?_,hr⟩;simp only [World.cell?,hh]
      simpa using hu)
     exact ⟨_,v',rfl,h1,h2⟩
    ·cases h
   ·cases h
  ·rename_i c e' d g he
   split at h
   ·rename_i hee;obtain rfl:=Nat.eq_of_beq_eq_true hee
    split at h
    ·rename_i ks hks hsh;obtain ⟨hl,_⟩:=tt_ks htt hks;obtain ⟨hi,rfl⟩:=hpv
     split at h
     ·rename_i k hk
      rcases hw.ents id _ he with ⟨h0,_⟩ |⟨_,hoff,_,cs,e3,hh,hsz,hle,hc2,hcs⟩
      ·rw [h0] at hi;cases hi
      have cell:∀ u,cs[i*(eks e).length+j]? = some u->w.cell? ⟨ρ.blk id,i*(eks e).length+j,none⟩=some u:=fun u hu=>by
       simp only [World.cell?,hh];simpa using hu
      split at h
      ·rename_i hjc;have hjc:=Nat.eq_of_beq_eq_true hjc
       split at h
       ·rename_i e2 i0 id2 n;obtain ⟨rfl,rfl⟩:=by simpa using h
        obtain ⟨hii,hlt,_⟩:=hps;obtain ⟨u,hu,hr⟩:=hcs i j _ hlt (by rw [hl];exact hk);rw [if_pos hjc] at hr;have h3:holeAt (some (i0,id2,n)) i=some (id2,n):=by simp [holeAt,hii]
        have h4:e3=e2:=by
         rw [<- hjc,hl,hk] at hc2
         simpa using hc2.symm
        unfold KV at hr;rw [h3,h4] at hr;obtain ⟨v',g1,g2⟩:=ld_one htt hsh (cell u hu) hr;exact ⟨_,v',rfl,g1,g2⟩
       ·cases h
      ·rename_i hjc
       split at h
       ·rename_i q hq;obtain ⟨rfl,rfl⟩:=by simpa using h
        obtain ⟨u,hu,hr⟩:=hcs i j _ hps.1 (by rw [hl];exact hk);rw [if_neg (fun e=>hjc (by rw [e];simp))] at hr;obtain ⟨v',g1,g2⟩:=ld_one htt hsh (cell u hu) (cellSC_spec hq hr);exact ⟨_,v',rfl,g1,g2⟩
       ·cases h
     ·cases h
    ·cases h
   ·cases h
  ·cases h
 ·cases h
end Go.Proofs.YtplejbgafjpomaaGreatDoor.Sx
