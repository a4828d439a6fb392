import Derived.Orders
import Derived.Calls
import Derived.Test.YtplejbgafjpomaaGreatDoorProg
import Derived.Lib.LaidTab
import Derived.Lib.ItoaNum
import Derived.Below
import Derived.ChangeKeysEq
set_option linter.unusedVariables false
set_option linter.unusedSimpArgs false
namespace Go.Proofs.YtplejbgafjpomaaGreatDoor.Sx
inductive K |int (k:IntKind) |bool |str |slice (e:TypeId) |other
def eksOf:List (Nat × List K)->Nat->List K
 | [],_=>[]
 |(j,x)::r,k=>if Nat.beq j k then x else eksOf r k
def eks (t:TypeId):List K:=eksOf [(72,[.str,.int .i64,.int .i64,.str,.str,.slice 9]),
 (86,[.str,.slice 84]),
 (75,[.str,.slice 9,.slice 148]),
 (39,[.int .i64,.int .i64,.int .i64,.int .i64,.int .i64,.slice 40]),
 (44,[.int .i64,.slice 52]),
 (40,[.slice 3]),
 (3,[.int .i64]),
 (52,List.replicate 7 (.int .i64)++[.slice 47,.int .i64,.int .i64,.int .i64,.int .i64,.slice 47,.int .i64,.int .i64,.int .i64,.slice 47,.slice 52,.slice 52,.slice 156]),
 (47,[.int .i64,.int .i64,.int .i64,.slice 47]),
 (156,[.int .i64,.int .i64,.slice 52]),
 (69,[.int .i64,.int .i64,.int .i64,.int .i64,.int .i64,.slice 40]),
 (78,[.int .i64,.slice 166]),
 (118,[.str,.int .i64,.int .i64,.str,.str,.slice 9]),
 (121,[.str,.slice 122]),
 (126,[.str,.slice 9,.slice 193]),
 (9,[.str]),
 (148,[.int .i64,.str,.str,.int .i64,.int .i64,.str,.slice 143,.int .i64,.int .i64,.int .i64,.str,.slice 143,.int .i64,.int .i64,.str,.slice 143,.slice 148,.slice 148,.slice 154]),
 (166,List.replicate 7 (.int .i64)++[.slice 161,.int .i64,.int .i64,.int .i64,.int .i64,.slice 161,.int .i64,.int .i64,.int .i64,.slice 161,.slice 166,.slice 166,.slice 170]),
 (84,[.int .i64,.str,.int .i64]),
 (5,[.int .u8]),
 (122,[.int .i64,.str,.int .i64]),
 (193,[.int .i64,.str,.str,.int .i64,.int .i64,.str,.slice 186,.int .i64,.int .i64,.int .i64,.str,.slice 186,.int .i64,.int .i64,.str,.slice 186,.slice 193,.slice 193,.slice 195]),
 (202,[.int .i64,.str,.int .i64,.int .i64]),
 (143,[.int .i64,.int .i64,.str,.slice 143]),
 (154,[.str,.str,.slice 148]),
 (161,[.int .i64,.int .i64,.int .i64,.slice 161]),
 (170,[.int .i64,.int .i64,.slice 166]),
 (186,[.int .i64,.int .i64,.str,.slice 186]),
 (195,[.str,.str,.slice 193]),
 (73,[.slice 148]),
 (215,[.int .i64,.str,.int .i64,.int .i64])] t
noncomputable def PG:Program:=Tryz.prog
def Tabs (g : Nat) (cs : Array Value) : Prop := PG.globalNamed "internal/strconv.uint64pow10" = some g /\ cs = (Lib.pow10Tab.map fun z=>Value.int .u64 z).toArray
def litTs:List (Nat × Nat):=[]
def nrTs:List (Nat × Nat):=[(40,0),(39,5)]
def nrF:Nat:=8
end Go.Proofs.YtplejbgafjpomaaGreatDoor.Sx
namespace Go.Proofs.YtplejbgafjpomaaGreatDoor.Sx
open Go.RowKit
inductive SI |lit (n:Int) |sym (n:Int)
def SI.v:SI->Int | .lit n=>n | .sym n=>n
inductive SB |lit (b:Bool) |sym (b:Bool)
def SB.v:SB->Bool | .lit b=>b | .sym b=>b
inductive SN |lit (n:Nat) |sym (n:Nat)
def SN.v:SN->Nat | .lit n=>n | .sym n=>n
theorem SI.lv (n:Int):(SI.lit n).v=n:=rfl
theorem SI.sv (n:Int):(SI.sym n).v=n:=rfl
theorem SN.lv (n:Nat):(SN.lit n).v=n:=rfl
theorem SN.sv (n:Nat):(SN.sym n).v=n:=rfl
inductive SO |lit (n:Nat) |sym (l s:Nat)
def SO.v:SO->Nat | .lit n=>n | .sym l s=>l+s
theorem SO.lv (n:Nat):(SO.lit n).v=n:=rfl
inductive D |i (n:Int) |b (b:Bool) |s (s:ByteArray) |l (rows:List (List D))
def D.toI:D->Int | .i x=>x |_=>0
def D.toB:D->Bool | .b x=>x |_=>false
def D.toS:D->ByteArray | .s x=>x |_=>ByteArray.empty
def D.rows:D->List (List D) | .l r=>r |_=>[]
def D.len (d:D):Nat:=d.rows.length
def D.el (d:D) (i j:Nat):D:=(d.rows.getD i []).getD j (.i 0)
def D.sub (d:D) (l h:Nat):D:=.l ((d.rows.take h).drop l)
theorem D.sub_len (d:D) {l h:Nat} (hh:h<=d.len):(d.sub l h).len=h-l:=by
 have h1:h<=d.rows.length:=hh;show ((d.rows.take h).drop l).length=h-l;rw [List.length_drop,List.length_take];omega
theorem D.sub_el (d:D) {l h i:Nat} (hi:i<h-l) (j:Nat):(d.sub l h).el i j=d.el (l+i) j:=by
 have e1:(d.sub l h).rows=(d.rows.take h).drop l:=rfl;unfold D.el;rw [e1,List.getD_eq_getElem?_getD (l:=List.drop l _),List.getElem?_drop,List.getElem?_take_of_lt (by omega),<- List.getD_eq_getElem?_getD]
inductive SC
 |int (k:IntKind) (n:SI)
 |bool (b:SB)
 |ptr (id:Nat) (o:SO)
 |slice (id:Nat) (o:SO) (len:SN)
 |nils
 |raw (v:Value)
 |rows (e:TypeId) (d:D)
 |fp (e:TypeId) (d:D) (i:Nat) (j:Nat)
 |osl (e:TypeId) (id:Nat) (lo n:SN)
 |optr (e:TypeId) (id:Nat) (i:Nat) (j:Nat)
 |fn (ag:Bool) (e:TypeId) (p:List D->Bool) (ok:List D->Prop)
 |bm (g:FuncId) (id:Nat)
structure Map where
 m:Nat->Option (Nat × Nat)
 cap:Nat->Nat
 fz:Nat->Option (Array Value)
 f0:Nat->Option (Array Value)
 mu:Nat->Bool
 kid:Nat->Nat->Option (Nat × Nat):=fun _ _=>none
instance:CoeFun Map (fun _=>Nat->Option (Nat × Nat)):=⟨Map.m⟩
def Map.blk (ρ:Map) (id:Nat):Nat:=((ρ id).getD (0,0)).1
def Map.off (ρ:Map) (id:Nat):Nat:=((ρ id).getD (0,0)).2
def Map.at (ρ:Map) (id o:Nat):Addr:=⟨ρ.blk id,ρ.off id+o,none⟩
abbrev Fz:=Nat->Option (Array Value)
def Fz.cell (fz:Fz) (b o:Nat):Option Value:=match fz b with |some cs=>cs[o]? |none=>none
inductive TRel (fz:Fz):K->D->Value->Prop
 |int (k:IntKind) (d:D):TRel fz (.int k) d (.int k d.toI)
 |bool (d:D):TRel fz .bool d (.bool d.toB)
 |str (d:D):TRel fz .str d (.string d.toS)
 |nil (e:TypeId) (d:D):d.len=0->TRel fz (.slice e) d (.slice none 0 0)
 |empty (e:TypeId) (d:D) (a:Addr) (c:Nat):d.len=0->TRel fz (.slice e) d (.slice (some a) 0 c)
 |slice (e:TypeId) (d:D) (b o c:Nat) (u:Nat->Nat->Value):d.len<=c->(∀ i j,i<d.len->j<(eks e).length->fz.cell b (o+i*(eks e).length+j)=some (u i j)) ->
   (∀ i j k,i<d.len->(eks e)[j]? = some k->TRel fz k (d.el i j) (u i j))->TRel fz (.slice e) d (.slice (some ⟨b,o,none⟩) d.len c)
def FzLe (a b:Fz):Prop:=∀ i cs,a i=some cs->b i=some cs
def TabF (F:Fz):Prop:=∀ g cs,Tabs g cs->F g=some cs
theorem TabF.mono {a b:Fz} (h:FzLe a b) (ha:TabF a):TabF b:=fun g cs hg=>h g cs (ha g cs hg)
theorem FzLe.cell {a b:Fz} (h:FzLe a b) {i o:Nat} {v:Value} (hv:Fz.cell a i o=some v):Fz.cell b i o=some v:=by
 unfold Fz.cell at hv ⊢
 split at hv
 ·rename_i cs hc;rw [h i cs hc];exact hv
 ·cases hv
theorem TRel.mono {a b:Fz} (h:FzLe a b) {k:K} {d:D} {v:Value} (hr:TRel a k d v):TRel b k d v:=by
 induction hr with
 |int k d=>exact .int k d
 |bool d=>exact .bool d
 |str d=>exact .str d
 |nil e d h0=>exact .nil e d h0
 |empty e d a c h0=>exact .empty e d a c h0
 |slice e d b o c u hc hu _ ih=>exact .slice e d b o c u hc (fun i j hi hj=>h.cell (hu i j hi hj)) ih
def ElVal (fz:Fz) (ag:Bool) (e:TypeId) (d:List D) (x:Value):Prop:=match ag with
 |false=>∃ k,eks e=[k]/\TRel fz k (d.getD 0 (.i 0)) x
 |true=>∃ cs:List Value,x = .agg cs.toArray/\cs.length=(eks e).length/\∀ (j:Nat) k,(eks e)[j]? = some k->∃ u,cs[j]? = some u/\TRel fz k (d.getD j (.i 0)) u
def FnQ (fz:Fz) (ag:Bool) (e:TypeId) (p:List D->Bool) (ok:List D->Prop) (v:Value):Prop:=
 ∃ g cap,v = .func (.func g) #[] cap/\(∀ (args:Array Value) (w:World),(callFunc g args).run PG w = .ok (.enter g args) w) /\
   ∀ (w:World) (fz':Fz) (d:List D) (x:Value),FzLe fz fz'->(∀ b cs,fz' b=some cs->∃ T z,w.heap[b]? = some (.cells cs T z))->ElVal fz' ag e d x->ok d ->
     Calls PG g (#[x]++cap) w fun en w'=>en = .returned (.bool (p d))/\Below w.heap.size w w'
def CRel (ρ:Map):SC->Value->Prop
 | .int k n,v=>v = .int k n.v
 | .bool b,v=>v = .bool b.v
 | .ptr id o,v=>(ρ id).isSome=true/\v = .pointer (some (ρ.at id o.v))
 | .slice id o len,v=>∃ A c,v = .slice A len.v c/\len.v<=c/\(((ρ id).isSome=true/\A=some (ρ.at id o.v)) ∨ (len.v=0/\c=0))
 | .nils,v=>v = .slice none 0 0
 | .raw x,v=>v=x
 | .rows e d,v=>TRel ρ.fz (.slice e) d v
 | .fp e d i j,v=>∃ b o,v = .pointer (some ⟨b,o+j,none⟩)/\∀ j' k,(eks e)[j']? = some k->∃ u,Fz.cell ρ.fz b (o+j')=some u/\TRel ρ.fz k (d.el i j') u
 | .osl e id lo n,v=>∃ A c,v = .slice A n.v c/\n.v<=c/\((c=0/\∀ a,A=some a->a.spot=none) ∨ (A=some ⟨ρ.blk id,lo.v*(eks e).length,none⟩/\lo.v+c<=ρ.cap id/\(ρ id).isSome=true))
 | .optr e id i j,v=>(ρ id).isSome=true/\v = .pointer (some ⟨ρ.blk id,i*(eks e).length+j,none⟩)
 | .fn ag e p ok,v=>∃ z,FzLe z ρ.fz/\FnQ z ag e p ok v
 | .bm g id,v=>(ρ id).isSome=true/\v = .func (.func g) #[.pointer (some (ρ.at id 0))] #[]
inductive Seg
 |c (x:SC)
 |ints (k:IntKind) (n:SN) (f:Nat->Int)
def Seg.cells:Seg->List SC
 | .c x=>[x]
 | .ints k n f=>(List.range n.v).map fun o=>.int k (.sym (f o))
def cellsOf (l:List Seg):List SC:=l.flatMap Seg.cells
def CsRel (ρ:Map) (l:List SC) (vs:List Value):Prop:=l.length=vs.length/\∀ (i:Nat) x v,l[i]? = some x->vs[i]? = some v->CRel ρ x v
inductive V1
 |sc (c:SC)
 |agg (l:List Seg)
def V1Rel (ρ:Map):V1->Value->Prop
 | .sc c,v=>CRel ρ c v
 | .agg l,v=>∃ cs:Array Value,v = .agg cs/\CsRel ρ (cellsOf l) cs.toList
inductive SV
 |one (x:V1)
 |tup (l:List V1)
 |cond (g:List (Nat × Bool)) (x:V1)
 |junk
def Gd (tmps:Array Value) (g:List (Nat × Bool)):Prop:=∀ p∈g,tmps.getD p.1 undef = .bool p.2
def TupRel (ρ:Map):List V1->List Value->Prop
 | [],[]=>True
 |x::l,v::vs=>V1Rel ρ x v/\TupRel ρ l vs
 |_,_=>False
def VRel (ρ:Map) (tmps:Array Value):SV->Value->Prop
 | .one x,v=>V1Rel ρ x v
 | .tup l,v=>∃ vs:Array Value,v = .tuple vs/\TupRel ρ l vs.toList
 | .cond g x,v=>(Gd tmps g->V1Rel ρ x v)/\(¬ Gd tmps g->v=undef)
 | .junk,_=>True
inductive Ent
 |own (T:TypeId) (l:List Seg)
 |row (T:TypeId) (l:List Seg)
 |orow (e:TypeId) (d:D)
 |ro (l:List Seg)
 |gone
 |nrow (c:Nat) (e:TypeId) (d:D) (g:Option (Nat × Nat × Nat))
def Ent.isOwn:Ent->Bool | .own .. | .row .. | .orow .. | .nrow ..=>true |_=>false
def Ent.isPl:Ent->Bool | .own .. | .row .. | .orow ..=>true |_=>false
theorem Ent.pl_own {x:Ent} (h:x.isPl=true):x.isOwn=true:=by cases x<;>first |rfl |cases h
def Mine (B:Nat) (ρ:Map) (b:Nat):Prop:=(B<=b ∨ ρ.mu b=true) /\ ρ.fz b=none
def RowAt (ρ:Map) (w:World) (b cap:Nat) (e:TypeId) (d:D):Prop:=∃ cs:Array Value,w.heap[b]? = some (.cells cs e (0,0))/\cs.size=cap*(eks e).length/\d.len<=cap /\
 ∀ i j k,i<d.len->(eks e)[j]? = some k->∃ u,cs[i*(eks e).length+j]? = some u/\TRel ρ.fz k (d.el i j) u
def holeAt (g:Option (Nat × Nat × Nat)) (i:Nat):Option (Nat × Nat):=match g with |some (i0,id,n)=>if i=i0 then some (id,n) else none |none=>none
def KV (ρ:Map) (id:Nat) (e:TypeId) (x:D) (g:Option (Nat × Nat × Nat)) (i:Nat) (u:Value):Prop:=match holeAt g i with
 |some (id2,n)=>CRel ρ (.osl e id2 (.lit 0) (.sym n)) u
 |none=>∃ A cc,u = .slice A x.len cc/\x.len<=cc/\((cc=0/\∀ a,A=some a->a.spot=none) ∨ ∃ b cap,ρ.kid id i=some (b,cap)/\A=some ⟨b,0,none⟩/\cc<=cap)
def NRow (ρ:Map) (w:World) (id c:Nat) (e:TypeId) (d:D) (g:Option (Nat × Nat × Nat)):Prop:=∃ (cs:Array Value) (e':TypeId),w.heap[ρ.blk id]? = some (.cells cs e (0,0))/\cs.size=ρ.cap id*(eks e).length/\d.len<=ρ.cap id/\(eks e)[c]? = some (.slice e') /\
 ∀ i j k,i<d.len->(eks e)[j]? = some k->∃ u,cs[i*(eks e).length+j]? = some u/\if j=c then KV ρ id e' (d.el i c) g i u else TRel ρ.fz k (d.el i j) u
def ERel (B:Nat) (ρ:Map) (w:World) (id:Nat):Ent->Prop
 | .own T l=>(ρ id).isSome=true /\ ρ.off id=0/\Mine B ρ (ρ.blk id)/\∃ vs:List Value,CsRel ρ (cellsOf l) vs/\w.heap[ρ.blk id]? = some (.cells vs.toArray T (0,0))
 | .row T l=>(ρ id).isSome=true /\ ρ.off id=0/\Mine B ρ (ρ.blk id)/\∃ vs rest:List Value,CsRel ρ (cellsOf l) vs/\w.heap[ρ.blk id]? = some (.cells (vs++rest).toArray T (0,0))
 | .orow e d=>(ρ id=none/\d.len=0) ∨ ((ρ id).isSome=true /\ ρ.off id=0/\Mine B ρ (ρ.blk id)/\RowAt ρ w (ρ.blk id) (ρ.cap id) e d)
 | .ro l=>(ρ id).isSome=true/\∃ vs:List Value,CsRel ρ (cellsOf l) vs/\∀ (o:Nat) v,vs[o]? = some v->Fz.cell ρ.fz (ρ.blk id) (ρ.off id+o)=some v
 | .gone=>True
 | .nrow c e d g=>(ρ id=none/\d.len=0) ∨ ((ρ id).isSome=true /\ ρ.off id=0/\Mine B ρ (ρ.blk id)/\NRow ρ w id c e d g)
abbrev Heap:=List (Nat × Ent)
def look {α:Type}:List (Nat × α)->Nat->Option α
 | [],_=>none
 |(j,x)::r,k=>if j==k then some x else look r k
def Lin (B:Nat) (ρ:Map) (h:Heap) (w:World):Prop:=∀ id c e d g,look h id=some (.nrow c e d g)->(ρ id).isSome=true->∀ i b cap,ρ.kid id i=some (b,cap) ->
 Mine B ρ b/\b<w.heap.size/\(∀ e',(eks e)[c]? = some (.slice e')->i<d.len->holeAt g i=none->RowAt ρ w b cap e' (d.el i c)) /\
 (∀ j f,look h j=some f->f.isOwn=true->(ρ j).isSome=true -> ρ.blk j≠b) /\
 (∀ j c' e' d' g' k cap',look h j=some (.nrow c' e' d' g')->(ρ j).isSome=true -> ρ.kid j k=some (b,cap')->j=id/\k=i)
theorem lin_no {B:Nat} {ρ:Map} {h:Heap} {w:World} (hn:∀ id c e d g,look h id≠some (.nrow c e d g)):Lin B ρ h w:=fun id c e d g hl=>absurd hl (hn id c e d g)
structure BelowM (B:Nat) (mu:Nat->Bool) (w w':World):Prop where
 os:w'.os=w.os
 tape:w'.tape=w.tape
 output:w'.output=w.output
 size:w.heap.size<=w'.heap.size
 block:∀ k,k<B->mu k=false->w'.heap[k]? = w.heap[k]?
theorem BelowM.refl (B:Nat) (mu:Nat->Bool) (w:World):BelowM B mu w w:=⟨rfl,rfl,rfl,Nat.le_refl _,fun _ _ _=>rfl⟩
theorem BelowM.trans {B:Nat} {mu:Nat->Bool} {a b c:World} (h:BelowM B mu a b) (k:BelowM B mu b c):BelowM B mu a c:=
 ⟨k.os.trans h.os,k.tape.trans h.tape,k.output.trans h.output,Nat.le_trans h.size k.size,fun i hi hm=>(k.block i hi hm).trans (h.block i hi hm)⟩
theorem BelowM.drew {B:Nat} {mu:Nat->Bool} {a b:World} (h:BelowM B mu a b):BelowM B mu a b.drew:=⟨h.os,h.tape,h.output,h.size,h.block⟩
def Frozen (ρ:Map) (w:World):Prop:=∀ b cs,ρ.fz b=some cs->∃ T z,w.heap[b]? = some (.cells cs T z)
theorem Frozen.cell {ρ:Map} {w:World} (h:Frozen ρ w) {b o:Nat} {v:Value} (hv:Fz.cell ρ.fz b o=some v):w.cell? ⟨b,o,none⟩=some v:=by
 unfold Fz.cell at hv
 split at hv
 ·rename_i cs hc;obtain ⟨T,z,hh⟩:=h b cs hc;simp only [World.cell?,hh]
  simpa using hv
 ·cases hv
structure W0 where
 w:World
 f0:Fz
 mu:Nat->Bool
 anc:Option (Nat × Nat):=none
abbrev W0.heap (x:W0):Array Obj:=x.w.heap
structure WH (w0:W0) (ρ:Map) (h:Heap) (w:World):Prop where
 below:BelowM w0.heap.size ρ.mu w0.w w
 ents:∀ id e,look h id=some e->ERel w0.heap.size ρ w id e
 apart:∀ i j e f,look h i=some e->look h j=some f->e.isOwn=true->f.isOwn=true->i≠j->(ρ i).isSome=true->(ρ j).isSome=true -> ρ.blk i≠ρ.blk j
 froz:Frozen ρ w
 sub:FzLe ρ.f0 ρ.fz
 mu0:ρ.mu=w0.mu
 f00:ρ.f0=w0.f0
 old:∀ b cs,ρ.fz b=some cs -> ρ.f0 b=some cs ∨ w0.heap.size<=b ∨ ρ.mu b=true
 anc:∀ p,w0.anc=some p -> ρ 0=some p
 tab:TabF w0.f0
 lin:Lin w0.heap.size ρ h w
abbrev Slots:=List (Nat × SV)
structure AH (ρ:Map) (nt:Nat) (tm:Slots) (a:Act):Prop where
 size:a.tmps.size=nt
 defers:a.defers=[]
 slots:∀ t x,look tm t=some x->VRel ρ a.tmps x (a.tmps.getD t undef)
def All:List Prop->Prop
 | []=>True
 |p::r=>p/\All r
theorem all_append {a b:List Prop}:All (a++b)↔All a/\All b:=by
 induction a with
 |nil=>simp [All]
 |cons p r ih=>simp [All,ih,and_assoc]
def getL:List Seg->Nat->Option (SC × List Prop)
 | [],_=>none
 | .c x::r,o=>match o with | 0=>some (x,[]) |o+1=>getL r o
 | .ints k (.lit n) f::r,o=>if Nat.blt o n then some (.int k (.sym (f o)),[]) else getL r (o-n)
 | .ints k (.sym n) f::_,o=>some (.int k (.sym (f o)),[o<n])
def boolsL:List Seg->List Bool
 | .c (.bool (.sym b))::r=>b::boolsL r
 |_=>[]
def getS:List Seg->Nat->Nat->Option (SC × List Prop)
 | [],_,_=>none
 | .c y::r,o,s=>match o with
   | 0=>(match y with | .bool (.sym b)=>some (.bool (.sym ((b::boolsL r).getD s false)),[s<(boolsL r).length+1]) |_=>none)
   |o+1=>getS r o s
 | .ints k (.lit n) f::r,o,s=>if Nat.blt o n then some (.int k (.sym (f (o+s))),[o+s<n]) else getS r (o-n) s
 | .ints k (.sym n) f::_,o,s=>some (.int k (.sym (f (o+s))),[o+s<n])
def getC (l:List Seg):SO->Option (SC × List Prop)
 | .lit n=>getL l n
 | .sym o s=>getS l o s
theorem cells_ints_get {k:IntKind} {n:SN} {f:Nat->Int} {o:Nat} (h:o<n.v):(Seg.ints k n f).cells[o]? = some (.int k (.sym (f o))):=by
 simp [Seg.cells,List.getElem?_range h]
theorem cells_ints_len {k:IntKind} {n:SN} {f:Nat->Int}:(Seg.ints k n f).cells.length=n.v:=by simp [Seg.cells]
theorem cellsOf_cons (s:Seg) (l:List Seg):cellsOf (s::l)=s.cells++cellsOf l:=by simp [cellsOf]
theorem getL_spec:∀ (l:List Seg) (o:Nat) x ps,getL l o=some (x,ps)->All ps->(cellsOf l)[o]? = some x
 | [],_,_,_,h,_=>by simp [getL] at h
 | .c y::r,o,x,ps,h,hp=>by
   rw [cellsOf_cons]
   cases o with
   |zero=>simp [getL] at h;simp [Seg.cells,h.1]
   |succ o=>simp only [getL] at h;have:=getL_spec r o x ps h hp;simpa [Seg.cells] using this
 | .ints k (.lit n) f::r,o,x,ps,h,hp=>by
   rw [cellsOf_cons];simp only [getL] at h
   split at h
   ·rename_i hlt;have hlt':o<n:=by simpa [Nat.blt_eq] using hlt
    obtain ⟨rfl,rfl⟩:=by simpa using h
    rw [List.getElem?_append_left (by rw [cells_ints_len];exact hlt')];exact cells_ints_get hlt'
   ·rename_i hlt;have hge:n<=o:=by
     have:¬ o<n:=by simpa [Nat.blt_eq] using hlt
     omega
    rw [List.getElem?_append_right (by rw [cells_ints_len];exact hge),cells_ints_len];exact getL_spec r _ x ps h hp
 | .ints k (.sym n) f::r,o,x,ps,h,hp=>by
   rw [cellsOf_cons];simp only [getL,Option.some.injEq,Prod.mk.injEq] at h;obtain ⟨rfl,rfl⟩:=h;have hlt:o<n:=hp.1;rw [List.getElem?_append_left (by rw [cells_ints_len];exact hlt)];exact cells_ints_get hlt
theorem boolsL_get:∀ (l:List Seg) (s:Nat),s<(boolsL l).length->(cellsOf l)[s]? = some (.bool (.sym ((boolsL l).getD s false)))
 | [],s,h=>by simp [boolsL] at h
 | .ints .. :: _,s,h=>by simp [boolsL] at h
 | .c y::r,s,h=>by
   rw [cellsOf_cons]
   match y,h with
   | .bool (.sym b),h=>
     cases s with
     |zero=>rfl
     |succ s=>
      have h':s<(boolsL r).length:=by simpa [boolsL] using h
      have:=boolsL_get r s h'
      simpa [Seg.cells,boolsL] using this
theorem getS_spec:∀ (l:List Seg) (o s:Nat) x ps,getS l o s=some (x,ps)->All ps->(cellsOf l)[o+s]? = some x
 | [],_,_,_,_,h,_=>by simp [getS] at h
 | .c y::r,o,s,x,ps,h,hp=>by
   rw [cellsOf_cons]
   cases o with
   |zero=>
    simp only [getS] at h
    split at h
    ·rename_i b;simp only [Option.some.injEq,Prod.mk.injEq] at h;obtain ⟨rfl,rfl⟩:=h;have:=boolsL_get (.c (.bool (.sym b))::r) s hp.1;rw [cellsOf_cons] at this;rw [Nat.zero_add];exact this
    ·cases h
   |succ o=>
    simp only [getS] at h;have:=getS_spec r o s x ps h hp;have e:o+1+s=(o+s)+1:=by omega
    rw [e]
    simpa [Seg.cells] using this
 | .ints k (.lit n) f::r,o,s,x,ps,h,hp=>by
   rw [cellsOf_cons];simp only [getS] at h
   split at h
   ·simp only [Option.some.injEq,Prod.mk.injEq] at h;obtain ⟨rfl,rfl⟩:=h;have hlt:o+s<n:=hp.1;rw [List.getElem?_append_left (by rw [cells_ints_len];exact hlt)];exact cells_ints_get hlt
   ·rename_i hlt;have hge:n<=o:=by
     have:¬ o<n:=by simpa [Nat.blt_eq] using hlt
     omega
    have hge2:n<=o+s:=by omega
    rw [List.getElem?_append_right (by rw [cells_ints_len];exact hge2),cells_ints_len];have e:o+s-n=(o-n)+s:=by omega
    show (cellsOf r)[o+s-n]? = _;rw [e];exact getS_spec r _ s x ps h hp
 | .ints k (.sym n) f::r,o,s,x,ps,h,hp=>by
   rw [cellsOf_cons];simp only [getS,Option.some.injEq,Prod.mk.injEq] at h;obtain ⟨rfl,rfl⟩:=h;have hlt:o+s<n:=hp.1;rw [List.getElem?_append_left (by rw [cells_ints_len];exact hlt)];exact cells_ints_get hlt
theorem getC_spec {l:List Seg} {o:SO} {x:SC} {ps:List Prop} (h:getC l o=some (x,ps)) (hp:All ps):(cellsOf l)[o.v]? = some x:=by
 cases o with
 |lit n=>exact getL_spec l n x ps h hp
 |sym n s=>exact getS_spec l n s x ps h hp
def SC.n:SC->SC
 | .int k n=>.int k (.sym n.v)
 | .bool b=>.bool (.sym b.v)
 |x=>x
theorem crel_n {ρ:Map} {x:SC} {v:Value}:CRel ρ x.n v↔CRel ρ x v:=by cases x<;>simp [SC.n,CRel,SI.v,SB.v]
def cellsN (l:List Seg):List SC:=(cellsOf l).map SC.n
theorem cellsN_len (l:List Seg):(cellsN l).length=(cellsOf l).length:=by simp [cellsN]
theorem csrel_n {ρ:Map} {l:List SC} {vs:List Value}:CsRel ρ (l.map SC.n) vs↔CsRel ρ l vs:=by
 constructor
 ·rintro ⟨h1,h2⟩;refine ⟨by simpa using h1,fun i x v hx hv=>crel_n.1 (h2 i x.n v (by simp [hx]) hv)⟩
 ·rintro ⟨h1,h2⟩;refine ⟨by simpa using h1,fun i x v hx hv=>?_⟩;rw [List.getElem?_map] at hx
  cases hl:l[i]? with
  |none=>rw [hl] at hx;cases hx
  |some y=>
   rw [hl] at hx;obtain rfl:y.n=x:=by simpa using hx
   exact crel_n.2 (h2 i y v hl hv)
def over {α:Type} (l:List α) (o:Nat) (m:List α):List α:=l.take o++m++l.drop (o+m.length)
theorem over_len {α:Type} {l m:List α} {o:Nat} (h:o+m.length<=l.length):(over l o m).length=l.length:=by
 simp [over];omega
theorem over_get {α:Type} {l m:List α} {o:Nat} (h:o+m.length<=l.length) (j:Nat):(over l o m)[j]? = if o<=j/\j<o+m.length then m[j-o]? else l[j]?:=by
 unfold over
 by_cases h1:j<o
 ·rw [if_neg (by omega),List.append_assoc,List.getElem?_append_left (by simp;omega),List.getElem?_take_of_lt h1]
 ·by_cases h2:j<o+m.length
  ·rw [if_pos (by omega),List.append_assoc,List.getElem?_append_right (by simp;omega)];have e:(l.take o).length=o:=by simp;omega
   rw [e,List.getElem?_append_left (by omega)]
  ·rw [if_neg (by omega),List.getElem?_append_right (by simp;omega)];have e:(l.take o++m).length=o+m.length:=by simp;omega
   rw [e,List.getElem?_drop]
   congr 1;omega
def putF (f:Nat->Int) (o n:Nat) (g:Nat->Int):Nat->Int:=fun j=>if Nat.ble o j&&Nat.blt j (o+n) then g (j-o) else f j
def scInt (k:IntKind):SC->Option Int
 | .int k' n=>if k=k' then some n.v else none
 |_=>none
def wrInts (k:IntKind) (m:Nat) (f:Nat->Int) (at_:Nat) (exact:Bool):Seg->Option ((Nat->Int) × List Prop)
 | .c x=>match scInt k x with |some n=>some (putF f at_ 1 (fun _=>n),[at_+1<=m]) |none=>none
 | .ints k' (.lit n) g=>if k=k' then (if exact&&Nat.beq n m then some (g,[]) else some (putF f at_ n g,[at_+n<=m])) else none
 | .ints _ (.sym _) _=>none
def wrL:List Seg->Nat->Seg->Option (List Seg × List Prop)
 | [],_,_=>none
 | .c y::r,o,s=>match o with
   | 0=>match s with | .c x=>some (.c x::r,[]) |_=>none
   |o+1=>match wrL r o s with |some (r',ps)=>some (.c y::r',ps) |none=>none
 | .ints k (.lit n) f::r,o,s=>if Nat.blt o n then (match wrInts k n f o (Nat.beq o 0) s with |some (f',ps)=>some (.ints k (.lit n) f'::r,ps) |none=>none)
   else match wrL r (o-n) s with |some (r',ps)=>some (.ints k (.lit n) f::r',ps) |none=>none
 | .ints k (.sym n) f::r,o,s=>match wrInts k n f o false s with |some (f',ps)=>some (.ints k (.sym n) f'::r,ps) |none=>none
def wrBs (t:Nat) (x:Bool):Nat->List Seg->List Seg
 |i,.c (.bool (.sym b))::r=>.c (.bool (.sym (bif Nat.beq i t then x else b)))::wrBs t x (i+1) r
 |_,l=>l
def wrS:List Seg->Nat->Nat->Seg->Option (List Seg × List Prop)
 | [],_,_,_=>none
 | .c y::r,o,t,s=>match o with
   | 0=>(match y,s with | .bool (.sym b),.c (.bool x)=>some (wrBs t x.v 0 (.c (.bool (.sym b))::r),[t<(boolsL r).length+1]) |_,_=>none)
   |o+1=>match wrS r o t s with |some (r',ps)=>some (.c y::r',ps) |none=>none
 | .ints k (.lit n) f::r,o,t,s=>if Nat.blt o n then (match wrInts k n f (o+t) false s with |some (f',ps)=>some (.ints k (.lit n) f'::r,ps) |none=>none)
   else match wrS r (o-n) t s with |some (r',ps)=>some (.ints k (.lit n) f::r',ps) |none=>none
 | .ints k (.sym n) f::r,o,t,s=>match wrInts k n f (o+t) false s with |some (f',ps)=>some (.ints k (.sym n) f'::r,ps) |none=>none
theorem ints_n {k:IntKind} {n:SN} {f:Nat->Int}:(Seg.ints k n f).cells.map SC.n=(List.range n.v).map fun o=>.int k (.sym (f o)):=by
 simp [Seg.cells,SC.n,SI.v]
theorem cellsN_cons (s:Seg) (l:List Seg):cellsN (s::l)=s.cells.map SC.n++cellsN l:=by simp [cellsN,cellsOf]
theorem wrInts_spec {k:IntKind} {m:Nat} {f f':Nat->Int} {o:Nat} {e:Bool} {s:Seg} {ps:List Prop} (he:e=true->o=0) (h:wrInts k m f o e s=some (f',ps)) (hp:All ps) :
 o+s.cells.length<=m/\(List.range m).map (fun j=>SC.int k (.sym (f' j)))=over ((List.range m).map fun j=>SC.int k (.sym (f j))) o (s.cells.map SC.n):=by
 have key:∀ (n:Nat) (g:Nat->Int),s.cells.map SC.n=(List.range n).map (fun j=>SC.int k (.sym (g j)))->o+n<=m ->
  (List.range m).map (fun j=>SC.int k (.sym (putF f o n g j)))=over ((List.range m).map fun j=>SC.int k (.sym (f j))) o (s.cells.map SC.n):=by
  intro n g hs hle;rw [hs]
  apply List.ext_getElem?
  intro j;rw [over_get (by simpa using hle)];simp only [List.length_map,List.length_range,List.getElem?_map]
  by_cases hj:j<m
  ·rw [List.getElem?_range hj]
   by_cases hc:o<=j/\j<o+n
   ·rw [if_pos hc,List.getElem?_range (by omega)];simp [putF,Nat.ble_eq,Nat.blt_eq,hc.1,hc.2]
   ·rw [if_neg hc];simp only [Option.map_some,putF];rw [if_neg];simp only [Bool.and_eq_true,Nat.ble_eq,Nat.blt_eq];exact hc
  ·rw [List.getElem?_eq_none (by simpa using hj)];rw [if_neg (by omega)];rfl
 unfold wrInts at h
 split at h
 ·rename_i x
  split at h
  ·rename_i n hn;obtain ⟨rfl,rfl⟩:=by simpa using h
   refine ⟨by simpa [Seg.cells] using hp.1,key 1 _ ?_ hp.1⟩
   cases x<;>simp [scInt] at hn
   obtain ⟨rfl,rfl⟩:=hn;simp [Seg.cells,SC.n,List.range_succ]
  ·cases h
 ·rename_i k' n g
  split at h
  ·rename_i hk;subst hk
   split at h
   ·rename_i hb;obtain ⟨rfl,rfl⟩:=by simpa using h
    simp only [Bool.and_eq_true] at hb;have ho:=he hb.1;have hnm:n=m:=Nat.eq_of_beq_eq_true hb.2;subst ho hnm;refine ⟨by simp [Seg.cells,SN.v],?_⟩;rw [ints_n];simp [over,SN.v]
   ·obtain ⟨rfl,rfl⟩:=by simpa using h
    refine ⟨by simpa [Seg.cells,SN.v] using hp.1,key n g (by rw [ints_n];rfl) hp.1⟩
  ·cases h
 ·cases h
theorem over_left {α:Type} {a b m:List α} {o:Nat} (h:o+m.length<=a.length):over (a++b) o m=over a o m++b:=by
 unfold over;rw [List.take_append_of_le_length (by omega),List.drop_append_of_le_length h]
 simp
theorem over_right {α:Type} {a b m:List α} {o:Nat}:over (a++b) (a.length+o) m=a++over b o m:=by
 unfold over;simp [Nat.add_assoc,List.take_append,List.drop_append,List.take_of_length_le,List.drop_of_length_le]
theorem wrL_spec:∀ (l:List Seg) (o:Nat) (s:Seg) l' ps,wrL l o s=some (l',ps)->All ps->o+s.cells.length<=(cellsN l).length/\cellsN l'=over (cellsN l) o (s.cells.map SC.n)
 | [],_,_,_,_,h,_=>by simp [wrL] at h
 | .c y::r,o,s,l',ps,h,hp=>by
   cases o with
   |zero=>
    cases s with
    |c x=>
     simp only [wrL,Option.some.injEq,Prod.mk.injEq] at h;obtain ⟨rfl,rfl⟩:=h;refine ⟨by simp [cellsN,cellsOf,Seg.cells],?_⟩;simp [cellsN,cellsOf,Seg.cells,over]
    |ints=>simp [wrL] at h
   |succ o=>
    simp only [wrL] at h
    split at h
    ·rename_i r' ps' hr;obtain ⟨rfl,rfl⟩:=by simpa using h
     obtain ⟨h1,h2⟩:=wrL_spec r o s r' ps' hr hp;rw [cellsN_cons,cellsN_cons,h2];refine ⟨by rw [List.length_append];simp only [Seg.cells,List.map_cons,List.map_nil,List.length_cons,List.length_nil] at h1 ⊢;omega,?_⟩;have e:o+1=((Seg.c y).cells.map SC.n).length+o:=by simp [Seg.cells];omega
     rw [e,over_right]
    ·cases h
 | .ints k (.lit n) f::r,o,s,l',ps,h,hp=>by
   simp only [wrL] at h
   split at h
   ·rename_i hlt
    split at h
    ·rename_i f' ps' hw;obtain ⟨rfl,rfl⟩:=by simpa using h
     obtain ⟨h1,h2⟩:=wrInts_spec (by intro he;exact Nat.eq_of_beq_eq_true he) hw hp;rw [cellsN_cons,cellsN_cons,ints_n,ints_n];refine ⟨by simp [SN.v];omega,?_⟩;rw [over_left (by simpa [SN.v] using h1)];simp only [SN.v];rw [h2]
    ·cases h
   ·rename_i hlt;have hge:n<=o:=by
     have:¬ o<n:=by simpa [Nat.blt_eq] using hlt
     omega
    split at h
    ·rename_i r' ps' hr;obtain ⟨rfl,rfl⟩:=by simpa using h
     obtain ⟨h1,h2⟩:=wrL_spec r (o-n) s r' ps' hr hp;rw [cellsN_cons,cellsN_cons,h2,ints_n];refine ⟨by simp [SN.v];omega,?_⟩;have e:o=((List.range (SN.lit n).v).map fun o=>SC.int k (.sym (f o))).length+(o-n):=by simp [SN.v];omega
     rw [e,over_right]
     congr 2
     simp [SN.v]
    ·cases h
 | .ints k (.sym n) f::r,o,s,l',ps,h,hp=>by
   simp only [wrL] at h
   split at h
   ·rename_i f' ps' hw;obtain ⟨rfl,rfl⟩:=by simpa using h
    obtain ⟨h1,h2⟩:=wrInts_spec (by intro he;cases he) hw hp;rw [cellsN_cons,cellsN_cons,ints_n,ints_n];refine ⟨by simp [SN.v];omega,?_⟩;rw [over_left (by simpa [SN.v] using h1)];simp only [SN.v];rw [h2]
   ·cases h
theorem wrBs_get (t:Nat) (x:Bool):∀ (l:List Seg) (i j:Nat),(cellsN (wrBs t x i l))[j]? = if j<(boolsL l).length/\i+j=t then some (SC.bool (.sym x)) else (cellsN l)[j]?
 | [],i,j=>by simp [wrBs,boolsL]
 | .ints .. :: _,i,j=>by simp [wrBs,boolsL]
 | .c y::r,i,j=>by
   by_cases hy:∃ b,y = .bool (.sym b)
   ·obtain ⟨b,rfl⟩:=hy;have e:wrBs t x i (.c (.bool (.sym b))::r) = .c (.bool (.sym (bif Nat.beq i t then x else b)))::wrBs t x (i+1) r:=rfl;rw [e,cellsN_cons,cellsN_cons]
    cases j with
    |zero=>
     by_cases h:i=t
     ·subst h;rw [if_pos ⟨by simp [boolsL],rfl⟩];simp [Seg.cells,SC.n,SB.v]
     ·rw [if_neg (fun q=>h q.2)];have:Nat.beq i t=false:=by
       cases hb:Nat.beq i t with
       |false=>rfl
       |true=>exact absurd (Nat.eq_of_beq_eq_true hb) h
      simp [Seg.cells,SC.n,SB.v,this]
    |succ j=>
     have ih:=wrBs_get t x r (i+1) j;have e1:(List.map SC.n (Seg.c (.bool (.sym (bif Nat.beq i t then x else b)))).cells++cellsN (wrBs t x (i+1) r))[j+1]? = (cellsN (wrBs t x (i+1) r))[j]?:=by simp [Seg.cells]
     have e2:(List.map SC.n (Seg.c (.bool (.sym b))).cells++cellsN r)[j+1]? = (cellsN r)[j]?:=by simp [Seg.cells]
     rw [e1,e2,ih]
     by_cases hc:j<(boolsL r).length/\i+1+j=t
     ·rw [if_pos hc,if_pos ⟨by simp only [boolsL,List.length_cons];omega,by omega⟩]
     ·rw [if_neg hc,if_neg (fun q=>hc ⟨by have:=q.1;simp only [boolsL,List.length_cons] at this;omega,by omega⟩)]
   ·have e:wrBs t x i (.c y::r) = .c y::r:=by
     unfold wrBs;split
     ·rename_i b _ hq;exact absurd ⟨b,by simpa using (List.cons.inj hq).1⟩ hy
     ·rfl
    have e0:boolsL (.c y::r)=[]:=by
     unfold boolsL;split
     ·rename_i b _ hq;exact absurd ⟨b,by simpa using (List.cons.inj hq).1⟩ hy
     ·rfl
    rw [e,e0,if_neg (fun q=>by simp at q)]
theorem wrBs_over {t:Nat} {x:SB} {l:List Seg} (h:t<(boolsL l).length):t+1<=(cellsN l).length/\cellsN (wrBs t x.v 0 l)=over (cellsN l) t [SC.bool (.sym x.v)]:=by
 have hl:t<(cellsN l).length:=by
  have:=boolsL_get l t h;rw [cellsN_len];exact (List.getElem?_eq_some_iff.1 this).1
 refine ⟨hl,?_⟩
 apply List.ext_getElem?
 intro j;rw [wrBs_get,over_get (show t+1<=_ from hl)]
 by_cases hj:j=t
 ·subst hj;rw [if_pos ⟨h,by omega⟩,if_pos ⟨by omega,by simp⟩]
  simp
 ·rw [if_neg (fun q=>hj (by omega)),if_neg (fun q=>hj (by have:=q.2;simp only [List.length_cons,List.length_nil] at this;omega))]
theorem wrS_spec:∀ (l:List Seg) (o t:Nat) (s:Seg) l' ps,wrS l o t s=some (l',ps)->All ps->o+t+s.cells.length<=(cellsN l).length/\cellsN l'=over (cellsN l) (o+t) (s.cells.map SC.n)
 | [],_,_,_,_,_,h,_=>by simp [wrS] at h
 | .c y::r,o,t,s,l',ps,h,hp=>by
   cases o with
   |zero=>
    simp only [wrS] at h
    split at h
    ·rename_i b x;simp only [Option.some.injEq,Prod.mk.injEq] at h;obtain ⟨rfl,rfl⟩:=h;obtain ⟨h1,h2⟩:=wrBs_over (t:=t) (x:=x) (l:=.c (.bool (.sym b))::r) hp.1;rw [Nat.zero_add];exact ⟨h1,h2⟩
    ·cases h
   |succ o=>
    simp only [wrS] at h
    split at h
    ·rename_i r' ps' hr;obtain ⟨rfl,rfl⟩:=by simpa using h
     obtain ⟨h1,h2⟩:=wrS_spec r o t s r' ps' hr hp;rw [cellsN_cons,cellsN_cons,h2];refine ⟨by rw [List.length_append];simp only [Seg.cells,List.map_cons,List.map_nil,List.length_cons,List.length_nil] at h1 ⊢;omega,?_⟩;have e:o+1+t=((Seg.c y).cells.map SC.n).length+(o+t):=by simp [Seg.cells];omega
     rw [e,over_right]
    ·cases h
 | .ints k (.lit n) f::r,o,t,s,l',ps,h,hp=>by
   simp only [wrS] at h
   split at h
   ·rename_i hlt
    split at h
    ·rename_i f' ps' hw;obtain ⟨rfl,rfl⟩:=by simpa using h
     obtain ⟨h1,h2⟩:=wrInts_spec (by intro he;cases he) hw hp;rw [cellsN_cons,cellsN_cons,ints_n,ints_n];refine ⟨by simp [SN.v];omega,?_⟩;rw [over_left (by simpa [SN.v] using h1)];simp only [SN.v];rw [h2]
    ·cases h
   ·rename_i hlt;have hge:n<=o:=by
     have:¬ o<n:=by simpa [Nat.blt_eq] using hlt
     omega
    split at h
    ·rename_i r' ps' hr;obtain ⟨rfl,rfl⟩:=by simpa using h
     obtain ⟨h1,h2⟩:=wrS_spec r (o-n) t s r' ps' hr hp;rw [cellsN_cons,cellsN_cons,h2,ints_n];refine ⟨by simp [SN.v];omega,?_⟩;have e:o+t=((List.range (SN.lit n).v).map fun o=>SC.int k (.sym (f o))).length+(o-n+t):=by simp [SN.v];omega
     rw [e,over_right]
    ·cases h
 | .ints k (.sym n) f::r,o,t,s,l',ps,h,hp=>by
   simp only [wrS] at h
   split at h
   ·rename_i f' ps' hw;obtain ⟨rfl,rfl⟩:=by simpa using h
    obtain ⟨h1,h2⟩:=wrInts_spec (by intro he;cases he) hw hp;rw [cellsN_cons,cellsN_cons,ints_n,ints_n];refine ⟨by simp [SN.v];omega,?_⟩;rw [over_left (by simpa [SN.v] using h1)];simp only [SN.v];rw [h2]
   ·cases h
def wrC (l:List Seg):SO->Seg->Option (List Seg × List Prop)
 | .lit n,s=>wrL l n s
 | .sym o t,s=>wrS l o t s
theorem wrC_spec {l l':List Seg} {o:SO} {s:Seg} {ps:List Prop} (h:wrC l o s=some (l',ps)) (hp:All ps):o.v+s.cells.length<=(cellsN l).length/\cellsN l'=over (cellsN l) o.v (s.cells.map SC.n):=by
 cases o with
 |lit n=>exact wrL_spec l n s l' ps h hp
 |sym a b=>exact wrS_spec l a b s l' ps h hp
end Go.Proofs.YtplejbgafjpomaaGreatDoor.Sx
namespace Go.Proofs.YtplejbgafjpomaaGreatDoor.Sx
inductive CK |b |i (k:IntKind) |s
def CK.fits:CK->Value->Prop
 | .b,v=>∃ x,v = .bool x
 | .i k,v=>∃ n,v = .int k n
 | .s,v=>∃ x,v = .string x
def Fit:List CK->List Value->Prop
 | [],[]=>True
 |c::r,v::vs=>c.fits v/\Fit r vs
 |_,_=>False
theorem Fit.len:∀ {ks:List CK} {vs:List Value},Fit ks vs->vs.length=ks.length
 | [],[],_=>rfl
 |_::_,_::_,h=>by simp [Fit.len h.2]
 | [],_::_,h=>h.elim
 |_::_,[],h=>h.elim
theorem Fit.split:∀ {a b:List CK} {vs:List Value},Fit (a++b) vs->Fit a (vs.take a.length)/\Fit b (vs.drop a.length)
 | [],b,vs,h=>⟨by simp [Fit],by simpa using h⟩
 |c::a,b,[],h=>h.elim
 |c::a,b,v::vs,h=>by
  obtain ⟨h1,h2⟩:=Fit.split (a:=a) (b:=b) h.2;exact ⟨⟨h.1,h1⟩,h2⟩
abbrev CKs:=List (CK × Nat)
def expand:CKs->List CK
 | []=>[]
 |(c,n)::r=>List.replicate n c++expand r
theorem expand_append:∀ a b:CKs,expand (a++b)=expand a++expand b
 | [],b=>rfl
 |(c,n)::a,b=>by simp [expand,expand_append a b]
def arrCK (n:Nat):CKs->CKs
 | [(c,m)]=>[(c,n*m)]
 |l=>(List.replicate n l).flatten
theorem expand_flat (l:CKs):∀ n,expand (List.replicate n l).flatten=(List.replicate n (expand l)).flatten
 | 0=>rfl
 |n+1=>by simp [List.replicate_succ,expand_append,expand_flat l n]
theorem expand_arr (n:Nat) (l:CKs):expand (arrCK n l)=(List.replicate n (expand l)).flatten:=by
 unfold arrCK;split
 ·simp [expand]
 ·exact expand_flat l n
def kindsF (f:TypeId->Option CKs):List Field->Nat->Option CKs
 | [],_=>some []
 |x::r,o=>match f x.type with
  | some a=>if !(x.name == "_") && Nat.beq x.offset o then (match kindsF f r (o + (expand a).length) with | some b=>some (a ++ b) | none=>none) else none
  |none=>none
def kindsT (P:Program):Nat->TypeId->Option CKs
 | 0,_=>none
 |d+1,T=>match P.underlying T,P.info? T with
  |some .bool,some _=>some [(.b,1)]
  |some (.int k),some _=>some [(.i k,1)]
  |some .string,some _=>some [(.s,1)]
  |some (.struct fs),some i=>if P.stoodInHeld T then none else (match kindsF (kindsT P d) fs.toList 0 with |some ks=>if Nat.beq i.size (expand ks).length then some ks else none |none=>none)
  |some (.array n e),some i=>(match kindsT P d e,P.info? e with |some ks,some j=>if Nat.beq j.size (expand ks).length&&Nat.beq i.size (expand (arrCK n ks)).length then some (arrCK n ks) else none |_,_=>none)
  |_,_=>none
def ValOf (P:Program) (T:TypeId) (vs:List Value) (v:Value):Prop:=
 match P.underlying T with
 |some (.struct _) |some (.array _ _)=>v = .agg vs.toArray
 |_=>vs=[v]
theorem kindsT_size {P:Program} {d:Nat} {T:TypeId} {ks:CKs} (h:kindsT P d T=some ks):∃ D i,P.underlying T=some D/\P.info? T=some i/\((∃ fs,D = .struct fs) ∨ (∃ n e,D = .array n e)->i.size=(expand ks).length)/\(D = .bool ∨ (∃ k,D = .int k) ∨ D = .string->(expand ks).length=1)/\(D = .bool ∨ (∃ k,D = .int k) ∨ D = .string ∨ (∃ fs,D = .struct fs) ∨ (∃ n e,D = .array n e)):=by
 cases d with
 |zero=>cases h
 |succ d=>
  simp only [kindsT] at h
  split at h
  ·rename_i i h1 h2;obtain rfl:=by simpa using h
   exact ⟨_,i,h1,h2,(by rintro (⟨_,hh⟩ |⟨_,_,hh⟩)<;>cases hh),fun _=>rfl,.inl rfl⟩
  ·rename_i k i h1 h2;obtain rfl:=by simpa using h
   exact ⟨_,i,h1,h2,(by rintro (⟨_,hh⟩ |⟨_,_,hh⟩)<;>cases hh),fun _=>rfl,.inr (.inl ⟨_,rfl⟩)⟩
  ·rename_i i h1 h2;obtain rfl:=by simpa using h
   exact ⟨_,i,h1,h2,(by rintro (⟨_,hh⟩ |⟨_,_,hh⟩)<;>cases hh),fun _=>rfl,.inr (.inr (.inl rfl))⟩
  ·rename_i fs i h1 h2
   split at h
   ·cases h
   ·split at h
    ·split at h
     ·rename_i hb;obtain rfl:=by simpa using h
      exact ⟨_,i,h1,h2,fun _=>Nat.eq_of_beq_eq_true hb,(by rintro (hh |⟨_,hh⟩ |hh)<;>cases hh),.inr (.inr (.inr (.inl ⟨_,rfl⟩)))⟩
     ·cases h
    ·cases h
  ·rename_i n e i h1 h2
   split at h
   ·split at h
    ·rename_i hb;obtain rfl:=by simpa using h
     rw [Bool.and_eq_true] at hb;exact ⟨_,i,h1,h2,fun _=>Nat.eq_of_beq_eq_true hb.2,(by rintro (hh |⟨_,hh⟩ |hh)<;>cases hh),.inr (.inr (.inr (.inr ⟨_,_,rfl⟩)))⟩
    ·cases h
   ·cases h
  ·cases h
theorem part_of {P:Program} {d:Nat} {T:TypeId} {ks:CKs} (h:kindsT P d T=some ks) {cs:List Value} {o:Nat} (hl:o+(expand ks).length<=cs.length) (w:World) :
 ∃ v,(part T cs.toArray o).run P w = .ok v w/\ValOf P T ((cs.drop o).take (expand ks).length) v:=by
 obtain ⟨D,i,h1,h2,h3,h4,h5⟩:=kindsT_size h
 rcases h5 with rfl |⟨k,rfl⟩ |rfl |⟨fs,rfl⟩ |⟨n,e,rfl⟩
 ·have hlen:=h4 (.inl rfl);rw [hlen] at hl ⊢;obtain ⟨v,hv⟩:∃ v,cs[o]? = some v:=⟨_,List.getElem?_eq_getElem (by omega)⟩;refine ⟨v,?_,?_⟩
  ·simp [part,isAgg,run_underlying h1,hv]
  ·simp only [ValOf,h1];rw [List.getElem?_eq_some_iff] at hv;obtain ⟨hv1,rfl⟩:=hv;rw [List.drop_eq_getElem_cons hv1];rfl
 ·have hlen:=h4 (.inr (.inl ⟨_,rfl⟩));rw [hlen] at hl ⊢;obtain ⟨v,hv⟩:∃ v,cs[o]? = some v:=⟨_,List.getElem?_eq_getElem (by omega)⟩;refine ⟨v,?_,?_⟩
  ·simp [part,isAgg,run_underlying h1,hv]
  ·simp only [ValOf,h1];rw [List.getElem?_eq_some_iff] at hv;obtain ⟨hv1,rfl⟩:=hv;rw [List.drop_eq_getElem_cons hv1];rfl
 ·have hlen:=h4 (.inr (.inr rfl));rw [hlen] at hl ⊢;obtain ⟨v,hv⟩:∃ v,cs[o]? = some v:=⟨_,List.getElem?_eq_getElem (by omega)⟩;refine ⟨v,?_,?_⟩
  ·simp [part,isAgg,run_underlying h1,hv]
  ·simp only [ValOf,h1];rw [List.getElem?_eq_some_iff] at hv;obtain ⟨hv1,rfl⟩:=hv;rw [List.drop_eq_getElem_cons hv1];rfl
 ·have hs:=h3 (.inl ⟨_,rfl⟩);refine ⟨.agg ((cs.drop o).take (expand ks).length).toArray,?_,by simp only [ValOf,h1]⟩;have:(sizeOf T).run P w = .ok i.size w:=by simp [sizeOf,typeInfo,h2]
  simp [part,isAgg,run_underlying h1,this,hs]
 ·have hs:=h3 (.inr ⟨_,_,rfl⟩);refine ⟨.agg ((cs.drop o).take (expand ks).length).toArray,?_,by simp only [ValOf,h1]⟩;have:(sizeOf T).run P w = .ok i.size w:=by simp [sizeOf,typeInfo,h2]
  simp [part,isAgg,run_underlying h1,this,hs]
def EqAt (P:Program) (f:TypeId->Option CKs) (e:Nat):Prop:=∀ T ks,f T=some ks->∀ (xs ys:List Value) (x y:Value),ValOf P T xs x->ValOf P T ys y->Fit (expand ks) xs->Fit (expand ks) ys->∀ w,∃ r,(Op.equalIn e T x y).run P w = .ok r w/\(r=true↔xs=ys)
theorem cut_eq {α:Type _} {a b:List α} (n:Nat):a=b↔a.take n=b.take n/\a.drop n=b.drop n:=
 ⟨fun h=>by rw [h];exact ⟨rfl,rfl⟩,fun h=>by rw [<- List.take_append_drop n a,<- List.take_append_drop n b,h.1,h.2]⟩
theorem Fit.part {a b:List CK} {xs:List Value} {o:Nat} (h:Fit (a++b) (xs.drop o)):o+a.length<=xs.length ∨ a.length=0:=by
 have:=h.len;simp only [List.length_drop,List.length_append] at this;omega
theorem eqF_run {P:Program} {d e:Nat} (ih:EqAt P (kindsT P d) e):∀ (fs:List Field) (o:Nat) (ks:CKs),kindsF (kindsT P d) fs o=some ks->∀ xs ys:List Value,o<=xs.length->o<=ys.length->Fit (expand ks) (xs.drop o)->Fit (expand ks) (ys.drop o)->∀ w,∃ r,(Op.eqFields e xs.toArray ys.toArray fs).run P w = .ok r w/\(r=true↔xs.drop o=ys.drop o)
 | [],o,ks,h,xs,ys,hx,hy,f1,f2,w=>by
   simp only [kindsF,Option.some.injEq] at h;subst h;have l1:=f1.len;have l2:=f2.len;refine ⟨true,rfl,?_⟩;simp only [expand,List.length_nil,List.length_eq_zero_iff] at l1 l2;simp [l1,l2]
 |x::fs,o,ks,h,xs,ys,hx,hy,f1,f2,w=>by
  simp only [kindsF] at h
  split at h
  ·rename_i a ha
   split at h
   ·rename_i hn;simp only [Bool.and_eq_true,Bool.not_eq_true',beq_eq_false_iff_ne,ne_eq] at hn;have ho:=Nat.eq_of_beq_eq_true hn.2
    split at h
    ·rename_i b hb;obtain rfl:=by simpa using h
     rw [expand_append] at f1 f2;have q1:=f1.len;have q2:=f2.len;simp only [List.length_drop,List.length_append] at q1 q2;obtain ⟨p1,p2⟩:=f1.split;obtain ⟨p3,p4⟩:=f2.split;rw [List.drop_drop] at p2 p4;obtain ⟨u,hu,hu2⟩:=part_of ha (cs:=xs) (o:=o) (by omega) w;obtain ⟨v,hv,hv2⟩:=part_of ha (cs:=ys) (o:=o) (by omega) w;obtain ⟨r,hr,hr2⟩:=ih _ _ ha _ _ _ _ hu2 hv2 p1 p3 w;obtain ⟨r',hr',hr2'⟩:=eqF_run ih fs _ _ hb xs ys (by omega) (by omega) p2 p4 w;rw [cut_eq (a:=xs.drop o) (expand a).length,List.drop_drop,List.drop_drop,<- hr2,<- hr2']
     cases r with
     |false=>exact ⟨false,by simp [Op.eqFields,hn.1,ho,hu,hv,hr],by simp⟩
     |true=>exact ⟨r',by simp [Op.eqFields,hn.1,ho,hu,hv,hr,hr'],by simp⟩
    ·cases h
   ·cases h
  ·cases h
theorem eqI_run {P:Program} {d e:Nat} {T:TypeId} {ks:CKs} {sz:Nat} (ih:EqAt P (kindsT P d) e) (hk:kindsT P d T=some ks) (hsz:sz=(expand ks).length):∀ (m j:Nat) (xs ys:List Value),j*sz<=xs.length->j*sz<=ys.length->Fit (List.replicate m (expand ks)).flatten (xs.drop (j*sz))->Fit (List.replicate m (expand ks)).flatten (ys.drop (j*sz))->∀ w,∃ r,(Op.eqItems e T sz xs.toArray ys.toArray (List.range' j m)).run P w = .ok r w/\(r=true↔xs.drop (j*sz)=ys.drop (j*sz))
 | 0,j,xs,ys,hx,hy,f1,f2,w=>by
   have l1:=f1.len;have l2:=f2.len;refine ⟨true,rfl,?_⟩;simp only [List.replicate_zero,List.flatten_nil,List.length_nil,List.length_eq_zero_iff] at l1 l2;simp [l1,l2]
 |m+1,j,xs,ys,hx,hy,f1,f2,w=>by
  rw [List.replicate_succ,List.flatten_cons] at f1 f2;have q1:=f1.len;have q2:=f2.len;simp only [List.length_drop,List.length_append] at q1 q2;obtain ⟨p1,p2⟩:=f1.split;obtain ⟨p3,p4⟩:=f2.split;have hjs:j*sz+(expand ks).length=(j+1)*sz:=by rw [Nat.add_mul,hsz];omega
  rw [List.drop_drop,hjs] at p2 p4;obtain ⟨u,hu,hu2⟩:=part_of hk (cs:=xs) (o:=j*sz) (by omega) w;obtain ⟨v,hv,hv2⟩:=part_of hk (cs:=ys) (o:=j*sz) (by omega) w;obtain ⟨r,hr,hr2⟩:=ih _ _ hk _ _ _ _ hu2 hv2 p1 p3 w;obtain ⟨r',hr',hr2'⟩:=eqI_run ih hk hsz m (j+1) xs ys (by omega) (by omega) p2 p4 w;rw [cut_eq (a:=xs.drop (j*sz)) (expand ks).length,List.drop_drop,List.drop_drop,hjs,<- hr2,<- hr2',List.range'_succ]
  cases r with
  |false=>exact ⟨false,by simp [Op.eqItems,hu,hv,hr],by simp⟩
  |true=>exact ⟨r',by simp [Op.eqItems,hu,hv,hr,hr'],by simp⟩
theorem eqAt {P:Program}:∀ d k,EqAt P (kindsT P d) (d+k)
 | 0,k=>fun T ks h=>by cases h
 |d+1,k=>by
  intro T ks h xs ys x y hx hy f1 f2 w;have ih:=eqAt (P:=P) d k;rw [show d+1+k=(d+k)+1 by omega];simp only [kindsT] at h
  split at h
  ·rename_i i h1 h2;obtain rfl:=by simpa using h
   simp only [ValOf,h1] at hx hy;subst hx hy;obtain ⟨a,rfl⟩:=f1.1;obtain ⟨b,rfl⟩:=f2.1;exact ⟨a==b,run_equalIn_bool w _ _ _ _ h1,by simp⟩
  ·rename_i q i h1 h2;obtain rfl:=by simpa using h
   simp only [ValOf,h1] at hx hy;subst hx hy;obtain ⟨a,rfl⟩:=f1.1;obtain ⟨b,rfl⟩:=f2.1;exact ⟨a==b,run_equalIn_int w _ _ _ _ _ _ h1,by simp⟩
  ·rename_i i h1 h2;obtain rfl:=by simpa using h
   simp only [ValOf,h1] at hx hy;subst hx hy;obtain ⟨a,rfl⟩:=f1.1;obtain ⟨b,rfl⟩:=f2.1;have hb:(a==b)=true↔a=b:=by
    refine ⟨fun h=>?_,fun h=>by rw [h];exact (show (b.data==b.data)=true from beq_self_eq_true _)⟩;exact ByteArray.ext (eq_of_beq (show (a.data==b.data)=true from h))
   refine ⟨a==b,?_,by simpa using hb⟩;simp only [Op.equalIn,Sem.run_bind,run_underlying h1,Result.andThen_ok];rfl
  ·rename_i fs i h1 h2
   split at h
   ·cases h
   ·rename_i hst
    split at h
    ·rename_i l hl
     split at h
     ·obtain rfl:=by simpa using h
      simp only [ValOf,h1] at hx hy;subst hx hy;have hf:P.fieldsOf T=fs:=by simp [Program.fieldsOf,h1]
      have:=eqF_run ih fs.toList 0 l hl xs ys (Nat.zero_le _) (Nat.zero_le _) (by simpa using f1) (by simpa using f2) w;rw [run_equalIn_struct w _ _ _ _ (by rw [hf];exact h1) (by simpa using hst),hf]
      simpa using this
     ·cases h
    ·cases h
  ·rename_i n e i h1 h2
   split at h
   ·rename_i l j hl hj
    split at h
    ·rename_i hb;rw [Bool.and_eq_true] at hb;obtain rfl:=by simpa using h
     simp only [ValOf,h1] at hx hy;subst hx hy;rw [expand_arr] at f1 f2;have hc:P.cellsOf e=(expand l).length:=by simp [Program.cellsOf,hj,Nat.eq_of_beq_eq_true hb.1]
     rw [run_equalIn_array w _ _ _ h1 hj,List.range_eq_range'];have:=eqI_run ih hl hc n 0 xs ys (by omega) (by omega) (by simpa using f1) (by simpa using f2) w
     simpa using this
    ·cases h
   ·cases h
  ·cases h
end Go.Proofs.YtplejbgafjpomaaGreatDoor.Sx
