import Derived.Test.YtplejbgafjpomaaGreatDoorZb11
import Derived.Test.YtplejbgafjpomaaGreatDoorZb12
set_option linter.unusedVariables false
set_option linter.unusedSimpArgs false
namespace Go.Proofs.YtplejbgafjpomaaGreatDoor.Sx
open Go.RowKit
theorem crel_in {ρ ρ':Map} {g:List Nat} (ha:∀ id,nin id g=true -> ρ' id=ρ id /\ ρ'.cap id=ρ.cap id) {x:SC} (hz:ρ'.fz=ρ.fz ∨ plainC x=true) (hx:scIn g x=true) {v:Value} (h:CRel ρ x v):CRel ρ' x v:=by
 have hat:∀ id,nin id g=true->∀ o,ρ'.at id o=ρ.at id o:=fun id hi o=>by simp [Map.at,Map.blk,Map.off,(ha id hi).1]
 have hbl:∀ id,nin id g=true -> ρ'.blk id=ρ.blk id:=fun id hi=>by simp [Map.blk,(ha id hi).1]
 cases x with
 |ptr id o=>obtain ⟨h0,rfl⟩:=h;exact ⟨by rw [(ha id hx).1];exact h0,by rw [hat id hx]⟩
 |slice id o n=>
  obtain ⟨A,c,rfl,hc,hA⟩:=h;exact ⟨A,c,rfl,hc,by rw [(ha id hx).1,hat id hx];exact hA⟩
 |osl e id lo n=>
  obtain ⟨A,c,rfl,hc,hA⟩:=h;exact ⟨A,c,rfl,hc,by rw [(ha id hx).1,(ha id hx).2,hbl id hx];exact hA⟩
 |optr e id i j=>obtain ⟨h0,rfl⟩:=h;exact ⟨by rw [(ha id hx).1];exact h0,by rw [hbl id hx]⟩
 |bm g id=>obtain ⟨h0,rfl⟩:=h;exact ⟨by rw [(ha id hx).1];exact h0,by rw [hat id hx]⟩
 |rows e d=>
  rcases hz with hz |hz
  ·show TRel ρ'.fz _ _ _;rw [hz];exact h
  ·cases hz
 |fp e d i j=>
  rcases hz with hz |hz
  ·obtain ⟨b,o,rfl,hr⟩:=h;exact ⟨b,o,rfl,by rw [hz];exact hr⟩
  ·cases hz
 |fn ag e p ok=>
  rcases hz with hz |hz
  ·show ∃ z,FzLe z ρ'.fz/\_;rw [hz];exact h
  ·cases hz
 |int=>exact h
 |bool=>exact h
 |nils=>exact h
 |raw=>exact h
theorem segsIn_mem {g:List Nat}:∀ {l:List Seg},segsIn g l=true->∀ x∈cellsOf l,scIn g x=true
 | [],_,x,h=>by simp [cellsOf] at h
 | .c y::r,hp,x,h=>by
   simp only [segsIn,Bool.and_eq_true] at hp;rw [cellsOf_cons,List.mem_append] at h
   rcases h with h |h
   ·simp only [Seg.cells,List.mem_singleton] at h;subst h;exact hp.1
   ·exact segsIn_mem hp.2 x h
 | .ints k n f::r,hp,x,h=>by
   rw [cellsOf_cons,List.mem_append] at h
   rcases h with h |h
   ·simp only [Seg.cells,List.mem_map] at h;obtain ⟨o,_,rfl⟩:=h;rfl
   ·exact segsIn_mem (l:=r) hp x h
theorem plainS_mem:∀ {l:List Seg},plainS l=true->∀ x∈cellsOf l,plainC x=true
 | [],_,x,h=>by simp [cellsOf] at h
 | .c y::r,hp,x,h=>by
   simp only [plainS,Bool.and_eq_true] at hp;rw [cellsOf_cons,List.mem_append] at h
   rcases h with h |h
   ·simp only [Seg.cells,List.mem_singleton] at h;subst h;exact hp.1
   ·exact plainS_mem hp.2 x h
 | .ints k n f::r,hp,x,h=>by
   rw [cellsOf_cons,List.mem_append] at h
   rcases h with h |h
   ·simp only [Seg.cells,List.mem_map] at h;obtain ⟨o,_,rfl⟩:=h;rfl
   ·exact plainS_mem (l:=r) hp x h
theorem csrel_in {ρ ρ':Map} {g:List Nat} (ha:∀ id,nin id g=true -> ρ' id=ρ id /\ ρ'.cap id=ρ.cap id) {l:List Seg} (hz:ρ'.fz=ρ.fz ∨ plainS l=true) (hx:segsIn g l=true) {vs:List Value} (h:CsRel ρ (cellsOf l) vs):CsRel ρ' (cellsOf l) vs:=
 ⟨h.1,fun i x v h1 h2=>crel_in ha (hz.imp id fun hz=>plainS_mem hz x (List.mem_of_getElem? h1)) (segsIn_mem hx x (List.mem_of_getElem? h1)) (h.2 i x v h1 h2)⟩
theorem v1_in {ρ ρ':Map} {g:List Nat} (ha:∀ id,nin id g=true -> ρ' id=ρ id /\ ρ'.cap id=ρ.cap id) {x:V1} (hz:ρ'.fz=ρ.fz ∨ plainV x=true) (hx:v1In g x=true) {v:Value} (h:V1Rel ρ x v):V1Rel ρ' x v:=by
 cases x with
 |sc c=>exact crel_in ha hz hx h
 |agg l=>obtain ⟨cs,rfl,hc⟩:=h;exact ⟨cs,rfl,csrel_in ha hz hx hc⟩
theorem tup_in {ρ ρ':Map} {g:List Nat} (ha:∀ id,nin id g=true -> ρ' id=ρ id /\ ρ'.cap id=ρ.cap id):∀ {l:List V1} {vs:List Value},(ρ'.fz=ρ.fz ∨ l.all plainV=true)->l.all (v1In g)=true->TupRel ρ l vs->TupRel ρ' l vs
 | [],[],_,_,_=>trivial
 | [],_::_,_,_,h=>h.elim
 |_::_,[],_,_,h=>h.elim
 |x::l,v::vs,hz,hx,h=>by
  simp only [List.all_cons,Bool.and_eq_true] at hx hz;exact ⟨v1_in ha (hz.imp id And.left) hx.1 h.1,tup_in ha (hz.imp id And.right) hx.2 h.2⟩
theorem ur_in {ρ ρ':Map} {g:List Nat} (ha:∀ id,nin id g=true -> ρ' id=ρ id /\ ρ'.cap id=ρ.cap id) {x:SV} (hz:ρ'.fz=ρ.fz ∨ plainSV x=true) (hx:svIn g x=true) {v:Value} (h:UR ρ x v):UR ρ' x v:=by
 cases x with
 |one x=>exact v1_in ha hz hx h
 |tup l=>obtain ⟨vs,rfl,ht⟩:=h;exact ⟨vs,rfl,tup_in ha hz hx ht⟩
 |cond=>cases hx
 |junk=>cases hx
def Ent.newIn (g:List Nat):Ent->Bool
 | .own _ l=>segsIn g l
 | .row _ l=>segsIn g l
 | .orow _ _=>true
 |_=>false
def Ent.plain:Ent->Bool
 | .own _ l=>plainS l
 | .row _ l=>plainS l
 | .orow e _=>plainK (eks e)
 |_=>true
theorem newOK_spec {g:List Nat} {fr:Nat}:∀ {h:Heap},newOK g fr h=true->∀ id x,look h id=some x->x.isPl=true/\fr<=id/\id<fr+8/\x.newIn g=true
 | [],_,id,x,h=>by simp [look] at h
 |(i,e)::r,hk,id,x,h=>by
  simp only [look] at h
  cases e with
  |own T l=>
   simp only [newOK,Bool.and_eq_true] at hk
   split at h
   ·rename_i hj;obtain rfl:i=id:=by simpa using hj
    obtain rfl:=by simpa using h
    exact ⟨rfl,Nat.le_of_ble_eq_true hk.1.1.1,by simpa [Nat.blt_eq] using hk.1.1.2,hk.1.2⟩
   ·exact newOK_spec hk.2 id x h
  |row T l=>
   simp only [newOK,Bool.and_eq_true] at hk
   split at h
   ·rename_i hj;obtain rfl:i=id:=by simpa using hj
    obtain rfl:=by simpa using h
    exact ⟨rfl,Nat.le_of_ble_eq_true hk.1.1.1,by simpa [Nat.blt_eq] using hk.1.1.2,hk.1.2⟩
   ·exact newOK_spec hk.2 id x h
  |orow e d=>
   simp only [newOK,Bool.and_eq_true] at hk
   split at h
   ·rename_i hj;obtain rfl:i=id:=by simpa using hj
    obtain rfl:=by simpa using h
    exact ⟨rfl,Nat.le_of_ble_eq_true hk.1.1,by simpa [Nat.blt_eq] using hk.1.2,rfl⟩
   ·exact newOK_spec hk.2 id x h
  |ro l=>cases hk
  |gone=>cases hk
  |nrow=>cases hk
theorem plainH_spec:∀ {h:Heap},plainH h=true->∀ id x,look h id=some x->x.plain=true
 | [],_,id,x,h=>by simp [look] at h
 |(i,e)::r,hk,id,x,h=>by
  simp only [look] at h
  split at h
  ·obtain rfl:=by simpa using h
   cases e<;>first |rfl |(simp only [plainH,Bool.and_eq_true] at hk;exact hk.1)
  ·refine plainH_spec (h:=r) ?_ id x h
   cases e<;>first |exact hk |(simp only [plainH,Bool.and_eq_true] at hk;exact hk.2)
theorem nin_keys {h:Heap} {id:Nat}:nin id (keys h)=true↔(look h id).isSome=true:=by
 induction h with
 |nil=>simp [nin,keys,look]
 |cons p r ih=>
  obtain ⟨j,x⟩:=p;simp only [keys,List.map_cons,nin,List.any_cons,Bool.or_eq_true,look]
  by_cases hj:j=id
  ·subst hj;simp
  ·have h1:(j==id)=false:=by simpa using hj
   have h2:Nat.beq id j=false:=by
    cases hb:Nat.beq id j with
    |false=>rfl
    |true=>exact absurd (Nat.eq_of_beq_eq_true hb).symm hj
   rw [h1,h2]
   simpa [nin,keys] using ih
theorem trel_plain {fz fz':Fz} {k:K} (hk:plainK [k]=true) {d:D} {v:Value} (h:TRel fz k d v):TRel fz' k d v:=by
 cases h with
 |int k d=>exact .int k d
 |bool d=>exact .bool d
 |str d=>exact .str d
 |nil e d h=>cases hk
 |empty=>cases hk
 |slice=>cases hk
theorem plainK_get:∀ {l:List K},plainK l=true->∀ (j:Nat) k,l[j]? = some k->plainK [k]=true
 | [],_,j,k,h=>by simp at h
 |a::r,hp,j,k,h=>by
  cases j with
  |zero=>
   simp only [List.getElem?_cons_zero,Option.some.injEq] at h;subst h
   cases a<;>first |rfl |(cases hp)
  |succ j=>
   refine plainK_get (l:=r) ?_ j k (by simpa using h)
   cases a<;>first |exact hp |(cases hp)
theorem rowAt_plain {ρ ρ':Map} {w:World} {b c:Nat} {e:TypeId} {d:D} (hz:ρ'.fz=ρ.fz ∨ plainK (eks e)=true) (h:RowAt ρ w b c e d):RowAt ρ' w b c e d:=by
 obtain ⟨cs,h1,h2,h3,h4⟩:=h;refine ⟨cs,h1,h2,h3,fun i j k hi hk=>?_⟩;obtain ⟨u,hu,ht⟩:=h4 i j k hi hk;refine ⟨u,hu,?_⟩
 rcases hz with hz |hz
 ·rw [hz];exact ht
 ·exact trel_plain (plainK_get hz j k hk) ht
theorem erel_in {B B':Nat} {ρ ρ':Map} {g:List Nat} (ha:∀ id,nin id g=true -> ρ' id=ρ id /\ ρ'.cap id=ρ.cap id) {w:World} {id:Nat} {x:Ent} (hid:nin id g=true) (hz:ρ'.fz=ρ.fz ∨ x.plain=true) (hs:x.newIn g=true) (hm:(ρ id).isSome=true->Mine B' ρ' (ρ.blk id)) (h:ERel B ρ w id x):ERel B' ρ' w id x:=by
 have hb:ρ'.blk id=ρ.blk id:=by simp [Map.blk,(ha id hid).1]
 have hf:ρ'.off id=ρ.off id:=by simp [Map.off,(ha id hid).1]
 cases x with
 |own T m=>
  obtain ⟨a,b,c,vs,d,e⟩:=h;exact ⟨by rw [(ha id hid).1];exact a,by rw [hf];exact b,by rw [hb];exact hm a,vs,csrel_in ha hz hs d,by rw [hb];exact e⟩
 |row T m=>
  obtain ⟨a,b,c,vs,r,d,e⟩:=h;exact ⟨by rw [(ha id hid).1];exact a,by rw [hf];exact b,by rw [hb];exact hm a,vs,r,csrel_in ha hz hs d,by rw [hb];exact e⟩
 |orow e d=>
  rcases h with ⟨a,b⟩ |⟨a,b,c,r⟩
  ·exact .inl ⟨by rw [(ha id hid).1];exact a,b⟩
  ·exact .inr ⟨by rw [(ha id hid).1];exact a,by rw [hf];exact b,by rw [hb];exact hm a,by rw [hb,(ha id hid).2];exact rowAt_plain hz r⟩
 |ro m=>cases hs
 |gone=>cases hs
 |nrow=>cases hs
section
variable {hp:Heap} {w0:W0} {w:World} {ρ:Map} {all:List Nat}
theorem frzC_spec (hw:WH w0 ρ hp w) {x y:SC} {fs:List Prop} {ids:List Nat} {x':SC} (h:frzC hp x y=(x',fs,ids)) (hp':All fs) (hall:∀ id∈ids,ownId hp id=true->id∈all) {v:Value} (hv:CRel ρ x v):CRel (ρ.frz w all) x' v:=by
 have ext:Ext ρ (ρ.frz w all):=(fr_freeze (B:=0) hw.froz all .junk []).ext;unfold frzC at h
 split at h
 ·rename_i e id lo n e' d
  split at h
  ·rename_i d' ps hc;simp only [Prod.mk.injEq] at h;obtain ⟨rfl,rfl,rfl⟩:=h;exact conE_rel hc hp' hw hv (fun i hi ho=>hall i (by simpa [idsC] using hi) ho)
  ·simp only [Prod.mk.injEq] at h;obtain ⟨rfl,rfl,rfl⟩:=h;exact crel_ext ext hv
 ·simp only [Prod.mk.injEq] at h;obtain ⟨rfl,rfl,rfl⟩:=h;exact crel_ext ext hv
theorem frzS_spec (hw:WH w0 ρ hp w):∀ (x y:List Seg) {fs:List Prop} {ids:List Nat} {x':List Seg},frzS hp x y=(x',fs,ids)->All fs->(∀ id∈ids,ownId hp id=true->id∈all)->∀ {vs:List Value},CsRel ρ (cellsOf x) vs->CsRel (ρ.frz w all) (cellsOf x') vs
 | .c x::r,.c y::s,fs,ids,x',h,hp',hall,vs,hv=>by
   simp only [frzS,Prod.mk.injEq] at h;obtain ⟨rfl,rfl,rfl⟩:=h;have h1:frzC hp x y=((frzC hp x y).1,(frzC hp x y).2.1,(frzC hp x y).2.2):=rfl;have h2:frzS hp r s=((frzS hp r s).1,(frzS hp r s).2.1,(frzS hp r s).2.2):=rfl;obtain ⟨hp1,hp2⟩:=all_append.1 hp';rw [cellsOf_cons] at hv ⊢;obtain ⟨u,v,rfl,g1,g2⟩:=csrel_cons.1 hv;refine csrel_cons.2 ⟨u,v,rfl,⟨g1.1,fun i a b ha hb=>?_⟩,frzS_spec hw r s h2 hp2 (fun id hi=>hall id (List.mem_append_right _ hi)) g2⟩
   cases i with
   |zero=>
    simp only [Seg.cells,List.getElem?_cons_zero,Option.some.injEq] at ha;subst ha;exact frzC_spec hw h1 hp1 (fun id hi=>hall id (List.mem_append_left _ hi)) (g1.2 0 x b (by simp [Seg.cells]) hb)
   |succ i=>simp [Seg.cells] at ha
 | .ints k n f::r,.ints _ _ _::s,fs,ids,x',h,hp',hall,vs,hv=>by
   simp only [frzS,Prod.mk.injEq] at h;obtain ⟨rfl,rfl,rfl⟩:=h;have h2:frzS hp r s=((frzS hp r s).1,(frzS hp r s).2.1,(frzS hp r s).2.2):=rfl;rw [cellsOf_cons] at hv ⊢;obtain ⟨u,v,rfl,g1,g2⟩:=csrel_cons.1 hv;exact csrel_cons.2 ⟨u,v,rfl,csrel_ext (fr_freeze (B:=0) hw.froz all .junk []).ext g1,frzS_spec hw r s h2 hp' hall g2⟩
 | [],y,fs,ids,x',h,hp',hall,vs,hv=>by
   simp only [frzS,Prod.mk.injEq] at h;obtain ⟨rfl,rfl,rfl⟩:=h;exact csrel_ext (fr_freeze (B:=0) hw.froz all .junk []).ext hv
 | .c x::r,[],fs,ids,x',h,hp',hall,vs,hv=>by
   simp only [frzS,Prod.mk.injEq] at h;obtain ⟨rfl,rfl,rfl⟩:=h;exact csrel_ext (fr_freeze (B:=0) hw.froz all .junk []).ext hv
 | .c x::r,.ints .. :: s,fs,ids,x',h,hp',hall,vs,hv=>by
   simp only [frzS,Prod.mk.injEq] at h;obtain ⟨rfl,rfl,rfl⟩:=h;exact csrel_ext (fr_freeze (B:=0) hw.froz all .junk []).ext hv
 | .ints .. :: r,[],fs,ids,x',h,hp',hall,vs,hv=>by
   simp only [frzS,Prod.mk.injEq] at h;obtain ⟨rfl,rfl,rfl⟩:=h;exact csrel_ext (fr_freeze (B:=0) hw.froz all .junk []).ext hv
 | .ints .. :: r,.c _::s,fs,ids,x',h,hp',hall,vs,hv=>by
   simp only [frzS,Prod.mk.injEq] at h;obtain ⟨rfl,rfl,rfl⟩:=h;exact csrel_ext (fr_freeze (B:=0) hw.froz all .junk []).ext hv
theorem frzV_spec (hw:WH w0 ρ hp w) {x y:V1} {fs:List Prop} {ids:List Nat} {x':V1} (h:frzV hp x y=(x',fs,ids)) (hp':All fs) (hall:∀ id∈ids,ownId hp id=true->id∈all) {v:Value} (hv:V1Rel ρ x v):V1Rel (ρ.frz w all) x' v:=by
 have ext:Ext ρ (ρ.frz w all):=(fr_freeze (B:=0) hw.froz all .junk []).ext;unfold frzV at h
 split at h
 ·rename_i x y;simp only [Prod.mk.injEq] at h;obtain ⟨rfl,rfl,rfl⟩:_/\_/\_:=⟨h.1,congrArg Prod.fst h.2,congrArg Prod.snd h.2⟩;exact frzC_spec hw (x:=x) (y:=y) rfl hp' hall hv
 ·rename_i a b;simp only [Prod.mk.injEq] at h;obtain ⟨rfl,rfl,rfl⟩:_/\_/\_:=⟨h.1,congrArg Prod.fst h.2,congrArg Prod.snd h.2⟩;have h1:frzS hp a b=((frzS hp a b).1,(frzS hp a b).2.1,(frzS hp a b).2.2):=rfl;obtain ⟨cs,rfl,hc⟩:=hv;exact ⟨cs,rfl,frzS_spec hw _ _ h1 hp' hall hc⟩
 ·simp only [Prod.mk.injEq] at h;obtain ⟨rfl,rfl,rfl⟩:=h;exact v1_ext ext hv
theorem frzT_spec (hw:WH w0 ρ hp w):∀ (x y:List V1) {fs:List Prop} {ids:List Nat} {x':List V1},frzT hp x y=(x',fs,ids)->All fs->(∀ id∈ids,ownId hp id=true->id∈all)->∀ {vs:List Value},TupRel ρ x vs->TupRel (ρ.frz w all) x' vs
 |x::r,y::s,fs,ids,x',h,hp',hall,vs,hv=>by
  simp only [frzT,Prod.mk.injEq] at h;obtain ⟨rfl,rfl,rfl⟩:=h;have h1:frzV hp x y=((frzV hp x y).1,(frzV hp x y).2.1,(frzV hp x y).2.2):=rfl;have h2:frzT hp r s=((frzT hp r s).1,(frzT hp r s).2.1,(frzT hp r s).2.2):=rfl;obtain ⟨hp1,hp2⟩:=all_append.1 hp'
  cases vs with
  |nil=>exact hv.elim
  |cons v vs=>exact ⟨frzV_spec hw h1 hp1 (fun id hi=>hall id (List.mem_append_left _ hi)) hv.1,frzT_spec hw r s h2 hp2 (fun id hi=>hall id (List.mem_append_right _ hi)) hv.2⟩
 | [],y,fs,ids,x',h,hp',hall,vs,hv=>by
   simp only [frzT,Prod.mk.injEq] at h;obtain ⟨rfl,rfl,rfl⟩:=h;exact tup_ext (fr_freeze (B:=0) hw.froz all .junk []).ext hv
 |x::r,[],fs,ids,x',h,hp',hall,vs,hv=>by
  simp only [frzT,Prod.mk.injEq] at h;obtain ⟨rfl,rfl,rfl⟩:=h;exact tup_ext (fr_freeze (B:=0) hw.froz all .junk []).ext hv
theorem frzSV_spec (hw:WH w0 ρ hp w) {x y:SV} {fs:List Prop} {ids:List Nat} {x':SV} (h:frzSV hp x y=(x',fs,ids)) (hp':All fs) (hall:∀ id∈ids,ownId hp id=true->id∈all) {v:Value} (hv:UR ρ x v):UR (ρ.frz w all) x' v:=by
 have ext:Ext ρ (ρ.frz w all):=(fr_freeze (B:=0) hw.froz all .junk []).ext;unfold frzSV at h
 split at h
 ·rename_i x y;simp only [Prod.mk.injEq] at h;obtain ⟨rfl,rfl,rfl⟩:_/\_/\_:=⟨h.1,congrArg Prod.fst h.2,congrArg Prod.snd h.2⟩;exact frzV_spec hw (x:=x) (y:=y) rfl hp' hall hv
 ·rename_i a b;simp only [Prod.mk.injEq] at h;obtain ⟨rfl,rfl,rfl⟩:_/\_/\_:=⟨h.1,congrArg Prod.fst h.2,congrArg Prod.snd h.2⟩;have h1:frzT hp a b=((frzT hp a b).1,(frzT hp a b).2.1,(frzT hp a b).2.2):=rfl;obtain ⟨vs,rfl,ht⟩:=hv;exact ⟨vs,rfl,frzT_spec hw _ _ h1 hp' hall ht⟩
 ·simp only [Prod.mk.injEq] at h;obtain ⟨rfl,rfl,rfl⟩:=h;exact ur_ext ext hv
end
def goneIds:Heap->List Nat
 | []=>[]
 |(i,.gone)::r=>i::goneIds r
 |_::r=>goneIds r
def markC (F:List Nat):SC->SC
 | .osl e id lo n=>if nin id F then .rows e (.l []) else .osl e id lo n
 |x=>x
def markS (F:List Nat):List Seg->List Seg
 | []=>[]
 | .c x::r=>.c (markC F x)::markS F r
 | .ints k n f::r=>.ints k n f::markS F r
def markV (F:List Nat):V1->V1
 | .sc x=>.sc (markC F x)
 | .agg l=>.agg (markS F l)
def markSV (F:List Nat):SV->SV
 | .one x=>.one (markV F x)
 |_=>.junk
def frzSl (F:List Nat) (hp:Heap):Slots->Slots × List Prop × List Nat
 | []=>([],[],[])
 |(t,x)::r=>(match frzSV hp x (markSV F x),frzSl F hp r with |(x',ps,is),(r',qs,js)=>((t,x')::r',ps++qs,is++js))
def frzEnt (F:List Nat) (hp:Heap):Ent->Ent × List Prop × List Nat
 | .own T l=>(match frzS hp l (markS F l) with |(l',ps,is)=>(.own T l',ps,is))
 |x=>(x,[],[])
def frzHp (F:List Nat) (hp:Heap):Heap->Heap × List Prop × List Nat
 | []=>([],[],[])
 |(i,e)::r=>(match frzEnt F hp e,frzHp F hp r with |(e',ps,is),(r',qs,js)=>((i,e')::r',ps++qs,is++js))
def frzSt (b:Bool) (F:List Nat) (s t:St):Prop:=
 match frzSl F s.hp s.tm,frzHp F s.hp s.hp with
 |(tm,ps,is),(h,qs,js)=>AllK ps (AllK qs (LeQ b {tm:=tm,hp:=kills (keepOwn s.hp (is++js))++h,nx:=s.nx} t))
def LFo (b:Bool) (s t:St):Prop:=match goneIds t.hp with
 | []=>LeQ b s t
 |F=>frzSt b F s t
def LFb (b:Bool) (s t:St):Prop:=match hasN s.hp with
 |true=>(match nCut s t with |some (ps,s')=>AllK ps (LFo b s' t) |none=>False)
 |false=>LFo b s t
def LF (s t:St):Prop:=LFb false s t
theorem frzSl_look {F:List Nat} {hp:Heap}:∀ {sl:Slots} {t:Nat} {x':SV},look (frzSl F hp sl).1 t=some x'->∃ x,look sl t=some x/\(frzSV hp x (markSV F x)).1=x'/\(∀ p∈(frzSV hp x (markSV F x)).2.1,p∈(frzSl F hp sl).2.1)/\∀ i∈(frzSV hp x (markSV F x)).2.2,i∈(frzSl F hp sl).2.2
 | [],t,x',h=>by simp [frzSl,look] at h
 |(u,x)::r,t,x',h=>by
  simp only [frzSl,look] at h ⊢
  split at h
  ·rename_i hu;rw [if_pos hu];exact ⟨x,rfl,by simpa using h,fun p hp=>List.mem_append_left _ hp,fun i hi=>List.mem_append_left _ hi⟩
  ·rename_i hu;rw [if_neg hu];obtain ⟨y,h1,h2,h3,h4⟩:=frzSl_look h;exact ⟨y,h1,h2,fun p hp=>List.mem_append_right _ (h3 p hp),fun i hi=>List.mem_append_right _ (h4 i hi)⟩
theorem frzHp_look {F:List Nat} {hp:Heap}:∀ {h:Heap} {t:Nat} {e':Ent},look (frzHp F hp h).1 t=some e'->∃ e,look h t=some e/\(frzEnt F hp e).1=e'/\(∀ p∈(frzEnt F hp e).2.1,p∈(frzHp F hp h).2.1)/\∀ i∈(frzEnt F hp e).2.2,i∈(frzHp F hp h).2.2
 | [],t,x',h=>by simp [frzHp,look] at h
 |(u,x)::r,t,x',h=>by
  simp only [frzHp,look] at h ⊢
  split at h
  ·rename_i hu;rw [if_pos hu];exact ⟨x,rfl,by simpa using h,fun p hp=>List.mem_append_left _ hp,fun i hi=>List.mem_append_left _ hi⟩
  ·rename_i hu;rw [if_neg hu];obtain ⟨y,h1,h2,h3,h4⟩:=frzHp_look h;exact ⟨y,h1,h2,fun p hp=>List.mem_append_right _ (h3 p hp),fun i hi=>List.mem_append_right _ (h4 i hi)⟩
theorem all_mem {l:List Prop}:All l ↔ ∀ p∈l,p:=by
 induction l with
 |nil=>simp [All]
 |cons q r ih=>simp only [All,ih,List.mem_cons,forall_eq_or_imp]
theorem frzEnt_own {F:List Nat} {hp:Heap} (e:Ent):(frzEnt F hp e).1.isOwn=e.isOwn:=by
 cases e<;>rfl
theorem look_app {α:Type} {a b:List (Nat × α)} {i:Nat}:look (a++b) i=match look a i with |some x=>some x |none=>look b i:=by
 induction a with
 |nil=>rfl
 |cons y r ih=>
  obtain ⟨j,x⟩:=y;simp only [List.cons_append,look];split
  ·rfl
  ·exact ih
theorem frz_spec {b:Bool} {F:List Nat} {s t:St} (h:frzSt b F s t) {w0:W0} (hb:w0.anc.isSome=true->b=true) {nt:Nat} {ρ:Map} {a:Act} {w:World} (hs:SH w0 nt s ρ a w):∃ ρ',SH w0 nt t ρ' a w:=by
 unfold frzSt at h;dsimp only at h;rw [allK_iff,allK_iff] at h;obtain ⟨hps,hqs,hle⟩:=h;generalize hall:keepOwn s.hp ((frzSl F s.hp s.tm).2.2++(frzHp F s.hp s.hp).2.2)=all at hle;have inAll:∀ i,i∈(frzSl F s.hp s.tm).2.2 ∨ i∈(frzHp F s.hp s.hp).2.2->ownId s.hp i=true->i∈all:=fun i hi ho=>by
  rw [<- hall];exact keepOwn_mem.2 ⟨List.mem_append.2 hi,ho⟩
 have hfr0:=fr_freeze (B:=w0.heap.size) hs.mem.froz all .junk [];have ext:Ext ρ (ρ.frz w all):=hfr0.ext;have mem1:WH w0 (ρ.frz w all) (kills all++s.hp) w:=by
  have:=wh_step hs.mem hfr0 (fun i x hx=>by rw [<- hall] at hx;exact stOK_kills i x hx) (fun _ _ h=>by simp [look] at h);exact this
 have lk:∀ i e',look (kills all++(frzHp F s.hp s.hp).1) i=some e'->e' = .gone ∨ ∃ e,look (kills all++s.hp) i=some e/\look s.hp i=some e/\(frzEnt F s.hp e).1=e'/\(∀ p∈(frzEnt F s.hp e).2.1,p∈(frzHp F s.hp s.hp).2.1)/\∀ i∈(frzEnt F s.hp e).2.2,i∈(frzHp F s.hp s.hp).2.2:=fun i e' hl=>by
  rw [look_app] at hl
  split at hl
  ·rename_i x hx
   left
   rw [<- Option.some.inj hl];exact (kills_look hx).1
  ·rename_i hx
   right
   obtain ⟨e,h1,h2,h3,h4⟩:=frzHp_look hl;exact ⟨e,by rw [look_app,hx];exact h1,h1,h2,h3,h4⟩
 have mem2:WH w0 (ρ.frz w all) (kills all++(frzHp F s.hp s.hp).1) w:=by
  refine ⟨mem1.below,fun i e' hl=>?_,fun i j x y hx hy ox oy=>?_,mem1.froz,mem1.sub,mem1.mu0,mem1.f00,mem1.old,mem1.anc,mem1.tab,?_⟩
  ·rcases lk i e' hl with rfl |⟨e,h1,h2,h3,h4,h5⟩
   ·trivial
   ·have g1:=mem1.ents i e h1;have g0:=hs.mem.ents i e h2
    cases e with
    |own T l=>
     obtain ⟨a1,a2,a3,vs,hc,hh⟩:=g1;obtain ⟨_,_,_,vs0,hc0,hh0⟩:=g0;have ev:vs=vs0:=by
      have e1:(ρ.frz w all).blk i=ρ.blk i:=rfl;rw [e1,hh0] at hh;have:=Option.some.inj hh
      injection this with e2
      exact (Array.toList_inj.2 e2.symm:vs.toArray.toList=vs0.toArray.toList)
     subst ev;have hf:=frzS_spec (all:=all) hs.mem l (markS F l) (x':=(frzS s.hp l (markS F l)).1) (fs:=(frzS s.hp l (markS F l)).2.1) (ids:=(frzS s.hp l (markS F l)).2.2) rfl (all_mem.2 fun p hp=>all_mem.1 hqs p (h4 p hp)) (fun id hi ho=>inAll id (.inr (h5 id hi)) ho) hc0;rw [<- h3];exact ⟨a1,a2,a3,vs,hf,hh⟩
    |row T l=>rw [<- h3];exact g1
    |orow e d=>rw [<- h3];exact g1
    |nrow c e d g=>rw [<- h3];exact g1
    |ro l=>rw [<- h3];exact g1
    |gone=>rw [<- h3];exact g1
  ·have own:∀ i e',look (kills all++(frzHp F s.hp s.hp).1) i=some e'->e'.isOwn=true->∃ e,look (kills all++s.hp) i=some e/\e.isOwn=true:=fun i e' hl ho=>by
    rcases lk i e' hl with rfl |⟨e,h1,_,h3,_⟩
    ·cases ho
    ·exact ⟨e,h1,by rw [<- frzEnt_own (F:=F) (hp:=s.hp) e,h3];exact ho⟩
   obtain ⟨x0,hx0,ox0⟩:=own i x hx ox;obtain ⟨y0,hy0,oy0⟩:=own j y hy oy;exact mem1.apart i j x0 y0 hx0 hy0 ox0 oy0
  ·intro id c e d g hl hi k b cap hk;have back:∀ i e',look (kills all++(frzHp F s.hp s.hp).1) i=some e'->e'.isOwn=true->∃ e,look (kills all++s.hp) i=some e/\e.isOwn=true/\∀ c e2 d g,e' = .nrow c e2 d g->e = .nrow c e2 d g:=fun i e' hl ho=>by
    rcases lk i e' hl with rfl |⟨e,h1,_,h3,_⟩
    ·cases ho
    ·refine ⟨e,h1,by rw [<- frzEnt_own (F:=F) (hp:=s.hp) e,h3];exact ho,fun c e2 d g hq=>?_⟩;subst hq
     cases e<;>simp [frzEnt] at h3 ⊢<;>exact h3
   obtain ⟨e0,h0,_,hN⟩:=back id _ hl rfl;have h0':=h0;rw [hN c e d g rfl] at h0';obtain ⟨c1,c2,c3,c4,c5⟩:=mem1.lin id c e d g h0' hi k b cap hk;refine ⟨c1,c2,c3,fun j f hj hjo hji=>?_,fun j c' e2 d' g' q cap' hj hji hjk=>?_⟩
   ·obtain ⟨e1,h1,o1,_⟩:=back j f hj hjo;exact c4 j e1 h1 o1 hji
   ·obtain ⟨e1,h1,_,hN1⟩:=back j _ hj rfl;rw [hN1 c' e2 d' g' rfl] at h1;exact c5 j c' e2 d' g' q cap' h1 hji hjk
 have slots:AH (ρ.frz w all) nt (frzSl F s.hp s.tm).1 a:=by
  refine ⟨hs.slots.size,hs.slots.defers,fun u x' hl=>?_⟩;obtain ⟨x,h1,h2,h3,h4⟩:=frzSl_look hl;have hv:=hs.slots.slots u x h1;have hq:=fun hu=>frzSV_spec (all:=all) hs.mem (x:=x) (y:=markSV F x) (x':=(frzSV s.hp x (markSV F x)).1) (fs:=(frzSV s.hp x (markSV F x)).2.1) (ids:=(frzSV s.hp x (markSV F x)).2.2) rfl (all_mem.2 fun p hp=>all_mem.1 hps p (h3 p hp)) (fun id hi ho=>inAll id (.inl (h4 id hi)) ho) (v:=a.tmps.getD u undef) hu
  rw [h2] at hq
  cases x with
  |one y=>
   have:=hq hv
   cases y with
   |sc c=>rw [<- h2] at this ⊢;exact this
   |agg l=>rw [<- h2] at this ⊢;exact this
  |tup l=>
   have e:(frzSV s.hp (.tup l) (markSV F (.tup l))).1 = .tup l:=rfl;rw [<- h2,e];exact vrel_ext ext hv
  |cond g y=>
   have e:(frzSV s.hp (.cond g y) (markSV F (.cond g y))).1 = .cond g y:=rfl;rw [<- h2,e];exact vrel_ext ext hv
  |junk=>rw [<- h2];trivial
 obtain ⟨δ,hl,hb2⟩:=leQ_spec hle;exact ⟨_,stLe_spec hl (fun h=>hb2 (hb h)) ⟨slots,mem2,hs.fresh⟩⟩
theorem lfo_spec {b:Bool} {w0:W0} (hb:w0.anc.isSome=true->b=true) {nt:Nat}:∀ s t,LFo b s t->∀ ρ a w,SH w0 nt s ρ a w->∃ ρ',SH w0 nt t ρ' a w:=fun s t h ρ a w hs=>by
 unfold LFo at h
 split at h
 ·obtain ⟨δ,hl,hb2⟩:=leQ_spec h;exact ⟨_,stLe_spec hl (fun h=>hb2 (hb h)) hs⟩
 ·exact frz_spec h hb hs
theorem lfb_spec {b:Bool} {w0:W0} (hb:w0.anc.isSome=true->b=true) {nt:Nat}:∀ s t,LFb b s t->∀ ρ a w,SH w0 nt s ρ a w->∃ ρ',SH w0 nt t ρ' a w:=fun s t h ρ a w hs=>by
 unfold LFb at h
 split at h
 ·split at h
  ·rename_i ps s' hc;rw [allK_iff] at h;obtain ⟨ρ1,h1⟩:=nCut_spec hc h.1 hs;exact lfo_spec hb s' t h.2 ρ1 a w h1
  ·exact h.elim
 ·exact lfo_spec hb s t h ρ a w hs
theorem lf_spec {w0:W0} (h0:w0.anc=none) {nt:Nat}:∀ s t,LF s t->∀ ρ a w,SH w0 nt s ρ a w->∃ ρ',SH w0 nt t ρ' a w:=lfb_spec (fun h=>by rw [h0] at h;cases h)
theorem resV_spec {P:Program} {tt:TT} (htt:TTOK P tt) {s:St} {r:ResultVar} {x:V1} {ps:List Prop} (h:resV tt s r=some (x,ps)) (hp:All ps) {w0:W0} {w:World} {nt:Nat} {ρ:Map} {a:Act} (hs:SH w0 nt s ρ a w) :
 ∃ v,((match r with | .tmp t=>pure (a.tmps.getD t undef) | .cell t T=>do loadVar T (<- asAddr (a.tmps.getD t undef))):Sem Value).run P w = .ok v w/\V1Rel ρ x v:=by
 cases r with
 |tmp t=>
  simp only [resV] at h
  split at h
  ·rename_i y hy;obtain ⟨rfl,rfl⟩:=by simpa using h
   exact ⟨_,rfl,hs.slots.slots t _ hy⟩
  ·cases h
 |cell t T=>
  simp only [resV] at h
  split at h
  ·rename_i c hl;obtain ⟨A,v,g0,h1,h2⟩:=ldV_spec htt h hp hs.mem (hs.slots.slots t _ hl);refine ⟨v,?_,h2⟩;simp only [g0,asAddr,Sem.run_bind,Sem.run_pure,Result.andThen_ok,h1]
  ·cases h
theorem resL_spec {P:Program} {tt:TT} (htt:TTOK P tt) {s:St} {w0:W0} {w:World} {nt:Nat} {ρ:Map} {a:Act} (hs:SH w0 nt s ρ a w):∀ (l:List ResultVar) (xs:List V1) (ps:List Prop),resL tt s l=some (xs,ps)->All ps ->
 ∃ vs:List Value,(l.mapM fun | .tmp t=>pure (a.tmps.getD t undef) | .cell t T=>do loadVar T (<- asAddr (a.tmps.getD t undef)):Sem (List Value)).run P w = .ok vs w/\TupRel ρ xs vs/\xs.length=vs.length
 | [],xs,ps,h,_=>by
   simp only [resL,Option.some.injEq,Prod.mk.injEq] at h;obtain ⟨rfl,rfl⟩:=h;exact ⟨[],rfl,trivial,rfl⟩
 |r::l,xs,ps,h,hp=>by
  simp only [resL] at h
  split at h
  ·rename_i x ps1 ys qs hx hr;simp only [Option.some.injEq,Prod.mk.injEq] at h;obtain ⟨rfl,rfl⟩:=h;obtain ⟨hp1,hp2⟩:=all_append.1 hp;obtain ⟨v,h1,h2⟩:=resV_spec htt hx hp1 hs;obtain ⟨vs,h3,h4,h5⟩:=resL_spec htt hs l ys qs hr hp2;refine ⟨v::vs,?_,⟨h2,h4⟩,by simp [h5]⟩;rw [List.mapM_cons,Sem.run_bind,h1];simp only [Result.andThen_ok,Sem.run_bind];rw [h3];rfl
  ·cases h
theorem resS_spec {P:Program} {tt:TT} (htt:TTOK P tt) {s:St} {w0:W0} {w:World} {nt:Nat} {ρ:Map} {a:Act} (hs:SH w0 nt s ρ a w) {fn:Func} {x:SV} {ps:List Prop} (h:resS tt s fn.results.toList=some (x,ps)) (hp:All ps) :
 ∃ v,(results fn a.tmps).run P w = .ok v w/\UR ρ x v:=by
 unfold resS at h;have key:∀ (xs:List V1) (qs:List Prop),resL tt s fn.results.toList=some (xs,qs)->All qs->∃ vs:List Value,(results fn a.tmps).run P w = .ok (if h:vs.toArray.size=1 then vs.toArray[0] else .tuple vs.toArray) w/\TupRel ρ xs vs/\xs.length=vs.length:=fun xs qs hx hq=>by
  obtain ⟨vs,h1,h2,h3⟩:=resL_spec htt hs _ xs qs hx hq;refine ⟨vs,?_,h2,h3⟩;unfold results;rw [<- Array.toArray_toList (xs:=fn.results),List.mapM_toArray,Sem.run_bind,Sem.run_map]
  erw [h1]
  rfl
 split at h
 ·rename_i y qs hx;obtain ⟨rfl,rfl⟩:=by simpa using h
  obtain ⟨vs,h1,h2,h3⟩:=key _ _ hx hp
  match vs,h3 with
  | [v],_=>exact ⟨v,by simpa using h1,h2.1⟩
 ·rename_i xs qs hne hx;obtain ⟨rfl,rfl⟩:=by simpa using h
  obtain ⟨vs,h1,h2,h3⟩:=key _ _ hx hp;have hl:¬ vs.toArray.size=1:=by
   intro e;have:xs.length=1:=by rw [h3];simpa using e
   match xs,this with
   | [y],_=>exact hne y rfl
  rw [dif_neg hl] at h1;exact ⟨_,h1,vs.toArray,rfl,h2⟩
 ·cases h
theorem slots0_look:∀ (l:List SV) (i t:Nat) x,look (slots0 l i) t=some x->i<=t/\l[t-i]? = some x
 | [],i,t,x,h=>by simp [slots0,look] at h
 |y::l,i,t,x,h=>by
  simp only [slots0,look] at h
  split at h
  ·rename_i hj;obtain rfl:i=t:=by simpa using hj
   obtain rfl:=by simpa using h
   simp
  ·rename_i hj;have hne:i≠t:=by intro e;subst e;simp at hj
   obtain ⟨h1,h2⟩:=slots0_look l (i+1) t x h;refine ⟨by omega,?_⟩;have e:t-i=(t-(i+1))+1:=by omega
   rw [e];simpa using h2
theorem args_get {ρ:Map}:∀ {l:List SV} {vs:List Value} {i:Nat} {x:SV},ArgsRel ρ l vs->l[i]? = some x->∃ v,vs[i]? = some v/\UR ρ x v
 | [],_,i,x,_,h=>by simp at h
 |_::_,[],_,_,h,_=>h.elim
 |y::l,v::vs,i,x,h,hi=>by
  cases i with
  |zero=>simp at hi;subst hi;exact ⟨v,rfl,h.1⟩
  |succ i=>simpa using args_get h.2 (by simpa using hi)
theorem args_len {ρ:Map}:∀ {l:List SV} {vs:List Value},ArgsRel ρ l vs->l.length=vs.length
 | [],[],_=>rfl
 | [],_::_,h=>h.elim
 |_::_,[],h=>h.elim
 |_::_,_::_,h=>by simp [args_len h.2]
theorem unP_len:∀ (aps:List AP) (ds:List Dat) (id:Nat) y h id',unP aps ds id=some (y,h,id')->y.length=aps.length
 | [],[],id,y,h,id',e=>by simp only [unP,Option.some.injEq,Prod.mk.injEq] at e;rw [<- e.1];rfl
 | [],_::_,_,_,_,_,e=>by simp [unP] at e
 | .sc a::l,[],_,_,_,_,e=>by simp [unP] at e
 | .sc a::l,d::ds,id,y,h,id',e=>by
   simp only [unP] at e
   split at e
   ·rename_i x h1 s h2 i2 _ hr;simp only [Option.some.injEq,Prod.mk.injEq] at e;rw [<- e.1];simp [unP_len l ds _ _ _ _ hr]
   ·cases e
 | .agg g::l,ds,id,y,h,id',e=>by
   simp only [unP] at e
   split at e
   ·rename_i x h1 ds' id1 hg
    split at e
    ·rename_i s h2 i2 hr;simp only [Option.some.injEq,Prod.mk.injEq] at e;rw [<- e.1];simp [unP_len l ds' _ _ _ _ hr]
    ·cases e
   ·cases e
 | .ptr g::l,ds,id,y,h,id',e=>by
   simp only [unP] at e
   split at e
   ·rename_i x h1 ds' id1 hg
    split at e
    ·rename_i s h2 i2 hr;simp only [Option.some.injEq,Prod.mk.injEq] at e;rw [<- e.1];simp [unP_len l ds' _ _ _ _ hr]
    ·cases e
   ·cases e
theorem fn_ok {P:Program} {tt:TT} (htt:TTOK P tt) (hm:P.follows .mixedOrders=true) {f:FuncId} {fn:Func} {c:Code} (hf:P.funcs[f]? = some fn) (hb:fn.body=some c) (hen:∀ (args:Array Value) (w:World),(callFunc f args).run P w = .ok (.enter f args) w)
 {A:List Dat->Ann} (hC:∀ ds id,CtxOK P ((A ds).C id)) {aps:List AP} {spec:FSpec} (hn:Nat.ble aps.length fn.ntmps=true)
 (H:∀ ds fr e svs h id,spec ds fr=some e->All e.vc->unP aps ds 0=some (svs,h,id)->sx tt fn.ntmps (A ds) LF c (retK tt fn.results.toList e fr) {tm:=slots0 svs 0,hp:=h,nx:=id}):ConOK P f (con aps spec):=by
 refine ⟨hen,?_,fun hp fr caps e h=>by rw [con_jf] at h;cases h⟩;intro hp fr args e0 h0 hvc w0 w ρ vs hw hfr hargs;unfold con at h0
 split at h0
 ·rename_i ds ps hds
  split at h0
  ·rename_i e he;obtain rfl:=by simpa using h0
   obtain ⟨hp1,hp2⟩:=all_append.1 hvc;have hidsAll:∀ i∈idsX hp args,ownId hp i=true->i∈keepOwn hp (idsX hp args):=fun i hi ho=>keepOwn_mem.2 ⟨hi,ho⟩
   obtain ⟨svs,h,ρ1,id,hun,_,hin,hrel⟩:=unP_spec hw aps args ds ps hds hp1 vs hargs hidsAll 0;have hsx:=H ds fr e svs h id he hp2 hun;have hlen:vs.length<=fn.ntmps:=by
    have h1:=unP_len aps ds 0 svs h id hun;have h2:=args_len hrel;have:=Nat.le_of_ble_eq_true hn;omega
   have hsz:(vs.toArray++Array.replicate (fn.ntmps-vs.toArray.size) undef).size=fn.ntmps:=by simp;omega
   have hwh:WH ⟨w,passF ρ w (keepOwn hp (idsX hp args)),fun _=>false,none⟩ ρ1 h w:=by
    refine ⟨BelowM.refl _ _ _,fun i x hx=>(hin.ents i x hx).1 _ _,fun i j x y hx _ ho=>?_,fun b cs hb=>?_,fun b cs hb=>?_,hin.hmu,hin.hf0,fun b cs hb=>.inl ?_,fun _ h=>(by cases h),hw.tabP _,lin_no fun i c e d g hl=>by have:=(hin.ents i _ hl).2.1;cases this⟩
    ·have:=(hin.ents i x hx).2.1;rw [this] at ho;cases ho
    ·rw [hin.hfz] at hb;exact passF_froz hw.froz hb
    ·rw [hin.hf0] at hb;rw [hin.hfz];exact hb
    ·rw [hin.hfz] at hb;rw [hin.hf0];exact hb
   refine calls_of_wp hf hb ?_
   refine sx_spec htt hm (hC ds) (w0:=⟨w,passF ρ w (keepOwn hp (idsX hp args)),fun _=>false,none⟩) (lf_spec rfl) c _ _ hsx _ ?_ ρ1 _ w ⟨⟨hsz,rfl,?_⟩,hwh,fun i hi=>hin.out i (.inr hi)⟩
   ·intro ex xx s' ρ' a w' hex hk hs';have done:retK tt fn.results.toList e fr .ret s'->a.defers=[]/\∃ v,(results fn a.tmps).run P w' = .ok v w'/\∃ ρ'' u,Ending.returned v = .returned u/\UR ρ'' e.val u/\Fr w0.heap.size ρ ρ'' w w' {e with vc:=ps++e.vc,st:=if plainE e then [] else kills (keepOwn hp (idsX hp args))}:=by
     intro hk;simp only [retK] at hk
     split at hk
     ·rename_i v qs hres;rw [allK_iff] at hk;obtain ⟨hq,hk⟩:=hk;generalize hfrz:frzSV s'.hp v e.val=fz3 at hk;obtain ⟨v',fs,ids⟩:=fz3;dsimp only at hk;rw [allK_iff] at hk;obtain ⟨hfs,hk⟩:=hk
      split at hk
      rename_i la lb hla hlb
      split at hk
      rename_i hok;obtain ⟨hk1,hk2⟩:=all_append.1 (conj_all hk);obtain ⟨u,hu1,hu2⟩:=resS_spec htt hs' hres hq;have hu2':=frzSV_spec hs'.mem hfrz hfs (fun i hi ho=>keepOwn_mem.2 ⟨hi,ho⟩) hu2;have hfr0:=fr_freeze (B:=w.heap.size) hs'.mem.froz (keepOwn s'.hp ids) .junk [];have hmem':WH ⟨w,passF ρ w (keepOwn hp (idsX hp args)),fun _=>false,none⟩ (ρ'.frz w' (keepOwn s'.hp ids)) (kills (keepOwn s'.hp ids)++s'.hp) w':=by
       have:=wh_step hs'.mem hfr0 (fun i x hx=>stOK_kills i x hx) (fun _ _ h=>by simp [look] at h);exact this
      have hs2:SH ⟨w,passF ρ w (keepOwn hp (idsX hp args)),fun _=>false,none⟩ 0 {tm:=[],hp:=kills (keepOwn s'.hp ids)++s'.hp,nx:=s'.nx} (ρ'.frz w' (keepOwn s'.hp ids)) {a with tmps:=#[]} w':=⟨⟨rfl,hs'.slots.defers,fun t x hx=>by simp [look] at hx⟩,hmem',hs'.fresh⟩;generalize hρ3:ρ'.frz w' (keepOwn s'.hp ids)=ρ3 at hu2' hmem' hs2;have hle:=svL_spec hla hk1;have hhe:=heapL_spec hlb hk2;generalize mHeap (kills (keepOwn s'.hp ids)++s'.hp) e.nw (mSV v' e.val)=δ at *;unfold endOK at hok;simp only [Bool.and_eq_true] at hok;obtain ⟨⟨hinj,hnew⟩,hsv⟩:=hok;have hnj:e.val ≠ .junk:=fun hj=>by rw [hj] at hsv;cases hsv
      have hu3:=ur_le hle hu2' hnj;have hw2:=(stLe_spec (δ:=δ) (t:={tm:=[],hp:=e.nw,nx:=fr+8}) ⟨trivial,hhe,hinj⟩ (fun h=>by cases h) hs2).mem;have hB:w0.heap.size<=w.heap.size:=hw.below.size;generalize hρr:ρ3.ren δ (fr+8)=ρr at hu3 hw2;have hmu:ρr.mu=fun _=>false:=by rw [<- hρr,<- hρ3];exact hs'.mem.mu0
      have hf0:ρr.f0=passF ρ w (keepOwn hp (idsX hp args)):=by rw [<- hρr,<- hρ3];exact hs'.mem.f00
      let ρ2:Map:={m:=fun i=>if nin i (keys e.nw) then ρr i else ρ i,cap:=fun i=>if nin i (keys e.nw) then ρr.cap i else ρ.cap i,fz:=if plainE e then ρ.fz else ρr.fz,f0:=ρ.f0,mu:=ρ.mu,kid:=ρ.kid}
      have ag:∀ i,nin i (keys e.nw)=true -> ρ2 i=ρr i /\ ρ2.cap i=ρr.cap i:=fun i hi=>⟨by simp only [ρ2];rw [if_pos hi],by simp only [ρ2];rw [if_pos hi]⟩
      have off:∀ i,nin i (keys e.nw)=false -> ρ2 i=ρ i:=fun i hi=>by simp only [ρ2];rw [if_neg (by rw [hi];simp)]
      have oldKey:∀ i,(ρ i).isSome=true->nin i (keys e.nw)=false:=fun i hi=>by
       cases hn:nin i (keys e.nw) with
       |false=>rfl
       |true=>
        obtain ⟨x,hx⟩:=Option.isSome_iff_exists.1 (nin_keys.1 hn);rw [hfr i x hx] at hi;cases hi
      have fzle:FzLe ρ.fz ρr.fz:=fun b cs hb=>hw2.sub b cs (by rw [hf0];exact passF_le _ _ _ b cs hb)
      have ownNew:∀ i x,look e.nw i=some x->(ρr i).isSome=true->w.heap.size<=ρr.blk i /\ ρr.fz (ρr.blk i)=none:=fun i x hx hi=>by
       obtain ⟨ho,_⟩:=newOK_spec hnew i x hx;obtain ⟨hM,_⟩:=erel_some (hw2.ents i x hx) (Ent.pl_own ho) hi;refine ⟨?_,hM.2⟩
       rcases hM.1 with h |h
       ·exact h
       ·rw [hmu] at h;cases h
      have blk2:∀ i,nin i (keys e.nw)=true -> ρ2.blk i=ρr.blk i:=fun i hi=>by simp [Map.blk,(ag i hi).1]
      have hzz:ρ2.fz=ρr.fz ∨ plainE e=true:=by
       cases hpl:plainE e with
       |true=>exact .inr rfl
       |false=>left;simp only [ρ2,hpl];rfl
      refine ⟨hs'.slots.defers,u,hu1,ρ2,u,rfl,ur_in ag (hzz.imp (fun h=>h) fun h=>by unfold plainE at h;exact (Bool.and_eq_true _ _ ▸ h).1) hsv hu3,?_⟩;refine ⟨⟨fun i p hi=>?_,fun i hi=>?_,?_,rfl,rfl⟩,fun i hi=>?_,⟨hs'.mem.below.os,hs'.mem.below.tape,hs'.mem.below.output,hs'.mem.below.size,fun k hk=>absurd hk (Nat.not_lt_zero k)⟩,fun b hb' _=>hs'.mem.below.block b hb' (by rw [hs'.mem.mu0]),fun i x hx=>?_,fun i x hx=>?_,fun i j x y hx hy hne hii hjj=>?_,fun b cs hb=>?_,rfl⟩
      ·rw [off i (oldKey i (by rw [hi];rfl))];exact hi
      ·have:=oldKey i hi;simp only [ρ2];rw [if_neg (by rw [this];simp)]
      ·simp only [ρ2];split
       ·exact fun _ _ h=>h
       ·exact fzle
      ·have hi':look e.nw i=none:=hi;refine off i ?_
       cases hn:nin i (keys e.nw) with
       |false=>rfl
       |true=>rw [nin_keys,hi'] at hn;cases hn
      ·have hx':look (if plainE e then [] else kills (keepOwn hp (idsX hp args))) i=some x:=hx
       split at hx'
       ·simp [look] at hx'
       ·rw [(kills_look hx').1];trivial
      ·have hx':look e.nw i=some x:=hx;obtain ⟨ho,_,_,hni⟩:=newOK_spec hnew i x hx';have hki:nin i (keys e.nw)=true:=nin_keys.2 (by rw [hx'];rfl);refine ⟨erel_in ag hki (hzz.imp (fun h=>h) fun h=>by unfold plainE at h;exact plainH_spec (Bool.and_eq_true _ _ ▸ h).2 i x hx') hni (fun hi=>?_) (hw2.ents i x hx'),fun hi=>.inl ?_,ho⟩
       ·obtain ⟨g1,g2⟩:=ownNew i x hx' hi;refine ⟨.inl (by omega),?_⟩;simp only [ρ2];split
        ·exact hw.froz.new g1
        ·exact g2
       ·rw [blk2 i hki];exact (ownNew i x hx' (by rw [<- (ag i hki).1];exact hi)).1
      ·have hx':look e.nw i=some x:=hx;have hy':look e.nw j=some y:=hy;have hki:nin i (keys e.nw)=true:=nin_keys.2 (by rw [hx'];rfl);have hkj:nin j (keys e.nw)=true:=nin_keys.2 (by rw [hy'];rfl);rw [blk2 i hki,blk2 j hkj];exact hw2.apart i j x y hx' hy' (Ent.pl_own (newOK_spec hnew i x hx').1) (Ent.pl_own (newOK_spec hnew j y hy').1) hne (by rw [<- (ag i hki).1];exact hii) (by rw [<- (ag j hkj).1];exact hjj)
      ·cases hpl:plainE e with
       |true=>
        left
        have:ρ2.fz b=some cs:=hb;simp only [ρ2,hpl] at this;exact this
       |false=>
        have hb2:ρr.fz b=some cs:=by
         have:ρ2.fz b=some cs:=hb;simp only [ρ2,hpl] at this;exact this
        have hnw:∀ i x,look e.nw i=some x->(ρ2 i).isSome=true -> ρ2.blk i≠b:=fun i x hx hi hbb=>by
         have hki:nin i (keys e.nw)=true:=nin_keys.2 (by rw [hx];rfl);obtain ⟨_,g2⟩:=ownNew i x hx (by rw [<- (ag i hki).1];exact hi);rw [<- blk2 i hki,hbb,hb2] at g2;cases g2
        rcases hw2.old b cs hb2 with h1 |h1 |h1
        ·rw [hf0] at h1
         rcases passF_some h1 with h2 |⟨⟨i,hi,hsi,hbi⟩,_⟩
         ·exact .inl h2
         ·exact .inr ⟨.inr ⟨i,by simp only [Bool.false_eq_true,↓reduceIte];exact kills_mem hi,hsi,hbi.symm⟩,hw2.froz b cs hb2,hnw⟩
        ·exact .inr ⟨.inl h1,hw2.froz b cs hb2,hnw⟩
        ·rw [hmu] at h1;cases h1
      ·exact hk.elim
      ·exact hk.elim
     ·exact hk.elim
    cases ex with
    |normal=>simp only [exOf,Option.some.injEq] at hex;subst hex;exact done hk
    |ret=>simp only [exOf,Option.some.injEq] at hex;subst hex;exact done hk
    |exit i=>simp only [exOf,Option.some.injEq] at hex;subst hex;exact hk.elim
    |goto l=>cases hex
    |panic ch=>cases hex
    |outgrown=>cases hex
   ·intro t x hx;obtain ⟨_,h2⟩:=slots0_look svs 0 t x hx;obtain ⟨v,hv,hr⟩:=args_get hrel (by simpa using h2);have hlt:=lt_of_get hv;have:(vs.toArray++Array.replicate (fn.ntmps-vs.toArray.size) undef).getD t undef=v:=by
     simp only [Array.getD_eq_getD_getElem?];rw [Array.getElem?_append_left (by simpa using hlt)];simp [hv]
    rw [this];exact ur_vrel hr
  ·cases h0
 ·cases h0
def Ob (tt:TT) (nt:Nat) (A:Ann) (c:Code) (rs:List ResultVar) (fr:Nat):Option Eff->Option (List SV × Heap × Nat)->Prop
 |some e,some (svs,h,id)=>AllI e.vc (sx tt nt A LF c (retK tt rs e fr) {tm:=slots0 svs 0,hp:=h,nx:=id})
 |_,_=>True
theorem fn_ob {P:Program} {tt:TT} (htt:TTOK P tt) (hm:P.follows .mixedOrders=true) {f:FuncId} {fn:Func} {c:Code} (hf:P.funcs[f]? = some fn) (hb:fn.body=some c) (hen:∀ (args:Array Value) (w:World),(callFunc f args).run P w = .ok (.enter f args) w)
 {A:List Dat->Ann} (hC:∀ ds id,CtxOK P ((A ds).C id)) {aps:List AP} {spec:FSpec} (hn:Nat.ble aps.length fn.ntmps=true)
 (H:∀ ds fr,Ob tt fn.ntmps (A ds) c fn.results.toList fr (spec ds fr) (unP aps ds 0)):ConOK P f (con aps spec):=
 fn_ok htt hm hf hb hen hC hn fun ds fr e svs h id he hvc hun=>by
  have:=H ds fr;rw [he,hun] at this;exact allI_iff.1 this hvc
def withv {α:Type} (a : α) (f : α -> Prop):Prop:=f a
theorem kmp {p q:Prop} (h:p=q) (hq:q):p:=h ▸ hq
def Cons.of:List (FuncId × Con)->Cons
 | [],_=>none
 |(f,c)::r,g=>if Nat.beq f g then some c else Cons.of r g
theorem cons_nil {P:Program}:CtxOK P (Cons.of []):=fun f c h=>by cases h
theorem cons_cons {P:Program} {f:FuncId} {c:Con} {r:List (FuncId × Con)} (h:ConOK P f c) (k:CtxOK P (Cons.of r)):CtxOK P (Cons.of ((f,c)::r)):=fun g d hd=>by
 simp only [Cons.of] at hd
 split at hd
 ·rename_i hg;obtain rfl:=Nat.eq_of_beq_eq_true hg;obtain rfl:=by simpa using hd
  exact h
 ·exact k g d hd
def slotN (s:St) (t:Nat):Nat:=match look s.tm t with |some (.one (.sc (.int _ n)))=>n.v.toNat |_=>0
def dOf (s:St) (t:Nat):D:=match look s.hp (idOf s t) with |some (.orow _ d)=>d |some (.nrow _ _ d _)=>d |_=>.l []
def famR (s:St) (sl:Slots) (ks:List Nat) (es:Heap) (hs:List Nat):St:={tm:=sl++keepS s.tm ks,hp:=es++keepH s.hp (hs.map (idOf s)),nx:=s.nx}
theorem wh_nil (w:World) (ht:TabF (cellsAt w)):WH ⟨w,cellsAt w,fun _=>false,none⟩ (Map.at0 (cellsAt w)) [] w:=
 ⟨BelowM.refl _ _ w,fun _ _ h=>by simp [look] at h,fun _ _ _ _ h=>by simp [look] at h,fun _ _ h=>cellsAt_some h,fun _ _ h=>h,rfl,rfl,fun _ _ h=>.inl h,fun _ h=>(by cases h),ht,lin_no fun _ _ _ _ _ h=>by simp [look] at h⟩
end Go.Proofs.YtplejbgafjpomaaGreatDoor.Sx
