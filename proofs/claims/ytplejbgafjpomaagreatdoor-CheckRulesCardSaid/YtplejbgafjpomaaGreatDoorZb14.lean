import Derived.Test.YtplejbgafjpomaaGreatDoorZb13
import Derived.Lib.Strings
import Derived.Test.YtplejbgafjpomaaGreatDoorProg
import Derived.WalkKit
import Derived.WalkLawsBesides
import Derived.WalkSpells
import Derived.Outline
import Derived.Lib.Hide
import Derived.Lib.Walk
import Derived.Lib.BufferWrite
import Derived.Lib.UnsafeStr
import Derived.Laws.MakeOwn
import Derived.Deep.DeepFit
import Derived.Laws.OwnMore
set_option linter.unusedVariables false
set_option linter.unusedSimpArgs false
namespace Go.Proofs.YtplejbgafjpomaaGreatDoor.Sx
open Go.RowKit
def okK:K->Bool | .other=>false |_=>true
def acK:K->AC | .int k=>.int k | .bool=>.bool | .str=>.str | .slice e=>.rows e | .other=>.any
def datK:K->D->Dat | .int _,d=>.i d.toI | .bool,d=>.b d.toB | .str,d=>.s d.toS | .slice _,d=>.d d | .other,_=>.i 0
def kSC:K->D->SC | .int k,d=>.int k (.sym d.toI) | .bool,d=>.bool (.sym d.toB) | .str,d=>.raw (.string d.toS) | .slice e,d=>.rows e d | .other,_=>.nils
def elDs:List K->List D->Nat->List Dat
 | [],_,_=>[]
 |k::r,l,j=>datK k (l.getD j (.i 0))::elDs r l (j+1)
def elSg:List K->List D->Nat->List Seg
 | [],_,_=>[]
 |k::r,l,j=>.c (kSC k (l.getD j (.i 0)))::elSg r l (j+1)
def elP (ag:Bool) (ks:List K):AP:=match ag with |true=>.agg (ks.map fun k=>.c (acK k)) |false=>.sc (acK (ks.headD .other))
def elSV (ag:Bool) (ks:List K) (l:List D):V1:=match ag with |true=>.agg (elSg ks l 0) |false=>.sc (kSC (ks.headD .other) (l.getD 0 (.i 0)))
theorem kEq_self (k:IntKind):kEq k k=true:=by cases k<;>rfl
theorem flC_k {hp:Heap} {k:K} (h:okK k=true) (d:D):flC hp (acK k) (kSC k d)=some (datK k d,[]):=by
 cases k with
 |int k=>simp [flC,acK,kSC,datK,kEq_self,SI.v]
 |bool=>simp [flC,acK,kSC,datK,SB.v]
 |str=>simp [flC,acK,kSC,datK]
 |slice e=>simp [flC,acK,kSC,datK,conE]
 |other=>cases h
theorem flG_k {hp:Heap}:∀ {ks:List K},ks.all okK=true->∀ (l:List D) (j:Nat),flG hp (ks.map fun k=>.c (acK k)) (elSg ks l j)=some (elDs ks l j,[])
 | [],_,l,j=>rfl
 |k::r,h,l,j=>by
  simp only [List.all_cons,Bool.and_eq_true] at h;simp only [List.map_cons,elSg,flG,flC_k h.1,flG_k h.2,elDs,List.append_nil]
theorem kSC_rel {ρ:Map} {k:K} {d:D} {v:Value} (h:TRel ρ.fz k d v):CRel ρ (kSC k d) v:=by
 cases k with
 |int k=>cases h;rfl
 |bool=>cases h;rfl
 |str=>cases h;rfl
 |slice e=>exact h
 |other=>cases h
theorem elSg_rel {ρ:Map}:∀ {ks:List K} {l:List D} {j:Nat} {cs:List Value},cs.length=ks.length->(∀ (i:Nat) k,ks[i]? = some k->∃ u,cs[i]? = some u/\TRel ρ.fz k (l.getD (j+i) (.i 0)) u)->CsRel ρ (cellsOf (elSg ks l j)) cs
 | [],l,j,cs,hl,_=>by
   have:cs=[]:=List.length_eq_zero_iff.1 hl;subst this;exact ⟨rfl,fun i x v hx=>by simp [cellsOf,elSg] at hx⟩
 |k::r,l,j,[],hl,_=>by simp at hl
 |k::r,l,j,c::cs,hl,h=>by
  obtain ⟨u,hu,ht⟩:=h 0 k rfl;obtain rfl:c=u:=by simpa using hu
  have ih:=elSg_rel (ρ:=ρ) (ks:=r) (l:=l) (j:=j+1) (cs:=cs) (by simpa using hl) fun i k' hk=>by
   obtain ⟨u,hu,ht⟩:=h (i+1) k' (by simpa using hk);exact ⟨u,by simpa using hu,by rw [show j+1+i=j+(i+1) by omega];exact ht⟩
  rw [show elSg (k::r) l j = .c (kSC k (l.getD j (.i 0)))::elSg r l (j+1) from rfl,cellsOf_cons];refine csrel_cons.2 ⟨[c],cs,rfl,⟨rfl,fun i x v hx hv=>?_⟩,ih⟩
  cases i with
  |zero=>
   obtain rfl:=by simpa [Seg.cells] using hx
   obtain rfl:c=v:=by simpa using hv
   exact kSC_rel ht
  |succ i=>simp at hv
structure FC where
 a:AC
 ag:Bool
 e:TypeId
 p:Dat->Option ((List D->Bool) × (List D->Prop))
def ptO (hp:Heap) (id:Nat):Option SC:=match look hp id with |some (.ro [.c x])=>some x |some (.own _ [.c x])=>some x |_=>none
def mkClo (fc:FC) (hp:Heap):List SV->Option Eff
 | [.one (.sc (.ptr id (.lit 0)))]=>(match ptO hp id with
   |some x=>if rowA fc.a then none else (match flC hp fc.a x with
    |some (d,ps)=>(match fc.p d with
     |some q=>some {val:=.one (.sc (.fn fc.ag fc.e q.1 q.2)),vc:=ps,st:=kills (keepOwn hp (id::idsC x))}
     |none=>none)
    |none=>none)
   |none=>none)
 |_=>none
def conF (fc:FC) (c:Con):Con:=fun hp fr args=>match args with
 | .junk::caps=>mkClo fc hp caps
 |args=>c hp fr args
def FcOK (g:FuncId) (fc:FC):Prop:=∀ d q,fc.p d=some q->∀ (z:Fz) (b o:Nat) (u:Value) (y:SC) (ρ:Map),ρ.fz=z->TabF z->unC0 fc.a d=some y->Fz.cell z b o=some u->CRel ρ y u->FnQ z fc.ag fc.e q.1 q.2 (.func (.func g) #[] #[.pointer (some ⟨b,o,none⟩)])
theorem unC_unC0 {a:AC} (ha:rowA a=false) {d:Dat} {id:Nat} {y:SC} {h:Heap} (hu:unC a d id=some (y,h)):unC0 a d=some y:=by
 cases a<;>cases d<;>first |(cases ha;done) |(simp [unC] at hu;done) |(simp only [unC,Option.some.injEq,Prod.mk.injEq] at hu;obtain ⟨rfl,rfl⟩:=hu;rfl)
theorem pt_rel {hp:Heap} {w0:W0} {w:World} {ρ:Map} (hw:WH w0 ρ hp w) {id:Nat} {x:SC} (h:ptO hp id=some x) {ids:List Nat} (hids:ownId hp id=true->id∈ids):∃ u,Fz.cell (passF ρ w ids) (ρ.blk id) (ρ.off id+0)=some u/\CRel ρ x u:=by
 unfold ptO at h
 split at h
 ·rename_i x' hl;obtain rfl:=by simpa using h
  obtain ⟨_,vs,hvs,hc⟩:=hw.ents id _ hl;obtain ⟨u,hu,hr⟩:=csrel_get hvs (show (cellsOf [.c x'])[0]? = some x' from rfl);exact ⟨u,(passF_le ρ w ids).cell (hc 0 u hu),hr⟩
 ·rename_i T x' hl;obtain rfl:=by simpa using h
  obtain ⟨hi,ho,_,vs,hvs,hh⟩:=hw.ents id _ hl;obtain ⟨u,hu,hr⟩:=csrel_get hvs (show (cellsOf [.c x'])[0]? = some x' from rfl);have:=passF_at hw.froz (hids (by simp [ownId,hl,Ent.isOwn])) hi hh;exact ⟨u,by rw [ho];simp only [Fz.cell,this];simpa using hu,hr⟩
 ·cases h
theorem conF_ok {g:FuncId} {fc:FC} {c:Con} (h:ConOK PG g c) (hf:FcOK g fc):ConOK PG g (conF fc c):=by
 refine ⟨h.enters,fun hp fr args e he hv w0 w ρ vs hw hn ha=>?_,fun hp fr caps e he hv w0 w ρ vs hw ha=>?_⟩
 ·have he':c hp fr args=some e:=by
   unfold conF at he
   split at he
   ·cases vs with
    |nil=>exact ha.elim
    |cons=>exact ha.1.elim
   ·exact he
  exact h.calls hp fr args e he' hv w0 w ρ vs hw hn ha
 ·replace he:mkClo fc hp caps=some e:=he
  unfold mkClo at he
  split at he
  ·rename_i id
   split at he
   ·rename_i x hx
    split at he
    ·cases he
    ·rename_i hra
     split at he
     ·rename_i d ps hd
      split at he
      ·rename_i q hq;obtain rfl:=by simpa using he
       match vs,ha with
       | [v],ha=>
         obtain ⟨hi,rfl⟩:=ha.1;obtain ⟨u,hu,hr⟩:=pt_rel hw hx (ids:=keepOwn hp (id::idsC x)) fun ho=>keepOwn_mem.2 ⟨List.mem_cons_self ..,ho⟩
         obtain ⟨y,hh,ρ1,hy,hin,hyr⟩:=unC_spec hd hv hw hr (ids:=keepOwn hp (id::idsC x)) (fun i hi ho=>keepOwn_mem.2 ⟨List.mem_cons_of_mem _ hi,ho⟩) 0;have hfn:=hf d q hq _ (ρ.blk id) (ρ.off id+0) u y ρ1 hin.hfz (TabF.mono (passF_le ρ w _) (TabF.mono hw.sub (hw.f00 ▸ hw.tab))) (unC_unC0 (by simpa using hra) hy) hu hyr;exact ⟨ρ.frz w (keepOwn hp (id::idsC x)),⟨_,fun _ _ h=>h,hfn⟩,fr_freeze hw.froz _ _ _⟩
      ·cases he
     ·cases he
   ·cases he
  ·cases he
theorem flC_0 {hp:Heap} {a:AC} (ha:rowA a=false) {d:Dat} {y:SC} (h:unC0 a d=some y):flC hp a y=some (d,[])/\rowy y=false:=by
 cases a<;>cases d<;>first |(cases ha;done) |(simp [unC0] at h;done) |(simp only [unC0,Option.some.injEq] at h;subst h;refine ⟨?_,rfl⟩;simp [flC,kEq_self,SI.v,SB.v,conE])
theorem fc_ok {g:FuncId} {fc:FC} {ks:List K} {spec:FSpec} (hks:eks fc.e=ks) (hno:ks.all okK=true) (h1:fc.ag=false->ks.length=1) (h:ConOK PG g (con [elP fc.ag ks,.sc (.pt fc.a)] spec)) (ha:rowA fc.a=false)
 (hs:∀ d q,fc.p d=some q->∀ l:List D,q.2 l->∃ vc,spec ((match fc.ag with |true=>elDs ks l 0 |false=>[datK (ks.headD .other) (l.getD 0 (.i 0))])++[d]) 0=some {val:=.one (.sc (.bool (.sym (q.1 l)))),vc:=vc}/\All vc):FcOK g fc:=by
 intro d q hq z b o u y ρ hz htab hy hc hr;refine ⟨g,_,rfl,h.enters,fun w fz' l x hle hfro hel hok=>?_⟩;obtain ⟨vc,hsp,hvc⟩:=hs d q hq l hok;obtain ⟨hfy,hry⟩:=flC_0 (hp:=[(0,.ro [.c y])]) ha hy;have hc':Fz.cell fz' b o=some u:=hle.cell hc;have hin:In fz' (Map.only fz' 0 (b,o)) 0 1 [(0,.ro [.c y])]:=in_ro hc' (by
  obtain ⟨y',hy',hrel⟩:=flC_unC0 (hp:=[]) (flC_0 (hp:=[]) ha hy).1 hry ha;rw [hy] at hy';obtain rfl:y=y':=by simpa using hy'
  exact hrel (ρ:=ρ) (ρ':=Map.only fz' 0 (b,o)) (by show FzLe ρ.fz fz';rw [hz];exact hle) hr)
 have hwh:WH ⟨w,fz',fun _=>false,none⟩ (Map.only fz' 0 (b,o)) [(0,.ro [.c y])] w:=by
  refine ⟨BelowM.refl _ _ _,fun i e he=>(hin.ents i e he).1 _ _,fun i j e f he _ ho=>?_,hfro,fun _ _ h=>h,rfl,rfl,fun _ _ h=>.inl h,fun _ h=>(by cases h),TabF.mono hle htab,lin_no fun i c e d g hl=>by have:=(hin.ents i _ hl).2.1;cases this⟩;rw [(hin.ents i e he).2.1] at ho;cases ho
 have hpt:flC [(0,.ro [.c y])] (.pt fc.a) (.ptr 0 (.lit 0))=some (d,[]):=by
  have:ptC [(0,.ro [.c y])] 0=some y:=rfl;simp only [flC,this,hry,ha,Bool.or_false,Bool.false_eq_true,↓reduceIte,hfy]
 have hfl:flP [(0,.ro [.c y])] [elP fc.ag ks,.sc (.pt fc.a)] [.one (elSV fc.ag ks l),.one (.sc (.ptr 0 (.lit 0)))]=some ((match fc.ag with |true=>elDs ks l 0 |false=>[datK (ks.headD .other) (l.getD 0 (.i 0))])++[d],[]):=by
  cases hag:fc.ag with
  |true=>simp only [elP,elSV,flP,flG_k hno,hpt,List.append_nil]
  |false=>
   have hk:okK (ks.headD .other)=true:=by
    match ks,h1 hag,hno with
    | [k],_,hno=>simpa using hno
   simp only [elP,elSV,flP,flC_k hk,hpt,List.append_nil,List.cons_append,List.nil_append]
 have hcon:con [elP fc.ag ks,.sc (.pt fc.a)] spec [(0,.ro [.c y])] 0 [.one (elSV fc.ag ks l),.one (.sc (.ptr 0 (.lit 0)))]=some {val:=.one (.sc (.bool (.sym (q.1 l)))),vc:=vc}:=by
  unfold con;rw [hfl];simp only [hsp];simp [plainE,plainSV,plainV,plainC,plainH]
 have hargs:ArgsRel (Map.only fz' 0 (b,o)) [.one (elSV fc.ag ks l),.one (.sc (.ptr 0 (.lit 0)))] [x,.pointer (some ⟨b,o,none⟩)]:=by
  refine ⟨?_,⟨by simp [Map.only],by simp [Map.at,Map.blk,Map.off,Map.only,SO.v]⟩,trivial⟩
  cases hag:fc.ag with
  |true=>
   rw [hag] at hel;obtain ⟨cs,rfl,hl,hcs⟩:=hel;rw [hks] at hl hcs;exact ⟨cs.toArray,rfl,elSg_rel (by simpa using hl) fun i k hk=>by rw [Nat.zero_add];exact hcs i k hk⟩
  |false=>
   rw [hag] at hel;obtain ⟨k,hk,ht⟩:=hel;rw [hks] at hk;subst hk;exact kSC_rel (ρ:=Map.only fz' 0 (b,o)) ht
 have:=h.calls [(0,.ro [.c y])] 0 _ _ hcon hvc _ w _ _ hwh (fun _ _ h=>by simp [look] at h) hargs;refine this.mono ?_
 rintro en w' ⟨ρ',v,rfl,g1,g2⟩;refine ⟨?_,g2.below.1,g2.below.2,g2.below.3,g2.below.size,fun k hk=>g2.keep k hk fun _ _ h=>by simp [look] at h⟩;have:v = .bool (q.1 l):=g1;rw [this]
end Go.Proofs.YtplejbgafjpomaaGreatDoor.Sx
namespace Go.Proofs.YtplejbgafjpomaaGreatDoor
def gapB (n:Int):Bool:=n==32 ||n==10
def letB (n:Int):Bool:=decide (97<=n)&&decide (n<=122)
def digB (n:Int):Bool:=decide (48<=n)&&decide (n<=57)
def gapU (b:UInt8):Bool:=gapB (b.toNat:Int)
def letU (b:UInt8):Bool:=letB (b.toNat:Int)
def digU (b:UInt8):Bool:=digB (b.toNat:Int)
def alnU (b:UInt8):Bool:=letU b ||digU b
def resB (l:List UInt8):Bool:=
 l==[99,104,97,110] ||l==[98,108,111,99,107] ||l==[100,114,111,112] ||l==[108,111,115,115,121] ||l==[102,114,111,109] ||l==[116,111] ||
 l==[114,117,108,101] ||l==[112,114,111,99] ||l==[118,97,114] ||l==[105,102] ||l==[101,108,115,101] ||l==[119,104,105,108,101] ||
 l==[115,101,110,100] ||l==[114,101,99,118] ||l==[97,115,115,101,114,116] ||l==[105,110,112,117,116]
def sgnB (a:Int) (p:Bool):Nat:=
 if a=61 ∨ a=60 ∨ a=62 then (if p then 2 else 1) else if a=33 then (if p then 2 else 0)
 else if a=123 ∨ a=125 ∨ a=40 ∨ a=41 ∨ a=59 ∨ a=44 ∨ a=46 ∨ a=43 ∨ a=45 ∨ a=42 ∨ a=47 ∨ a=37 then 1 else 0
def eqNext (l:List UInt8):Bool:=match l with
 |_::b::_=>b==61
 |_=>false
theorem eqNext_get (l:List UInt8) (h:1<l.length):eqNext l=((l[1].toNat:Int)==61):=by
 match l,h with
 |a::b::t,_=>
  show (b==61)=((b.toNat:Int)==61);rw [Bool.eq_iff_iff];simp only [beq_iff_eq];constructor
  ·rintro rfl;rfl
  ·intro h;exact UInt8.toNat_inj.1 (by show b.toNat=61;omega)
 | [],h=>simp at h
 | [a],h=>simp at h
theorem eqNext_short (l:List UInt8) (h:l.length<=1):eqNext l=false:=by
 match l,h with
 |a::b::t,h=>simp at h
 | [],_=>rfl
 | [a],_=>rfl
def sgnLen (r:List UInt8):Nat:=sgnB ((r.headD 0).toNat:Int) (eqNext r)
def lenOf (pr:UInt8->Bool) (r:List UInt8):Nat:=(r.takeWhile pr).length
def val (ds:List UInt8):Nat:=ds.foldl (fun n d=>10*n+(d.toNat-48)) 0
def nameE (r:List UInt8):Except Int (Int × Nat × Int):=
 if 12<lenOf alnU r then .error 3 else .ok (if resB (r.take (lenOf alnU r)) then 4 else 1,lenOf alnU r,0)
def numE (r:List UInt8):Except Int (Int × Nat × Int):=
 if 2147483647<val (r.take (lenOf digU r)) ∨ (1<lenOf digU r/\r.headD 0=48) ∨ letU (r.getD (lenOf digU r) 0)=true then .error 3
 else .ok (2,lenOf digU r,(val (r.take (lenOf digU r)):Int))
def sgnE (r:List UInt8):Except Int (Int × Nat × Int):=
 if sgnLen r=0 then .error 2 else .ok (3,sgnLen r,0)
def wordE (r:List UInt8):Except Int (Int × Nat × Int):=
 if letU (r.headD 0) then nameE r else if digU (r.headD 0) then numE r else sgnE r
structure Tok where
 kind:Int
 text:ByteArray
 num:Int
 pos:Nat
def lexGo (s:ByteArray):Nat->Nat->List Tok->Except (Nat × Int) (List Tok)
 | 0,_,acc=>.ok acc
 |f+1,p,acc=>
  if p<s.size then
   if gapU (s.data.toList.getD p 0) then lexGo s f (p+1) acc
   else match wordE (s.data.toList.drop p) with
    | .error e=>.error (p,e)
    | .ok (k,n,m)=>lexGo s f (p+n) (acc++[⟨k,s.extract p (p+n),m,p⟩])
  else .ok acc
def lexR (s:ByteArray):List Tok × Nat × Int:=match lexGo s s.size 0 [] with
 | .error (p,e)=>([],p,e)
 | .ok acc=>if 2000<acc.length then ([],s.size,4) else (acc,0,0)
theorem lenOf_le (pr:UInt8->Bool) (r:List UInt8):lenOf pr r<=r.length:=(List.takeWhile_prefix pr).length_le
theorem lenOf_pos (pr:UInt8->Bool) (r:List UInt8) (h0:0<r.length) (h:pr (r.headD 0)=true):1<=lenOf pr r:=by
 match r,h0 with
 |a::t,_=>
  have h:pr a=true:=h;simp [lenOf,h]
theorem sgnB_le (a:Int) (p:Bool):sgnB a p<=2:=by
 unfold sgnB
 cases p<;>repeat (first |omega |split)
theorem sgnLen_le (r:List UInt8):sgnLen r<=r.length:=by
 match r with
 | []=>exact Nat.le_of_eq (by decide)
 | [a]=>
   show sgnB (a.toNat:Int) false<=1;unfold sgnB;simp only [Bool.false_eq_true,if_false]
   repeat (first |omega |split)
 |a::b::t=>
  have:=sgnB_le (a.toNat:Int) (b==61);show sgnB (a.toNat:Int) (b==61)<=t.length+1+1;omega
theorem wordE_ok {r:List UInt8} {k:Int} {n:Nat} {m:Int} (h0:0<r.length) (h:wordE r = .ok (k,n,m)):1<=n/\n<=r.length/\0<=m/\m<=2147483647/\1<=k/\k<=4:=by
 unfold wordE at h
 by_cases hl:letU (r.headD 0)=true
 ·rw [if_pos hl] at h;unfold nameE at h
  by_cases h12:12<lenOf alnU r
  ·rw [if_pos h12] at h;cases h
  ·rw [if_neg h12] at h
   injection h with h;injection h with h1 h;injection h with h2 h3
   subst h2;subst h3;refine ⟨lenOf_pos _ _ h0 (by unfold alnU;rw [hl];rfl),lenOf_le _ _,by omega,by omega,?_⟩;rw [<- h1]
   split<;>omega
 ·rw [if_neg hl] at h
  by_cases hd:digU (r.headD 0)=true
  ·rw [if_pos hd] at h;unfold numE at h
   by_cases hc:2147483647<val (r.take (lenOf digU r)) ∨ (1<lenOf digU r/\r.headD 0=48) ∨ letU (r.getD (lenOf digU r) 0)=true
   ·rw [if_pos hc] at h;cases h
   ·rw [if_neg hc] at h
    injection h with h;injection h with h1 h;injection h with h2 h3
    subst h2;subst h3;subst h1;refine ⟨lenOf_pos _ _ h0 hd,lenOf_le _ _,by omega,?_,by omega,by omega⟩;have:=fun hx=>hc (.inl hx)
    omega
  ·rw [if_neg hd] at h;unfold sgnE at h
   by_cases hz:sgnLen r=0
   ·rw [if_pos hz] at h;cases h
   ·rw [if_neg hz] at h
    injection h with h;injection h with h1 h;injection h with h2 h3
    subst h2;subst h3;subst h1;exact ⟨by omega,sgnLen_le r,by omega,by omega,by omega,by omega⟩
theorem wordE_err {r:List UInt8} {x:Int} (h:wordE r = .error x):x=2 ∨ x=3:=by
 unfold wordE at h
 split at h
 ·unfold nameE at h
  split at h
  ·injection h with h;omega
  ·cases h
 ·split at h
  ·unfold numE at h
   split at h
   ·injection h with h;omega
   ·cases h
  ·unfold sgnE at h
   split at h
   ·injection h with h;omega
   ·cases h
theorem go_gap {s:ByteArray} {f p:Nat} {acc:List Tok} {R:Except (Nat × Int) (List Tok)} (hp:p<s.size) (hg:gapU (s.data.toList.getD p 0)=true) (hf:s.size<=p+f) (h:lexGo s f p acc=R) :
 ∃ f',s.size<=(p+1)+f'/\lexGo s f' (p+1) acc=R:=by
 obtain ⟨f',rfl⟩:∃ f',f=f'+1:=⟨f-1,by omega⟩;refine ⟨f',by omega,?_⟩;rw [lexGo,if_pos hp,if_pos hg] at h;exact h
theorem go_err {s:ByteArray} {f p:Nat} {acc:List Tok} {R:Except (Nat × Int) (List Tok)} {e:Int} (hp:p<s.size) (hg:gapU (s.data.toList.getD p 0)=false) (hw:wordE (s.data.toList.drop p) = .error e) (hf:s.size<=p+f) (h:lexGo s f p acc=R) :
 R = .error (p,e):=by
 obtain ⟨f',rfl⟩:∃ f',f=f'+1:=⟨f-1,by omega⟩;rw [lexGo,if_pos hp,if_neg (by rw [hg];decide),hw] at h;exact h.symm
theorem go_word {s:ByteArray} {f p:Nat} {acc:List Tok} {R:Except (Nat × Int) (List Tok)} {k:Int} {n:Nat} {m:Int} (hp:p<s.size) (hg:gapU (s.data.toList.getD p 0)=false) (hw:wordE (s.data.toList.drop p) = .ok (k,n,m)) (hf:s.size<=p+f) (hn:1<=n) (h:lexGo s f p acc=R) :
 ∃ f',s.size<=(p+n)+f'/\lexGo s f' (p+n) (acc++[⟨k,s.extract p (p+n),m,p⟩])=R:=by
 obtain ⟨f',rfl⟩:∃ f',f=f'+1:=⟨f-1,by omega⟩;refine ⟨f',by omega,?_⟩;rw [lexGo,if_pos hp,if_neg (by rw [hg];decide),hw] at h;exact h
theorem go_end {s:ByteArray} {f p:Nat} {acc:List Tok} {R:Except (Nat × Int) (List Tok)} (hp:s.size<=p) (h:lexGo s f p acc=R):R = .ok acc:=by
 match f with
 | 0=>exact h.symm
 |f+1=>
  rw [lexGo,if_neg (by omega)] at h;exact h.symm
def Run (pr:UInt8->Bool) (s:ByteArray) (p k:Nat):Prop:=p<=k/\k<=s.size/\∀ j,p<=j->j<k->pr (s.data.toList.getD j 0)=true
theorem getD_eq (s:ByteArray) (k:Nat) (h:k<s.size):s.data.toList.getD k 0=s[k]:=by
 rw [List.getD_eq_getElem?_getD,List.getElem?_eq_getElem (by simpa using h)];rfl
theorem Run.start {pr:UInt8->Bool} {s:ByteArray} {p:Nat} (h:p<=s.size):Run pr s p p:=⟨Nat.le_refl _,h,fun j h1 h2=>by omega⟩
theorem Run.step {pr:UInt8->Bool} {s:ByteArray} {p k:Nat} (h:Run pr s p k) (hk:k<s.size) (hp:pr s[k]=true):Run pr s p (k+1):=by
 refine ⟨by have:=h.1;omega,by omega,fun j h1 h2=>?_⟩
 by_cases e:j=k
 ·subst e;rw [getD_eq s j hk];exact hp
 ·exact h.2.2 j h1 (by omega)
theorem takeWhile_len (pr:UInt8->Bool):∀ (r:List UInt8) (n:Nat),n<=r.length->(∀ i,i<n->pr (r.getD i 0)=true)->(n<r.length->pr (r.getD n 0)=false)->(r.takeWhile pr).length=n:=by
 intro r
 induction r with
 |nil=>intro n h _ _;simp at h;simp [h]
 |cons a t ih=>
  intro n hn hall hstop
  match n with
  | 0=>
    have:pr a=false:=hstop (by simp);simp [this]
  |n+1=>
   have h0:pr a=true:=hall 0 (by omega);rw [List.takeWhile_cons,if_pos h0,List.length_cons,ih n (by simpa using hn) (fun i hi=>hall (i+1) (by omega)) (fun h=>hstop (by simpa using h))]
theorem getD_drop (l:List UInt8) (p i:Nat):(l.drop p).getD i 0=l.getD (p+i) 0:=by
 simp [List.getD_eq_getElem?_getD,List.getElem?_drop]
theorem Run.len {pr:UInt8->Bool} {s:ByteArray} {p k:Nat} (h:Run pr s p k) (hk:k<s.size->pr (s.data.toList.getD k 0)=false):lenOf pr (s.data.toList.drop p)=k-p:=by
 obtain ⟨h1,h2,h3⟩:=h;have hl:s.data.toList.length=s.size:=by simp
 refine takeWhile_len pr _ (k-p) (by rw [List.length_drop];omega) (fun i hi=>?_) (fun hlt=>?_)
 ·rw [getD_drop];exact h3 _ (by omega) (by omega)
 ·rw [getD_drop,show p+(k-p)=k from by omega];rw [List.length_drop] at hlt;exact hk (by omega)
theorem Run.le_len {pr:UInt8->Bool} {s:ByteArray} {p k:Nat} (h:Run pr s p k):k-p<=lenOf pr (s.data.toList.drop p):=by
 obtain ⟨h1,h2,h3⟩:=h;have hl:s.data.toList.length=s.size:=by simp
 have key:∀ (r:List UInt8) (n:Nat),n<=r.length->(∀ i,i<n->pr (r.getD i 0)=true)->n<=(r.takeWhile pr).length:=by
  intro r
  induction r with
  |nil=>intro n h _;simpa using h
  |cons a t ih=>
   intro n hn hall
   match n with
   | 0=>omega
   |n+1=>
    have h0:pr a=true:=hall 0 (by omega);have:=ih n (by simpa using hn) (fun i hi=>hall (i+1) (by omega));rw [List.takeWhile_cons,if_pos h0,List.length_cons];omega
 exact key _ _ (by rw [List.length_drop];omega) (fun i hi=>by rw [getD_drop];exact h3 _ (by omega) (by omega))
theorem head_drop (l:List UInt8) (p:Nat):(l.drop p).headD 0=l.getD p 0:=by
 rw [List.headD_eq_head?_getD,List.head?_drop,List.getD_eq_getElem?_getD]
def vl (s:ByteArray) (p k:Nat):Nat:=val ((s.data.toList.drop p).take (k-p))
theorem val_snoc (ds:List UInt8) (d:UInt8):val (ds++[d])=10*val ds+(d.toNat-48):=by simp [val]
theorem val_app_le (a:List UInt8):∀ b:List UInt8,val a<=val (a++b):=by
 intro b
 induction b generalizing a with
 |nil=>simp
 |cons d t ih=>
  have h1:=ih (a++[d]);rw [List.append_assoc,List.singleton_append] at h1;have h2:=val_snoc a d;omega
theorem vl_start (s:ByteArray) (p:Nat):vl s p p=0:=by simp [vl,val]
theorem vl_step (s:ByteArray) (p k:Nat) (hp:p<=k) (hk:k<s.size):vl s p (k+1)=10*vl s p k+(s[k].toNat-48):=by
 have hl:s.data.toList.length=s.size:=by simp
 unfold vl;rw [show k+1-p=(k-p)+1 from by omega,List.take_succ_eq_append_getElem (by rw [List.length_drop];omega),val_snoc];have:(s.data.toList.drop p)[k-p]'(by rw [List.length_drop];omega)=s[k]:=by
  rw [List.getElem_drop];have e:p+(k-p)=k:=by omega
  simp only [e];rfl
 rw [this]
theorem vl_mono (s:ByteArray) (p k n:Nat) (h:k-p<=n):vl s p k<=val ((s.data.toList.drop p).take n):=by
 unfold vl;have e:(s.data.toList.drop p).take n=(s.data.toList.drop p).take (k-p)++((s.data.toList.drop p).drop (k-p)).take (n-(k-p)):=by
  rw [<- List.take_add,show k-p+(n-(k-p))=n from by omega]
 rw [e];exact val_app_le _ _
end Go.Proofs.YtplejbgafjpomaaGreatDoor
namespace Go.Proofs.YtplejbgafjpomaaGreatDoor
open Go.RowKit
theorem gap_any (n:Int) (w:World):Calls Tryz.prog 68 #[.int .u8 n] w fun e w'=>e = .returned (.bool (gapB n))/\w=w':=by
 unfold gapB
 go_enter Tryz.func68,Tryz.ntmps68
 go_wp2
 all_goals
  go_ret
  exact ⟨by first |(simp [*];done) |(simp [*];omega),rfl⟩
theorem let_any (n:Int) (w:World):Calls Tryz.prog 112 #[.int .u8 n] w fun e w'=>e = .returned (.bool (letB n))/\w=w':=by
 unfold letB
 go_enter Tryz.func112,Tryz.ntmps112
 go_wp2
 all_goals
  go_ret
  exact ⟨by first |(simp [*];done) |(simp [*];omega),rfl⟩
theorem dig_any (n:Int) (w:World):Calls Tryz.prog 114 #[.int .u8 n] w fun e w'=>e = .returned (.bool (digB n))/\w=w':=by
 unfold digB
 go_enter Tryz.func114,Tryz.ntmps114
 go_wp2
 all_goals
  go_ret
  exact ⟨by first |(simp [*];done) |(simp [*];omega),rfl⟩
set_option maxHeartbeats 1000000 in
theorem res_any (s:ByteArray) (w:World):Calls Tryz.prog 147 #[.string s] w fun e w'=>e = .returned (.bool (resB s.toList))/\w=w':=by
 unfold resB
 go_enter Tryz.func147,Tryz.ntmps147
 go_wp2
 all_goals
  go_ret
  refine ⟨?_,rfl⟩
  first |(simp [*];done) |(exfalso;simp_all;done)
theorem ret_i64 {a b:Int} (h:a=b):Ending.returned (.int .i64 a) = .returned (.int .i64 b):=by rw [h]
set_option maxHeartbeats 1000000 in
theorem sgn_one (s:ByteArray) (w:World) (h0:0<s.size) (h1:s.size<=1) :
 Calls Tryz.prog 116 #[.string s] w fun e w'=>e = .returned (.int .i64 (sgnB (s[0].toNat:Int) false))/\w=w':=by
 go_enter Tryz.func116,Tryz.ntmps116
 go_wp2
 all_goals
  go_ret
  refine ⟨ret_i64 ?_,rfl⟩;simp only [beq_iff_eq,beq_eq_false_iff_ne,ne_eq] at *;unfold sgnB;simp [*]
set_option maxHeartbeats 2000000 in
theorem sgn_two (s:ByteArray) (w:World) (h0:0<s.size) (h1:1<s.size) :
 Calls Tryz.prog 116 #[.string s] w fun e w'=>e = .returned (.int .i64 (sgnB (s[0].toNat:Int) ((s[1].toNat:Int)==61)))/\w=w':=by
 rcases Bool.eq_false_or_eq_true ((s[1].toNat:Int)==61) with hp |hp
 all_goals
  rw [hp]
  go_enter Tryz.func116,Tryz.ntmps116
  go_wp2
  all_goals
   go_ret
   refine ⟨ret_i64 ?_,rfl⟩;simp only [beq_iff_eq,beq_eq_false_iff_ne,ne_eq] at *;unfold sgnB;simp [*]
theorem sgn_any (s:ByteArray) (w:World) (h0:0<s.size) :
 Calls Tryz.prog 116 #[.string s] w fun e w'=>e = .returned (.int .i64 (sgnB (s[0].toNat:Int) (eqNext s.data.toList)))/\w=w':=by
 by_cases h1:1<s.size
 ·refine (sgn_two s w h0 h1).mono fun e w' ⟨he,hw⟩=>⟨he.trans ?_,hw⟩
  rw [eqNext_get s.data.toList (by simpa using h1)];rfl
 ·refine (sgn_one s w h0 (by omega)).mono fun e w' ⟨he,hw⟩=>⟨he.trans ?_,hw⟩
  rw [eqNext_short s.data.toList (by simp;omega)]
theorem info_u8:(Tryz.prog.info? 5).map (fun i=>(i.zero,i.size,i.bytes))=some (some (.int .u8 0),1,1):=by kernel_rfl
set_option maxHeartbeats 2000000 in
set_option maxRecDepth 100000 in
theorem slClone_any (s:ByteArray) (w:World) (hlim:s.size<=281474976710656) :
 Calls Tryz.prog 117 #[.string s] w fun e w'=>e = .returned (.string s)/\Below w.heap.size w w':=by
 by_cases h0:s.size=0
 ·have hs:s=⟨#[]⟩:=by
   apply ByteArray.ext
   exact Array.eq_empty_of_size_eq_zero h0
  subst hs
  go_enter Tryz.func117,Tryz.ntmps117
  go_wp2
  go_ret
  exact ⟨rfl,Below.refl _ _⟩
 ·obtain ⟨i0,hi,hz0,hz1,hz2⟩:=info_parts info_u8;have hinfo:(Tryz.prog.info? 5).map (·.size)=some 1:=by rw [hi];simp [hz1]
  have hco:Tryz.prog.cellsOf 5=1:=by simp [Program.cellsOf,hi,hz1]
  obtain ⟨M,hM⟩:∃ M,M=madeCells (Value.int .u8 0).cells (((s.size:Nat):Int).toNat*i0.size):=⟨_,rfl⟩;have hMs:M.size=s.size:=by rw [hM,size_madeCells,hz1];simp
  have hmk:∀ W:World,(Instr.makeSlice 91 (.int .i64 (s.size:Int)) (.int .i64 (s.size:Int))).run Tryz.prog W = .ok (.slice (some ⟨W.heap.size,0,none⟩) s.size s.size) (W.alloc (.cells M 5)):=fun W=>by
   have h:=run_make (P:=Tryz.prog) W 91 5 i0 (.int .u8 0) Tryz.underlying91 hi hz0 .i64 .i64 (s.size:Int) (s.size:Int) (by omega) (by omega) (by rw [hz2];omega) (by omega);rw [<- hM] at h
   simpa using h
  clear hM;have hcp:=Lib.run_copy_row_string (P:=Tryz.prog) (w.alloc (.cells M 5)) 91 9 3 5 w.heap.size 0 s.size s.size s M 5 Tryz.underlying91 hinfo (heap_alloc_new w _) (Nat.le_refl _) (by omega);obtain ⟨Y,hY⟩:∃ Y,Y=(M.toList.take 0++Lib.byteCells s.data.toList++M.toList.drop (0+s.size)).toArray:=⟨_,rfl⟩;rw [<- hY] at hcp;have hYl:Y.toList=Lib.byteCells s.data.toList:=by
   rw [hY,List.toList_toArray,List.take_zero,List.nil_append,List.drop_of_length_le (by rw [Array.length_toList];omega),List.append_nil]
  have hYs:Y.size=s.size:=by rw [<- Array.length_toList,hYl,Lib.byteCells_length,<- Lib.size_eq]
  have hgY:((w.alloc (.cells M 5)).setRow w.heap.size Y).heap[w.heap.size]? = some (.cells Y 5 (0,0)):=setRow_heap _ _ M _ 5 (0,0) (heap_alloc_new w _);have hne:s.data.toList≠[]:=fun e=>h0 (by rw [Lib.size_eq,e];rfl)
  have hUS:=Lib.run_unsafeString_row (P:=Tryz.prog) ((w.alloc (.cells M 5)).setRow w.heap.size Y) 260 3 9 5 Tryz.underlying260 hco w.heap.size Y.size (by unfold World.shape?;rw [hgY]) s.data.toList hne (by rw [<- Lib.size_eq];omega) (by rw [<- Lib.size_eq];omega)
   (fun j x hx=>Lib.cells_of_row hgY Y.size j _ (by rw [List.take_of_length_le (by rw [Array.length_toList];exact Nat.le_refl _),hYl];simp [Lib.byteCells,hx]))
  rw [<- Lib.size_eq] at hUS;clear hY
  go_enter Tryz.func117,Tryz.ntmps117
  go_wp2
  go_ret
  have hb1:Below w.heap.size w (w.alloc (.cells M 5)):=(Below.refl _ w).alloc (Nat.le_refl _) _;have hb2:Below w.heap.size (w.alloc (.cells M 5)) ((w.alloc (.cells M 5)).setRow w.heap.size Y):=⟨rfl,rfl,rfl,by simp,fun k hk=>setRow_other _ _ _ _ (by omega)⟩;exact ⟨rfl,Lib.below_freeze (hb1.trans hb2) (p:=⟨w.heap.size,0,none⟩) (Nat.le_refl _) _⟩
theorem clone_any (s:ByteArray) (w:World) (hlim:s.size<=281474976710656) :
 Calls Tryz.prog 70 #[.string s] w fun e w'=>e = .returned (.string s)/\Below w.heap.size w w':=by
 go_enter Tryz.func70,Tryz.ntmps70
 go_wp2_with (go_at_call 117;refine (slClone_any _ _ hlim).mono ?_;rintro e w1 ⟨rfl,hb⟩)
 go_ret
 exact ⟨rfl,hb⟩
def wV (s:ByteArray) (p:Nat):Except Int (Int × Nat × Int)->Value
 | .error e=>.tuple #[.agg #[.int .i64 0,.string ⟨#[]⟩,.int .i64 0,.int .i64 0],.int .i64 e]
 | .ok (k,n,m)=>.tuple #[.agg #[.int .i64 k,.string (s.extract p (p+n)),.int .i64 m,.int .i64 p],.int .i64 0]
theorem ret_wV {s:ByteArray} {p:Nat} {x y:Except Int (Int × Nat × Int)} (h:x=y):Ending.returned (wV s p y) = .returned (wV s p x):=by rw [h]
theorem ret_wOk {s:ByteArray} {p n k:Nat} {kk m:Int} {x:Except Int (Int × Nat × Int)} (h:x = .ok (kk,n,m)) (hk:p+n=k):Ending.returned (.tuple #[.agg #[.int .i64 kk,.string (s.extract p k),.int .i64 m,.int .i64 p],.int .i64 0]) = .returned (wV s p x):=by
 rw [h,<- hk];rfl
set_option maxHeartbeats 4000000 in
theorem nameAt_any (s:ByteArray) (p:Nat) (w:World) (hs:s.size<=maxLen) (hp:p<s.size) :
 Calls Tryz.prog 113 #[.string s,.int .i64 p] w fun e w'=>e = .returned (wV s p (nameE (s.data.toList.drop p)))/\Below w.heap.size w w':=by
 unfold maxLen at hs
 go_enter Tryz.func113,Tryz.ntmps113
 go_wp2_with fail
 go_loop [6] (fun i=>∃ k:Nat,Run alnU s p k/\i = .int .i64 k) (fun i=>s.size-(intOf i).toNat)
 case atStart=>exact ⟨p,Run.start (by omega),rfl⟩
 case round=>
  obtain ⟨k,hk,rfl⟩:=hrel;have hk1:=hk.1;have hk2:=hk.2.1;have hcase:(∃ h:k<s.size,letB (s[k].toNat:Int)=true) ∨ (∃ h:k<s.size,letB (s[k].toNat:Int)=false/\digB (s[k].toNat:Int)=true) ∨ (∃ h:k<s.size,letB (s[k].toNat:Int)=false/\digB (s[k].toNat:Int)=false) ∨ s.size<=k:=by
   by_cases hlt:k<s.size
   ·rcases Bool.eq_false_or_eq_true (letB (s[k].toNat:Int)) with hl |hl
    ·exact .inl ⟨hlt,hl⟩
    ·rcases Bool.eq_false_or_eq_true (digB (s[k].toNat:Int)) with hd |hd
     ·exact .inr (.inl ⟨hlt,hl,hd⟩)
     ·exact .inr (.inr (.inl ⟨hlt,hl,hd⟩))
   ·exact .inr (.inr (.inr (by omega)))
  rcases hcase with ⟨hlt,hl⟩ |⟨hlt,hl,hd⟩ |hcase
  ·go_wp2_with (first |(go_at_call 112;refine (let_any _ _).mono ?_;rintro e w' ⟨rfl,rfl⟩) |(go_at_call 114;refine (dig_any _ _).mono ?_;rintro e w' ⟨rfl,rfl⟩))
   go_round
   case rel=>exact ⟨k+1,hk.step hlt (by simp [alnU,letU,hl]),by go_num⟩
   case measure=>simp [intOf];omega
  ·go_wp2_with (first |(go_at_call 112;refine (let_any _ _).mono ?_;rintro e w' ⟨rfl,rfl⟩) |(go_at_call 114;refine (dig_any _ _).mono ?_;rintro e w' ⟨rfl,rfl⟩))
   go_round
   case rel=>exact ⟨k+1,hk.step hlt (by simp [alnU,digU,hd]),by go_num⟩
   case measure=>simp [intOf];omega
  ·have hn:lenOf alnU (s.data.toList.drop p)=k-p:=by
    rcases hcase with ⟨hlt,hl,hd⟩ |hge
    ·exact hk.len (fun h=>by rw [getD_eq s k h];simp [alnU,letU,digU,hl,hd])
    ·exact hk.len (fun h=>absurd h (by omega))
   by_cases h12:12<k-p
   ·have Hfin:=Lib.hid (show nameE (s.data.toList.drop p) = .error 3 by unfold nameE;rw [hn,if_pos h12]);clear hn
    rcases hcase with ⟨hlt,hl,hd⟩ |hge
    all_goals
     go_wp2_with (first |(go_at_call 112;refine (let_any _ _).mono ?_;rintro e w' ⟨rfl,rfl⟩) |(go_at_call 114;refine (dig_any _ _).mono ?_;rintro e w' ⟨rfl,rfl⟩))
     exact bodyPost_ret (v:=.tuple #[.agg #[.int .i64 0,.string ⟨#[]⟩,.int .i64 0,.int .i64 0],.int .i64 3]) (by simp [results,Tryz.results113,go_sem]) rfl ⟨ret_wV Hfin.out,(Below.refl _ _).alloc (Nat.le_refl _) _⟩
   ·have ht:(s.extract p k).toList=(s.data.toList.drop p).take (k-p):=Lib.extract_toList s p k
    rcases Bool.eq_false_or_eq_true (resB (s.extract p k).toList) with hr |hr
    ·have Hfin:=Lib.hid (show nameE (s.data.toList.drop p) = .ok (4,k-p,0) by unfold nameE;rw [hn,if_neg h12,<- ht,if_pos hr]);clear hn ht
     rcases hcase with ⟨hlt,hl,hd⟩ |hge
     all_goals
      go_wp2_with (first |(go_at_call 112;refine (let_any _ _).mono ?_;rintro e w' ⟨rfl,rfl⟩) |(go_at_call 114;refine (dig_any _ _).mono ?_;rintro e w' ⟨rfl,rfl⟩) |(go_at_call 147;refine (res_any _ _).mono ?_;rintro e w' ⟨rfl,rfl⟩))
      exact bodyPost_ret (v:=.tuple #[.agg #[.int .i64 4,.string (s.extract p k),.int .i64 0,.int .i64 p],.int .i64 0]) (by simp [results,Tryz.results113,go_sem]) rfl ⟨ret_wOk Hfin.out (by omega),((Below.refl _ _).alloc (Nat.le_refl _) _).alloc (by simp) _⟩
    ·have Hfin:=Lib.hid (show nameE (s.data.toList.drop p) = .ok (1,k-p,0) by unfold nameE;rw [hn,if_neg h12,<- ht,if_neg (by rw [hr];decide)]);clear hn ht
     rcases hcase with ⟨hlt,hl,hd⟩ |hge
     all_goals
      go_wp2_with (first |(go_at_call 112;refine (let_any _ _).mono ?_;rintro e w' ⟨rfl,rfl⟩) |(go_at_call 114;refine (dig_any _ _).mono ?_;rintro e w' ⟨rfl,rfl⟩) |(go_at_call 147;refine (res_any _ _).mono ?_;rintro e w' ⟨rfl,rfl⟩))
      exact bodyPost_ret (v:=.tuple #[.agg #[.int .i64 1,.string (s.extract p k),.int .i64 0,.int .i64 p],.int .i64 0]) (by simp [results,Tryz.results113,go_sem]) rfl ⟨ret_wOk Hfin.out (by omega),((Below.refl _ _).alloc (Nat.le_refl _) _).alloc (by simp) _⟩
set_option maxHeartbeats 4000000 in
theorem numAt_any (s:ByteArray) (p:Nat) (w:World) (hs:s.size<=maxLen) (hp:p<s.size) :
 Calls Tryz.prog 115 #[.string s,.int .i64 p] w fun e w'=>e = .returned (wV s p (numE (s.data.toList.drop p)))/\Below w.heap.size w w':=by
 unfold maxLen at hs
 go_enter Tryz.func115,Tryz.ntmps115
 go_wp2_with fail
 go_loop [6,7] (fun i m=>∃ k v:Nat,Run digU s p k/\vl s p k=v/\v<=2147483647/\i = .int .i64 k/\m = .int .i64 v) (fun i _=>s.size-(intOf i).toNat)
 case atStart=>exact ⟨p,0,Run.start (by omega),vl_start s p,by omega,rfl,rfl⟩
 case round=>
  obtain ⟨k,v,hk,hv,hv1,rfl,rfl⟩:=hrel;have hk1:=hk.1;have hk2:=hk.2.1;have Hv:=Lib.hid hv;clear hv
  by_cases hin:∃ h:k<s.size,digB (s[k].toNat:Int)=true
  ·obtain ⟨hlt,hd⟩:=hin;have hd1:48<=(s[k].toNat:Int)/\(s[k].toNat:Int)<=57:=by simpa [digB] using hd
   obtain ⟨hd1,hd2⟩:=hd1;have hst:=vl_step s p k hk1 hlt;rw [Hv.out] at hst;have hrun:=hk.step hlt (show digU s[k]=true from hd)
   by_cases hbig:2147483647<10*(v:Int)+((s[k].toNat:Int)-48)
   ·have hfin:numE (s.data.toList.drop p) = .error 3:=by
     have h1:=vl_mono s p (k+1) (lenOf digU (s.data.toList.drop p)) hrun.le_len;have h2:2147483647<val ((s.data.toList.drop p).take (lenOf digU (s.data.toList.drop p))):=by omega
     unfold numE;rw [if_pos (.inl h2)]
    have Hfin:=Lib.hid hfin;clear hfin hst
    go_wp2_with (go_at_call 114;refine (dig_any _ _).mono ?_;rintro e w' ⟨rfl,rfl⟩)
    exact bodyPost_ret (v:=.tuple #[.agg #[.int .i64 0,.string ⟨#[]⟩,.int .i64 0,.int .i64 0],.int .i64 3]) (by simp [results,Tryz.results115,go_sem]) rfl ⟨ret_wV Hfin.out,(Below.refl _ _).alloc (Nat.le_refl _) _⟩
   ·have Hst:=Lib.hid hst;clear hst
    go_wp2_with (go_at_call 114;refine (dig_any _ _).mono ?_;rintro e w' ⟨rfl,rfl⟩)
    go_round
    case rel=>exact ⟨k+1,10*v+(s[k].toNat-48),hrun,Hst.out,by omega,by go_num,by go_num⟩
    case measure=>simp [intOf];omega
  ·have hcase:(∃ h:k<s.size,digB (s[k].toNat:Int)=false/\letB (s[k].toNat:Int)=true) ∨ (∃ h:k<s.size,digB (s[k].toNat:Int)=false/\letB (s[k].toNat:Int)=false) ∨ s.size<=k:=by
    by_cases hlt:k<s.size
    ·rcases Bool.eq_false_or_eq_true (digB (s[k].toNat:Int)) with hd |hd
     ·exact absurd ⟨hlt,hd⟩ hin
     ·rcases Bool.eq_false_or_eq_true (letB (s[k].toNat:Int)) with hl |hl
      ·exact .inl ⟨hlt,hd,hl⟩
      ·exact .inr (.inl ⟨hlt,hd,hl⟩)
    ·exact .inr (.inr (by omega))
   clear hin;have hn:lenOf digU (s.data.toList.drop p)=k-p:=by
    rcases hcase with ⟨hlt,hd,_⟩ |⟨hlt,hd,_⟩ |hge
    ·exact hk.len (fun h=>by rw [getD_eq s k h];exact hd)
    ·exact hk.len (fun h=>by rw [getD_eq s k h];exact hd)
    ·exact hk.len (fun h=>absurd h (by omega))
   have hval:val ((s.data.toList.drop p).take (k-p))=v:=Hv.out;have hhd:(s.data.toList.drop p).headD 0=s[p]:=by rw [head_drop,getD_eq s p hp]
   have h48:∀ b:UInt8,b=48↔((b.toNat:Int)==48)=true:=fun b=>by
    rw [beq_iff_eq];constructor
    ·rintro rfl;rfl
    ·intro h;exact UInt8.toNat_inj.1 (by show b.toNat=48;omega)
   by_cases hz:((s[p].toNat:Int)==48)=true/\1<k-p
   ·obtain ⟨hz1,hz2⟩:=hz;have Hfin:=Lib.hid (show numE (s.data.toList.drop p) = .error 3 by
     unfold numE;rw [hn,if_pos (.inr (.inl ⟨hz2,by rw [hhd];exact (h48 _).2 hz1⟩))])
    clear hn hval hhd h48
    rcases hcase with ⟨hlt,hd,_⟩ |⟨hlt,hd,_⟩ |hge
    all_goals
     go_wp2_with (first |(go_at_call 112;refine (let_any _ _).mono ?_;rintro e w' ⟨rfl,rfl⟩) |(go_at_call 114;refine (dig_any _ _).mono ?_;rintro e w' ⟨rfl,rfl⟩))
     exact bodyPost_ret (v:=.tuple #[.agg #[.int .i64 0,.string ⟨#[]⟩,.int .i64 0,.int .i64 0],.int .i64 3]) (by simp [results,Tryz.results115,go_sem]) rfl ⟨ret_wV Hfin.out,(Below.refl _ _).alloc (Nat.le_refl _) _⟩
   ·have hz':((s[p].toNat:Int)==48)=false ∨ (((s[p].toNat:Int)==48)=true/\k-p<=1):=by
     rcases Bool.eq_false_or_eq_true ((s[p].toNat:Int)==48) with h |h
     ·exact .inr ⟨h,by have:¬ 1<k-p:=fun hx=>hz ⟨h,hx⟩;omega⟩
     ·exact .inl h
    have hnz:¬ (1<k-p/\(s.data.toList.drop p).headD 0=48):=fun hx=>hz ⟨(h48 _).1 (by rw [<- hhd];exact hx.2),hx.1⟩
    have hgk:(s.data.toList.drop p).getD (k-p) 0=s.data.toList.getD k 0:=by rw [getD_drop,show p+(k-p)=k from by omega]
    clear hz h48 hhd
    rcases hcase with ⟨hlt,hd,hl⟩ |hcase
    ·have Hfin:=Lib.hid (show numE (s.data.toList.drop p) = .error 3 by
      unfold numE;rw [hn,if_pos (.inr (.inr (by rw [hgk,getD_eq s k hlt];exact hl)))])
     clear hn hval hnz hgk
     rcases hz' with hz1 |⟨hz1,hz2⟩
     all_goals
      go_wp2_with (first |(go_at_call 112;refine (let_any _ _).mono ?_;rintro e w' ⟨rfl,rfl⟩) |(go_at_call 114;refine (dig_any _ _).mono ?_;rintro e w' ⟨rfl,rfl⟩))
      exact bodyPost_ret (v:=.tuple #[.agg #[.int .i64 0,.string ⟨#[]⟩,.int .i64 0,.int .i64 0],.int .i64 3]) (by simp [results,Tryz.results115,go_sem]) rfl ⟨ret_wV Hfin.out,(Below.refl _ _).alloc (Nat.le_refl _) _⟩
    ·have hnl:¬ letU ((s.data.toList.drop p).getD (k-p) 0)=true:=by
      rw [hgk]
      rcases hcase with ⟨hlt,hd,hl⟩ |hge
      ·rw [getD_eq s k hlt];show ¬ letB _=true;rw [hl];decide
      ·rw [List.getD_eq_getElem?_getD,List.getElem?_eq_none (by simpa using hge)];decide
     have Hfin:=Lib.hid (show numE (s.data.toList.drop p) = .ok (2,k-p,(v:Int)) by
      unfold numE;rw [hn,hval,if_neg (fun h=>h.elim (fun h=>by omega) (fun h=>h.elim hnz hnl))])
     clear hn hval hnz hgk hnl
     rcases hcase with ⟨hlt,hd,hl⟩ |hge
     all_goals
      rcases hz' with hz1 |⟨hz1,hz2⟩
      all_goals
       go_wp2_with (first |(go_at_call 112;refine (let_any _ _).mono ?_;rintro e w' ⟨rfl,rfl⟩) |(go_at_call 114;refine (dig_any _ _).mono ?_;rintro e w' ⟨rfl,rfl⟩))
       exact bodyPost_ret (v:=.tuple #[.agg #[.int .i64 2,.string (s.extract p k),.int .i64 v,.int .i64 p],.int .i64 0]) (by simp [results,Tryz.results115,go_sem]) rfl ⟨ret_wOk Hfin.out (by omega),(Below.refl _ _).alloc (Nat.le_refl _) _⟩
theorem nameAt_err (s:ByteArray) (p:Nat) (w:World) (hs:s.size<=maxLen) (hp:p<s.size) {x:Int} (h:nameE (s.data.toList.drop p) = .error x) :
 Calls Tryz.prog 113 #[.string s,.int .i64 p] w fun e w'=>e = .returned (.tuple #[.agg #[.int .i64 0,.string ⟨#[]⟩,.int .i64 0,.int .i64 0],.int .i64 x])/\Below w.heap.size w w':=
 (nameAt_any s p w hs hp).mono fun e w' ⟨he,hb⟩=>⟨by rw [he,h];rfl,hb⟩
theorem nameAt_ok (s:ByteArray) (p:Nat) (w:World) (hs:s.size<=maxLen) (hp:p<s.size) {k m:Int} {n:Nat} {T:ByteArray} (hT:s.extract p (p+n)=T) (h:nameE (s.data.toList.drop p) = .ok (k,n,m)) :
 Calls Tryz.prog 113 #[.string s,.int .i64 p] w fun e w'=>e = .returned (.tuple #[.agg #[.int .i64 k,.string T,.int .i64 m,.int .i64 p],.int .i64 0])/\Below w.heap.size w w':=
 (nameAt_any s p w hs hp).mono fun e w' ⟨he,hb⟩=>⟨by rw [he,h,<- hT];rfl,hb⟩
theorem numAt_err (s:ByteArray) (p:Nat) (w:World) (hs:s.size<=maxLen) (hp:p<s.size) {x:Int} (h:numE (s.data.toList.drop p) = .error x) :
 Calls Tryz.prog 115 #[.string s,.int .i64 p] w fun e w'=>e = .returned (.tuple #[.agg #[.int .i64 0,.string ⟨#[]⟩,.int .i64 0,.int .i64 0],.int .i64 x])/\Below w.heap.size w w':=
 (numAt_any s p w hs hp).mono fun e w' ⟨he,hb⟩=>⟨by rw [he,h];rfl,hb⟩
theorem numAt_ok (s:ByteArray) (p:Nat) (w:World) (hs:s.size<=maxLen) (hp:p<s.size) {k m:Int} {n:Nat} {T:ByteArray} (hT:s.extract p (p+n)=T) (h:numE (s.data.toList.drop p) = .ok (k,n,m)) :
 Calls Tryz.prog 115 #[.string s,.int .i64 p] w fun e w'=>e = .returned (.tuple #[.agg #[.int .i64 k,.string T,.int .i64 m,.int .i64 p],.int .i64 0])/\Below w.heap.size w w':=
 (numAt_any s p w hs hp).mono fun e w' ⟨he,hb⟩=>⟨by rw [he,h,<- hT];rfl,hb⟩
theorem data_from (s:ByteArray) (p:Nat):(s.extract p s.size).data.toList=s.data.toList.drop p:=by
 rw [Lib.extract_data,List.take_of_length_le]
 simp
theorem sgn_at (s:ByteArray) (p:Nat) (w:World) (hp:p<s.size) {n:Nat} (hn:sgnLen (s.data.toList.drop p)=n) :
 Calls Tryz.prog 116 #[.string (s.extract p s.size)] w fun e w'=>e = .returned (.int .i64 n)/\w=w':=by
 have h0:0<(s.extract p s.size).size:=by simp;omega
 refine (sgn_any (s.extract p s.size) w h0).mono fun e w' ⟨he,hb⟩=>⟨he.trans (ret_i64 ?_),hb⟩
 rw [<- hn,<- data_from];unfold sgnLen
 congr 2
 rw [List.headD_eq_head?_getD,List.head?_eq_getElem?,List.getElem?_eq_getElem (by simpa using h0)];rfl
theorem bcell {W w1:World} (hb:Below W.heap.size W w1):(∀ b o,b<W.heap.size->w1.cell? ⟨b,o,none⟩=W.cell? ⟨b,o,none⟩)/\(∀ b o,b<W.heap.size->w1.frozen? ⟨b,o,none⟩=W.frozen? ⟨b,o,none⟩):=
 ⟨fun b o h=>hb.cell (p:=⟨b,o,none⟩) h,fun b o h=>hb.frozen (p:=⟨b,o,none⟩) h⟩
set_option maxHeartbeats 2000000 in
theorem wordAt_name_err (s:ByteArray) (p:Nat) (w:World) (hs:s.size<=maxLen) (hp:p<s.size) (hl:letB (s[p].toNat:Int)=true) {x:Int} (hx:nameE (s.data.toList.drop p) = .error x) :
 Calls Tryz.prog 69 #[.string s,.int .i64 p] w fun e w'=>e = .returned (.tuple #[.agg #[.int .i64 0,.string ⟨#[]⟩,.int .i64 0,.int .i64 0],.int .i64 x])/\Below w.heap.size w w':=by
 have Hx:=Lib.hid hx;clear hx;have hs':=hs;unfold maxLen at hs
 go_enter Tryz.func69,Tryz.ntmps69
 go_wp2_with (first |(go_at_call 112;refine (let_any _ _).mono ?_;rintro e w' ⟨rfl,rfl⟩) |(go_at_call 114;refine (dig_any _ _).mono ?_;rintro e w' ⟨rfl,rfl⟩))
 refine (nameAt_err s p _ hs' hp Hx.out).mono ?_
 rintro e w1 ⟨rfl,hb⟩;obtain ⟨hc,hf⟩:=bcell hb;have hz:w.heap.size<w1.heap.size:=by have:=hb.size;simp at this;omega
 go_wp2
 exact bodyPost_ret (v:=.tuple #[.agg #[.int .i64 0,.string ⟨#[]⟩,.int .i64 0,.int .i64 0],.int .i64 x]) (by simp [results,Tryz.results69,go_sem,hc]) rfl ⟨rfl,(((((Below.refl _ _).alloc (Nat.le_refl _) _).trans (hb.mono (by simp))).setCell (by simp) _).setCell (by simp) _).setCell (by simp) _ |>.setCell (by simp) _⟩
set_option maxHeartbeats 2000000 in
theorem wordAt_name_ok (s:ByteArray) (p:Nat) (w:World) (hs:s.size<=maxLen) (hp:p<s.size) (hl:letB (s[p].toNat:Int)=true) {k m:Int} {n:Nat} {T:ByteArray} (hT:s.extract p (p+n)=T) (hx:nameE (s.data.toList.drop p) = .ok (k,n,m)) :
 Calls Tryz.prog 69 #[.string s,.int .i64 p] w fun e w'=>e = .returned (.tuple #[.agg #[.int .i64 k,.string T,.int .i64 m,.int .i64 p],.int .i64 0])/\Below w.heap.size w w':=by
 have Hx:=Lib.hid hx;clear hx;have HT:=Lib.hid hT;clear hT;have hs':=hs;unfold maxLen at hs
 go_enter Tryz.func69,Tryz.ntmps69
 go_wp2_with (first |(go_at_call 112;refine (let_any _ _).mono ?_;rintro e w' ⟨rfl,rfl⟩) |(go_at_call 114;refine (dig_any _ _).mono ?_;rintro e w' ⟨rfl,rfl⟩))
 refine (nameAt_ok s p _ hs' hp HT.out Hx.out).mono ?_
 rintro e w1 ⟨rfl,hb⟩;obtain ⟨hc,hf⟩:=bcell hb;have hz:w.heap.size<w1.heap.size:=by have:=hb.size;simp at this;omega
 go_wp2
 exact bodyPost_ret (v:=.tuple #[.agg #[.int .i64 k,.string T,.int .i64 m,.int .i64 p],.int .i64 0]) (by simp [results,Tryz.results69,go_sem,hc]) rfl ⟨rfl,(((((Below.refl _ _).alloc (Nat.le_refl _) _).trans (hb.mono (by simp))).setCell (by simp) _).setCell (by simp) _).setCell (by simp) _ |>.setCell (by simp) _⟩
set_option maxHeartbeats 2000000 in
theorem wordAt_num_err (s:ByteArray) (p:Nat) (w:World) (hs:s.size<=maxLen) (hp:p<s.size) (hl:letB (s[p].toNat:Int)=false) (hd:digB (s[p].toNat:Int)=true) {x:Int} (hx:numE (s.data.toList.drop p) = .error x) :
 Calls Tryz.prog 69 #[.string s,.int .i64 p] w fun e w'=>e = .returned (.tuple #[.agg #[.int .i64 0,.string ⟨#[]⟩,.int .i64 0,.int .i64 0],.int .i64 x])/\Below w.heap.size w w':=by
 have Hx:=Lib.hid hx;clear hx;have hs':=hs;unfold maxLen at hs
 go_enter Tryz.func69,Tryz.ntmps69
 go_wp2_with (first |(go_at_call 112;refine (let_any _ _).mono ?_;rintro e w' ⟨rfl,rfl⟩) |(go_at_call 114;refine (dig_any _ _).mono ?_;rintro e w' ⟨rfl,rfl⟩))
 refine (numAt_err s p _ hs' hp Hx.out).mono ?_
 rintro e w1 ⟨rfl,hb⟩;obtain ⟨hc,hf⟩:=bcell hb;have hz:w.heap.size<w1.heap.size:=by have:=hb.size;simp at this;omega
 go_wp2
 exact bodyPost_ret (v:=.tuple #[.agg #[.int .i64 0,.string ⟨#[]⟩,.int .i64 0,.int .i64 0],.int .i64 x]) (by simp [results,Tryz.results69,go_sem,hc]) rfl ⟨rfl,(((((Below.refl _ _).alloc (Nat.le_refl _) _).trans (hb.mono (by simp))).setCell (by simp) _).setCell (by simp) _).setCell (by simp) _ |>.setCell (by simp) _⟩
set_option maxHeartbeats 2000000 in
theorem wordAt_num_ok (s:ByteArray) (p:Nat) (w:World) (hs:s.size<=maxLen) (hp:p<s.size) (hl:letB (s[p].toNat:Int)=false) (hd:digB (s[p].toNat:Int)=true) {k m:Int} {n:Nat} {T:ByteArray} (hT:s.extract p (p+n)=T) (hx:numE (s.data.toList.drop p) = .ok (k,n,m)) :
 Calls Tryz.prog 69 #[.string s,.int .i64 p] w fun e w'=>e = .returned (.tuple #[.agg #[.int .i64 k,.string T,.int .i64 m,.int .i64 p],.int .i64 0])/\Below w.heap.size w w':=by
 have Hx:=Lib.hid hx;clear hx;have HT:=Lib.hid hT;clear hT;have hs':=hs;unfold maxLen at hs
 go_enter Tryz.func69,Tryz.ntmps69
 go_wp2_with (first |(go_at_call 112;refine (let_any _ _).mono ?_;rintro e w' ⟨rfl,rfl⟩) |(go_at_call 114;refine (dig_any _ _).mono ?_;rintro e w' ⟨rfl,rfl⟩))
 refine (numAt_ok s p _ hs' hp HT.out Hx.out).mono ?_
 rintro e w1 ⟨rfl,hb⟩;obtain ⟨hc,hf⟩:=bcell hb;have hz:w.heap.size<w1.heap.size:=by have:=hb.size;simp at this;omega
 go_wp2
 exact bodyPost_ret (v:=.tuple #[.agg #[.int .i64 k,.string T,.int .i64 m,.int .i64 p],.int .i64 0]) (by simp [results,Tryz.results69,go_sem,hc]) rfl ⟨rfl,(((((Below.refl _ _).alloc (Nat.le_refl _) _).trans (hb.mono (by simp))).setCell (by simp) _).setCell (by simp) _).setCell (by simp) _ |>.setCell (by simp) _⟩
set_option maxHeartbeats 2000000 in
theorem wordAt_sgn_err (s:ByteArray) (p:Nat) (w:World) (hs:s.size<=maxLen) (hp:p<s.size) (hl:letB (s[p].toNat:Int)=false) (hd:digB (s[p].toNat:Int)=false) (hx:sgnLen (s.data.toList.drop p)=0) :
 Calls Tryz.prog 69 #[.string s,.int .i64 p] w fun e w'=>e = .returned (.tuple #[.agg #[.int .i64 0,.string ⟨#[]⟩,.int .i64 0,.int .i64 0],.int .i64 2])/\Below w.heap.size w w':=by
 have Hx:=Lib.hid hx;clear hx;have hs1:=hs;clear hs;unfold maxLen at hs1
 go_enter Tryz.func69,Tryz.ntmps69
 go_wp2_with (first |(go_at_call 112;refine (let_any _ _).mono ?_;rintro e w' ⟨rfl,rfl⟩) |(go_at_call 114;refine (dig_any _ _).mono ?_;rintro e w' ⟨rfl,rfl⟩))
 refine (sgn_at s p _ hp Hx.out).mono ?_
 rintro e w1 ⟨rfl,rfl⟩
 go_wp2
 exact bodyPost_ret (v:=.tuple #[.agg #[.int .i64 0,.string ⟨#[]⟩,.int .i64 0,.int .i64 0],.int .i64 2]) (by simp [results,Tryz.results69,go_sem]) rfl ⟨rfl,(Below.refl _ _).alloc (Nat.le_refl _) _⟩
set_option maxHeartbeats 2000000 in
theorem wordAt_sgn_ok (s:ByteArray) (p:Nat) (w:World) (hs:s.size<=maxLen) (hp:p<s.size) (hl:letB (s[p].toNat:Int)=false) (hd:digB (s[p].toNat:Int)=false) {n:Nat} (hn:1<=n) (hpn:p+n<=s.size) {T:ByteArray} (hT:s.extract p (p+n)=T) (hx:sgnLen (s.data.toList.drop p)=n) :
 Calls Tryz.prog 69 #[.string s,.int .i64 p] w fun e w'=>e = .returned (.tuple #[.agg #[.int .i64 3,.string T,.int .i64 0,.int .i64 p],.int .i64 0])/\Below w.heap.size w w':=by
 have Hx:=Lib.hid hx;clear hx;have hnz:((n:Int)==0)=false:=by rw [beq_eq_false_iff_ne];omega
 unfold maxLen at hs
 go_enter Tryz.func69,Tryz.ntmps69
 go_wp2_with (first |(go_at_call 112;refine (let_any _ _).mono ?_;rintro e w' ⟨rfl,rfl⟩) |(go_at_call 114;refine (dig_any _ _).mono ?_;rintro e w' ⟨rfl,rfl⟩))
 refine (sgn_at s p _ hp Hx.out).mono ?_
 rintro e w1 ⟨rfl,rfl⟩
 go_wp2
 exact bodyPost_ret (v:=.tuple #[.agg #[.int .i64 3,.string T,.int .i64 0,.int .i64 p],.int .i64 0]) (by simp [results,Tryz.results69,go_sem]) rfl ⟨rfl,(Below.refl _ _).alloc (Nat.le_refl _) _⟩
theorem wordAt_err (s:ByteArray) (p:Nat) (w:World) (hs:s.size<=maxLen) (hp:p<s.size) {x:Int} (h:wordE (s.data.toList.drop p) = .error x) :
 Calls Tryz.prog 69 #[.string s,.int .i64 p] w fun e w'=>e = .returned (.tuple #[.agg #[.int .i64 0,.string ⟨#[]⟩,.int .i64 0,.int .i64 0],.int .i64 x])/\Below w.heap.size w w':=by
 have hh:(s.data.toList.drop p).headD 0=s[p]:=by rw [head_drop,getD_eq s p hp]
 unfold wordE at h;rw [hh] at h
 rcases Bool.eq_false_or_eq_true (letB (s[p].toNat:Int)) with hl |hl
 ·rw [if_pos (show letU s[p]=true from hl)] at h;exact wordAt_name_err s p w hs hp hl h
 ·rw [if_neg (show ¬ letU s[p]=true by show ¬ letB _=true;rw [hl];decide)] at h
  rcases Bool.eq_false_or_eq_true (digB (s[p].toNat:Int)) with hd |hd
  ·rw [if_pos (show digU s[p]=true from hd)] at h;exact wordAt_num_err s p w hs hp hl hd h
  ·rw [if_neg (show ¬ digU s[p]=true by show ¬ digB _=true;rw [hd];decide)] at h;unfold sgnE at h
   by_cases hz:sgnLen (s.data.toList.drop p)=0
   ·rw [if_pos hz] at h
    injection h with h
    subst h;exact wordAt_sgn_err s p w hs hp hl hd hz
   ·rw [if_neg hz] at h;cases h
theorem wordAt_ok (s:ByteArray) (p:Nat) (w:World) (hs:s.size<=maxLen) (hp:p<s.size) {k m:Int} {n:Nat} {T:ByteArray} (hT:s.extract p (p+n)=T) (h:wordE (s.data.toList.drop p) = .ok (k,n,m)) :
 Calls Tryz.prog 69 #[.string s,.int .i64 p] w fun e w'=>e = .returned (.tuple #[.agg #[.int .i64 k,.string T,.int .i64 m,.int .i64 p],.int .i64 0])/\Below w.heap.size w w':=by
 have hh:(s.data.toList.drop p).headD 0=s[p]:=by rw [head_drop,getD_eq s p hp]
 have hlen:(s.data.toList.drop p).length=s.size-p:=by simp
 have hok:=wordE_ok (by rw [hlen];omega) h;rw [hlen] at hok;unfold wordE at h;rw [hh] at h
 rcases Bool.eq_false_or_eq_true (letB (s[p].toNat:Int)) with hl |hl
 ·rw [if_pos (show letU s[p]=true from hl)] at h;exact wordAt_name_ok s p w hs hp hl hT h
 ·rw [if_neg (show ¬ letU s[p]=true by show ¬ letB _=true;rw [hl];decide)] at h
  rcases Bool.eq_false_or_eq_true (digB (s[p].toNat:Int)) with hd |hd
  ·rw [if_pos (show digU s[p]=true from hd)] at h;exact wordAt_num_ok s p w hs hp hl hd hT h
  ·rw [if_neg (show ¬ digU s[p]=true by show ¬ digB _=true;rw [hd];decide)] at h;unfold sgnE at h
   by_cases hz:sgnLen (s.data.toList.drop p)=0
   ·rw [if_pos hz] at h;cases h
   ·rw [if_neg hz] at h
    injection h with h;injection h with h1 h;injection h with h2 h3
    subst h1;subst h3;exact wordAt_sgn_ok s p w hs hp hl hd hok.1 (by omega) hT h2
def tcells (ts:List Tok):List Value:=ts.flatMap fun t=>[.int .i64 t.kind,.string t.text,.int .i64 t.num,.int .i64 t.pos]
theorem tcells_snoc (ts:List Tok) (t:Tok):tcells (ts++[t])=tcells ts++[.int .i64 t.kind,.string t.text,.int .i64 t.num,.int .i64 t.pos]:=by simp [tcells]
theorem own_below {B base:Nat} {e:TypeId} {size n:Nat} {v:Value} {xs:List Value} {w w':World} (h:w.ownsRow base e size v n xs) (hb:Below B w w') (hB:∀ g,v.ownBlock=some g->g<B):w'.ownsRow base e size v n xs:=by
 refine ⟨h.1,?_⟩
 rcases h.2 with h0 |⟨g,cap,cur,rfl,hg,hh,h1⟩
 ·exact .inl h0
 ·exact .inr ⟨g,cap,cur,rfl,hg,(hb.block g (hB g rfl)).trans hh,h1⟩
theorem own_later {base:Nat} {e:TypeId} {size n:Nat} {v:Value} {xs:List Value} {w w':World} (h:w.ownsRow base e size v n xs) (hb:Below w.heap.size w w'):w'.ownsRow base e size v n xs:=
 own_below h hb fun g hg=>(h.lt g hg).2
theorem below_new {B:Nat} {a w:World} (h:Below B a w) (hB:B<=a.heap.size) (o:Obj):Below B a (w.alloc o):=h.alloc (Nat.le_trans hB h.size) o
theorem own_form {base:Nat} {e:TypeId} {size n:Nat} {v:Value} {xs:List Value} {w:World} (h:w.ownsRow base e size v n xs) (hn:0<n):∃ g cap,v = .slice (some ⟨g,0,none⟩) n cap:=by
 rcases h.2 with ⟨_,h0⟩ |⟨g,cap,_,hv,_⟩
 ·omega
 ·exact ⟨g,cap,hv⟩
theorem cells_new (w:World) (t:TypeId) (l:List Value):∀ j u,l[j]? = some u->(w.alloc (.cells l.toArray t)).cell? ((⟨w.heap.size,0,none⟩:Addr).add j)=some u:=by
 intro j u hu;have h:=cell_of_row (w.alloc (.cells l.toArray t)) w.heap.size j l.toArray t (0,0) (heap_alloc_new w _);rw [show (⟨w.heap.size,0,none⟩:Addr).add j=⟨w.heap.size,j,none⟩ from by unfold Addr.add;split<;>simp_all,h]
 simpa using hu
theorem tk_few {acc:List Tok} {t:Tok} (h:(acc.take 2001).length<=2000):acc.take 2001=acc/\(acc++[t]).take 2001=acc++[t]:=by
 rw [List.length_take] at h;exact ⟨List.take_of_length_le (by omega),List.take_of_length_le (by rw [List.length_append];simp;omega)⟩
theorem tk_many {acc:List Tok} {t:Tok} (h:¬ (acc.take 2001).length<=2000):(acc++[t]).take 2001=acc.take 2001:=by
 rw [List.length_take] at h;exact List.take_append_of_le_length (by omega)
def LexPost (s:ByteArray) (w:World) (e:Ending) (w':World):Prop:=
 ∃ A c,e = .returned (.tuple #[.slice A (lexR s).1.length c,.int .i64 ((lexR s).2.1:Nat),.int .i64 (lexR s).2.2]) /\
   w'.ownsRow w.heap.size 202 4 (.slice A (lexR s).1.length c) (lexR s).1.length (tcells (lexR s).1)/\Below w.heap.size w w'
theorem info_tok:(Tryz.prog.info? 202).map (fun i=>(i.zero,i.size,i.bytes))=some (some (.agg #[.int .i64 0,.string ⟨#[]⟩,.int .i64 0,.int .i64 0]),4,40):=by kernel_rfl
theorem lexR_err {s:ByteArray} {R:Except (Nat × Int) (List Tok)} (h:lexGo s s.size 0 []=R) {p:Nat} {x:Int} (hR:R = .error (p,x)):lexR s=([],p,x):=by unfold lexR;rw [h,hR]
theorem lexR_long {s:ByteArray} {R:Except (Nat × Int) (List Tok)} (h:lexGo s s.size 0 []=R) {acc:List Tok} (hR:R = .ok acc) (hl:2000<acc.length):lexR s=([],s.size,4):=by unfold lexR;rw [h,hR];simp [hl]
theorem lexR_ok {s:ByteArray} {R:Except (Nat × Int) (List Tok)} (h:lexGo s s.size 0 []=R) {acc:List Tok} (hR:R = .ok acc) (hl:acc.length<=2000):lexR s=(acc,0,0):=by unfold lexR;rw [h,hR];simp;omega
theorem LexPost.bad {s:ByteArray} {w w':World} {p:Nat} {x:Int} (h:lexR s=([],p,x)) (hb:Below w.heap.size w w'):LexPost s w (.returned (.tuple #[.slice none 0 0,.int .i64 p,.int .i64 x])) w':=by
 unfold LexPost;rw [h];exact ⟨none,0,rfl,World.ownsRow_nil _ _ _ _,hb⟩
theorem LexPost.good {s:ByteArray} {w w':World} {A:Option Addr} {n c:Nat} {acc:List Tok} (h:lexR s=(acc,0,0)) (hn:n=acc.length) (ho:w'.ownsRow w.heap.size 202 4 (.slice A n c) n (tcells acc)) (hb:Below w.heap.size w w') :
 LexPost s w (.returned (.tuple #[.slice A n c,.int .i64 0,.int .i64 0])) w':=by
 unfold LexPost;rw [h];subst hn;exact ⟨A,c,rfl,ho,hb⟩
set_option maxRecDepth 100000 in
set_option maxHeartbeats 4000000 in
theorem lex_any (s:ByteArray) (w:World) (hs:s.size<=140737488351232) :
 Calls Tryz.prog 37 #[.string s] w fun e w'=>LexPost s w e w':=by
 have hs':s.size<=maxLen:=by unfold maxLen;omega
 obtain ⟨i0,hi,hz0,hz1,hz2⟩:=info_parts info_tok;obtain ⟨R,hR⟩:∃ R,lexGo s s.size 0 []=R:=⟨_,rfl⟩;have HR:=Lib.hid hR
 go_enter Tryz.func37,Tryz.ntmps37
 go_wp2_with fail
 go_loopw [5,6] (fun v i wr=>∃ (p f:Nat) (acc:List Tok) (A:Option Addr) (n c:Nat),p<=s.size/\s.size<=p+f/\lexGo s f p acc=R/\n=(acc.take 2001).length/\i = .int .i64 p/\v = .slice A n c /\
  wr.ownsRow w.heap.size 202 4 (.slice A n c) n (tcells (acc.take 2001))/\Below w.heap.size w wr)
  (fun _ i _=>s.size-(intOf i).toNat)
 case atStart=>exact ⟨0,s.size,[],none,0,0,by omega,by omega,hR,rfl,rfl,rfl,World.ownsRow_nil _ _ _ _,Below.refl _ _⟩
 case round=>
  obtain ⟨p,f,acc,A,n,c,hp,hf,hgo,hn,rfl,rfl,hown,hbw⟩:=hrel;clear hR;have Hn:=Lib.hid hn;have hn1:n<=2001:=by rw [hn,List.length_take];omega
  clear hn;have Hgo:=Lib.hid hgo;clear hgo
  by_cases hlt:p<s.size
  ·have hgd:=getD_eq s p hlt
   rcases Bool.eq_false_or_eq_true (gapB (s[p].toNat:Int)) with hg |hg
   ·have Hst:=Lib.hid (go_gap hlt (by rw [hgd];exact hg) hf Hgo.out);clear hgd
    go_wp2_with (first |(go_at_call 68;refine (gap_any _ _).mono ?_;rintro e w' ⟨rfl,rfl⟩) |fail)
    go_roundw
    case rel=>
     obtain ⟨f',hf',hgo'⟩:=Hst.out;exact ⟨p+1,f',acc,A,n,c,by omega,hf',hgo',Hn.out,by go_num,rfl,hown,hbw⟩
    case measure=>simp [intOf];omega
   ·have hgU:gapU (s.data.toList.getD p 0)=false:=by rw [hgd];exact hg
    rcases hE:wordE (s.data.toList.drop p) with x |⟨k,m,num⟩
    ·have Hfin:=Lib.hid (lexR_err HR.out (go_err hlt hgU hE hf Hgo.out));have HE:=Lib.hid hE;have hx0:(x != 0)=true:=by rw [bne_iff_ne];have:=wordE_err hE;omega
     clear hE hgd hgU
     go_wp2_with (first |(go_at_call 68;refine (gap_any _ _).mono ?_;rintro e w' ⟨rfl,rfl⟩) |fail)
     refine (wordAt_err s p _ hs' hlt HE.out).mono ?_
     rintro e w1 ⟨rfl,hb⟩
     go_wp2_with fail
     go_ret3
     exact LexPost.bad Hfin.out ((hbw.trans (hb.mono hbw.size)).alloc (by have:=hb.size;have:=hbw.size;omega) _)
    ·have hlen:(s.data.toList.drop p).length=s.size-p:=by simp
     obtain ⟨hm1,hm2,hnum1,hnum2,hk1,hk2⟩:=wordE_ok (by rw [hlen];omega) hE;rw [hlen] at hm2;have Hst:=Lib.hid (go_word hlt hgU hE hf hm1 Hgo.out);have HE:=Lib.hid hE;obtain ⟨T,hT⟩:∃ T,s.extract p (p+m)=T:=⟨_,rfl⟩;have hTs:T.size=m:=by rw [<- hT];simp;omega
     have HT:=Lib.hid hT;clear hE hgd hgU hlen hT
     by_cases hn2:n<=2000
     ·go_wp2_with (first |(go_at_call 68;refine (gap_any _ _).mono ?_;rintro e w' ⟨rfl,rfl⟩) |fail)
      refine (wordAt_ok s p _ hs' hlt HT.out HE.out).mono ?_
      rintro e w1 ⟨rfl,hb⟩
      go_wp2_with fail
      refine (clone_any T _ (by omega)).mono ?_
      rintro e w2 ⟨rfl,hb2⟩;obtain ⟨hc,hfz⟩:=bcell hb2;have hz:w1.heap.size<w2.heap.size:=by have:=hb2.size;simp at this;omega
      have hB1:Below wr.heap.size wr w2:=(hb.alloc hb.size _).trans (hb2.mono (by have:=hb.size;simp;omega))
      go_wp2_with (at_builtin;go_loud (refine wpList_append_own _ rfl (.tmp 41) (.tmp 43) _ rfl w.heap.size 202 i0 _ 4 40 Tryz.underlying131 hi hz0 hz1 hz2 rfl (by decide) (.slice A n c) n _ rfl (own_later hown (below_new (hB1.setCell hb.size _) (Nat.le_refl _) _)) ⟨w2.heap.size,0,none⟩ 1 1 [.int .i64 k,.string T,.int .i64 num,.int .i64 p] rfl rfl ?c1 ?c2 ?c3 ?c4 ?c5 ?_))
      case c1=>
       have e:w2.heap.size=(w2.setCell ⟨w1.heap.size,1,none⟩ (.string T)).heap.size:=by simp
       rw [e];exact cells_new _ _ _
      case c2=>
       intro u hu;simp at hu
       rcases hu with rfl |rfl |rfl |rfl<;>rfl
      case c3=>unfold maxLen;omega
      case c4=>omega
      case c5=>have:=hB1.size;have:=hbw.size;simp;omega
      intro v' w3 hown' hgrow _;obtain ⟨g,cap,hv⟩:=own_form hown' (by omega);obtain ⟨ht1,ht2⟩:=tk_few (t:=⟨k,T,num,p⟩) (by rw [<- Hn.out];exact hn2);have Hv:=Lib.hid hv;have Ht:=Lib.hid ht2;have Hl:Hid (n+1=((acc++[(⟨k,T,num,p⟩:Tok)]).take 2001).length):=by
       show n+1=_;rw [ht2,List.length_append,<- ht1,<- Hn.out];rfl
      have hown2:w3.ownsRow w.heap.size 202 4 (.slice (some ⟨g,0,none⟩) (n+1) cap) (n+1) (tcells ((acc++[(⟨k,T,num,p⟩:Tok)]).take 2001)):=by
       rw [ht2,tcells_snoc,<- hv,<- ht1];exact hown'
      have hB3:Below w.heap.size w w3:=(hbw.trans ((below_new (hB1.setCell hb.size _) (Nat.le_refl _) _).mono hbw.size)).grown hgrow (by have:=hB1.size;have:=hbw.size;simp;omega) (fun b hb=>(hown.lt b hb).1);clear hv ht1 ht2 hown' hgrow hown hc hfz
      go_wp2_with fail
      go_roundw
      case rel=>
       obtain ⟨f',hf',hgo'⟩:=Hst.out;exact ⟨p+m,f',acc++[(⟨k,T,num,p⟩:Tok)],some ⟨g,0,none⟩,n+1,cap,by omega,hf',by rw [<- HT.out];exact hgo',Hl,by go_num,Hv.out,hown2,hB3⟩
      case measure=>simp [intOf];omega
     ·have Ht:=Lib.hid (tk_many (t:=⟨k,s.extract p (p+m),num,p⟩) (show ¬ (acc.take 2001).length<=2000 by rw [<- Hn.out];exact hn2))
      go_wp2_with (first |(go_at_call 68;refine (gap_any _ _).mono ?_;rintro e w' ⟨rfl,rfl⟩) |fail)
      refine (wordAt_ok s p _ hs' hlt HT.out HE.out).mono ?_
      rintro e w1 ⟨rfl,hb⟩;have hB3:Below w.heap.size w (w1.alloc (.cells #[.int .i64 k,.string T,.int .i64 num,.int .i64 p] 202)):=below_new (hbw.trans (hb.mono hbw.size)) (Nat.le_refl _) _;have hown3:=own_later hown (below_new hb (Nat.le_refl _) (.cells #[.int .i64 k,.string T,.int .i64 num,.int .i64 p] 202));clear hown
      go_wp2_with fail
      go_roundw
      case rel=>
       obtain ⟨f',hf',hgo'⟩:=Hst.out;exact ⟨p+m,f',acc++[(⟨k,s.extract p (p+m),num,p⟩:Tok)],A,n,c,by omega,hf',hgo',by rw [Ht.out];exact Hn.out,by go_num,rfl,by rw [Ht.out];exact hown3,hB3⟩
      case measure=>simp [intOf];omega
  ·have hend:=go_end (by omega) Hgo.out
   by_cases hn2:n<=2000
   ·obtain ⟨ht1,-⟩:=tk_few (t:=⟨0,⟨#[]⟩,0,0⟩) (show (acc.take 2001).length<=2000 by rw [<- Hn.out];exact hn2);have hn3:n=acc.length:=by rw [Hn.out,ht1]
    have Hfin:=Lib.hid (lexR_ok HR.out hend (by omega));rw [ht1] at hown;have Hn3:=Lib.hid hn3;clear ht1 hend hn3
    go_wp2_with fail
    go_ret3
    exact LexPost.good Hfin.out Hn3.out hown hbw
   ·have hl:2000<acc.length:=by
     have h1:=Hn.out;rw [List.length_take] at h1;omega
    have Hfin:=Lib.hid (lexR_long HR.out hend hl);clear hend hl
    go_wp2_with fail
    go_ret3
    exact LexPost.bad Hfin.out hbw
end Go.Proofs.YtplejbgafjpomaaGreatDoor
namespace Go.Proofs.YtplejbgafjpomaaGreatDoor.Sx
open Go.RowKit
def FSpec.under (spec:FSpec) (μ:List Dat->Nat) (m:Nat):FSpec:=fun ds fr=>match spec ds fr with
 |some e=>some {e with vc:=(μ ds<m)::e.vc}
 |none=>none
theorem con_rec {P:Program} {f:FuncId} {aps:List AP} {spec:FSpec} (μ:List Dat->Nat) (hen:∀ (args:Array Value) (w:World),(callFunc f args).run P w = .ok (.enter f args) w) (H:∀ m,ConOK P f (con aps (spec.under μ m))->ConOK P f (con aps (spec.under μ (m+1)))):ConOK P f (con aps spec):=by
 have all:∀ m,ConOK P f (con aps (spec.under μ m)):=fun m=>by
  induction m with
  |zero=>
   refine ⟨hen,fun hp fr args e he hv=>?_,fun hp fr caps e h=>by rw [con_jf] at h;cases h⟩;exfalso;unfold con at he
   split at he
   ·rename_i ds ps hfl
    split at he
    ·rename_i e' hs;unfold FSpec.under at hs
     split at hs
     ·rename_i e2 h2;simp only [Option.some.injEq] at hs he;subst hs;subst he;exact Nat.not_lt_zero _ (all_append.1 hv).2.1
     ·cases hs
    ·cases he
   ·cases he
  |succ m ih=>exact H m ih
 refine ⟨hen,fun hp fr args e he hv=>?_,fun hp fr caps e h=>by rw [con_jf] at h;cases h⟩;have he0:=he;unfold con at he
 split at he
 ·rename_i ds ps hfl
  split at he
  ·rename_i e' hs;simp only [Option.some.injEq] at he;subst he;have hu:con aps (spec.under μ (μ ds+1)) hp fr args=some {e' with vc:=ps++(μ ds < μ ds+1)::e'.vc,st:=if plainE e' then [] else kills (keepOwn hp (idsX hp args))}:=by
    unfold con;rw [hfl];show (match spec.under μ (μ ds+1) ds fr with |some e=>some {e with vc:=ps++e.vc,st:=if plainE e then [] else kills (keepOwn hp (idsX hp args))} |none=>none)=_;unfold FSpec.under;rw [hs];rfl
   intro w0 w ρ vs hw hn ha;have ha2:=all_append.1 hv;exact ((all (μ ds+1)).calls hp fr args _ hu (all_append.2 ⟨ha2.1,Nat.lt_succ_self _,ha2.2⟩) w0 w ρ vs hw hn ha).mono fun en w' h=>by
    obtain ⟨ρ',v,h1,h2,h3⟩:=h;exact ⟨ρ',v,h1,h2,⟨h3.ext,h3.only,h3.below,h3.keep,h3.st,h3.nw,h3.apart,h3.fz,h3.kid⟩⟩
  ·cases he
 ·cases he
def SC.sh (n:Nat):SC->SC
 | .ptr id o=>.ptr (n+id) o
 | .slice id o l=>.slice (n+id) o l
 | .osl e id lo k=>.osl e (n+id) lo k
 | .optr e id i j=>.optr e (n+id) i j
 | .bm g id=>.bm g (n+id)
 |x=>x
def Seg.sh (n:Nat):Seg->Seg | .c x=>.c (x.sh n) | .ints k m f=>.ints k m f
def shS (n:Nat):List Seg->List Seg
 | []=>[]
 |s::r=>s.sh n::shS n r
def V1.sh (n:Nat):V1->V1 | .sc c=>.sc (c.sh n) | .agg l=>.agg (shS n l)
def shT (n:Nat):List V1->List V1
 | []=>[]
 |x::r=>x.sh n::shT n r
def SV.sh (n:Nat):SV->SV | .one x=>.one (x.sh n) | .tup l=>.tup (shT n l) |x=>x
def gSh (n:Nat) (g:Option (Nat × Nat × Nat)):Option (Nat × Nat × Nat):=match g with |some (i,a,m)=>some (i,n+a,m) |none=>none
def Ent.sh (n:Nat):Ent->Ent | .own T l=>.own T (shS n l) | .row T l=>.row T (shS n l) | .ro l=>.ro (shS n l) | .nrow c e d g=>.nrow c e d (gSh n g) |x=>x
def shH (n:Nat):Heap->Heap
 | []=>[]
 |(i,x)::r=>(n+i,x.sh n)::shH n r
def Eff.sh (n:Nat) (e:Eff):Eff:={e with val:=e.val.sh n,nw:=shH n e.nw}
def Map.sh (ρ:Map) (n:Nat):Map:={ρ with m:=fun i=>if n<=i then ρ (i-n) else none,cap:=fun i=>ρ.cap (i-n),kid:=fun i=>ρ.kid (i-n)}
theorem sh_at (ρ:Map) (n i:Nat):(ρ.sh n) (n+i)=ρ i:=by
 show (if n<=n+i then ρ (n+i-n) else none)=ρ i;rw [if_pos (Nat.le_add_right n i),Nat.add_sub_cancel_left]
theorem sh_blk (ρ:Map) (n i:Nat):(ρ.sh n).blk (n+i)=ρ.blk i:=by unfold Map.blk;rw [sh_at]
theorem sh_off (ρ:Map) (n i:Nat):(ρ.sh n).off (n+i)=ρ.off i:=by unfold Map.off;rw [sh_at]
theorem sh_addr (ρ:Map) (n i o:Nat):(ρ.sh n).at (n+i) o=ρ.at i o:=by unfold Map.at;rw [sh_blk,sh_off]
theorem sh_cap (ρ:Map) (n i:Nat):(ρ.sh n).cap (n+i)=ρ.cap i:=by show ρ.cap (n+i-n)=_;rw [Nat.add_sub_cancel_left]
theorem crel_sh {ρ:Map} {n:Nat} {x:SC} {v:Value} (h:CRel ρ x v):CRel (ρ.sh n) (x.sh n) v:=by
 cases x with
 |ptr id o=>exact ⟨by rw [sh_at];exact h.1,by rw [sh_addr];exact h.2⟩
 |slice id o l=>
  obtain ⟨A,c,h1,h2,h3⟩:=h;exact ⟨A,c,h1,h2,h3.imp (fun ⟨a,b⟩=>⟨by rw [sh_at];exact a,by rw [sh_addr];exact b⟩) fun q=>q⟩
 |osl e id lo k=>
  obtain ⟨A,c,h1,h2,h3⟩:=h;exact ⟨A,c,h1,h2,h3.imp (fun q=>q) fun ⟨a,b,d⟩=>⟨by rw [sh_blk];exact a,by rw [sh_cap];exact b,by rw [sh_at];exact d⟩⟩
 |optr e id i j=>exact ⟨by rw [sh_at];exact h.1,by rw [sh_blk];exact h.2⟩
 |bm g id=>exact ⟨by rw [sh_at];exact h.1,by rw [sh_addr];exact h.2⟩
 |_=>exact h
theorem cells_sh (n:Nat):∀ l:List Seg,cellsOf (shS n l)=(cellsOf l).map (SC.sh n)
 | []=>rfl
 | .c x::r=>by
   have e1:cellsOf (shS n (.c x::r))=(Seg.c (x.sh n)).cells++cellsOf (shS n r):=cellsOf_cons _ _;rw [e1,cellsOf_cons,cells_sh n r,List.map_append];rfl
 | .ints k m f::r=>by
   have e1:cellsOf (shS n (.ints k m f::r))=(Seg.ints k m f).cells++cellsOf (shS n r):=cellsOf_cons _ _;rw [e1,cellsOf_cons,cells_sh n r,List.map_append]
   congr 1
   simp [Seg.cells,SC.sh]
theorem csrel_sh {ρ:Map} {n:Nat} {l:List Seg} {vs:List Value} (h:CsRel ρ (cellsOf l) vs):CsRel (ρ.sh n) (cellsOf (shS n l)) vs:=by
 rw [cells_sh];refine ⟨by rw [List.length_map];exact h.1,fun i x v hx hv=>?_⟩;rw [List.getElem?_map] at hx
 cases hl:(cellsOf l)[i]? with
 |none=>rw [hl] at hx;cases hx
 |some y=>
  rw [hl] at hx;obtain rfl:y.sh n=x:=by simpa using hx
  exact crel_sh (h.2 i y v hl hv)
theorem v1_sh {ρ:Map} {n:Nat} {x:V1} {v:Value} (h:V1Rel ρ x v):V1Rel (ρ.sh n) (x.sh n) v:=by
 cases x with
 |sc c=>exact crel_sh h
 |agg l=>obtain ⟨cs,h1,h2⟩:=h;exact ⟨cs,h1,csrel_sh h2⟩
theorem tup_sh {ρ:Map} {n:Nat}:∀ {l:List V1} {vs:List Value},TupRel ρ l vs->TupRel (ρ.sh n) (shT n l) vs
 | [],[],_=>trivial
 | [],_::_,h=>h.elim
 |_::_,[],h=>h.elim
 |_::_,_::_,h=>⟨v1_sh h.1,tup_sh h.2⟩
theorem ur_sh {ρ:Map} {n:Nat} {x:SV} {v:Value} (h:UR ρ x v):UR (ρ.sh n) (x.sh n) v:=by
 cases x with
 |one x=>exact v1_sh h
 |tup l=>obtain ⟨vs,h1,h2⟩:=h;exact ⟨vs,h1,tup_sh h2⟩
 |cond g x=>exact h
 |junk=>exact h
theorem own_sh (n:Nat) (x:Ent):(x.sh n).isOwn=x.isOwn:=by cases x<;>rfl
theorem hole_sh (n:Nat) (g:Option (Nat × Nat × Nat)) (i:Nat):holeAt (gSh n g) i=(holeAt g i).map fun p=>(n+p.1,p.2):=by
 cases g with
 |none=>rfl
 |some p=>
  obtain ⟨a,b,c⟩:=p;simp only [gSh,holeAt]
  split<;>rfl
theorem kv_sh {n id:Nat} {ρ:Map} {e:TypeId} {x:D} {g:Option (Nat × Nat × Nat)} {i:Nat} {u:Value} (h:KV ρ id e x g i u):KV (ρ.sh n) (n+id) e x (gSh n g) i u:=by
 have hk:(ρ.sh n).kid (n+id)=ρ.kid id:=by simp only [Map.sh];rw [Nat.add_sub_cancel_left]
 unfold KV at h ⊢;rw [hole_sh,hk]
 cases hh:holeAt g i with
 |none=>rw [hh] at h;exact h
 |some p=>obtain ⟨a,m⟩:=p;rw [hh] at h;exact crel_sh (n:=n) (x:=.osl e a (.lit 0) (.sym m)) h
theorem erel_sh {B n id:Nat} {ρ:Map} {w:World} {x:Ent} (h:ERel B ρ w id x):ERel B (ρ.sh n) w (n+id) (x.sh n):=by
 cases x with
 |own T l=>
  obtain ⟨h1,h2,h3,vs,h4,h5⟩:=h;exact ⟨by rw [sh_at];exact h1,by rw [sh_off];exact h2,by rw [sh_blk];exact h3,vs,csrel_sh h4,by rw [sh_blk];exact h5⟩
 |row T l=>
  obtain ⟨h1,h2,h3,vs,rest,h4,h5⟩:=h;exact ⟨by rw [sh_at];exact h1,by rw [sh_off];exact h2,by rw [sh_blk];exact h3,vs,rest,csrel_sh h4,by rw [sh_blk];exact h5⟩
 |orow e d=>
  rcases h with ⟨h1,h2⟩ |⟨h1,h2,h3,h4⟩
  ·exact .inl ⟨by rw [sh_at];exact h1,h2⟩
  ·exact .inr ⟨by rw [sh_at];exact h1,by rw [sh_off];exact h2,by rw [sh_blk];exact h3,by rw [sh_blk,sh_cap];exact h4⟩
 |ro l=>
  obtain ⟨h1,vs,h2,h3⟩:=h;exact ⟨by rw [sh_at];exact h1,vs,csrel_sh h2,by rw [sh_blk,sh_off];exact h3⟩
 |gone=>trivial
 |nrow c e d g=>
  rcases h with ⟨h1,h2⟩ |⟨h1,h2,h3,cs,e',k1,k2,k3,k4,k5⟩
  ·exact .inl ⟨by rw [sh_at];exact h1,h2⟩
  ·refine .inr ⟨by rw [sh_at];exact h1,by rw [sh_off];exact h2,by rw [sh_blk];exact h3,cs,e',by rw [sh_blk];exact k1,by rw [sh_cap];exact k2,by rw [sh_cap];exact k3,k4,fun i j k hi hk=>?_⟩;obtain ⟨u,hu,hr⟩:=k5 i j k hi hk;refine ⟨u,hu,?_⟩;split
   ·rename_i hj;rw [if_pos hj] at hr;exact kv_sh hr
   ·rename_i hj;rw [if_neg hj] at hr;exact hr
theorem look_sh (n:Nat):∀ (h:Heap) (k:Nat),look (shH n h) (n+k)=(look h k).map (Ent.sh n)
 | [],_=>rfl
 |(i,x)::r,k=>by
  simp only [shH,look]
  by_cases hk:i=k
  ·subst hk;simp
  ·have h1:¬ ((i==k)=true):=by simpa using hk
   have h2:¬ ((n+i==n+k)=true):=by simp;omega
   rw [if_neg h1,if_neg h2,look_sh n r k]
theorem look_sh_low (n:Nat):∀ (h:Heap) (k:Nat),k<n->look (shH n h) k=none
 | [],_,_=>rfl
 |(i,x)::r,k,hk=>by
  simp only [shH,look];have h2:¬ ((n+i==k)=true):=by simp;omega
  rw [if_neg h2,look_sh_low n r k hk]
theorem look_sh_some {n:Nat} {h:Heap} {k:Nat} {x:Ent} (hx:look (shH n h) k=some x):∃ j y,k=n+j/\look h j=some y/\x=y.sh n:=by
 by_cases hk:k<n
 ·rw [look_sh_low n h k hk] at hx;cases hx
 ·have e:k=n+(k-n):=by omega
  rw [e,look_sh] at hx
  cases hl:look h (k-n) with
  |none=>rw [hl] at hx;cases hx
  |some y=>rw [hl] at hx;exact ⟨k-n,y,e,hl,by simpa using hx.symm⟩
theorem wh_sh {w0:W0} {ρ:Map} {h:Heap} {w:World} (n:Nat) (h0:w0.anc=none) (hw:WH w0 ρ h w):WH w0 (ρ.sh n) (shH n h) w:=by
 refine ⟨hw.below,fun id e he=>?_,fun i j e f he hf h1 h2 hne hi hj=>?_,hw.froz,hw.sub,hw.mu0,hw.f00,hw.old,fun p hp=>(by rw [h0] at hp;cases hp),hw.tab,?_⟩
 ·obtain ⟨j,y,rfl,hl,rfl⟩:=look_sh_some he;exact erel_sh (hw.ents j y hl)
 ·obtain ⟨i',y,rfl,hl,rfl⟩:=look_sh_some he;obtain ⟨j',z,rfl,hm,rfl⟩:=look_sh_some hf;rw [own_sh] at h1 h2;rw [sh_at] at hi hj;rw [sh_blk,sh_blk];exact hw.apart i' j' y z hl hm h1 h2 (by omega) hi hj
 ·have src:∀ j c e d g,look (shH n h) j=some (.nrow c e d g)->∃ i g0,j=n+i/\look h i=some (.nrow c e d g0)/\g=gSh n g0:=fun j c e d g hj=>by
   obtain ⟨i,y,h1,h2,h3⟩:=look_sh_some hj
   cases y with
   |nrow c' e' d' g0=>
    simp only [Ent.sh,Ent.nrow.injEq] at h3;obtain ⟨rfl,rfl,rfl,rfl⟩:=h3;exact ⟨i,g0,h1,h2,rfl⟩
   |_=>cases h3
  intro j c e d g hj hi k b cap hk;obtain ⟨i,g0,rfl,hl,rfl⟩:=src j c e d g hj;have hk':ρ.kid i k=some (b,cap):=by
   have:(ρ.sh n).kid (n+i)=ρ.kid i:=by simp only [Map.sh];rw [Nat.add_sub_cancel_left]
   rw [<- this];exact hk
  rw [sh_at] at hi;obtain ⟨c1,c2,c3,c4,c5⟩:=hw.lin i c e d g0 hl hi k b cap hk';refine ⟨c1,c2,fun e' he hlt hh=>c3 e' he hlt ?_,fun q f hq ho hqi=>?_,fun q c' e2 d' g' r cap' hq hqi hqk=>?_⟩
  ·rw [hole_sh] at hh
   cases hg:holeAt g0 k with
   |none=>rfl
   |some p=>rw [hg] at hh;cases hh
  ·obtain ⟨i',y,rfl,hl',rfl⟩:=look_sh_some hq;rw [own_sh] at ho;rw [sh_at] at hqi;rw [sh_blk];exact c4 i' y hl' ho hqi
  ·obtain ⟨i',g1,rfl,hl',rfl⟩:=src q c' e2 d' g' hq;rw [sh_at] at hqi;have hqk':ρ.kid i' r=some (b,cap'):=by
    have:(ρ.sh n).kid (n+i')=ρ.kid i':=by simp only [Map.sh];rw [Nat.add_sub_cancel_left]
    rw [<- this];exact hqk
   obtain ⟨m1,m2⟩:=c5 i' c' e2 d' g1 r cap' hl' hqi hqk';exact ⟨by rw [m1],m2⟩
theorem nin_sh {n:Nat} {h:Heap} {id:Nat} (hi:nin id (keys h)=true):nin (n+id) (keys (shH n h))=true:=by
 rw [nin_keys] at hi ⊢;rw [look_sh]
 simpa using hi
theorem scIn_sh {n:Nat} {h:Heap} {x:SC} (hx:scIn (keys h) x=true):scIn (keys (shH n h)) (x.sh n)=true:=by
 cases x<;>first |exact nin_sh hx |exact hx
theorem segsIn_sh {n:Nat} {h:Heap}:∀ {l:List Seg},segsIn (keys h) l=true->segsIn (keys (shH n h)) (shS n l)=true
 | [],_=>rfl
 | .c x::r,hx=>by
   simp only [segsIn,Bool.and_eq_true] at hx;show (scIn (keys (shH n h)) (x.sh n)&&segsIn (keys (shH n h)) (shS n r))=true;rw [scIn_sh hx.1,segsIn_sh hx.2];rfl
 | .ints k m f::r,hx=>by
   simp only [segsIn] at hx;exact segsIn_sh (l:=r) hx
theorem v1In_sh {n:Nat} {h:Heap} {x:V1} (hx:v1In (keys h) x=true):v1In (keys (shH n h)) (x.sh n)=true:=by
 cases x with
 |sc c=>exact scIn_sh hx
 |agg l=>exact segsIn_sh hx
theorem tupIn_sh {n:Nat} {h:Heap}:∀ {l:List V1},l.all (v1In (keys h))=true->(shT n l).all (v1In (keys (shH n h)))=true
 | [],_=>rfl
 |x::r,hx=>by
  simp only [List.all_cons,Bool.and_eq_true] at hx;show ((x.sh n::shT n r).all _)=true;simp only [List.all_cons,Bool.and_eq_true];exact ⟨v1In_sh hx.1,tupIn_sh hx.2⟩
theorem svIn_sh {n:Nat} {h:Heap} {x:SV} (hx:svIn (keys h) x=true):svIn (keys (shH n h)) (x.sh n)=true:=by
 cases x with
 |one x=>exact v1In_sh hx
 |tup l=>exact tupIn_sh hx
 |cond g x=>cases hx
 |junk=>cases hx
theorem newOK_sh {n:Nat} {g:Heap}:∀ {h:Heap},newOK (keys g) 0 h=true->newOK (keys (shH n g)) n (shH n h)=true
 | [],_=>rfl
 |(i,.own T l)::r,hx=>by
  simp only [newOK,Bool.and_eq_true,Nat.ble_eq,Nat.blt_eq] at hx;show newOK (keys (shH n g)) n ((n+i,.own T (shS n l))::shH n r)=true;simp only [newOK,Bool.and_eq_true,Nat.ble_eq,Nat.blt_eq];exact ⟨⟨⟨by omega,by omega⟩,segsIn_sh hx.1.2⟩,newOK_sh hx.2⟩
 |(i,.row T l)::r,hx=>by
  simp only [newOK,Bool.and_eq_true,Nat.ble_eq,Nat.blt_eq] at hx;show newOK (keys (shH n g)) n ((n+i,.row T (shS n l))::shH n r)=true;simp only [newOK,Bool.and_eq_true,Nat.ble_eq,Nat.blt_eq];exact ⟨⟨⟨by omega,by omega⟩,segsIn_sh hx.1.2⟩,newOK_sh hx.2⟩
 |(i,.orow e d)::r,hx=>by
  simp only [newOK,Bool.and_eq_true,Nat.ble_eq,Nat.blt_eq] at hx;show newOK (keys (shH n g)) n ((n+i,.orow e d)::shH n r)=true;simp only [newOK,Bool.and_eq_true,Nat.ble_eq,Nat.blt_eq];exact ⟨⟨by omega,by omega⟩,newOK_sh hx.2⟩
 |(i,.ro l)::r,hx=>by cases hx
 |(i,.gone)::r,hx=>by cases hx
def conS (aps:List AP) (spec:List Dat->Option Eff):Con:=con aps fun ds fr=>match spec ds with
 |some e=>some (e.sh fr)
 |none=>none
theorem fn_okS {P:Program} {tt:TT} (htt:TTOK P tt) (hm:P.follows .mixedOrders=true) {f:FuncId} {fn:Func} {c:Code} (hf:P.funcs[f]? = some fn) (hb:fn.body=some c) (hen:∀ (args:Array Value) (w:World),(callFunc f args).run P w = .ok (.enter f args) w)
 {A:List Dat->Ann} (hC:∀ ds id,CtxOK P ((A ds).C id)) {aps:List AP} {spec:List Dat->Option Eff} (hn:Nat.ble aps.length fn.ntmps=true)
 (H:∀ ds e svs h id,spec ds=some e->All e.vc->unP aps ds 0=some (svs,h,id)->sx tt fn.ntmps (A ds) LF c (retK tt fn.results.toList e 0) {tm:=slots0 svs 0,hp:=h,nx:=id}):ConOK P f (conS aps spec):=by
 refine ⟨hen,?_,fun hp fr caps e h=>by unfold conS at h;rw [con_jf] at h;cases h⟩;intro hp fr args e0 h0 hvc w0 w ρ vs hw hfr hargs;unfold conS con at h0
 split at h0
 ·rename_i ds ps hds
  split at h0
  ·rename_i e he0;have hes:∃ e1,spec ds=some e1/\e=e1.sh fr:=by
    dsimp only at he0
    split at he0
    ·rename_i e1 h1;exact ⟨e1,h1,by simpa using he0.symm⟩
    ·cases he0
   obtain ⟨e1,he,rfl⟩:=hes;obtain rfl:=by simpa using h0
   obtain ⟨hp1,hp2⟩:=all_append.1 hvc;have hidsAll:∀ i∈idsX hp args,ownId hp i=true->i∈keepOwn hp (idsX hp args):=fun i hi ho=>keepOwn_mem.2 ⟨hi,ho⟩
   obtain ⟨svs,h,ρ1,id,hun,_,hin,hrel⟩:=unP_spec hw aps args ds ps hds hp1 vs hargs hidsAll 0;have hsx:=H ds e1 svs h id he hp2 hun;have hlen:vs.length<=fn.ntmps:=by
    have h1:=unP_len aps ds 0 svs h id hun;have h2:=args_len hrel;have:=Nat.le_of_ble_eq_true hn;omega
   have hsz:(vs.toArray++Array.replicate (fn.ntmps-vs.toArray.size) undef).size=fn.ntmps:=by simp;omega
   have hwh:WH ⟨w,passF ρ w (keepOwn hp (idsX hp args)),fun _=>false,none⟩ ρ1 h w:=by
    refine ⟨BelowM.refl _ _ _,fun i x hx=>(hin.ents i x hx).1 _ _,fun i j x y hx _ ho=>?_,fun b cs hb=>?_,fun b cs hb=>?_,hin.hmu,hin.hf0,fun b cs hb=>.inl ?_,fun _ h=>(by cases h),hw.tabP _,lin_no fun i c e d g hl=>by have:=(hin.ents i _ hl).2.1;cases this⟩
    ·have:=(hin.ents i x hx).2.1;rw [this] at ho;cases ho
    ·rw [hin.hfz] at hb;exact passF_froz hw.froz hb
    ·rw [hin.hf0] at hb;rw [hin.hfz];exact hb
    ·rw [hin.hfz] at hb;rw [hin.hf0];exact hb
   refine calls_of_wp hf hb ?_
   refine sx_spec htt hm (hC ds) (w0:=⟨w,passF ρ w (keepOwn hp (idsX hp args)),fun _=>false,none⟩) (lf_spec rfl) c _ _ hsx _ ?_ ρ1 _ w ⟨⟨hsz,rfl,?_⟩,hwh,fun i hi=>hin.out i (.inr hi)⟩
   ·intro ex xx s' ρ' a w' hex hk hs';have done:retK tt fn.results.toList e1 0 .ret s'->a.defers=[]/\∃ v,(results fn a.tmps).run P w' = .ok v w'/\∃ ρ'' u,Ending.returned v = .returned u/\UR ρ'' (e1.sh fr).val u/\Fr w0.heap.size ρ ρ'' w w' {e1.sh fr with vc:=ps++(e1.sh fr).vc,st:=if plainE (e1.sh fr) then [] else kills (keepOwn hp (idsX hp args))}:=by
     intro hk;simp only [retK] at hk
     split at hk
     ·rename_i v qs hres;rw [allK_iff] at hk;obtain ⟨hq,hk⟩:=hk;generalize hfrz:frzSV s'.hp v e1.val=fz3 at hk;obtain ⟨v',fs,ids⟩:=fz3;dsimp only at hk;rw [allK_iff] at hk;obtain ⟨hfs,hk⟩:=hk
      split at hk
      rename_i la lb hla hlb
      split at hk
      rename_i hok;obtain ⟨hk1,hk2⟩:=all_append.1 (conj_all hk);obtain ⟨u,hu1,hu2⟩:=resS_spec htt hs' hres hq;have hu2':=frzSV_spec hs'.mem hfrz hfs (fun i hi ho=>keepOwn_mem.2 ⟨hi,ho⟩) hu2;have hfr0:=fr_freeze (B:=w.heap.size) hs'.mem.froz (keepOwn s'.hp ids) .junk [];have hmem':WH ⟨w,passF ρ w (keepOwn hp (idsX hp args)),fun _=>false,none⟩ (ρ'.frz w' (keepOwn s'.hp ids)) (kills (keepOwn s'.hp ids)++s'.hp) w':=by
       have:=wh_step hs'.mem hfr0 (fun i x hx=>stOK_kills i x hx) (fun _ _ h=>by simp [look] at h);exact this
      have hs2:SH ⟨w,passF ρ w (keepOwn hp (idsX hp args)),fun _=>false,none⟩ 0 {tm:=[],hp:=kills (keepOwn s'.hp ids)++s'.hp,nx:=s'.nx} (ρ'.frz w' (keepOwn s'.hp ids)) {a with tmps:=#[]} w':=⟨⟨rfl,hs'.slots.defers,fun t x hx=>by simp [look] at hx⟩,hmem',hs'.fresh⟩;generalize hρ3:ρ'.frz w' (keepOwn s'.hp ids)=ρ3 at hu2' hmem' hs2;have hle:=svL_spec hla hk1;have hhe:=heapL_spec hlb hk2;generalize mHeap (kills (keepOwn s'.hp ids)++s'.hp) e1.nw (mSV v' e1.val)=δ at *;unfold endOK at hok;simp only [Bool.and_eq_true] at hok;obtain ⟨⟨hinj,hnew⟩,hsv⟩:=hok;have hnj:e1.val ≠ .junk:=fun hj=>by rw [hj] at hsv;cases hsv
      have hu3:=ur_le hle hu2' hnj;have hw2:=(stLe_spec (δ:=δ) (t:={tm:=[],hp:=e1.nw,nx:=0+8}) ⟨trivial,hhe,hinj⟩ (fun h=>by cases h) hs2).mem;have hB:w0.heap.size<=w.heap.size:=hw.below.size;generalize hρr:ρ3.ren δ (0+8)=ρr at hu3 hw2;have hmu:ρr.mu=fun _=>false:=by rw [<- hρr,<- hρ3];exact hs'.mem.mu0
      have hf0:ρr.f0=passF ρ w (keepOwn hp (idsX hp args)):=by rw [<- hρr,<- hρ3];exact hs'.mem.f00
      replace hu3:=ur_sh (n:=fr) hu3
      replace hw2:=wh_sh fr rfl hw2
      replace hnew:=newOK_sh (n:=fr) hnew
      replace hsv:=svIn_sh (n:=fr) hsv
      replace hmu:(ρr.sh fr).mu=fun _=>false:=hmu
      replace hf0:(ρr.sh fr).f0=passF ρ w (keepOwn hp (idsX hp args)):=hf0
      clear hρr hinj hnj hle hhe;generalize ρr.sh fr=ρr at *;generalize hE:e1.sh fr=e at *;have hEn:shH fr e1.nw=e.nw:=by rw [<- hE];rfl
      have hEv:e1.val.sh fr=e.val:=by rw [<- hE];rfl
      dsimp only at hw2;rw [hEn] at hw2 hnew hsv;rw [hEv] at hu3 hsv
      let ρ2:Map:={m:=fun i=>if nin i (keys e.nw) then ρr i else ρ i,cap:=fun i=>if nin i (keys e.nw) then ρr.cap i else ρ.cap i,fz:=if plainE e then ρ.fz else ρr.fz,f0:=ρ.f0,mu:=ρ.mu,kid:=ρ.kid}
      have ag:∀ i,nin i (keys e.nw)=true -> ρ2 i=ρr i /\ ρ2.cap i=ρr.cap i:=fun i hi=>⟨by simp only [ρ2];rw [if_pos hi],by simp only [ρ2];rw [if_pos hi]⟩
      have off:∀ i,nin i (keys e.nw)=false -> ρ2 i=ρ i:=fun i hi=>by simp only [ρ2];rw [if_neg (by rw [hi];simp)]
      have oldKey:∀ i,(ρ i).isSome=true->nin i (keys e.nw)=false:=fun i hi=>by
       cases hn:nin i (keys e.nw) with
       |false=>rfl
       |true=>
        obtain ⟨x,hx⟩:=Option.isSome_iff_exists.1 (nin_keys.1 hn);rw [hfr i x hx] at hi;cases hi
      have fzle:FzLe ρ.fz ρr.fz:=fun b cs hb=>hw2.sub b cs (by rw [hf0];exact passF_le _ _ _ b cs hb)
      have ownNew:∀ i x,look e.nw i=some x->(ρr i).isSome=true->w.heap.size<=ρr.blk i /\ ρr.fz (ρr.blk i)=none:=fun i x hx hi=>by
       obtain ⟨ho,_⟩:=newOK_spec hnew i x hx;obtain ⟨hM,_⟩:=erel_some (hw2.ents i x hx) (Ent.pl_own ho) hi;refine ⟨?_,hM.2⟩
       rcases hM.1 with h |h
       ·exact h
       ·rw [hmu] at h;cases h
      have blk2:∀ i,nin i (keys e.nw)=true -> ρ2.blk i=ρr.blk i:=fun i hi=>by simp [Map.blk,(ag i hi).1]
      have hzz:ρ2.fz=ρr.fz ∨ plainE e=true:=by
       cases hpl:plainE e with
       |true=>exact .inr rfl
       |false=>left;simp only [ρ2,hpl];rfl
      refine ⟨hs'.slots.defers,u,hu1,ρ2,u,rfl,ur_in ag (hzz.imp (fun h=>h) fun h=>by unfold plainE at h;exact (Bool.and_eq_true _ _ ▸ h).1) hsv hu3,?_⟩;refine ⟨⟨fun i p hi=>?_,fun i hi=>?_,?_,rfl,rfl⟩,fun i hi=>?_,⟨hs'.mem.below.os,hs'.mem.below.tape,hs'.mem.below.output,hs'.mem.below.size,fun k hk=>absurd hk (Nat.not_lt_zero k)⟩,fun b hb' _=>hs'.mem.below.block b hb' (by rw [hs'.mem.mu0]),fun i x hx=>?_,fun i x hx=>?_,fun i j x y hx hy hne hii hjj=>?_,fun b cs hb=>?_,rfl⟩
      ·rw [off i (oldKey i (by rw [hi];rfl))];exact hi
      ·have:=oldKey i hi;simp only [ρ2];rw [if_neg (by rw [this];simp)]
      ·simp only [ρ2];split
       ·exact fun _ _ h=>h
       ·exact fzle
      ·have hi':look e.nw i=none:=hi;refine off i ?_
       cases hn:nin i (keys e.nw) with
       |false=>rfl
       |true=>rw [nin_keys,hi'] at hn;cases hn
      ·have hx':look (if plainE e then [] else kills (keepOwn hp (idsX hp args))) i=some x:=hx
       split at hx'
       ·simp [look] at hx'
       ·rw [(kills_look hx').1];trivial
      ·have hx':look e.nw i=some x:=hx;obtain ⟨ho,_,_,hni⟩:=newOK_spec hnew i x hx';have hki:nin i (keys e.nw)=true:=nin_keys.2 (by rw [hx'];rfl);refine ⟨erel_in ag hki (hzz.imp (fun h=>h) fun h=>by unfold plainE at h;exact plainH_spec (Bool.and_eq_true _ _ ▸ h).2 i x hx') hni (fun hi=>?_) (hw2.ents i x hx'),fun hi=>.inl ?_,ho⟩
       ·obtain ⟨g1,g2⟩:=ownNew i x hx' hi;refine ⟨.inl (by omega),?_⟩;simp only [ρ2];split
        ·exact hw.froz.new g1
        ·exact g2
       ·rw [blk2 i hki];exact (ownNew i x hx' (by rw [<- (ag i hki).1];exact hi)).1
      ·have hx':look e.nw i=some x:=hx;have hy':look e.nw j=some y:=hy;have hki:nin i (keys e.nw)=true:=nin_keys.2 (by rw [hx'];rfl);have hkj:nin j (keys e.nw)=true:=nin_keys.2 (by rw [hy'];rfl);rw [blk2 i hki,blk2 j hkj];exact hw2.apart i j x y hx' hy' (Ent.pl_own (newOK_spec hnew i x hx').1) (Ent.pl_own (newOK_spec hnew j y hy').1) hne (by rw [<- (ag i hki).1];exact hii) (by rw [<- (ag j hkj).1];exact hjj)
      ·cases hpl:plainE e with
       |true=>
        left
        have:ρ2.fz b=some cs:=hb;simp only [ρ2,hpl] at this;exact this
       |false=>
        have hb2:ρr.fz b=some cs:=by
         have:ρ2.fz b=some cs:=hb;simp only [ρ2,hpl] at this;exact this
        have hnw:∀ i x,look e.nw i=some x->(ρ2 i).isSome=true -> ρ2.blk i≠b:=fun i x hx hi hbb=>by
         have hki:nin i (keys e.nw)=true:=nin_keys.2 (by rw [hx];rfl);obtain ⟨_,g2⟩:=ownNew i x hx (by rw [<- (ag i hki).1];exact hi);rw [<- blk2 i hki,hbb,hb2] at g2;cases g2
        rcases hw2.old b cs hb2 with h1 |h1 |h1
        ·rw [hf0] at h1
         rcases passF_some h1 with h2 |⟨⟨i,hi,hsi,hbi⟩,_⟩
         ·exact .inl h2
         ·exact .inr ⟨.inr ⟨i,by simp only [Bool.false_eq_true,↓reduceIte];exact kills_mem hi,hsi,hbi.symm⟩,hw2.froz b cs hb2,hnw⟩
        ·exact .inr ⟨.inl h1,hw2.froz b cs hb2,hnw⟩
        ·rw [hmu] at h1;cases h1
      ·exact hk.elim
      ·exact hk.elim
     ·exact hk.elim
    cases ex with
    |normal=>simp only [exOf,Option.some.injEq] at hex;subst hex;exact done hk
    |ret=>simp only [exOf,Option.some.injEq] at hex;subst hex;exact done hk
    |exit i=>simp only [exOf,Option.some.injEq] at hex;subst hex;exact hk.elim
    |goto l=>cases hex
    |panic ch=>cases hex
    |outgrown=>cases hex
   ·intro t x hx;obtain ⟨_,h2⟩:=slots0_look svs 0 t x hx;obtain ⟨v,hv,hr⟩:=args_get hrel (by simpa using h2);have hlt:=lt_of_get hv;have:(vs.toArray++Array.replicate (fn.ntmps-vs.toArray.size) undef).getD t undef=v:=by
     simp only [Array.getD_eq_getD_getElem?];rw [Array.getElem?_append_left (by simpa using hlt)];simp [hv]
    rw [this];exact ur_vrel hr
  ·cases h0
 ·cases h0
theorem fn_obS {P:Program} {tt:TT} (htt:TTOK P tt) (hm:P.follows .mixedOrders=true) {f:FuncId} {fn:Func} {c:Code} (hf:P.funcs[f]? = some fn) (hb:fn.body=some c) (hen:∀ (args:Array Value) (w:World),(callFunc f args).run P w = .ok (.enter f args) w)
 {A:List Dat->Ann} (hC:∀ ds id,CtxOK P ((A ds).C id)) {aps:List AP} {spec:List Dat->Option Eff} (hn:Nat.ble aps.length fn.ntmps=true)
 (H:∀ ds,Ob tt fn.ntmps (A ds) c fn.results.toList 0 (spec ds) (unP aps ds 0)):ConOK P f (conS aps spec):=
 fn_okS htt hm hf hb hen hC hn fun ds e svs h id he hvc hun=>by
  have:=H ds;rw [he,hun] at this;exact allI_iff.1 this hvc
end Go.Proofs.YtplejbgafjpomaaGreatDoor.Sx
