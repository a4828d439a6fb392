import Derived.Test.YtcfkhnlkfgmoiaaZf12
set_option linter.unusedVariables false
set_option linter.unusedSimpArgs false
namespace Go.Proofs.Ytcfkhnlkfgmoiaa.Sx
open Go.RowKit
def okK:K->Bool | .other=>false |_=>true
def acK:K->AC | .int k=>.int k | .bool=>.bool | .str=>.str | .slice e=>.rows e | .other=>.any
def datK:K->D->Dat | .int _,d=>.i d.toI | .bool,d=>.b d.toB | .str,d=>.s d.toS | .slice _,d=>.d d | .other,_=>.i 0
def kSC:K->D->SC | .int k,d=>.int k (.sym d.toI) | .bool,d=>.bool (.sym d.toB) | .str,d=>.raw (.string d.toS) | .slice e,d=>.rows e d | .other,_=>.nils
def elDs:List K->List D->Nat->List Dat
 | [],_,_=>[]
 |k::r,l,j=>datK k (l.getD j (.i 0))::elDs r l (j+1)
def elSg:List K->List D->Nat->List Seg
 | [],_,_=>[]
 |k::r,l,j=>.c (kSC k (l.getD j (.i 0)))::elSg r l (j+1)
def elP (ag:Bool) (ks:List K):AP:=match ag with |true=>.agg (ks.map fun k=>.c (acK k)) |false=>.sc (acK (ks.headD .other))
def elSV (ag:Bool) (ks:List K) (l:List D):V1:=match ag with |true=>.agg (elSg ks l 0) |false=>.sc (kSC (ks.headD .other) (l.getD 0 (.i 0)))
theorem kEq_self (k:IntKind):kEq k k=true:=by cases k<;>rfl
theorem flC_k {hp:Heap} {k:K} (h:okK k=true) (d:D):flC hp (acK k) (kSC k d)=some (datK k d,[]):=by
 cases k with
 |int k=>simp [flC,acK,kSC,datK,kEq_self,SI.v]
 |bool=>simp [flC,acK,kSC,datK,SB.v]
 |str=>simp [flC,acK,kSC,datK]
 |slice e=>simp [flC,acK,kSC,datK,conE]
 |other=>cases h
theorem flG_k {hp:Heap}:∀ {ks:List K},ks.all okK=true->∀ (l:List D) (j:Nat),flG hp (ks.map fun k=>.c (acK k)) (elSg ks l j)=some (elDs ks l j,[])
 | [],_,l,j=>rfl
 |k::r,h,l,j=>by
  simp only [List.all_cons,Bool.and_eq_true] at h;simp only [List.map_cons,elSg,flG,flC_k h.1,flG_k h.2,elDs,List.append_nil]
theorem kSC_rel {ρ:Map} {k:K} {d:D} {v:Value} (h:TRel ρ.fz k d v):CRel ρ (kSC k d) v:=by
 cases k with
 |int k=>cases h;rfl
 |bool=>cases h;rfl
 |str=>cases h;rfl
 |slice e=>exact h
 |other=>cases h
theorem elSg_rel {ρ:Map}:∀ {ks:List K} {l:List D} {j:Nat} {cs:List Value},cs.length=ks.length->(∀ (i:Nat) k,ks[i]? = some k->∃ u,cs[i]? = some u/\TRel ρ.fz k (l.getD (j+i) (.i 0)) u)->CsRel ρ (cellsOf (elSg ks l j)) cs
 | [],l,j,cs,hl,_=>by
   have:cs=[]:=List.length_eq_zero_iff.1 hl;subst this;exact ⟨rfl,fun i x v hx=>by simp [cellsOf,elSg] at hx⟩
 |k::r,l,j,[],hl,_=>by simp at hl
 |k::r,l,j,c::cs,hl,h=>by
  obtain ⟨u,hu,ht⟩:=h 0 k rfl;obtain rfl:c=u:=by simpa using hu
  have ih:=elSg_rel (ρ:=ρ) (ks:=r) (l:=l) (j:=j+1) (cs:=cs) (by simpa using hl) fun i k' hk=>by
   obtain ⟨u,hu,ht⟩:=h (i+1) k' (by simpa using hk);exact ⟨u,by simpa using hu,by rw [show j+1+i=j+(i+1) by omega];exact ht⟩
  rw [show elSg (k::r) l j = .c (kSC k (l.getD j (.i 0)))::elSg r l (j+1) from rfl,cellsOf_cons];refine csrel_cons.2 ⟨[c],cs,rfl,⟨rfl,fun i x v hx hv=>?_⟩,ih⟩
  cases i with
  |zero=>
   obtain rfl:=by simpa [Seg.cells] using hx
   obtain rfl:c=v:=by simpa using hv
   exact kSC_rel ht
  |succ i=>simp at hv
structure FC where
 a:AC
 ag:Bool
 e:TypeId
 p:Dat->Option ((List D->Bool) × (List D->Prop))
def ptO (hp:Heap) (id:Nat):Option SC:=match look hp id with |some (.ro [.c x])=>some x |some (.own _ [.c x])=>some x |_=>none
def mkClo (fc:FC) (hp:Heap):List SV->Option Eff
 | [.one (.sc (.ptr id (.lit 0)))]=>(match ptO hp id with
   |some x=>if rowA fc.a then none else (match flC hp fc.a x with
    |some (d,ps)=>(match fc.p d with
     |some q=>some {val:=.one (.sc (.fn fc.ag fc.e q.1 q.2)),vc:=ps,st:=kills (keepOwn hp (id::idsC x))}
     |none=>none)
    |none=>none)
   |none=>none)
 |_=>none
def conF (fc:FC) (c:Con):Con:=fun hp fr args=>match args with
 | .junk::caps=>mkClo fc hp caps
 |args=>c hp fr args
def FcOK (g:FuncId) (fc:FC):Prop:=∀ d q,fc.p d=some q->∀ (z:Fz) (b o:Nat) (u:Value) (y:SC) (ρ:Map),ρ.fz=z->TabF z->unC0 fc.a d=some y->Fz.cell z b o=some u->CRel ρ y u->FnQ z fc.ag fc.e q.1 q.2 (.func (.func g) #[] #[.pointer (some ⟨b,o,none⟩)])
theorem unC_unC0 {a:AC} (ha:rowA a=false) {d:Dat} {id:Nat} {y:SC} {h:Heap} (hu:unC a d id=some (y,h)):unC0 a d=some y:=by
 cases a<;>cases d<;>first |(cases ha;done) |(simp [unC] at hu;done) |(simp only [unC,Option.some.injEq,Prod.mk.injEq] at hu;obtain ⟨rfl,rfl⟩:=hu;rfl)
theorem pt_rel {hp:Heap} {w0:W0} {w:World} {ρ:Map} (hw:WH w0 ρ hp w) {id:Nat} {x:SC} (h:ptO hp id=some x) {ids:List Nat} (hids:ownId hp id=true->id∈ids):∃ u,Fz.cell (passF ρ w ids) (ρ.blk id) (ρ.off id+0)=some u/\CRel ρ x u:=by
 unfold ptO at h
 split at h
 ·rename_i x' hl;obtain rfl:=by simpa using h
  obtain ⟨_,vs,hvs,hc⟩:=hw.ents id _ hl;obtain ⟨u,hu,hr⟩:=csrel_get hvs (show (cellsOf [.c x'])[0]? = some x' from rfl);exact ⟨u,(passF_le ρ w ids).cell (hc 0 u hu),hr⟩
 ·rename_i T x' hl;obtain rfl:=by simpa using h
  obtain ⟨hi,ho,_,vs,hvs,hh⟩:=hw.ents id _ hl;obtain ⟨u,hu,hr⟩:=csrel_get hvs (show (cellsOf [.c x'])[0]? = some x' from rfl);have:=passF_at hw.froz (hids (by simp [ownId,hl,Ent.isOwn])) hi hh;exact ⟨u,by rw [ho];simp only [Fz.cell,this];simpa using hu,hr⟩
 ·cases h
theorem conF_ok {g:FuncId} {fc:FC} {c:Con} (h:ConOK PG g c) (hf:FcOK g fc):ConOK PG g (conF fc c):=by
 refine ⟨h.enters,fun hp fr args e he hv w0 w ρ vs hw hn ha=>?_,fun hp fr caps e he hv w0 w ρ vs hw ha=>?_⟩
 ·have he':c hp fr args=some e:=by
   unfold conF at he
   split at he
   ·cases vs with
    |nil=>exact ha.elim
    |cons=>exact ha.1.elim
   ·exact he
  exact h.calls hp fr args e he' hv w0 w ρ vs hw hn ha
 ·replace he:mkClo fc hp caps=some e:=he
  unfold mkClo at he
  split at he
  ·rename_i id
   split at he
   ·rename_i x hx
    split at he
    ·cases he
    ·rename_i hra
     split at he
     ·rename_i d ps hd
      split at he
      ·rename_i q hq;obtain rfl:=by simpa using he
       match vs,ha with
       | [v],ha=>
         obtain ⟨hi,rfl⟩:=ha.1;obtain ⟨u,hu,hr⟩:=pt_rel hw hx (ids:=keepOwn hp (id::idsC x)) fun ho=>keepOwn_mem.2 ⟨List.mem_cons_self ..,ho⟩
         obtain ⟨y,hh,ρ1,hy,hin,hyr⟩:=unC_spec hd hv hw hr (ids:=keepOwn hp (id::idsC x)) (fun i hi ho=>keepOwn_mem.2 ⟨List.mem_cons_of_mem _ hi,ho⟩) 0;have hfn:=hf d q hq _ (ρ.blk id) (ρ.off id+0) u y ρ1 hin.hfz (TabF.mono (passF_le ρ w _) (TabF.mono hw.sub (hw.f00 ▸ hw.tab))) (unC_unC0 (by simpa using hra) hy) hu hyr;exact ⟨ρ.frz w (keepOwn hp (id::idsC x)),⟨_,fun _ _ h=>h,hfn⟩,fr_freeze hw.froz _ _ _⟩
      ·cases he
     ·cases he
   ·cases he
  ·cases he
theorem flC_0 {hp:Heap} {a:AC} (ha:rowA a=false) {d:Dat} {y:SC} (h:unC0 a d=some y):flC hp a y=some (d,[])/\rowy y=false:=by
 cases a<;>cases d<;>first |(cases ha;done) |(simp [unC0] at h;done) |(simp only [unC0,Option.some.injEq] at h;subst h;refine ⟨?_,rfl⟩;simp [flC,kEq_self,SI.v,SB.v,conE])
theorem fc_ok {g:FuncId} {fc:FC} {ks:List K} {spec:FSpec} (hks:eks fc.e=ks) (hno:ks.all okK=true) (h1:fc.ag=false->ks.length=1) (h:ConOK PG g (con [elP fc.ag ks,.sc (.pt fc.a)] spec)) (ha:rowA fc.a=false)
 (hs:∀ d q,fc.p d=some q->∀ l:List D,q.2 l->∃ vc,spec ((match fc.ag with |true=>elDs ks l 0 |false=>[datK (ks.headD .other) (l.getD 0 (.i 0))])++[d]) 0=some {val:=.one (.sc (.bool (.sym (q.1 l)))),vc:=vc}/\All vc):FcOK g fc:=by
 intro d q hq z b o u y ρ hz htab hy hc hr;refine ⟨g,_,rfl,h.enters,fun w fz' l x hle hfro hel hok=>?_⟩;obtain ⟨vc,hsp,hvc⟩:=hs d q hq l hok;obtain ⟨hfy,hry⟩:=flC_0 (hp:=[(0,.ro [.c y])]) ha hy;have hc':Fz.cell fz' b o=some u:=hle.cell hc;have hin:In fz' (Map.only fz' 0 (b,o)) 0 1 [(0,.ro [.c y])]:=in_ro hc' (by
  obtain ⟨y',hy',hrel⟩:=flC_unC0 (hp:=[]) (flC_0 (hp:=[]) ha hy).1 hry ha;rw [hy] at hy';obtain rfl:y=y':=by simpa using hy'
  exact hrel (ρ:=ρ) (ρ':=Map.only fz' 0 (b,o)) (by show FzLe ρ.fz fz';rw [hz];exact hle) hr)
 have hwh:WH ⟨w,fz',fun _=>false,none⟩ (Map.only fz' 0 (b,o)) [(0,.ro [.c y])] w:=by
  refine ⟨BelowM.refl _ _ _,fun i e he=>(hin.ents i e he).1 _ _,fun i j e f he _ ho=>?_,hfro,fun _ _ h=>h,rfl,rfl,fun _ _ h=>.inl h,fun _ h=>(by cases h),TabF.mono hle htab⟩;rw [(hin.ents i e he).2.1] at ho;cases ho
 have hpt:flC [(0,.ro [.c y])] (.pt fc.a) (.ptr 0 (.lit 0))=some (d,[]):=by
  have:ptC [(0,.ro [.c y])] 0=some y:=rfl;simp only [flC,this,hry,ha,Bool.or_false,Bool.false_eq_true,↓reduceIte,hfy]
 have hfl:flP [(0,.ro [.c y])] [elP fc.ag ks,.sc (.pt fc.a)] [.one (elSV fc.ag ks l),.one (.sc (.ptr 0 (.lit 0)))]=some ((match fc.ag with |true=>elDs ks l 0 |false=>[datK (ks.headD .other) (l.getD 0 (.i 0))])++[d],[]):=by
  cases hag:fc.ag with
  |true=>simp only [elP,elSV,flP,flG_k hno,hpt,List.append_nil]
  |false=>
   have hk:okK (ks.headD .other)=true:=by
    match ks,h1 hag,hno with
    | [k],_,hno=>simpa using hno
   simp only [elP,elSV,flP,flC_k hk,hpt,List.append_nil,List.cons_append,List.nil_append]
 have hcon:con [elP fc.ag ks,.sc (.pt fc.a)] spec [(0,.ro [.c y])] 0 [.one (elSV fc.ag ks l),.one (.sc (.ptr 0 (.lit 0)))]=some {val:=.one (.sc (.bool (.sym (q.1 l)))),vc:=vc}:=by
  unfold con;rw [hfl];simp only [hsp];simp [plainE,plainSV,plainV,plainC,plainH]
 have hargs:ArgsRel (Map.only fz' 0 (b,o)) [.one (elSV fc.ag ks l),.one (.sc (.ptr 0 (.lit 0)))] [x,.pointer (some ⟨b,o,none⟩)]:=by
  refine ⟨?_,⟨by simp [Map.only],by simp [Map.at,Map.blk,Map.off,Map.only,SO.v]⟩,trivial⟩
  cases hag:fc.ag with
  |true=>
   rw [hag] at hel;obtain ⟨cs,rfl,hl,hcs⟩:=hel;rw [hks] at hl hcs;exact ⟨cs.toArray,rfl,elSg_rel (by simpa using hl) fun i k hk=>by rw [Nat.zero_add];exact hcs i k hk⟩
  |false=>
   rw [hag] at hel;obtain ⟨k,hk,ht⟩:=hel;rw [hks] at hk;subst hk;exact kSC_rel (ρ:=Map.only fz' 0 (b,o)) ht
 have:=h.calls [(0,.ro [.c y])] 0 _ _ hcon hvc _ w _ _ hwh (fun _ _ h=>by simp [look] at h) hargs;refine this.mono ?_
 rintro en w' ⟨ρ',v,rfl,g1,g2⟩;refine ⟨?_,g2.below.1,g2.below.2,g2.below.3,g2.below.size,fun k hk=>g2.keep k hk fun _ _ h=>by simp [look] at h⟩;have:v = .bool (q.1 l):=g1;rw [this]
end Go.Proofs.Ytcfkhnlkfgmoiaa.Sx
namespace Go.Proofs.Ytcfkhnlkfgmoiaa.Sx
open Go.RowKit
def FSpec.under (spec:FSpec) (μ:List Dat->Nat) (m:Nat):FSpec:=fun ds fr=>match spec ds fr with
 |some e=>some {e with vc:=(μ ds<m)::e.vc}
 |none=>none
theorem con_rec {P:Program} {f:FuncId} {aps:List AP} {spec:FSpec} (μ:List Dat->Nat) (hen:∀ (args:Array Value) (w:World),(callFunc f args).run P w = .ok (.enter f args) w) (H:∀ m,ConOK P f (con aps (spec.under μ m))->ConOK P f (con aps (spec.under μ (m+1)))):ConOK P f (con aps spec):=by
 have all:∀ m,ConOK P f (con aps (spec.under μ m)):=fun m=>by
  induction m with
  |zero=>
   refine ⟨hen,fun hp fr args e he hv=>?_,fun hp fr caps e h=>by rw [con_jf] at h;cases h⟩;exfalso;unfold con at he
   split at he
   ·rename_i ds ps hfl
    split at he
    ·rename_i e' hs;unfold FSpec.under at hs
     split at hs
     ·rename_i e2 h2;simp only [Option.some.injEq] at hs he;subst hs;subst he;exact Nat.not_lt_zero _ (all_append.1 hv).2.1
     ·cases hs
    ·cases he
   ·cases he
  |succ m ih=>exact H m ih
 refine ⟨hen,fun hp fr args e he hv=>?_,fun hp fr caps e h=>by rw [con_jf] at h;cases h⟩;have he0:=he;unfold con at he
 split at he
 ·rename_i ds ps hfl
  split at he
  ·rename_i e' hs;simp only [Option.some.injEq] at he;subst he;have hu:con aps (spec.under μ (μ ds+1)) hp fr args=some {e' with vc:=ps++(μ ds < μ ds+1)::e'.vc,st:=if plainE e' then [] else kills (keepOwn hp (idsX hp args))}:=by
    unfold con;rw [hfl];show (match spec.under μ (μ ds+1) ds fr with |some e=>some {e with vc:=ps++e.vc,st:=if plainE e then [] else kills (keepOwn hp (idsX hp args))} |none=>none)=_;unfold FSpec.under;rw [hs];rfl
   intro w0 w ρ vs hw hn ha;have ha2:=all_append.1 hv;exact ((all (μ ds+1)).calls hp fr args _ hu (all_append.2 ⟨ha2.1,Nat.lt_succ_self _,ha2.2⟩) w0 w ρ vs hw hn ha).mono fun en w' h=>by
    obtain ⟨ρ',v,h1,h2,h3⟩:=h;exact ⟨ρ',v,h1,h2,⟨h3.ext,h3.only,h3.below,h3.keep,h3.st,h3.nw,h3.apart,h3.fz⟩⟩
  ·cases he
 ·cases he
end Go.Proofs.Ytcfkhnlkfgmoiaa.Sx
namespace Go.Proofs.Ytcfkhnlkfgmoiaa.Sx
open Go.RowKit
def SC.sh (n:Nat):SC->SC
 | .ptr id o=>.ptr (n+id) o
 | .slice id o l=>.slice (n+id) o l
 | .osl e id lo k=>.osl e (n+id) lo k
 | .optr e id i j=>.optr e (n+id) i j
 | .bm g id=>.bm g (n+id)
 |x=>x
def Seg.sh (n:Nat):Seg->Seg | .c x=>.c (x.sh n) | .ints k m f=>.ints k m f
def shS (n:Nat):List Seg->List Seg
 | []=>[]
 |s::r=>s.sh n::shS n r
def V1.sh (n:Nat):V1->V1 | .sc c=>.sc (c.sh n) | .agg l=>.agg (shS n l)
def shT (n:Nat):List V1->List V1
 | []=>[]
 |x::r=>x.sh n::shT n r
def SV.sh (n:Nat):SV->SV | .one x=>.one (x.sh n) | .tup l=>.tup (shT n l) |x=>x
def Ent.sh (n:Nat):Ent->Ent | .own T l=>.own T (shS n l) | .row T l=>.row T (shS n l) | .ro l=>.ro (shS n l) |x=>x
def shH (n:Nat):Heap->Heap
 | []=>[]
 |(i,x)::r=>(n+i,x.sh n)::shH n r
def Eff.sh (n:Nat) (e:Eff):Eff:={e with val:=e.val.sh n,nw:=shH n e.nw}
def Map.sh (ρ:Map) (n:Nat):Map:={ρ with m:=fun i=>if n<=i then ρ (i-n) else none,cap:=fun i=>ρ.cap (i-n)}
theorem sh_at (ρ:Map) (n i:Nat):(ρ.sh n) (n+i)=ρ i:=by
 show (if n<=n+i then ρ (n+i-n) else none)=ρ i;rw [if_pos (Nat.le_add_right n i),Nat.add_sub_cancel_left]
theorem sh_blk (ρ:Map) (n i:Nat):(ρ.sh n).blk (n+i)=ρ.blk i:=by unfold Map.blk;rw [sh_at]
theorem sh_off (ρ:Map) (n i:Nat):(ρ.sh n).off (n+i)=ρ.off i:=by unfold Map.off;rw [sh_at]
theorem sh_addr (ρ:Map) (n i o:Nat):(ρ.sh n).at (n+i) o=ρ.at i o:=by unfold Map.at;rw [sh_blk,sh_off]
theorem sh_cap (ρ:Map) (n i:Nat):(ρ.sh n).cap (n+i)=ρ.cap i:=by show ρ.cap (n+i-n)=_;rw [Nat.add_sub_cancel_left]
theorem crel_sh {ρ:Map} {n:Nat} {x:SC} {v:Value} (h:CRel ρ x v):CRel (ρ.sh n) (x.sh n) v:=by
 cases x with
 |ptr id o=>exact ⟨by rw [sh_at];exact h.1,by rw [sh_addr];exact h.2⟩
 |slice id o l=>
  obtain ⟨A,c,h1,h2,h3⟩:=h;exact ⟨A,c,h1,h2,h3.imp (fun ⟨a,b⟩=>⟨by rw [sh_at];exact a,by rw [sh_addr];exact b⟩) fun q=>q⟩
 |osl e id lo k=>
  obtain ⟨A,c,h1,h2,h3⟩:=h;exact ⟨A,c,h1,h2,h3.imp (fun q=>q) fun ⟨a,b,d⟩=>⟨by rw [sh_blk];exact a,by rw [sh_cap];exact b,by rw [sh_at];exact d⟩⟩
 |optr e id i j=>exact ⟨by rw [sh_at];exact h.1,by rw [sh_blk];exact h.2⟩
 |bm g id=>exact ⟨by rw [sh_at];exact h.1,by rw [sh_addr];exact h.2⟩
 |_=>exact h
theorem cells_sh (n:Nat):∀ l:List Seg,cellsOf (shS n l)=(cellsOf l).map (SC.sh n)
 | []=>rfl
 | .c x::r=>by
   have e1:cellsOf (shS n (.c x::r))=(Seg.c (x.sh n)).cells++cellsOf (shS n r):=cellsOf_cons _ _;rw [e1,cellsOf_cons,cells_sh n r,List.map_append];rfl
 | .ints k m f::r=>by
   have e1:cellsOf (shS n (.ints k m f::r))=(Seg.ints k m f).cells++cellsOf (shS n r):=cellsOf_cons _ _;rw [e1,cellsOf_cons,cells_sh n r,List.map_append]
   congr 1
   simp [Seg.cells,SC.sh]
theorem csrel_sh {ρ:Map} {n:Nat} {l:List Seg} {vs:List Value} (h:CsRel ρ (cellsOf l) vs):CsRel (ρ.sh n) (cellsOf (shS n l)) vs:=by
 rw [cells_sh];refine ⟨by rw [List.length_map];exact h.1,fun i x v hx hv=>?_⟩;rw [List.getElem?_map] at hx
 cases hl:(cellsOf l)[i]? with
 |none=>rw [hl] at hx;cases hx
 |some y=>
  rw [hl] at hx;obtain rfl:y.sh n=x:=by simpa using hx
  exact crel_sh (h.2 i y v hl hv)
theorem v1_sh {ρ:Map} {n:Nat} {x:V1} {v:Value} (h:V1Rel ρ x v):V1Rel (ρ.sh n) (x.sh n) v:=by
 cases x with
 |sc c=>exact crel_sh h
 |agg l=>obtain ⟨cs,h1,h2⟩:=h;exact ⟨cs,h1,csrel_sh h2⟩
theorem tup_sh {ρ:Map} {n:Nat}:∀ {l:List V1} {vs:List Value},TupRel ρ l vs->TupRel (ρ.sh n) (shT n l) vs
 | [],[],_=>trivial
 | [],_::_,h=>h.elim
 |_::_,[],h=>h.elim
 |_::_,_::_,h=>⟨v1_sh h.1,tup_sh h.2⟩
theorem ur_sh {ρ:Map} {n:Nat} {x:SV} {v:Value} (h:UR ρ x v):UR (ρ.sh n) (x.sh n) v:=by
 cases x with
 |one x=>exact v1_sh h
 |tup l=>obtain ⟨vs,h1,h2⟩:=h;exact ⟨vs,h1,tup_sh h2⟩
 |cond g x=>exact h
 |junk=>exact h
theorem own_sh (n:Nat) (x:Ent):(x.sh n).isOwn=x.isOwn:=by cases x<;>rfl
theorem erel_sh {B n id:Nat} {ρ:Map} {w:World} {x:Ent} (h:ERel B ρ w id x):ERel B (ρ.sh n) w (n+id) (x.sh n):=by
 cases x with
 |own T l=>
  obtain ⟨h1,h2,h3,vs,h4,h5⟩:=h;exact ⟨by rw [sh_at];exact h1,by rw [sh_off];exact h2,by rw [sh_blk];exact h3,vs,csrel_sh h4,by rw [sh_blk];exact h5⟩
 |row T l=>
  obtain ⟨h1,h2,h3,vs,rest,h4,h5⟩:=h;exact ⟨by rw [sh_at];exact h1,by rw [sh_off];exact h2,by rw [sh_blk];exact h3,vs,rest,csrel_sh h4,by rw [sh_blk];exact h5⟩
 |orow e d=>
  rcases h with ⟨h1,h2⟩ |⟨h1,h2,h3,h4⟩
  ·exact .inl ⟨by rw [sh_at];exact h1,h2⟩
  ·exact .inr ⟨by rw [sh_at];exact h1,by rw [sh_off];exact h2,by rw [sh_blk];exact h3,by rw [sh_blk,sh_cap];exact h4⟩
 |ro l=>
  obtain ⟨h1,vs,h2,h3⟩:=h;exact ⟨by rw [sh_at];exact h1,vs,csrel_sh h2,by rw [sh_blk,sh_off];exact h3⟩
 |gone=>trivial
theorem look_sh (n:Nat):∀ (h:Heap) (k:Nat),look (shH n h) (n+k)=(look h k).map (Ent.sh n)
 | [],_=>rfl
 |(i,x)::r,k=>by
  simp only [shH,look]
  by_cases hk:i=k
  ·subst hk;simp
  ·have h1:¬ ((i==k)=true):=by simpa using hk
   have h2:¬ ((n+i==n+k)=true):=by simp;omega
   rw [if_neg h1,if_neg h2,look_sh n r k]
theorem look_sh_low (n:Nat):∀ (h:Heap) (k:Nat),k<n->look (shH n h) k=none
 | [],_,_=>rfl
 |(i,x)::r,k,hk=>by
  simp only [shH,look];have h2:¬ ((n+i==k)=true):=by simp;omega
  rw [if_neg h2,look_sh_low n r k hk]
theorem look_sh_some {n:Nat} {h:Heap} {k:Nat} {x:Ent} (hx:look (shH n h) k=some x):∃ j y,k=n+j/\look h j=some y/\x=y.sh n:=by
 by_cases hk:k<n
 ·rw [look_sh_low n h k hk] at hx;cases hx
 ·have e:k=n+(k-n):=by omega
  rw [e,look_sh] at hx
  cases hl:look h (k-n) with
  |none=>rw [hl] at hx;cases hx
  |some y=>rw [hl] at hx;exact ⟨k-n,y,e,hl,by simpa using hx.symm⟩
theorem wh_sh {w0:W0} {ρ:Map} {h:Heap} {w:World} (n:Nat) (h0:w0.anc=none) (hw:WH w0 ρ h w):WH w0 (ρ.sh n) (shH n h) w:=by
 refine ⟨hw.below,fun id e he=>?_,fun i j e f he hf h1 h2 hne hi hj=>?_,hw.froz,hw.sub,hw.mu0,hw.f00,hw.old,fun p hp=>(by rw [h0] at hp;cases hp),hw.tab⟩
 ·obtain ⟨j,y,rfl,hl,rfl⟩:=look_sh_some he;exact erel_sh (hw.ents j y hl)
 ·obtain ⟨i',y,rfl,hl,rfl⟩:=look_sh_some he;obtain ⟨j',z,rfl,hm,rfl⟩:=look_sh_some hf;rw [own_sh] at h1 h2;rw [sh_at] at hi hj;rw [sh_blk,sh_blk];exact hw.apart i' j' y z hl hm h1 h2 (by omega) hi hj
theorem nin_sh {n:Nat} {h:Heap} {id:Nat} (hi:nin id (keys h)=true):nin (n+id) (keys (shH n h))=true:=by
 rw [nin_keys] at hi ⊢;rw [look_sh]
 simpa using hi
theorem scIn_sh {n:Nat} {h:Heap} {x:SC} (hx:scIn (keys h) x=true):scIn (keys (shH n h)) (x.sh n)=true:=by
 cases x<;>first |exact nin_sh hx |exact hx
theorem segsIn_sh {n:Nat} {h:Heap}:∀ {l:List Seg},segsIn (keys h) l=true->segsIn (keys (shH n h)) (shS n l)=true
 | [],_=>rfl
 | .c x::r,hx=>by
   simp only [segsIn,Bool.and_eq_true] at hx;show (scIn (keys (shH n h)) (x.sh n)&&segsIn (keys (shH n h)) (shS n r))=true;rw [scIn_sh hx.1,segsIn_sh hx.2];rfl
 | .ints k m f::r,hx=>by
   simp only [segsIn] at hx;exact segsIn_sh (l:=r) hx
theorem v1In_sh {n:Nat} {h:Heap} {x:V1} (hx:v1In (keys h) x=true):v1In (keys (shH n h)) (x.sh n)=true:=by
 cases x with
 |sc c=>exact scIn_sh hx
 |agg l=>exact segsIn_sh hx
theorem tupIn_sh {n:Nat} {h:Heap}:∀ {l:List V1},l.all (v1In (keys h))=true->(shT n l).all (v1In (keys (shH n h)))=true
 | [],_=>rfl
 |x::r,hx=>by
  simp only [List.all_cons,Bool.and_eq_true] at hx;show ((x.sh n::shT n r).all _)=true;simp only [List.all_cons,Bool.and_eq_true];exact ⟨v1In_sh hx.1,tupIn_sh hx.2⟩
theorem svIn_sh {n:Nat} {h:Heap} {x:SV} (hx:svIn (keys h) x=true):svIn (keys (shH n h)) (x.sh n)=true:=by
 cases x with
 |one x=>exact v1In_sh hx
 |tup l=>exact tupIn_sh hx
 |cond g x=>cases hx
 |junk=>cases hx
theorem newOK_sh {n:Nat} {g:Heap}:∀ {h:Heap},newOK (keys g) 0 h=true->newOK (keys (shH n g)) n (shH n h)=true
 | [],_=>rfl
 |(i,.own T l)::r,hx=>by
  simp only [newOK,Bool.and_eq_true,Nat.ble_eq,Nat.blt_eq] at hx;show newOK (keys (shH n g)) n ((n+i,.own T (shS n l))::shH n r)=true;simp only [newOK,Bool.and_eq_true,Nat.ble_eq,Nat.blt_eq];exact ⟨⟨⟨by omega,by omega⟩,segsIn_sh hx.1.2⟩,newOK_sh hx.2⟩
 |(i,.row T l)::r,hx=>by
  simp only [newOK,Bool.and_eq_true,Nat.ble_eq,Nat.blt_eq] at hx;show newOK (keys (shH n g)) n ((n+i,.row T (shS n l))::shH n r)=true;simp only [newOK,Bool.and_eq_true,Nat.ble_eq,Nat.blt_eq];exact ⟨⟨⟨by omega,by omega⟩,segsIn_sh hx.1.2⟩,newOK_sh hx.2⟩
 |(i,.orow e d)::r,hx=>by
  simp only [newOK,Bool.and_eq_true,Nat.ble_eq,Nat.blt_eq] at hx;show newOK (keys (shH n g)) n ((n+i,.orow e d)::shH n r)=true;simp only [newOK,Bool.and_eq_true,Nat.ble_eq,Nat.blt_eq];exact ⟨⟨by omega,by omega⟩,newOK_sh hx.2⟩
 |(i,.ro l)::r,hx=>by cases hx
 |(i,.gone)::r,hx=>by cases hx
def conS (aps:List AP) (spec:List Dat->Option Eff):Con:=con aps fun ds fr=>match spec ds with
 |some e=>some (e.sh fr)
 |none=>none
theorem fn_okS {P:Program} {tt:TT} (htt:TTOK P tt) (hm:P.follows .mixedOrders=true) {f:FuncId} {fn:Func} {c:Code} (hf:P.funcs[f]? = some fn) (hb:fn.body=some c) (hen:∀ (args:Array Value) (w:World),(callFunc f args).run P w = .ok (.enter f args) w)
 {A:List Dat->Ann} (hC:∀ ds id,CtxOK P ((A ds).C id)) {aps:List AP} {spec:List Dat->Option Eff} (hn:Nat.ble aps.length fn.ntmps=true)
 (H:∀ ds e svs h id,spec ds=some e->All e.vc->unP aps ds 0=some (svs,h,id)->sx tt fn.ntmps (A ds) LF c (retK tt fn.results.toList e 0) {tm:=slots0 svs 0,hp:=h,nx:=id}):ConOK P f (conS aps spec):=by
 refine ⟨hen,?_,fun hp fr caps e h=>by unfold conS at h;rw [con_jf] at h;cases h⟩;intro hp fr args e0 h0 hvc w0 w ρ vs hw hfr hargs;unfold conS con at h0
 split at h0
 ·rename_i ds ps hds
  split at h0
  ·rename_i e he0;have hes:∃ e1,spec ds=some e1/\e=e1.sh fr:=by
    dsimp only at he0
    split at he0
    ·rename_i e1 h1;exact ⟨e1,h1,by simpa using he0.symm⟩
    ·cases he0
   obtain ⟨e1,he,rfl⟩:=hes;obtain rfl:=by simpa using h0
   obtain ⟨hp1,hp2⟩:=all_append.1 hvc;have hidsAll:∀ i∈idsX hp args,ownId hp i=true->i∈keepOwn hp (idsX hp args):=fun i hi ho=>keepOwn_mem.2 ⟨hi,ho⟩
   obtain ⟨svs,h,ρ1,id,hun,_,hin,hrel⟩:=unP_spec hw aps args ds ps hds hp1 vs hargs hidsAll 0;have hsx:=H ds e1 svs h id he hp2 hun;have hlen:vs.length<=fn.ntmps:=by
    have h1:=unP_len aps ds 0 svs h id hun;have h2:=args_len hrel;have:=Nat.le_of_ble_eq_true hn;omega
   have hsz:(vs.toArray++Array.replicate (fn.ntmps-vs.toArray.size) undef).size=fn.ntmps:=by simp;omega
   have hwh:WH ⟨w,passF ρ w (keepOwn hp (idsX hp args)),fun _=>false,none⟩ ρ1 h w:=by
    refine ⟨BelowM.refl _ _ _,fun i x hx=>(hin.ents i x hx).1 _ _,fun i j x y hx _ ho=>?_,fun b cs hb=>?_,fun b cs hb=>?_,hin.hmu,hin.hf0,fun b cs hb=>.inl ?_,fun _ h=>(by cases h),hw.tabP _⟩
    ·have:=(hin.ents i x hx).2.1;rw [this] at ho;cases ho
    ·rw [hin.hfz] at hb;exact passF_froz hw.froz hb
    ·rw [hin.hf0] at hb;rw [hin.hfz];exact hb
    ·rw [hin.hfz] at hb;rw [hin.hf0];exact hb
   refine calls_of_wp hf hb ?_
   refine sx_spec htt hm (hC ds) (w0:=⟨w,passF ρ w (keepOwn hp (idsX hp args)),fun _=>false,none⟩) (lf_spec rfl) c _ _ hsx _ ?_ ρ1 _ w ⟨⟨hsz,rfl,?_⟩,hwh,fun i hi=>hin.out i (.inr hi)⟩
   ·intro ex xx s' ρ' a w' hex hk hs';have done:retK tt fn.results.toList e1 0 .ret s'->a.defers=[]/\∃ v,(results fn a.tmps).run P w' = .ok v w'/\∃ ρ'' u,Ending.returned v = .returned u/\UR ρ'' (e1.sh fr).val u/\Fr w0.heap.size ρ ρ'' w w' {e1.sh fr with vc:=ps++(e1.sh fr).vc,st:=if plainE (e1.sh fr) then [] else kills (keepOwn hp (idsX hp args))}:=by
     intro hk;simp only [retK] at hk
     split at hk
     ·rename_i v qs hres;rw [allK_iff] at hk;obtain ⟨hq,hk⟩:=hk;generalize hfrz:frzSV s'.hp v e1.val=fz3 at hk;obtain ⟨v',fs,ids⟩:=fz3;dsimp only at hk;rw [allK_iff] at hk;obtain ⟨hfs,hk⟩:=hk
      split at hk
      rename_i la lb hla hlb
      split at hk
      rename_i hok;obtain ⟨hk1,hk2⟩:=all_append.1 (conj_all hk);obtain ⟨u,hu1,hu2⟩:=resS_spec htt hs' hres hq;have hu2':=frzSV_spec hs'.mem hfrz hfs (fun i hi ho=>keepOwn_mem.2 ⟨hi,ho⟩) hu2;have hfr0:=fr_freeze (B:=w.heap.size) hs'.mem.froz (keepOwn s'.hp ids) .junk [];have hmem':WH ⟨w,passF ρ w (keepOwn hp (idsX hp args)),fun _=>false,none⟩ (ρ'.frz w' (keepOwn s'.hp ids)) (kills (keepOwn s'.hp ids)++s'.hp) w':=by
       have:=wh_step hs'.mem hfr0 (fun i x hx=>stOK_kills i x hx) (fun _ _ h=>by simp [look] at h);exact this
      have hs2:SH ⟨w,passF ρ w (keepOwn hp (idsX hp args)),fun _=>false,none⟩ 0 {tm:=[],hp:=kills (keepOwn s'.hp ids)++s'.hp,nx:=s'.nx} (ρ'.frz w' (keepOwn s'.hp ids)) {a with tmps:=#[]} w':=⟨⟨rfl,hs'.slots.defers,fun t x hx=>by simp [look] at hx⟩,hmem',hs'.fresh⟩;generalize hρ3:ρ'.frz w' (keepOwn s'.hp ids)=ρ3 at hu2' hmem' hs2;have hle:=svL_spec hla hk1;have hhe:=heapL_spec hlb hk2;generalize mHeap (kills (keepOwn s'.hp ids)++s'.hp) e1.nw (mSV v' e1.val)=δ at *;unfold endOK at hok;simp only [Bool.and_eq_true] at hok;obtain ⟨⟨hinj,hnew⟩,hsv⟩:=hok;have hnj:e1.val ≠ .junk:=fun hj=>by rw [hj] at hsv;cases hsv
      have hu3:=ur_le hle hu2' hnj;have hw2:=(stLe_spec (δ:=δ) (t:={tm:=[],hp:=e1.nw,nx:=0+8}) ⟨trivial,hhe,hinj⟩ (fun h=>by cases h) hs2).mem;have hB:w0.heap.size<=w.heap.size:=hw.below.size;generalize hρr:ρ3.ren δ (0+8)=ρr at hu3 hw2;have hmu:ρr.mu=fun _=>false:=by rw [<- hρr,<- hρ3];exact hs'.mem.mu0
      have hf0:ρr.f0=passF ρ w (keepOwn hp (idsX hp args)):=by rw [<- hρr,<- hρ3];exact hs'.mem.f00
      replace hu3:=ur_sh (n:=fr) hu3
      replace hw2:=wh_sh fr rfl hw2
      replace hnew:=newOK_sh (n:=fr) hnew
      replace hsv:=svIn_sh (n:=fr) hsv
      replace hmu:(ρr.sh fr).mu=fun _=>false:=hmu
      replace hf0:(ρr.sh fr).f0=passF ρ w (keepOwn hp (idsX hp args)):=hf0
      clear hρr hinj hnj hle hhe;generalize ρr.sh fr=ρr at *;generalize hE:e1.sh fr=e at *;have hEn:shH fr e1.nw=e.nw:=by rw [<- hE];rfl
      have hEv:e1.val.sh fr=e.val:=by rw [<- hE];rfl
      dsimp only at hw2;rw [hEn] at hw2 hnew hsv;rw [hEv] at hu3 hsv
      let ρ2:Map:={m:=fun i=>if nin i (keys e.nw) then ρr i else ρ i,cap:=fun i=>if nin i (keys e.nw) then ρr.cap i else ρ.cap i,fz:=if plainE e then ρ.fz else ρr.fz,f0:=ρ.f0,mu:=ρ.mu}
      have ag:∀ i,nin i (keys e.nw)=true -> ρ2 i=ρr i /\ ρ2.cap i=ρr.cap i:=fun i hi=>⟨by simp only [ρ2];rw [if_pos hi],by simp only [ρ2];rw [if_pos hi]⟩
      have off:∀ i,nin i (keys e.nw)=false -> ρ2 i=ρ i:=fun i hi=>by simp only [ρ2];rw [if_neg (by rw [hi];simp)]
      have oldKey:∀ i,(ρ i).isSome=true->nin i (keys e.nw)=false:=fun i hi=>by
       cases hn:nin i (keys e.nw) with
       |false=>rfl
       |true=>
        obtain ⟨x,hx⟩:=Option.isSome_iff_exists.1 (nin_keys.1 hn);rw [hfr i x hx] at hi;cases hi
      have fzle:FzLe ρ.fz ρr.fz:=fun b cs hb=>hw2.sub b cs (by rw [hf0];exact passF_le _ _ _ b cs hb)
      have ownNew:∀ i x,look e.nw i=some x->(ρr i).isSome=true->w.heap.size<=ρr.blk i /\ ρr.fz (ρr.blk i)=none:=fun i x hx hi=>by
       obtain ⟨ho,_⟩:=newOK_spec hnew i x hx;obtain ⟨hM,_⟩:=erel_some (hw2.ents i x hx) ho hi;refine ⟨?_,hM.2⟩
       rcases hM.1 with h |h
       ·exact h
       ·rw [hmu] at h;cases h
      have blk2:∀ i,nin i (keys e.nw)=true -> ρ2.blk i=ρr.blk i:=fun i hi=>by simp [Map.blk,(ag i hi).1]
      have hzz:ρ2.fz=ρr.fz ∨ plainE e=true:=by
       cases hpl:plainE e with
       |true=>exact .inr rfl
       |false=>left;simp only [ρ2,hpl];rfl
      refine ⟨hs'.slots.defers,u,hu1,ρ2,u,rfl,ur_in ag (hzz.imp (fun h=>h) fun h=>by unfold plainE at h;exact (Bool.and_eq_true _ _ ▸ h).1) hsv hu3,?_⟩;refine ⟨⟨fun i p hi=>?_,fun i hi=>?_,?_,rfl,rfl⟩,fun i hi=>?_,⟨hs'.mem.below.os,hs'.mem.below.tape,hs'.mem.below.output,hs'.mem.below.size,fun k hk=>absurd hk (Nat.not_lt_zero k)⟩,fun b hb' _=>hs'.mem.below.block b hb' (by rw [hs'.mem.mu0]),fun i x hx=>?_,fun i x hx=>?_,fun i j x y hx hy hne hii hjj=>?_,fun b cs hb=>?_⟩
      ·rw [off i (oldKey i (by rw [hi];rfl))];exact hi
      ·have:=oldKey i hi;simp only [ρ2];rw [if_neg (by rw [this];simp)]
      ·simp only [ρ2];split
       ·exact fun _ _ h=>h
       ·exact fzle
      ·have hi':look e.nw i=none:=hi;refine off i ?_
       cases hn:nin i (keys e.nw) with
       |false=>rfl
       |true=>rw [nin_keys,hi'] at hn;cases hn
      ·have hx':look (if plainE e then [] else kills (keepOwn hp (idsX hp args))) i=some x:=hx
       split at hx'
       ·simp [look] at hx'
       ·rw [(kills_look hx').1];trivial
      ·have hx':look e.nw i=some x:=hx;obtain ⟨ho,_,_,hni⟩:=newOK_spec hnew i x hx';have hki:nin i (keys e.nw)=true:=nin_keys.2 (by rw [hx'];rfl);refine ⟨erel_in ag hki (hzz.imp (fun h=>h) fun h=>by unfold plainE at h;exact plainH_spec (Bool.and_eq_true _ _ ▸ h).2 i x hx') hni (fun hi=>?_) (hw2.ents i x hx'),fun hi=>.inl ?_,ho⟩
       ·obtain ⟨g1,g2⟩:=ownNew i x hx' hi;refine ⟨.inl (by omega),?_⟩;simp only [ρ2];split
        ·exact hw.froz.new g1
        ·exact g2
       ·rw [blk2 i hki];exact (ownNew i x hx' (by rw [<- (ag i hki).1];exact hi)).1
      ·have hx':look e.nw i=some x:=hx;have hy':look e.nw j=some y:=hy;have hki:nin i (keys e.nw)=true:=nin_keys.2 (by rw [hx'];rfl);have hkj:nin j (keys e.nw)=true:=nin_keys.2 (by rw [hy'];rfl);rw [blk2 i hki,blk2 j hkj];exact hw2.apart i j x y hx' hy' (newOK_spec hnew i x hx').1 (newOK_spec hnew j y hy').1 hne (by rw [<- (ag i hki).1];exact hii) (by rw [<- (ag j hkj).1];exact hjj)
      ·cases hpl:plainE e with
       |true=>
        left
        have:ρ2.fz b=some cs:=hb;simp only [ρ2,hpl] at this;exact this
       |false=>
        have hb2:ρr.fz b=some cs:=by
         have:ρ2.fz b=some cs:=hb;simp only [ρ2,hpl] at this;exact this
        have hnw:∀ i x,look e.nw i=some x->(ρ2 i).isSome=true -> ρ2.blk i≠b:=fun i x hx hi hbb=>by
         have hki:nin i (keys e.nw)=true:=nin_keys.2 (by rw [hx];rfl);obtain ⟨_,g2⟩:=ownNew i x hx (by rw [<- (ag i hki).1];exact hi);rw [<- blk2 i hki,hbb,hb2] at g2;cases g2
        rcases hw2.old b cs hb2 with h1 |h1 |h1
        ·rw [hf0] at h1
         rcases passF_some h1 with h2 |⟨⟨i,hi,hsi,hbi⟩,_⟩
         ·exact .inl h2
         ·exact .inr ⟨.inr ⟨i,by simp only [Bool.false_eq_true,↓reduceIte];exact kills_mem hi,hsi,hbi.symm⟩,hw2.froz b cs hb2,hnw⟩
        ·exact .inr ⟨.inl h1,hw2.froz b cs hb2,hnw⟩
        ·rw [hmu] at h1;cases h1
      ·exact hk.elim
      ·exact hk.elim
     ·exact hk.elim
    cases ex with
    |normal=>simp only [exOf,Option.some.injEq] at hex;subst hex;exact done hk
    |ret=>simp only [exOf,Option.some.injEq] at hex;subst hex;exact done hk
    |exit i=>simp only [exOf,Option.some.injEq] at hex;subst hex;exact hk.elim
    |goto l=>cases hex
    |panic ch=>cases hex
    |outgrown=>cases hex
   ·intro t x hx;obtain ⟨_,h2⟩:=slots0_look svs 0 t x hx;obtain ⟨v,hv,hr⟩:=args_get hrel (by simpa using h2);have hlt:=lt_of_get hv;have:(vs.toArray++Array.replicate (fn.ntmps-vs.toArray.size) undef).getD t undef=v:=by
     simp only [Array.getD_eq_getD_getElem?];rw [Array.getElem?_append_left (by simpa using hlt)];simp [hv]
    rw [this];exact ur_vrel hr
  ·cases h0
 ·cases h0
theorem fn_obS {P:Program} {tt:TT} (htt:TTOK P tt) (hm:P.follows .mixedOrders=true) {f:FuncId} {fn:Func} {c:Code} (hf:P.funcs[f]? = some fn) (hb:fn.body=some c) (hen:∀ (args:Array Value) (w:World),(callFunc f args).run P w = .ok (.enter f args) w)
 {A:List Dat->Ann} (hC:∀ ds id,CtxOK P ((A ds).C id)) {aps:List AP} {spec:List Dat->Option Eff} (hn:Nat.ble aps.length fn.ntmps=true)
 (H:∀ ds,Ob tt fn.ntmps (A ds) c fn.results.toList 0 (spec ds) (unP aps ds 0)):ConOK P f (conS aps spec):=
 fn_okS htt hm hf hb hen hC hn fun ds e svs h id he hvc hun=>by
  have:=H ds;rw [he,hun] at this;exact allI_iff.1 this hvc
end Go.Proofs.Ytcfkhnlkfgmoiaa.Sx
namespace Go.Proofs.Ytcfkhnlkfgmoiaa.Sx
open Go.RowKit
inductive AM
 |c (x:AC)
 |own (e:TypeId)
 |ints (k:IntKind) (n:Nat)
def flM (hp:Heap):List AM->List Seg->Option (List Dat × List Prop × List (Option Nat))
 | [],[]=>some ([],[],[])
 | .c a::l,.c x::s=>if rowy x ||rowA a then none else (match flC hp a x,flM hp l s with
   |some (d,ps),some (ds,qs,rs)=>some (d::ds,ps++qs,rs)
   |_,_=>none)
 | .own _::l,.c .nils::s=>(match flM hp l s with |some (ds,qs,rs)=>some (.d (.l [])::ds,qs,none::rs) |none=>none)
 | .own e::l,.c (.osl e' r lo n)::s=>if Nat.beq e e' then (match look hp r,flM hp l s with
   |some (.orow e'' d),some (ds,qs,rs)=>if Nat.beq e e'' then some (.d d::ds,(lo.v=0)::(n.v=d.len)::qs,some r::rs) else none
   |_,_=>none) else none
 | .ints k n::l,.ints k' (.lit m) f::s=>if kEq k' k&&Nat.beq m n then (match flM hp l s with |some (ds,qs,rs)=>some (.f f::ds,qs,rs) |none=>none) else none
 |_,_=>none
def unM:List AM->List Dat->Nat->Option (List Seg × Heap × List Dat × Nat)
 | [],ds,id=>some ([],[],ds,id)
 | .c a::l,d::ds,id=>(match unC0 a d,unM l ds id with |some x,some (s,h,r,id')=>some (.c x::s,h,r,id') |_,_=>none)
 | .own e::l,.d d::ds,id=>(match unM l ds (id+1) with |some (s,h,r,id')=>some (.c (.osl e id (.lit 0) (.sym d.len))::s,(id,.orow e d)::h,r,id') |none=>none)
 | .ints k n::l,.f f::ds,id=>(match unM l ds id with |some (s,h,r,id')=>some (.ints k (.lit n) f::s,h,r,id') |none=>none)
 |_,_,_=>none
def someIds:List (Option Nat)->List Nat
 | []=>[]
 |some r::l=>r::someIds l
 |none::l=>someIds l
def distO:List (Option Nat)->Bool
 | []=>true
 |some r::l=>!nin r (someIds l)&&distO l
 |none::l=>distO l
theorem mem_someIds {l:List (Option Nat)} {r:Nat}:r∈someIds l ↔ ∃ a:Nat,l[a]? = some (some r):=by
 induction l with
 |nil=>simp [someIds]
 |cons x l ih=>
  cases x with
  |none=>
   simp only [someIds,ih];constructor
   ·rintro ⟨a,h⟩;exact ⟨a+1,by simpa using h⟩
   ·rintro ⟨a,h⟩
    cases a with
    |zero=>simp at h
    |succ a=>exact ⟨a,by simpa using h⟩
  |some y=>
   simp only [someIds,List.mem_cons,ih];constructor
   ·rintro (rfl |⟨a,h⟩)
    ·exact ⟨0,rfl⟩
    ·exact ⟨a+1,by simpa using h⟩
   ·rintro ⟨a,h⟩
    cases a with
    |zero=>left;simpa using h.symm
    |succ a=>exact .inr ⟨a,by simpa using h⟩
theorem nin_iff {id:Nat} {l:List Nat}:nin id l=true↔id∈l:=by
 unfold nin;rw [List.any_eq_true];exact ⟨fun ⟨x,hx,h⟩=>by rw [Nat.eq_of_beq_eq_true h];exact hx,fun h=>⟨id,h,Nat.beq_refl id⟩⟩
theorem distO_spec:∀ {l:List (Option Nat)},distO l=true->∀ (a b r:Nat),l[a]? = some (some r)->l[b]? = some (some r)->a=b
 | [],_,a,b,r,h,_=>by simp at h
 |x::l,hd,a,b,r,ha,hb=>by
  have tl:distO l=true:=by
   cases x with
   |none=>exact hd
   |some y=>simp only [distO,Bool.and_eq_true] at hd;exact hd.2
  have hd':∀ q,x=some q->∀ c:Nat,l[c]? ≠ some (some q):=fun q hq c hc=>by
   subst hq;simp only [distO,Bool.and_eq_true,Bool.not_eq_true'] at hd;have:=nin_iff.2 (mem_someIds.2 ⟨c,hc⟩);rw [hd.1] at this;cases this
  cases a with
  |zero=>
   cases b with
   |zero=>rfl
   |succ b=>exact absurd (by simpa using hb) (hd' r (by simpa using ha) b)
  |succ a=>
   cases b with
   |zero=>exact absurd (by simpa using ha) (hd' r (by simpa using hb) a)
   |succ b=>rw [distO_spec tl a b r (by simpa using ha) (by simpa using hb)]
theorem flM_row {hp:Heap}:∀ {l:List AM} {s:List Seg} {ds:List Dat} {ps:List Prop} {rs:List (Option Nat)},flM hp l s=some (ds,ps,rs)->∀ {a k:Nat},rs[a]? = some (some k)->∃ E d,look hp k=some (.orow E d)
 | [],[],ds,ps,rs,h,a,k,hk=>by
   simp only [flM,Option.some.injEq,Prod.mk.injEq] at h;obtain ⟨_,_,rfl⟩:=h;simp at hk
 | .c _::l,.c x::s,ds,ps,rs,h,a,k,hk=>by
   simp only [flM] at h
   split at h
   ·cases h
   ·split at h
    ·rename_i hds;simp only [Option.some.injEq,Prod.mk.injEq] at h;obtain ⟨_,_,rfl⟩:=h;exact flM_row hds hk
    ·cases h
 | .own e::l,.c .nils::s,ds,ps,rs,h,a,k,hk=>by
   simp only [flM] at h
   split at h
   ·rename_i hds;simp only [Option.some.injEq,Prod.mk.injEq] at h;obtain ⟨_,_,rfl⟩:=h
    cases a with
    |zero=>simp at hk
    |succ a=>exact flM_row hds (by simpa using hk)
   ·cases h
 | .own e::l,.c (.osl e' r lo n)::s,ds,ps,rs,h,a,k,hk=>by
   simp only [flM] at h
   split at h
   ·split at h
    ·rename_i hl hds
     split at h
     ·simp only [Option.some.injEq,Prod.mk.injEq] at h;obtain ⟨_,_,rfl⟩:=h
      cases a with
      |zero=>
       obtain rfl:r=k:=by simpa using hk
       exact ⟨_,_,hl⟩
      |succ a=>exact flM_row hds (by simpa using hk)
     ·cases h
    ·cases h
   ·cases h
 | .ints k n::l,.ints k' (.lit m) f::s,ds,ps,rs,h,a,q,hk=>by
   simp only [flM] at h
   split at h
   ·split at h
    ·rename_i hds;simp only [Option.some.injEq,Prod.mk.injEq] at h;obtain ⟨_,_,rfl⟩:=h;exact flM_row hds hk
    ·cases h
   ·cases h
 | [],_::_,_,_,_,h,_,_,_=>by simp [flM] at h
 | .c _::_,[],_,_,_,h,_,_,_=>by simp [flM] at h
 | .c _::_,.ints .. :: _,_,_,_,h,_,_,_=>by simp [flM] at h
 | .own _::_,[],_,_,_,h,_,_,_=>by simp [flM] at h
 | .own _::_,.ints .. :: _,_,_,_,h,_,_,_=>by simp [flM] at h
 | .own _::_,.c (.int ..)::_,_,_,_,h,_,_,_=>by simp [flM] at h
 | .own _::_,.c (.bool ..)::_,_,_,_,h,_,_,_=>by simp [flM] at h
 | .own _::_,.c (.ptr ..)::_,_,_,_,h,_,_,_=>by simp [flM] at h
 | .own _::_,.c (.slice ..)::_,_,_,_,h,_,_,_=>by simp [flM] at h
 | .own _::_,.c (.raw ..)::_,_,_,_,h,_,_,_=>by simp [flM] at h
 | .own _::_,.c (.rows ..)::_,_,_,_,h,_,_,_=>by simp [flM] at h
 | .own _::_,.c (.fp ..)::_,_,_,_,h,_,_,_=>by simp [flM] at h
 | .own _::_,.c (.optr ..)::_,_,_,_,h,_,_,_=>by simp [flM] at h
 | .ints .. :: _,[],_,_,_,h,_,_,_=>by simp [flM] at h
 | .ints .. :: _,.c _::_,_,_,_,h,_,_,_=>by simp [flM] at h
 | .ints .. :: _,.ints _ (.sym _) _::_,_,_,_,h,_,_,_=>by simp [flM] at h
def mapO (ρ:Map) (rs:List (Option Nat)) (lo:Nat) (i:Nat):Option (Nat × Nat):=if lo<=i then (match rs[i-lo]? with |some (some r)=>ρ r |_=>none) else none
def capO (ρ:Map) (rs:List (Option Nat)) (lo:Nat) (i:Nat):Nat:=match rs[i-lo]? with |some (some r)=>ρ.cap r |_=>0
theorem mapO_zero (ρ:Map) (x:Option Nat) (rs:List (Option Nat)) (lo:Nat):mapO ρ (x::rs) lo lo=(match x with |some r=>ρ r |none=>none):=by
 unfold mapO;rw [if_pos (Nat.le_refl _),Nat.sub_self]
 cases x<;>rfl
theorem mapO_succ (ρ:Map) (x:Option Nat) (rs:List (Option Nat)) {lo i:Nat} (h:lo+1<=i):mapO ρ (x::rs) lo i=mapO ρ rs (lo+1) i/\capO ρ (x::rs) lo i=capO ρ rs (lo+1) i:=by
 have e:i-lo=(i-(lo+1))+1:=by omega
 unfold mapO capO;rw [if_pos (by omega),if_pos h,e];exact ⟨rfl,rfl⟩
def Holds (ρ ρ':Map) (rs:List (Option Nat)) (lo:Nat):Prop:=FzLe ρ.fz ρ'.fz/\∀ i,lo<=i->i<lo+rs.length -> ρ' i=mapO ρ rs lo i /\ ρ'.cap i=capO ρ rs lo i
theorem unM_spec {hp:Heap} {w0:W0} {w:World} {ρ:Map} (hw:WH w0 ρ hp w):∀ (l:List AM) (s:List Seg) (ds rest:List Dat) (ps:List Prop) (rs:List (Option Nat)),flM hp l s=some (ds,ps,rs)->All ps->∀ (vs:List Value),CsRel ρ (cellsOf s) vs->∀ id,
 ∃ y h,unM l (ds++rest) id=some (y,h,rest,id+rs.length) /\
   (∀ i e,look h i=some e->id<=i/\i<id+rs.length/\∃ E d,e = .orow E d/\((mapO ρ rs id i=none/\d.len=0) ∨ ∃ r,rs[i-id]? = some (some r)/\look hp r=some (.orow E d))) /\
   ∀ ρ',Holds ρ ρ' rs id->CsRel ρ' (cellsOf y) vs
 | [],[],ds,rest,ps,rs,h,hp',vs,hv,id=>by
   simp only [flM,Option.some.injEq,Prod.mk.injEq] at h;obtain ⟨rfl,rfl,rfl⟩:=h;exact ⟨[],[],rfl,fun i e hl=>by simp [look] at hl,fun ρ' _=>⟨hv.1,fun i x v hx=>by simp [cellsOf] at hx⟩⟩
 | .c a::l,.c x::s,ds,rest,ps,rs,h,hp',vs,hv,id=>by
   simp only [flM] at h
   split at h
   ·cases h
   ·rename_i hr;have hr':rowy x=false/\rowA a=false:=by simpa using hr
    split at h
    ·rename_i d ps1 ds1 qs rs1 hd hds;simp only [Option.some.injEq,Prod.mk.injEq] at h;obtain ⟨rfl,rfl,rfl⟩:=h;obtain ⟨_,hp2⟩:=all_append.1 hp';rw [cellsOf_cons] at hv;obtain ⟨u,v,rfl,h1,h2⟩:=csrel_cons.1 hv;obtain ⟨y,hh,e1,e2,e3⟩:=unM_spec hw l s ds1 rest qs rs1 hds hp2 v h2 id;obtain ⟨z,hz,hzr⟩:=flC_unC0 hd hr'.1 hr'.2;refine ⟨.c z::y,hh,by simp [unM,e1,hz],e2,fun ρ' hρ=>?_⟩;rw [cellsOf_cons];refine csrel_cons.2 ⟨u,v,rfl,⟨h1.1,fun i p q hp hq=>?_⟩,e3 ρ' hρ⟩
     cases i with
     |zero=>
      simp only [Seg.cells,List.getElem?_cons_zero,Option.some.injEq] at hp;subst hp;exact hzr hρ.1 (h1.2 0 x q (by simp [Seg.cells]) hq)
     |succ i=>simp [Seg.cells] at hp
    ·cases h
 | .own e::l,.c .nils::s,ds,rest,ps,rs,h,hp',vs,hv,id=>by
   simp only [flM] at h
   split at h
   ·rename_i ds1 qs rs1 hds;simp only [Option.some.injEq,Prod.mk.injEq] at h;obtain ⟨rfl,rfl,rfl⟩:=h;rw [cellsOf_cons] at hv;obtain ⟨u,v,rfl,h1,h2⟩:=csrel_cons.1 hv;obtain ⟨y,hh,e1,e2,e3⟩:=unM_spec hw l s ds1 rest qs rs1 hds hp' v h2 (id+1);refine ⟨.c (.osl e id (.lit 0) (.sym (D.l []).len))::y,(id,.orow e (.l []))::hh,by simp [unM,e1];omega,fun i x hl=>?_,fun ρ' hρ=>?_⟩
    ·simp only [look] at hl
     split at hl
     ·rename_i hi;obtain rfl:id=i:=by simpa using hi
      obtain rfl:=by simpa using hl
      exact ⟨Nat.le_refl _,by simp,_,_,rfl,.inl ⟨mapO_zero ρ none rs1 id,rfl⟩⟩
     ·obtain ⟨g1,g2,E,d,g3,g4⟩:=e2 i x hl;refine ⟨by omega,by simp;omega,E,d,g3,?_⟩;rw [(mapO_succ ρ none rs1 g1).1];have e:i-id=(i-(id+1))+1:=by omega
      rw [e];exact g4
    ·rw [cellsOf_cons];refine csrel_cons.2 ⟨u,v,rfl,⟨h1.1,fun i p q hp hq=>?_⟩,e3 ρ' ⟨hρ.1,fun i g1 g2=>?_⟩⟩
     ·cases i with
      |zero=>
       simp only [Seg.cells,List.getElem?_cons_zero,Option.some.injEq] at hp;subst hp;have:=h1.2 0 .nils q (by simp [Seg.cells]) hq;obtain rfl:q=Value.slice none 0 0:=this;exact ⟨none,0,rfl,Nat.le_refl _,.inl ⟨rfl,fun _ h=>by cases h⟩⟩
      |succ i=>simp [Seg.cells] at hp
     ·have:=hρ.2 i (by omega) (by simp;omega);obtain ⟨m1,m2⟩:=mapO_succ ρ none rs1 g1;rw [m1,m2] at this;exact this
   ·cases h
 | .own e::l,.c (.osl e' r lo n)::s,ds,rest,ps,rs,h,hp',vs,hv,id=>by
   simp only [flM] at h
   split at h
   ·rename_i he;obtain rfl:=Nat.eq_of_beq_eq_true he
    split at h
    ·rename_i e'' d ds1 qs rs1 hl hds
     split at h
     ·rename_i he2;obtain rfl:=Nat.eq_of_beq_eq_true he2;simp only [Option.some.injEq,Prod.mk.injEq] at h;obtain ⟨rfl,rfl,rfl⟩:=h;obtain ⟨hlo,hn,hp2⟩:=hp';rw [cellsOf_cons] at hv;obtain ⟨u,v,rfl,h1,h2⟩:=csrel_cons.1 hv;obtain ⟨y,hh,e1,e2,e3⟩:=unM_spec hw l s ds1 rest qs rs1 hds hp2 v h2 (id+1);refine ⟨.c (.osl e id (.lit 0) (.sym d.len))::y,(id,.orow e d)::hh,by simp [unM,e1];omega,fun i x hl'=>?_,fun ρ' hρ=>?_⟩
      ·simp only [look] at hl'
       split at hl'
       ·rename_i hi;obtain rfl:id=i:=by simpa using hi
        obtain rfl:=by simpa using hl'
        refine ⟨Nat.le_refl _,by simp,_,_,rfl,.inr ⟨r,by simp,hl⟩⟩
       ·obtain ⟨g1,g2,E,d',g3,g4⟩:=e2 i x hl';refine ⟨by omega,by simp;omega,E,d',g3,?_⟩;rw [(mapO_succ ρ (some r) rs1 g1).1];have e:i-id=(i-(id+1))+1:=by omega
        rw [e];exact g4
      ·rw [cellsOf_cons];refine csrel_cons.2 ⟨u,v,rfl,⟨h1.1,fun i p q hp hq=>?_⟩,e3 ρ' ⟨hρ.1,fun i g1 g2=>?_⟩⟩
       ·cases i with
        |zero=>
         simp only [Seg.cells,List.getElem?_cons_zero,Option.some.injEq] at hp;subst hp;obtain ⟨A,c,rfl,hc,hA⟩:=h1.2 0 (.osl e r lo n) q (by simp [Seg.cells]) hq;have hm:=hρ.2 id (Nat.le_refl _) (by simp);rw [mapO_zero] at hm;have hcap:ρ'.cap id=ρ.cap r:=by rw [hm.2];unfold capO;rw [Nat.sub_self];rfl
         refine ⟨A,c,by rw [hn];rfl,by show d.len<=c;omega,hA.imp (fun h=>h) fun ⟨q1,q2,q3⟩=>⟨?_,?_,?_⟩⟩
         ·rw [q1,hlo];have:ρ'.blk id=ρ.blk r:=by unfold Map.blk;rw [hm.1]
          rw [this];rfl
         ·rw [hcap];rw [hlo] at q2;exact q2
         ·rw [hm.1];exact q3
        |succ i=>simp [Seg.cells] at hp
       ·have:=hρ.2 i (by omega) (by simp;omega);obtain ⟨m1,m2⟩:=mapO_succ ρ (some r) rs1 g1;rw [m1,m2] at this;exact this
     ·cases h
    ·cases h
   ·cases h
 | .ints k n::l,.ints k' (.lit m) f::s,ds,rest,ps,rs,h,hp',vs,hv,id=>by
   simp only [flM] at h
   split at h
   ·rename_i hk;simp only [Bool.and_eq_true] at hk;have:=kEq_eq hk.1;subst this;have:=Nat.eq_of_beq_eq_true hk.2;subst this
    split at h
    ·rename_i ds1 qs rs1 hds;simp only [Option.some.injEq,Prod.mk.injEq] at h;obtain ⟨rfl,rfl,rfl⟩:=h;rw [cellsOf_cons] at hv;obtain ⟨u,v,rfl,h1,h2⟩:=csrel_cons.1 hv;obtain ⟨y,hh,e1,e2,e3⟩:=unM_spec hw l s ds1 rest qs rs1 hds hp' v h2 id;refine ⟨.ints k' (.lit m) f::y,hh,by simp [unM,e1],e2,fun ρ' hρ=>?_⟩;rw [cellsOf_cons];refine csrel_cons.2 ⟨u,v,rfl,⟨h1.1,fun i p q hp hq=>?_⟩,e3 ρ' hρ⟩;have hb':=h1.2 i p q hp hq;have hi:=lt_of_get hp;rw [cells_ints_len] at hi;rw [cells_ints_get hi] at hp;obtain rfl:=by simpa using hp
     exact hb'
    ·cases h
   ·cases h
 | [],_::_,_,_,_,_,h,_,_,_,_=>by simp [flM] at h
 | .c _::_,[],_,_,_,_,h,_,_,_,_=>by simp [flM] at h
 | .c _::_,.ints .. :: _,_,_,_,_,h,_,_,_,_=>by simp [flM] at h
 | .own _::_,[],_,_,_,_,h,_,_,_,_=>by simp [flM] at h
 | .own _::_,.ints .. :: _,_,_,_,_,h,_,_,_,_=>by simp [flM] at h
 | .own _::_,.c (.int ..)::_,_,_,_,_,h,_,_,_,_=>by simp [flM] at h
 | .own _::_,.c (.bool ..)::_,_,_,_,_,h,_,_,_,_=>by simp [flM] at h
 | .own _::_,.c (.ptr ..)::_,_,_,_,_,h,_,_,_,_=>by simp [flM] at h
 | .own _::_,.c (.slice ..)::_,_,_,_,_,h,_,_,_,_=>by simp [flM] at h
 | .own _::_,.c (.raw ..)::_,_,_,_,_,h,_,_,_,_=>by simp [flM] at h
 | .own _::_,.c (.rows ..)::_,_,_,_,_,h,_,_,_,_=>by simp [flM] at h
 | .own _::_,.c (.fp ..)::_,_,_,_,_,h,_,_,_,_=>by simp [flM] at h
 | .own _::_,.c (.optr ..)::_,_,_,_,_,h,_,_,_,_=>by simp [flM] at h
 | .ints .. :: _,[],_,_,_,_,h,_,_,_,_=>by simp [flM] at h
 | .ints .. :: _,.c _::_,_,_,_,_,h,_,_,_,_=>by simp [flM] at h
 | .ints .. :: _,.ints _ (.sym _) _::_,_,_,_,_,h,_,_,_,_=>by simp [flM] at h
theorem crel_mu {ρ:Map} (mu:Nat->Bool) {x:SC} {v:Value} (h:CRel ρ x v):CRel {ρ with mu:=mu} x v:=by cases x<;>exact h
theorem csrel_mu {ρ:Map} (mu:Nat->Bool) {l:List SC} {vs:List Value} (h:CsRel ρ l vs):CsRel {ρ with mu:=mu} l vs:=⟨h.1,fun i x v a b=>crel_mu mu (h.2 i x v a b)⟩
theorem v1_mu {ρ:Map} (mu:Nat->Bool) {x:V1} {v:Value} (h:V1Rel ρ x v):V1Rel {ρ with mu:=mu} x v:=by
 cases x with
 |sc c=>exact crel_mu mu h
 |agg l=>obtain ⟨cs,rfl,hc⟩:=h;exact ⟨cs,rfl,csrel_mu mu hc⟩
theorem tup_mu {ρ:Map} (mu:Nat->Bool):∀ {l:List V1} {vs:List Value},TupRel ρ l vs->TupRel {ρ with mu:=mu} l vs
 | [],[],_=>trivial
 | [],_::_,h=>h.elim
 |_::_,[],h=>h.elim
 |_::_,_::_,h=>⟨v1_mu mu h.1,tup_mu mu h.2⟩
theorem args_mu {ρ:Map} (mu:Nat->Bool):∀ {l:List SV} {vs:List Value},ArgsRel ρ l vs->ArgsRel {ρ with mu:=mu} l vs
 | [],[],_=>trivial
 | [],_::_,h=>h.elim
 |_::_,[],h=>h.elim
 |x::_,_::_,h=>⟨by
   have h1:=h.1
   cases x with
   |one x=>exact v1_mu mu h1
   |tup l=>obtain ⟨vs,rfl,ht⟩:=h1;exact ⟨vs,rfl,tup_mu mu ht⟩
   |cond=>exact h1.elim
   |junk=>exact h1.elim,args_mu mu h.2⟩
def disI (a b:List Nat):Bool:=a.all fun x=>!nin x b
theorem disI_spec {a b:List Nat} (h:disI a b=true) {x:Nat} (hx:x∈a):x ∉ b:=fun hb=>by
 have:=List.all_eq_true.1 h x hx;rw [nin_iff.2 hb] at this;cases this
def conMb (T:TypeId) (ms:List AM) (aps:List AP) (spec:List Dat->Option (Eff × List Seg)) (hp:Heap) (fr id:Nat) (rest:List SV):Option Eff:=match look hp id with
 |some (.own T' segs)=>if Nat.beq T T' then (match flM hp ms segs,flP hp aps rest with
  |some (ds1,ps1,rs),some (ds2,ps2)=>if distO rs && !nin id (someIds rs)&&disI (idsX hp rest) (id::someIds rs) then (match spec (ds1++ds2) with
   |some (e,sg)=>some {val:=e.val.sh fr,nw:=shH fr e.nw,vc:=ps1++(ps2++e.vc),st:=(id,.own T (shS fr sg))::(kills (someIds rs)++(if plainE (e.sh fr)&&plainS (shS fr sg) then [] else kills (keepOwn hp (idsX hp rest))))}
   |none=>none) else none
  |_,_=>none) else none
 |_=>none
def conM (T:TypeId) (ms:List AM) (aps:List AP) (spec:List Dat->Option (Eff × List Seg)):Con:=fun hp fr args=>match args with
 | .one (.sc (.ptr id (.lit 0)))::rest=>conMb T ms aps spec hp fr id rest
 |_=>none
def retM (tt:TT) (rs:List ResultVar) (e:Eff) (T:TypeId) (sg:List Seg):Ex->St->Prop:=fun x s=>
 match x with
 | .exit _=>False
 |_=>(match resS tt s rs with
  |some (v,ps)=>AllK ps (match frzSV s.hp v e.val with
   |(v,fs,ids)=>AllK fs (
    let ids:=keepOwn s.hp ids
    let t:=(8,.own T sg)::e.nw
    let δ:=mHeap (kills ids++s.hp) t ((8,0)::mSV v e.val)
    match svL δ 9 v e.val,heapL δ 9 s.nx (kills ids++s.hp) t with
    |some a,some b=>if injOK δ t&&newOK (keys e.nw) 0 e.nw&&svIn (keys e.nw) e.val&&(segsIn (keys e.nw) sg&&Nat.beq (dm δ 8) 0) then Conj (a++b) else False
    |_,_=>False))
  |none=>False)
theorem wh_noanc {w:World} {f0:Fz} {mu:Nat->Bool} {an:Option (Nat × Nat)} {ρ:Map} {h:Heap} {w':World} (hw:WH ⟨w,f0,mu,an⟩ ρ h w'):WH ⟨w,f0,mu,none⟩ ρ h w':=
 ⟨hw.below,hw.ents,hw.apart,hw.froz,hw.sub,hw.mu0,hw.f00,hw.old,fun _ h=>(by cases h),hw.tab⟩
theorem fn_okM {P:Program} {tt:TT} (htt:TTOK P tt) (hm:P.follows .mixedOrders=true) {f:FuncId} {fn:Func} {c:Code} (hf:P.funcs[f]? = some fn) (hb:fn.body=some c) (hen:∀ (args:Array Value) (w:World),(callFunc f args).run P w = .ok (.enter f args) w)
 {A:List Dat->Ann} (hC:∀ ds id,CtxOK P ((A ds).C id)) {T:TypeId} {ms:List AM} {aps:List AP} {spec:List Dat->Option (Eff × List Seg)} (hn:Nat.ble (aps.length+1) fn.ntmps=true)
 (H:∀ ds e sg sM hM rest id1 svs h id,spec ds=some (e,sg)->All e.vc->unM ms ds 1=some (sM,hM,rest,id1)->unP aps rest id1=some (svs,h,id) ->
   sx tt fn.ntmps (A ds) (LFb true) c (retM tt fn.results.toList e T sg) {tm:=slots0 (.one (.sc (.ptr 0 (.lit 0)))::svs) 0,hp:=(0,.own T sM)::(hM++h),nx:=id}):ConOK P f (conM T ms aps spec):=by
 refine ⟨hen,?_,fun hp fr caps e h=>by cases h⟩;intro hp fr args e0 h0 hvc w0 w ρ vs hw hfr hargs;unfold conM at h0
 split at h0
 ·rename_i id rest;unfold conMb at h0
  split at h0
  ·rename_i T' segs hlk
   split at h0
   ·rename_i hTT;obtain rfl:=Nat.eq_of_beq_eq_true hTT
    split at h0
    ·rename_i ds1 ps1 rs ds2 ps2 hflM hflP
     split at h0
     ·rename_i hck;simp only [Bool.and_eq_true,Bool.not_eq_true'] at hck;obtain ⟨⟨hdist,hnid⟩,hdis⟩:=hck
      split at h0
      ·rename_i e sg hspec;obtain rfl:=Option.some.inj h0;obtain ⟨hpM,hp2⟩:=all_append.1 hvc;obtain ⟨hpP,hpE⟩:=all_append.1 hp2
       cases vs with
       |nil=>exact hargs.elim
       |cons v0 vr=>
        obtain ⟨⟨hid,hv0⟩,hargs⟩:=hargs;obtain ⟨_,hoff,hMine,vs0,hcs0,hheap⟩:=hw.ents id _ hlk;have hnid':id ∉ someIds rs:=fun h=>by rw [nin_iff.2 h] at hnid;cases hnid
        obtain ⟨sM,hM,hunM,hMe,hMc⟩:=unM_spec hw ms segs ds1 ds2 ps1 rs hflM hpM vs0 hcs0 1;have hidsAll:∀ i∈idsX hp rest,ownId hp i=true->i∈keepOwn hp (idsX hp rest):=fun i hi ho=>keepOwn_mem.2 ⟨hi,ho⟩
        obtain ⟨svs,h,ρ1,idE,hun,hleE,hin,hrel⟩:=unP_spec hw aps rest ds2 ps2 hflP hpP vr hargs hidsAll (1+rs.length);have hsx:=H (ds1++ds2) e sg sM hM ds2 _ svs h idE hspec hpE hunM hun;have hlen:vr.length+1<=fn.ntmps:=by
         have h1:=unP_len aps ds2 _ svs h idE hun;have h2:=args_len hrel;have:=Nat.le_of_ble_eq_true hn;omega
        have hsz:((v0::vr).toArray++Array.replicate (fn.ntmps-(v0::vr).toArray.size) undef).size=fn.ntmps:=by simp;omega
        have own_k:∀ k∈id::someIds rs,(ρ k).isSome=true->∃ x,look hp k=some x/\x.isOwn=true:=fun k hk hks=>by
         rcases List.mem_cons.1 hk with rfl |hk
         ·exact ⟨_,hlk,rfl⟩
         ·obtain ⟨a,ha⟩:=mem_someIds.1 hk;have:∃ E d,look hp k=some (.orow E d):=flM_row hflM ha;obtain ⟨E,d,hl⟩:=this;exact ⟨_,hl,rfl⟩
        have fzNone:∀ k∈id::someIds rs,(ρ k).isSome=true->passF ρ w (keepOwn hp (idsX hp rest)) (ρ.blk k)=none:=fun k hk hks=>by
         cases hc:passF ρ w (keepOwn hp (idsX hp rest)) (ρ.blk k) with
         |none=>rfl
         |some cs=>
          exfalso;obtain ⟨x,hx,hxo⟩:=own_k k hk hks
          rcases passF_some hc with h1 |⟨⟨j,hj,hjs,hjb⟩,_⟩
          ·have:=(erel_some (hw.ents k x hx) hxo hks).1.2;rw [h1] at this;cases this
          ·obtain ⟨hj1,hj2⟩:=keepOwn_mem.1 hj;unfold ownId at hj2
           split at hj2
           ·rename_i y hy;exact hw.apart j k y x hy hx hj2 hxo (fun e=>disI_spec hdis hj1 (e ▸ hk)) hjs hks hjb
           ·cases hj2
        generalize hF:passF ρ w (keepOwn hp (idsX hp rest))=F at *
        let mu:Nat->Bool:=fun b=>inIds ρ b (id::someIds rs)
        have muK:∀ k∈id::someIds rs,(ρ k).isSome=true->mu (ρ.blk k)=true:=fun k hk hks=>inIds_iff.2 ⟨k,hk,hks,rfl⟩
        let ρc:Map:={m:=fun i=>if i=0 then some (ρ.blk id,0) else if i<1+rs.length then mapO ρ rs 1 i else ρ1 i,cap:=fun i=>if i<1+rs.length then capO ρ rs 1 i else ρ1.cap i,fz:=F,f0:=F,mu:=mu}
        have c0:ρc 0=some (ρ.blk id,0):=rfl;have cM:∀ i,1<=i->i<1+rs.length -> ρc i=mapO ρ rs 1 i /\ ρc.cap i=capO ρ rs 1 i:=fun i g1 g2=>by
         refine ⟨?_,?_⟩
         ·show (if i=0 then some (ρ.blk id,0) else if i<1+rs.length then mapO ρ rs 1 i else ρ1 i)=_;rw [if_neg (by omega),if_pos g2]
         ·show (if i<1+rs.length then capO ρ rs 1 i else ρ1.cap i)=_;rw [if_pos g2]
        have cH:∀ i,1+rs.length<=i -> ρc i=ρ1 i /\ ρc.cap i=ρ1.cap i:=fun i g=>by
         refine ⟨?_,?_⟩
         ·show (if i=0 then some (ρ.blk id,0) else if i<1+rs.length then mapO ρ rs 1 i else ρ1 i)=_;rw [if_neg (by omega),if_neg (by omega)]
         ·show (if i<1+rs.length then capO ρ rs 1 i else ρ1.cap i)=_;rw [if_neg (by omega)]
        have hfzle:FzLe ρ.fz F:=by rw [<- hF];exact passF_le ρ w _
        have holds:Holds ρ ρc rs 1:=⟨hfzle,fun i g1 g2=>cM i g1 g2⟩;have ext1:Ext {ρ1 with mu:=mu} ρc:=by
         have ge:∀ i,(ρ1 i).isSome=true->1+rs.length<=i:=fun i hi=>by
          rcases Nat.lt_or_ge i (1+rs.length) with h |h
          ·rw [hin.out i (.inl h)] at hi;cases hi
          ·exact h
         refine ⟨fun i p hi=>?_,fun i hi=>?_,fun b cs hc=>?_,rfl,?_⟩
         ·have hi:ρ1 i=some p:=hi;rw [(cH i (ge i (by rw [hi];rfl))).1];exact hi
         ·exact (cH i (ge i hi)).2
         ·have hc:ρ1.fz b=some cs:=hc;rw [hin.hfz] at hc;exact hc
         ·show F=ρ1.f0;rw [hin.hf0]
        have hargsC:ArgsRel ρc (.one (.sc (.ptr 0 (.lit 0)))::svs) (v0::vr):=by
         refine ⟨⟨rfl,?_⟩,args_ext ext1 (args_mu mu hrel)⟩;rw [hv0];simp only [Map.at,SO.v,hoff];rfl
        have lookT:∀ i x,look ((0,Ent.own T sM)::(hM++h)) i=some x->(i=0/\x = .own T sM) ∨ (1<=i/\i<1+rs.length/\look hM i=some x) ∨ (1+rs.length<=i/\i<idE/\look h i=some x):=fun i x hx=>by
         simp only [look] at hx
         split at hx
         ·rename_i hi;exact .inl ⟨(by simpa using hi:0=i).symm,by simpa using hx.symm⟩
         ·rw [look_append] at hx
          cases hl:look hM i with
          |some y=>
           rw [hl] at hx;obtain rfl:=by simpa using hx
           obtain ⟨g1,g2,_⟩:=hMe i y hl;exact .inr (.inl ⟨g1,g2,rfl⟩)
          |none=>
           rw [hl] at hx;obtain ⟨_,_,g1,g2⟩:=hin.ents i x hx;exact .inr (.inr ⟨g1,g2,hx⟩)
        have src:∀ i x,look ((0,Ent.own T sM)::(hM++h)) i=some x->x.isOwn=true->(ρc i).isSome=true->∃ k∈id::someIds rs,(ρ k).isSome=true /\ ρc.blk i=ρ.blk k/\((i=0/\k=id) ∨ (1<=i/\rs[i-1]? = some (some k))):=fun i x hx ho hi=>by
         rcases lookT i x hx with ⟨rfl,_⟩ |⟨g1,g2,hl⟩ |⟨g1,g2,hl⟩
         ·exact ⟨id,List.mem_cons_self ..,hid,rfl,.inl ⟨rfl,rfl⟩⟩
         ·obtain ⟨_,_,E,d,rfl,h1⟩:=hMe i x hl;rw [(cM i g1 g2).1] at hi
          rcases h1 with ⟨h1,_⟩ |⟨r,h1,h2⟩
          ·rw [h1] at hi;cases hi
          ·have hm:mapO ρ rs 1 i=ρ r:=by unfold mapO;rw [if_pos g1,h1]
           refine ⟨r,List.mem_cons_of_mem _ (mem_someIds.2 ⟨_,h1⟩),by rw [<- hm];exact hi,?_,.inr ⟨g1,h1⟩⟩;unfold Map.blk;rw [(cM i g1 g2).1,hm]
         ·have:=(hin.ents i x hl).2.1;rw [this] at ho;cases ho
        have hwh:WH ⟨w,F,mu,some (ρ.blk id,0)⟩ ρc ((0,.own T sM)::(hM++h)) w:=by
         refine ⟨BelowM.refl _ _ _,fun i x hx=>?_,fun i j x y hx hy hxo hyo hne hi hj=>?_,fun b cs hb=>?_,fun _ _ h=>h,rfl,rfl,fun b cs hb=>.inl hb,fun p hp=>hp,by rw [<- hF];exact hw.tabP _⟩
         ·rcases lookT i x hx with ⟨rfl,rfl⟩ |⟨g1,g2,hl⟩ |⟨g1,g2,hl⟩
          ·exact ⟨rfl,rfl,⟨.inr (muK id (List.mem_cons_self ..) hid),fzNone id (List.mem_cons_self ..) hid⟩,vs0,hMc ρc holds,hheap⟩
          ·obtain ⟨_,_,E,d,rfl,h1⟩:=hMe i x hl
           rcases h1 with ⟨h1,h2⟩ |⟨r,h1,h2⟩
           ·exact .inl ⟨by rw [(cM i g1 g2).1];exact h1,h2⟩
           ·have hm:mapO ρ rs 1 i=ρ r:=by unfold mapO;rw [if_pos g1,h1]
            have hcp:capO ρ rs 1 i=ρ.cap r:=by unfold capO;rw [h1]
            have hr:r∈id::someIds rs:=List.mem_cons_of_mem _ (mem_someIds.2 ⟨_,h1⟩)
            rcases hw.ents r _ h2 with ⟨q1,q2⟩ |⟨q1,q2,q3,q4⟩
            ·exact .inl ⟨by rw [(cM i g1 g2).1,hm];exact q1,q2⟩
            ·have hbk:ρc.blk i=ρ.blk r:=by unfold Map.blk;rw [(cM i g1 g2).1,hm]
             refine .inr ⟨by rw [(cM i g1 g2).1,hm];exact q1,by unfold Map.off;rw [(cM i g1 g2).1,hm];exact q2,by rw [hbk];exact ⟨.inr (muK r hr q1),fzNone r hr q1⟩,?_⟩;rw [hbk,(cM i g1 g2).2,hcp];exact rowAt_mono hfzle rfl q4
          ·obtain ⟨he,ho,_,_⟩:=hin.ents i x hl
           cases x with
           |own=>cases ho
           |row=>cases ho
           |orow=>cases ho
           |gone=>trivial
           |ro l=>
            obtain ⟨q1,us,q2,q3⟩:=he 0 w;refine ⟨by rw [(cH i g1).1];exact q1,us,csrel_ext ext1 (csrel_mu mu q2),fun o v hv=>?_⟩;have:=q3 o v hv;rw [hin.hfz] at this;unfold Map.blk Map.off at this ⊢;rw [(cH i g1).1];exact this
         ·obtain ⟨k,hk,hks,hkb,hki⟩:=src i x hx hxo hi;obtain ⟨l,hl,hls,hlb,hlj⟩:=src j y hy hyo hj;rw [hkb,hlb];obtain ⟨x',hx',hxo'⟩:=own_k k hk hks;obtain ⟨y',hy',hyo'⟩:=own_k l hl hls;refine hw.apart k l x' y' hx' hy' hxo' hyo' (fun e=>?_) hks hls;subst e
          rcases hki with ⟨rfl,rfl⟩ |⟨a1,a2⟩<;>rcases hlj with ⟨rfl,b1⟩ |⟨b1,b2⟩
          ·exact hne rfl
          ·exact hnid' (mem_someIds.2 ⟨_,b2⟩)
          ·subst b1;exact hnid' (mem_someIds.2 ⟨_,a2⟩)
          ·have:=distO_spec hdist _ _ _ a2 b2;omega
         ·have hb:F b=some cs:=hb;rw [<- hF] at hb;exact passF_froz hw.froz hb
        refine calls_of_wp hf hb ?_
        refine sx_spec htt hm (hC _) (w0:=⟨w,F,mu,some (ρ.blk id,0)⟩) (lfb_spec (fun _=>rfl)) c _ _ hsx _ ?_ ρc _ w ⟨⟨hsz,rfl,?_⟩,hwh,fun i hi=>by rw [(cH i (by show 1+rs.length<=i;have:idE<=i:=hi;omega)).1];exact hin.out i (.inr hi)⟩
        ·intro ex xx s' ρ' a w' hex hk hs';have done:retM tt fn.results.toList e T sg .ret s'->a.defers=[]/\∃ v,(results fn a.tmps).run P w' = .ok v w'/\∃ ρ'' u,Ending.returned v = .returned u/\UR ρ'' (e.val.sh fr) u/\Fr w0.heap.size ρ ρ'' w w' {val:=e.val.sh fr,nw:=shH fr e.nw,vc:=ps1++(ps2++e.vc),st:=(id,.own T (shS fr sg))::(kills (someIds rs)++(if plainE (e.sh fr)&&plainS (shS fr sg) then [] else kills (keepOwn hp (idsX hp rest))))}:=by
          intro hk;simp only [retM] at hk
          split at hk
          ·rename_i v qs hres;rw [allK_iff] at hk;obtain ⟨hq,hk⟩:=hk;generalize hfrz:frzSV s'.hp v e.val=fz3 at hk;obtain ⟨v',fs,ids⟩:=fz3;dsimp only at hk;rw [allK_iff] at hk;obtain ⟨hfs,hk⟩:=hk
           split at hk
           rename_i la lb hla hlb
           split at hk
           rename_i hok;obtain ⟨hk1,hk2⟩:=all_append.1 (conj_all hk);obtain ⟨u,hu1,hu2⟩:=resS_spec htt hs' hres hq;have hu2':=frzSV_spec hs'.mem hfrz hfs (fun i hi ho=>keepOwn_mem.2 ⟨hi,ho⟩) hu2;have hfr0:=fr_freeze (B:=w.heap.size) hs'.mem.froz (keepOwn s'.hp ids) .junk [];have hmem':WH ⟨w,F,mu,some (ρ.blk id,0)⟩ (ρ'.frz w' (keepOwn s'.hp ids)) (kills (keepOwn s'.hp ids)++s'.hp) w':=by
            have:=wh_step hs'.mem hfr0 (fun i x hx=>stOK_kills i x hx) (fun _ _ h=>by simp [look] at h);exact this
           have hanc:(ρ'.frz w' (keepOwn s'.hp ids)) 0=some (ρ.blk id,0):=hmem'.anc _ rfl;have hs2:SH ⟨w,F,mu,none⟩ 0 {tm:=[],hp:=kills (keepOwn s'.hp ids)++s'.hp,nx:=s'.nx} (ρ'.frz w' (keepOwn s'.hp ids)) {a with tmps:=#[]} w':=⟨⟨rfl,hs'.slots.defers,fun t x hx=>by simp [look] at hx⟩,wh_noanc hmem',hs'.fresh⟩;generalize hρ3:ρ'.frz w' (keepOwn s'.hp ids)=ρ3 at hu2' hmem' hs2 hanc;have hle:=svL_spec hla hk1;have hhe:=heapL_spec hlb hk2;generalize mHeap (kills (keepOwn s'.hp ids)++s'.hp) ((8,.own T sg)::e.nw) ((8,0)::mSV v' e.val)=δ at *;simp only [Bool.and_eq_true] at hok;obtain ⟨⟨⟨hinj,hnew⟩,hsv⟩,hsg,hd8⟩:=hok;have hd8:=Nat.eq_of_beq_eq_true hd8;have hnj:e.val ≠ .junk:=fun hj=>by rw [hj] at hsv;cases hsv
           have hu3:=ur_le hle hu2' hnj;have hw2:=(stLe_spec (δ:=δ) (t:={tm:=[],hp:=(8,.own T sg)::e.nw,nx:=9}) ⟨trivial,hhe,hinj⟩ (fun h=>by cases h) hs2).mem;have hB:w0.heap.size<=w.heap.size:=hw.below.size;have h8:(ρ3.ren δ 9) 8=some (ρ.blk id,0):=by
            simp only [Map.ren];rw [if_pos (by decide),hd8];exact hanc
           generalize hρr:ρ3.ren δ 9=ρr at hu3 hw2 h8;have hmu:ρr.mu=mu:=by rw [<- hρr,<- hρ3];exact hs'.mem.mu0
           have hf0:ρr.f0=F:=by rw [<- hρr,<- hρ3];exact hs'.mem.f00
           replace hu3:=ur_sh (n:=fr) hu3
           replace hw2:=wh_sh fr rfl hw2
           replace hnew:=newOK_sh (n:=fr) hnew
           replace hsv:=svIn_sh (n:=fr) hsv
           replace hsg:=segsIn_sh (n:=fr) hsg
           replace hmu:(ρr.sh fr).mu=mu:=hmu
           replace hf0:(ρr.sh fr).f0=F:=hf0
           replace h8:(ρr.sh fr) (fr+8)=some (ρ.blk id,0):=by rw [sh_at];exact h8
           clear hρr hinj hnj hle hhe;generalize ρr.sh fr=ρr at *;have hw2:WH ⟨w,F,mu,none⟩ ρr ((fr+8,.own T (shS fr sg))::shH fr e.nw) w':=hw2;generalize hNW:shH fr e.nw=nw at *;generalize hSG:shS fr sg=sg' at *;generalize hVL:e.val.sh fr=vl at *;generalize hPL:(plainE (e.sh fr)&&plainS sg')=pl at *;have plOK:pl=true->plainSV vl=true/\plainH nw=true/\plainS sg'=true:=fun hpl=>by
            rw [<- hPL] at hpl;simp only [Bool.and_eq_true] at hpl;have h1:plainE (e.sh fr)=true:=hpl.1;unfold plainE at h1;simp only [Bool.and_eq_true] at h1;exact ⟨by rw [<- hVL];exact h1.1,by rw [<- hNW];exact h1.2,hpl.2⟩
           have look2:∀ i x,look nw i=some x->look ((fr+8,Ent.own T sg')::nw) i=some x:=fun i x hx=>by
            obtain ⟨_,_,h2,_⟩:=newOK_spec hnew i x hx;simp only [look];rw [if_neg (by simp;omega)];exact hx
           have lookS:look ((fr+8,Ent.own T sg')::nw) (fr+8)=some (.own T sg'):=by simp [look]
           obtain ⟨e1s,e2s,e3s,us,e4s,e5s⟩:=hw2.ents _ _ lookS;have hb8:ρr.blk (fr+8)=ρ.blk id:=by simp [Map.blk,h8]
           have ho8:ρr.off (fr+8)=0:=by simp [Map.off,h8]
           rw [hb8] at e3s e5s
           let ST:Heap:=(id,.own T sg')::(kills (someIds rs)++(if pl then [] else kills (keepOwn hp (idsX hp rest))))
           have stRow:∀ k,k∈someIds rs->look ST k=some .gone:=fun k hk=>by
            simp only [ST,look];rw [if_neg (by simp;rintro rfl;exact hnid' hk),look_append,kills_mem hk]
           have stKeep:pl=false->∀ k,k∈keepOwn hp (idsX hp rest)->look ST k=some .gone:=fun hpl k hk=>by
            have hne:id≠k:=fun h=>disI_spec hdis (keepOwn_mem.1 hk).1 (h ▸ List.mem_cons_self ..)
            simp only [ST,look];rw [if_neg (by simpa using hne),look_append]
            cases hq:look (kills (someIds rs)) k with
            |some y=>rw [(kills_look hq).1]
            |none=>simp only [hpl];exact kills_mem hk
           let ρ2:Map:={m:=fun i=>if nin i (keys nw) then ρr i else ρ i,cap:=fun i=>if nin i (keys nw) then ρr.cap i else ρ.cap i,fz:=if pl then ρ.fz else ρr.fz,f0:=ρ.f0,mu:=ρ.mu}
           have ag:∀ i,nin i (keys nw)=true -> ρ2 i=ρr i /\ ρ2.cap i=ρr.cap i:=fun i hi=>⟨by simp only [ρ2];rw [if_pos hi],by simp only [ρ2];rw [if_pos hi]⟩
           have off:∀ i,nin i (keys nw)=false -> ρ2 i=ρ i:=fun i hi=>by simp only [ρ2];rw [if_neg (by rw [hi];simp)]
           have oldKey:∀ i,(ρ i).isSome=true->nin i (keys nw)=false:=fun i hi=>by
            cases hn:nin i (keys nw) with
            |false=>rfl
            |true=>
             obtain ⟨x,hx⟩:=Option.isSome_iff_exists.1 (nin_keys.1 hn);rw [hfr i x hx] at hi;cases hi
           have fzle:FzLe ρ.fz ρr.fz:=fun b cs hb=>hw2.sub b cs (by rw [hf0];exact hfzle b cs hb)
           have ownNew:∀ i x,look nw i=some x->(ρr i).isSome=true->(w.heap.size<=ρr.blk i ∨ Killed ρ ST (ρr.blk i)) /\ ρr.fz (ρr.blk i)=none /\ ρr.blk i≠ρ.blk id:=fun i x hx hi=>by
            obtain ⟨ho,_,hlt,_⟩:=newOK_spec hnew i x hx;obtain ⟨hM,_⟩:=erel_some (hw2.ents i x (look2 i x hx)) ho hi;have hne:ρr.blk i≠ρ.blk id:=by
             rw [<- hb8];exact hw2.apart i (fr+8) x _ (look2 i x hx) lookS ho rfl (by omega) hi e1s
            refine ⟨?_,hM.2,hne⟩
            rcases hM.1 with h |h
            ·exact .inl h
            ·rw [hmu] at h;obtain ⟨k,hk,hks,hkb⟩:=inIds_iff.1 h
             rcases List.mem_cons.1 hk with rfl |hk
             ·exact absurd hkb.symm hne
             ·exact .inr ⟨k,stRow k hk,hks,hkb.symm⟩
           have blk2:∀ i,nin i (keys nw)=true -> ρ2.blk i=ρr.blk i:=fun i hi=>by simp [Map.blk,(ag i hi).1]
           have hzz:ρ2.fz=ρr.fz ∨ pl=true:=by
            cases hpl:pl with
            |true=>exact .inr rfl
            |false=>left;simp only [ρ2,hpl];rfl
           have hidB:ρ2 id=ρ id:=off id (oldKey id hid);have hbid:ρ2.blk id=ρ.blk id:=by simp [Map.blk,hidB]
           refine ⟨hs'.slots.defers,u,hu1,ρ2,u,rfl,ur_in ag (hzz.imp (fun h=>h) fun h=>(plOK h).1) hsv hu3,?_⟩;refine ⟨⟨fun i p hi=>?_,fun i hi=>?_,?_,rfl,rfl⟩,fun i hi=>?_,⟨hs'.mem.below.os,hs'.mem.below.tape,hs'.mem.below.output,hs'.mem.below.size,fun k hk=>absurd hk (Nat.not_lt_zero k)⟩,fun b hb' hno=>hs'.mem.below.block b hb' ?_,fun i x hx=>?_,fun i x hx=>?_,fun i j x y hx hy hne hii hjj=>?_,fun b cs hb=>?_⟩
           ·rw [off i (oldKey i (by rw [hi];rfl))];exact hi
           ·have:=oldKey i hi;simp only [ρ2];rw [if_neg (by rw [this];simp)]
           ·simp only [ρ2];split
            ·exact fun _ _ h=>h
            ·exact fzle
           ·have hi':look nw i=none:=hi;refine off i ?_
            cases hn:nin i (keys nw) with
            |false=>rfl
            |true=>rw [nin_keys,hi'] at hn;cases hn
           ·rw [hs'.mem.mu0];show mu b=false
            cases hmb:mu b with
            |false=>rfl
            |true=>
             exfalso;obtain ⟨k,hk,hks,hkb⟩:=inIds_iff.1 hmb
             rcases List.mem_cons.1 hk with rfl |hk
             ·exact hno k _ (by show look ST k=_;simp only [ST,look];rw [if_pos (by simp)]) hks hkb
             ·exact hno k _ (stRow k hk) hks hkb
           ·have hx':look ST i=some x:=hx;simp only [ST,look] at hx'
            split at hx'
            ·rename_i hi;obtain rfl:id=i:=by simpa using hi
             obtain rfl:=by simpa using hx'
             refine ⟨by rw [hidB];exact hid,by simp [Map.off,hidB];exact hoff,?_,us,csrel_in ag (hzz.imp (fun h=>h) fun h=>(plOK h).2.2) hsg e4s,by rw [hbid];exact e5s⟩;rw [hbid];refine ⟨hMine.1,?_⟩;simp only [ρ2];split
             ·exact hMine.2
             ·exact e3s.2
            ·rw [look_append] at hx'
             cases hq:look (kills (someIds rs)) i with
             |some y=>
              rw [hq] at hx';obtain rfl:=by simpa using hx'
              rw [(kills_look hq).1];trivial
             |none=>
              rw [hq] at hx';dsimp only at hx'
              split at hx'
              ·simp [look] at hx'
              ·rw [(kills_look hx').1];trivial
           ·have hx':look nw i=some x:=hx;obtain ⟨ho,_,_,hni⟩:=newOK_spec hnew i x hx';have hki:nin i (keys nw)=true:=nin_keys.2 (by rw [hx'];rfl);refine ⟨erel_in ag hki (hzz.imp (fun h=>h) fun h=>plainH_spec (plOK h).2.1 i x hx') hni (fun hi=>?_) (hw2.ents i x (look2 i x hx')),fun hi=>?_,ho⟩
            ·obtain ⟨g1,g2,_⟩:=ownNew i x hx' hi;refine ⟨?_,?_⟩
             ·rcases g1 with g1 |⟨k,hk,hks,hkb⟩
              ·exact .inl (by omega)
              ·have hk2:k∈id::someIds rs ∨ k∈keepOwn hp (idsX hp rest):=by
                have hk:look ST k=some .gone:=hk;simp only [ST,look] at hk
                split at hk
                ·cases hk
                ·rw [look_append] at hk
                 cases hq:look (kills (someIds rs)) k with
                 |some y=>exact .inl (List.mem_cons_of_mem _ (kills_look hq).2)
                 |none=>
                  rw [hq] at hk;dsimp only at hk
                  split at hk
                  ·simp [look] at hk
                  ·exact .inr (kills_look hk).2
               have:∃ x,look hp k=some x/\x.isOwn=true:=by
                rcases hk2 with h |h
                ·exact own_k k h hks
                ·have:=(keepOwn_mem.1 h).2;unfold ownId at this
                 split at this
                 ·rename_i y hy;exact ⟨y,hy,this⟩
                 ·cases this
               obtain ⟨y,hy,hyo⟩:=this;rw [hkb];exact (erel_some (hw.ents k y hy) hyo hks).1.1
             ·simp only [ρ2];split
              ·cases hc:ρ.fz (ρr.blk i) with
               |none=>rfl
               |some cs=>have:=fzle _ _ hc;rw [g2] at this;cases this
              ·exact g2
            ·rw [blk2 i hki];exact (ownNew i x hx' (by rw [<- (ag i hki).1];exact hi)).1
           ·have hx':look nw i=some x:=hx;have hy':look nw j=some y:=hy;have hki:nin i (keys nw)=true:=nin_keys.2 (by rw [hx'];rfl);have hkj:nin j (keys nw)=true:=nin_keys.2 (by rw [hy'];rfl);rw [blk2 i hki,blk2 j hkj];exact hw2.apart i j x y (look2 i x hx') (look2 j y hy') (newOK_spec hnew i x hx').1 (newOK_spec hnew j y hy').1 hne (by rw [<- (ag i hki).1];exact hii) (by rw [<- (ag j hkj).1];exact hjj)
           ·by_cases hpl':pl=true
            ·left
             have:ρ2.fz b=some cs:=hb;simp only [ρ2,hpl',if_pos] at this;exact this
            ·have hpl:pl=false:=by simpa using hpl'
             have hb2:ρr.fz b=some cs:=by
              have:ρ2.fz b=some cs:=hb;simp only [ρ2,hpl] at this;exact this
             have hnw:∀ i x,look nw i=some x->(ρ2 i).isSome=true -> ρ2.blk i≠b:=fun i x hx hi hbb=>by
              have hki:nin i (keys nw)=true:=nin_keys.2 (by rw [hx];rfl);obtain ⟨_,g2,_⟩:=ownNew i x hx (by rw [<- (ag i hki).1];exact hi);rw [<- blk2 i hki,hbb,hb2] at g2;cases g2
             rcases hw2.old b cs hb2 with h1 |h1 |h1
             ·rw [hf0,<- hF] at h1
              rcases passF_some h1 with h2 |⟨⟨i,hi,hsi,hbi⟩,_⟩
              ·exact .inl h2
              ·refine .inr ⟨.inr ⟨i,stKeep hpl i hi,hsi,hbi.symm⟩,hw2.froz b cs hb2,hnw⟩
             ·exact .inr ⟨.inl h1,hw2.froz b cs hb2,hnw⟩
             ·rw [hmu] at h1;obtain ⟨k,hk,hks,hkb⟩:=inIds_iff.1 h1
              rcases List.mem_cons.1 hk with rfl |hk
              ·have:=e3s.2;rw [hkb,hb2] at this;cases this
              ·exact .inr ⟨.inr ⟨k,stRow k hk,hks,hkb.symm⟩,hw2.froz b cs hb2,hnw⟩
           ·exact hk.elim
           ·exact hk.elim
          ·exact hk.elim
         cases ex with
         |normal=>simp only [exOf,Option.some.injEq] at hex;subst hex;exact done hk
         |ret=>simp only [exOf,Option.some.injEq] at hex;subst hex;exact done hk
         |exit i=>simp only [exOf,Option.some.injEq] at hex;subst hex;exact hk.elim
         |goto l=>cases hex
         |panic ch=>cases hex
         |outgrown=>cases hex
        ·intro t x hx;obtain ⟨_,h2⟩:=slots0_look _ 0 t x hx;obtain ⟨v,hv,hr⟩:=args_get hargsC (by simpa using h2);have hlt:=lt_of_get hv;have:((v0::vr).toArray++Array.replicate (fn.ntmps-(v0::vr).toArray.size) undef).getD t undef=v:=by
          simp only [Array.getD_eq_getD_getElem?];rw [Array.getElem?_append_left (by simpa using hlt),List.getElem?_toArray,hv];rfl
         rw [this];exact ur_vrel hr
      ·cases h0
     ·cases h0
    ·cases h0
   ·cases h0
  ·cases h0
 ·cases h0
def ObM (tt:TT) (nt:Nat) (A:Ann) (c:Code) (rs:List ResultVar) (T:TypeId) (ms:List AM) (aps:List AP) (ds:List Dat):Option (Eff × List Seg)->Prop
 |some (e,sg)=>(match unM ms ds 1 with
  |some (sM,hM,rest,id1)=>(match unP aps rest id1 with
   |some (svs,h,id)=>AllI e.vc (sx tt nt A (LFb true) c (retM tt rs e T sg) {tm:=slots0 (.one (.sc (.ptr 0 (.lit 0)))::svs) 0,hp:=(0,.own T sM)::(hM++h),nx:=id})
   |none=>True)
  |none=>True)
 |none=>True
theorem fn_obM {P:Program} {tt:TT} (htt:TTOK P tt) (hm:P.follows .mixedOrders=true) {f:FuncId} {fn:Func} {c:Code} (hf:P.funcs[f]? = some fn) (hb:fn.body=some c) (hen:∀ (args:Array Value) (w:World),(callFunc f args).run P w = .ok (.enter f args) w)
 {A:List Dat->Ann} (hC:∀ ds id,CtxOK P ((A ds).C id)) {T:TypeId} {ms:List AM} {aps:List AP} {spec:List Dat->Option (Eff × List Seg)} (hn:Nat.ble (aps.length+1) fn.ntmps=true)
 (H:∀ ds,ObM tt fn.ntmps (A ds) c fn.results.toList T ms aps ds (spec ds)):ConOK P f (conM T ms aps spec):=
 fn_okM htt hm hf hb hen hC hn fun ds e sg sM hM rest id1 svs h id he hvc h1 h2=>by
  have:=H ds;unfold ObM at this;rw [he] at this;dsimp only at this;rw [h1] at this;dsimp only at this;rw [h2] at this;exact allI_iff.1 this hvc
def underM (spec:List Dat->Option (Eff × List Seg)) (μ:List Dat->Nat) (m:Nat):List Dat->Option (Eff × List Seg):=fun ds=>match spec ds with
 |some (e,sg)=>some ({e with vc:=(μ ds<m)::e.vc},sg)
 |none=>none
theorem conM_in {T:TypeId} {ms:List AM} {aps:List AP} {spec:List Dat->Option (Eff × List Seg)} {hp:Heap} {fr:Nat} {args:List SV} {e0:Eff} (h:conM T ms aps spec hp fr args=some e0):∃ ds e sg ps1 ps2,spec ds=some (e,sg)/\e0.vc=ps1++(ps2++e.vc) /\
 ∀ spec' e',spec' ds=some (e',sg)->e'.val=e.val->e'.nw=e.nw->conM T ms aps spec' hp fr args=some {e0 with vc:=ps1++(ps2++e'.vc)}:=by
 unfold conM at h
 split at h
 ·rename_i id rest;unfold conMb at h
  split at h
  ·rename_i T' segs hlk
   split at h
   ·rename_i hTT
    split at h
    ·rename_i ds1 ps1 rs ds2 ps2 hflM hflP
     split at h
     ·rename_i hck
      split at h
      ·rename_i e sg hspec;obtain rfl:=Option.some.inj h;refine ⟨_,e,sg,ps1,ps2,hspec,rfl,fun spec' e' h' hv hn=>?_⟩;have hpl:plainE (e'.sh fr)=plainE (e.sh fr):=by unfold plainE Eff.sh;rw [hv,hn]
       show conMb T ms aps spec' hp fr id rest=_;unfold conMb;rw [hlk];dsimp only;rw [if_pos hTT,hflM,hflP];dsimp only;rw [if_pos hck,h'];dsimp only;rw [hpl,hv,hn]
      ·cases h
     ·cases h
    ·cases h
   ·cases h
  ·cases h
 ·cases h
theorem conM_rec {P:Program} {f:FuncId} {T:TypeId} {ms:List AM} {aps:List AP} {spec:List Dat->Option (Eff × List Seg)} (μ:List Dat->Nat) (hen:∀ (args:Array Value) (w:World),(callFunc f args).run P w = .ok (.enter f args) w) (H:∀ m,ConOK P f (conM T ms aps (underM spec μ m))->ConOK P f (conM T ms aps (underM spec μ (m+1)))):ConOK P f (conM T ms aps spec):=by
 have all:∀ m,ConOK P f (conM T ms aps (underM spec μ m)):=fun m=>by
  induction m with
  |zero=>
   refine ⟨hen,fun hp fr args e he hv=>?_,fun hp fr caps e h=>by cases h⟩;exfalso;obtain ⟨ds,e1,sg,ps1,ps2,hs,hvc,_⟩:=conM_in he;rw [hvc] at hv;obtain ⟨_,hv⟩:=all_append.1 hv;obtain ⟨_,hv⟩:=all_append.1 hv;unfold underM at hs
   split at hs
   ·simp only [Option.some.injEq,Prod.mk.injEq] at hs;obtain ⟨rfl,rfl⟩:=hs;exact Nat.not_lt_zero _ hv.1
   ·cases hs
  |succ m ih=>exact H m ih
 refine ⟨hen,fun hp fr args e he hv=>?_,fun hp fr caps e h=>by cases h⟩;obtain ⟨ds,e1,sg,ps1,ps2,hs,hvc,hx⟩:=conM_in he;have hu:=hx (underM spec μ (μ ds+1)) {e1 with vc:=(μ ds < μ ds+1)::e1.vc} (by unfold underM;rw [hs]) rfl rfl;rw [hvc] at hv;obtain ⟨hv1,hv2⟩:=all_append.1 hv;obtain ⟨hv2,hv3⟩:=all_append.1 hv2;intro w0 w ρ vs hw hn ha;exact ((all (μ ds+1)).calls hp fr args _ hu (all_append.2 ⟨hv1,all_append.2 ⟨hv2,Nat.lt_succ_self _,hv3⟩⟩) w0 w ρ vs hw hn ha).mono fun en w' h=>by
  obtain ⟨ρ',v,h1,h2,h3⟩:=h;exact ⟨ρ',v,h1,h2,⟨h3.ext,h3.only,h3.below,h3.keep,h3.st,h3.nw,h3.apart,h3.fz⟩⟩
end Go.Proofs.Ytcfkhnlkfgmoiaa.Sx
