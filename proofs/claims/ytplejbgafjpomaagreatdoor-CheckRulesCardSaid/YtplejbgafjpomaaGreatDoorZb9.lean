import Derived.Test.YtplejbgafjpomaaGreatDoorZb8
set_option linter.unusedVariables false
set_option linter.unusedSimpArgs false
namespace Go.Proofs.YtplejbgafjpomaaGreatDoor.Sx
open Go.RowKit
def cnt (f:Nat->Bool):Nat->Nat
 | 0=>0
 |n+1=>cnt f n+(if f n then 0 else 1)
theorem cnt_zero {f:Nat->Bool}:∀ {n:Nat},cnt f n=0->∀ i,i<n->f i=true
 | 0,_,i,h=>by omega
 |n+1,hc,i,h=>by
  simp only [cnt] at hc;have h1:cnt f n=0:=by omega
  by_cases hi:i=n
  ·subst hi
   cases hf:f i with
   |true=>rfl
   |false=>simp [hf] at hc
  ·exact cnt_zero h1 i (by omega)
theorem cnt_same {f g:Nat->Bool}:∀ {n:Nat},(∀ i,i<n->f i=g i)->cnt f n=cnt g n
 | 0,_=>rfl
 |n+1,h=>by simp only [cnt];rw [cnt_same (fun i hi=>h i (by omega)),h n (by omega)]
theorem cnt_set {f g:Nat->Bool} {i:Nat} (hf:f i=false) (hg:g i=true) (hfg:∀ j,j≠i->g j=f j):∀ {n:Nat},i<n->cnt g n+1=cnt f n
 | 0,h=>by omega
 |n+1,h=>by
  simp only [cnt]
  by_cases hi:i=n
  ·subst hi;rw [hf,hg,cnt_same (f:=g) (g:=f) (fun j hj=>hfg j (by omega))]
   simp
  ·have:=cnt_set hf hg hfg (n:=n) (by omega);rw [hfg n (fun e=>hi e.symm)];omega
def Dn (listed:Array Bool) (j:Nat):Bool:=listed.getD j false
def fD (recs:List Rec) (D:Nat->Bool) (j:Nat):Option SV:=if D j then (match recs[j]? with |some r=>some r.sv |none=>none) else none
def hD (recs:List Rec) (D:Nat->Bool) (j:Nat):Option Heap:=if D j then (match recs[j]? with |some r=>some r.heap |none=>none) else none
structure J (d:DIn) (recs:List Rec) (nt:Nat) (w0:W0) (D:Nat->Bool) (ρ:Map) (a:Act) (w:World):Prop where
 slots:AH ρ nt (mkS (fD recs D) (idxs d.l 0) d.s.tm) a
 mem:WH w0 ρ (mkH (hD recs D) (List.range d.n) d.s.hp) w
 fresh:∀ id,d.s.nx<=id->(∀ j,D j=true->¬ (d.s.nx+8*j<=id/\id<d.s.nx+8*j+8)) -> ρ id=none
 closed:∀ i o,d.l[i]? = some o->D i=true->∀ e∈o.after.toList,Region.binds .any e=true->D e.on=true
 lt:∀ i,D i=true->i<d.n
theorem vcs_all:∀ {l:List Rec},All (vcs l)->∀ (i:Nat) r,l[i]? = some r->All r.vc
 | [],_,i,r,h=>by simp at h
 |q::l,h,i,r,hi=>by
  obtain ⟨h1,h2⟩:=all_append.1 h
  cases i with
  |zero=>simp at hi;subst hi;exact h1
  |succ i=>exact vcs_all h2 i r (by simpa using hi)
theorem dstsOK_spec:∀ {l:List Oper},dstsOK l=true->∀ (i j:Nat) o q t,l[i]? = some o->l[j]? = some q->o.dst=some t->q.dst=some t->i=j
 | [],_,i,j,o,q,t,h,_,_,_=>by simp at h
 |x::r,hk,i,j,o,q,t,hi,hj,ho,hq=>by
  simp only [dstsOK,Bool.and_eq_true] at hk
  cases i with
  |zero=>
   cases j with
   |zero=>rfl
   |succ j=>
    simp at hi hj;subst hi;rw [ho] at hk;have:=List.all_eq_true.1 hk.1 q (List.mem_of_getElem? hj);simp [hq] at this
  |succ i=>
   cases j with
   |zero=>
    simp at hi hj;subst hj;rw [hq] at hk;have:=List.all_eq_true.1 hk.1 o (List.mem_of_getElem? hi);simp [ho] at this
   |succ j=>
    rw [dstsOK_spec hk.2 i j o q t (by simpa using hi) (by simpa using hj) ho hq]
section
variable {P:Program} {tt:TT} {C:Cons} {nt:Nat} {d:DIn} {recs:List Rec} {w0:W0}
structure Good (tt:TT) (C:Cons) (nt:Nat) (d:DIn) (recs:List Rec):Prop where
 hms:d.ms=ancs d.l []
 edges:edgesOK d.l 0=true
 dsts:dstsOK d.l=true
 pairs:pairsOK d=true
 nocond:noCond d.s.tm=true
 guards:guardsOK d recs=true
 len:recs.length=d.n
 each:∀ (j:Nat) o,d.l[j]? = some o->∃ q,recs[j]? = some q/\sstep tt C d.l.toArray (d.hpv (recs.take j) j) (d.tmv (recs.take j) j) (d.s.nx+8*j) o.guard o.op=some q/\nwIn (d.s.nx+8*j) q.nw=true /\
  keysIn q.heap (d.gs.getD j [])=true/\dchk nt o.dst q.sv=true
 vc:All (vcs recs)
theorem Good.anc_lt (g:Good tt C nt d recs) {i k:Nat} (h:bit d.ms i k=true):k<i:=by
 rw [g.hms] at h;exact bit_lt g.edges i k h
theorem Good.anc_in (g:Good tt C nt d recs) {D:Nat->Bool} (hc:∀ i o,d.l[i]? = some o->D i=true->∀ e∈o.after.toList,Region.binds .any e=true->D e.on=true) {i k:Nat} (hi:i<d.n) (hD:D i=true) (h:bit d.ms i k=true):D k=true:=by
 rw [g.hms] at h;exact bit_closed (D:=fun j=>D j=true) g.edges hc i k hi hD h
theorem Good.anc_ready (g:Good tt C nt d recs) {D:Nat->Bool} (hc:∀ i o,d.l[i]? = some o->D i=true->∀ e∈o.after.toList,Region.binds .any e=true->D e.on=true) {i:Nat} {o:Oper} (ho:d.l[i]? = some o) (hr:∀ e∈o.after.toList,Region.binds .any e=true->D e.on=true) {k:Nat} (h:bit d.ms i k=true):D k=true:=by
 rw [g.hms] at h;obtain ⟨e,he,hb,h'⟩:=(bit_iff g.edges ho k).1 h;have hlt:=edgesOK_spec g.edges i o ho e he hb;simp only [Nat.zero_add] at hlt;have hi:=lt_of_get ho
 rcases h' with rfl |h'
 ·exact hr e he hb
 ·exact bit_closed (D:=fun j=>D j=true) g.edges hc e.on k (by omega) (hr e he hb) h'
theorem Good.step (g:Good tt C nt d recs) (htt:TTOK P tt) (hC:CtxOK P C) {D D':Nat->Bool} {ρ:Map} {a:Act} {w:World} (h:J d recs nt w0 D ρ a w) {i:Nat} {o:Oper} (ho:d.l[i]? = some o) (hi:D i=false) (hr:∀ e∈o.after.toList,Region.binds .any e=true->D e.on=true)
 (hDi:D' i=true) (hDD:∀ j,j≠i->D' j=D j) {Q:Exit->Act->World->Prop} {K:Act->World->Prop} (hK:∀ ρ' a' w',J d recs nt w0 D' ρ' a' w'->K a' w'):wpOp P d.l.toArray Q i K a w:=by
 obtain ⟨q,hq,hs,hnw,hkeys,hdc⟩:=g.each i o ho;have hin:i<d.n:=lt_of_get ho;have anc:∀ k,bit d.ms i k=true->D k=true:=fun k hk=>g.anc_ready h.closed ho hr hk
 have notdesc:∀ k,D k=true->bit d.ms k i=false:=fun k hk=>by
  cases hb:bit d.ms k i with
  |false=>rfl
  |true=>
   have:=g.anc_in h.closed (h.lt k hk) hk hb;rw [hi] at this;cases this
 have takeGet:∀ k,k<i->(recs.take i)[k]? = recs[k]?:=fun k hk=>List.getElem?_take_of_lt hk
 have recOf:∀ k,k<d.n->∃ r,recs[k]? = some r/\keysIn r.heap (d.gs.getD k [])=true:=fun k hk=>by
  obtain ⟨r,hr,_,_,hk',_⟩:=g.each k _ (List.getElem?_eq_getElem (show k<d.l.length from hk));exact ⟨r,hr,hk'⟩
 have hAv:AH ρ nt (d.tmv (recs.take i) i) a:=by
  refine ah_sub h.slots fun t x ht=>mkS_sub _ _ (fun p hp=>?_) t x ht
  obtain ⟨j,oj,hj,rfl⟩:=(idxs_mem d.l 0 p).1 hp
  (try simp only [Nat.zero_add])
  have hjn:j<d.n:=lt_of_get hj;obtain ⟨rj,hrj,_⟩:=recOf j hjn;unfold vS fD
  by_cases hji:j=i
  ·subst hji
   right
   simp [hi]
  ·rw [if_neg (by simpa using hji)]
   by_cases hb:bit d.ms i j=true
   ·right
    rw [if_pos hb,takeGet j (g.anc_lt hb),if_pos (anc j hb)];simp [hrj]
   ·rw [if_neg hb]
    by_cases hb2:bit d.ms j i=true
    ·right
     have:D j=false:=by
      cases hDj:D j with
      |false=>rfl
      |true=>rw [notdesc j hDj] at hb2;cases hb2
     rw [if_pos hb2,this];simp
    ·left;rw [if_neg hb2]
 have hlook:∀ id e,look (d.hpv (recs.take i) i) id=some e->e = .gone ∨ look (mkH (hD recs D) (List.range d.n) d.s.hp) id=some e:=fun id e he=>by
  rcases remI_look _ _ id e he with h0 |⟨hn,he'⟩
  ·exact .inl h0
  ·right
   rw [<- he'];refine (mkH_same id _ _ _ rfl fun j hj=>?_).symm;have hjn:j<d.n:=List.mem_range.1 hj;obtain ⟨rj,hrj,hkj⟩:=recOf j hjn;unfold vH hD
   by_cases hb:bit d.ms i j=true
   ·left
    rw [if_pos hb,takeGet j (g.anc_lt hb),if_pos (anc j hb),hrj]
   ·rw [if_neg hb]
    cases hDj:D j with
    |false=>left;rfl
    |true=>
     right
     have hji:j≠i:=fun e=>by subst e;rw [hi] at hDj;cases hDj
     have hg:=unord_mem hn j hj hji (by simpa using hb) (notdesc j hDj);refine ⟨rfl,?_⟩;rw [if_pos rfl,hrj];simp only [tch]
     cases hh:(look rj.heap id).isSome with
     |false=>rfl
     |true=>rw [keysIn_spec hkj id hh] at hg;cases hg
 have hWv:WH w0 ρ (d.hpv (recs.take i) i) w:=wh_sub2 h.mem hlook;have hnw':=nwIn_spec hnw;have hfr:∀ id x,look q.nw id=some x -> ρ id=none:=fun id x hx=>by
  obtain ⟨h1,h2⟩:=hnw' id x hx;refine h.fresh id (by omega) fun j hj=>?_
  have hji:j≠i:=fun e=>by subst e;rw [hi] at hj;cases hj
  omega
 have hvc:=vcs_all g.vc i q hq;have hget:d.l.toArray[i]? = some o:=by simpa using ho
 have main:=sstep_spec (K:=K) (Q:=Q) htt hC hs hvc hAv hWv hfr (fun ρ' w' v h1 h2=>hK ρ' _ w' (by
  have eqf:∀ j,fD recs D' j=upd (fD recs D) i q.sv j:=fun j=>by
   unfold fD upd
   by_cases hj:j=i
   ·subst hj;simp [hDi,hq]
   ·simp [hDD j hj,hj]
  refine ⟨?_,?_,?_,?_,?_⟩
  ·
   have e1:fD recs D'=upd (fD recs D) i q.sv:=funext eqf;rw [e1];have hmem:(i,o.dst)∈idxs d.l 0:=(idxs_mem d.l 0 _).2 ⟨i,o,ho,by simp⟩;have huniq:∀ p∈idxs d.l 0,p.1=i->p.2=o.dst:=fun p hp hpi=>by
    obtain ⟨j,oj,hj,rfl⟩:=(idxs_mem d.l 0 p).1 hp;simp only [Nat.zero_add] at hpi ⊢;subst hpi;rw [ho] at hj;have:o=oj:=by simpa using hj
    rw [this]
   cases hd:o.dst with
   |none=>
    rw [mkS_upd_none _ _ (fun p hp hpi=>by rw [huniq p hp hpi,hd])];exact ⟨h.slots.size,h.slots.defers,fun t x ht=>vrel_ext h2.ext (h.slots.slots t x ht)⟩
   |some t=>
    rw [hd] at hdc hmem huniq;simp only [dchk,Bool.and_eq_true] at hdc;refine ah_sub (ah_step2 (d:=t) (sv:=q.sv) (v:=v) h.slots h2.ext (by simpa [Nat.blt_eq] using hdc.1) ?_ ?_ h1) fun u x hu=>.inr ?_
    ·intro u gg x hu;have key:∀ (l:List (Nat × Option Nat)),(∀ p∈l,p∈idxs d.l 0)->look (mkS (fD recs D) l d.s.tm) u=some (.cond gg x)->gg.all (fun p=>!Nat.beq p.1 t)=true:=by
      intro l
      induction l with
      |nil=>intro _ hu;exact absurd hu (noCond_spec g.nocond u gg x)
      |cons p r ih=>
       obtain ⟨j,e⟩:=p;intro hl hu;simp only [mkS] at hu
       split at hu
       ·rename_i dd y hy;simp only [look] at hu
        split at hu
        ·obtain rfl:=by simpa using hu
         unfold fD at hy
         split at hy
         ·rename_i hDj
          split at hy
          ·rename_i rj hrj;have hsv:rj.sv = .cond gg x:=by simpa using hy
           rw [List.all_eq_true];intro p hp;have hjn:=h.lt j hDj;have h3:=List.all_eq_true.1 g.guards j (List.mem_range.2 hjn);simp only [hrj,hsv,svGs,List.all_eq_true] at h3;have h4:=h3 p hp (i,some t) hmem;simp only [Bool.or_eq_true] at h4
           rcases h4 with h4 |h4
           ·exact h4
           ·rw [notdesc j hDj] at h4;cases h4
          ·cases hy
         ·cases hy
        ·exact ih (fun p hp=>hl p (List.mem_cons_of_mem _ hp)) hu
       ·exact ih (fun p hp=>hl p (List.mem_cons_of_mem _ hp)) hu
     exact key _ (fun _ hp=>hp) hu
    ·cases hsv:q.sv with
     |cond gg x=>rw [hsv] at hdc;exact hdc.2
     |_=>rfl
    ·rw [mkS_upd _ _ hmem (fun p hp hp2=>?_) huniq] at hu
     ·exact hu
     ·obtain ⟨j,oj,hj,rfl⟩:=(idxs_mem d.l 0 p).1 hp;simp only [Nat.zero_add] at hp2 ⊢;exact dstsOK_spec g.dsts j i oj o t hj ho hp2 hd
  ·
   have hw1:=h2.mem _ h.mem hlook;have e2:hD recs D'=fun j=>if j=i then some q.heap else hD recs D j:=funext fun j=>by
    unfold hD
    by_cases hj:j=i
    ·subst hj;simp [hDi,hq]
    ·simp [hDD j hj,hj]
   rw [e2];refine wh_sub hw1 fun id e he=>?_
   rw [mkH_upd id _ _ (List.mem_range.2 hin) List.nodup_range (by unfold hD;rw [hi];rfl) ?_ List.pairwise_lt_range] at he
   ·rw [<- List.append_assoc];exact he
   ·intro ht j hj hne htj;have hjn:j<d.n:=List.mem_range.1 hj
    rcases Nat.lt_or_ge j i with hlt |hge
    ·exact hlt
    ·exfalso;have hji:i<j:=by omega
     unfold hD at htj
     split at htj
     ·rename_i hDj;obtain ⟨rj,hrj,hkj⟩:=recOf j hjn;rw [hrj] at htj;have h3:=keysIn_spec hkj id htj;have h4:=keysIn_spec hkeys id ht;have h5:=List.all_eq_true.1 (List.all_eq_true.1 g.pairs j (List.mem_range.2 hjn)) i (List.mem_range.2 hji);rw [notdesc j hDj] at h5;simp only [Bool.false_or,disj,List.all_eq_true] at h5;have h6:∃ y∈d.gs.getD i [],Nat.beq id y=true:=List.any_eq_true.1 h4;obtain ⟨y,hy,hyy⟩:=h6;have:id=y:=Nat.eq_of_beq_eq_true hyy;subst this;have h7:=h5 id hy;rw [h3] at h7;cases h7
     ·cases htj
  ·
   intro id hid hno;have hn:look q.eff.nw id=none:=by
    cases hl:look q.nw id with
    |none=>exact hl
    |some x=>exact absurd (hnw' id x hl) (hno i hDi)
   rw [h2.only id hn];refine h.fresh id hid fun j hj=>?_
   by_cases hji:j=i
   ·subst hji;exact hno j hDi
   ·exact hno j (by rw [hDD j hji];exact hj)
  ·intro j oj hj hDj e he hb
   by_cases hji:j=i
   ·subst hji;rw [ho] at hj;obtain rfl:o=oj:=by simpa using hj
    have:=hr e he hb
    by_cases hei:e.on=j
    ·rw [hei];exact hDi
    ·rw [hDD _ hei];exact this
   ·rw [hDD j hji] at hDj;have:=h.closed j oj hj hDj e he hb
    by_cases hei:e.on=i
    ·rw [hei];exact hDi
    ·rw [hDD _ hei];exact this
  ·intro j hj
   by_cases hji:j=i
   ·subst hji;exact hin
   ·rw [hDD j hji] at hj;exact h.lt j hj))
 unfold wpOp;rw [hget];exact main
theorem Good.any (g:Good tt C nt d recs) (htt:TTOK P tt) (hC:CtxOK P C) {Q:Exit->Act->World->Prop} (hQ:∀ D ρ a w,(∀ i,i<d.n->D i=true)->J d recs nt w0 D ρ a w->Q .normal a w):∀ (fuel:Nat) (listed:Array Bool) (ρ:Map) (a:Act) (w:World),listed.size=d.n->cnt (Dn listed) d.n<=fuel ->
 J d recs nt w0 (Dn listed) ρ a w->wpAny P .any d.l.toArray Q fuel listed a w:=by
 have allIn:∀ (listed:Array Bool),listed.size=d.n->Region.ready .any d.l.toArray listed=[]->∀ i,i<d.n->Dn listed i=true:=by
  intro listed hsz hr i
  induction i using Nat.strongRecOn with
  |_ i ih=>
   intro hi
   cases hD:Dn listed i with
   |true=>rfl
   |false=>
    exfalso;have ho:=List.getElem?_eq_getElem (show i<d.l.length from hi);have:i∈Region.ready .any d.l.toArray listed:=by
     rw [mem_ready];refine ⟨?_,d.l[i]'hi,by rw [List.getElem?_toArray];exact ho,fun e he hb=>?_⟩
     ·have hlt:i<listed.size:=by omega
      simp only [Dn,Array.getD_eq_getD_getElem?,Array.getElem?_eq_getElem hlt] at hD ⊢;exact hD
     ·have:=edgesOK_spec g.edges i _ ho e (Array.mem_toList_iff.2 he) hb;simp only [Nat.zero_add] at this;exact ih e.on this (by omega)
    rw [hr] at this;cases this
 have none:∀ (listed:Array Bool),listed.size=d.n->(∀ i,i<d.n->Dn listed i=true)->Region.ready .any d.l.toArray listed=[]:=by
  intro listed hsz hall
  cases hr:Region.ready .any d.l.toArray listed with
  |nil=>rfl
  |cons i r=>
   exfalso;have hm:i∈Region.ready .any d.l.toArray listed:=by rw [hr];exact List.mem_cons_self ..
   rw [mem_ready] at hm;obtain ⟨h0,o,ho,_⟩:=hm;have hi:i<d.n:=by
    have:d.l[i]? = some o:=by simpa using ho
    exact lt_of_get this
   have h1:=hall i hi;have hlt:i<listed.size:=by omega
   simp only [Dn,Array.getD_eq_getD_getElem?,Array.getElem?_eq_getElem hlt] at h0 h1;simp at h0 h1;rw [h0] at h1;cases h1
 intro fuel
 induction fuel with
 |zero=>
  intro listed ρ a w hsz hc hJ;have hall:=cnt_zero (f:=Dn listed) (n:=d.n) (by omega);exact ⟨none listed hsz hall,hQ _ ρ a w hall hJ⟩
 |succ fuel ih=>
  intro listed ρ a w hsz hc hJ;refine ⟨fun hr=>hQ _ ρ a w (allIn listed hsz hr) hJ,fun i hi=>?_⟩;rw [mem_ready] at hi;obtain ⟨h0,o,ho,hr⟩:=hi;have ho':d.l[i]? = some o:=by simpa using ho
  have hin:i<d.n:=lt_of_get ho';have hlt:i<listed.size:=by omega
  have hDi:Dn listed i=false:=by
   simp only [Dn,Array.getD_eq_getD_getElem?,Array.getElem?_eq_getElem hlt] at h0 ⊢;exact h0
  have hD':Dn (listed.setIfInBounds i true) i=true:=by simp [Dn,hlt]
  have hDD:∀ j,j≠i->Dn (listed.setIfInBounds i true) j=Dn listed j:=fun j hj=>getD_set_ne false (Ne.symm hj)
  refine g.step htt hC hJ ho' hDi (fun e he hb=>hr e (by simpa using he) hb) hD' hDD fun ρ' a' w' hJ'=>ih _ ρ' a' w' (by simpa using hsz) ?_ hJ'
  have:=cnt_set hDi hD' hDD hin;omega
end
theorem drawR_spec {P:Program} {tt:TT} (htt:TTOK P tt) {C:Cons} (hC:CtxOK P C) (hm:P.follows .mixedOrders=true) {nt:Nat} {l:List Oper} {gs:List (List Nat)} {s s':St} {ps:List Prop} (h:drawR tt C nt l gs s=some (ps,s')) (hp:All ps) {w0:W0} {Q:Exit->Act->World->Prop} {ρ:Map} {a:Act} {w:World} (hs:SH w0 nt s ρ a w)
 (hQ:∀ ρ' a' w',SH w0 nt s' ρ' a' w'->Q .normal a' w') (id:Nat):(Code.region id l.toArray true).wp P Q a w:=by
 unfold drawR at h;dsimp only at h
 split at h
 ·rename_i hok;simp only [Bool.and_eq_true] at hok
  split at h
  ·rename_i recs hgo
   split at h
   ·rename_i hg;simp only [Option.some.injEq,Prod.mk.injEq] at h;obtain ⟨rfl,rfl⟩:=h;obtain ⟨_,hlen,heach⟩:=drawGo_spec l 0 [] recs hgo rfl;simp only [Nat.zero_add] at hlen heach;have g:Good tt C nt {s:=s,ms:=ancs l [],gs:=gs,l:=l} recs:=⟨rfl,hok.1.1.1,hok.1.1.2,hok.1.2,hok.2,hg,hlen,heach,hp⟩;refine wp_region_any hm (Good.any (w0:=w0) g htt hC (fun D ρ' a' w' hall hJ=>hQ ρ' a' w' ?_) _ _ ρ a _ (by simp [DIn.n]) ?_ ?_)
    ·have recOf:∀ k,k<l.length->∃ r,recs[k]? = some r:=fun k hk=>⟨recs[k],List.getElem?_eq_getElem (by omega)⟩
     refine ⟨ah_strip ?_,?_,?_⟩
     ·refine ah_sub hJ.slots fun t x ht=>mkS_sub _ _ (fun p hp=>?_) t x ht
      right
      obtain ⟨j,oj,hj,rfl⟩:=(idxs_mem l 0 p).1 hp
      (try simp only [Nat.zero_add])
      unfold fD;rw [if_pos (hall j (lt_of_get hj))];obtain ⟨r,hr⟩:=recOf j (lt_of_get hj);rw [hr]
     ·refine wh_sub hJ.mem fun id e he=>?_
      rw [<- he];refine mkH_same id _ _ _ rfl fun j hj=>?_
      left
      unfold hD;rw [if_pos (hall j (List.mem_range.1 hj))];obtain ⟨r,hr⟩:=recOf j (List.mem_range.1 hj);rw [hr]
     ·intro id hid;refine hJ.fresh id (by have:s.nx+8*l.length<=id:=hid;show s.nx<=id;omega) fun j hj=>?_
      have h1:j<l.length:=hJ.lt j hj;have h2:s.nx+8*l.length<=id:=hid;show ¬ (s.nx+8*j<=id/\id<s.nx+8*j+8);omega
    ·have:∀ n (f:Nat->Bool),cnt f n<=n:=by
      intro n
      induction n with
      |zero=>intro f;simp [cnt]
      |succ n ih=>intro f;simp only [cnt];have:=ih f;split<;>omega
     have h1:=this l.length (Dn (Array.replicate l.toArray.size false))
     simpa [DIn.n] using h1
    ·have hDf:∀ j,Dn (Array.replicate l.toArray.size false) j=false:=fun j=>by
      simp only [Dn,Array.getD_eq_getD_getElem?,Array.getElem?_replicate]
      split<;>rfl
     refine ⟨?_,?_,fun id hid _=>hs.fresh id hid,fun i o _ hi=>absurd hi (by rw [hDf];simp),fun i hi=>absurd hi (by rw [hDf];simp)⟩
     ·have e:∀ (q:List (Nat × Option Nat)),mkS (fD recs (Dn (Array.replicate l.toArray.size false))) q s.tm=s.tm:=by
       intro q
       induction q with
       |nil=>rfl
       |cons p r ih=>
        obtain ⟨j,dd⟩:=p;have hf:fD recs (Dn (Array.replicate l.toArray.size false)) j=none:=by unfold fD;rw [hDf];rfl
        simp only [mkS,hf]
        cases dd<;>exact ih
      show AH ρ nt (mkS _ _ s.tm) a;rw [e];exact hs.slots
     ·have e:∀ (q:List Nat),mkH (hD recs (Dn (Array.replicate l.toArray.size false))) q s.hp=s.hp:=by
       intro q
       induction q with
       |nil=>rfl
       |cons j r ih=>
        have hf:hD recs (Dn (Array.replicate l.toArray.size false)) j=none:=by unfold hD;rw [hDf];rfl
        simp only [mkH,hf];exact ih
      show WH w0 ρ (mkH _ _ s.hp) _;rw [e];exact ⟨hs.mem.below.drew,hs.mem.ents,hs.mem.apart,hs.mem.froz,hs.mem.sub,hs.mem.mu0,hs.mem.f00,hs.mem.old,hs.mem.anc,hs.mem.tab,hs.mem.lin⟩
   ·cases h
  ·cases h
 ·cases h
end Go.Proofs.YtplejbgafjpomaaGreatDoor.Sx
