import Derived.Test.YtbhbjhejkamlnaaGreatZu8
namespace Go.Proofs.YtbhbjhejkamlnaaGreat.Sx
open Go.RowKit
structure St where
 tm:Slots
 hp:Heap
 nx:Nat
structure SH (w0:W0) (nt:Nat) (s:St) (ρ:Map) (a:Act) (w:World):Prop where
 slots:AH ρ nt s.tm a
 mem:WH w0 ρ s.hp w
 fresh:∀ id,s.nx<=id -> ρ id=none
def nwIn (n:Nat):Heap->Bool
 | []=>true
 |(id,_)::r=>Nat.ble n id&&Nat.blt id (n+8)&&nwIn n r
theorem nwIn_spec {n:Nat}:∀ {h:Heap},nwIn n h=true->∀ id x,look h id=some x->n<=id/\id<n+8
 | [],_,id,x,h=>by simp [look] at h
 |(j,y)::r,hn,id,x,h=>by
  simp only [nwIn,Bool.and_eq_true] at hn;simp only [look] at h
  split at h
  ·rename_i hj;obtain rfl:j=id:=by simpa using hj
   exact ⟨Nat.le_of_ble_eq_true hn.1.1,by simpa [Nat.blt_eq] using hn.1.2⟩
  ·exact nwIn_spec hn.2 id x h
def strip:Slots->Slots
 | []=>[]
 |(t,.cond _ _)::r=>(t,.junk)::strip r
 |(t,x)::r=>(t,x)::strip r
theorem strip_look:∀ (tm:Slots) (t:Nat) x,look (strip tm) t=some x->x = .junk ∨ look tm t=some x
 | [],t,x,h=>by simp [strip,look] at h
 |(j,sv)::r,t,x,h=>by
  cases sv<;>simp only [strip,look] at h ⊢<;>split at h<;>first
   |(rename_i hj;rw [if_pos hj];exact .inr h)
   |(left;simpa using h.symm)
   |(rename_i hj;rw [if_neg hj];exact strip_look r t x h)
theorem ah_strip {ρ:Map} {nt:Nat} {tm:Slots} {a:Act} (h:AH ρ nt tm a):AH ρ nt (strip tm) a:=
 ⟨h.size,h.defers,fun t x ht=>by
   rcases strip_look tm t x ht with rfl |h'
   ·trivial
   ·exact h.slots t x h'⟩
def seqGo (tt:TT) (C:Cons) (nt:Nat) (ops:Array Oper):List Oper->St->Option (List Prop × St)
 | [],s=>some ([],{s with tm:=strip s.tm})
 |o::r,s=>match sstep tt C ops s.hp s.tm s.nx o.guard o.op with
  |some q=>if dOK nt s.tm o.dst q.sv&&nwIn s.nx q.nw then
    (match seqGo tt C nt ops r {tm:=putS o.dst q.sv s.tm,hp:=q.st++(q.nw++s.hp),nx:=s.nx+8} with
    |some (ps,s')=>some (q.vc++ps,s')
    |none=>none) else none
  |none=>none
theorem seqGo_spec {P:Program} {tt:TT} (htt:TTOK P tt) {C:Cons} (hC:CtxOK P C) {nt:Nat} {ops:Array Oper} {w0:W0} {Q:Exit->Act->World->Prop}:∀ (l:List Oper) (s s':St) (ps:List Prop),seqGo tt C nt ops l s=some (ps,s')->All ps ->
 ∀ ρ a w,SH w0 nt s ρ a w->(∀ ρ' a' w',SH w0 nt s' ρ' a' w'->Q .normal a' w')->wpList P ops Q l a w
 | [],s,s',ps,h,hp,ρ,a,w,hs,hQ=>by
   simp only [seqGo,Option.some.injEq,Prod.mk.injEq] at h;obtain ⟨rfl,rfl⟩:=h;exact hQ ρ a w ⟨ah_strip hs.slots,hs.mem,hs.fresh⟩
 |o::r,s,s',ps,h,hp,ρ,a,w,hs,hQ=>by
  simp only [seqGo] at h
  split at h
  ·rename_i q hq
   split at h
   ·rename_i hok;simp only [Bool.and_eq_true] at hok
    split at h
    ·rename_i ps' s1 hr;simp only [Option.some.injEq,Prod.mk.injEq] at h;obtain ⟨rfl,rfl⟩:=h;obtain ⟨hp1,hp2⟩:=all_append.1 hp;have hnw:=nwIn_spec hok.2;have hfr:∀ id x,look q.nw id=some x -> ρ id=none:=fun id x hx=>hs.fresh id (hnw id x hx).1
     have hst:stOK s.hp q.nw q.st=true:=(sstep_spec (K:=fun _ _=>True) (Q:=Q) htt hC hq hp1 hs.slots hs.mem hfr (fun _ _ _ _ _=>trivial)).1
     have:=(sstep_spec (K:=wpList P ops Q r) (Q:=Q) htt hC hq hp1 hs.slots hs.mem hfr (fun ρ' w' v h1 h2=>
      seqGo_spec htt hC r _ s1 ps' hr hp2 ρ' (a.put o.dst v) w' ⟨ah_step hs.slots h2.ext hok.1 h1,wh_step hs.mem h2 (stOK_spec hst) hfr,fun id hid=>by
       have hn:look q.eff.nw id=none:=by
        cases hl:look q.nw id with
        |none=>exact hl
        |some x=>have:=(hnw id x hl).2;exact absurd hid (by show ¬ s.nx+8<=id;omega)
       rw [h2.only id hn];exact hs.fresh id (by have:s.nx+8<=id:=hid;omega)⟩ hQ)).2
     unfold wpList;exact this
    ·cases h
   ·cases h
  ·cases h
theorem wh_sub {w0:W0} {w:World} {ρ:Map} {h k:Heap} (hw:WH w0 ρ h w) (hs:∀ id e,look k id=some e->look h id=some e):WH w0 ρ k w:=
 ⟨hw.below,fun id e he=>hw.ents id e (hs id e he),fun i j e f hi hj a b c=>hw.apart i j e f (hs i e hi) (hs j f hj) a b c,hw.froz,hw.sub,hw.mu0,hw.f00,hw.old,hw.anc,hw.tab⟩
theorem ah_sub {ρ:Map} {nt:Nat} {tm tn:Slots} {a:Act} (h:AH ρ nt tm a) (hs:∀ t x,look tn t=some x->x = .junk ∨ look tm t=some x):AH ρ nt tn a:=
 ⟨h.size,h.defers,fun t x ht=>by
   rcases hs t x ht with rfl |h'
   ·trivial
   ·exact h.slots t x h'⟩
def ancStep (acc:List Nat) (o:Oper):Nat:=o.after.toList.foldl (fun s e=>if Region.binds .any e then s ||| 2 ^ e.on |||acc.getD e.on 0 else s) 0
def ancs:List Oper->List Nat->List Nat
 | [],acc=>acc
 |o::r,acc=>ancs r (acc++[ancStep acc o])
def mkS (f:Nat->Option SV):List (Nat × Option Nat)->Slots->Slots
 | [],tm=>tm
 |(j,d)::r,tm=>match d,f j with
  |some d,some x=>(d,x)::mkS f r tm
  |_,_=>mkS f r tm
theorem mkS_sub {f g:Nat->Option SV} (tm:Slots):∀ (l:List (Nat × Option Nat)),(∀ p∈l,f p.1=some .junk ∨ f p.1=g p.1)->∀ t x,look (mkS f l tm) t=some x->x = .junk ∨ look (mkS g l tm) t=some x
 | [],_,t,x,h=>.inr h
 |(j,d)::r,hf,t,x,h=>by
  have ih:=mkS_sub (f:=f) (g:=g) tm r (fun p hp=>hf p (List.mem_cons_of_mem _ hp)) t x
  have hj:=hf (j,d) (List.mem_cons_self ..);dsimp only at hj
  cases d with
  |none=>simp only [mkS] at h ⊢;exact ih h
  |some d=>
   simp only [mkS] at h ⊢
   cases hfj:f j with
   |none=>
    rw [hfj] at h hj;have hgj:g j=none:=by
     rcases hj with hj |hj
     ·cases hj
     ·exact hj.symm
    rw [hgj];exact ih h
   |some y=>
    rw [hfj] at h hj;simp only [look] at h
    split at h
    ·rename_i hdt;obtain rfl:=by simpa using h
     rcases hj with hj |hj
     ·left;simpa using hj
     ·right;rw [<- hj];simp only [look];rw [if_pos hdt]
    ·rename_i hdt
     rcases ih h with h' |h'
     ·exact .inl h'
     ·right
      cases hgj:g j with
      |none=>exact h'
      |some z=>simp only [look];rw [if_neg hdt];exact h'
def upd (f:Nat->Option SV) (i:Nat) (x:SV):Nat->Option SV:=fun j=>if j=i then some x else f j
theorem mkS_ne {f:Nat->Option SV} {i d:Nat} {x:SV} (tm:Slots) {t:Nat} (ht:d≠t):∀ (l:List (Nat × Option Nat)),(∀ p∈l,p.1=i->p.2=some d)->look (mkS (upd f i x) l tm) t=look (mkS f l tm) t
 | [],_=>rfl
 |(j,e)::r,h2=>by
  have ih:=mkS_ne (f:=f) (i:=i) (x:=x) tm ht r (fun p hp=>h2 p (List.mem_cons_of_mem _ hp))
  have hne:(d==t)=false:=by simpa using ht
  cases e with
  |none=>simp only [mkS];exact ih
  |some e=>
   by_cases hj:j=i
   ·have:some e=some d:=h2 (j,some e) (List.mem_cons_self ..) hj;obtain rfl:e=d:=by simpa using this
    simp only [mkS];have hu:upd f i x j=some x:=by simp [upd,hj]
    rw [hu];simp only [look,hne,Bool.false_eq_true,↓reduceIte];rw [ih]
    cases f j with
    |none=>rfl
    |some z=>simp only [look,hne,Bool.false_eq_true,↓reduceIte]
   ·simp only [mkS];have hu:upd f i x j=f j:=by simp [upd,hj]
    rw [hu]
    cases f j with
    |none=>exact ih
    |some z=>simp only [look];rw [ih]
theorem mkS_eq {f:Nat->Option SV} {i d:Nat} {x:SV} (tm:Slots):∀ (l:List (Nat × Option Nat)),(i,some d)∈l->(∀ p∈l,p.2=some d->p.1=i)->look (mkS (upd f i x) l tm) d=some x
 | [],h,_=>by cases h
 |(j,e)::r,h,h1=>by
  by_cases he:e=some d
  ·subst he;have:j=i:=h1 (j,some d) (List.mem_cons_self ..) rfl;simp only [mkS];have hu:upd f i x j=some x:=by simp [upd,this]
   rw [hu];simp [look]
  ·have hm:(i,some d)∈r:=by
    rcases List.mem_cons.1 h with hh |hh
    ·exact absurd (congrArg Prod.snd hh).symm he
    ·exact hh
   have ih:=mkS_eq (f:=f) (x:=x) tm r hm (fun p hp=>h1 p (List.mem_cons_of_mem _ hp))
   cases e with
   |none=>simp only [mkS];exact ih
   |some e=>
    have hne:(e==d)=false:=by simp only [beq_eq_false_iff_ne];intro q;exact he (by rw [q])
    simp only [mkS]
    cases upd f i x j with
    |none=>exact ih
    |some z=>simp only [look,hne,Bool.false_eq_true,↓reduceIte];exact ih
theorem mkS_upd {f:Nat->Option SV} {i d:Nat} {x:SV} (tm:Slots) (l:List (Nat × Option Nat)) (hm:(i,some d)∈l) (h1:∀ p∈l,p.2=some d->p.1=i) (h2:∀ p∈l,p.1=i->p.2=some d) (t:Nat):look (mkS (upd f i x) l tm) t=look ((d,x)::mkS f l tm) t:=by
 by_cases ht:d=t
 ·subst ht;rw [mkS_eq tm l hm h1];simp [look]
 ·rw [mkS_ne tm ht l h2];have hne:(d==t)=false:=by simpa using ht
  simp only [look,hne,Bool.false_eq_true,↓reduceIte]
theorem mkS_upd_none {f:Nat->Option SV} {i:Nat} {x:SV} (tm:Slots):∀ (l:List (Nat × Option Nat)),(∀ p∈l,p.1=i->p.2=none)->mkS (upd f i x) l tm=mkS f l tm
 | [],_=>rfl
 |(j,e)::r,h2=>by
  have ih:=mkS_upd_none (f:=f) (i:=i) (x:=x) tm r (fun p hp=>h2 p (List.mem_cons_of_mem _ hp))
  cases e with
  |none=>simp only [mkS];exact ih
  |some e=>
   by_cases hj:j=i
   ·have:=h2 (j,some e) (List.mem_cons_self ..) hj
    cases this
   ·simp only [mkS];have hu:upd f i x j=f j:=by simp [upd,hj]
    rw [hu,ih]
def onto (o:Option Heap) (hp:Heap):Heap:=match o with |some h=>h++hp |none=>hp
def mkH (f:Nat->Option Heap):List Nat->Heap->Heap
 | [],hp=>hp
 |j::r,hp=>mkH f r (onto (f j) hp)
def tch (h:Option Heap) (id:Nat):Bool:=match h with |some h=>(look h id).isSome |none=>false
theorem onto_un {o:Option Heap} {hp:Heap} {id:Nat} (h:tch o id=false):look (onto o hp) id=look hp id:=by
 cases o with
 |none=>rfl
 |some x=>
  simp only [onto,look_append];simp only [tch] at h
  cases hx:look x id with
  |none=>rfl
  |some z=>rw [hx] at h;cases h
theorem onto_congr {o:Option Heap} {hp hq:Heap} {id:Nat} (h:look hp id=look hq id):look (onto o hp) id=look (onto o hq) id:=by
 cases o with
 |none=>exact h
 |some x=>simp only [onto,look_append,h]
theorem mkH_same {f g:Nat->Option Heap} (id:Nat):∀ (l:List Nat) (h k:Heap),look h id=look k id->(∀ j∈l,f j=g j ∨ (tch (f j) id=false/\tch (g j) id=false))->look (mkH f l h) id=look (mkH g l k) id
 | [],h,k,he,_=>he
 |j::r,h,k,he,hl=>by
  simp only [mkH];refine mkH_same id r _ _ ?_ (fun p hp=>hl p (List.mem_cons_of_mem _ hp))
  rcases hl j (List.mem_cons_self ..) with hj |⟨h1,h2⟩
  ·rw [hj];exact onto_congr he
  ·rw [onto_un h1,onto_un h2];exact he
theorem mkH_upd {f:Nat->Option Heap} {i:Nat} {h:Heap} (id:Nat):∀ (l:List Nat) (hp:Heap),i∈l->l.Nodup->f i=none->(tch (some h) id=true->∀ j∈l,j≠i->tch (f j) id=true->j<i)->l.Pairwise (· < ·) ->
 look (mkH (fun j=>if j=i then some h else f j) l hp) id=look (h++mkH f l hp) id
 | [],hp,hi,_,_,_,_=>by cases hi
 |j::r,hp,hi,hn,hf,ht,hl=>by
  have hn':=List.nodup_cons.1 hn;have hl':=List.pairwise_cons.1 hl
  by_cases hj:j=i
  ·subst hj;simp only [mkH,↓reduceIte,hf];show look (mkH (fun k=>if k=j then some h else f k) r (h++hp)) id=look (h++mkH f r hp) id
   have e1:mkH (fun k=>if k=j then some h else f k) r (h++hp)=mkH f r (h++hp):=by
    have:∀ (l:List Nat) (q:Heap),j ∉ l->mkH (fun k=>if k=j then some h else f k) l q=mkH f l q:=by
     intro l
     induction l with
     |nil=>intro q _;rfl
     |cons a l ih=>
      intro q hq;have ha:a≠j:=fun e=>hq (by rw [e];exact List.mem_cons_self ..)
      simp only [mkH,ha,↓reduceIte];exact ih _ (fun e=>hq (List.mem_cons_of_mem _ e))
    exact this r _ hn'.1
   rw [e1]
   cases hc:look h id with
   |none=>
    rw [look_append,hc];dsimp only;refine mkH_same id r _ _ ?_ (fun _ _=>.inl rfl)
    rw [look_append,hc]
   |some z=>
    rw [look_append,hc];dsimp only;have hno:∀ k∈r,tch (f k) id=false:=fun k hk=>by
     cases hq:tch (f k) id with
     |false=>rfl
     |true=>
      have:=ht (by simp [tch,hc]) k (List.mem_cons_of_mem _ hk) (fun e=>hn'.1 (by rw [<- e];exact hk)) hq
      have:=hl'.1 k hk;omega
    have:∀ (l:List Nat) (q:Heap),(∀ k∈l,tch (f k) id=false)->look (mkH f l q) id=look q id:=by
     intro l
     induction l with
     |nil=>intro q _;rfl
     |cons a l ih=>
      intro q hq;simp only [mkH];rw [ih _ (fun k hk=>hq k (List.mem_cons_of_mem _ hk)),onto_un (hq a (List.mem_cons_self ..))]
    rw [this r _ hno,look_append,hc]
  ·have hi':i∈r:=by
    rcases List.mem_cons.1 hi with e |e
    ·exact absurd e.symm hj
    ·exact e
   simp only [mkH,hj,↓reduceIte];exact mkH_upd id r _ hi' hn'.2 hf (fun h1 k hk hne h2=>ht h1 k (List.mem_cons_of_mem _ hk) hne h2) hl'.2
end Go.Proofs.YtbhbjhejkamlnaaGreat.Sx
namespace Go.Proofs.YtbhbjhejkamlnaaGreat.Sx
open Go.RowKit
def idxs:List Oper->Nat->List (Nat × Option Nat)
 | [],_=>[]
 |o::r,i=>(i,o.dst)::idxs r (i+1)
theorem idxs_mem:∀ (l:List Oper) (i:Nat) (p:Nat × Option Nat),p∈idxs l i ↔ ∃ j o,l[j]? = some o/\p=(i+j,o.dst)
 | [],i,p=>by simp [idxs]
 |o::r,i,p=>by
  simp only [idxs,List.mem_cons,idxs_mem r (i+1) p];constructor
  ·rintro (rfl |⟨j,o',h,rfl⟩)
   ·exact ⟨0,o,rfl,by simp⟩
   ·exact ⟨j+1,o',by simpa using h,by simp;omega⟩
  ·rintro ⟨j,o',h,rfl⟩
   cases j with
   |zero=>left;simp at h;subst h;simp
   |succ j=>right;exact ⟨j,o',by simpa using h,by simp;omega⟩
def Rec.heap (r:Rec):Heap:=r.st++r.nw
def bit (ms:List Nat) (i j:Nat):Bool:=(ms.getD i 0).testBit j
def vS (ms:List Nat) (recs:List Rec) (i j:Nat):Option SV:=if Nat.beq j i then none else if bit ms i j then (match recs[j]? with |some r=>some r.sv |none=>some .junk) else if bit ms j i then none else some .junk
def vH (ms:List Nat) (recs:List Rec) (i j:Nat):Option Heap:=if bit ms i j then (match recs[j]? with |some r=>some r.heap |none=>none) else none
def nin (id:Nat) (l:List Nat):Bool:=l.any (Nat.beq id)
def remI (rm:List Nat):Heap->Heap
 | []=>[]
 |(id,e)::r=>if nin id rm then (id,.gone)::remI rm r else (id,e)::remI rm r
theorem remI_look (rm:List Nat):∀ (h:Heap) (id:Nat) e,look (remI rm h) id=some e->e = .gone ∨ (nin id rm=false/\look h id=some e)
 | [],id,e,h=>by simp [remI,look] at h
 |(j,x)::r,id,e,h=>by
  simp only [remI] at h
  split at h<;>simp only [look] at h ⊢<;>split at h
  ·left;simpa using h.symm
  ·rename_i hj;rw [if_neg hj];exact remI_look rm r id e h
  ·rename_i hn hj;obtain rfl:j=id:=by simpa using hj
   right;rw [if_pos hj];exact ⟨by simpa using hn,h⟩
  ·rename_i hj;rw [if_neg hj];exact remI_look rm r id e h
def unord (ms:List Nat) (gs:List (List Nat)) (i:Nat):List Nat->List Nat
 | []=>[]
 |j::r=>if Nat.beq j i ||bit ms i j ||bit ms j i then unord ms gs i r else gs.getD j []++unord ms gs i r
theorem unord_mem {ms:List Nat} {gs:List (List Nat)} {i id:Nat}:∀ {l:List Nat},nin id (unord ms gs i l)=false->∀ j∈l,j≠i->bit ms i j=false->bit ms j i=false->nin id (gs.getD j [])=false
 | [],_,j,hj,_,_,_=>by cases hj
 |k::r,h,j,hj,hne,h1,h2=>by
  simp only [unord] at h
  rcases List.mem_cons.1 hj with rfl |hj
  ·rw [if_neg (by simp [h1,h2];omega)] at h
   simp only [nin,List.any_append,Bool.or_eq_false_iff] at h;exact h.1
  ·split at h
   ·exact unord_mem h j hj hne h1 h2
   ·simp only [nin,List.any_append,Bool.or_eq_false_iff] at h;exact unord_mem (by simpa [nin] using h.2) j hj hne h1 h2
def keysIn (h:Heap) (g:List Nat):Bool:=h.all fun p=>nin p.1 g
theorem keysIn_spec {g:List Nat}:∀ {h:Heap},keysIn h g=true->∀ id,(look h id).isSome=true->nin id g=true
 | [],_,id,h=>by simp [look] at h
 |(j,x)::r,hk,id,h=>by
  simp only [keysIn,List.all_cons,Bool.and_eq_true] at hk;simp only [look] at h
  split at h
  ·rename_i hj;obtain rfl:j=id:=by simpa using hj
   exact hk.1
  ·exact keysIn_spec (h:=r) (by simpa [keysIn] using hk.2) id h
def svGs:SV->List (Nat × Bool) | .cond g _=>g |_=>[]
def noCond:Slots->Bool
 | []=>true
 |(_,.cond _ _)::_=>false
 |_::r=>noCond r
theorem noCond_spec:∀ {tm:Slots},noCond tm=true->∀ t g x,look tm t≠some (.cond g x)
 | [],_,t,g,x=>by simp [look]
 |(j,sv)::r,h,t,g,x=>by
  intro hl;simp only [look] at hl
  split at hl
  ·obtain rfl:=by simpa using hl
   simp [noCond] at h
  ·refine noCond_spec (tm:=r) ?_ t g x hl
   cases sv<;>first |exact h |(simp [noCond] at h)
structure DIn where
 s:St
 ms:List Nat
 gs:List (List Nat)
 l:List Oper
def DIn.n (d:DIn):Nat:=d.l.length
def DIn.tmv (d:DIn) (recs:List Rec) (i:Nat):Slots:=mkS (vS d.ms recs i) (idxs d.l 0) d.s.tm
def DIn.hpv (d:DIn) (recs:List Rec) (i:Nat):Heap:=remI (unord d.ms d.gs i (List.range d.n)) (mkH (vH d.ms recs i) (List.range d.n) d.s.hp)
def dchk (nt:Nat) (d:Option Nat) (sv:SV):Bool:=match d with |some t=>Nat.blt t nt&&(svGs sv).all (fun p=>!Nat.beq p.1 t) |none=>true
def drawGo (tt:TT) (C:Cons) (nt:Nat) (ops:Array Oper) (d:DIn):List Oper->Nat->List Rec->Option (List Rec)
 | [],_,recs=>some recs
 |o::r,i,recs=>match sstep tt C ops (d.hpv recs i) (d.tmv recs i) (d.s.nx+8*i) o.guard o.op with
  |some q=>if nwIn (d.s.nx+8*i) q.nw&&keysIn q.heap (d.gs.getD i [])&&dchk nt o.dst q.sv then drawGo tt C nt ops d r (i+1) (recs++[q]) else none
  |none=>none
def edgesOK:List Oper->Nat->Bool
 | [],_=>true
 |o::r,i=>(o.after.toList.all fun e=>!Region.binds .any e ||Nat.blt e.on i)&&edgesOK r (i+1)
def dstsOK:List Oper->Bool
 | []=>true
 |o::r=>(match o.dst with |some t=>r.all (fun q=>match q.dst with |some u=>!Nat.beq t u |none=>true) |none=>true)&&dstsOK r
def disj (a b:List Nat):Bool:=a.all fun x=>!nin x b
def pairsOK (d:DIn):Bool:=(List.range d.n).all fun j=>(List.range j).all fun i=>bit d.ms j i ||disj (d.gs.getD i []) (d.gs.getD j [])
def guardsOK (d:DIn) (recs:List Rec):Bool:=(List.range d.n).all fun k=>(match recs[k]? with
 |some q=>(svGs q.sv).all fun p=>(idxs d.l 0).all fun e=>(match e.2 with |some t=>!Nat.beq p.1 t ||bit d.ms k e.1 |none=>true)
 |none=>true)
def vcs:List Rec->List Prop
 | []=>[]
 |r::l=>r.vc++vcs l
def drawR (tt:TT) (C:Cons) (nt:Nat) (l:List Oper) (gs:List (List Nat)) (s:St):Option (List Prop × St):=
 let d:DIn:={s:=s,ms:=ancs l [],gs:=gs,l:=l}
 if edgesOK l 0&&dstsOK l&&pairsOK d&&noCond s.tm then
  (match drawGo tt C nt l.toArray d l 0 [] with
  |some recs=>if guardsOK d recs then some (vcs recs,{tm:=strip (mkS (fun j=>match recs[j]? with |some r=>some r.sv |none=>none) (idxs l 0) s.tm),hp:=mkH (fun j=>match recs[j]? with |some r=>some r.heap |none=>none) (List.range l.length) s.hp,nx:=s.nx+8*l.length}) else none
  |none=>none)
 else none
theorem testBit_two (e k:Nat):(2 ^ e).testBit k=decide (e=k):=Nat.testBit_two_pow
theorem ancStep_bit (acc:List Nat) (o:Oper) (k:Nat):(ancStep acc o).testBit k=true ↔ ∃ e∈o.after.toList,Region.binds .any e=true/\(k=e.on ∨ (acc.getD e.on 0).testBit k=true):=by
 have key:∀ (l:List Edge) (s:Nat),(l.foldl (fun s e=>if Region.binds .any e then s ||| 2 ^ e.on |||acc.getD e.on 0 else s) s).testBit k=true↔s.testBit k=true ∨ ∃ e∈l,Region.binds .any e=true/\(k=e.on ∨ (acc.getD e.on 0).testBit k=true):=by
  intro l
  induction l with
  |nil=>intro s;simp
  |cons e r ih=>
   intro s;rw [List.foldl_cons,ih]
   by_cases hb:Region.binds .any e=true
   ·rw [if_pos hb];simp only [Nat.testBit_or,testBit_two,Bool.or_eq_true,decide_eq_true_eq,List.mem_cons,exists_eq_or_imp,hb,true_and];constructor
    ·rintro (((h |h) |h) |h)
     ·exact .inl h
     ·exact .inr (.inl (.inl h.symm))
     ·exact .inr (.inl (.inr h))
     ·exact .inr (.inr h)
    ·rintro (h |(h |h) |h)
     ·exact .inl (.inl (.inl h))
     ·exact .inl (.inl (.inr h.symm))
     ·exact .inl (.inr h)
     ·exact .inr h
   ·rw [if_neg hb];simp only [List.mem_cons,exists_eq_or_imp,hb,false_and,false_or,Bool.false_eq_true]
 unfold ancStep;rw [key]
 simp
theorem ancs_spec:∀ (l:List Oper) (acc:List Nat),(∃ t,ancs l acc=acc++t)/\∀ (j:Nat) o,l[j]? = some o->(ancs l acc).getD (acc.length+j) 0=ancStep ((ancs l acc).take (acc.length+j)) o
 | [],acc=>⟨⟨[],by simp [ancs]⟩,fun j o h=>by simp at h⟩
 |o::r,acc=>by
  obtain ⟨⟨t,ht⟩,ih⟩:=ancs_spec r (acc++[ancStep acc o]);have e:ancs (o::r) acc=ancs r (acc++[ancStep acc o]):=rfl;refine ⟨⟨ancStep acc o::t,by rw [e,ht];simp⟩,fun j o' h=>?_⟩
  cases j with
  |zero=>
   simp at h;subst h;rw [e,ht]
   simp
  |succ j=>
   have:=ih j o' (by simpa using h)
   simp only [List.length_append,List.length_cons,List.length_nil] at this;rw [e];have e2:acc.length+(j+1)=acc.length+(0+1)+j:=by omega
   rw [e2];exact this
theorem edgesOK_spec:∀ {l:List Oper} {i:Nat},edgesOK l i=true->∀ (j:Nat) o,l[j]? = some o->∀ e∈o.after.toList,Region.binds .any e=true->e.on<i+j
 | [],i,_,j,o,h=>by simp at h
 |q::r,i,hk,j,o,h=>by
  simp only [edgesOK,Bool.and_eq_true] at hk
  cases j with
  |zero=>
   simp at h;subst h;intro e he hb;have:=List.all_eq_true.1 hk.1 e he;simp only [hb,Bool.not_true,Bool.false_or,Nat.blt_eq] at this;omega
  |succ j=>
   intro e he hb;have:=edgesOK_spec hk.2 j o (by simpa using h) e he hb
   omega
theorem bit_iff {l:List Oper} (hk:edgesOK l 0=true) {i:Nat} {o:Oper} (ho:l[i]? = some o) (k:Nat):bit (ancs l []) i k=true ↔ ∃ e∈o.after.toList,Region.binds .any e=true/\(k=e.on ∨ bit (ancs l []) e.on k=true):=by
 have h1:=(ancs_spec l []).2 i o ho;simp only [List.length_nil,Nat.zero_add] at h1;unfold bit;rw [h1,ancStep_bit];have hlt:∀ e∈o.after.toList,Region.binds .any e=true->((ancs l []).take i).getD e.on 0=(ancs l []).getD e.on 0:=fun e he hb=>by
  have:=edgesOK_spec hk i o ho e he hb;simp only [Nat.zero_add] at this;simp only [List.getD_eq_getElem?_getD];rw [List.getElem?_take_of_lt this]
 constructor
 ·rintro ⟨e,he,hb,h⟩;exact ⟨e,he,hb,by rw [<- hlt e he hb];exact h⟩
 ·rintro ⟨e,he,hb,h⟩;exact ⟨e,he,hb,by rw [hlt e he hb];exact h⟩
theorem ancs_len:∀ (l:List Oper) (acc:List Nat),(ancs l acc).length=acc.length+l.length
 | [],acc=>by simp [ancs]
 |o::r,acc=>by rw [show ancs (o::r) acc=ancs r (acc++[ancStep acc o]) from rfl,ancs_len];simp;omega
theorem bit_lt {l:List Oper} (hk:edgesOK l 0=true):∀ (i k:Nat),bit (ancs l []) i k=true->k<i:=by
 intro i
 induction i using Nat.strongRecOn with
 |_ i ih=>
  intro k h
  cases ho:l[i]? with
  |none=>
   have hl:(ancs l []).length<=i:=by
    rw [ancs_len];have:=List.getElem?_eq_none_iff.1 ho
    simpa using this
   unfold bit at h;rw [List.getD_eq_getElem?_getD,List.getElem?_eq_none hl] at h;simp at h
  |some o=>
   obtain ⟨e,he,hb,h'⟩:=(bit_iff hk ho k).1 h;have hlt:=edgesOK_spec hk i o ho e he hb;simp only [Nat.zero_add] at hlt
   rcases h' with rfl |h'
   ·exact hlt
   ·have:=ih e.on hlt k h';omega
theorem bit_closed {l:List Oper} (hk:edgesOK l 0=true) {D:Nat->Prop} (hD:∀ i o,l[i]? = some o->D i->∀ e∈o.after.toList,Region.binds .any e=true->D e.on):∀ (i k:Nat),i<l.length->D i->bit (ancs l []) i k=true->D k:=by
 intro i
 induction i using Nat.strongRecOn with
 |_ i ih=>
  intro k hi hDi h;have ho:=List.getElem?_eq_getElem hi;obtain ⟨e,he,hb,h'⟩:=(bit_iff hk ho k).1 h;have hlt:=edgesOK_spec hk i _ ho e he hb;simp only [Nat.zero_add] at hlt;have hDe:=hD i _ ho hDi e he hb
  rcases h' with rfl |h'
  ·exact hDe
  ·exact ih e.on hlt k (by omega) hDe h'
theorem drawGo_spec {tt:TT} {C:Cons} {nt:Nat} {ops:Array Oper} {d:DIn}:∀ (l:List Oper) (i:Nat) (r0 recs:List Rec),drawGo tt C nt ops d l i r0=some recs->r0.length=i->(∃ t,recs=r0++t)/\recs.length=i+l.length /\
 ∀ (j:Nat) o,l[j]? = some o->∃ q,recs[i+j]? = some q/\sstep tt C ops (d.hpv (recs.take (i+j)) (i+j)) (d.tmv (recs.take (i+j)) (i+j)) (d.s.nx+8*(i+j)) o.guard o.op=some q/\nwIn (d.s.nx+8*(i+j)) q.nw=true /\
   keysIn q.heap (d.gs.getD (i+j) [])=true/\dchk nt o.dst q.sv=true
 | [],i,r0,recs,h,hl=>by
   simp only [drawGo,Option.some.injEq] at h;subst h;exact ⟨⟨[],by simp⟩,by simpa using hl,fun j o h=>by simp at h⟩
 |o::r,i,r0,recs,h,hl=>by
  simp only [drawGo] at h
  split at h
  ·rename_i q hq
   split at h
   ·rename_i hok;simp only [Bool.and_eq_true] at hok;obtain ⟨⟨t,ht⟩,hlen,ih⟩:=drawGo_spec r (i+1) (r0++[q]) recs h (by simp [hl])
    have htk:recs.take i=r0:=by rw [ht,<- hl];simp
    refine ⟨⟨q::t,by rw [ht];simp⟩,by rw [hlen];simp;omega,fun j o' ho=>?_⟩
    cases j with
    |zero=>
     simp at ho;subst ho;refine ⟨q,?_,?_,hok.1.1,hok.1.2,hok.2⟩
     ·rw [ht,<- hl];simp
     ·rw [show i+0=i from rfl,htk];exact hq
    |succ j=>
     have:=ih j o' (by simpa using ho)
     have e:i+(j+1)=i+1+j:=by omega
     rw [e];exact this
   ·cases h
  ·cases h
end Go.Proofs.YtbhbjhejkamlnaaGreat.Sx
