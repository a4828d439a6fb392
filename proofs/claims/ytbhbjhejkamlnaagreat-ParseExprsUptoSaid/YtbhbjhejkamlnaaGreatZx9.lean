import Derived.Test.YtbhbjhejkamlnaaGreatZx8
namespace Go.Proofs.YtbhbjhejkamlnaaGreat.Sx
open Go.RowKit
structure St where
 tm:aT
 hp:ah
 nx:Nat
structure SH (w0:W0) (nt:Nat) (s:St) (ρ:Map) (a:Act) (w:World):Prop where
 slots:AH ρ nt s.tm a
 mem:WH w0 ρ s.hp w
 fresh:∀ id,s.nx<=id -> ρ id=none
def i5 (n:Nat):ah->Bool
 | []=>true
 |(id,_)::r=>Nat.ble n id&&Nat.blt id (n+8)&&i5 n r
theorem q7 {n:Nat}:∀ {h:ah},i5 n h=true->∀ id x,ad h id=some x->n<=id/\id<n+8
 | [],_,id,x,h=>by simp [ad] at h
 |(j,y)::r,hn,id,x,h=>by
  simp only[i5,Bool.and_eq_true] at hn;simp only[ad] at h
  split at h
  ·rename_i hj;obtain rfl:j=id:=by simpa using hj
   exact ⟨Nat.le_of_ble_eq_true hn.1.1,by simpa [Nat.blt_eq] using hn.1.2⟩
  ·exact q7 hn.2 id x h
def gq:aT->aT
 | []=>[]
 |(t,.cond _ _)::r=>(t,.junk)::gq r
 |(t,x)::r=>(t,x)::gq r
theorem FM:∀ (tm:aT) (t:Nat) x,ad (gq tm) t=some x->x = .junk ∨ ad tm t=some x
 | [],t,x,h=>by simp [gq,ad] at h
 |(j,sv)::r,t,x,h=>by
  cases sv<;>simp only[gq,ad] at h ⊢<;>split at h<;>first
   |(rename_i hj;rw[if_pos hj];exact .inr h)
   |(left;simpa using h.symm)
   |(rename_i hj;rw[if_neg hj];exact FM r t x h)
theorem q8 {ρ:Map} {nt:Nat} {tm:aT} {a:Act} (h:AH ρ nt tm a):AH ρ nt (gq tm) a:=
 ⟨h.size,h.defers,fun t x ht=>by
   rcases FM tm t x ht with rfl |h'
   ·trivial
   ·exact h.slots t x h'⟩
def n9 (tt:TT) (C:Cons) (nt:Nat) (ops:Array Oper):List Oper->St->Option (List Prop × St)
 | [],s=>some ([],{s with tm:=gq s.tm})
 |o::r,s=>match i4 tt C ops s.hp s.tm s.nx o.guard o.op with
  |some q=>if dOK nt s.tm o.dst q.sv&&i5 s.nx q.nw then
    (match n9 tt C nt ops r {tm:=vY o.dst q.sv s.tm,hp:=q.st++(q.nw++s.hp),nx:=s.nx+8} with
    |some (ps,s')=>some (q.vc++ps,s')
    |none=>none) else none
  |none=>none
theorem FN {P:Program} {tt:TT} (htt:aP P tt) {C:Cons} (hC:cZ P C) {nt:Nat} {ops:Array Oper} {w0:W0} {Q:Exit->Act->World->Prop}:∀ (l:List Oper) (s s':St) (ps:List Prop),n9 tt C nt ops l s=some (ps,s')->All ps ->
 ∀ ρ a w,SH w0 nt s ρ a w->(∀ ρ' a' w',SH w0 nt s' ρ' a' w'->Q .normal a' w')->wpList P ops Q l a w
 | [],s,s',ps,h,hp,ρ,a,w,hs,hQ=>by
   simp only[n9,Option.some.injEq,Prod.mk.injEq] at h;obtain ⟨rfl,rfl⟩:=h;exact hQ ρ a w ⟨q8 hs.slots,hs.mem,hs.fresh⟩
 |o::r,s,s',ps,h,hp,ρ,a,w,hs,hQ=>by
  simp only[n9] at h
  split at h
  ·rename_i q hq
   split at h
   ·rename_i hok;simp only[Bool.and_eq_true] at hok
    split at h
    ·rename_i ps' s1 hr;simp only[Option.some.injEq,Prod.mk.injEq] at h;obtain ⟨rfl,rfl⟩:=h;obtain ⟨hp1,hp2⟩:=all_append.1 hp;have hnw:=q7 hok.2;have hfr:∀ id x,ad q.nw id=some x -> ρ id=none:=fun id x hx=>hs.fresh id (hnw id x hx).1
     have hst:gW s.hp q.nw q.st=true:=(l4 (K:=fun _ _=>True) (Q:=Q) htt hC hq hp1 hs.slots hs.mem hfr (fun _ _ _ _ _=>trivial)).1;have:=(l4 (K:=wpList P ops Q r) (Q:=Q) htt hC hq hp1 hs.slots hs.mem hfr (fun ρ' w' v h1 h2=>
      FN htt hC r _ s1 ps' hr hp2 ρ' (a.put o.dst v) w' ⟨Fm hs.slots h2.ext hok.1 h1,gZ hs.mem h2 (qV hst) hfr,fun id hid=>by
       have hn:ad q.eff.nw id=none:=by
        cases hl:ad q.nw id with
        |none=>exact hl
        |some x=>have:=(hnw id x hl).2;exact absurd hid (by show ¬ s.nx+8<=id;omega)
       rw[h2.only id hn];exact hs.fresh id (by have:s.nx+8<=id:=hid;omega)⟩ hQ)).2
     unfold wpList;exact this
    ·cases h
   ·cases h
  ·cases h
theorem FO {w0:W0} {w:World} {ρ:Map} {h k:ah} (hw:WH w0 ρ h w) (hs:∀ id e,ad k id=some e->ad h id=some e):WH w0 ρ k w:=
 ⟨hw.below,fun id e he=>hw.ents id e (hs id e he),fun i j e f hi hj a b c=>hw.apart i j e f (hs i e hi) (hs j f hj) a b c,hw.froz,hw.sub,hw.mu0,hw.f00,hw.old,hw.anc,hw.tab⟩
theorem wv {ρ:Map} {nt:Nat} {tm tn:aT} {a:Act} (h:AH ρ nt tm a) (hs:∀ t x,ad tn t=some x->x = .junk ∨ ad tm t=some x):AH ρ nt tn a:=
 ⟨h.size,h.defers,fun t x ht=>by
   rcases hs t x ht with rfl |h'
   ·trivial
   ·exact h.slots t x h'⟩
def i6 (acc:List Nat) (o:Oper):Nat:=o.after.toList.foldl (fun s e=>if Region.binds .any e then s ||| 2 ^ e.on |||acc.getD e.on 0 else s) 0
def cI:List Oper->List Nat->List Nat
 | [],acc=>acc
 |o::r,acc=>cI r (acc++[i6 acc o])
def mkS (f:Nat->Option SV):List (Nat × Option Nat)->aT->aT
 | [],tm=>tm
 |(j,d)::r,tm=>match d,f j with
  |some d,some x=>(d,x)::mkS f r tm
  |_,_=>mkS f r tm
theorem ww {f g:Nat->Option SV} (tm:aT):∀ (l:List (Nat × Option Nat)),(∀ p∈l,f p.1=some .junk ∨ f p.1=g p.1)->∀ t x,ad (mkS f l tm) t=some x->x = .junk ∨ ad (mkS g l tm) t=some x
 | [],_,t,x,h=>.inr h
 |(j,d)::r,hf,t,x,h=>by
  have ih:=ww (f:=f) (g:=g) tm r (fun p hp=>hf p (List.mem_cons_of_mem _ hp)) t x;have hj:=hf (j,d) (List.mem_cons_self ..);dsimp only at hj
  cases d with
  |none=>simp only[mkS] at h ⊢;exact ih h
  |some d=>
   simp only[mkS] at h ⊢
   cases hfj:f j with
   |none=>
    rw[hfj] at h hj;have hgj:g j=none:=by
     rcases hj with hj |hj
     ·cases hj
     ·exact hj.symm
    rw[hgj];exact ih h
   |some y=>
    rw[hfj] at h hj;simp only[ad] at h
    split at h
    ·rename_i hdt;obtain rfl:=by simpa using h
     rcases hj with hj |hj
     ·left;simpa using hj
     ·right;rw[<- hj];simp only[ad];rw[if_pos hdt]
    ·rename_i hdt
     rcases ih h with h' |h'
     ·exact .inl h'
     ·right
      cases hgj:g j with
      |none=>exact h'
      |some z=>simp only[ad];rw[if_neg hdt];exact h'
def upd (f:Nat->Option SV) (i:Nat) (x:SV):Nat->Option SV:=fun j=>if j=i then some x else f j
theorem FP {f:Nat->Option SV} {i d:Nat} {x:SV} (tm:aT) {t:Nat} (ht:d≠t):∀ (l:List (Nat × Option Nat)),(∀ p∈l,p.1=i->p.2=some d)->ad (mkS (upd f i x) l tm) t=ad (mkS f l tm) t
 | [],_=>rfl
 |(j,e)::r,h2=>by
  have ih:=FP (f:=f) (i:=i) (x:=x) tm ht r (fun p hp=>h2 p (List.mem_cons_of_mem _ hp));have hne:(d==t)=false:=by simpa using ht
  cases e with
  |none=>simp only[mkS];exact ih
  |some e=>
   by_cases hj:j=i
   ·have:some e=some d:=h2 (j,some e) (List.mem_cons_self ..) hj;obtain rfl:e=d:=by simpa using this
    simp only[mkS];have hu:upd f i x j=some x:=by simp [upd,hj]
    rw[hu];simp only[ad,hne,Bool.false_eq_true,↓reduceIte];rw[ih]
    cases f j with
    |none=>rfl
    |some z=>simp only[ad,hne,Bool.false_eq_true,↓reduceIte]
   ·simp only[mkS];have hu:upd f i x j=f j:=by simp [upd,hj]
    rw[hu]
    cases f j with
    |none=>exact ih
    |some z=>simp only[ad];rw[ih]
theorem FQ {f:Nat->Option SV} {i d:Nat} {x:SV} (tm:aT):∀ (l:List (Nat × Option Nat)),(i,some d)∈l->(∀ p∈l,p.2=some d->p.1=i)->ad (mkS (upd f i x) l tm) d=some x
 | [],h,_=>by cases h
 |(j,e)::r,h,h1=>by
  by_cases he:e=some d
  ·subst he;have:j=i:=h1 (j,some d) (List.mem_cons_self ..) rfl;simp only[mkS];have hu:upd f i x j=some x:=by simp [upd,this]
   rw[hu];simp [ad]
  ·have hm:(i,some d)∈r:=by
    rcases List.mem_cons.1 h with hh |hh
    ·exact absurd (congrArg Prod.snd hh).symm he
    ·exact hh
   have ih:=FQ (f:=f) (x:=x) tm r hm (fun p hp=>h1 p (List.mem_cons_of_mem _ hp))
   cases e with
   |none=>simp only[mkS];exact ih
   |some e=>
    have hne:(e==d)=false:=by simp only[beq_eq_false_iff_ne];intro q;exact he (by rw[q])
    simp only[mkS]
    cases upd f i x j with
    |none=>exact ih
    |some z=>simp only[ad,hne,Bool.false_eq_true,↓reduceIte];exact ih
theorem Nb {f:Nat->Option SV} {i d:Nat} {x:SV} (tm:aT) (l:List (Nat × Option Nat)) (hm:(i,some d)∈l) (h1:∀ p∈l,p.2=some d->p.1=i) (h2:∀ p∈l,p.1=i->p.2=some d) (t:Nat):ad (mkS (upd f i x) l tm) t=ad ((d,x)::mkS f l tm) t:=by
 by_cases ht:d=t
 ·subst ht;rw[FQ tm l hm h1];simp [ad]
 ·rw[FP tm ht l h2];have hne:(d==t)=false:=by simpa using ht
  simp only[ad,hne,Bool.false_eq_true,↓reduceIte]
theorem FR {f:Nat->Option SV} {i:Nat} {x:SV} (tm:aT):∀ (l:List (Nat × Option Nat)),(∀ p∈l,p.1=i->p.2=none)->mkS (upd f i x) l tm=mkS f l tm
 | [],_=>rfl
 |(j,e)::r,h2=>by
  have ih:=FR (f:=f) (i:=i) (x:=x) tm r (fun p hp=>h2 p (List.mem_cons_of_mem _ hp))
  cases e with
  |none=>simp only[mkS];exact ih
  |some e=>
   by_cases hj:j=i
   ·have:=h2 (j,some e) (List.mem_cons_self ..) hj
    cases this
   ·simp only[mkS];have hu:upd f i x j=f j:=by simp [upd,hj]
    rw[hu,ih]
def l6 (o:Option ah) (hp:ah):ah:=match o with |some h=>h++hp |none=>hp
def mkH (f:Nat->Option ah):List Nat->ah->ah
 | [],hp=>hp
 |j::r,hp=>mkH f r (l6 (f j) hp)
def tch (h:Option ah) (id:Nat):Bool:=match h with |some h=>(ad h id).isSome |none=>false
theorem wy {o:Option ah} {hp:ah} {id:Nat} (h:tch o id=false):ad (l6 o hp) id=ad hp id:=by
 cases o with
 |none=>rfl
 |some x=>
  simp only[l6,co];simp only[tch] at h
  cases hx:ad x id with
  |none=>rfl
  |some z=>rw[hx] at h;cases h
theorem Nc {o:Option ah} {hp hq:ah} {id:Nat} (h:ad hp id=ad hq id):ad (l6 o hp) id=ad (l6 o hq) id:=by
 cases o with
 |none=>exact h
 |some x=>simp only[l6,co,h]
theorem q9 {f g:Nat->Option ah} (id:Nat):∀ (l:List Nat) (h k:ah),ad h id=ad k id->(∀ j∈l,f j=g j ∨ (tch (f j) id=false/\tch (g j) id=false))->ad (mkH f l h) id=ad (mkH g l k) id
 | [],h,k,he,_=>he
 |j::r,h,k,he,hl=>by
  simp only[mkH];refine q9 id r _ _ ?_ (fun p hp=>hl p (List.mem_cons_of_mem _ hp))
  rcases hl j (List.mem_cons_self ..) with hj |⟨h1,h2⟩
  ·rw[hj];exact Nc he
  ·rw[wy h1,wy h2];exact he
theorem FS {f:Nat->Option ah} {i:Nat} {h:ah} (id:Nat):∀ (l:List Nat) (hp:ah),i∈l->l.Nodup->f i=none->(tch (some h) id=true->∀ j∈l,j≠i->tch (f j) id=true->j<i)->l.Pairwise (· < ·) ->
 ad (mkH (fun j=>if j=i then some h else f j) l hp) id=ad (h++mkH f l hp) id
 | [],hp,hi,_,_,_,_=>by cases hi
 |j::r,hp,hi,hn,hf,ht,hl=>by
  have hn':=List.nodup_cons.1 hn;have hl':=List.pairwise_cons.1 hl
  by_cases hj:j=i
  ·subst hj;simp only[mkH,↓reduceIte,hf];show ad (mkH (fun k=>if k=j then some h else f k) r (h++hp)) id=ad (h++mkH f r hp) id;have e1:mkH (fun k=>if k=j then some h else f k) r (h++hp)=mkH f r (h++hp):=by
    have:∀ (l:List Nat) (q:ah),j ∉ l->mkH (fun k=>if k=j then some h else f k) l q=mkH f l q:=by
     intro l
     induction l with
     |nil=>intro q _;rfl
     |cons a l ih=>
      intro q hq;have ha:a≠j:=fun e=>hq (by rw[e];exact List.mem_cons_self ..)
      simp only[mkH,ha,↓reduceIte];exact ih _ (fun e=>hq (List.mem_cons_of_mem _ e))
    exact this r _ hn'.1
   rw[e1]
   cases hc:ad h id with
   |none=>
    rw[co,hc];dsimp only;refine q9 id r _ _ ?_ (fun _ _=>.inl rfl)
    rw[co,hc]
   |some z=>
    rw[co,hc];dsimp only;have hno:∀ k∈r,tch (f k) id=false:=fun k hk=>by
     cases hq:tch (f k) id with
     |false=>rfl
     |true=>
      have:=ht (by simp [tch,hc]) k (List.mem_cons_of_mem _ hk) (fun e=>hn'.1 (by rw[<- e];exact hk)) hq;have:=hl'.1 k hk;omega
    have:∀ (l:List Nat) (q:ah),(∀ k∈l,tch (f k) id=false)->ad (mkH f l q) id=ad q id:=by
     intro l
     induction l with
     |nil=>intro q _;rfl
     |cons a l ih=>
      intro q hq;simp only[mkH];rw[ih _ (fun k hk=>hq k (List.mem_cons_of_mem _ hk)),wy (hq a (List.mem_cons_self ..))]
    rw[this r _ hno,co,hc]
  ·have hi':i∈r:=by
    rcases List.mem_cons.1 hi with e |e
    ·exact absurd e.symm hj
    ·exact e
   simp only[mkH,hj,↓reduceIte];exact FS id r _ hi' hn'.2 hf (fun h1 k hk hne h2=>ht h1 k (List.mem_cons_of_mem _ hk) hne h2) hl'.2
def fT:List Oper->Nat->List (Nat × Option Nat)
 | [],_=>[]
 |o::r,i=>(i,o.dst)::fT r (i+1)
theorem l7:∀ (l:List Oper) (i:Nat) (p:Nat × Option Nat),p∈fT l i ↔ ∃ j o,l[j]? = some o/\p=(i+j,o.dst)
 | [],i,p=>by simp [fT]
 |o::r,i,p=>by
  simp only[fT,List.mem_cons,l7 r (i+1) p];constructor
  ·rintro (rfl |⟨j,o',h,rfl⟩)
   ·exact ⟨0,o,rfl,by simp⟩
   ·exact ⟨j+1,o',by simpa using h,by simp;omega⟩
  ·rintro ⟨j,o',h,rfl⟩
   cases j with
   |zero=>left;simp at h;subst h;simp
   |succ j=>right;exact ⟨j,o',by simpa using h,by simp;omega⟩
def Rec.heap (r:Rec):ah:=r.st++r.nw
def bit (ms:List Nat) (i j:Nat):Bool:=(ms.getD i 0).testBit j
def vS (ms:List Nat) (recs:List Rec) (i j:Nat):Option SV:=if Nat.beq j i then none else if bit ms i j then (match recs[j]? with |some r=>some r.sv |none=>some .junk) else if bit ms j i then none else some .junk
def vH (ms:List Nat) (recs:List Rec) (i j:Nat):Option ah:=if bit ms i j then (match recs[j]? with |some r=>some r.heap |none=>none) else none
def nin (id:Nat) (l:List Nat):Bool:=l.any (Nat.beq id)
def l8 (rm:List Nat):ah->ah
 | []=>[]
 |(id,e)::r=>if nin id rm then (id,.gone)::l8 rm r else (id,e)::l8 rm r
theorem wA (rm:List Nat):∀ (h:ah) (id:Nat) e,ad (l8 rm h) id=some e->e = .gone ∨ (nin id rm=false/\ad h id=some e)
 | [],id,e,h=>by simp [l8,ad] at h
 |(j,x)::r,id,e,h=>by
  simp only[l8] at h
  split at h<;>simp only[ad] at h ⊢<;>split at h
  ·left;simpa using h.symm
  ·rename_i hj;rw[if_neg hj];exact wA rm r id e h
  ·rename_i hn hj;obtain rfl:j=id:=by simpa using hj
   right;rw[if_pos hj];exact ⟨by simpa using hn,h⟩
  ·rename_i hj;rw[if_neg hj];exact wA rm r id e h
def oa (ms:List Nat) (gs:List (List Nat)) (i:Nat):List Nat->List Nat
 | []=>[]
 |j::r=>if Nat.beq j i ||bit ms i j ||bit ms j i then oa ms gs i r else gs.getD j []++oa ms gs i r
theorem wB {ms:List Nat} {gs:List (List Nat)} {i id:Nat}:∀ {l:List Nat},nin id (oa ms gs i l)=false->∀ j∈l,j≠i->bit ms i j=false->bit ms j i=false->nin id (gs.getD j [])=false
 | [],_,j,hj,_,_,_=>by cases hj
 |k::r,h,j,hj,hne,h1,h2=>by
  simp only[oa] at h
  rcases List.mem_cons.1 hj with rfl |hj
  ·rw[if_neg (by simp [h1,h2];omega)] at h;simp only[nin,List.any_append,Bool.or_eq_false_iff] at h;exact h.1
  ·split at h
   ·exact wB h j hj hne h1 h2
   ·simp only[nin,List.any_append,Bool.or_eq_false_iff] at h;exact wB (by simpa [nin] using h.2) j hj hne h1 h2
def j8 (h:ah) (g:List Nat):Bool:=h.all fun p=>nin p.1 g
theorem rb {g:List Nat}:∀ {h:ah},j8 h g=true->∀ id,(ad h id).isSome=true->nin id g=true
 | [],_,id,h=>by simp [ad] at h
 |(j,x)::r,hk,id,h=>by
  simp only[j8,List.all_cons,Bool.and_eq_true] at hk;simp only[ad] at h
  split at h
  ·rename_i hj;obtain rfl:j=id:=by simpa using hj
   exact hk.1
  ·exact rb (h:=r) (by simpa [j8] using hk.2) id h
def wC:SV->List (Nat × Bool) | .cond g _=>g |_=>[]
def l9:aT->Bool
 | []=>true
 |(_,.cond _ _)::_=>false
 |_::r=>l9 r
theorem FT:∀ {tm:aT},l9 tm=true->∀ t g x,ad tm t≠some (.cond g x)
 | [],_,t,g,x=>by simp [ad]
 |(j,sv)::r,h,t,g,x=>by
  intro hl;simp only[ad] at hl
  split at hl
  ·obtain rfl:=by simpa using hl
   simp [l9] at h
  ·refine FT (tm:=r) ?_ t g x hl
   cases sv<;>first |exact h |(simp [l9] at h)
structure DIn where
 s:St
 ms:List Nat
 gs:List (List Nat)
 l:List Oper
def DIn.n (d:DIn):Nat:=d.l.length
def DIn.tmv (d:DIn) (recs:List Rec) (i:Nat):aT:=mkS (vS d.ms recs i) (fT d.l 0) d.s.tm
def DIn.hpv (d:DIn) (recs:List Rec) (i:Nat):ah:=l8 (oa d.ms d.gs i (List.range d.n)) (mkH (vH d.ms recs i) (List.range d.n) d.s.hp)
def rc (nt:Nat) (d:Option Nat) (sv:SV):Bool:=match d with |some t=>Nat.blt t nt&&(wC sv).all (fun p=>!Nat.beq p.1 t) |none=>true
def ob (tt:TT) (C:Cons) (nt:Nat) (ops:Array Oper) (d:DIn):List Oper->Nat->List Rec->Option (List Rec)
 | [],_,recs=>some recs
 |o::r,i,recs=>match i4 tt C ops (d.hpv recs i) (d.tmv recs i) (d.s.nx+8*i) o.guard o.op with
  |some q=>if i5 (d.s.nx+8*i) q.nw&&j8 q.heap (d.gs.getD i [])&&rc nt o.dst q.sv then ob tt C nt ops d r (i+1) (recs++[q]) else none
  |none=>none
def i7:List Oper->Nat->Bool
 | [],_=>true
 |o::r,i=>(o.after.toList.all fun e=>!Region.binds .any e ||Nat.blt e.on i)&&i7 r (i+1)
def oc:List Oper->Bool
 | []=>true
 |o::r=>(match o.dst with |some t=>r.all (fun q=>match q.dst with |some u=>!Nat.beq t u |none=>true) |none=>true)&&oc r
def FU (a b:List Nat):Bool:=a.all fun x=>!nin x b
def FV (d:DIn):Bool:=(List.range d.n).all fun j=>(List.range j).all fun i=>bit d.ms j i ||FU (d.gs.getD i []) (d.gs.getD j [])
def FW (d:DIn) (recs:List Rec):Bool:=(List.range d.n).all fun k=>(match recs[k]? with
 |some q=>(wC q.sv).all fun p=>(fT d.l 0).all fun e=>(match e.2 with |some t=>!Nat.beq p.1 t ||bit d.ms k e.1 |none=>true)
 |none=>true)
def vcs:List Rec->List Prop
 | []=>[]
 |r::l=>r.vc++vcs l
def wE (tt:TT) (C:Cons) (nt:Nat) (l:List Oper) (gs:List (List Nat)) (s:St):Option (List Prop × St):=
 let d:DIn:={s:=s,ms:=cI l [],gs:=gs,l:=l}
 if i7 l 0&&oc l&&FV d&&l9 s.tm then
  (match ob tt C nt l.toArray d l 0 [] with
  |some recs=>if FW d recs then some (vcs recs,{tm:=gq (mkS (fun j=>match recs[j]? with |some r=>some r.sv |none=>none) (fT l 0) s.tm),hp:=mkH (fun j=>match recs[j]? with |some r=>some r.heap |none=>none) (List.range l.length) s.hp,nx:=s.nx+8*l.length}) else none
  |none=>none)
 else none
theorem Nd (e k:Nat):(2 ^ e).testBit k=decide (e=k):=Nat.testBit_two_pow
theorem Nf (acc:List Nat) (o:Oper) (k:Nat):(i6 acc o).testBit k=true ↔ ∃ e∈o.after.toList,Region.binds .any e=true/\(k=e.on ∨ (acc.getD e.on 0).testBit k=true):=by
 have key:∀ (l:List Edge) (s:Nat),(l.foldl (fun s e=>if Region.binds .any e then s ||| 2 ^ e.on |||acc.getD e.on 0 else s) s).testBit k=true↔s.testBit k=true ∨ ∃ e∈l,Region.binds .any e=true/\(k=e.on ∨ (acc.getD e.on 0).testBit k=true):=by
  intro l
  induction l with
  |nil=>intro s;simp
  |cons e r ih=>
   intro s;rw[List.foldl_cons,ih]
   by_cases hb:Region.binds .any e=true
   ·rw[if_pos hb];simp only[Nat.testBit_or,Nd,Bool.or_eq_true,decide_eq_true_eq,List.mem_cons,exists_eq_or_imp,hb,true_and];constructor
    ·rintro (((h |h) |h) |h)
     ·exact .inl h
     ·exact .inr (.inl (.inl h.symm))
     ·exact .inr (.inl (.inr h))
     ·exact .inr (.inr h)
    ·rintro (h |(h |h) |h)
     ·exact .inl (.inl (.inl h))
     ·exact .inl (.inl (.inr h.symm))
     ·exact .inl (.inr h)
     ·exact .inr h
   ·rw[if_neg hb];simp only[List.mem_cons,exists_eq_or_imp,hb,false_and,false_or,Bool.false_eq_true]
 unfold i6;rw[key]
 simp
theorem FX:∀ (l:List Oper) (acc:List Nat),(∃ t,cI l acc=acc++t)/\∀ (j:Nat) o,l[j]? = some o->(cI l acc).getD (acc.length+j) 0=i6 ((cI l acc).take (acc.length+j)) o
 | [],acc=>⟨⟨[],by simp [cI]⟩,fun j o h=>by simp at h⟩
 |o::r,acc=>by
  obtain ⟨⟨t,ht⟩,ih⟩:=FX r (acc++[i6 acc o]);have e:cI (o::r) acc=cI r (acc++[i6 acc o]):=rfl;refine ⟨⟨i6 acc o::t,by rw[e,ht];simp⟩,fun j o' h=>?_⟩
  cases j with
  |zero=>
   simp at h;subst h;rw[e,ht]
   simp
  |succ j=>
   have:=ih j o' (by simpa using h);simp only[List.length_append,List.length_cons,List.length_nil] at this;rw[e];have e2:acc.length+(j+1)=acc.length+(0+1)+j:=by omega
   rw[e2];exact this
theorem ma:∀ {l:List Oper} {i:Nat},i7 l i=true->∀ (j:Nat) o,l[j]? = some o->∀ e∈o.after.toList,Region.binds .any e=true->e.on<i+j
 | [],i,_,j,o,h=>by simp at h
 |q::r,i,hk,j,o,h=>by
  simp only[i7,Bool.and_eq_true] at hk
  cases j with
  |zero=>
   simp at h;subst h;intro e he hb;have:=List.all_eq_true.1 hk.1 e he;simp only[hb,Bool.not_true,Bool.false_or,Nat.blt_eq] at this;omega
  |succ j=>
   intro e he hb;have:=ma hk.2 j o (by simpa using h) e he hb;omega
theorem wF {l:List Oper} (hk:i7 l 0=true) {i:Nat} {o:Oper} (ho:l[i]? = some o) (k:Nat):bit (cI l []) i k=true ↔ ∃ e∈o.after.toList,Region.binds .any e=true/\(k=e.on ∨ bit (cI l []) e.on k=true):=by
 have h1:=(FX l []).2 i o ho;simp only[List.length_nil,Nat.zero_add] at h1;unfold bit;rw[h1,Nf];have hlt:∀ e∈o.after.toList,Region.binds .any e=true->((cI l []).take i).getD e.on 0=(cI l []).getD e.on 0:=fun e he hb=>by
  have:=ma hk i o ho e he hb;simp only[Nat.zero_add] at this;simp only[List.getD_eq_getElem?_getD];rw[List.getElem?_take_of_lt this]
 constructor
 ·rintro ⟨e,he,hb,h⟩;exact ⟨e,he,hb,by rw[<- hlt e he hb];exact h⟩
 ·rintro ⟨e,he,hb,h⟩;exact ⟨e,he,hb,by rw[hlt e he hb];exact h⟩
theorem FY:∀ (l:List Oper) (acc:List Nat),(cI l acc).length=acc.length+l.length
 | [],acc=>by simp [cI]
 |o::r,acc=>by rw[show cI (o::r) acc=cI r (acc++[i6 acc o]) from rfl,FY];simp;omega
theorem Ng {l:List Oper} (hk:i7 l 0=true):∀ (i k:Nat),bit (cI l []) i k=true->k<i:=by
 intro i
 induction i using Nat.strongRecOn with
 |_ i ih=>
  intro k h
  cases ho:l[i]? with
  |none=>
   have hl:(cI l []).length<=i:=by
    rw[FY];have:=List.getElem?_eq_none_iff.1 ho
    simpa using this
   unfold bit at h;rw[List.getD_eq_getElem?_getD,List.getElem?_eq_none hl] at h;simp at h
  |some o=>
   obtain ⟨e,he,hb,h'⟩:=(wF hk ho k).1 h;have hlt:=ma hk i o ho e he hb;simp only[Nat.zero_add] at hlt
   rcases h' with rfl |h'
   ·exact hlt
   ·have:=ih e.on hlt k h';omega
theorem FZ {l:List Oper} (hk:i7 l 0=true) {D:Nat->Prop} (hD:∀ i o,l[i]? = some o->D i->∀ e∈o.after.toList,Region.binds .any e=true->D e.on):∀ (i k:Nat),i<l.length->D i->bit (cI l []) i k=true->D k:=by
 intro i
 induction i using Nat.strongRecOn with
 |_ i ih=>
  intro k hi hDi h;have ho:=List.getElem?_eq_getElem hi;obtain ⟨e,he,hb,h'⟩:=(wF hk ho k).1 h;have hlt:=ma hk i _ ho e he hb;simp only[Nat.zero_add] at hlt;have hDe:=hD i _ ho hDi e he hb
  rcases h' with rfl |h'
  ·exact hDe
  ·exact ih e.on hlt k (by omega) hDe h'
theorem F1 {tt:TT} {C:Cons} {nt:Nat} {ops:Array Oper} {d:DIn}:∀ (l:List Oper) (i:Nat) (r0 recs:List Rec),ob tt C nt ops d l i r0=some recs->r0.length=i->(∃ t,recs=r0++t)/\recs.length=i+l.length /\
 ∀ (j:Nat) o,l[j]? = some o->∃ q,recs[i+j]? = some q/\i4 tt C ops (d.hpv (recs.take (i+j)) (i+j)) (d.tmv (recs.take (i+j)) (i+j)) (d.s.nx+8*(i+j)) o.guard o.op=some q/\i5 (d.s.nx+8*(i+j)) q.nw=true /\
   j8 q.heap (d.gs.getD (i+j) [])=true/\rc nt o.dst q.sv=true
 | [],i,r0,recs,h,hl=>by
   simp only[ob,Option.some.injEq] at h;subst h;exact ⟨⟨[],by simp⟩,by simpa using hl,fun j o h=>by simp at h⟩
 |o::r,i,r0,recs,h,hl=>by
  simp only[ob] at h
  split at h
  ·rename_i q hq
   split at h
   ·rename_i hok;simp only[Bool.and_eq_true] at hok;obtain ⟨⟨t,ht⟩,hlen,ih⟩:=F1 r (i+1) (r0++[q]) recs h (by simp [hl]);have htk:recs.take i=r0:=by rw[ht,<- hl];simp
    refine ⟨⟨q::t,by rw[ht];simp⟩,by rw[hlen];simp;omega,fun j o' ho=>?_⟩
    cases j with
    |zero=>
     simp at ho;subst ho;refine ⟨q,?_,?_,hok.1.1,hok.1.2,hok.2⟩
     ·rw[ht,<- hl];simp
     ·rw[show i+0=i from rfl,htk];exact hq
    |succ j=>
     have:=ih j o' (by simpa using ho);have e:i+(j+1)=i+1+j:=by omega
     rw[e];exact this
   ·cases h
  ·cases h
end Go.Proofs.YtbhbjhejkamlnaaGreat.Sx
