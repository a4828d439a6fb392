import Derived.Test.YtbhbjhejkamlnaaGreatZx15
namespace Go.Proofs.YtbhbjhejkamlnaaGreat.Sx
open Go.RowKit
inductive AM
 |c (x:AC)
 |own (e:TypeId)
 |ints (k:IntKind) (n:Nat)
def flM (hp:ah):List AM->List Seg->Option (List Dat × List Prop × List (Option Nat))
 | [],[]=>some ([],[],[])
 | .c a::l,.c x::s=>if oG x ||oH a then none else (match flC hp a x,flM hp l s with
   |some (d,ps),some (ds,qs,rs)=>some (d::ds,ps++qs,rs)
   |_,_=>none)
 | .own _::l,.c .nils::s=>(match flM hp l s with |some (ds,qs,rs)=>some (.d (.l [])::ds,qs,none::rs) |none=>none)
 | .own e::l,.c (.osl e' r lo n)::s=>if Nat.beq e e' then (match ad hp r,flM hp l s with
   |some (.orow e'' d),some (ds,qs,rs)=>if Nat.beq e e'' then some (.d d::ds,(lo.v=0)::(n.v=d.len)::qs,some r::rs) else none
   |_,_=>none) else none
 | .ints k n::l,.ints k' (.lit m) f::s=>if kEq k' k&&Nat.beq m n then (match flM hp l s with |some (ds,qs,rs)=>some (.f f::ds,qs,rs) |none=>none) else none
 |_,_=>none
def unM:List AM->List Dat->Nat->Option (List Seg × ah × List Dat × Nat)
 | [],ds,id=>some ([],[],ds,id)
 | .c a::l,d::ds,id=>(match rP a d,unM l ds id with |some x,some (s,h,r,id')=>some (.c x::s,h,r,id') |_,_=>none)
 | .own e::l,.d d::ds,id=>(match unM l ds (id+1) with |some (s,h,r,id')=>some (.c (.osl e id (.lit 0) (.sym d.len))::s,(id,.orow e d)::h,r,id') |none=>none)
 | .ints k n::l,.f f::ds,id=>(match unM l ds id with |some (s,h,r,id')=>some (.ints k (.lit n) f::s,h,r,id') |none=>none)
 |_,_,_=>none
def bq:List (Option Nat)->List Nat
 | []=>[]
 |some r::l=>r::bq l
 |none::l=>bq l
def jr:List (Option Nat)->Bool
 | []=>true
 |some r::l=>!nin r (bq l)&&jr l
 |none::l=>jr l
theorem fq {l:List (Option Nat)} {r:Nat}:r∈bq l ↔ ∃ a:Nat,l[a]? = some (some r):=by
 induction l with
 |nil=>simp [bq]
 |cons x l ih=>
  cases x with
  |none=>
   simp only[bq,ih];constructor
   ·rintro ⟨a,h⟩;exact ⟨a+1,by simpa using h⟩
   ·rintro ⟨a,h⟩
    cases a with
    |zero=>simp at h
    |succ a=>exact ⟨a,by simpa using h⟩
  |some y=>
   simp only[bq,List.mem_cons,ih];constructor
   ·rintro (rfl |⟨a,h⟩)
    ·exact ⟨0,rfl⟩
    ·exact ⟨a+1,by simpa using h⟩
   ·rintro ⟨a,h⟩
    cases a with
    |zero=>left;simpa using h.symm
    |succ a=>exact .inr ⟨a,by simpa using h⟩
theorem oW {id:Nat} {l:List Nat}:nin id l=true↔id∈l:=by
 unfold nin;rw[List.any_eq_true];exact ⟨fun ⟨x,hx,h⟩=>by rw[Nat.eq_of_beq_eq_true h];exact hx,fun h=>⟨id,h,Nat.beq_refl id⟩⟩
theorem sk:∀ {l:List (Option Nat)},jr l=true->∀ (a b r:Nat),l[a]? = some (some r)->l[b]? = some (some r)->a=b
 | [],_,a,b,r,h,_=>by simp at h
 |x::l,hd,a,b,r,ha,hb=>by
  have tl:jr l=true:=by
   cases x with
   |none=>exact hd
   |some y=>simp only[jr,Bool.and_eq_true] at hd;exact hd.2
  have hd':∀ q,x=some q->∀ c:Nat,l[c]? ≠ some (some q):=fun q hq c hc=>by
   subst hq;simp only[jr,Bool.and_eq_true,Bool.not_eq_true'] at hd;have:=oW.2 (fq.2 ⟨c,hc⟩);rw[hd.1] at this;cases this
  cases a with
  |zero=>
   cases b with
   |zero=>rfl
   |succ b=>exact absurd (by simpa using hb) (hd' r (by simpa using ha) b)
  |succ a=>
   cases b with
   |zero=>exact absurd (by simpa using ha) (hd' r (by simpa using hb) a)
   |succ b=>rw[sk tl a b r (by simpa using ha) (by simpa using hb)]
theorem kz {hp:ah}:∀ {l:List AM} {s:List Seg} {ds:List Dat} {ps:List Prop} {rs:List (Option Nat)},flM hp l s=some (ds,ps,rs)->∀ {a k:Nat},rs[a]? = some (some k)->∃ E d,ad hp k=some (.orow E d)
 | [],[],ds,ps,rs,h,a,k,hk=>by
   simp only[flM,Option.some.injEq,Prod.mk.injEq] at h;obtain ⟨_,_,rfl⟩:=h;simp at hk
 | .c _::l,.c x::s,ds,ps,rs,h,a,k,hk=>by
   simp only[flM] at h
   split at h
   ·cases h
   ·split at h
    ·rename_i hds;simp only[Option.some.injEq,Prod.mk.injEq] at h;obtain ⟨_,_,rfl⟩:=h;exact kz hds hk
    ·cases h
 | .own e::l,.c .nils::s,ds,ps,rs,h,a,k,hk=>by
   simp only[flM] at h
   split at h
   ·rename_i hds;simp only[Option.some.injEq,Prod.mk.injEq] at h;obtain ⟨_,_,rfl⟩:=h
    cases a with
    |zero=>simp at hk
    |succ a=>exact kz hds (by simpa using hk)
   ·cases h
 | .own e::l,.c (.osl e' r lo n)::s,ds,ps,rs,h,a,k,hk=>by
   simp only[flM] at h
   split at h
   ·split at h
    ·rename_i hl hds
     split at h
     ·simp only[Option.some.injEq,Prod.mk.injEq] at h;obtain ⟨_,_,rfl⟩:=h
      cases a with
      |zero=>
       obtain rfl:r=k:=by simpa using hk
       exact ⟨_,_,hl⟩
      |succ a=>exact kz hds (by simpa using hk)
     ·cases h
    ·cases h
   ·cases h
 | .ints k n::l,.ints k' (.lit m) f::s,ds,ps,rs,h,a,q,hk=>by
   simp only[flM] at h
   split at h
   ·split at h
    ·rename_i hds;simp only[Option.some.injEq,Prod.mk.injEq] at h;obtain ⟨_,_,rfl⟩:=h;exact kz hds hk
    ·cases h
   ·cases h
 | [],_::_,_,_,_,h,_,_,_=>by simp [flM] at h
 | .c _::_,[],_,_,_,h,_,_,_=>by simp [flM] at h
 | .c _::_,.ints .. :: _,_,_,_,h,_,_,_=>by simp [flM] at h
 | .own _::_,[],_,_,_,h,_,_,_=>by simp [flM] at h
 | .own _::_,.ints .. :: _,_,_,_,h,_,_,_=>by simp [flM] at h
 | .own _::_,.c (.int ..)::_,_,_,_,h,_,_,_=>by simp [flM] at h
 | .own _::_,.c (.bool ..)::_,_,_,_,h,_,_,_=>by simp [flM] at h
 | .own _::_,.c (.ptr ..)::_,_,_,_,h,_,_,_=>by simp [flM] at h
 | .own _::_,.c (.slice ..)::_,_,_,_,h,_,_,_=>by simp [flM] at h
 | .own _::_,.c (.raw ..)::_,_,_,_,h,_,_,_=>by simp [flM] at h
 | .own _::_,.c (.rows ..)::_,_,_,_,h,_,_,_=>by simp [flM] at h
 | .own _::_,.c (.fp ..)::_,_,_,_,h,_,_,_=>by simp [flM] at h
 | .own _::_,.c (.optr ..)::_,_,_,_,h,_,_,_=>by simp [flM] at h
 | .ints .. :: _,[],_,_,_,h,_,_,_=>by simp [flM] at h
 | .ints .. :: _,.c _::_,_,_,_,h,_,_,_=>by simp [flM] at h
 | .ints .. :: _,.ints _ (.sym _) _::_,_,_,_,h,_,_,_=>by simp [flM] at h
def cu (ρ:Map) (rs:List (Option Nat)) (lo:Nat) (i:Nat):Option (Nat × Nat):=if lo<=i then (match rs[i-lo]? with |some (some r)=>ρ r |_=>none) else none
def dx (ρ:Map) (rs:List (Option Nat)) (lo:Nat) (i:Nat):Nat:=match rs[i-lo]? with |some (some r)=>ρ.cap r |_=>0
theorem yc (ρ:Map) (x:Option Nat) (rs:List (Option Nat)) (lo:Nat):cu ρ (x::rs) lo lo=(match x with |some r=>ρ r |none=>none):=by
 unfold cu;rw[if_pos (Nat.le_refl _),Nat.sub_self]
 cases x<;>rfl
theorem oX (ρ:Map) (x:Option Nat) (rs:List (Option Nat)) {lo i:Nat} (h:lo+1<=i):cu ρ (x::rs) lo i=cu ρ rs (lo+1) i/\dx ρ (x::rs) lo i=dx ρ rs (lo+1) i:=by
 have e:i-lo=(i-(lo+1))+1:=by omega
 unfold cu dx;rw[if_pos (by omega),if_pos h,e];exact ⟨rfl,rfl⟩
def sm (ρ ρ':Map) (rs:List (Option Nat)) (lo:Nat):Prop:=FzLe ρ.fz ρ'.fz/\∀ i,lo<=i->i<lo+rs.length -> ρ' i=cu ρ rs lo i /\ ρ'.cap i=dx ρ rs lo i
theorem kA {hp:ah} {w0:W0} {w:World} {ρ:Map} (hw:WH w0 ρ hp w):∀ (l:List AM) (s:List Seg) (ds rest:List Dat) (ps:List Prop) (rs:List (Option Nat)),flM hp l s=some (ds,ps,rs)->All ps->∀ (vs:List Value),ax ρ (cellsOf s) vs->∀ id,
 ∃ y h,unM l (ds++rest) id=some (y,h,rest,id+rs.length) /\
   (∀ i e,ad h i=some e->id<=i/\i<id+rs.length/\∃ E d,e = .orow E d/\((cu ρ rs id i=none/\d.len=0) ∨ ∃ r,rs[i-id]? = some (some r)/\ad hp r=some (.orow E d))) /\
   ∀ ρ',sm ρ ρ' rs id->ax ρ' (cellsOf y) vs
 | [],[],ds,rest,ps,rs,h,hp',vs,hv,id=>by
   simp only[flM,Option.some.injEq,Prod.mk.injEq] at h;obtain ⟨rfl,rfl,rfl⟩:=h;exact ⟨[],[],rfl,fun i e hl=>by simp [ad] at hl,fun ρ' _=>⟨hv.1,fun i x v hx=>by simp [cellsOf] at hx⟩⟩
 | .c a::l,.c x::s,ds,rest,ps,rs,h,hp',vs,hv,id=>by
   simp only[flM] at h
   split at h
   ·cases h
   ·rename_i hr;have hr':oG x=false/\oH a=false:=by simpa using hr
    split at h
    ·rename_i d ps1 ds1 qs rs1 hd hds;simp only[Option.some.injEq,Prod.mk.injEq] at h;obtain ⟨rfl,rfl,rfl⟩:=h;obtain ⟨_,hp2⟩:=all_append.1 hp';rw[aM] at hv;obtain ⟨u,v,rfl,h1,h2⟩:=cG.1 hv;obtain ⟨y,hh,e1,e2,e3⟩:=kA hw l s ds1 rest qs rs1 hds hp2 v h2 id;obtain ⟨z,hz,hzr⟩:=xv hd hr'.1 hr'.2;refine ⟨.c z::y,hh,by simp [unM,e1,hz],e2,fun ρ' hρ=>?_⟩;rw[aM];refine cG.2 ⟨u,v,rfl,⟨h1.1,fun i p q hp hq=>?_⟩,e3 ρ' hρ⟩
     cases i with
     |zero=>
      simp only[Seg.cells,List.getElem?_cons_zero,Option.some.injEq] at hp;subst hp;exact hzr hρ.1 (h1.2 0 x q (by simp [Seg.cells]) hq)
     |succ i=>simp [Seg.cells] at hp
    ·cases h
 | .own e::l,.c .nils::s,ds,rest,ps,rs,h,hp',vs,hv,id=>by
   simp only[flM] at h
   split at h
   ·rename_i ds1 qs rs1 hds;simp only[Option.some.injEq,Prod.mk.injEq] at h;obtain ⟨rfl,rfl,rfl⟩:=h;rw[aM] at hv;obtain ⟨u,v,rfl,h1,h2⟩:=cG.1 hv;obtain ⟨y,hh,e1,e2,e3⟩:=kA hw l s ds1 rest qs rs1 hds hp' v h2 (id+1);refine ⟨.c (.osl e id (.lit 0) (.sym (D.l []).len))::y,(id,.orow e (.l []))::hh,by simp [unM,e1];omega,fun i x hl=>?_,fun ρ' hρ=>?_⟩
    ·simp only[ad] at hl
     split at hl
     ·rename_i hi;obtain rfl:id=i:=by simpa using hi
      obtain rfl:=by simpa using hl
      exact ⟨Nat.le_refl _,by simp,_,_,rfl,.inl ⟨yc ρ none rs1 id,rfl⟩⟩
     ·obtain ⟨g1,g2,E,d,g3,g4⟩:=e2 i x hl;refine ⟨by omega,by simp;omega,E,d,g3,?_⟩;rw[(oX ρ none rs1 g1).1];have e:i-id=(i-(id+1))+1:=by omega
      rw[e];exact g4
    ·rw[aM];refine cG.2 ⟨u,v,rfl,⟨h1.1,fun i p q hp hq=>?_⟩,e3 ρ' ⟨hρ.1,fun i g1 g2=>?_⟩⟩
     ·cases i with
      |zero=>
       simp only[Seg.cells,List.getElem?_cons_zero,Option.some.injEq] at hp;subst hp;have:=h1.2 0 .nils q (by simp [Seg.cells]) hq;obtain rfl:q=Value.slice none 0 0:=this;exact ⟨none,0,rfl,Nat.le_refl _,.inl ⟨rfl,fun _ h=>by cases h⟩⟩
      |succ i=>simp [Seg.cells] at hp
     ·have:=hρ.2 i (by omega) (by simp;omega);obtain ⟨m1,m2⟩:=oX ρ none rs1 g1;rw[m1,m2] at this;exact this
   ·cases h
 | .own e::l,.c (.osl e' r lo n)::s,ds,rest,ps,rs,h,hp',vs,hv,id=>by
   simp only[flM] at h
   split at h
   ·rename_i he;obtain rfl:=Nat.eq_of_beq_eq_true he
    split at h
    ·rename_i e'' d ds1 qs rs1 hl hds
     split at h
     ·rename_i he2;obtain rfl:=Nat.eq_of_beq_eq_true he2;simp only[Option.some.injEq,Prod.mk.injEq] at h;obtain ⟨rfl,rfl,rfl⟩:=h;obtain ⟨hlo,hn,hp2⟩:=hp';rw[aM] at hv;obtain ⟨u,v,rfl,h1,h2⟩:=cG.1 hv;obtain ⟨y,hh,e1,e2,e3⟩:=kA hw l s ds1 rest qs rs1 hds hp2 v h2 (id+1);refine ⟨.c (.osl e id (.lit 0) (.sym d.len))::y,(id,.orow e d)::hh,by simp [unM,e1];omega,fun i x hl'=>?_,fun ρ' hρ=>?_⟩
      ·simp only[ad] at hl'
       split at hl'
       ·rename_i hi;obtain rfl:id=i:=by simpa using hi
        obtain rfl:=by simpa using hl'
        refine ⟨Nat.le_refl _,by simp,_,_,rfl,.inr ⟨r,by simp,hl⟩⟩
       ·obtain ⟨g1,g2,E,d',g3,g4⟩:=e2 i x hl';refine ⟨by omega,by simp;omega,E,d',g3,?_⟩;rw[(oX ρ (some r) rs1 g1).1];have e:i-id=(i-(id+1))+1:=by omega
        rw[e];exact g4
      ·rw[aM];refine cG.2 ⟨u,v,rfl,⟨h1.1,fun i p q hp hq=>?_⟩,e3 ρ' ⟨hρ.1,fun i g1 g2=>?_⟩⟩
       ·cases i with
        |zero=>
         simp only[Seg.cells,List.getElem?_cons_zero,Option.some.injEq] at hp;subst hp;obtain ⟨A,c,rfl,hc,hA⟩:=h1.2 0 (.osl e r lo n) q (by simp [Seg.cells]) hq;have hm:=hρ.2 id (Nat.le_refl _) (by simp);rw[yc] at hm;have hcap:ρ'.cap id=ρ.cap r:=by rw[hm.2];unfold dx;rw[Nat.sub_self];rfl
         refine ⟨A,c,by rw[hn];rfl,by show d.len<=c;omega,hA.imp (fun h=>h) fun ⟨q1,q2,q3⟩=>⟨?_,?_,?_⟩⟩
         ·rw[q1,hlo];have:ρ'.blk id=ρ.blk r:=by unfold Map.blk;rw[hm.1]
          rw[this];rfl
         ·rw[hcap];rw[hlo] at q2;exact q2
         ·rw[hm.1];exact q3
        |succ i=>simp [Seg.cells] at hp
       ·have:=hρ.2 i (by omega) (by simp;omega);obtain ⟨m1,m2⟩:=oX ρ (some r) rs1 g1;rw[m1,m2] at this;exact this
     ·cases h
    ·cases h
   ·cases h
 | .ints k n::l,.ints k' (.lit m) f::s,ds,rest,ps,rs,h,hp',vs,hv,id=>by
   simp only[flM] at h
   split at h
   ·rename_i hk;simp only[Bool.and_eq_true] at hk;have:=dW hk.1;subst this;have:=Nat.eq_of_beq_eq_true hk.2;subst this
    split at h
    ·rename_i ds1 qs rs1 hds;simp only[Option.some.injEq,Prod.mk.injEq] at h;obtain ⟨rfl,rfl,rfl⟩:=h;rw[aM] at hv;obtain ⟨u,v,rfl,h1,h2⟩:=cG.1 hv;obtain ⟨y,hh,e1,e2,e3⟩:=kA hw l s ds1 rest qs rs1 hds hp' v h2 id;refine ⟨.ints k' (.lit m) f::y,hh,by simp [unM,e1],e2,fun ρ' hρ=>?_⟩;rw[aM];refine cG.2 ⟨u,v,rfl,⟨h1.1,fun i p q hp hq=>?_⟩,e3 ρ' hρ⟩;have hb':=h1.2 i p q hp hq;have hi:=br hp;rw[bc] at hi;rw[cA hi] at hp;obtain rfl:=by simpa using hp
     exact hb'
    ·cases h
   ·cases h
 | [],_::_,_,_,_,_,h,_,_,_,_=>by simp [flM] at h
 | .c _::_,[],_,_,_,_,h,_,_,_,_=>by simp [flM] at h
 | .c _::_,.ints .. :: _,_,_,_,_,h,_,_,_,_=>by simp [flM] at h
 | .own _::_,[],_,_,_,_,h,_,_,_,_=>by simp [flM] at h
 | .own _::_,.ints .. :: _,_,_,_,_,h,_,_,_,_=>by simp [flM] at h
 | .own _::_,.c (.int ..)::_,_,_,_,_,h,_,_,_,_=>by simp [flM] at h
 | .own _::_,.c (.bool ..)::_,_,_,_,_,h,_,_,_,_=>by simp [flM] at h
 | .own _::_,.c (.ptr ..)::_,_,_,_,_,h,_,_,_,_=>by simp [flM] at h
 | .own _::_,.c (.slice ..)::_,_,_,_,_,h,_,_,_,_=>by simp [flM] at h
 | .own _::_,.c (.raw ..)::_,_,_,_,_,h,_,_,_,_=>by simp [flM] at h
 | .own _::_,.c (.rows ..)::_,_,_,_,_,h,_,_,_,_=>by simp [flM] at h
 | .own _::_,.c (.fp ..)::_,_,_,_,_,h,_,_,_,_=>by simp [flM] at h
 | .own _::_,.c (.optr ..)::_,_,_,_,_,h,_,_,_,_=>by simp [flM] at h
 | .ints .. :: _,[],_,_,_,_,h,_,_,_,_=>by simp [flM] at h
 | .ints .. :: _,.c _::_,_,_,_,_,h,_,_,_,_=>by simp [flM] at h
 | .ints .. :: _,.ints _ (.sym _) _::_,_,_,_,_,h,_,_,_,_=>by simp [flM] at h
theorem yd {ρ:Map} (mu:Nat->Bool) {x:SC} {v:Value} (h:aJ ρ x v):aJ {ρ with mu:=mu} x v:=by cases x<;>exact h
theorem sn {ρ:Map} (mu:Nat->Bool) {l:List SC} {vs:List Value} (h:ax ρ l vs):ax {ρ with mu:=mu} l vs:=⟨h.1,fun i x v a b=>yd mu (h.2 i x v a b)⟩
theorem ye {ρ:Map} (mu:Nat->Bool) {x:V1} {v:Value} (h:bL ρ x v):bL {ρ with mu:=mu} x v:=by
 cases x with
 |sc c=>exact yd mu h
 |agg l=>obtain ⟨cs,rfl,hc⟩:=h;exact ⟨cs,rfl,sn mu hc⟩
theorem yf {ρ:Map} (mu:Nat->Bool):∀ {l:List V1} {vs:List Value},dg ρ l vs->dg {ρ with mu:=mu} l vs
 | [],[],_=>trivial
 | [],_::_,h=>h.elim
 |_::_,[],h=>h.elim
 |_::_,_::_,h=>⟨ye mu h.1,yf mu h.2⟩
theorem so {ρ:Map} (mu:Nat->Bool):∀ {l:List SV} {vs:List Value},dD ρ l vs->dD {ρ with mu:=mu} l vs
 | [],[],_=>trivial
 | [],_::_,h=>h.elim
 |_::_,[],h=>h.elim
 |x::_,_::_,h=>⟨by
   have h1:=h.1
   cases x with
   |one x=>exact ye mu h1
   |tup l=>obtain ⟨vs,rfl,ht⟩:=h1;exact ⟨vs,rfl,yf mu ht⟩
   |cond=>exact h1.elim
   |junk=>exact h1.elim,so mu h.2⟩
def yg (a b:List Nat):Bool:=a.all fun x=>!nin x b
theorem oY {a b:List Nat} (h:yg a b=true) {x:Nat} (hx:x∈a):x ∉ b:=fun hb=>by
 have:=List.all_eq_true.1 h x hx;rw[oW.2 hb] at this;cases this
def jt (T:TypeId) (ms:List AM) (aps:List AP) (spec:List Dat->Option (Eff × List Seg)) (hp:ah) (fr id:Nat) (rest:List SV):Option Eff:=match ad hp id with
 |some (.own T' segs)=>if Nat.beq T T' then (match flM hp ms segs,flP hp aps rest with
  |some (ds1,ps1,rs),some (ds2,ps2)=>if jr rs && !nin id (bq rs)&&yg (be hp rest) (id::bq rs) then (match spec (ds1++ds2) with
   |some (e,sg)=>some {val:=e.val.sh fr,nw:=shH fr e.nw,vc:=ps1++(ps2++e.vc),st:=(id,.own T (shS fr sg))::(aL (bq rs)++(if bJ (e.sh fr)&&du (shS fr sg) then [] else aL (aw hp (be hp rest))))}
   |none=>none) else none
  |_,_=>none) else none
 |_=>none
def ba (T:TypeId) (ms:List AM) (aps:List AP) (spec:List Dat->Option (Eff × List Seg)):Con:=fun hp fr args=>match args with
 | .one (.sc (.ptr id (.lit 0)))::rest=>jt T ms aps spec hp fr id rest
 |_=>none
def il (tt:TT) (rs:List ResultVar) (e:Eff) (T:TypeId) (sg:List Seg):Ex->St->Prop:=fun x s=>
 match x with
 | .exit _=>False
 |_=>(match oN tt s rs with
  |some (v,ps)=>eN ps (match dv s.hp v e.val with
   |(v,fs,ids)=>eN fs (
    let ids:=aw s.hp ids
    let t:=(8,.own T sg)::e.nw
    let δ:=eQ (aL ids++s.hp) t ((8,0)::mSV v e.val)
    match svL δ 9 v e.val,jf δ 9 s.nx (aL ids++s.hp) t with
    |some a,some b=>if jd δ t&&cR (aB e.nw) 0 e.nw&&mw (aB e.nw) e.val&&(dH (aB e.nw) sg&&Nat.beq (dm δ 8) 0) then ml (a++b) else False
    |_,_=>False))
  |none=>False)
theorem yh {w:World} {f0:Fz} {mu:Nat->Bool} {an:Option (Nat × Nat)} {ρ:Map} {h:ah} {w':World} (hw:WH ⟨w,f0,mu,an⟩ ρ h w'):WH ⟨w,f0,mu,none⟩ ρ h w':=
 ⟨hw.below,hw.ents,hw.apart,hw.froz,hw.sub,hw.mu0,hw.f00,hw.old,fun _ h=>(by cases h),hw.tab⟩
theorem G0 {P:Program} {tt:TT} (htt:aP P tt) (hm:P.follows .mixedOrders=true) {f:FuncId} {fn:Func} {c:Code} (hf:P.funcs[f]? = some fn) (hb:fn.body=some c) (hen:∀ (args:Array Value) (w:World),(callFunc f args).run P w = .ok (.enter f args) w)
 {A:List Dat->Ann} (hC:∀ ds id,cZ P ((A ds).C id)) {T:TypeId} {ms:List AM} {aps:List AP} {spec:List Dat->Option (Eff × List Seg)} (hn:Nat.ble (aps.length+1) fn.ntmps=true)
 (H:∀ ds e sg sM hM rest id1 svs h id,spec ds=some (e,sg)->All e.vc->unM ms ds 1=some (sM,hM,rest,id1)->unP aps rest id1=some (svs,h,id) ->
   sx tt fn.ntmps (A ds) (LFb true) c (il tt fn.results.toList e T sg) {tm:=fo (.one (.sc (.ptr 0 (.lit 0)))::svs) 0,hp:=(0,.own T sM)::(hM++h),nx:=id}):ConOK P f (ba T ms aps spec):=by
 refine ⟨hen,?_,fun hp fr caps e h=>by cases h⟩;intro hp fr args e0 h0 hvc w0 w ρ vs hw hfr hargs;unfold ba at h0
 split at h0
 ·rename_i id rest;unfold jt at h0
  split at h0
  ·rename_i T' segs hlk
   split at h0
   ·rename_i hTT;obtain rfl:=Nat.eq_of_beq_eq_true hTT
    split at h0
    ·rename_i ds1 ps1 rs ds2 ps2 hflM hflP
     split at h0
     ·rename_i hck;simp only[Bool.and_eq_true,Bool.not_eq_true'] at hck;obtain ⟨⟨hdist,hnid⟩,hdis⟩:=hck
      split at h0
      ·rename_i e sg hspec;obtain rfl:=Option.some.inj h0;obtain ⟨hpM,hp2⟩:=all_append.1 hvc;obtain ⟨hpP,hpE⟩:=all_append.1 hp2
       cases vs with
       |nil=>exact hargs.elim
       |cons v0 vr=>
        obtain ⟨⟨hid,hv0⟩,hargs⟩:=hargs;obtain ⟨_,hoff,hMine,vs0,hcs0,hheap⟩:=hw.ents id _ hlk;have hnid':id ∉ bq rs:=fun h=>by rw[oW.2 h] at hnid;cases hnid
        obtain ⟨sM,hM,hunM,hMe,hMc⟩:=kA hw ms segs ds1 ds2 ps1 rs hflM hpM vs0 hcs0 1;have hidsAll:∀ i∈be hp rest,bE hp i=true->i∈aw hp (be hp rest):=fun i hi ho=>cE.2 ⟨hi,ho⟩
        obtain ⟨svs,h,ρ1,idE,hun,hleE,hin,hrel⟩:=gC hw aps rest ds2 ps2 hflP hpP vr hargs hidsAll (1+rs.length);have hsx:=H (ds1++ds2) e sg sM hM ds2 _ svs h idE hspec hpE hunM hun;have hlen:vr.length+1<=fn.ntmps:=by
         have h1:=jm aps ds2 _ svs h idE hun;have h2:=mC hrel;have:=Nat.le_of_ble_eq_true hn;omega
        have hsz:((v0::vr).toArray++Array.replicate (fn.ntmps-(v0::vr).toArray.size) undef).size=fn.ntmps:=by simp;omega
        have own_k:∀ k∈id::bq rs,(ρ k).isSome=true->∃ x,ad hp k=some x/\x.isOwn=true:=fun k hk hks=>by
         rcases List.mem_cons.1 hk with rfl |hk
         ·exact ⟨_,hlk,rfl⟩
         ·obtain ⟨a,ha⟩:=fq.1 hk;have:∃ E d,ad hp k=some (.orow E d):=kz hflM ha;obtain ⟨E,d,hl⟩:=this;exact ⟨_,hl,rfl⟩
        have fzNone:∀ k∈id::bq rs,(ρ k).isSome=true->bp ρ w (aw hp (be hp rest)) (ρ.blk k)=none:=fun k hk hks=>by
         cases hc:bp ρ w (aw hp (be hp rest)) (ρ.blk k) with
         |none=>rfl
         |some cs=>
          exfalso;obtain ⟨x,hx,hxo⟩:=own_k k hk hks
          rcases g8 hc with h1 |⟨⟨j,hj,hjs,hjb⟩,_⟩
          ·have:=(fh (hw.ents k x hx) hxo hks).1.2;rw[h1] at this;cases this
          ·obtain ⟨hj1,hj2⟩:=cE.1 hj;unfold bE at hj2
           split at hj2
           ·rename_i y hy;exact hw.apart j k y x hy hx hj2 hxo (fun e=>oY hdis hj1 (e ▸ hk)) hjs hks hjb
           ·cases hj2
        generalize hF:bp ρ w (aw hp (be hp rest))=F at *
        let mu:Nat->Bool:=fun b=>j5 ρ b (id::bq rs)
        have muK:∀ k∈id::bq rs,(ρ k).isSome=true->mu (ρ.blk k)=true:=fun k hk hks=>fS.2 ⟨k,hk,hks,rfl⟩
        let ρc:Map:={m:=fun i=>if i=0 then some (ρ.blk id,0) else if i<1+rs.length then cu ρ rs 1 i else ρ1 i,cap:=fun i=>if i<1+rs.length then dx ρ rs 1 i else ρ1.cap i,fz:=F,f0:=F,mu:=mu}
        have c0:ρc 0=some (ρ.blk id,0):=rfl;have cM:∀ i,1<=i->i<1+rs.length -> ρc i=cu ρ rs 1 i /\ ρc.cap i=dx ρ rs 1 i:=fun i g1 g2=>by
         refine ⟨?_,?_⟩
         ·show (if i=0 then some (ρ.blk id,0) else if i<1+rs.length then cu ρ rs 1 i else ρ1 i)=_;rw[if_neg (by omega),if_pos g2]
         ·show (if i<1+rs.length then dx ρ rs 1 i else ρ1.cap i)=_;rw[if_pos g2]
        have cH:∀ i,1+rs.length<=i -> ρc i=ρ1 i /\ ρc.cap i=ρ1.cap i:=fun i g=>by
         refine ⟨?_,?_⟩
         ·show (if i=0 then some (ρ.blk id,0) else if i<1+rs.length then cu ρ rs 1 i else ρ1 i)=_;rw[if_neg (by omega),if_neg (by omega)]
         ·show (if i<1+rs.length then dx ρ rs 1 i else ρ1.cap i)=_;rw[if_neg (by omega)]
        have hfzle:FzLe ρ.fz F:=by rw[<- hF];exact eI ρ w _
        have holds:sm ρ ρc rs 1:=⟨hfzle,fun i g1 g2=>cM i g1 g2⟩;have ext1:Ext {ρ1 with mu:=mu} ρc:=by
         have ge:∀ i,(ρ1 i).isSome=true->1+rs.length<=i:=fun i hi=>by
          rcases Nat.lt_or_ge i (1+rs.length) with h |h
          ·rw[hin.out i (.inl h)] at hi;cases hi
          ·exact h
         refine ⟨fun i p hi=>?_,fun i hi=>?_,fun b cs hc=>?_,rfl,?_⟩
         ·have hi:ρ1 i=some p:=hi;rw[(cH i (ge i (by rw[hi];rfl))).1];exact hi
         ·exact (cH i (ge i hi)).2
         ·have hc:ρ1.fz b=some cs:=hc;rw[hin.hfz] at hc;exact hc
         ·show F=ρ1.f0;rw[hin.hf0]
        have hargsC:dD ρc (.one (.sc (.ptr 0 (.lit 0)))::svs) (v0::vr):=by
         refine ⟨⟨rfl,?_⟩,ko ext1 (so mu hrel)⟩;rw[hv0];simp only[Map.at,SO.v,hoff];rfl
        have lookT:∀ i x,ad ((0,Ent.own T sM)::(hM++h)) i=some x->(i=0/\x = .own T sM) ∨ (1<=i/\i<1+rs.length/\ad hM i=some x) ∨ (1+rs.length<=i/\i<idE/\ad h i=some x):=fun i x hx=>by
         simp only[ad] at hx
         split at hx
         ·rename_i hi;exact .inl ⟨(by simpa using hi:0=i).symm,by simpa using hx.symm⟩
         ·rw[co] at hx
          cases hl:ad hM i with
          |some y=>
           rw[hl] at hx;obtain rfl:=by simpa using hx
           obtain ⟨g1,g2,_⟩:=hMe i y hl;exact .inr (.inl ⟨g1,g2,rfl⟩)
          |none=>
           rw[hl] at hx;obtain ⟨_,_,g1,g2⟩:=hin.ents i x hx;exact .inr (.inr ⟨g1,g2,hx⟩)
        have src:∀ i x,ad ((0,Ent.own T sM)::(hM++h)) i=some x->x.isOwn=true->(ρc i).isSome=true->∃ k∈id::bq rs,(ρ k).isSome=true /\ ρc.blk i=ρ.blk k/\((i=0/\k=id) ∨ (1<=i/\rs[i-1]? = some (some k))):=fun i x hx ho hi=>by
         rcases lookT i x hx with ⟨rfl,_⟩ |⟨g1,g2,hl⟩ |⟨g1,g2,hl⟩
         ·exact ⟨id,List.mem_cons_self ..,hid,rfl,.inl ⟨rfl,rfl⟩⟩
         ·obtain ⟨_,_,E,d,rfl,h1⟩:=hMe i x hl;rw[(cM i g1 g2).1] at hi
          rcases h1 with ⟨h1,_⟩ |⟨r,h1,h2⟩
          ·rw[h1] at hi;cases hi
          ·have hm:cu ρ rs 1 i=ρ r:=by unfold cu;rw[if_pos g1,h1]
           refine ⟨r,List.mem_cons_of_mem _ (fq.2 ⟨_,h1⟩),by rw[<- hm];exact hi,?_,.inr ⟨g1,h1⟩⟩;unfold Map.blk;rw[(cM i g1 g2).1,hm]
         ·have:=(hin.ents i x hl).2.1;rw[this] at ho;cases ho
        have hwh:WH ⟨w,F,mu,some (ρ.blk id,0)⟩ ρc ((0,.own T sM)::(hM++h)) w:=by
         refine ⟨BelowM.refl _ _ _,fun i x hx=>?_,fun i j x y hx hy hxo hyo hne hi hj=>?_,fun b cs hb=>?_,fun _ _ h=>h,rfl,rfl,fun b cs hb=>.inl hb,fun p hp=>hp,by rw[<- hF];exact hw.tabP _⟩
         ·rcases lookT i x hx with ⟨rfl,rfl⟩ |⟨g1,g2,hl⟩ |⟨g1,g2,hl⟩
          ·exact ⟨rfl,rfl,⟨.inr (muK id (List.mem_cons_self ..) hid),fzNone id (List.mem_cons_self ..) hid⟩,vs0,hMc ρc holds,hheap⟩
          ·obtain ⟨_,_,E,d,rfl,h1⟩:=hMe i x hl
           rcases h1 with ⟨h1,h2⟩ |⟨r,h1,h2⟩
           ·exact .inl ⟨by rw[(cM i g1 g2).1];exact h1,h2⟩
           ·have hm:cu ρ rs 1 i=ρ r:=by unfold cu;rw[if_pos g1,h1]
            have hcp:dx ρ rs 1 i=ρ.cap r:=by unfold dx;rw[h1]
            have hr:r∈id::bq rs:=List.mem_cons_of_mem _ (fq.2 ⟨_,h1⟩)
            rcases hw.ents r _ h2 with ⟨q1,q2⟩ |⟨q1,q2,q3,q4⟩
            ·exact .inl ⟨by rw[(cM i g1 g2).1,hm];exact q1,q2⟩
            ·have hbk:ρc.blk i=ρ.blk r:=by unfold Map.blk;rw[(cM i g1 g2).1,hm]
             refine .inr ⟨by rw[(cM i g1 g2).1,hm];exact q1,by unfold Map.off;rw[(cM i g1 g2).1,hm];exact q2,by rw[hbk];exact ⟨.inr (muK r hr q1),fzNone r hr q1⟩,?_⟩;rw[hbk,(cM i g1 g2).2,hcp];exact vV hfzle rfl q4
          ·obtain ⟨he,ho,_,_⟩:=hin.ents i x hl
           cases x with
           |own=>cases ho
           |row=>cases ho
           |orow=>cases ho
           |gone=>trivial
           |ro l=>
            obtain ⟨q1,us,q2,q3⟩:=he 0 w;refine ⟨by rw[(cH i g1).1];exact q1,us,dc ext1 (sn mu q2),fun o v hv=>?_⟩;have:=q3 o v hv;rw[hin.hfz] at this;unfold Map.blk Map.off at this ⊢;rw[(cH i g1).1];exact this
         ·obtain ⟨k,hk,hks,hkb,hki⟩:=src i x hx hxo hi;obtain ⟨l,hl,hls,hlb,hlj⟩:=src j y hy hyo hj;rw[hkb,hlb];obtain ⟨x',hx',hxo'⟩:=own_k k hk hks;obtain ⟨y',hy',hyo'⟩:=own_k l hl hls;refine hw.apart k l x' y' hx' hy' hxo' hyo' (fun e=>?_) hks hls;subst e
          rcases hki with ⟨rfl,rfl⟩ |⟨a1,a2⟩<;>rcases hlj with ⟨rfl,b1⟩ |⟨b1,b2⟩
          ·exact hne rfl
          ·exact hnid' (fq.2 ⟨_,b2⟩)
          ·subst b1;exact hnid' (fq.2 ⟨_,a2⟩)
          ·have:=sk hdist _ _ _ a2 b2;omega
         ·have hb:F b=some cs:=hb;rw[<- hF] at hb;exact qY hw.froz hb
        refine calls_of_wp hf hb ?_
        refine oF htt hm (hC _) (w0:=⟨w,F,mu,some (ρ.blk id,0)⟩) (rW (fun _=>rfl)) c _ _ hsx _ ?_ ρc _ w ⟨⟨hsz,rfl,?_⟩,hwh,fun i hi=>by rw[(cH i (by show 1+rs.length<=i;have:idE<=i:=hi;omega)).1];exact hin.out i (.inr hi)⟩
        ·intro ex xx s' ρ' a w' hex hk hs';have done:il tt fn.results.toList e T sg .ret s'->a.defers=[]/\∃ v,(results fn a.tmps).run P w' = .ok v w'/\∃ ρ'' u,Ending.returned v = .returned u/\UR ρ'' (e.val.sh fr) u/\Fr w0.heap.size ρ ρ'' w w' {val:=e.val.sh fr,nw:=shH fr e.nw,vc:=ps1++(ps2++e.vc),st:=(id,.own T (shS fr sg))::(aL (bq rs)++(if bJ (e.sh fr)&&du (shS fr sg) then [] else aL (aw hp (be hp rest))))}:=by
          intro hk;simp only[il] at hk
          split at hk
          ·rename_i v qs hres;rw[ey] at hk;obtain ⟨hq,hk⟩:=hk;generalize hfrz:dv s'.hp v e.val=fz3 at hk;obtain ⟨v',fs,ids⟩:=fz3;dsimp only at hk;rw[ey] at hk;obtain ⟨hfs,hk⟩:=hk
           split at hk
           rename_i la lb hla hlb
           split at hk
           rename_i hok;obtain ⟨hk1,hk2⟩:=all_append.1 (kj hk);obtain ⟨u,hu1,hu2⟩:=oS htt hs' hres hq;have hu2':=mz hs'.mem hfrz hfs (fun i hi ho=>cE.2 ⟨hi,ho⟩) hu2;have hfr0:=cF (B:=w.heap.size) hs'.mem.froz (aw s'.hp ids) .junk [];have hmem':WH ⟨w,F,mu,some (ρ.blk id,0)⟩ (ρ'.frz w' (aw s'.hp ids)) (aL (aw s'.hp ids)++s'.hp) w':=by
            have:=gZ hs'.mem hfr0 (fun i x hx=>lX i x hx) (fun _ _ h=>by simp [ad] at h);exact this
           have hanc:(ρ'.frz w' (aw s'.hp ids)) 0=some (ρ.blk id,0):=hmem'.anc _ rfl;have hs2:SH ⟨w,F,mu,none⟩ 0 {tm:=[],hp:=aL (aw s'.hp ids)++s'.hp,nx:=s'.nx} (ρ'.frz w' (aw s'.hp ids)) {a with tmps:=#[]} w':=⟨⟨rfl,hs'.slots.defers,fun t x hx=>by simp [ad] at hx⟩,yh hmem',hs'.fresh⟩;generalize hρ3:ρ'.frz w' (aw s'.hp ids)=ρ3 at hu2' hmem' hs2 hanc;have hle:=mq hla hk1;have hhe:=jg hlb hk2;generalize eQ (aL (aw s'.hp ids)++s'.hp) ((8,.own T sg)::e.nw) ((8,0)::mSV v' e.val)=δ at *;simp only[Bool.and_eq_true] at hok;obtain ⟨⟨⟨hinj,hnew⟩,hsv⟩,hsg,hd8⟩:=hok;have hd8:=Nat.eq_of_beq_eq_true hd8;have hnj:e.val ≠ .junk:=fun hj=>by rw[hj] at hsv;cases hsv
           have hu3:=ov hle hu2' hnj;have hw2:=(ki (δ:=δ) (t:={tm:=[],hp:=(8,.own T sg)::e.nw,nx:=9}) ⟨trivial,hhe,hinj⟩ (fun h=>by cases h) hs2).mem;have hB:w0.heap.size<=w.heap.size:=hw.below.size;have h8:(ρ3.ren δ 9) 8=some (ρ.blk id,0):=by
            simp only[Map.ren];rw[if_pos (by decide),hd8];exact hanc
           generalize hρr:ρ3.ren δ 9=ρr at hu3 hw2 h8;have hmu:ρr.mu=mu:=by rw[<- hρr,<- hρ3];exact hs'.mem.mu0
           have hf0:ρr.f0=F:=by rw[<- hρr,<- hρ3];exact hs'.mem.f00
           replace hu3:=sd (n:=fr) hu3
           replace hw2:=si fr rfl hw2
           replace hnew:=ky (n:=fr) hnew
           replace hsv:=sj (n:=fr) hsv
           replace hsg:=jp (n:=fr) hsg
           replace hmu:(ρr.sh fr).mu=mu:=hmu
           replace hf0:(ρr.sh fr).f0=F:=hf0
           replace h8:(ρr.sh fr) (fr+8)=some (ρ.blk id,0):=by rw[dU];exact h8
           clear hρr hinj hnj hle hhe;generalize ρr.sh fr=ρr at *;have hw2:WH ⟨w,F,mu,none⟩ ρr ((fr+8,.own T (shS fr sg))::shH fr e.nw) w':=hw2;generalize hNW:shH fr e.nw=nw at *;generalize hSG:shS fr sg=sg' at *;generalize hVL:e.val.sh fr=vl at *;generalize hPL:(bJ (e.sh fr)&&du sg')=pl at *;have plOK:pl=true->oL vl=true/\fV nw=true/\du sg'=true:=fun hpl=>by
            rw[<- hPL] at hpl;simp only[Bool.and_eq_true] at hpl;have h1:bJ (e.sh fr)=true:=hpl.1;unfold bJ at h1;simp only[Bool.and_eq_true] at h1;exact ⟨by rw[<- hVL];exact h1.1,by rw[<- hNW];exact h1.2,hpl.2⟩
           have look2:∀ i x,ad nw i=some x->ad ((fr+8,Ent.own T sg')::nw) i=some x:=fun i x hx=>by
            obtain ⟨_,_,h2,_⟩:=cJ hnew i x hx;simp only[ad];rw[if_neg (by simp;omega)];exact hx
           have lookS:ad ((fr+8,Ent.own T sg')::nw) (fr+8)=some (.own T sg'):=by simp [ad]
           obtain ⟨e1s,e2s,e3s,us,e4s,e5s⟩:=hw2.ents _ _ lookS;have hb8:ρr.blk (fr+8)=ρ.blk id:=by simp [Map.blk,h8]
           have ho8:ρr.off (fr+8)=0:=by simp [Map.off,h8]
           rw[hb8] at e3s e5s
           let ST:ah:=(id,.own T sg')::(aL (bq rs)++(if pl then [] else aL (aw hp (be hp rest))))
           have stRow:∀ k,k∈bq rs->ad ST k=some .gone:=fun k hk=>by
            simp only[ST,ad];rw[if_neg (by simp;rintro rfl;exact hnid' hk),co,g9 hk]
           have stKeep:pl=false->∀ k,k∈aw hp (be hp rest)->ad ST k=some .gone:=fun hpl k hk=>by
            have hne:id≠k:=fun h=>oY hdis (cE.1 hk).1 (h ▸ List.mem_cons_self ..)
            simp only[ST,ad];rw[if_neg (by simpa using hne),co]
            cases hq:ad (aL (bq rs)) k with
            |some y=>rw[(c7 hq).1]
            |none=>simp only[hpl];exact g9 hk
           let ρ2:Map:={m:=fun i=>if nin i (aB nw) then ρr i else ρ i,cap:=fun i=>if nin i (aB nw) then ρr.cap i else ρ.cap i,fz:=if pl then ρ.fz else ρr.fz,f0:=ρ.f0,mu:=ρ.mu}
           have ag:∀ i,nin i (aB nw)=true -> ρ2 i=ρr i /\ ρ2.cap i=ρr.cap i:=fun i hi=>⟨by simp only[ρ2];rw[if_pos hi],by simp only[ρ2];rw[if_pos hi]⟩
           have off:∀ i,nin i (aB nw)=false -> ρ2 i=ρ i:=fun i hi=>by simp only[ρ2];rw[if_neg (by rw[hi];simp)]
           have oldKey:∀ i,(ρ i).isSome=true->nin i (aB nw)=false:=fun i hi=>by
            cases hn:nin i (aB nw) with
            |false=>rfl
            |true=>
             obtain ⟨x,hx⟩:=Option.isSome_iff_exists.1 (ce.1 hn);rw[hfr i x hx] at hi;cases hi
           have fzle:FzLe ρ.fz ρr.fz:=fun b cs hb=>hw2.sub b cs (by rw[hf0];exact hfzle b cs hb)
           have ownNew:∀ i x,ad nw i=some x->(ρr i).isSome=true->(w.heap.size<=ρr.blk i ∨ j3 ρ ST (ρr.blk i)) /\ ρr.fz (ρr.blk i)=none /\ ρr.blk i≠ρ.blk id:=fun i x hx hi=>by
            obtain ⟨ho,_,hlt,_⟩:=cJ hnew i x hx;obtain ⟨hM,_⟩:=fh (hw2.ents i x (look2 i x hx)) ho hi;have hne:ρr.blk i≠ρ.blk id:=by
             rw[<- hb8];exact hw2.apart i (fr+8) x _ (look2 i x hx) lookS ho rfl (by omega) hi e1s
            refine ⟨?_,hM.2,hne⟩
            rcases hM.1 with h |h
            ·exact .inl h
            ·rw[hmu] at h;obtain ⟨k,hk,hks,hkb⟩:=fS.1 h
             rcases List.mem_cons.1 hk with rfl |hk
             ·exact absurd hkb.symm hne
             ·exact .inr ⟨k,stRow k hk,hks,hkb.symm⟩
           have blk2:∀ i,nin i (aB nw)=true -> ρ2.blk i=ρr.blk i:=fun i hi=>by simp [Map.blk,(ag i hi).1]
           have hzz:ρ2.fz=ρr.fz ∨ pl=true:=by
            cases hpl:pl with
            |true=>exact .inr rfl
            |false=>left;simp only[ρ2,hpl];rfl
           have hidB:ρ2 id=ρ id:=off id (oldKey id hid);have hbid:ρ2.blk id=ρ.blk id:=by simp [Map.blk,hidB]
           refine ⟨hs'.slots.defers,u,hu1,ρ2,u,rfl,oO ag (hzz.imp (fun h=>h) fun h=>(plOK h).1) hsv hu3,?_⟩;refine ⟨⟨fun i p hi=>?_,fun i hi=>?_,?_,rfl,rfl⟩,fun i hi=>?_,⟨hs'.mem.below.os,hs'.mem.below.tape,hs'.mem.below.output,hs'.mem.below.size,fun k hk=>absurd hk (Nat.not_lt_zero k)⟩,fun b hb' hno=>hs'.mem.below.block b hb' ?_,fun i x hx=>?_,fun i x hx=>?_,fun i j x y hx hy hne hii hjj=>?_,fun b cs hb=>?_⟩
           ·rw[off i (oldKey i (by rw[hi];rfl))];exact hi
           ·have:=oldKey i hi;simp only[ρ2];rw[if_neg (by rw[this];simp)]
           ·simp only[ρ2];split
            ·exact fun _ _ h=>h
            ·exact fzle
           ·have hi':ad nw i=none:=hi;refine off i ?_
            cases hn:nin i (aB nw) with
            |false=>rfl
            |true=>rw[ce,hi'] at hn;cases hn
           ·rw[hs'.mem.mu0];show mu b=false
            cases hmb:mu b with
            |false=>rfl
            |true=>
             exfalso;obtain ⟨k,hk,hks,hkb⟩:=fS.1 hmb
             rcases List.mem_cons.1 hk with rfl |hk
             ·exact hno k _ (by show ad ST k=_;simp only[ST,ad];rw[if_pos (by simp)]) hks hkb
             ·exact hno k _ (stRow k hk) hks hkb
           ·have hx':ad ST i=some x:=hx;simp only[ST,ad] at hx'
            split at hx'
            ·rename_i hi;obtain rfl:id=i:=by simpa using hi
             obtain rfl:=by simpa using hx'
             refine ⟨by rw[hidB];exact hid,by simp [Map.off,hidB];exact hoff,?_,us,mx ag (hzz.imp (fun h=>h) fun h=>(plOK h).2.2) hsg e4s,by rw[hbid];exact e5s⟩;rw[hbid];refine ⟨hMine.1,?_⟩;simp only[ρ2];split
             ·exact hMine.2
             ·exact e3s.2
            ·rw[co] at hx'
             cases hq:ad (aL (bq rs)) i with
             |some y=>
              rw[hq] at hx';obtain rfl:=by simpa using hx'
              rw[(c7 hq).1];trivial
             |none=>
              rw[hq] at hx';dsimp only at hx'
              split at hx'
              ·simp [ad] at hx'
              ·rw[(c7 hx').1];trivial
           ·have hx':ad nw i=some x:=hx;obtain ⟨ho,_,_,hni⟩:=cJ hnew i x hx';have hki:nin i (aB nw)=true:=ce.2 (by rw[hx'];rfl);refine ⟨oP ag hki (hzz.imp (fun h=>h) fun h=>my (plOK h).2.1 i x hx') hni (fun hi=>?_) (hw2.ents i x (look2 i x hx')),fun hi=>?_,ho⟩
            ·obtain ⟨g1,g2,_⟩:=ownNew i x hx' hi;refine ⟨?_,?_⟩
             ·rcases g1 with g1 |⟨k,hk,hks,hkb⟩
              ·exact .inl (by omega)
              ·have hk2:k∈id::bq rs ∨ k∈aw hp (be hp rest):=by
                have hk:ad ST k=some .gone:=hk;simp only[ST,ad] at hk
                split at hk
                ·cases hk
                ·rw[co] at hk
                 cases hq:ad (aL (bq rs)) k with
                 |some y=>exact .inl (List.mem_cons_of_mem _ (c7 hq).2)
                 |none=>
                  rw[hq] at hk;dsimp only at hk
                  split at hk
                  ·simp [ad] at hk
                  ·exact .inr (c7 hk).2
               have:∃ x,ad hp k=some x/\x.isOwn=true:=by
                rcases hk2 with h |h
                ·exact own_k k h hks
                ·have:=(cE.1 h).2;unfold bE at this
                 split at this
                 ·rename_i y hy;exact ⟨y,hy,this⟩
                 ·cases this
               obtain ⟨y,hy,hyo⟩:=this;rw[hkb];exact (fh (hw.ents k y hy) hyo hks).1.1
             ·simp only[ρ2];split
              ·cases hc:ρ.fz (ρr.blk i) with
               |none=>rfl
               |some cs=>have:=fzle _ _ hc;rw[g2] at this;cases this
              ·exact g2
            ·rw[blk2 i hki];exact (ownNew i x hx' (by rw[<- (ag i hki).1];exact hi)).1
           ·have hx':ad nw i=some x:=hx;have hy':ad nw j=some y:=hy;have hki:nin i (aB nw)=true:=ce.2 (by rw[hx'];rfl);have hkj:nin j (aB nw)=true:=ce.2 (by rw[hy'];rfl);rw[blk2 i hki,blk2 j hkj];exact hw2.apart i j x y (look2 i x hx') (look2 j y hy') (cJ hnew i x hx').1 (cJ hnew j y hy').1 hne (by rw[<- (ag i hki).1];exact hii) (by rw[<- (ag j hkj).1];exact hjj)
           ·by_cases hpl':pl=true
            ·left
             have:ρ2.fz b=some cs:=hb;simp only[ρ2,hpl',if_pos] at this;exact this
            ·have hpl:pl=false:=by simpa using hpl'
             have hb2:ρr.fz b=some cs:=by
              have:ρ2.fz b=some cs:=hb;simp only[ρ2,hpl] at this;exact this
             have hnw:∀ i x,ad nw i=some x->(ρ2 i).isSome=true -> ρ2.blk i≠b:=fun i x hx hi hbb=>by
              have hki:nin i (aB nw)=true:=ce.2 (by rw[hx];rfl);obtain ⟨_,g2,_⟩:=ownNew i x hx (by rw[<- (ag i hki).1];exact hi);rw[<- blk2 i hki,hbb,hb2] at g2;cases g2
             rcases hw2.old b cs hb2 with h1 |h1 |h1
             ·rw[hf0,<- hF] at h1
              rcases g8 h1 with h2 |⟨⟨i,hi,hsi,hbi⟩,_⟩
              ·exact .inl h2
              ·refine .inr ⟨.inr ⟨i,stKeep hpl i hi,hsi,hbi.symm⟩,hw2.froz b cs hb2,hnw⟩
             ·exact .inr ⟨.inl h1,hw2.froz b cs hb2,hnw⟩
             ·rw[hmu] at h1;obtain ⟨k,hk,hks,hkb⟩:=fS.1 h1
              rcases List.mem_cons.1 hk with rfl |hk
              ·have:=e3s.2;rw[hkb,hb2] at this;cases this
              ·exact .inr ⟨.inr ⟨k,stRow k hk,hks,hkb.symm⟩,hw2.froz b cs hb2,hnw⟩
           ·exact hk.elim
           ·exact hk.elim
          ·exact hk.elim
         cases ex with
         |normal=>simp only[cd,Option.some.injEq] at hex;subst hex;exact done hk
         |ret=>simp only[cd,Option.some.injEq] at hex;subst hex;exact done hk
         |exit i=>simp only[cd,Option.some.injEq] at hex;subst hex;exact hk.elim
         |goto l=>cases hex
         |panic ch=>cases hex
         |outgrown=>cases hex
        ·intro t x hx;obtain ⟨_,h2⟩:=mA _ 0 t x hx;obtain ⟨v,hv,hr⟩:=mB hargsC (by simpa using h2);have hlt:=br hv;have:((v0::vr).toArray++Array.replicate (fn.ntmps-(v0::vr).toArray.size) undef).getD t undef=v:=by
          simp only[Array.getD_eq_getD_getElem?];rw[Array.getElem?_append_left (by simpa using hlt),List.getElem?_toArray,hv];rfl
         rw[this];exact lZ hr
      ·cases h0
     ·cases h0
    ·cases h0
   ·cases h0
  ·cases h0
 ·cases h0
def ObM (tt:TT) (nt:Nat) (A:Ann) (c:Code) (rs:List ResultVar) (T:TypeId) (ms:List AM) (aps:List AP) (ds:List Dat):Option (Eff × List Seg)->Prop
 |some (e,sg)=>(match unM ms ds 1 with
  |some (sM,hM,rest,id1)=>(match unP aps rest id1 with
   |some (svs,h,id)=>je e.vc (sx tt nt A (LFb true) c (il tt rs e T sg) {tm:=fo (.one (.sc (.ptr 0 (.lit 0)))::svs) 0,hp:=(0,.own T sM)::(hM++h),nx:=id})
   |none=>True)
  |none=>True)
 |none=>True
theorem bk {P:Program} {tt:TT} (htt:aP P tt) (hm:P.follows .mixedOrders=true) {f:FuncId} {fn:Func} {c:Code} (hf:P.funcs[f]? = some fn) (hb:fn.body=some c) (hen:∀ (args:Array Value) (w:World),(callFunc f args).run P w = .ok (.enter f args) w)
 {A:List Dat->Ann} (hC:∀ ds id,cZ P ((A ds).C id)) {T:TypeId} {ms:List AM} {aps:List AP} {spec:List Dat->Option (Eff × List Seg)} (hn:Nat.ble (aps.length+1) fn.ntmps=true)
 (H:∀ ds,ObM tt fn.ntmps (A ds) c fn.results.toList T ms aps ds (spec ds)):ConOK P f (ba T ms aps spec):=
 G0 htt hm hf hb hen hC hn fun ds e sg sM hM rest id1 svs h id he hvc h1 h2=>by
  have:=H ds;unfold ObM at this;rw[he] at this;dsimp only at this;rw[h1] at this;dsimp only at this;rw[h2] at this;exact mo.1 this hvc
theorem oZ {T:TypeId} {ms:List AM} {aps:List AP} {spec:List Dat->Option (Eff × List Seg)} {hp:ah} {fr:Nat} {args:List SV} {e0:Eff} (h:ba T ms aps spec hp fr args=some e0):∃ ds e sg ps1 ps2,spec ds=some (e,sg)/\e0.vc=ps1++(ps2++e.vc) /\
 ∀ spec' e',spec' ds=some (e',sg)->e'.val=e.val->e'.nw=e.nw->ba T ms aps spec' hp fr args=some {e0 with vc:=ps1++(ps2++e'.vc)}:=by
 unfold ba at h
 split at h
 ·rename_i id rest;unfold jt at h
  split at h
  ·rename_i T' segs hlk
   split at h
   ·rename_i hTT
    split at h
    ·rename_i ds1 ps1 rs ds2 ps2 hflM hflP
     split at h
     ·rename_i hck
      split at h
      ·rename_i e sg hspec;obtain rfl:=Option.some.inj h;refine ⟨_,e,sg,ps1,ps2,hspec,rfl,fun spec' e' h' hv hn=>?_⟩;have hpl:bJ (e'.sh fr)=bJ (e.sh fr):=by unfold bJ Eff.sh;rw[hv,hn]
       show jt T ms aps spec' hp fr id rest=_;unfold jt;rw[hlk];dsimp only;rw[if_pos hTT,hflM,hflP];dsimp only;rw[if_pos hck,h'];dsimp only;rw[hpl,hv,hn]
      ·cases h
     ·cases h
    ·cases h
   ·cases h
  ·cases h
 ·cases h
end Go.Proofs.YtbhbjhejkamlnaaGreat.Sx
