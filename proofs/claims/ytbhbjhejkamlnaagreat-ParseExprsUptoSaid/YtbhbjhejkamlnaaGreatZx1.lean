import Derived.Lib.Strings
import Derived.Orders
import Derived.Calls
import Derived.Test.YtbhbjhejkamlnaaGreatProg
import Derived.Lib.LaidTab
import Derived.Lib.ItoaNum
import Derived.Below
import Derived.ChangeKeysEq
namespace Go.Proofs.YtbhbjhejkamlnaaGreat
def hH (n:Int):Bool:=n==32 ||n==10
def bQ (n:Int):Bool:=decide (97<=n)&&decide (n<=122)
def bF (n:Int):Bool:=decide (48<=n)&&decide (n<=57)
def cy (b:UInt8):Bool:=hH (b.toNat:Int)
def bG (b:UInt8):Bool:=bQ (b.toNat:Int)
def ay (b:UInt8):Bool:=bF (b.toNat:Int)
def aU (b:UInt8):Bool:=bG b ||ay b
def et (l:List UInt8):Bool:=
 l==[99,104,97,110] ||l==[98,108,111,99,107] ||l==[100,114,111,112] ||l==[108,111,115,115,121] ||l==[102,114,111,109] ||l==[116,111] ||
 l==[114,117,108,101] ||l==[112,114,111,99] ||l==[118,97,114] ||l==[105,102] ||l==[101,108,115,101] ||l==[119,104,105,108,101] ||
 l==[115,101,110,100] ||l==[114,101,99,118] ||l==[97,115,115,101,114,116] ||l==[105,110,112,117,116]
def de (a:Int) (p:Bool):Nat:=
 if a=61 ∨ a=60 ∨ a=62 then (if p then 2 else 1) else if a=33 then (if p then 2 else 0)
 else if a=123 ∨ a=125 ∨ a=40 ∨ a=41 ∨ a=59 ∨ a=44 ∨ a=46 ∨ a=43 ∨ a=45 ∨ a=42 ∨ a=47 ∨ a=37 then 1 else 0
def hZ (l:List UInt8):Bool:=match l with
 |_::b::_=>b==61
 |_=>false
theorem F2 (l:List UInt8) (h:1<l.length):hZ l=((l[1].toNat:Int)==61):=by
 match l,h with
 |a::b::t,_=>
  show (b==61)=((b.toNat:Int)==61);rw[Bool.eq_iff_iff];simp only[beq_iff_eq];constructor
  ·rintro rfl;rfl
  ·intro h;exact UInt8.toNat_inj.1 (by show b.toNat=61;omega)
 | [],h=>simp at h
 | [a],h=>simp at h
theorem F3 (l:List UInt8) (h:l.length<=1):hZ l=false:=by
 match l,h with
 |a::b::t,h=>simp at h
 | [],_=>rfl
 | [a],_=>rfl
def cP (r:List UInt8):Nat:=de ((r.headD 0).toNat:Int) (hZ r)
def lenOf (pr:UInt8->Bool) (r:List UInt8):Nat:=(r.takeWhile pr).length
def val (ds:List UInt8):Nat:=ds.foldl (fun n d=>10*n+(d.toNat-48)) 0
def cQ (r:List UInt8):Except Int (Int × Nat × Int):=
 if 12<lenOf aU r then .error 3 else .ok (if et (r.take (lenOf aU r)) then 4 else 1,lenOf aU r,0)
def cq (r:List UInt8):Except Int (Int × Nat × Int):=
 if 2147483647<val (r.take (lenOf ay r)) ∨ (1<lenOf ay r/\r.headD 0=48) ∨ bG (r.getD (lenOf ay r) 0)=true then .error 3
 else .ok (2,lenOf ay r,(val (r.take (lenOf ay r)):Int))
def dY (r:List UInt8):Except Int (Int × Nat × Int):=
 if cP r=0 then .error 2 else .ok (3,cP r,0)
def bb (r:List UInt8):Except Int (Int × Nat × Int):=
 if bG (r.headD 0) then cQ r else if ay (r.headD 0) then cq r else dY r
structure Tok where
 kind:Int
 text:ByteArray
 num:Int
 pos:Nat
def bI (s:ByteArray):Nat->Nat->List Tok->Except (Nat × Int) (List Tok)
 | 0,_,acc=>.ok acc
 |f+1,p,acc=>
  if p<s.size then
   if cy (s.data.toList.getD p 0) then bI s f (p+1) acc
   else match bb (s.data.toList.drop p) with
    | .error e=>.error (p,e)
    | .ok (k,n,m)=>bI s f (p+n) (acc++[⟨k,s.extract p (p+n),m,p⟩])
  else .ok acc
def ai (s:ByteArray):List Tok × Nat × Int:=match bI s s.size 0 [] with
 | .error (p,e)=>([],p,e)
 | .ok acc=>if 2000<acc.length then ([],s.size,4) else (acc,0,0)
theorem fj (pr:UInt8->Bool) (r:List UInt8):lenOf pr r<=r.length:=(List.takeWhile_prefix pr).length_le
theorem wG (pr:UInt8->Bool) (r:List UInt8) (h0:0<r.length) (h:pr (r.headD 0)=true):1<=lenOf pr r:=by
 match r,h0 with
 |a::t,_=>
  have h:pr a=true:=h;simp [lenOf,h]
theorem F4 (a:Int) (p:Bool):de a p<=2:=by
 unfold de
 cases p<;>repeat (first |omega |split)
theorem wH (r:List UInt8):cP r<=r.length:=by
 match r with
 | []=>exact Nat.le_of_eq (by decide)
 | [a]=>
   show de (a.toNat:Int) false<=1;unfold de;simp only[Bool.false_eq_true,if_false]
   repeat (first |omega |split)
 |a::b::t=>
  have:=F4 (a.toNat:Int) (b==61);show de (a.toNat:Int) (b==61)<=t.length+1+1;omega
theorem gr {r:List UInt8} {k:Int} {n:Nat} {m:Int} (h0:0<r.length) (h:bb r = .ok (k,n,m)):1<=n/\n<=r.length/\0<=m/\m<=2147483647/\1<=k/\k<=4:=by
 unfold bb at h
 by_cases hl:bG (r.headD 0)=true
 ·rw[if_pos hl] at h;unfold cQ at h
  by_cases h12:12<lenOf aU r
  ·rw[if_pos h12] at h;cases h
  ·rw[if_neg h12] at h
   injection h with h;injection h with h1 h;injection h with h2 h3
   subst h2;subst h3;refine ⟨wG _ _ h0 (by unfold aU;rw[hl];rfl),fj _ _,by omega,by omega,?_⟩;rw[<- h1]
   split<;>omega
 ·rw[if_neg hl] at h
  by_cases hd:ay (r.headD 0)=true
  ·rw[if_pos hd] at h;unfold cq at h
   by_cases hc:2147483647<val (r.take (lenOf ay r)) ∨ (1<lenOf ay r/\r.headD 0=48) ∨ bG (r.getD (lenOf ay r) 0)=true
   ·rw[if_pos hc] at h;cases h
   ·rw[if_neg hc] at h
    injection h with h;injection h with h1 h;injection h with h2 h3
    subst h2;subst h3;subst h1;refine ⟨wG _ _ h0 hd,fj _ _,by omega,?_,by omega,by omega⟩;have:=fun hx=>hc (.inl hx)
    omega
  ·rw[if_neg hd] at h;unfold dY at h
   by_cases hz:cP r=0
   ·rw[if_pos hz] at h;cases h
   ·rw[if_neg hz] at h
    injection h with h;injection h with h1 h;injection h with h2 h3
    subst h2;subst h3;subst h1;exact ⟨by omega,wH r,by omega,by omega,by omega,by omega⟩
theorem F5 {r:List UInt8} {x:Int} (h:bb r = .error x):x=2 ∨ x=3:=by
 unfold bb at h
 split at h
 ·unfold cQ at h
  split at h
  ·injection h with h;omega
  ·cases h
 ·split at h
  ·unfold cq at h
   split at h
   ·injection h with h;omega
   ·cases h
  ·unfold dY at h
   split at h
   ·injection h with h;omega
   ·cases h
theorem wI {s:ByteArray} {f p:Nat} {acc:List Tok} {R:Except (Nat × Int) (List Tok)} (hp:p<s.size) (hg:cy (s.data.toList.getD p 0)=true) (hf:s.size<=p+f) (h:bI s f p acc=R) :
 ∃ f',s.size<=(p+1)+f'/\bI s f' (p+1) acc=R:=by
 obtain ⟨f',rfl⟩:∃ f',f=f'+1:=⟨f-1,by omega⟩;refine ⟨f',by omega,?_⟩;rw[bI,if_pos hp,if_pos hg] at h;exact h
theorem j9 {s:ByteArray} {f p:Nat} {acc:List Tok} {R:Except (Nat × Int) (List Tok)} {e:Int} (hp:p<s.size) (hg:cy (s.data.toList.getD p 0)=false) (hw:bb (s.data.toList.drop p) = .error e) (hf:s.size<=p+f) (h:bI s f p acc=R) :
 R = .error (p,e):=by
 obtain ⟨f',rfl⟩:∃ f',f=f'+1:=⟨f-1,by omega⟩;rw[bI,if_pos hp,if_neg (by rw[hg];decide),hw] at h;exact h.symm
theorem od {s:ByteArray} {f p:Nat} {acc:List Tok} {R:Except (Nat × Int) (List Tok)} {k:Int} {n:Nat} {m:Int} (hp:p<s.size) (hg:cy (s.data.toList.getD p 0)=false) (hw:bb (s.data.toList.drop p) = .ok (k,n,m)) (hf:s.size<=p+f) (hn:1<=n) (h:bI s f p acc=R) :
 ∃ f',s.size<=(p+n)+f'/\bI s f' (p+n) (acc++[⟨k,s.extract p (p+n),m,p⟩])=R:=by
 obtain ⟨f',rfl⟩:∃ f',f=f'+1:=⟨f-1,by omega⟩;refine ⟨f',by omega,?_⟩;rw[bI,if_pos hp,if_neg (by rw[hg];decide),hw] at h;exact h
theorem wJ {s:ByteArray} {f p:Nat} {acc:List Tok} {R:Except (Nat × Int) (List Tok)} (hp:s.size<=p) (h:bI s f p acc=R):R = .ok acc:=by
 match f with
 | 0=>exact h.symm
 |f+1=>
  rw[bI,if_neg (by omega)] at h;exact h.symm
def Run (pr:UInt8->Bool) (s:ByteArray) (p k:Nat):Prop:=p<=k/\k<=s.size/\∀ j,p<=j->j<k->pr (s.data.toList.getD j 0)=true
theorem dF (s:ByteArray) (k:Nat) (h:k<s.size):s.data.toList.getD k 0=s[k]:=by
 rw[List.getD_eq_getElem?_getD,List.getElem?_eq_getElem (by simpa using h)];rfl
theorem Run.start {pr:UInt8->Bool} {s:ByteArray} {p:Nat} (h:p<=s.size):Run pr s p p:=⟨Nat.le_refl _,h,fun j h1 h2=>by omega⟩
theorem Run.step {pr:UInt8->Bool} {s:ByteArray} {p k:Nat} (h:Run pr s p k) (hk:k<s.size) (hp:pr s[k]=true):Run pr s p (k+1):=by
 refine ⟨by have:=h.1;omega,by omega,fun j h1 h2=>?_⟩
 by_cases e:j=k
 ·subst e;rw[dF s j hk];exact hp
 ·exact h.2.2 j h1 (by omega)
theorem wK (pr:UInt8->Bool):∀ (r:List UInt8) (n:Nat),n<=r.length->(∀ i,i<n->pr (r.getD i 0)=true)->(n<r.length->pr (r.getD n 0)=false)->(r.takeWhile pr).length=n:=by
 intro r
 induction r with
 |nil=>intro n h _ _;simp at h;simp [h]
 |cons a t ih=>
  intro n hn hall hstop
  match n with
  | 0=>
    have:pr a=false:=hstop (by simp);simp [this]
  |n+1=>
   have h0:pr a=true:=hall 0 (by omega);rw[List.takeWhile_cons,if_pos h0,List.length_cons,ih n (by simpa using hn) (fun i hi=>hall (i+1) (by omega)) (fun h=>hstop (by simpa using h))]
theorem oe (l:List UInt8) (p i:Nat):(l.drop p).getD i 0=l.getD (p+i) 0:=by
 simp [List.getD_eq_getElem?_getD,List.getElem?_drop]
theorem Run.len {pr:UInt8->Bool} {s:ByteArray} {p k:Nat} (h:Run pr s p k) (hk:k<s.size->pr (s.data.toList.getD k 0)=false):lenOf pr (s.data.toList.drop p)=k-p:=by
 obtain ⟨h1,h2,h3⟩:=h;have hl:s.data.toList.length=s.size:=by simp
 refine wK pr _ (k-p) (by rw[List.length_drop];omega) (fun i hi=>?_) (fun hlt=>?_)
 ·rw[oe];exact h3 _ (by omega) (by omega)
 ·rw[oe,show p+(k-p)=k from by omega];rw[List.length_drop] at hlt;exact hk (by omega)
theorem Run.le_len {pr:UInt8->Bool} {s:ByteArray} {p k:Nat} (h:Run pr s p k):k-p<=lenOf pr (s.data.toList.drop p):=by
 obtain ⟨h1,h2,h3⟩:=h;have hl:s.data.toList.length=s.size:=by simp
 have key:∀ (r:List UInt8) (n:Nat),n<=r.length->(∀ i,i<n->pr (r.getD i 0)=true)->n<=(r.takeWhile pr).length:=by
  intro r
  induction r with
  |nil=>intro n h _;simpa using h
  |cons a t ih=>
   intro n hn hall
   match n with
   | 0=>omega
   |n+1=>
    have h0:pr a=true:=hall 0 (by omega);have:=ih n (by simpa using hn) (fun i hi=>hall (i+1) (by omega));rw[List.takeWhile_cons,if_pos h0,List.length_cons];omega
 exact key _ _ (by rw[List.length_drop];omega) (fun i hi=>by rw[oe];exact h3 _ (by omega) (by omega))
theorem ke (l:List UInt8) (p:Nat):(l.drop p).headD 0=l.getD p 0:=by
 rw[List.headD_eq_head?_getD,List.head?_drop,List.getD_eq_getElem?_getD]
def vl (s:ByteArray) (p k:Nat):Nat:=val ((s.data.toList.drop p).take (k-p))
theorem re (ds:List UInt8) (d:UInt8):val (ds++[d])=10*val ds+(d.toNat-48):=by simp [val]
theorem F6 (a:List UInt8):∀ b:List UInt8,val a<=val (a++b):=by
 intro b
 induction b generalizing a with
 |nil=>simp
 |cons d t ih=>
  have h1:=ih (a++[d]);rw[List.append_assoc,List.singleton_append] at h1;have h2:=re a d;omega
theorem rf (s:ByteArray) (p:Nat):vl s p p=0:=by simp [vl,val]
theorem rg (s:ByteArray) (p k:Nat) (hp:p<=k) (hk:k<s.size):vl s p (k+1)=10*vl s p k+(s[k].toNat-48):=by
 have hl:s.data.toList.length=s.size:=by simp
 unfold vl;rw[show k+1-p=(k-p)+1 from by omega,List.take_succ_eq_append_getElem (by rw[List.length_drop];omega),re];have:(s.data.toList.drop p)[k-p]'(by rw[List.length_drop];omega)=s[k]:=by
  rw[List.getElem_drop];have e:p+(k-p)=k:=by omega
  simp only[e];rfl
 rw[this]
theorem F7 (s:ByteArray) (p k n:Nat) (h:k-p<=n):vl s p k<=val ((s.data.toList.drop p).take n):=by
 unfold vl;have e:(s.data.toList.drop p).take n=(s.data.toList.drop p).take (k-p)++((s.data.toList.drop p).drop (k-p)).take (n-(k-p)):=by
  rw[<- List.take_add,show k-p+(n-(k-p))=n from by omega]
 rw[e];exact F6 _ _
theorem rh (pr:UInt8->Bool):∀ r:List UInt8,lenOf pr r<r.length->pr (r.getD (lenOf pr r) 0)=false:=by
 intro r
 induction r with
 |nil=>intro h;simp at h
 |cons a t ih=>
  intro h
  by_cases ha:pr a=true
  ·have e:lenOf pr (a::t)=lenOf pr t+1:=by simp [lenOf,ha]
   rw[e] at h ⊢;exact ih (by simpa using h)
  ·have e:lenOf pr (a::t)=0:=by simp [lenOf,ha]
   rw[e]
   simpa using ha
theorem wL (pr:UInt8->Bool):∀ (r:List UInt8) (i:Nat),i<lenOf pr r->pr (r.getD i 0)=true:=by
 intro r
 induction r with
 |nil=>intro i h;simp [lenOf] at h
 |cons a t ih=>
  intro i h
  by_cases ha:pr a=true
  ·have e:lenOf pr (a::t)=lenOf pr t+1:=by simp [lenOf,ha]
   rw[e] at h
   match i with
   | 0=>exact ha
   |i+1=>exact ih i (by omega)
  ·have e:lenOf pr (a::t)=0:=by simp [lenOf,ha]
   omega
theorem F8 (b:UInt8) (h:ay b=true):aU b=true:=by unfold aU;rw[h];simp
theorem F9 (r:List UInt8):lenOf ay r<=lenOf aU r:=by
 rcases Nat.lt_or_ge (lenOf aU r) (lenOf ay r) with h |h
 ·have hl:lenOf aU r<r.length:=Nat.lt_of_lt_of_le h (fj _ _);have h1:=rh aU r hl;have h2:=wL ay r _ h;rw[F8 _ h2] at h1
  cases h1
 ·exact h
theorem Ga (r:List UInt8) (h:lenOf ay r=lenOf aU r):bG (r.getD (lenOf ay r) 0)=false:=by
 rcases Nat.lt_or_ge (lenOf aU r) r.length with hl |hl
 ·have:=rh aU r hl;rw[h];simp [aU] at this;exact this.1
 ·rw[List.getD_eq_getElem?_getD,List.getElem?_eq_none (by omega)]
  decide
theorem Gb (r:List UInt8) (h:lenOf ay r<lenOf aU r):bG (r.getD (lenOf ay r) 0)=true:=by
 have h1:=wL aU r _ h;have h2:=rh ay r (Nat.lt_of_lt_of_le h (fj _ _));unfold aU at h1;rw[h2,Bool.or_false] at h1;exact h1
def fU (a:Nat) (ds:List UInt8):Nat:=ds.foldl (fun n d=>10*n+(d.toNat-48)) a
theorem Gc (ds:List UInt8):∀ a,a*10 ^ ds.length<=fU a ds:=by
 induction ds with
 |nil=>intro a;simp [fU]
 |cons d t ih=>
  intro a;have h:=ih (10*a+(d.toNat-48));have e:fU a (d::t)=fU (10*a+(d.toNat-48)) t:=rfl;rw[e,List.length_cons,Nat.pow_succ];have h2:a*(10 ^ t.length*10)<=(10*a+(d.toNat-48))*10 ^ t.length:=by
   rw[Nat.add_mul,Nat.mul_comm (10 ^ t.length) 10,<- Nat.mul_assoc,Nat.mul_comm a 10];omega
  omega
theorem Ge (ds:List UInt8):∀ a,(∀ d∈ds,ay d=true)->fU a ds<(a+1)*10 ^ ds.length:=by
 induction ds with
 |nil=>intro a _;simp [fU]
 |cons d t ih=>
  intro a hall;have h:=ih (10*a+(d.toNat-48)) (fun x hx=>hall x (by simp [hx]));have hd:ay d=true:=hall d (by simp);simp only[ay,bF,Bool.and_eq_true,decide_eq_true_eq] at hd;have e:fU a (d::t)=fU (10*a+(d.toNat-48)) t:=rfl;rw[e,List.length_cons,Nat.pow_succ];have h2:(10*a+(d.toNat-48)+1)*10 ^ t.length<=(a+1)*(10 ^ t.length*10):=by
   rw[Nat.mul_comm (10 ^ t.length) 10,<- Nat.mul_assoc];exact Nat.mul_le_mul_right _ (by omega)
  omega
theorem Gf (r:List UInt8) (n:Nat) (h0:49<=(r.headD 0).toNat) (hn:10<n) (hr:n<=r.length):2147483647<val (r.take n):=by
 match r,n,hn with
 | [],n+1,hn=>simp at hr
 |d::t,n+1,hn=>
  have e:val ((d::t).take (n+1))=fU (10*0+(d.toNat-48)) (t.take n):=rfl;rw[e];have h1:=Gc (t.take n) (10*0+(d.toNat-48));have hd:49<=d.toNat:=h0;have hl:(t.take n).length=n:=by rw[List.length_take];simp at hr;omega
  rw[hl] at h1;have h2:10 ^ 10<=10 ^ n:=Nat.pow_le_pow_right (by decide) (by omega);have h3:1*10 ^ n<=(10*0+(d.toNat-48))*10 ^ n:=Nat.mul_le_mul_right _ (by omega);have h4:(10:Nat) ^ 10=10000000000:=by decide
  omega
theorem Gg (r:List UInt8) (hd:ay (r.headD 0)=true) :
 cq r=if 10<lenOf aU r ∨ (1<lenOf aU r/\r.headD 0=48) ∨ lenOf ay r<lenOf aU r ∨ 2147483647<val (r.take (lenOf aU r)) then .error 3
  else .ok (2,lenOf aU r,(val (r.take (lenOf aU r)):Int)):=by
 have hle:=F9 r;unfold cq
 by_cases hlt:lenOf ay r<lenOf aU r
 ·rw[if_pos (.inr (.inr (Gb r hlt))),if_pos (.inr (.inr (.inl hlt)))]
 ·have he:lenOf ay r=lenOf aU r:=by omega
  have hls:=Ga r he;rw[he] at hls ⊢
  by_cases hz:1<lenOf aU r/\r.headD 0=48
  ·rw[if_pos (.inr (.inl hz)),if_pos (.inr (.inl hz))]
  ·by_cases hv:2147483647<val (r.take (lenOf aU r))
   ·rw[if_pos (.inl hv),if_pos (.inr (.inr (.inr hv)))]
   ·rw[if_neg (fun h=>h.elim hv (fun h=>h.elim hz (fun h=>by rw[hls] at h;cases h)))];rw[if_neg];rintro (h |h |h |h)
    ·have h49:49<=(r.headD 0).toNat:=by
      simp only[ay,bF,Bool.and_eq_true,decide_eq_true_eq] at hd;have:(r.headD 0).toNat≠48:=fun e=>hz ⟨by omega,UInt8.toNat_inj.1 e⟩
      omega
     exact hv (Gf r _ h49 h (fj _ _))
    ·exact hz h
    ·omega
    ·exact hv h
theorem Gh (pr:UInt8->Bool):∀ (r:List UInt8) (d:Nat),lenOf pr (r.take d)=min (lenOf pr r) d:=by
 intro r
 induction r with
 |nil=>intro d;simp [lenOf]
 |cons a r ih=>
  intro d
  match d with
  | 0=>simp [lenOf]
  |d+1=>
   have:=ih d;unfold lenOf at *;rw[List.take_succ_cons,List.takeWhile_cons,List.takeWhile_cons]
   by_cases ha:pr a=true
   ·rw[if_pos ha,if_pos ha,List.length_cons,List.length_cons,this];omega
   ·rw[if_neg ha,if_neg ha];simp
theorem Gi (r l:List UInt8) (d:Nat) (hd:ay (r.headD 0)=true) (hlen:lenOf aU r=d) (hl:r.take d=l) :
 cq r=if 10<d ∨ (1<d/\r.headD 0=48) ∨ lenOf ay l<d ∨ 2147483647<val l then .error 3 else .ok (2,d,(val l:Int)):=by
 rw[Gg r hd,hlen,hl,<- hl,Gh];have e:(min (lenOf ay r) d<d)=(lenOf ay r<d):=propext ⟨fun h=>by omega,fun h=>by omega⟩;simp only[e]
theorem Gj (l:List UInt8) (h:∀ b∈l,ay b=true) (hl:l.length<=10):val l<10000000000:=by
 have h1:=Ge l 0 h;have h2:10 ^ l.length<=10 ^ 10:=Nat.pow_le_pow_right (by decide) hl;have h3:(10:Nat) ^ 10=10000000000:=by decide
 have e:fU 0 l=val l:=rfl;omega
theorem Run.take {T:ByteArray} {k:Nat} (h:Run ay T 0 k):∀ b∈T.data.toList.take k,ay b=true:=by
 intro b hb;obtain ⟨j,hj,rfl⟩:=List.getElem_of_mem hb;rw[List.length_take] at hj;have:=h.2.2 j (by omega) (by omega);rw[List.getD_eq_getElem?_getD,List.getElem?_eq_getElem (by omega)] at this;rw[List.getElem_take];exact this
theorem Run.few {T:ByteArray} {k:Nat} (h:Run ay T 0 k) (hk:k<=10):vl T 0 k<10000000000:=by
 unfold vl;rw[List.drop_zero];exact Gj _ (by have:=h.take;rw[Nat.sub_zero];exact this) (by rw[List.length_take];omega)
theorem Run.whole {T:ByteArray} {k:Nat} (h:Run ay T 0 k) (hk:T.size<=k):lenOf ay T.data.toList=k:=by
 have:=h.len (fun hx=>absurd hx (by omega));rw[List.drop_zero,Nat.sub_zero] at this;exact this
theorem Run.val_whole {T:ByteArray} {k:Nat} (_:Run ay T 0 k) (hk:T.size<=k):vl T 0 k=val T.data.toList:=by
 have hl:T.data.toList.length=T.size:=Array.length_toList;unfold vl;rw[List.drop_zero,Nat.sub_zero,List.take_of_length_le (by omega)]
theorem Run.part {T:ByteArray} {k d:Nat} (h:Run ay T 0 k) (hk:k<T.size) (hb:ay T[k]=false) (hd:lenOf ay T.data.toList=d):d=k:=by
 have:=h.len (fun hx=>by rw[dF T k hx];exact hb);rw[List.drop_zero,Nat.sub_zero] at this;omega
def ofL (l:List UInt8):ByteArray:=⟨l.toArray⟩
def df:Nat->List UInt8->Nat->List Tok->Except (Nat × Int) (List Tok)
 | 0,_,_,acc=>.ok acc
 |f+1,r,p,acc=>
  if 0<r.length then
   if cy (r.headD 0) then df f (r.drop 1) (p+1) acc
   else match bb r with
    | .error e=>.error (p,e)
    | .ok (k,n,m)=>df f (r.drop n) (p+n) (acc++[⟨k,ofL (r.take n),m,p⟩])
  else .ok acc
def eJ (r:List UInt8) (p:Nat) (acc:List Tok):Except (Nat × Int) (List Tok):=df r.length r p acc
theorem wM:∀ (f g:Nat) (r:List UInt8) (p:Nat) (acc:List Tok),r.length<=f->r.length<=g->df f r p acc=df g r p acc:=by
 intro f
 induction f with
 |zero=>
  intro g r p acc hf hg;have h0:¬ 0<r.length:=by omega
  match g with
  | 0=>rfl
  |g+1=>rw[df,df,if_neg h0]
 |succ f ih=>
  intro g r p acc hf hg
  by_cases h0:0<r.length
  ·match g with
   | 0=>omega
   |g+1=>
    rw[df,df,if_pos h0,if_pos h0]
    by_cases hgp:cy (r.headD 0)=true
    ·rw[if_pos hgp,if_pos hgp];exact ih g _ _ _ (by rw[List.length_drop];omega) (by rw[List.length_drop];omega)
    ·rw[if_neg hgp,if_neg hgp]
     rcases hE:bb r with x |⟨k,n,m⟩
     ·rfl
     ·have:=(gr h0 hE).1;exact ih g _ _ _ (by rw[List.length_drop];omega) (by rw[List.length_drop];omega)
  ·match g with
   | 0=>rw[df,df,if_neg h0]
   |g+1=>rw[df,df,if_neg h0,if_neg h0]
theorem Gk {r:List UInt8} (h0:0<r.length) (hg:cy (r.headD 0)=true) (p:Nat) (acc:List Tok):eJ r p acc=eJ (r.drop 1) (p+1) acc:=by
 unfold eJ;obtain ⟨n,hn⟩:∃ n,r.length=n+1:=⟨r.length-1,by omega⟩;rw[hn,df,if_pos (by omega),if_pos hg];exact wM _ _ _ _ _ (by rw[List.length_drop];omega) (Nat.le_refl _)
theorem Gl {r:List UInt8} (h0:0<r.length) (hg:cy (r.headD 0)=false) {k m:Int} {n:Nat} (hE:bb r = .ok (k,n,m)) (p:Nat) (acc:List Tok) :
 eJ r p acc=eJ (r.drop n) (p+n) (acc++[⟨k,ofL (r.take n),m,p⟩]):=by
 unfold eJ;obtain ⟨l,hl⟩:∃ l,r.length=l+1:=⟨r.length-1,by omega⟩;have:=(gr h0 hE).1;rw[hl,df,if_pos (by omega),if_neg (by rw[hg];decide),hE];exact wM _ _ _ _ _ (by rw[List.length_drop];omega) (Nat.le_refl _)
theorem Gm (s:ByteArray) (p n:Nat):s.extract p (p+n)=ofL ((s.data.toList.drop p).take n):=by
 have h:=Lib.extract_data s p (p+n);rw[show p+n-p=n from by omega] at h;unfold ofL;rw[<- h]
theorem Gn (s:ByteArray):∀ (f p:Nat) (acc:List Tok),p<=s.size->bI s f p acc=df f (s.data.toList.drop p) p acc:=by
 intro f;have hl:s.data.toList.length=s.size:=by simp
 induction f with
 |zero=>intro p acc _;rfl
 |succ f ih=>
  intro p acc hp;rw[bI,df];have hlen:(s.data.toList.drop p).length=s.size-p:=by rw[List.length_drop,hl]
  by_cases hlt:p<s.size
  ·have hl2:0<(s.data.toList.drop p).length:=by omega
   rw[if_pos hlt,if_pos hl2,ke]
   by_cases hg:cy (s.data.toList.getD p 0)=true
   ·rw[if_pos hg,if_pos hg,List.drop_drop];exact ih (p+1) acc (by omega)
   ·rw[if_neg hg,if_neg hg]
    rcases hE:bb (s.data.toList.drop p) with x |⟨k,n,m⟩
    ·rfl
    ·have h2:=(gr (by omega) hE).2.1;show bI s f (p+n) _=df f ((s.data.toList.drop p).drop n) (p+n) _;rw[List.drop_drop,Gm];exact ih (p+n) _ (by omega)
  ·have hl2:¬ 0<(s.data.toList.drop p).length:=by omega
   rw[if_neg hlt,if_neg hl2]
def lexF (l:List UInt8):List Tok × Nat × Int:=match eJ l 0 [] with
 | .error (p,e)=>([],p,e)
 | .ok acc=>if 2000<acc.length then ([],l.length,4) else (acc,0,0)
theorem Gp (s:ByteArray):ai s=lexF s.data.toList:=by
 have hl:s.data.toList.length=s.size:=by simp
 unfold ai lexF eJ;rw[Gn s s.size 0 [] (by omega),hl];rfl
theorem wN {b:UInt8} (h:cy b=true):b=32 ∨ b=10:=by
 simp only[cy,hH,Bool.or_eq_true,beq_iff_eq] at h
 rcases h with h |h
 ·exact .inl (UInt8.toNat_inj.1 (by show b.toNat=32;omega))
 ·exact .inr (UInt8.toNat_inj.1 (by show b.toNat=10;omega))
theorem wO (pr:UInt8->Bool) (t:List UInt8) (ht:t=[] ∨ pr (t.headD 0)=false):∀ r:List UInt8,lenOf pr (r++t)=lenOf pr r:=by
 intro r
 induction r with
 |nil=>
  rcases ht with rfl |h
  ·rfl
  ·match t with
   | []=>rfl
   |b::t=>
    have h:pr b=false:=h;simp [lenOf,h]
 |cons a r ih=>
  have e1:a::r++t=a::(r++t):=rfl;rw[e1];unfold lenOf at *;rw[List.takeWhile_cons,List.takeWhile_cons]
  by_cases ha:pr a=true
  ·rw[if_pos ha,if_pos ha,List.length_cons,List.length_cons,ih]
  ·rw[if_neg ha,if_neg ha]
theorem mb {r t:List UInt8} (h0:0<r.length):(r++t).headD 0=r.headD 0:=by
 match r,h0 with
 |a::r,_=>rfl
end Go.Proofs.YtbhbjhejkamlnaaGreat
namespace Go.Proofs.YtbhbjhejkamlnaaGreat.Sx
inductive K |int (k:IntKind) |bool |str |slice (e:TypeId) |other
def wP:List (Nat × List K)->Nat->List K
 | [],_=>[]
 |(j,x)::r,k=>if Nat.beq j k then x else wP r k
def eks (t:TypeId):List K:=wP [(24,[.int .i64,.int .i64,.str,.slice 24]),
 (31,[.int .i64,.str,.str,.int .i64,.int .i64,.str,.slice 24,.int .i64,.int .i64,.int .i64,.str,.slice 24,.int .i64,.int .i64,.str,.slice 24,.slice 31,.slice 31,.slice 119]),
 (119,[.str,.str,.slice 31]),
 (9,[.str]),
 (34,[.str,.slice 9,.slice 31]),
 (62,[.str,.int .i64,.int .i64,.str,.str,.slice 9]),
 (66,[.str,.slice 68]),
 (101,[.str,.int .i64,.int .i64,.str,.str,.slice 9]),
 (106,[.str,.slice 110]),
 (72,[.str,.slice 9,.slice 80]),
 (68,[.int .i64,.str,.int .i64]),
 (80,[.int .i64,.str,.str,.int .i64,.int .i64,.str,.slice 75,.int .i64,.int .i64,.int .i64,.str,.slice 75,.int .i64,.int .i64,.str,.slice 75,.slice 80,.slice 80,.slice 141]),
 (75,[.int .i64,.int .i64,.str,.slice 75]),
 (141,[.str,.str,.slice 80]),
 (124,[.int .i64,.str,.int .i64,.int .i64]),
 (132,[.int .i64,.str,.int .i64,.int .i64]),
 (110,[.int .i64,.str,.int .i64]),
 (28,[.slice 31]),
 (5,[.int .u8])] t
noncomputable def PG:Program:=Tryz.prog
def Gq (_:Nat) (_:Array Value):Prop:=False
def Gr:List (Nat × Nat):=[]
end Go.Proofs.YtbhbjhejkamlnaaGreat.Sx
namespace Go.Proofs.YtbhbjhejkamlnaaGreat.Sx
open Go.RowKit
inductive SI |lit (n:Int) |sym (n:Int)
def SI.v:SI->Int | .lit n=>n | .sym n=>n
inductive SB |lit (b:Bool) |sym (b:Bool)
def SB.v:SB->Bool | .lit b=>b | .sym b=>b
inductive SN |lit (n:Nat) |sym (n:Nat)
def SN.v:SN->Nat | .lit n=>n | .sym n=>n
theorem SI.lv (n:Int):(SI.lit n).v=n:=rfl
theorem SI.sv (n:Int):(SI.sym n).v=n:=rfl
theorem SN.lv (n:Nat):(SN.lit n).v=n:=rfl
theorem SN.sv (n:Nat):(SN.sym n).v=n:=rfl
inductive SO |lit (n:Nat) |sym (l s:Nat)
def SO.v:SO->Nat | .lit n=>n | .sym l s=>l+s
theorem SO.lv (n:Nat):(SO.lit n).v=n:=rfl
inductive D |i (n:Int) |b (b:Bool) |s (s:ByteArray) |l (rows:List (List D))
def D.toI:D->Int | .i x=>x |_=>0
def D.toB:D->Bool | .b x=>x |_=>false
def D.toS:D->ByteArray | .s x=>x |_=>ByteArray.empty
def D.rows:D->List (List D) | .l r=>r |_=>[]
def D.len (d:D):Nat:=d.rows.length
def D.el (d:D) (i j:Nat):D:=(d.rows.getD i []).getD j (.i 0)
def D.sub (d:D) (l h:Nat):D:=.l ((d.rows.take h).drop l)
theorem D.sub_len (d:D) {l h:Nat} (hh:h<=d.len):(d.sub l h).len=h-l:=by
 have h1:h<=d.rows.length:=hh;show ((d.rows.take h).drop l).length=h-l;rw[List.length_drop,List.length_take];omega
theorem D.sub_el (d:D) {l h i:Nat} (hi:i<h-l) (j:Nat):(d.sub l h).el i j=d.el (l+i) j:=by
 have e1:(d.sub l h).rows=(d.rows.take h).drop l:=rfl;unfold D.el;rw[e1,List.getD_eq_getElem?_getD (l:=List.drop l _),List.getElem?_drop,List.getElem?_take_of_lt (by omega),<- List.getD_eq_getElem?_getD]
inductive SC
 |int (k:IntKind) (n:SI)
 |bool (b:SB)
 |ptr (id:Nat) (o:SO)
 |slice (id:Nat) (o:SO) (len:SN)
 |nils
 |raw (v:Value)
 |rows (e:TypeId) (d:D)
 |fp (e:TypeId) (d:D) (i:Nat) (j:Nat)
 |osl (e:TypeId) (id:Nat) (lo n:SN)
 |optr (e:TypeId) (id:Nat) (i:Nat) (j:Nat)
 |fn (ag:Bool) (e:TypeId) (p:List D->Bool) (ok:List D->Prop)
 |bm (g:FuncId) (id:Nat)
structure Map where
 m:Nat->Option (Nat × Nat)
 cap:Nat->Nat
 fz:Nat->Option (Array Value)
 f0:Nat->Option (Array Value)
 mu:Nat->Bool
instance:CoeFun Map (fun _=>Nat->Option (Nat × Nat)):=⟨Map.m⟩
def Map.blk (ρ:Map) (id:Nat):Nat:=((ρ id).getD (0,0)).1
def Map.off (ρ:Map) (id:Nat):Nat:=((ρ id).getD (0,0)).2
def Map.at (ρ:Map) (id o:Nat):Addr:=⟨ρ.blk id,ρ.off id+o,none⟩
abbrev Fz:=Nat->Option (Array Value)
def Fz.cell (fz:Fz) (b o:Nat):Option Value:=match fz b with |some cs=>cs[o]? |none=>none
inductive TRel (fz:Fz):K->D->Value->Prop
 |int (k:IntKind) (d:D):TRel fz (.int k) d (.int k d.toI)
 |bool (d:D):TRel fz .bool d (.bool d.toB)
 |str (d:D):TRel fz .str d (.string d.toS)
 |nil (e:TypeId) (d:D):d.len=0->TRel fz (.slice e) d (.slice none 0 0)
 |empty (e:TypeId) (d:D) (a:Addr) (c:Nat):d.len=0->TRel fz (.slice e) d (.slice (some a) 0 c)
 |slice (e:TypeId) (d:D) (b o c:Nat) (u:Nat->Nat->Value):d.len<=c->(∀ i j,i<d.len->j<(eks e).length->fz.cell b (o+i*(eks e).length+j)=some (u i j)) ->
   (∀ i j k,i<d.len->(eks e)[j]? = some k->TRel fz k (d.el i j) (u i j))->TRel fz (.slice e) d (.slice (some ⟨b,o,none⟩) d.len c)
def FzLe (a b:Fz):Prop:=∀ i cs,a i=some cs->b i=some cs
def TabF (F:Fz):Prop:=∀ g cs,Gq g cs->F g=some cs
theorem TabF.mono {a b:Fz} (h:FzLe a b) (ha:TabF a):TabF b:=fun g cs hg=>h g cs (ha g cs hg)
theorem FzLe.cell {a b:Fz} (h:FzLe a b) {i o:Nat} {v:Value} (hv:Fz.cell a i o=some v):Fz.cell b i o=some v:=by
 unfold Fz.cell at hv ⊢
 split at hv
 ·rename_i cs hc;rw[h i cs hc];exact hv
 ·cases hv
theorem TRel.mono {a b:Fz} (h:FzLe a b) {k:K} {d:D} {v:Value} (hr:TRel a k d v):TRel b k d v:=by
 induction hr with
 |int k d=>exact .int k d
 |bool d=>exact .bool d
 |str d=>exact .str d
 |nil e d h0=>exact .nil e d h0
 |empty e d a c h0=>exact .empty e d a c h0
 |slice e d b o c u hc hu _ ih=>exact .slice e d b o c u hc (fun i j hi hj=>h.cell (hu i j hi hj)) ih
def wQ (fz:Fz) (ag:Bool) (e:TypeId) (d:List D) (x:Value):Prop:=match ag with
 |false=>∃ k,eks e=[k]/\TRel fz k (d.getD 0 (.i 0)) x
 |true=>∃ cs:List Value,x = .agg cs.toArray/\cs.length=(eks e).length/\∀ (j:Nat) k,(eks e)[j]? = some k->∃ u,cs[j]? = some u/\TRel fz k (d.getD j (.i 0)) u
def FnQ (fz:Fz) (ag:Bool) (e:TypeId) (p:List D->Bool) (ok:List D->Prop) (v:Value):Prop:=
 ∃ g cap,v = .func (.func g) #[] cap/\(∀ (args:Array Value) (w:World),(callFunc g args).run PG w = .ok (.enter g args) w) /\
   ∀ (w:World) (fz':Fz) (d:List D) (x:Value),FzLe fz fz'->(∀ b cs,fz' b=some cs->∃ T z,w.heap[b]? = some (.cells cs T z))->wQ fz' ag e d x->ok d ->
     Calls PG g (#[x]++cap) w fun en w'=>en = .returned (.bool (p d))/\Below w.heap.size w w'
def aJ (ρ:Map):SC->Value->Prop
 | .int k n,v=>v = .int k n.v
 | .bool b,v=>v = .bool b.v
 | .ptr id o,v=>(ρ id).isSome=true/\v = .pointer (some (ρ.at id o.v))
 | .slice id o len,v=>∃ A c,v = .slice A len.v c/\len.v<=c/\(((ρ id).isSome=true/\A=some (ρ.at id o.v)) ∨ (len.v=0/\c=0))
 | .nils,v=>v = .slice none 0 0
 | .raw x,v=>v=x
 | .rows e d,v=>TRel ρ.fz (.slice e) d v
 | .fp e d i j,v=>∃ b o,v = .pointer (some ⟨b,o+j,none⟩)/\∀ j' k,(eks e)[j']? = some k->∃ u,Fz.cell ρ.fz b (o+j')=some u/\TRel ρ.fz k (d.el i j') u
 | .osl e id lo n,v=>∃ A c,v = .slice A n.v c/\n.v<=c/\((c=0/\∀ a,A=some a->a.spot=none) ∨ (A=some ⟨ρ.blk id,lo.v*(eks e).length,none⟩/\lo.v+c<=ρ.cap id/\(ρ id).isSome=true))
 | .optr e id i j,v=>(ρ id).isSome=true/\v = .pointer (some ⟨ρ.blk id,i*(eks e).length+j,none⟩)
 | .fn ag e p ok,v=>∃ z,FzLe z ρ.fz/\FnQ z ag e p ok v
 | .bm g id,v=>(ρ id).isSome=true/\v = .func (.func g) #[.pointer (some (ρ.at id 0))] #[]
inductive Seg
 |c (x:SC)
 |ints (k:IntKind) (n:SN) (f:Nat->Int)
def Seg.cells:Seg->List SC
 | .c x=>[x]
 | .ints k n f=>(List.range n.v).map fun o=>.int k (.sym (f o))
def cellsOf (l:List Seg):List SC:=l.flatMap Seg.cells
def ax (ρ:Map) (l:List SC) (vs:List Value):Prop:=l.length=vs.length/\∀ (i:Nat) x v,l[i]? = some x->vs[i]? = some v->aJ ρ x v
inductive V1
 |sc (c:SC)
 |agg (l:List Seg)
def bL (ρ:Map):V1->Value->Prop
 | .sc c,v=>aJ ρ c v
 | .agg l,v=>∃ cs:Array Value,v = .agg cs/\ax ρ (cellsOf l) cs.toList
inductive SV
 |one (x:V1)
 |tup (l:List V1)
 |cond (g:List (Nat × Bool)) (x:V1)
 |junk
def Gd (tmps:Array Value) (g:List (Nat × Bool)):Prop:=∀ p∈g,tmps.getD p.1 undef = .bool p.2
def dg (ρ:Map):List V1->List Value->Prop
 | [],[]=>True
 |x::l,v::vs=>bL ρ x v/\dg ρ l vs
 |_,_=>False
def eK (ρ:Map) (tmps:Array Value):SV->Value->Prop
 | .one x,v=>bL ρ x v
 | .tup l,v=>∃ vs:Array Value,v = .tuple vs/\dg ρ l vs.toList
 | .cond g x,v=>(Gd tmps g->bL ρ x v)/\(¬ Gd tmps g->v=undef)
 | .junk,_=>True
inductive Ent
 |own (T:TypeId) (l:List Seg)
 |row (T:TypeId) (l:List Seg)
 |orow (e:TypeId) (d:D)
 |ro (l:List Seg)
 |gone
def Ent.isOwn:Ent->Bool | .own .. | .row .. | .orow ..=>true |_=>false
def fk (B:Nat) (ρ:Map) (b:Nat):Prop:=(B<=b ∨ ρ.mu b=true) /\ ρ.fz b=none
def fm (ρ:Map) (w:World) (b cap:Nat) (e:TypeId) (d:D):Prop:=∃ cs:Array Value,w.heap[b]? = some (.cells cs e (0,0))/\cs.size=cap*(eks e).length/\d.len<=cap /\
 ∀ i j k,i<d.len->(eks e)[j]? = some k->∃ u,cs[i*(eks e).length+j]? = some u/\TRel ρ.fz k (d.el i j) u
def c8 (B:Nat) (ρ:Map) (w:World) (id:Nat):Ent->Prop
 | .own T l=>(ρ id).isSome=true /\ ρ.off id=0/\fk B ρ (ρ.blk id)/\∃ vs:List Value,ax ρ (cellsOf l) vs/\w.heap[ρ.blk id]? = some (.cells vs.toArray T (0,0))
 | .row T l=>(ρ id).isSome=true /\ ρ.off id=0/\fk B ρ (ρ.blk id)/\∃ vs rest:List Value,ax ρ (cellsOf l) vs/\w.heap[ρ.blk id]? = some (.cells (vs++rest).toArray T (0,0))
 | .orow e d=>(ρ id=none/\d.len=0) ∨ ((ρ id).isSome=true /\ ρ.off id=0/\fk B ρ (ρ.blk id)/\fm ρ w (ρ.blk id) (ρ.cap id) e d)
 | .ro l=>(ρ id).isSome=true/\∃ vs:List Value,ax ρ (cellsOf l) vs/\∀ (o:Nat) v,vs[o]? = some v->Fz.cell ρ.fz (ρ.blk id) (ρ.off id+o)=some v
 | .gone=>True
abbrev ah:=List (Nat × Ent)
def ad {α:Type}:List (Nat × α)->Nat->Option α
 | [],_=>none
 |(j,x)::r,k=>if j==k then some x else ad r k
structure BelowM (B:Nat) (mu:Nat->Bool) (w w':World):Prop where
 os:w'.os=w.os
 tape:w'.tape=w.tape
 output:w'.output=w.output
 size:w.heap.size<=w'.heap.size
 block:∀ k,k<B->mu k=false->w'.heap[k]? = w.heap[k]?
theorem BelowM.refl (B:Nat) (mu:Nat->Bool) (w:World):BelowM B mu w w:=⟨rfl,rfl,rfl,Nat.le_refl _,fun _ _ _=>rfl⟩
theorem BelowM.trans {B:Nat} {mu:Nat->Bool} {a b c:World} (h:BelowM B mu a b) (k:BelowM B mu b c):BelowM B mu a c:=
 ⟨k.os.trans h.os,k.tape.trans h.tape,k.output.trans h.output,Nat.le_trans h.size k.size,fun i hi hm=>(k.block i hi hm).trans (h.block i hi hm)⟩
theorem BelowM.drew {B:Nat} {mu:Nat->Bool} {a b:World} (h:BelowM B mu a b):BelowM B mu a b.drew:=⟨h.os,h.tape,h.output,h.size,h.block⟩
def Frozen (ρ:Map) (w:World):Prop:=∀ b cs,ρ.fz b=some cs->∃ T z,w.heap[b]? = some (.cells cs T z)
theorem Frozen.cell {ρ:Map} {w:World} (h:Frozen ρ w) {b o:Nat} {v:Value} (hv:Fz.cell ρ.fz b o=some v):w.cell? ⟨b,o,none⟩=some v:=by
 unfold Fz.cell at hv
 split at hv
 ·rename_i cs hc;obtain ⟨T,z,hh⟩:=h b cs hc;simp only[World.cell?,hh]
  simpa using hv
 ·cases hv
structure W0 where
 w:World
 f0:Fz
 mu:Nat->Bool
 anc:Option (Nat × Nat):=none
abbrev W0.heap (x:W0):Array Obj:=x.w.heap
structure WH (w0:W0) (ρ:Map) (h:ah) (w:World):Prop where
 below:BelowM w0.heap.size ρ.mu w0.w w
 ents:∀ id e,ad h id=some e->c8 w0.heap.size ρ w id e
 apart:∀ i j e f,ad h i=some e->ad h j=some f->e.isOwn=true->f.isOwn=true->i≠j->(ρ i).isSome=true->(ρ j).isSome=true -> ρ.blk i≠ρ.blk j
 froz:Frozen ρ w
 sub:FzLe ρ.f0 ρ.fz
 mu0:ρ.mu=w0.mu
 f00:ρ.f0=w0.f0
 old:∀ b cs,ρ.fz b=some cs -> ρ.f0 b=some cs ∨ w0.heap.size<=b ∨ ρ.mu b=true
 anc:∀ p,w0.anc=some p -> ρ 0=some p
 tab:TabF w0.f0
abbrev aT:=List (Nat × SV)
structure AH (ρ:Map) (nt:Nat) (tm:aT) (a:Act):Prop where
 size:a.tmps.size=nt
 defers:a.defers=[]
 slots:∀ t x,ad tm t=some x->eK ρ a.tmps x (a.tmps.getD t undef)
def All:List Prop->Prop
 | []=>True
 |p::r=>p/\All r
theorem all_append {a b:List Prop}:All (a++b)↔All a/\All b:=by
 induction a with
 |nil=>simp [All]
 |cons p r ih=>simp [All,ih,and_assoc]
def gv:List Seg->Nat->Option (SC × List Prop)
 | [],_=>none
 | .c x::r,o=>match o with | 0=>some (x,[]) |o+1=>gv r o
 | .ints k (.lit n) f::r,o=>if Nat.blt o n then some (.int k (.sym (f o)),[]) else gv r (o-n)
 | .ints k (.sym n) f::_,o=>some (.int k (.sym (f o)),[o<n])
def gy:List Seg->Nat->Nat->Option (SC × List Prop)
 | [],_,_=>none
 | .c _::r,o,s=>match o with | 0=>none |o+1=>gy r o s
 | .ints k (.lit n) f::r,o,s=>if Nat.blt o n then some (.int k (.sym (f (o+s))),[o+s<n]) else gy r (o-n) s
 | .ints k (.sym n) f::_,o,s=>some (.int k (.sym (f (o+s))),[o+s<n])
def og (l:List Seg):SO->Option (SC × List Prop)
 | .lit n=>gv l n
 | .sym o s=>gy l o s
theorem cA {k:IntKind} {n:SN} {f:Nat->Int} {o:Nat} (h:o<n.v):(Seg.ints k n f).cells[o]? = some (.int k (.sym (f o))):=by
 simp [Seg.cells,List.getElem?_range h]
theorem bc {k:IntKind} {n:SN} {f:Nat->Int}:(Seg.ints k n f).cells.length=n.v:=by simp [Seg.cells]
theorem aM (s:Seg) (l:List Seg):cellsOf (s::l)=s.cells++cellsOf l:=by simp [cellsOf]
theorem ri:∀ (l:List Seg) (o:Nat) x ps,gv l o=some (x,ps)->All ps->(cellsOf l)[o]? = some x
 | [],_,_,_,h,_=>by simp [gv] at h
 | .c y::r,o,x,ps,h,hp=>by
   rw[aM]
   cases o with
   |zero=>simp [gv] at h;simp [Seg.cells,h.1]
   |succ o=>simp only[gv] at h;have:=ri r o x ps h hp;simpa [Seg.cells] using this
 | .ints k (.lit n) f::r,o,x,ps,h,hp=>by
   rw[aM];simp only[gv] at h
   split at h
   ·rename_i hlt;have hlt':o<n:=by simpa [Nat.blt_eq] using hlt
    obtain ⟨rfl,rfl⟩:=by simpa using h
    rw[List.getElem?_append_left (by rw[bc];exact hlt')];exact cA hlt'
   ·rename_i hlt;have hge:n<=o:=by
     have:¬ o<n:=by simpa [Nat.blt_eq] using hlt
     omega
    rw[List.getElem?_append_right (by rw[bc];exact hge),bc];exact ri r _ x ps h hp
 | .ints k (.sym n) f::r,o,x,ps,h,hp=>by
   rw[aM];simp only[gv,Option.some.injEq,Prod.mk.injEq] at h;obtain ⟨rfl,rfl⟩:=h;have hlt:o<n:=hp.1;rw[List.getElem?_append_left (by rw[bc];exact hlt)];exact cA hlt
theorem rq:∀ (l:List Seg) (o s:Nat) x ps,gy l o s=some (x,ps)->All ps->(cellsOf l)[o+s]? = some x
 | [],_,_,_,_,h,_=>by simp [gy] at h
 | .c y::r,o,s,x,ps,h,hp=>by
   rw[aM]
   cases o with
   |zero=>simp [gy] at h
   |succ o=>
    simp only[gy] at h;have:=rq r o s x ps h hp;have e:o+1+s=(o+s)+1:=by omega
    rw[e]
    simpa [Seg.cells] using this
 | .ints k (.lit n) f::r,o,s,x,ps,h,hp=>by
   rw[aM];simp only[gy] at h
   split at h
   ·simp only[Option.some.injEq,Prod.mk.injEq] at h;obtain ⟨rfl,rfl⟩:=h;have hlt:o+s<n:=hp.1;rw[List.getElem?_append_left (by rw[bc];exact hlt)];exact cA hlt
   ·rename_i hlt;have hge:n<=o:=by
     have:¬ o<n:=by simpa [Nat.blt_eq] using hlt
     omega
    have hge2:n<=o+s:=by omega
    rw[List.getElem?_append_right (by rw[bc];exact hge2),bc];have e:o+s-n=(o-n)+s:=by omega
    show (cellsOf r)[o+s-n]? = _;rw[e];exact rq r _ s x ps h hp
 | .ints k (.sym n) f::r,o,s,x,ps,h,hp=>by
   rw[aM];simp only[gy,Option.some.injEq,Prod.mk.injEq] at h;obtain ⟨rfl,rfl⟩:=h;have hlt:o+s<n:=hp.1;rw[List.getElem?_append_left (by rw[bc];exact hlt)];exact cA hlt
theorem rv {l:List Seg} {o:SO} {x:SC} {ps:List Prop} (h:og l o=some (x,ps)) (hp:All ps):(cellsOf l)[o.v]? = some x:=by
 cases o with
 |lit n=>exact ri l n x ps h hp
 |sym n s=>exact rq l n s x ps h hp
def SC.n:SC->SC
 | .int k n=>.int k (.sym n.v)
 | .bool b=>.bool (.sym b.v)
 |x=>x
theorem wS {ρ:Map} {x:SC} {v:Value}:aJ ρ x.n v↔aJ ρ x v:=by cases x<;>simp [SC.n,aJ,SI.v,SB.v]
def bn (l:List Seg):List SC:=(cellsOf l).map SC.n
theorem wT (l:List Seg):(bn l).length=(cellsOf l).length:=by simp [bn]
theorem mc {ρ:Map} {l:List SC} {vs:List Value}:ax ρ (l.map SC.n) vs↔ax ρ l vs:=by
 constructor
 ·rintro ⟨h1,h2⟩;refine ⟨by simpa using h1,fun i x v hx hv=>wS.1 (h2 i x.n v (by simp [hx]) hv)⟩
 ·rintro ⟨h1,h2⟩;refine ⟨by simpa using h1,fun i x v hx hv=>?_⟩;rw[List.getElem?_map] at hx
  cases hl:l[i]? with
  |none=>rw[hl] at hx;cases hx
  |some y=>
   rw[hl] at hx;obtain rfl:y.n=x:=by simpa using hx
   exact wS.2 (h2 i y v hl hv)
def bt {α:Type} (l:List α) (o:Nat) (m:List α):List α:=l.take o++m++l.drop (o+m.length)
theorem oh {α:Type} {l m:List α} {o:Nat} (h:o+m.length<=l.length):(bt l o m).length=l.length:=by
 simp [bt];omega
theorem ia {α:Type} {l m:List α} {o:Nat} (h:o+m.length<=l.length) (j:Nat):(bt l o m)[j]? = if o<=j/\j<o+m.length then m[j-o]? else l[j]?:=by
 unfold bt
 by_cases h1:j<o
 ·rw[if_neg (by omega),List.append_assoc,List.getElem?_append_left (by simp;omega),List.getElem?_take_of_lt h1]
 ·by_cases h2:j<o+m.length
  ·rw[if_pos (by omega),List.append_assoc,List.getElem?_append_right (by simp;omega)];have e:(l.take o).length=o:=by simp;omega
   rw[e,List.getElem?_append_left (by omega)]
  ·rw[if_neg (by omega),List.getElem?_append_right (by simp;omega)];have e:(l.take o++m).length=o+m.length:=by simp;omega
   rw[e,List.getElem?_drop]
   congr 1;omega
def md (f:Nat->Int) (o n:Nat) (g:Nat->Int):Nat->Int:=fun j=>if Nat.ble o j&&Nat.blt j (o+n) then g (j-o) else f j
def wU (k:IntKind):SC->Option Int
 | .int k' n=>if k=k' then some n.v else none
 |_=>none
def kg (k:IntKind) (m:Nat) (f:Nat->Int) (at_:Nat) (exact:Bool):Seg->Option ((Nat->Int) × List Prop)
 | .c x=>match wU k x with |some n=>some (md f at_ 1 (fun _=>n),[at_+1<=m]) |none=>none
 | .ints k' (.lit n) g=>if k=k' then (if exact&&Nat.beq n m then some (g,[]) else some (md f at_ n g,[at_+n<=m])) else none
 | .ints _ (.sym _) _=>none
def wrL:List Seg->Nat->Seg->Option (List Seg × List Prop)
 | [],_,_=>none
 | .c y::r,o,s=>match o with
   | 0=>match s with | .c x=>some (.c x::r,[]) |_=>none
   |o+1=>match wrL r o s with |some (r',ps)=>some (.c y::r',ps) |none=>none
 | .ints k (.lit n) f::r,o,s=>if Nat.blt o n then (match kg k n f o (Nat.beq o 0) s with |some (f',ps)=>some (.ints k (.lit n) f'::r,ps) |none=>none)
   else match wrL r (o-n) s with |some (r',ps)=>some (.ints k (.lit n) f::r',ps) |none=>none
 | .ints k (.sym n) f::r,o,s=>match kg k n f o false s with |some (f',ps)=>some (.ints k (.sym n) f'::r,ps) |none=>none
def wrS:List Seg->Nat->Nat->Seg->Option (List Seg × List Prop)
 | [],_,_,_=>none
 | .c y::r,o,t,s=>match o with
   | 0=>none
   |o+1=>match wrS r o t s with |some (r',ps)=>some (.c y::r',ps) |none=>none
 | .ints k (.lit n) f::r,o,t,s=>if Nat.blt o n then (match kg k n f (o+t) false s with |some (f',ps)=>some (.ints k (.lit n) f'::r,ps) |none=>none)
   else match wrS r (o-n) t s with |some (r',ps)=>some (.ints k (.lit n) f::r',ps) |none=>none
 | .ints k (.sym n) f::r,o,t,s=>match kg k n f (o+t) false s with |some (f',ps)=>some (.ints k (.sym n) f'::r,ps) |none=>none
theorem eM {k:IntKind} {n:SN} {f:Nat->Int}:(Seg.ints k n f).cells.map SC.n=(List.range n.v).map fun o=>.int k (.sym (f o)):=by
 simp [Seg.cells,SC.n,SI.v]
theorem dt (s:Seg) (l:List Seg):bn (s::l)=s.cells.map SC.n++bn l:=by simp [bn,cellsOf]
theorem oi {k:IntKind} {m:Nat} {f f':Nat->Int} {o:Nat} {e:Bool} {s:Seg} {ps:List Prop} (he:e=true->o=0) (h:kg k m f o e s=some (f',ps)) (hp:All ps) :
 o+s.cells.length<=m/\(List.range m).map (fun j=>SC.int k (.sym (f' j)))=bt ((List.range m).map fun j=>SC.int k (.sym (f j))) o (s.cells.map SC.n):=by
 have key:∀ (n:Nat) (g:Nat->Int),s.cells.map SC.n=(List.range n).map (fun j=>SC.int k (.sym (g j)))->o+n<=m ->
  (List.range m).map (fun j=>SC.int k (.sym (md f o n g j)))=bt ((List.range m).map fun j=>SC.int k (.sym (f j))) o (s.cells.map SC.n):=by
  intro n g hs hle;rw[hs]
  apply List.ext_getElem?
  intro j;rw[ia (by simpa using hle)];simp only[List.length_map,List.length_range,List.getElem?_map]
  by_cases hj:j<m
  ·rw[List.getElem?_range hj]
   by_cases hc:o<=j/\j<o+n
   ·rw[if_pos hc,List.getElem?_range (by omega)];simp [md,Nat.ble_eq,Nat.blt_eq,hc.1,hc.2]
   ·rw[if_neg hc];simp only[Option.map_some,md];rw[if_neg];simp only[Bool.and_eq_true,Nat.ble_eq,Nat.blt_eq];exact hc
  ·rw[List.getElem?_eq_none (by simpa using hj)];rw[if_neg (by omega)];rfl
 unfold kg at h
 split at h
 ·rename_i x
  split at h
  ·rename_i n hn;obtain ⟨rfl,rfl⟩:=by simpa using h
   refine ⟨by simpa [Seg.cells] using hp.1,key 1 _ ?_ hp.1⟩
   cases x<;>simp [wU] at hn
   obtain ⟨rfl,rfl⟩:=hn;simp [Seg.cells,SC.n,List.range_succ]
  ·cases h
 ·rename_i k' n g
  split at h
  ·rename_i hk;subst hk
   split at h
   ·rename_i hb;obtain ⟨rfl,rfl⟩:=by simpa using h
    simp only[Bool.and_eq_true] at hb;have ho:=he hb.1;have hnm:n=m:=Nat.eq_of_beq_eq_true hb.2;subst ho hnm;refine ⟨by simp [Seg.cells,SN.v],?_⟩;rw[eM];simp [bt,SN.v]
   ·obtain ⟨rfl,rfl⟩:=by simpa using h
    refine ⟨by simpa [Seg.cells,SN.v] using hp.1,key n g (by rw[eM];rfl) hp.1⟩
  ·cases h
 ·cases h
theorem me {α:Type} {a b m:List α} {o:Nat} (h:o+m.length<=a.length):bt (a++b) o m=bt a o m++b:=by
 unfold bt;rw[List.take_append_of_le_length (by omega),List.drop_append_of_le_length h]
 simp
theorem ol {α:Type} {a b m:List α} {o:Nat}:bt (a++b) (a.length+o) m=a++bt b o m:=by
 unfold bt;simp [Nat.add_assoc,List.take_append,List.drop_append,List.take_of_length_le,List.drop_of_length_le]
theorem ry:∀ (l:List Seg) (o:Nat) (s:Seg) l' ps,wrL l o s=some (l',ps)->All ps->o+s.cells.length<=(bn l).length/\bn l'=bt (bn l) o (s.cells.map SC.n)
 | [],_,_,_,_,h,_=>by simp [wrL] at h
 | .c y::r,o,s,l',ps,h,hp=>by
   cases o with
   |zero=>
    cases s with
    |c x=>
     simp only[wrL,Option.some.injEq,Prod.mk.injEq] at h;obtain ⟨rfl,rfl⟩:=h;refine ⟨by simp [bn,cellsOf,Seg.cells],?_⟩;simp [bn,cellsOf,Seg.cells,bt]
    |ints=>simp [wrL] at h
   |succ o=>
    simp only[wrL] at h
    split at h
    ·rename_i r' ps' hr;obtain ⟨rfl,rfl⟩:=by simpa using h
     obtain ⟨h1,h2⟩:=ry r o s r' ps' hr hp;rw[dt,dt,h2];refine ⟨by rw[List.length_append];simp only[Seg.cells,List.map_cons,List.map_nil,List.length_cons,List.length_nil] at h1 ⊢;omega,?_⟩;have e:o+1=((Seg.c y).cells.map SC.n).length+o:=by simp [Seg.cells];omega
     rw[e,ol]
    ·cases h
 | .ints k (.lit n) f::r,o,s,l',ps,h,hp=>by
   simp only[wrL] at h
   split at h
   ·rename_i hlt
    split at h
    ·rename_i f' ps' hw;obtain ⟨rfl,rfl⟩:=by simpa using h
     obtain ⟨h1,h2⟩:=oi (by intro he;exact Nat.eq_of_beq_eq_true he) hw hp;rw[dt,dt,eM,eM];refine ⟨by simp [SN.v];omega,?_⟩;rw[me (by simpa [SN.v] using h1)];simp only[SN.v];rw[h2]
    ·cases h
   ·rename_i hlt;have hge:n<=o:=by
     have:¬ o<n:=by simpa [Nat.blt_eq] using hlt
     omega
    split at h
    ·rename_i r' ps' hr;obtain ⟨rfl,rfl⟩:=by simpa using h
     obtain ⟨h1,h2⟩:=ry r (o-n) s r' ps' hr hp;rw[dt,dt,h2,eM];refine ⟨by simp [SN.v];omega,?_⟩;have e:o=((List.range (SN.lit n).v).map fun o=>SC.int k (.sym (f o))).length+(o-n):=by simp [SN.v];omega
     rw[e,ol]
     congr 2
     simp [SN.v]
    ·cases h
 | .ints k (.sym n) f::r,o,s,l',ps,h,hp=>by
   simp only[wrL] at h
   split at h
   ·rename_i f' ps' hw;obtain ⟨rfl,rfl⟩:=by simpa using h
    obtain ⟨h1,h2⟩:=oi (by intro he;cases he) hw hp;rw[dt,dt,eM,eM];refine ⟨by simp [SN.v];omega,?_⟩;rw[me (by simpa [SN.v] using h1)];simp only[SN.v];rw[h2]
   ·cases h
theorem rz:∀ (l:List Seg) (o t:Nat) (s:Seg) l' ps,wrS l o t s=some (l',ps)->All ps->o+t+s.cells.length<=(bn l).length/\bn l'=bt (bn l) (o+t) (s.cells.map SC.n)
 | [],_,_,_,_,_,h,_=>by simp [wrS] at h
 | .c y::r,o,t,s,l',ps,h,hp=>by
   cases o with
   |zero=>simp [wrS] at h
   |succ o=>
    simp only[wrS] at h
    split at h
    ·rename_i r' ps' hr;obtain ⟨rfl,rfl⟩:=by simpa using h
     obtain ⟨h1,h2⟩:=rz r o t s r' ps' hr hp;rw[dt,dt,h2];refine ⟨by rw[List.length_append];simp only[Seg.cells,List.map_cons,List.map_nil,List.length_cons,List.length_nil] at h1 ⊢;omega,?_⟩;have e:o+1+t=((Seg.c y).cells.map SC.n).length+(o+t):=by simp [Seg.cells];omega
     rw[e,ol]
    ·cases h
 | .ints k (.lit n) f::r,o,t,s,l',ps,h,hp=>by
   simp only[wrS] at h
   split at h
   ·rename_i hlt
    split at h
    ·rename_i f' ps' hw;obtain ⟨rfl,rfl⟩:=by simpa using h
     obtain ⟨h1,h2⟩:=oi (by intro he;cases he) hw hp;rw[dt,dt,eM,eM];refine ⟨by simp [SN.v];omega,?_⟩;rw[me (by simpa [SN.v] using h1)];simp only[SN.v];rw[h2]
    ·cases h
   ·rename_i hlt;have hge:n<=o:=by
     have:¬ o<n:=by simpa [Nat.blt_eq] using hlt
     omega
    split at h
    ·rename_i r' ps' hr;obtain ⟨rfl,rfl⟩:=by simpa using h
     obtain ⟨h1,h2⟩:=rz r (o-n) t s r' ps' hr hp;rw[dt,dt,h2,eM];refine ⟨by simp [SN.v];omega,?_⟩;have e:o+t=((List.range (SN.lit n).v).map fun o=>SC.int k (.sym (f o))).length+(o-n+t):=by simp [SN.v];omega
     rw[e,ol]
    ·cases h
 | .ints k (.sym n) f::r,o,t,s,l',ps,h,hp=>by
   simp only[wrS] at h
   split at h
   ·rename_i f' ps' hw;obtain ⟨rfl,rfl⟩:=by simpa using h
    obtain ⟨h1,h2⟩:=oi (by intro he;cases he) hw hp;rw[dt,dt,eM,eM];refine ⟨by simp [SN.v];omega,?_⟩;rw[me (by simpa [SN.v] using h1)];simp only[SN.v];rw[h2]
   ·cases h
def wrC (l:List Seg):SO->Seg->Option (List Seg × List Prop)
 | .lit n,s=>wrL l n s
 | .sym o t,s=>wrS l o t s
theorem wW {l l':List Seg} {o:SO} {s:Seg} {ps:List Prop} (h:wrC l o s=some (l',ps)) (hp:All ps):o.v+s.cells.length<=(bn l).length/\bn l'=bt (bn l) o.v (s.cells.map SC.n):=by
 cases o with
 |lit n=>exact ry l n s l' ps h hp
 |sym a b=>exact rz l a b s l' ps h hp
inductive CK |b |i (k:IntKind) |s
def CK.fits:CK->Value->Prop
 | .b,v=>∃ x,v = .bool x
 | .i k,v=>∃ n,v = .int k n
 | .s,v=>∃ x,v = .string x
def Fit:List CK->List Value->Prop
 | [],[]=>True
 |c::r,v::vs=>c.fits v/\Fit r vs
 |_,_=>False
theorem Fit.len:∀ {ks:List CK} {vs:List Value},Fit ks vs->vs.length=ks.length
 | [],[],_=>rfl
 |_::_,_::_,h=>by simp [Fit.len h.2]
 | [],_::_,h=>h.elim
 |_::_,[],h=>h.elim
theorem Fit.split:∀ {a b:List CK} {vs:List Value},Fit (a++b) vs->Fit a (vs.take a.length)/\Fit b (vs.drop a.length)
 | [],b,vs,h=>⟨by simp [Fit],by simpa using h⟩
 |c::a,b,[],h=>h.elim
 |c::a,b,v::vs,h=>by
  obtain ⟨h1,h2⟩:=Fit.split (a:=a) (b:=b) h.2;exact ⟨⟨h.1,h1⟩,h2⟩
abbrev CKs:=List (CK × Nat)
def bB:CKs->List CK
 | []=>[]
 |(c,n)::r=>List.replicate n c++bB r
theorem rA:∀ a b:CKs,bB (a++b)=bB a++bB b
 | [],b=>rfl
 |(c,n)::a,b=>by simp [bB,rA a b]
def om (n:Nat):CKs->CKs
 | [(c,m)]=>[(c,n*m)]
 |l=>(List.replicate n l).flatten
theorem wX (l:CKs):∀ n,bB (List.replicate n l).flatten=(List.replicate n (bB l)).flatten
 | 0=>rfl
 |n+1=>by simp [List.replicate_succ,rA,wX l n]
theorem Gs (n:Nat) (l:CKs):bB (om n l)=(List.replicate n (bB l)).flatten:=by
 unfold om;split
 ·simp [bB]
 ·exact wX l n
def mf (f:TypeId->Option CKs):List Field->Nat->Option CKs
 | [],_=>some []
 |x::r,o=>match f x.type with
  | some a=>if !(x.name == "_") && Nat.beq x.offset o then (match mf f r (o + (bB a).length) with | some b=>some (a ++ b) | none=>none) else none
  |none=>none
def dZ (P:Program):Nat->TypeId->Option CKs
 | 0,_=>none
 |d+1,T=>match P.underlying T,P.info? T with
  |some .bool,some _=>some [(.b,1)]
  |some (.int k),some _=>some [(.i k,1)]
  |some .string,some _=>some [(.s,1)]
  |some (.struct fs),some i=>if P.stoodInHeld T then none else (match mf (dZ P d) fs.toList 0 with |some ks=>if Nat.beq i.size (bB ks).length then some ks else none |none=>none)
  |some (.array n e),some i=>(match dZ P d e,P.info? e with |some ks,some j=>if Nat.beq j.size (bB ks).length&&Nat.beq i.size (bB (om n ks)).length then some (om n ks) else none |_,_=>none)
  |_,_=>none
def dT (P:Program) (T:TypeId) (vs:List Value) (v:Value):Prop:=
 match P.underlying T with
 |some (.struct _) |some (.array _ _)=>v = .agg vs.toArray
 |_=>vs=[v]
theorem Gt {P:Program} {d:Nat} {T:TypeId} {ks:CKs} (h:dZ P d T=some ks):∃ D i,P.underlying T=some D/\P.info? T=some i/\((∃ fs,D = .struct fs) ∨ (∃ n e,D = .array n e)->i.size=(bB ks).length)/\(D = .bool ∨ (∃ k,D = .int k) ∨ D = .string->(bB ks).length=1)/\(D = .bool ∨ (∃ k,D = .int k) ∨ D = .string ∨ (∃ fs,D = .struct fs) ∨ (∃ n e,D = .array n e)):=by
 cases d with
 |zero=>cases h
 |succ d=>
  simp only[dZ] at h
  split at h
  ·rename_i i h1 h2;obtain rfl:=by simpa using h
   exact ⟨_,i,h1,h2,(by rintro (⟨_,hh⟩ |⟨_,_,hh⟩)<;>cases hh),fun _=>rfl,.inl rfl⟩
  ·rename_i k i h1 h2;obtain rfl:=by simpa using h
   exact ⟨_,i,h1,h2,(by rintro (⟨_,hh⟩ |⟨_,_,hh⟩)<;>cases hh),fun _=>rfl,.inr (.inl ⟨_,rfl⟩)⟩
  ·rename_i i h1 h2;obtain rfl:=by simpa using h
   exact ⟨_,i,h1,h2,(by rintro (⟨_,hh⟩ |⟨_,_,hh⟩)<;>cases hh),fun _=>rfl,.inr (.inr (.inl rfl))⟩
  ·rename_i fs i h1 h2
   split at h
   ·cases h
   ·split at h
    ·split at h
     ·rename_i hb;obtain rfl:=by simpa using h
      exact ⟨_,i,h1,h2,fun _=>Nat.eq_of_beq_eq_true hb,(by rintro (hh |⟨_,hh⟩ |hh)<;>cases hh),.inr (.inr (.inr (.inl ⟨_,rfl⟩)))⟩
     ·cases h
    ·cases h
  ·rename_i n e i h1 h2
   split at h
   ·split at h
    ·rename_i hb;obtain rfl:=by simpa using h
     rw[Bool.and_eq_true] at hb;exact ⟨_,i,h1,h2,fun _=>Nat.eq_of_beq_eq_true hb.2,(by rintro (hh |⟨_,hh⟩ |hh)<;>cases hh),.inr (.inr (.inr (.inr ⟨_,_,rfl⟩)))⟩
    ·cases h
   ·cases h
  ·cases h
theorem oo {P:Program} {d:Nat} {T:TypeId} {ks:CKs} (h:dZ P d T=some ks) {cs:List Value} {o:Nat} (hl:o+(bB ks).length<=cs.length) (w:World) :
 ∃ v,(part T cs.toArray o).run P w = .ok v w/\dT P T ((cs.drop o).take (bB ks).length) v:=by
 obtain ⟨D,i,h1,h2,h3,h4,h5⟩:=Gt h
 rcases h5 with rfl |⟨k,rfl⟩ |rfl |⟨fs,rfl⟩ |⟨n,e,rfl⟩
 ·have hlen:=h4 (.inl rfl);rw[hlen] at hl ⊢;obtain ⟨v,hv⟩:∃ v,cs[o]? = some v:=⟨_,List.getElem?_eq_getElem (by omega)⟩;refine ⟨v,?_,?_⟩
  ·simp [part,isAgg,run_underlying h1,hv]
  ·simp only[dT,h1];rw[List.getElem?_eq_some_iff] at hv;obtain ⟨hv1,rfl⟩:=hv;rw[List.drop_eq_getElem_cons hv1];rfl
 ·have hlen:=h4 (.inr (.inl ⟨_,rfl⟩));rw[hlen] at hl ⊢;obtain ⟨v,hv⟩:∃ v,cs[o]? = some v:=⟨_,List.getElem?_eq_getElem (by omega)⟩;refine ⟨v,?_,?_⟩
  ·simp [part,isAgg,run_underlying h1,hv]
  ·simp only[dT,h1];rw[List.getElem?_eq_some_iff] at hv;obtain ⟨hv1,rfl⟩:=hv;rw[List.drop_eq_getElem_cons hv1];rfl
 ·have hlen:=h4 (.inr (.inr rfl));rw[hlen] at hl ⊢;obtain ⟨v,hv⟩:∃ v,cs[o]? = some v:=⟨_,List.getElem?_eq_getElem (by omega)⟩;refine ⟨v,?_,?_⟩
  ·simp [part,isAgg,run_underlying h1,hv]
  ·simp only[dT,h1];rw[List.getElem?_eq_some_iff] at hv;obtain ⟨hv1,rfl⟩:=hv;rw[List.drop_eq_getElem_cons hv1];rfl
 ·have hs:=h3 (.inl ⟨_,rfl⟩);refine ⟨.agg ((cs.drop o).take (bB ks).length).toArray,?_,by simp only[dT,h1]⟩;have:(sizeOf T).run P w = .ok i.size w:=by simp [sizeOf,typeInfo,h2]
  simp [part,isAgg,run_underlying h1,this,hs]
 ·have hs:=h3 (.inr ⟨_,_,rfl⟩);refine ⟨.agg ((cs.drop o).take (bB ks).length).toArray,?_,by simp only[dT,h1]⟩;have:(sizeOf T).run P w = .ok i.size w:=by simp [sizeOf,typeInfo,h2]
  simp [part,isAgg,run_underlying h1,this,hs]
def rB (P:Program) (f:TypeId->Option CKs) (e:Nat):Prop:=∀ T ks,f T=some ks->∀ (xs ys:List Value) (x y:Value),dT P T xs x->dT P T ys y->Fit (bB ks) xs->Fit (bB ks) ys->∀ w,∃ r,(Op.equalIn e T x y).run P w = .ok r w/\(r=true↔xs=ys)
theorem wY {α:Type _} {a b:List α} (n:Nat):a=b↔a.take n=b.take n/\a.drop n=b.drop n:=
 ⟨fun h=>by rw[h];exact ⟨rfl,rfl⟩,fun h=>by rw[<- List.take_append_drop n a,<- List.take_append_drop n b,h.1,h.2]⟩
theorem Fit.part {a b:List CK} {xs:List Value} {o:Nat} (h:Fit (a++b) (xs.drop o)):o+a.length<=xs.length ∨ a.length=0:=by
 have:=h.len;simp only[List.length_drop,List.length_append] at this;omega
theorem wZ {P:Program} {d e:Nat} (ih:rB P (dZ P d) e):∀ (fs:List Field) (o:Nat) (ks:CKs),mf (dZ P d) fs o=some ks->∀ xs ys:List Value,o<=xs.length->o<=ys.length->Fit (bB ks) (xs.drop o)->Fit (bB ks) (ys.drop o)->∀ w,∃ r,(Op.eqFields e xs.toArray ys.toArray fs).run P w = .ok r w/\(r=true↔xs.drop o=ys.drop o)
 | [],o,ks,h,xs,ys,hx,hy,f1,f2,w=>by
   simp only[mf,Option.some.injEq] at h;subst h;have l1:=f1.len;have l2:=f2.len;refine ⟨true,rfl,?_⟩;simp only[bB,List.length_nil,List.length_eq_zero_iff] at l1 l2;simp [l1,l2]
 |x::fs,o,ks,h,xs,ys,hx,hy,f1,f2,w=>by
  simp only[mf] at h
  split at h
  ·rename_i a ha
   split at h
   ·rename_i hn;simp only[Bool.and_eq_true,Bool.not_eq_true',beq_eq_false_iff_ne,ne_eq] at hn;have ho:=Nat.eq_of_beq_eq_true hn.2
    split at h
    ·rename_i b hb;obtain rfl:=by simpa using h
     rw[rA] at f1 f2;have q1:=f1.len;have q2:=f2.len;simp only[List.length_drop,List.length_append] at q1 q2;obtain ⟨p1,p2⟩:=f1.split;obtain ⟨p3,p4⟩:=f2.split;rw[List.drop_drop] at p2 p4;obtain ⟨u,hu,hu2⟩:=oo ha (cs:=xs) (o:=o) (by omega) w;obtain ⟨v,hv,hv2⟩:=oo ha (cs:=ys) (o:=o) (by omega) w;obtain ⟨r,hr,hr2⟩:=ih _ _ ha _ _ _ _ hu2 hv2 p1 p3 w;obtain ⟨r',hr',hr2'⟩:=wZ ih fs _ _ hb xs ys (by omega) (by omega) p2 p4 w;rw[wY (a:=xs.drop o) (bB a).length,List.drop_drop,List.drop_drop,<- hr2,<- hr2']
     cases r with
     |false=>exact ⟨false,by simp [Op.eqFields,hn.1,ho,hu,hv,hr],by simp⟩
     |true=>exact ⟨r',by simp [Op.eqFields,hn.1,ho,hu,hv,hr,hr'],by simp⟩
    ·cases h
   ·cases h
  ·cases h
theorem w5 {P:Program} {d e:Nat} {T:TypeId} {ks:CKs} {sz:Nat} (ih:rB P (dZ P d) e) (hk:dZ P d T=some ks) (hsz:sz=(bB ks).length):∀ (m j:Nat) (xs ys:List Value),j*sz<=xs.length->j*sz<=ys.length->Fit (List.replicate m (bB ks)).flatten (xs.drop (j*sz))->Fit (List.replicate m (bB ks)).flatten (ys.drop (j*sz))->∀ w,∃ r,(Op.eqItems e T sz xs.toArray ys.toArray (List.range' j m)).run P w = .ok r w/\(r=true↔xs.drop (j*sz)=ys.drop (j*sz))
 | 0,j,xs,ys,hx,hy,f1,f2,w=>by
   have l1:=f1.len;have l2:=f2.len;refine ⟨true,rfl,?_⟩;simp only[List.replicate_zero,List.flatten_nil,List.length_nil,List.length_eq_zero_iff] at l1 l2;simp [l1,l2]
 |m+1,j,xs,ys,hx,hy,f1,f2,w=>by
  rw[List.replicate_succ,List.flatten_cons] at f1 f2;have q1:=f1.len;have q2:=f2.len;simp only[List.length_drop,List.length_append] at q1 q2;obtain ⟨p1,p2⟩:=f1.split;obtain ⟨p3,p4⟩:=f2.split;have hjs:j*sz+(bB ks).length=(j+1)*sz:=by rw[Nat.add_mul,hsz];omega
  rw[List.drop_drop,hjs] at p2 p4;obtain ⟨u,hu,hu2⟩:=oo hk (cs:=xs) (o:=j*sz) (by omega) w;obtain ⟨v,hv,hv2⟩:=oo hk (cs:=ys) (o:=j*sz) (by omega) w;obtain ⟨r,hr,hr2⟩:=ih _ _ hk _ _ _ _ hu2 hv2 p1 p3 w;obtain ⟨r',hr',hr2'⟩:=w5 ih hk hsz m (j+1) xs ys (by omega) (by omega) p2 p4 w;rw[wY (a:=xs.drop (j*sz)) (bB ks).length,List.drop_drop,List.drop_drop,hjs,<- hr2,<- hr2',List.range'_succ]
  cases r with
  |false=>exact ⟨false,by simp [Op.eqItems,hu,hv,hr],by simp⟩
  |true=>exact ⟨r',by simp [Op.eqItems,hu,hv,hr,hr'],by simp⟩
theorem w6 {P:Program}:∀ d k,rB P (dZ P d) (d+k)
 | 0,k=>fun T ks h=>by cases h
 |d+1,k=>by
  intro T ks h xs ys x y hx hy f1 f2 w;have ih:=w6 (P:=P) d k;rw[show d+1+k=(d+k)+1 by omega];simp only[dZ] at h
  split at h
  ·rename_i i h1 h2;obtain rfl:=by simpa using h
   simp only[dT,h1] at hx hy;subst hx hy;obtain ⟨a,rfl⟩:=f1.1;obtain ⟨b,rfl⟩:=f2.1;exact ⟨a==b,run_equalIn_bool w _ _ _ _ h1,by simp⟩
  ·rename_i q i h1 h2;obtain rfl:=by simpa using h
   simp only[dT,h1] at hx hy;subst hx hy;obtain ⟨a,rfl⟩:=f1.1;obtain ⟨b,rfl⟩:=f2.1;exact ⟨a==b,run_equalIn_int w _ _ _ _ _ _ h1,by simp⟩
  ·rename_i i h1 h2;obtain rfl:=by simpa using h
   simp only[dT,h1] at hx hy;subst hx hy;obtain ⟨a,rfl⟩:=f1.1;obtain ⟨b,rfl⟩:=f2.1;have hb:(a==b)=true↔a=b:=by
    refine ⟨fun h=>?_,fun h=>by rw[h];exact (show (b.data==b.data)=true from beq_self_eq_true _)⟩;exact ByteArray.ext (eq_of_beq (show (a.data==b.data)=true from h))
   refine ⟨a==b,?_,by simpa using hb⟩;simp only[Op.equalIn,Sem.run_bind,run_underlying h1,Result.andThen_ok];rfl
  ·rename_i fs i h1 h2
   split at h
   ·cases h
   ·rename_i hst
    split at h
    ·rename_i l hl
     split at h
     ·obtain rfl:=by simpa using h
      simp only[dT,h1] at hx hy;subst hx hy;have hf:P.fieldsOf T=fs:=by simp [Program.fieldsOf,h1]
      have:=wZ ih fs.toList 0 l hl xs ys (Nat.zero_le _) (Nat.zero_le _) (by simpa using f1) (by simpa using f2) w;rw[run_equalIn_struct w _ _ _ _ (by rw[hf];exact h1) (by simpa using hst),hf]
      simpa using this
     ·cases h
    ·cases h
  ·rename_i n e i h1 h2
   split at h
   ·rename_i l j hl hj
    split at h
    ·rename_i hb;rw[Bool.and_eq_true] at hb;obtain rfl:=by simpa using h
     simp only[dT,h1] at hx hy;subst hx hy;rw[Gs] at f1 f2;have hc:P.cellsOf e=(bB l).length:=by simp [Program.cellsOf,hj,Nat.eq_of_beq_eq_true hb.1]
     rw[run_equalIn_array w _ _ _ h1 hj,List.range_eq_range'];have:=w5 ih hl hc n 0 xs ys (by omega) (by omega) (by simpa using f1) (by simpa using f2) w
     simpa using this
    ·cases h
   ·cases h
  ·cases h
end Go.Proofs.YtbhbjhejkamlnaaGreat.Sx
