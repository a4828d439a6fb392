import Derived.ChangeArms
import Derived.OpenShut
import Derived.WideShapes
import Derived.ChangeShapes
import Derived.Carry
import Derived.DataReads
import Derived.Test.YtbhbjhejkamlnaaGreatZx13
namespace Go.Proofs.YtbhbjhejkamlnaaGreat.Sx
open Go.RowKit Go.WideShapes
def xM:K->K->Bool
 | .int a,.int b=>mK a b
 | .bool,.bool=>true
 | .str,.str=>true
 | .slice a,.slice b=>Nat.beq a b
 |_,_=>false
theorem GQ {a b:K} (h:xM a b=true):a=b:=by
 cases a<;>cases b<;>first |rfl |(rw[pf h]) |(rw[Nat.eq_of_beq_eq_true h]) |(cases h)
def oT:List K->List K->Bool
 | [],[]=>true
 |a::r,b::s=>xM a b&&oT r s
 |_,_=>false
theorem xO:∀ {a b:List K},oT a b=true->a=b
 | [],[],_=>rfl
 |a::r,b::s,h=>by
  simp only[oT,Bool.and_eq_true] at h;rw[GQ h.1,xO h.2]
 | [],_::_,h=>by cases h
 |_::_,[],h=>by cases h
def kF (g:TypeId->Option (List K)):List (TypeId × Nat)->Nat->Option (List K)
 | [],_=>some []
 |(T,o)::r,q=>if Nat.beq o q then (match g T with
  |some a=>(match kF g r (q+a.length) with |some b=>some (a++b) |none=>none)
  |none=>none) else none
def mD (tt:TT) (t:TypeId) (ks:List K):Option (List K):=match szT tt t with |some n=>if Nat.beq n ks.length then some ks else none |none=>none
def kT (tt:TT):Nat->TypeId->Option (List K)
 | 0,_=>none
 |f+1,t=>match uD tt t with
  |some .bool=>some [.bool]
  |some (.int k)=>some [.int k]
  |some .string=>some [.str]
  |some (.slice e)=>(match ksT tt e with |some _=>some [.slice e] |none=>none)
  |some (.array n e)=>(match kT tt f e with |some ks=>(match mD tt e ks with |some _=>mD tt t (List.replicate n ks).flatten |none=>none) |none=>none)
  |some (.struct fs)=>(match kF (kT tt f) fs 0 with |some ks=>mD tt t ks |none=>none)
  |_=>none
def oU (tt:TT):TT->Bool
 | []=>true
 |(t,i)::r=>(match i.ks with |some ks=>(match kT tt 9 t with |some l=>oT l ks |none=>false) |none=>true)&&oU tt r
def kt (tt:TT):Bool:=oU tt tt
theorem xP {tt:TT}:∀ {l:TT},oU tt l=true->∀ t i ks,ad l t=some i->i.ks=some ks->kT tt 9 t=some ks
 | [],_,t,i,ks,h,_=>by simp [ad] at h
 |(j,x)::r,ha,t,i,ks,h,hk=>by
  simp only[oU,Bool.and_eq_true] at ha;simp only[ad] at h
  split at h
  ·rename_i hj;obtain rfl:j=t:=by simpa using hj
   obtain rfl:=by simpa using h
   have h1:=ha.1;rw[hk] at h1;dsimp only at h1
   split at h1
   ·rename_i l hl;rw[hl,xO h1]
   ·cases h1
  ·exact xP ha.2 t i ks h hk
theorem GR {tt:TT} (h:kt tt=true) {e:TypeId} {ks:List K} (hk:ksT tt e=some ks):kT tt 9 e=some ks:=by
 unfold ksT at hk
 split at hk
 ·rename_i i hi;exact xP h e i ks hi hk
 ·cases hk
theorem rY {tt:TT} {t:TypeId} {ks l:List K} (h:mD tt t ks=some l):l=ks/\szT tt t=some ks.length:=by
 unfold mD at h
 split at h
 ·rename_i n hn
  split at h
  ·rename_i hb;rw[Nat.eq_of_beq_eq_true hb] at hn;exact ⟨by simpa using h.symm,hn⟩
  ·cases h
 ·cases h
theorem rZ {P:Program} {tt:TT} (htt:aP P tt) {t:TypeId} {n:Nat} (h:szT tt t=some n):P.cellsOf t=n:=by
 obtain ⟨i,hi,hs⟩:=eG htt h;simp [Program.cellsOf,hi,hs]
inductive DOk:K->D->Prop
 |int (k:IntKind) (d:D):(Lit.int k d.toI).wf=true->DOk (.int k) d
 |bool (d:D):DOk .bool d
 |str (d:D):d.toS.size<=maxLen->DOk .str d
 |slice (e:TypeId) (d:D):d.len<=maxLen->(∀ i j k,i<d.len->(eks e)[j]? = some k->DOk k (d.el i j))->DOk (.slice e) d
theorem GS (a:Addr) (i j:Nat):(a.add i).add j=a.add (i+j):=by
 unfold Addr.add
 by_cases hi:i=0
 ·subst hi;simp
 ·by_cases hj:j=0
  ·subst hj;simp [hi]
  ·simp [hi,hj,Nat.add_assoc]
theorem xQ {w:World} {a:Addr} {v:Value} (h:w.cell? a=some v):a.spot=none/\Fz.cell (b9 w) a.block a.off=some v:=by
 unfold World.cell? at h
 split at h
 ·rename_i c T z hh
  split at h
  ·cases h
  ·rename_i hs;refine ⟨by simpa using hs,?_⟩;unfold Fz.cell b9;rw[hh];exact h
 ·cases h
section
variable {P:Program} {tt:TT} {H:Type} {enc:TypeId × Value->H} {w:World} {base:Nat} {spare:Nat->Bool} {held:Bool}
theorem xR {α:Type} (l:List α):∀ (n j:Nat),((List.replicate n l).flatten)[j]? = if j<n*l.length then l[j%l.length]? else none
 | 0,j=>by simp
 |n+1,j=>by
  rw[List.replicate_succ,List.flatten_cons]
  by_cases hj:j<l.length
  ·rw[List.getElem?_append_left hj,if_pos (by rw[Nat.add_mul];omega),Nat.mod_eq_of_lt hj]
  ·rw[List.getElem?_append_right (by omega),xR l n];have e:(j-l.length)%l.length=j%l.length:=by
    rw[<- Nat.mod_eq_sub_mod (by omega)]
   rw[e];have e2:(n+1)*l.length=n*l.length+l.length:=by rw[Nat.add_mul];omega
   rw[e2]
   by_cases h:j-l.length<n*l.length
   ·rw[if_pos h,if_pos (by omega)]
   ·rw[if_neg h,if_neg (by omega)]
theorem r5 {ks:List K} {d:D} {i:Nat} {g:Nat->Option Value} {ρ:Map} (hE:∀ (j:Nat) k,ks[j]? = some k->∃ u,g j=some u/\TRel ρ.fz k (d.el i j) u):∀ (L:List L) (j:Nat) (s:List Seg),eX ks d i j L=some s->(cellsOf s).length=dL L/\∀ q x,(cellsOf s)[q]? = some x->∃ u,g (j+q)=some u/\aJ ρ x u
 | [],j,s,h=>by
   simp only[eX,Option.some.injEq] at h;subst h;exact ⟨by simp [cellsOf,dL],fun q x hx=>by simp [cellsOf] at hx⟩
 | .c::r,j,s,h=>by
   simp only[eX] at h
   split at h
   ·rename_i k hk
    split at h
    ·rename_i x s' hx hs;obtain rfl:=by simpa using h
     obtain ⟨h1,h2⟩:=r5 hE r _ s' hs;refine ⟨by rw[aM,List.length_append,h1];simp [Seg.cells,dL,L.size],fun q y hy=>?_⟩;rw[aM] at hy
     cases q with
     |zero=>
      simp only[Seg.cells,List.cons_append,List.nil_append,List.getElem?_cons_zero,Option.some.injEq] at hy;subst hy;obtain ⟨u,hu,hr⟩:=hE j k hk;exact ⟨u,hu,pi hx hr⟩
     |succ q=>
      obtain ⟨u,hu,hr⟩:=h2 q y (by simpa [Seg.cells] using hy);exact ⟨u,by rw[<- hu];congr 1;omega,hr⟩
    ·cases h
   ·cases h
 | .ints k n::r,j,s,h=>by
   simp only[eX] at h
   split at h
   ·rename_i hk
    split at h
    ·rename_i s' hs;obtain rfl:=by simpa using h
     obtain ⟨h1,h2⟩:=r5 hE r _ s' hs;refine ⟨by rw[aM,List.length_append,h1,bc];simp [dL,L.size,SN.v],fun q y hy=>?_⟩;rw[aM] at hy
     by_cases hq:q<n
     ·rw[List.getElem?_append_left (by rw[bc];exact hq),cA hq] at hy;obtain rfl:=by simpa using hy
      have hkk:=pj hk q hq;rw[List.getElem?_drop] at hkk;obtain ⟨u,hu,hr⟩:=hE (j+q) _ hkk;refine ⟨u,hu,?_⟩
      cases hr;rfl
     ·rw[List.getElem?_append_right (by rw[bc];simp only[SN.v];omega),bc] at hy;obtain ⟨u,hu,hr⟩:=h2 (q-n) y hy;exact ⟨u,by rw[<- hu];congr 1;simp only[SN.v] at *;omega,hr⟩
    ·cases h
   ·cases h
def inV (tt:TT) (T:TypeId) (d:D):Option SV:=match kT tt 9 T,it tt T with
 |some [k],some none=>(match mN k (d.el 0 0) with |some c=>some (.one (.sc c)) |none=>none)
 |some ks,some (some L)=>if Nat.beq (dL L) ks.length then (match eX ks d 0 0 L with |some s=>some (.one (.agg s)) |none=>none) else none
 |_,_=>none
def mE (tt:TT):List TypeId->List D->Option (List SV)
 | [],[]=>some []
 |T::Ts,d::ds=>(match inV tt T d,mE tt Ts ds with |some x,some r=>some (x::r) |_,_=>none)
 |_,_=>none
def r6 (tt:TT) (T:TypeId) (d:D):Prop:=∀ ks,kT tt 9 T=some ks->∀ (j:Nat) k,ks[j]? = some k->DOk k (d.el 0 j)
def jo (tt:TT):List TypeId->List D->Prop
 | [],[]=>True
 |T::Ts,d::ds=>r6 tt T d/\jo tt Ts ds
 |_,_=>False
theorem xS {T:TypeId} {Ts:List TypeId} {Ds:List D} (h:jo tt (T::Ts) Ds):∃ d ds,Ds=d::ds/\r6 tt T d/\jo tt Ts ds:=by
 cases Ds with
 |nil=>exact h.elim
 |cons d ds=>exact ⟨d,ds,rfl,h.1,h.2⟩
theorem GT {Ds:List D} (h:jo tt [] Ds):Ds=[]:=by
 cases Ds with
 |nil=>rfl
 |cons d ds=>exact h.elim
theorem GU {r:Reach} {b0:Nat} {T:TypeId} {d:TypeDesc} (hd:P.underlying T=some d) (ha:eE d=false) {v:Value} (h:Value.okWide P w r b0 T v):v.cells=#[v]:=by
 cases v<;>first |rfl |(exfalso;simp only[Value.okWide,hd] at h;cases d<;>simp_all [Cell.okWide,Cell.ok,eE])
theorem GV {r:Reach} {b0:Nat} {T:TypeId} {d:TypeDesc} (hd:P.underlying T=some d) (ha:eE d=true) {v:Value} (h:Value.okWide P w r b0 T v):∃ cs,v = .agg cs:=by
 simp only[Value.okWide,hd] at h
 cases d<;>first |(obtain ⟨cs,rfl,_⟩:=h;exact ⟨cs,rfl⟩) |(cases ha)
def r7 (tt:TT) (c:Con) (Ts:List TypeId) (Ds:List D):Prop:=match mE tt Ts Ds with
 |some svs=>(match c [] 0 svs with
  |some e=>(match e.val,e.st with | .one (.sc (.bool b)),[]=>b.v=true/\All e.vc |_,_=>False)
  |none=>False)
 |none=>False
def r8 (P:Program) (Ts:List TypeId):Bool:=Ts.all fun t=>P.readableRec t&&decide (t<P.types.size)
theorem xT (hl:laidOutB P=true) {W W':World} (hb:Below W.heap.size W W'):∀ (Ts:List TypeId) (vs:List Value) (ds:List (DataW H)) (ps:List MemPlace),r8 P Ts=true->DataW.TrodAll enc P W 0 (fun _=>true) true Ts vs ds ps->DataW.TrodAll enc P W' 0 (fun b=>decide (b<W.heap.size)) true Ts vs ds ps
 | [],vs,ds,ps,_,h=>by
   obtain ⟨rfl,rfl,rfl⟩:=Go.ChangeShapes.trodAll_nil h;exact Go.ChangeShapes.trodAll_mk0
 |T::Ts,vs,ds,ps,ht,h=>by
  obtain ⟨v,vs',d,ds',p,q,rfl,rfl,rfl,h1,h2⟩:=Go.ChangeShapes.trodAll_cons h;simp only[r8,List.all_cons,Bool.and_eq_true,decide_eq_true_eq] at ht;have lt:∀ x∈p,x.block<W.heap.size:=by obtain ⟨m,hm⟩:=h1;exact DataW.trod_lt m _ _ _ hm
  exact ⟨p,q,Below.trod hl ht.1.1 ht.1.2 h1 hb lt,xT hl hb Ts vs' ds' q (by simpa [r8] using ht.2) h2,rfl⟩
end
end Go.Proofs.YtbhbjhejkamlnaaGreat.Sx
