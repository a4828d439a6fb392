import Derived.Laws.Append
import Derived.Laws.AppendOwn
import Derived.Laws.MakeOwn
import Derived.Test.YtplejbgafjpomaaGreatDoorZb6
set_option linter.unusedVariables false
set_option linter.unusedSimpArgs false
namespace Go.Proofs.YtplejbgafjpomaaGreatDoor.Sx
open Go.RowKit
def scD:K->SC->Option D
 | .int k,.int k' n=>if kEqB k k' then some (.i n.v) else none
 | .bool,.bool b=>some (.b b.v)
 | .str,.raw (.string s)=>some (.s s)
 | .slice e,.rows e' d=>if Nat.beq e e' then some d else none
 | .slice _,.nils=>some (.l [])
 |_,_=>none
theorem scD_spec {ρ:Map} {k:K} {x:SC} {d:D} (h:scD k x=some d) {v:Value} (hx:CRel ρ x v):TRel ρ.fz k d v:=by
 unfold scD at h
 split at h
 ·split at h
  ·rename_i hk;obtain rfl:=kEqB_eq hk;obtain rfl:=by simpa using h
   obtain rfl:v=_:=hx;exact .int _ (.i _)
  ·cases h
 ·obtain rfl:=by simpa using h
  obtain rfl:v=_:=hx;exact .bool (.b _)
 ·obtain rfl:=by simpa using h
  obtain rfl:v=_:=hx;exact .str (.s _)
 ·split at h
  ·rename_i hk;obtain rfl:=Nat.eq_of_beq_eq_true hk;obtain rfl:=by simpa using h
   exact hx
  ·cases h
 ·obtain rfl:=by simpa using h
  obtain rfl:v=_:=hx;exact .nil _ _ rfl
 ·cases h
def takeDs:List Seg->List K->Option (List D × List Seg)
 |s,[]=>some ([],s)
 | [],_::_=>none
 | .c x::r,k::ks=>(match scD k x,takeDs r ks with |some d,some (ds,q)=>some (d::ds,q) |_,_=>none)
 | .ints k (.lit n) f::r,k0::ks=>if Nat.ble n (k0::ks).length&&intsK k n (k0::ks) then (match takeDs r ((k0::ks).drop n) with
    |some (ds,q)=>some ((List.range n).map (fun o=>.i (f o))++ds,q)
    |none=>none) else none
 | .ints _ (.sym _) _::_,_::_=>none
theorem takeDs_spec {ρ:Map}:∀ (s:List Seg) (ks:List K) (ds:List D) (q:List Seg),takeDs s ks=some (ds,q)->∀ vs,CsRel ρ (cellsOf s) vs ->
 ds.length=ks.length/\ks.length<=vs.length/\(∀ (j:Nat) k,ks[j]? = some k->∃ u,vs[j]? = some u/\TRel ρ.fz k (ds.getD j (.i 0)) u)/\CsRel ρ (cellsOf q) (vs.drop ks.length)
 |s,[],ds,q,h,vs,hv=>by
  have:ds=[]/\q=s:=by cases s<;>(simp only [takeDs,Option.some.injEq,Prod.mk.injEq] at h;exact ⟨h.1.symm,h.2.symm⟩)
  obtain ⟨rfl,rfl⟩:=this;exact ⟨rfl,Nat.zero_le _,fun j k hk=>by simp at hk,by simpa using hv⟩
 | [],k::ks,ds,q,h,vs,hv=>by simp [takeDs] at h
 | .c x::r,k::ks,ds,q,h,vs,hv=>by
   simp only [takeDs] at h
   split at h
   ·rename_i d ds' q' hd hr;obtain ⟨rfl,rfl⟩:=by simpa using h
    rw [cellsOf_cons] at hv;obtain ⟨v,vs',rfl⟩:∃ v vs',vs=v::vs':=by
     cases vs with
     |nil=>have:=hv.1;simp [Seg.cells] at this
     |cons v vs'=>exact ⟨v,vs',rfl⟩
    have hv1:CRel ρ x v:=hv.2 0 x v (by simp [Seg.cells]) (by simp);have hv2:CsRel ρ (cellsOf r) vs':=⟨by have:=hv.1;simp [Seg.cells] at this;omega,fun i y u hy hu=>hv.2 (i+1) y u (by simpa [Seg.cells] using hy) (by simpa using hu)⟩;obtain ⟨h1,h2,h3,h4⟩:=takeDs_spec r ks ds' q' hr vs' hv2;refine ⟨by simp [h1],by simp;omega,fun j k' hk=>?_,by simpa using h4⟩
    cases j with
    |zero=>
     simp only [List.getElem?_cons_zero,Option.some.injEq] at hk;subst hk;exact ⟨v,rfl,by simpa using scD_spec hd hv1⟩
    |succ j=>
     obtain ⟨u,hu,ht⟩:=h3 j k' (by simpa using hk);exact ⟨u,by simpa using hu,by simpa using ht⟩
   ·cases h
 | .ints k (.lit n) f::r,k0::ks,ds,q,h,vs,hv=>by
   simp only [takeDs] at h
   split at h
   ·rename_i hk;simp only [Bool.and_eq_true] at hk;have hn:=Nat.le_of_ble_eq_true hk.1
    split at h
    ·rename_i ds' q' hr;obtain ⟨rfl,rfl⟩:=by simpa using h
     rw [cellsOf_cons] at hv;have hlen:=hv.1;rw [List.length_append,cells_ints_len,SN.lv] at hlen;have hv2:CsRel ρ (cellsOf r) (vs.drop n):=⟨by rw [List.length_drop];omega,fun i y u hy hu=>by
      rw [List.getElem?_drop] at hu;refine hv.2 (n+i) y u ?_ hu;rw [List.getElem?_append_right (by rw [cells_ints_len,SN.lv];omega),cells_ints_len,SN.lv];have:n+i-n=i:=by omega
      rw [this];exact hy⟩
     obtain ⟨h1,h2,h3,h4⟩:=takeDs_spec r _ ds' q' hr _ hv2;rw [List.length_drop] at h1 h2;rw [List.length_drop] at h2;refine ⟨by rw [List.length_append,List.length_map,List.length_range,h1];omega,by omega,fun j k' hj=>?_,?_⟩
     ·by_cases hjn:j<n
      ·have hkk:=intsK_spec hk.2 j hjn;rw [hkk] at hj;obtain rfl:=by simpa using hj
       have hjv:j<vs.length:=by omega
       have:=hv.2 j (.int k (.sym (f j))) vs[j] (by rw [List.getElem?_append_left (by rw [cells_ints_len];exact hjn)];exact cells_ints_get hjn) (List.getElem?_eq_getElem hjv);refine ⟨vs[j],List.getElem?_eq_getElem hjv,?_⟩;have e:((List.range n).map (fun o=>D.i (f o))++ds').getD j (.i 0) = .i (f j):=by
        rw [List.getD_eq_getElem?_getD,List.getElem?_append_left (by simpa using hjn)];simp [List.getElem?_range hjn]
       rw [e,show vs[j]=_ from this];exact .int k (.i (f j))
      ·obtain ⟨u,hu,ht⟩:=h3 (j-n) k' (by rw [List.getElem?_drop];rw [show n+(j-n)=j by omega];exact hj);rw [List.getElem?_drop,show n+(j-n)=j by omega] at hu;refine ⟨u,hu,?_⟩;have e:((List.range n).map (fun o=>D.i (f o))++ds').getD j (.i 0)=ds'.getD (j-n) (.i 0):=by
        rw [List.getD_eq_getElem?_getD,List.getElem?_append_right (by simp;omega),List.getD_eq_getElem?_getD]
        simp
       rw [e];exact ht
     ·rw [List.drop_drop,List.length_drop] at h4;rw [show n+((k0::ks).length-n)=(k0::ks).length by omega] at h4;exact h4
    ·cases h
   ·cases h
 | .ints _ (.sym _) _::_,_::_,_,_,h,_,_=>by simp [takeDs] at h
def toDs (s:List Seg) (ks:List K):Option (List D):=match takeDs s ks with |some (ds,[])=>some ds |_=>none
theorem toDs_spec {ρ:Map} {s:List Seg} {ks:List K} {ds:List D} (h:toDs s ks=some ds) {vs:List Value} (hv:CsRel ρ (cellsOf s) vs) :
 ds.length=ks.length/\vs.length=ks.length/\∀ (j:Nat) k,ks[j]? = some k->∃ u,vs[j]? = some u/\TRel ρ.fz k (ds.getD j (.i 0)) u:=by
 unfold toDs at h
 split at h
 ·rename_i ds' hd;obtain rfl:=by simpa using h
  obtain ⟨h1,h2,h3,h4⟩:=takeDs_spec s ks _ _ hd vs hv;have:=h4.1;simp only [cellsOf,List.flatMap_nil,List.length_nil,List.length_drop] at this;exact ⟨h1,by omega,h3⟩
 ·cases h
def rowsDs (ks:List K):Nat->List Seg->Option (List (List D))
 | 0,[]=>some []
 | 0,_::_=>none
 |n+1,s=>(match takeDs s ks with |some (ds,q)=>(match rowsDs ks n q with |some r=>some (ds::r) |none=>none) |none=>none)
theorem rowsDs_spec {ρ:Map} {ks:List K}:∀ (n:Nat) (s:List Seg) (r:List (List D)),rowsDs ks n s=some r->∀ vs,CsRel ρ (cellsOf s) vs ->
 r.length=n/\vs.length=n*ks.length/\∀ (i j:Nat) k,i<n->ks[j]? = some k->∃ u,vs[i*ks.length+j]? = some u/\TRel ρ.fz k ((r.getD i []).getD j (.i 0)) u
 | 0,[],r,h,vs,hv=>by
   simp only [rowsDs,Option.some.injEq] at h;subst h;refine ⟨rfl,?_,fun i j k hi=>by omega⟩;have:=hv.1;simp [cellsOf] at this;simp [<- this]
 | 0,_::_,r,h,vs,hv=>by simp [rowsDs] at h
 |n+1,s,r,h,vs,hv=>by
  simp only [rowsDs] at h
  split at h
  ·rename_i ds q ht
   split at h
   ·rename_i r' hr;obtain rfl:=by simpa using h
    obtain ⟨h1,h2,h3,h4⟩:=takeDs_spec s ks ds q ht vs hv;obtain ⟨g1,g2,g3⟩:=rowsDs_spec n q r' hr _ h4;rw [List.length_drop] at g2;refine ⟨by simp [g1],by rw [Nat.add_mul];omega,fun i j k hi hk=>?_⟩
    cases i with
    |zero=>simpa using h3 j k hk
    |succ i=>
     obtain ⟨u,hu,htr⟩:=g3 i j k (by omega) hk;rw [List.getElem?_drop] at hu;refine ⟨u,?_,by simpa using htr⟩;rw [<- hu];congr 1;rw [Nat.add_mul];omega
   ·cases h
  ·cases h
theorem rowAt_of {ρ:Map} {w:World} {b c:Nat} {e:TypeId} {r:List (List D)} {vs rest:List Value} (hh:w.heap[b]? = some (.cells (vs++rest).toArray e (0,0))) (hvs:vs.length=r.length*(eks e).length) (hc:(vs++rest).length=c*(eks e).length) (h0:0<(eks e).length)
 (hr:∀ (i j:Nat) k,i<r.length->(eks e)[j]? = some k->∃ u,vs[i*(eks e).length+j]? = some u/\TRel ρ.fz k ((r.getD i []).getD j (.i 0)) u):RowAt ρ w b c e (.l r):=by
 refine ⟨_,hh,by simpa using hc,?_,fun i j k hi hk=>?_⟩
 ·have:r.length*(eks e).length<=c*(eks e).length:=by rw [<- hc,<- hvs,List.length_append];omega
  exact Nat.le_of_mul_le_mul_right this h0
 ·obtain ⟨u,hu,ht⟩:=hr i j k hi hk;refine ⟨u,?_,ht⟩;rw [List.getElem?_toArray,List.getElem?_append_left (lt_of_get hu)];exact hu
theorem fr_orow {B:Nat} {ρ:Map} {w w':World} {fr:Nat} {e:TypeId} {d:D} {c:Nat} {cs:Array Value} (hB:B<=w.heap.size) (hz:Frozen ρ w) (hf:ρ fr=none) (hw:w'=w.alloc (.cells cs e) ∨ w'=w.drew.alloc (.cells cs e))
 (hr:RowAt ρ w' w.heap.size c e d) (sv:SV) (vc:List Prop) :
 Fr B ρ (ρ.set fr (w.heap.size,0) c) w w' {val:=sv,vc:=vc,nw:=[(fr,.orow e d)]}:=by
 have hs:=set_at ρ fr (w.heap.size,0) c;have hb:(ρ.set fr (w.heap.size,0) c).blk fr=w.heap.size:=by simp [Map.blk,hs]
 have hcap:(ρ.set fr (w.heap.size,0) c).cap fr=c:=by simp [Map.set]
 have hx:ERel B (ρ.set fr (w.heap.size,0) c) w' fr (.orow e d):=by
  refine .inr ⟨by rw [hs];rfl,by simp [Map.off,hs],⟨by rw [hb];exact .inl hB,by rw [hb];exact hz.new (Nat.le_refl _)⟩,?_⟩;rw [hb,hcap];exact hr
 exact fr_new hf hw hx rfl sv vc
theorem osl_new {ρ:Map} {w:World} {fr c n:Nat} {e:TypeId} {N:SN} (hN:N.v=n) (hc:n<=c):CRel (ρ.set fr (w.heap.size,0) c) (.osl e fr (.lit 0) N) (.slice (some ⟨w.heap.size,0,none⟩) n c):=by
 have hs:=set_at ρ fr (w.heap.size,0) c;refine ⟨_,c,by rw [hN],by rw [hN];exact hc,.inr ⟨?_,?_,by rw [hs];rfl⟩⟩
 ·simp [Map.blk,hs,SN.v]
 ·simp [Map.set,SN.v]
def siN:SI->Option SN | .lit (.ofNat m)=>some (.lit m) | .lit (.negSucc _)=>none | .sym i=>some (.sym i.toNat)
theorem siN_v {i:SI} {n:SN} (h:siN i=some n):n.v=i.v.toNat:=by
 unfold siN at h
 split at h
 ·simp only [Option.some.injEq] at h;subst h;rfl
 ·cases h
 ·simp only [Option.some.injEq] at h;subst h;rfl
def sMake (tt:TT) (fr:Nat) (t:TypeId):SV->SV->Option Eff
 | .one (.sc (.int _ l)),.one (.sc (.int _ c))=>(match uD tt t with
   |some (.slice e)=>(match elT tt e,siN l with
    |some x,some n=>(match toDs x.zero x.ks with
     |some z=>some {val:=.one (.sc (.osl e fr (.lit 0) n)),vc:=[l.v=c.v,0<=l.v,(x.bytes:Int)*l.v<=281474976710656,l.v<=9223372036854775807],nw:=[(fr,.orow e (.l (List.replicate n.v z)))]}
     |none=>none)
    |_,_=>none)
   |_=>none)
 |_,_=>none
theorem madeCells_get {z:Array Value} {n q:Nat} (hq:q<n) (hz:0<z.size):(madeCells z n)[q]? = z[q%z.size]?:=by
 have hm:q%z.size<z.size:=Nat.mod_lt _ hz;unfold madeCells;rw [Array.getElem?_map,Array.getElem?_range,if_pos hq];simp [hm]
theorem sMake_spec {P:Program} {tt:TT} (htt:TTOK P tt) {fr:Nat} {t:TypeId} {a b:SV} {e:Eff} (h:sMake tt fr t a b=some e) (hvc:All e.vc) {ρ:Map} {w0:W0} {w:World} (hB:w0.heap.size<=w.heap.size) (hz:Frozen ρ w) (hfr:∀ id x,look e.nw id=some x -> ρ id=none) {x y:Value} (hx:UR ρ a x) (hy:UR ρ b y) :
 ∃ v w' c,(Instr.makeSlice t x y).run P w = .ok v w'/\UR (ρ.set fr (w.heap.size,0) c) e.val v/\Fr w0.heap.size ρ (ρ.set fr (w.heap.size,0) c) w w' e:=by
 unfold sMake at h
 split at h
 ·rename_i kl l kc c;obtain rfl:x=_:=hx;obtain rfl:y=_:=hy
  split at h
  ·rename_i el hT;obtain ⟨d,hT,hd⟩:=tt_u htt hT;obtain rfl:=u_slice hd
   split at h
   ·rename_i xi n hxi hn;obtain ⟨g1,g2,i,z,g3,g4,g5,g6,g7⟩:=tt_el htt hxi
    split at h
    ·rename_i zd hzd;obtain rfl:=by simpa using h
     obtain ⟨hlc,h0,hby,h63,_⟩:=hvc;have hrun:=run_make (P:=P) w t el i z hT g3 g5 kl kc l.v c.v h0 (by omega) (by rw [g6,<- hlc];exact hby) (by omega);have hnv:=siN_v hn;rw [<- hlc] at hrun;refine ⟨_,_,l.v.toNat,by rw [<- hlc];exact hrun,?_,?_⟩
     ·exact osl_new hnv (Nat.le_refl _)
     ·have hzr:=toDs_spec hzd (g7 ρ);obtain ⟨k1,k2,k3⟩:=hzr;have hzs:z.cells.size=xi.ks.length:=by simpa using k2
      refine fr_orow hB hz (hfr fr _ (by simp only [look];rw [if_pos (by simp)])) (.inl rfl) ?_ _ _;have hsz:(madeCells z.cells (l.v.toNat*i.size)).size=l.v.toNat*(eks el).length:=by rw [size_madeCells,g4,g1]
      refine ⟨_,by show (w.heap.push _)[w.heap.size]? = _;simp,hsz,?_,fun q j k hq hk=>?_⟩
      ·show (List.replicate n.v zd).length<=_;simp [hnv]
      ·have hq':q<l.v.toNat:=by
        have:q<(List.replicate n.v zd).length:=hq
        simpa [hnv] using this
       have hj:j<(eks el).length:=lt_of_get hk;obtain ⟨u,hu,ht⟩:=k3 j k (by rw [<- g1];exact hk);refine ⟨u,?_,?_⟩
       ·rw [g1] at hj ⊢;rw [madeCells_get,hzs,Nat.mul_comm q,Nat.mul_add_mod,Nat.mod_eq_of_lt hj]
        ·rw [<- Array.getElem?_toList];exact hu
        ·rw [g4]
         calc q*xi.ks.length+j<q*xi.ks.length+xi.ks.length:=by omega
          _=(q+1)*xi.ks.length:=by rw [Nat.add_mul];omega
          _<=l.v.toNat*xi.ks.length:=Nat.mul_le_mul_right _ hq'
        ·omega
       ·have:(D.l (List.replicate n.v zd)).el q j=zd.getD j (.i 0):=by
         show ((List.replicate n.v zd).getD q []).getD j (.i 0)=_;rw [List.getD_eq_getElem?_getD (l:=List.replicate _ _),List.getElem?_replicate,if_pos (by omega)];rfl
        rw [this];exact ht
    ·cases h
   ·cases h
  ·cases h
 ·cases h
def sBSliceE (tt:TT) (fr:Nat) (t:TypeId) (len:Nat) (pv:List (Nat × SV)):Option Eff:=
 match uD tt t with
 |some (.slice E)=>(match elT tt E with
  |some x=>if Nat.ble (len*x.ks.length) 16777216 then (match fillS (fun i=>some (i*x.ks.length,x.ks.length)) (List.replicate len x.zero).flatten pv with
   |some (l,ps)=>(match rowsDs x.ks len l,toDs x.zero x.ks with
    |some r,some _=>some {val:=.one (.sc (.osl E fr (.lit 0) (.lit len))),vc:=ps,nw:=[(fr,.orow E (.l r))]}
    |_,_=>none)
   |none=>none) else none
  |none=>none)
 |_=>none
theorem csrel_rep {ρ:Map} {l:List Seg} {vs:List Value} (h:CsRel ρ (cellsOf l) vs):∀ n,CsRel ρ (cellsOf (List.replicate n l).flatten) (List.replicate n vs).flatten
 | 0=>⟨rfl,fun i x v hx=>by simp [cellsOf] at hx⟩
 |n+1=>by
  have e:cellsOf (List.replicate (n+1) l).flatten=cellsOf l++cellsOf (List.replicate n l).flatten:=by simp [cellsOf,List.replicate_succ]
  rw [e,List.replicate_succ,List.flatten_cons];exact csrel_append h (csrel_rep h n)
theorem rep_cells {z:Array Value} (hz:0<z.size) (n:Nat):((Array.range (n*z.size)).map (z[· % z.size]!)).toList=(List.replicate n z.toList).flatten:=by
 apply List.ext_getElem?
 intro q;rw [Array.getElem?_toList];have key:∀ n q,((List.replicate n z.toList).flatten)[q]? = if q<n*z.size then z[q%z.size]? else none:=by
  intro n
  induction n with
  |zero=>intro q;simp
  |succ n ih=>
   intro q;rw [List.replicate_succ,List.flatten_cons]
   by_cases hq:q<z.size
   ·rw [List.getElem?_append_left (by simpa using hq),Nat.mod_eq_of_lt hq,if_pos (by rw [Nat.add_mul];omega)]
    simp
   ·rw [List.getElem?_append_right (by simpa using hq),ih];have e:q-z.toList.length=q-z.size:=by simp
    have e2:q%z.size=(q-z.size)%z.size:=Nat.mod_eq_sub_mod (by omega);rw [e,e2]
    by_cases h1:q<(n+1)*z.size
    ·rw [if_pos h1,if_pos (by rw [Nat.add_mul] at h1;omega)]
    ·rw [if_neg h1,if_neg (by rw [Nat.add_mul] at h1;omega)]
 rw [key]
 by_cases hq:q<n*z.size
 ·rw [if_pos hq];exact madeCells_get hq hz
 ·rw [if_neg hq,Array.getElem?_eq_none (by simp;omega)]
theorem sBSliceE_spec {P:Program} {tt:TT} (htt:TTOK P tt) {fr:Nat} {t:TypeId} {len:Nat} {pv:List (Nat × SV)} {e:Eff} (h:sBSliceE tt fr t len pv=some e) (hvc:All e.vc) {ρ:Map} {w0:W0} {w:World} (hB:w0.heap.size<=w.heap.size) (hz:Frozen ρ w) (hfr:∀ id x,look e.nw id=some x -> ρ id=none)
 {parts:Array (Nat × Value)} (hl:pv.length=parts.toList.length) (hv:∀ (i:Nat) a b,pv[i]? = some a->parts.toList[i]? = some b->a.1=b.1/\UR ρ a.2 b.2) :
 ∃ v w' c,(Instr.buildSlice t len parts).run P w = .ok v w'/\UR (ρ.set fr (w.heap.size,0) c) e.val v/\Fr w0.heap.size ρ (ρ.set fr (w.heap.size,0) c) w w' e:=by
 unfold sBSliceE at h
 split at h
 ·rename_i E hT;obtain ⟨d,hT,hd⟩:=tt_u htt hT;obtain rfl:=u_slice hd
  split at h
  ·rename_i xi hxi;obtain ⟨g1,g2,i,z,g3,g4,g5,g6,g7⟩:=tt_el htt hxi
   split at h
   ·rename_i hlen;have hlen:=Nat.le_of_ble_eq_true hlen
    split at h
    ·rename_i l ps hf
     split at h
     ·rename_i r zd hr hzd;obtain rfl:=by simpa using h
      have hzr:(zeroValue E).run P w = .ok z w:=by simp [zeroValue,typeInfo,g3,g5]
      have hsz:z.cells.size=xi.ks.length:=by simpa using (toDs_spec hzd (g7 ρ)).2.1
      have hcs:CsRel ρ (cellsOf (List.replicate len xi.zero).flatten) ((Array.range (len*xi.ks.length)).map (z.cells[· % z.cells.size]!)).toList:=by
       rw [<- hsz,rep_cells (by omega)];exact csrel_rep (g7 ρ) len
      obtain ⟨cells',h1,h2⟩:=fillS_spec pv parts.toList _ l ps _ hf hvc hl hv hcs;have hno:¬ len*xi.ks.length>2 ^ 24:=by omega
      obtain ⟨k1,k2,k3⟩:=rowsDs_spec len l r hr _ h2;refine ⟨.slice (some ⟨w.heap.size,0,none⟩) len len,w.alloc (.cells cells' E),len,?_,osl_new rfl (Nat.le_refl _),?_⟩
      ·simp only [Instr.buildSlice,Sem.run_bind,run_underlying hT,Result.andThen_ok,run_sizeOf g3,g4,if_neg hno]
       by_cases h0:len*xi.ks.length=0
       ·have hl0:len=0:=by
         rcases Nat.mul_eq_zero.1 h0 with h |h
         ·exact h
         ·omega
        subst hl0;simp only [if_pos h0,Sem.run_bind,Sem.run_pure,Result.andThen_ok];have e0:((Array.range (0*xi.ks.length)).map fun q=>(#[]:Array Value)[q%(#[]:Array Value).size]!)=((Array.range (0*xi.ks.length)).map (z.cells[· % z.cells.size]!)):=by simp
        rw [e0,h1];rfl
       ·simp only [if_neg h0,Sem.run_bind,hzr,Sem.run_pure,Result.andThen_ok];rw [h1];rfl
      ·refine fr_orow hB hz (hfr fr _ (by simp only [look];rw [if_pos (by simp)])) (.inl rfl) ?_ _ _;refine rowAt_of (rest:=[]) ?_ (by rw [k2,k1,g1]) ?_ (by rw [g1];exact g2) fun i j k hi hk=>?_
       ·show (w.heap.push _)[w.heap.size]? = _
        simp
       ·rw [List.append_nil,k2,g1]
       ·rw [g1] at hk ⊢;exact k3 i j k (by omega) hk
     ·cases h
    ·cases h
   ·cases h
  ·cases h
 ·cases h
theorem trel_one {fz:Fz} {k:K} {d:D} {v:Value} (h:TRel fz k d v):v.oneCell'=true:=by cases h<;>rfl
theorem row_vals {fz:Fz} {f:Nat->Option Value} {m:Nat} {e:TypeId} {d:D} (h0:0<(eks e).length) (h:∀ i j k,i<m->(eks e)[j]? = some k->∃ u,f (i*(eks e).length+j)=some u/\TRel fz k (d.el i j) u) :
 ∃ vs:List Value,vs.length=m*(eks e).length/\(∀ (q:Nat) u,vs[q]? = some u->f q=some u)/\(∀ v∈vs,v.oneCell'=true)/\∀ (i j:Nat) k,i<m->(eks e)[j]? = some k->∃ u,vs[i*(eks e).length+j]? = some u/\TRel fz k (d.el i j) u:=by
 have key:∀ q,q<m*(eks e).length->∃ u k,f q=some u/\TRel fz k (d.el (q/(eks e).length) (q%(eks e).length)) u:=fun q hq=>by
  have hi:q/(eks e).length<m:=Nat.div_lt_of_lt_mul (by rw [Nat.mul_comm];exact hq);have hj:q%(eks e).length<(eks e).length:=Nat.mod_lt _ h0;obtain ⟨u,hu,ht⟩:=h _ _ _ hi (List.getElem?_eq_getElem hj);rw [Nat.div_add_mod' q] at hu;exact ⟨u,_,hu,ht⟩
 have hg:∀ q,q<m*(eks e).length->((List.range (m*(eks e).length)).map fun q=>(f q).getD undef)[q]? = f q:=fun q hq=>by
  obtain ⟨u,k,hu,_⟩:=key q hq;rw [List.getElem?_map,List.getElem?_range hq,hu];simp [hu]
 refine ⟨(List.range (m*(eks e).length)).map fun q=>(f q).getD undef,by simp,fun q u hu=>?_,fun v hv=>?_,fun i j k hi hj=>?_⟩
 ·have hq:q<m*(eks e).length:=by simpa using lt_of_get hu
  rw [hg q hq] at hu;exact hu
 ·obtain ⟨q,hq,rfl⟩:=List.mem_map.1 hv;obtain ⟨u,k,hu,ht⟩:=key q (List.mem_range.1 hq);rw [hu];exact trel_one ht
 ·obtain ⟨u,hu,ht⟩:=h i j k hi hj;refine ⟨u,?_,ht⟩;rw [hg,hu];have hj':=lt_of_get hj
  calc i*(eks e).length+j<i*(eks e).length+(eks e).length:=by omega
   _=(i+1)*(eks e).length:=by rw [Nat.add_mul];omega
   _<=m*(eks e).length:=Nat.mul_le_mul_right _ hi
def conE (hp:Heap) (e:TypeId):SC->Option (D × List Prop)
 | .nils=>some (.l [],[])
 | .rows e' d=>if Nat.beq e e' then some (d,[]) else none
 | .osl e' id lo n=>if Nat.beq e e' then (match look hp id with
   |some (.orow e'' d)=>if Nat.beq e e'' then some (d.sub lo.v (lo.v+n.v),[lo.v+n.v<=d.len]) else none
   |_=>none) else none
 |_=>none
theorem conE_spec {hp:Heap} {e:TypeId} {c:SC} {d:D} {ps:List Prop} (h:conE hp e c=some (d,ps)) (hps:All ps) (h0:0<(eks e).length) {w0:W0} {w:World} {ρ:Map} (hw:WH w0 ρ hp w) {v:Value} (hv:CRel ρ c v) :
 ∃ A cp,v = .slice A d.len cp/\d.len<=cp/\∃ vs:List Value,vs.length=d.len*(eks e).length/\(∀ (q:Nat) u,vs[q]? = some u->∃ a,A=some a/\w.cell? (a.add q)=some u)/\(∀ v∈vs,v.oneCell'=true) /\
   ∀ (i j:Nat) k,i<d.len->(eks e)[j]? = some k->∃ u,vs[i*(eks e).length+j]? = some u/\TRel ρ.fz k (d.el i j) u:=by
 have none:∀ {A:Option Addr} {cp:Nat} {d:D},d.len=0->∃ A' cp',Value.slice A 0 cp = .slice A' d.len cp'/\d.len<=cp'/\∃ vs:List Value,vs.length=d.len*(eks e).length/\(∀ (q:Nat) u,vs[q]? = some u->∃ a,A'=some a/\w.cell? (a.add q)=some u)/\(∀ v∈vs,v.oneCell'=true) /\
  ∀ (i j:Nat) k,i<d.len->(eks e)[j]? = some k->∃ u,vs[i*(eks e).length+j]? = some u/\TRel ρ.fz k (d.el i j) u:=fun {A cp d} hd=>
  ⟨A,cp,by rw [hd],by omega,[],by rw [hd];simp,fun q u hu=>by simp at hu,fun v hv=>by simp at hv,fun i j k hi=>by omega⟩
 unfold conE at h
 split at h
 ·obtain ⟨rfl,rfl⟩:=by simpa using h
  obtain rfl:v=_:=hv;exact none rfl
 ·rename_i e' d'
  split at h
  ·rename_i he;obtain rfl:=Nat.eq_of_beq_eq_true he;obtain ⟨rfl,rfl⟩:=by simpa using h
   have hv':TRel ρ.fz (.slice e) d' v:=hv
   cases hv' with
   |nil _ _ hd=>exact none hd
   |empty _ _ a c hd=>exact none hd
   |slice _ _ b o cp u hc hcell hrel=>
    obtain ⟨vs,h1,h2,h3,h4⟩:=row_vals (m:=d'.len) (d:=d') (fz:=ρ.fz) (f:=fun q=>Fz.cell ρ.fz b (o+q)) h0 (fun i j k hi hk=>⟨u i j,by rw [<- Nat.add_assoc];exact hcell i j hi (lt_of_get hk),hrel i j k hi hk⟩);exact ⟨_,cp,rfl,hc,vs,h1,fun q u hu=>⟨_,rfl,by rw [addr_add];exact hw.froz.cell (h2 q u hu)⟩,h3,h4⟩
  ·cases h
 ·rename_i e' id lo n
  split at h
  ·rename_i he;obtain rfl:=Nat.eq_of_beq_eq_true he
   split at h
   ·rename_i e'' d' hl
    split at h
    ·rename_i he';obtain rfl:=Nat.eq_of_beq_eq_true he';obtain ⟨rfl,rfl⟩:=by simpa using h
     obtain ⟨hle,_⟩:=hps;obtain ⟨A,cp,rfl,hc,hA⟩:=hv;have hlen:(d'.sub lo.v (lo.v+n.v)).len=n.v:=by rw [D.sub_len _ hle];omega
     rcases hA with hc0 |⟨rfl,hcap,hid⟩
     ·have hn:n.v=0:=by omega
      rw [hn];exact none (by rw [Nat.add_zero,D.sub_len _ (by omega)];omega)
     ·rcases hw.ents id _ hl with ⟨g0,_⟩ |⟨_,_,_,cs,hh,hsz,hd,hcs⟩
      ·rw [g0] at hid;cases hid
      ·obtain ⟨vs,h1,h2,h3,h4⟩:=row_vals (m:=n.v) (d:=d'.sub lo.v (lo.v+n.v)) (fz:=ρ.fz) (f:=fun q=>cs[lo.v*(eks e).length+q]?) h0 (fun i j k hi hk=>by
        obtain ⟨u,hu,ht⟩:=hcs (lo.v+i) j k (by omega) hk;refine ⟨u,?_,?_⟩
        ·rw [<- hu];congr 1;rw [Nat.add_mul];omega
        ·rw [D.sub_el _ (by omega)];exact ht)
       refine ⟨_,cp,by rw [hlen],by omega,vs,by rw [hlen];exact h1,fun q u hu=>⟨_,rfl,?_⟩,h3,by rw [hlen];exact h4⟩;rw [addr_add];simp only [World.cell?,hh]
       simpa using h2 q u hu
    ·cases h
   ·cases h
  ·cases h
 ·cases h
theorem run_append_fit {P:Program} {w w':World} (t ty e:TypeId) (i:TypeInfo) (ht:P.underlying t=some (.slice e)) (hi:P.info? e=some i) (A A2:Option Addr) (n c m c2:Nat) (news:List Value) (hl:news.length=m*i.size) (hf:∀ (q:Nat) u,news[q]? = some u->∃ a,A2=some a/\w.cell? (a.add q)=some u)
 (hle:n+m<=c) (hst:(match A with |some a=>storeCells (a.add (n*i.size)) news |none=>(pure ():Sem Unit)).run P w = .ok () w') :
 (Builtin.append_ #[t,t] ty #[.slice A n c,.slice A2 m c2]).run P w = .ok (.slice A (n+m) c) w':=by
 have hfirst:(Builtin.firstCells i.size m (.slice A2 m c2)).run P w = .ok news.toArray w:=by
  cases A2 with
  |none=>
   have:news=[]:=by
    cases news with
    |nil=>rfl
    |cons v r=>obtain ⟨a,ha,_⟩:=hf 0 v rfl;cases ha
   subst this;rfl
  |some a=>exact run_firstCells_some w i.size m a m c2 news hl (fun j v hv=>by
    obtain ⟨a',ha,hc⟩:=hf j v hv;obtain rfl:=by simpa using ha
    exact hc)
 cases A with
 |none=>
  have:w=w':=by simpa using hst
  subst this;simp [Builtin.append_,run_underlying ht,sizeOf,typeInfo,hi,Builtin.lenOf,hle,hfirst]
 |some a=>
  simp only at hst
  simp [Builtin.append_,run_underlying ht,sizeOf,typeInfo,hi,Builtin.lenOf,hle,hfirst,hst]
theorem grownCap_le (w:World) (need old:Nat) (e:TypeId):need<=grownCap w need old e:=by
 unfold grownCap;simp only [Question.cut];omega
def D.app (d d2:D):D:=.l (d.rows++d2.rows)
theorem D.app_len (d d2:D):(d.app d2).len=d.len+d2.len:=by
 show (d.rows++d2.rows).length=_;rw [List.length_append];rfl
theorem D.app_el (d d2:D) (i j:Nat):(d.app d2).el i j=if i<d.len then d.el i j else d2.el (i-d.len) j:=by
 show ((d.rows++d2.rows).getD i []).getD j (.i 0)=_;have hl:d.len=d.rows.length:=rfl;split
 ·rw [List.getD_eq_getElem?_getD (l:=_++_),List.getElem?_append_left (by omega),<- List.getD_eq_getElem?_getD];rfl
 ·rw [List.getD_eq_getElem?_getD (l:=_++_),List.getElem?_append_right (by omega),<- List.getD_eq_getElem?_getD];rfl
theorem app_spec {P:Program} {hp:Heap} {e:TypeId} {w0:W0} {w:World} {ρ:Map} (hw:WH w0 ρ hp w) {fr:Nat} (hfr:ρ fr=none) {t ty:TypeId} {i:TypeInfo} {z:Value} (ht:P.underlying t=some (.slice e)) (hi:P.info? e=some i) (hz:i.zero=some z) (hzs:z.cells.size=(eks e).length) (his:i.size=(eks e).length) (h0:0<(eks e).length) (hb:0<i.bytes)
 {A A2:Option Addr} {n c m c2:Nat} {d d2:D} (hn:d.len=n) (hm:d2.len=m) {st:Heap} (hs:(c=0/\n=0/\∀ id x,look st id=some x->x = .gone) ∨ ∃ id,A=some ⟨ρ.blk id,0,none⟩/\st=[(id,.gone)]/\look hp id=some (.orow e d)/\(ρ id).isSome=true/\c<=ρ.cap id) (hnc:n<=c) (hsp:c=0->∀ a,A=some a->a.spot=none)
 {news:List Value} (hl:news.length=m*(eks e).length) (hf:∀ (q:Nat) u,news[q]? = some u->∃ a,A2=some a/\w.cell? (a.add q)=some u) (h1:∀ v∈news,v.oneCell'=true) (hr:∀ (i j:Nat) k,i<m->(eks e)[j]? = some k->∃ u,news[i*(eks e).length+j]? = some u/\TRel ρ.fz k (d2.el i j) u)
 (hby:(n+m)*i.bytes<=140737488355328) (sv:SV) (vc:List Prop) {N:SN} (hN:N.v=n+m) :
 ∃ v w' ρ',(Builtin.append_ #[t,t] ty #[.slice A n c,.slice A2 m c2]).run P w = .ok v w'/\CRel ρ' (.osl e fr (.lit 0) N) v/\Fr w0.heap.size ρ ρ' w w' {val:=sv,vc:=vc,st:=st,nw:=[(fr,.orow e (d.app d2))]}:=by
 have hB:w0.heap.size<=w.heap.size:=hw.below.size;have hlook:∀ id y,look [(fr,Ent.orow e (d.app d2))] id=some y->id=fr/\y = .orow e (d.app d2):=fun id y hy=>by
  simp only [look] at hy
  split at hy
  ·rename_i he;exact ⟨(by simpa using he:fr=id).symm,by simpa using hy.symm⟩
  ·cases hy
 have hstg:∀ id x,look st id=some x->x = .gone:=by
  rcases hs with ⟨_,_,h⟩ |⟨id,_,rfl,_⟩
  ·exact h
  ·intro j x hx;simp only [look] at hx
   split at hx
   ·exact (by simpa using hx.symm)
   ·cases hx
 have hln:news.length=m*i.size:=by rw [his];exact hl
 by_cases hfit:n+m<=c
 ·by_cases hc0:c=0
  ·
   have hn0:n=0:=by omega
   have hm0:m=0:=by omega
   subst hn0 hm0;have hnews:news=[]:=List.length_eq_zero_iff.1 (by rw [hl];simp);subst hnews;refine ⟨_,w,ρ,run_append_fit (w':=w) t ty e i ht hi A A2 0 c 0 c2 [] (by simp) hf hfit (by cases A<;>rfl),⟨A,c,by rw [hN],by rw [hN];exact hnc,.inl ⟨hc0,hsp hc0⟩⟩,?_⟩;refine ⟨Ext.refl ρ,fun _ _=>rfl,Below.refl 0 w,fun _ _ _=>rfl,fun id x hx=>by rw [hstg id x hx];trivial,fun id x hx=>?_,fun a b x y ha hb' hne=>absurd ((hlook a x ha).1.trans (hlook b y hb').1.symm) hne,fun b cs h=>.inl h,rfl⟩;obtain ⟨rfl,rfl⟩:=hlook id x hx;exact ⟨.inl ⟨hfr,by rw [D.app_len,hn,hm]⟩,(fun hi=>by rw [hfr] at hi;cases hi),rfl⟩
  ·
   obtain ⟨id,rfl,rfl,hl',hid,hcap⟩:=hs.resolve_left fun h=>hc0 h.1
   rcases hw.ents id _ hl' with ⟨g0,_⟩ |⟨_,hoff,hM,cs,hh,hsz,hd,hcs⟩
   ·rw [g0] at hid;cases hid
   have hne:id≠fr:=fun e=>by subst e;rw [hfr] at hid;cases hid
   have hroom:n*(eks e).length+news.length<=cs.size:=by
    rw [hl,hsz,<- Nat.add_mul];exact Nat.mul_le_mul_right _ (by omega)
   have hst:=run_storeCells_at P (ρ.blk id) (n*(eks e).length) e news 0 cs w hh (by omega) h1;simp only [Nat.add_zero] at hst;have hblk:(ρ.set fr (ρ.blk id,0) (ρ.cap id)).blk fr=ρ.blk id:=by simp [Map.blk,Map.set]
   have hcp:(ρ.set fr (ρ.blk id,0) (ρ.cap id)).cap fr=ρ.cap id:=by simp [Map.set]
   have hsm:((ρ.set fr (ρ.blk id,0) (ρ.cap id)) fr).isSome=true:=by simp [Map.set]
   refine ⟨_,_,ρ.set fr (ρ.blk id,0) (ρ.cap id),run_append_fit t ty e i ht hi _ A2 n c m c2 news hln hf hfit (w':=w.setRow (ρ.blk id) (cs.toList.take (n*(eks e).length)++news++cs.toList.drop (n*(eks e).length+news.length)).toArray) (by rw [his];simp only [addr_add,Nat.zero_add];exact hst),?_,?_⟩
   ·exact ⟨_,c,by rw [hN],by rw [hN];exact hfit,.inr ⟨by rw [hblk];simp [SN.v],by rw [hcp];simpa [SN.v] using hcap,hsm⟩⟩
   ·have hrow:RowAt (ρ.set fr (ρ.blk id,0) (ρ.cap id)) (w.setRow (ρ.blk id) (cs.toList.take (n*(eks e).length)++news++cs.toList.drop (n*(eks e).length+news.length)).toArray) (ρ.blk id) (ρ.cap id) e (d.app d2):=by
     refine ⟨_,setRow_heap _ _ _ _ _ _ hh,?_,by rw [D.app_len];omega,fun a j k ha hk=>?_⟩
     ·simp;omega
     ·have hj:=lt_of_get hk;rw [D.app_len] at ha;rw [D.app_el];have hpos:∀ {x y:Nat},x<y->x*(eks e).length+j<y*(eks e).length:=fun {x y} hxy=>by
       calc x*(eks e).length+j<x*(eks e).length+(eks e).length:=by omega
        _=(x+1)*(eks e).length:=by rw [Nat.add_mul];omega
        _<=y*(eks e).length:=Nat.mul_le_mul_right _ hxy
      by_cases han:a<d.len
      ·rw [if_pos han];obtain ⟨u,hu,htr⟩:=hcs a j k han hk;refine ⟨u,?_,htr⟩;have h3:a*(eks e).length+j<n*(eks e).length:=hpos (by omega);rw [List.getElem?_toArray,List.append_assoc,List.getElem?_append_left (by simp;omega),List.getElem?_take_of_lt h3]
       simpa using hu
      ·rw [if_neg han];obtain ⟨u,hu,htr⟩:=hr (a-d.len) j k (by omega) hk;refine ⟨u,?_,htr⟩;have e1:a*(eks e).length+j=n*(eks e).length+((a-d.len)*(eks e).length+j):=by
        rw [<- Nat.add_assoc,<- Nat.add_mul];congr 2;omega
       have h3:(a-d.len)*(eks e).length+j<news.length:=by rw [hl];exact hpos (by omega)
       have e2:(cs.toList.take (n*(eks e).length)).length=n*(eks e).length:=by simp;omega
       rw [List.getElem?_toArray,List.append_assoc,List.getElem?_append_right (by rw [e2,e1];omega),e2,e1,Nat.add_sub_cancel_left,List.getElem?_append_left h3];exact hu
    refine ⟨set_ext hfr _ _,fun j hj=>?_,⟨rfl,rfl,rfl,by simp,fun k hk=>absurd hk (Nat.not_lt_zero k)⟩,fun b hb' hk=>?_,fun j x hx=>by rw [hstg j x hx];trivial,fun j x hx=>?_,fun a b x y ha hb' hne'=>absurd ((hlook a x ha).1.trans (hlook b y hb').1.symm) hne',fun b q h=>.inl h,rfl⟩
    ·rw [set_ne];intro e';subst e';simp [look] at hj
    ·exact setRow_other _ _ _ _ (fun e'=>hk id .gone (by simp [look]) hid e'.symm)
    ·obtain ⟨rfl,rfl⟩:=hlook j x hx;refine ⟨.inr ⟨hsm,by simp [Map.off,Map.set],by rw [hblk];exact ⟨hM.1,hM.2⟩,by rw [hblk,hcp];exact hrow⟩,fun _=>.inr ⟨id,by simp [look],hid,hblk⟩,rfl⟩
 ·
  have hm0:0<m:=by omega
  obtain ⟨a2,rfl⟩:∃ a,A2=some a:=by
   have:0<news.length:=by rw [hl];exact Nat.mul_pos hm0 h0
   obtain ⟨a,ha,_⟩:=hf 0 news[0] (List.getElem?_eq_getElem this);exact ⟨a,ha⟩
  have hf':∀ (j:Nat) v,news[j]? = some v->w.cell? (a2.add j)=some v:=fun j v hv=>by
   obtain ⟨a,ha,hc⟩:=hf j v hv;obtain rfl:=by simpa using ha
   exact hc
  have hbn:n+m<=(n+m)*i.bytes:=Nat.le_mul_of_pos_right _ hb;obtain ⟨olds,o1,o2,o3⟩:∃ olds:List Value,olds.length=n*(eks e).length/\(∀ (q:Nat) u,olds[q]? = some u->∃ a,A=some a/\w.cell? (a.add q)=some u)/\∀ (i j:Nat) k,i<n->(eks e)[j]? = some k->∃ u,olds[i*(eks e).length+j]? = some u/\TRel ρ.fz k (d.el i j) u:=by
   rcases hs with ⟨_,rfl,_⟩ |⟨id,rfl,rfl,hl',hid,hcap⟩
   ·exact ⟨[],by simp,fun q u hu=>by simp at hu,fun i j k hi=>by omega⟩
   ·rcases hw.ents id _ hl' with ⟨g0,_⟩ |⟨_,hoff,hM,cs,hh,hsz,hd,hcs⟩
    ·rw [g0] at hid;cases hid
    ·obtain ⟨vs,h1,h2,_,h4⟩:=row_vals (m:=n) (d:=d) (fz:=ρ.fz) (f:=fun q=>cs[q]?) h0 (fun i j k hi hk=>hcs i j k (by omega) hk);refine ⟨vs,h1,fun q u hu=>⟨_,rfl,?_⟩,h4⟩;rw [addr_add];simp only [World.cell?,hh,Nat.zero_add]
     simpa using h2 q u hu
  have hge:=grownCap_le w (n+m) c e;have hrun:∃ old:Nat,(Builtin.append_ #[t,t] ty #[.slice A n c,.slice (some a2) m c2]).run P w = .ok (.slice (some ⟨w.heap.size,0,none⟩) (n+m) (grownCap w (n+m) old e)) (w.drew.alloc (.cells (olds.toArray++news.toArray++Builtin.zeroCells z.cells (grownCap w (n+m) old e-(n+m))) e)):=by
   cases A with
   |none=>
    have hn0:n=0:=by
     rcases hs with ⟨_,h,_⟩ |⟨id,h,_⟩
     ·exact h
     ·cases h
    have hc0:c=0:=by
     rcases hs with ⟨h,_⟩ |⟨id,h,_⟩
     ·exact h
     ·cases h
    subst hn0 hc0;have ho:olds=[]:=List.length_eq_zero_iff.1 (by rw [o1];simp);subst ho;refine ⟨0,?_⟩;have:=run_append_nil (P:=P) (w:=w) t ty e i z ht hi hz a2 m c2 news hln hf' hm0 (by omega) (by rw [Nat.zero_add] at hby;omega)
    simpa using this
   |some a1=>
    refine ⟨c,?_⟩;exact run_append_grow (P:=P) (w:=w) t ty e i z ht hi hz a1 n c olds (by rw [his];exact o1) (fun j v hv=>by
     obtain ⟨a,ha,hc⟩:=o2 j v hv;obtain rfl:=by simpa using ha
     exact hc) a2 m c2 news hln hf' (by omega) (by omega) (growslice_fits (by omega) hby)
  obtain ⟨old,hrun⟩:=hrun;have hge:=grownCap_le w (n+m) old e;refine ⟨_,_,ρ.set fr (w.heap.size,0) (grownCap w (n+m) old e),hrun,osl_new hN hge,?_⟩;have hrow:RowAt ρ (w.drew.alloc (.cells (olds.toArray++news.toArray++Builtin.zeroCells z.cells (grownCap w (n+m) old e-(n+m))) e)) w.heap.size (grownCap w (n+m) old e) e (d.app d2):=by
   refine rowAt_of (vs:=olds++news) (rest:=(Builtin.zeroCells z.cells (grownCap w (n+m) old e-(n+m))).toList) ?_ ?_ ?_ h0 fun a j k ha hk=>?_
   ·show (w.heap.push _)[w.heap.size]? = _;simp [List.append_assoc]
   ·rw [List.length_append,o1,hl,List.length_append,Nat.add_mul];have e1:d.rows.length=n:=hn;have e2:d2.rows.length=m:=hm;rw [e1,e2]
   ·simp only [List.length_append,o1,hl,Array.length_toList,size_zeroCells,hzs];rw [<- Nat.add_mul,<- Nat.add_mul]
    congr 1;omega
   ·have ha':a<n+m:=by
     rw [List.length_append] at ha;have e1:d.rows.length=n:=hn;have e2:d2.rows.length=m:=hm;omega
    have hj:=lt_of_get hk;have hpos:∀ {x y:Nat},x<y->x*(eks e).length+j<y*(eks e).length:=fun {x y} hxy=>by
     calc x*(eks e).length+j<x*(eks e).length+(eks e).length:=by omega
      _=(x+1)*(eks e).length:=by rw [Nat.add_mul];omega
      _<=y*(eks e).length:=Nat.mul_le_mul_right _ hxy
    have hel:((d.rows++d2.rows).getD a []).getD j (.i 0)=if a<d.len then d.el a j else d2.el (a-d.len) j:=D.app_el d d2 a j
    rw [hel]
    by_cases han:a<n
    ·rw [if_pos (by omega)];obtain ⟨u,hu,htr⟩:=o3 a j k han hk;exact ⟨u,by rw [List.getElem?_append_left (by rw [o1];exact hpos han)];exact hu,htr⟩
    ·rw [if_neg (by omega)];obtain ⟨u,hu,htr⟩:=hr (a-d.len) j k (by omega) hk;refine ⟨u,?_,htr⟩;have e1:a*(eks e).length+j=n*(eks e).length+((a-d.len)*(eks e).length+j):=by
      rw [<- Nat.add_assoc,<- Nat.add_mul];congr 2;omega
     rw [List.getElem?_append_right (by rw [o1,e1];omega),o1,e1,Nat.add_sub_cancel_left];exact hu
  have hf0:=fr_orow (B:=w0.heap.size) (d:=d.app d2) (c:=grownCap w (n+m) old e) hB hw.froz hfr (.inr rfl) hrow sv vc;obtain ⟨f1,f2,f3,f4,f5,f6,f7,f8,f9⟩:=hf0;refine ⟨f1,f2,f3,fun b hb' hk=>f4 b hb' fun _ _ h=>by simp [look] at h,fun j x hx=>by rw [hstg j x hx];trivial,fun j x hx=>?_,f7,fun b q h=>?_,f9⟩
  ·obtain ⟨q1,q2,q3⟩:=f6 j x hx;refine ⟨q1,fun hi=>.inl ?_,q3⟩
   rcases q2 hi with h |⟨k,hk,_⟩
   ·exact h
   ·simp [look] at hk
  ·rcases f8 b q h with h |⟨h |⟨k,hk,_⟩,h2,h3⟩
   ·exact .inl h
   ·exact .inr ⟨.inl h,h2,h3⟩
   ·simp [look] at hk
def sAppend (tt:TT) (hp:Heap) (fr:Nat) (T:TypeId) (a b:SV):Option Eff:=
 match uD tt T,a,b with
 |some (.slice e),.one (.sc a),.one (.sc b)=>(match elT tt e with
  |some x=>(match conE hp e b,toDs x.zero x.ks with
   |some (d2,ps),some _=>if Nat.blt 0 x.bytes then (match a with
    | .nils=>some {val:=.one (.sc (.osl e fr (.lit 0) (.sym (0+d2.len)))),vc:=((0+d2.len)*x.bytes<=140737488355328)::ps,nw:=[(fr,.orow e ((D.l []).app d2))]}
    | .osl e' id (.lit 0) n=>if Nat.beq e e' then (match look hp id with
      |some (.orow e'' d)=>if Nat.beq e e'' then some {val:=.one (.sc (.osl e fr (.lit 0) (.sym (n.v+d2.len)))),vc:=(n.v=d.len)::((n.v+d2.len)*x.bytes<=140737488355328)::ps,st:=[(id,.gone)],nw:=[(fr,.orow e (d.app d2))]} else none
      |_=>none) else none
    |_=>none) else none
   |_,_=>none)
  |none=>none)
 |_,_,_=>none
theorem sAppend_spec {P:Program} {tt:TT} (htt:TTOK P tt) {hp:Heap} {fr:Nat} {T:TypeId} {a b:SV} {e:Eff} (h:sAppend tt hp fr T a b=some e) (hvc:All e.vc) {ρ:Map} {w0:W0} {w:World} (hw:WH w0 ρ hp w) (hfr:∀ id x,look e.nw id=some x -> ρ id=none) {x y:Value} (hx:UR ρ a x) (hy:UR ρ b y) (ty:TypeId) :
 ∃ v w' ρ',(Builtin.append_ #[T,T] ty #[x,y]).run P w = .ok v w'/\UR ρ' e.val v/\Fr w0.heap.size ρ ρ' w w' e:=by
 unfold sAppend at h
 split at h
 ·rename_i el a b hT;obtain ⟨d,hT,hd⟩:=tt_u htt hT;obtain rfl:=u_slice hd
  split at h
  ·rename_i xi hxi;obtain ⟨g1,g2,i,z,g3,g4,g5,g6,g7⟩:=tt_el htt hxi
   split at h
   ·rename_i d2 ps zd hc hzd
    split at h
    ·rename_i hby;have hby:0<xi.bytes:=by simpa [Nat.blt_eq] using hby
     have hzs:z.cells.size=(eks el).length:=by rw [g1];simpa using (toDs_spec hzd (g7 ρ)).2.1
     split at h
     ·simp only [Option.some.injEq] at h;subst h;obtain ⟨hb1,hps⟩:=hvc;obtain rfl:x=_:=hx;obtain ⟨A2,c2,rfl,hc2,vs,k1,k2,k3,k4⟩:=conE_spec hc hps (by rw [g1];exact g2) hw hy;obtain ⟨v,w',ρ',r1,r2,r3⟩:=app_spec (P:=P) (d:=.l []) (d2:=d2) (st:=[]) (A:=none) (A2:=A2) (n:=0) (c:=0) (c2:=c2) (N:=.sym (0+d2.len)) hw (hfr fr _ (by simp only [look];rw [if_pos (by simp)])) hT g3 g5 hzs (by rw [g4,g1]) (by rw [g1];exact g2) (by rw [g6];exact hby) (ty:=ty) rfl rfl
       (.inl ⟨rfl,rfl,fun _ _ h=>by simp [look] at h⟩) (Nat.le_refl _) (fun _ _ h=>by cases h) k1 k2 k3 k4 (by rw [g6];exact hb1) (.one (.sc (.osl el fr (.lit 0) (.sym (0+d2.len))))) (((0+d2.len)*xi.bytes<=140737488355328)::ps) rfl
      exact ⟨v,w',ρ',r1,r2,r3⟩
     ·rename_i e' id n
      split at h
      ·rename_i hee;obtain rfl:=Nat.eq_of_beq_eq_true hee
       split at h
       ·rename_i e'' d hl
        split at h
        ·rename_i hee';obtain rfl:=Nat.eq_of_beq_eq_true hee';obtain rfl:=by simpa using h
         obtain ⟨hn,hb1,hps⟩:=hvc;obtain ⟨A,c,rfl,hnc,hA⟩:=hx;obtain ⟨A2,c2,rfl,hc2,vs,k1,k2,k3,k4⟩:=conE_spec hc hps (by rw [g1];exact g2) hw hy;obtain ⟨v,w',ρ',r1,r2,r3⟩:=app_spec (P:=P) (d:=d) (d2:=d2) (st:=[(id,.gone)]) (A:=A) (A2:=A2) (n:=n.v) (c:=c) (c2:=c2) (N:=.sym (n.v+d2.len)) hw (hfr fr _ (by simp only [look];rw [if_pos (by simp)])) hT g3 g5 hzs (by rw [g4,g1]) (by rw [g1];exact g2) (by rw [g6];exact hby) (ty:=ty) hn.symm rfl
          (by
            rcases hA with ⟨hc0,_⟩ |⟨rfl,hcap,hid⟩
            ·left
             refine ⟨hc0,by omega,fun j x hj=>?_⟩;simp only [look] at hj
             split at hj
             ·exact (by simpa using hj.symm)
             ·cases hj
            ·right
             exact ⟨id,by simp [SN.v],rfl,hl,hid,by simpa [SN.v] using hcap⟩) hnc (by
            intro _ a ha
            rcases hA with ⟨_,h0⟩ |⟨rfl,_,_⟩
            ·exact h0 a ha
            ·obtain rfl:=by simpa using ha
             rfl) k1 k2 k3 k4 (by rw [g6];exact hb1) (.one (.sc (.osl el fr (.lit 0) (.sym (n.v+d2.len))))) ((n.v=d.len)::((n.v+d2.len)*xi.bytes<=140737488355328)::ps) rfl
         exact ⟨v,w',ρ',r1,r2,r3⟩
        ·cases h
       ·cases h
      ·cases h
     ·cases h
    ·cases h
   ·cases h
  ·cases h
 ·cases h
def D.setc (d:D) (sz i j:Nat) (ds:List D):D:=if Nat.beq j 0&&Nat.beq ds.length sz then .l (d.rows.set i ds) else .l (d.rows.set i ((List.range sz).map fun q=>if Nat.ble j q&&Nat.blt q (j+ds.length) then ds.getD (q-j) (.i 0) else d.el i q))
theorem D.setc_len (d:D) (sz i j:Nat) (ds:List D):(d.setc sz i j ds).len=d.len:=by
 unfold D.setc
 split<;>(show (List.set _ _ _).length=_;rw [List.length_set];rfl)
theorem D.setc_el {d:D} {sz i j:Nat} {ds:List D} (hi:i<d.len) (hj:j+ds.length<=sz) (a q:Nat) (hq:q<sz):(d.setc sz i j ds).el a q=if a=i/\j<=q/\q<j+ds.length then ds.getD (q-j) (.i 0) else d.el a q:=by
 have key:∀ (r:List D),(D.l (d.rows.set i r)).el a q=if a=i then r.getD q (.i 0) else d.el a q:=fun r=>by
  show ((d.rows.set i r).getD a []).getD q (.i 0)=_;rw [List.getD_eq_getElem?_getD (l:=List.set _ _ _),List.getElem?_set];have hi':i<d.rows.length:=hi
  by_cases ha:i=a
  ·subst ha;rw [if_pos rfl,if_pos hi',if_pos rfl];rfl
  ·rw [if_neg ha,if_neg (fun e=>ha e.symm),<- List.getD_eq_getElem?_getD];rfl
 unfold D.setc;split
 ·rename_i hb;simp only [Bool.and_eq_true] at hb;have h1:=Nat.eq_of_beq_eq_true hb.1;have h2:=Nat.eq_of_beq_eq_true hb.2;subst h1;rw [key]
  by_cases ha:a=i
  ·rw [if_pos ha,if_pos ⟨ha,Nat.zero_le _,by omega⟩];rfl
  ·rw [if_neg ha,if_neg (fun h=>ha h.1)]
 ·rw [key]
  by_cases ha:a=i
  ·subst ha;rw [if_pos rfl,List.getD_eq_getElem?_getD (l:=List.map _ _),List.getElem?_map,List.getElem?_range hq];simp only [Option.map_some,Option.getD_some,Bool.and_eq_true,Nat.ble_eq,Nat.blt_eq,true_and]
  ·rw [if_neg ha,if_neg (fun h=>ha h.1)]
def sStoreE (tt:TT) (hp:Heap) (T e:TypeId) (id i j:Nat) (v:V1):Option Eff:=
 match elT tt e,look hp id,szT tt T with
 |some x,some (.orow e' d),some n=>if Nat.beq e e'&&v.ok&&Nat.ble (j+n) x.ks.length then (match toDs v.segs ((x.ks.drop j).take n) with
   |some ds=>some {val:=.tup [],vc:=[i<d.len],st:=[(id,.orow e (d.setc x.ks.length i j ds))]}
   |none=>none) else none
 |_,_,_=>none
theorem sStoreE_spec {P:Program} {tt:TT} (htt:TTOK P tt) {hp:Heap} {T e:TypeId} {id i j:Nat} {v:V1} {ef:Eff} (h:sStoreE tt hp T e id i j v=some ef) (hvc:All ef.vc) {ρ:Map} {w0:W0} {w:World} (hw:WH w0 ρ hp w) {pv x:Value} (hp':CRel ρ (.optr e id i j) pv) (hx:V1Rel ρ v x) :
 ∃ a w',pv = .pointer (some a)/\(storeVar T a x).run P w = .ok () w'/\UR ρ ef.val (.tuple #[])/\Fr w0.heap.size ρ ρ w w' ef:=by
 unfold sStoreE at h
 split at h
 ·rename_i xi e' d n hxi hl hn;obtain ⟨g1,g2,_⟩:=tt_el htt hxi;obtain ⟨ti,hti,htn⟩:=tt_sz htt hn
  split at h
  ·rename_i hok;simp only [Bool.and_eq_true] at hok;obtain rfl:=Nat.eq_of_beq_eq_true hok.1.1;have hjn:=Nat.le_of_ble_eq_true hok.2
   split at h
   ·rename_i ds hds;obtain rfl:=by simpa using h
    obtain ⟨hi,_⟩:=hvc;obtain ⟨hid,rfl⟩:=hp'
    rcases hw.ents id _ hl with ⟨g0,_⟩ |⟨_,hoff,hM,cs,hh,hsz,hd,hcs⟩
    ·rw [g0] at hid;cases hid
    have hc:=v1_cells hx hok.1.2;obtain ⟨k1,k2,k3⟩:=toDs_spec hds hc;have hlen:((xi.ks.drop j).take n).length=n:=by simp;omega
    rw [hlen] at k1 k2;have hone:∀ u∈x.cells.toList,u.oneCell'=true:=fun u hu=>by
     obtain ⟨q,hq,rfl⟩:=List.getElem_of_mem hu;have hqn:q<((xi.ks.drop j).take n).length:=by omega
     obtain ⟨u',hu',ht⟩:=k3 q _ (List.getElem?_eq_getElem hqn);rw [List.getElem?_eq_getElem hq] at hu';obtain rfl:=by simpa using hu'
     exact trel_one ht
    have hidx:i*(eks e).length+j+x.cells.toList.length<=cs.size:=by
     rw [hsz,k2]
     calc i*(eks e).length+j+n<=i*(eks e).length+(eks e).length:=by rw [g1];omega
      _=(i+1)*(eks e).length:=by rw [Nat.add_mul];omega
      _<=ρ.cap id*(eks e).length:=Nat.mul_le_mul_right _ (by omega)
    have hst:=run_storeCells_at P (ρ.blk id) (i*(eks e).length+j) e x.cells.toList 0 cs w hh (by omega) hone;simp only [Nat.add_zero] at hst;have hsize:x.cells.size=n:=by simpa using k2
    refine ⟨_,w.setRow (ρ.blk id) (cs.toList.take (i*(eks e).length+j)++x.cells.toList++cs.toList.drop (i*(eks e).length+j+x.cells.toList.length)).toArray,rfl,?_,⟨#[],rfl,trivial⟩,?_⟩
    ·simp only [storeVar,Sem.run_bind,run_sizeOf hti,Result.andThen_ok,hsize,htn,ne_eq,not_true_eq_false,↓reduceIte];exact hst
    ·refine ⟨Ext.refl ρ,fun _ _=>rfl,⟨rfl,rfl,rfl,by simp,fun k hk=>absurd hk (Nat.not_lt_zero k)⟩,fun b hb hk=>setRow_other _ _ _ _ (fun e'=>hk id _ (by simp only [look];rw [if_pos (by simp)]) hid e'.symm),fun a y hy=>?_,fun _ _ h=>by simp [look] at h,fun _ _ _ _ h=>by simp [look] at h,fun _ _ h=>.inl h,rfl⟩;simp only [look] at hy
     split at hy
     ·rename_i hj';obtain rfl:id=a:=by simpa using hj'
      obtain rfl:=by simpa using hy
      refine .inr ⟨hid,hoff,hM,_,setRow_heap _ _ _ _ _ _ hh,?_,by rw [D.setc_len];exact hd,fun a q k ha hk=>?_⟩
      ·simp;omega
      ·rw [D.setc_len] at ha;have hq:q<xi.ks.length:=by rw [<- g1];exact lt_of_get hk
       rw [D.setc_el hi (by omega) a q hq];have hpos:a*(eks e).length+q<cs.size:=by
        rw [hsz]
        calc a*(eks e).length+q<a*(eks e).length+(eks e).length:=by rw [g1];omega
         _=(a+1)*(eks e).length:=by rw [Nat.add_mul];omega
         _<=ρ.cap id*(eks e).length:=Nat.mul_le_mul_right _ (by omega)
       have e0:(cs.toList.take (i*(eks e).length+j)).length=i*(eks e).length+j:=by simp;omega
       have hap:∀ (p:Nat),(cs.toList.take (i*(eks e).length+j)++x.cells.toList++cs.toList.drop (i*(eks e).length+j+x.cells.toList.length)).toArray[p]? = if i*(eks e).length+j<=p/\p<i*(eks e).length+j+x.cells.toList.length then x.cells.toList[p-(i*(eks e).length+j)]? else cs[p]?:=fun p=>by
        have:=over_get (l:=cs.toList) (m:=x.cells.toList) (o:=i*(eks e).length+j) (by simpa using hidx) p;unfold over at this;rw [List.getElem?_toArray,this,Array.getElem?_toList,Array.getElem?_toList]
       rw [hap]
       by_cases hc':a=i/\j<=q/\q<j+ds.length
       ·rw [if_pos hc'];obtain ⟨rfl,h1,h2⟩:=hc';rw [if_pos (by omega)];have hk':((xi.ks.drop j).take n)[q-j]? = some k:=by
         rw [List.getElem?_take_of_lt (by omega),List.getElem?_drop,<- g1,<- hk];congr 1;omega
        obtain ⟨u,hu,ht⟩:=k3 (q-j) k hk';refine ⟨u,?_,ht⟩;rw [<- hu];congr 1;omega
       ·rw [if_neg hc'];have hne:¬ (i*(eks e).length+j<=a*(eks e).length+q/\a*(eks e).length+q<i*(eks e).length+j+x.cells.toList.length):=by
         rintro ⟨h1,h2⟩
         apply hc'
         have hq':q<(eks e).length:=by rw [g1];exact hq
         have hai:a=i:=by
          rcases Nat.lt_trichotomy a i with h |h |h
          ·have:(a+1)*(eks e).length<=i*(eks e).length:=Nat.mul_le_mul_right _ h;rw [Nat.add_mul] at this;omega
          ·exact h
          ·have:(i+1)*(eks e).length<=a*(eks e).length:=Nat.mul_le_mul_right _ h;rw [Nat.add_mul] at this;rw [g1] at *;omega
         subst hai;exact ⟨rfl,by omega,by omega⟩
        rw [if_neg hne];exact hcs a q k ha hk
     ·cases hy
   ·cases h
  ·cases h
 ·cases h
def sCopyE (tt:TT) (hp:Heap) (T:TypeId):SV->SV->Option Eff
 | .one (.sc (.slice id o n)),.one (.sc c)=>(match uD tt T with
   |some (.slice E)=>(match elT tt E,look hp id,conE hp E c with
    |some x,some e1,some (d,ps)=>(match x.ks,e1.segs with
     | [.int k],some [.ints k1 (.lit N) g]=>if kEqB k k1 then (match e1.put [.ints k1 (.lit N) (cpF o.v (Nat.min d.len n.v) (fun j=>(d.el j 0).toI) g)] with
       |some e'=>some {val:=.one (.sc (.int .i64 (.sym (Nat.min d.len n.v)))),vc:=(o.v+Nat.min d.len n.v<=N)::ps,st:=[(id,e')]}
       |none=>none) else none
     |_,_=>none)
    |_,_,_=>none)
   |_=>none)
 |_,_=>none
theorem sCopyE_spec {P:Program} {tt:TT} (htt:TTOK P tt) {hp:Heap} {T:TypeId} {a b:SV} {e:Eff} (h:sCopyE tt hp T a b=some e) (hvc:All e.vc) {ρ:Map} {w0:W0} {w:World} (hw:WH w0 ρ hp w) {x y:Value} (hx:UR ρ a x) (hy:UR ρ b y) {ats:Array TypeId} (hat:ats[0]? = some T) (ty:TypeId) :
 ∃ v w',(Builtin.copy_ ats ty #[x,y]).run P w = .ok v w'/\UR ρ e.val v/\Fr w0.heap.size ρ ρ w w' e:=by
 unfold sCopyE at h
 split at h
 ·rename_i id o n c
  split at h
  ·rename_i E hT;obtain ⟨d,hT,hd⟩:=tt_u htt hT;obtain rfl:=u_slice hd
   split at h
   ·rename_i xi e1 d ps hxi he1 hc;obtain ⟨g1,g2,i,z,g3,g4,_⟩:=tt_el htt hxi
    split at h
    ·rename_i k k1 N g hks hs1
     split at h
     ·rename_i hk;obtain rfl:=kEqB_eq hk
      split at h
      ·rename_i e' hput;obtain rfl:=by simpa using h
       obtain ⟨hle,hps⟩:=hvc;obtain ⟨A,cp,rfl,hcp,hA⟩:=hx;rw [hks] at g1 g4;obtain ⟨A2,c2,rfl,hc2,vs,k1',k2,k3,k4⟩:=conE_spec hc hps (by rw [g1];exact Nat.zero_lt_one) hw hy;rw [g1] at k1' k4;simp only [List.length_cons,List.length_nil,Nat.zero_add,Nat.mul_one] at k1' k4;have hsize:(sizeOf E).run P w = .ok 1 w:=by rw [run_sizeOf g3,g4];rfl
       have hfirst:(Builtin.firstCells 1 (Nat.min d.len n.v) (.slice A2 d.len c2)).run P w = .ok ((List.range (Nat.min d.len n.v)).map fun j=>Value.int k ((d.el j 0).toI)).toArray w:=by
        have hle1:Nat.min d.len n.v<=d.len:=Nat.min_le_left _ _
        cases hA2:A2 with
        |none=>
         have h0:d.len=0:=by
          rcases Nat.eq_zero_or_pos d.len with h0 |h0
          ·exact h0
          ·obtain ⟨a,ha,_⟩:=k2 0 vs[0] (List.getElem?_eq_getElem (by omega));rw [hA2] at ha;cases ha
         have:Nat.min d.len n.v=0:=by omega
         rw [this];rfl
        |some a=>
         refine run_firstCells_some w 1 _ _ _ _ _ (by simp) fun j v hv=>?_
         have hj:j<Nat.min d.len n.v:=by
          rcases Nat.lt_or_ge j (Nat.min d.len n.v) with h |h
          ·exact h
          ·rw [List.getElem?_eq_none (by simpa using h)] at hv;cases hv
         rw [List.getElem?_map,List.getElem?_range hj] at hv;simp only [Option.map_some,Option.some.injEq] at hv;obtain ⟨u,hu,hr⟩:=k4 j 0 (.int k) (by omega) rfl;obtain ⟨a',ha,hcell⟩:=k2 j u hu;rw [hA2] at ha;obtain rfl:=by simpa using ha
         rw [hcell,<- hv]
         cases hr;rfl
       have hrest:∀ (w':World),(match A with |some a=>storeCells a ((List.range (Nat.min d.len n.v)).map fun j=>Value.int k ((d.el j 0).toI)) |none=>(pure ():Sem Unit)).run P w = .ok () w'->(Builtin.copy_ ats ty #[.slice A n.v cp,.slice A2 d.len c2]).run P w = .ok (goInt (Nat.min d.len n.v)) w':=fun w' h'=>by
        cases A with
        |none=>
         have hww:w=w':=by simpa using h'
         subst hww;simp only [Builtin.copy_,hat,List.getElem?_toArray,List.getElem?_cons_zero,List.getElem?_cons_succ,Sem.run_bind,run_underlying hT,Result.andThen_ok,Builtin.lenOf,Sem.run_pure,hsize,hfirst]
        |some a=>
         simp only at h'
         simp only [Builtin.copy_,hat,List.getElem?_toArray,List.getElem?_cons_zero,List.getElem?_cons_succ,Sem.run_bind,run_underlying hT,Result.andThen_ok,Builtin.lenOf,Sem.run_pure,hsize,hfirst,h']
       have hval:UR ρ (.one (.sc (.int .i64 (.sym ((Nat.min d.len n.v:Nat):Int))))) (goInt (Nat.min d.len n.v)):=rfl
       rcases hA with ⟨hid,rfl⟩ |⟨hn0,_⟩
       ·obtain ⟨w',h1,h2⟩:=store_run' (P:=P) (sv:=.one (.sc (.int .i64 (.sym ((Nat.min d.len n.v:Nat):Int))))) (ps:=(o.v+Nat.min d.len n.v<=N)::ps) hw rfl he1 hs1 hput (us:=(List.range (Nat.min d.len n.v)).map fun j=>Value.int k ((d.el j 0).toI)) (fun vs hvs=>cp_rel (f:=fun j=>(d.el j 0).toI) hvs hle) (fun v hv=>by
         obtain ⟨j,_,rfl⟩:=List.mem_map.1 hv
         rfl)
        exact ⟨_,w',hrest w' h1,hval,h2⟩
       ·have h0:Nat.min d.len n.v=0:=by rw [hn0];exact Nat.min_zero _
        have hee:e'=e1:=by
         rw [h0,cpF_zero] at hput
         cases e1<;>simp [Ent.segs,Ent.put] at hs1 hput<;>(subst hs1;exact hput.symm)
        refine ⟨_,w,hrest w ?_,hval,Ext.refl ρ,fun _ _=>rfl,Below.refl 0 w,fun _ _ _=>rfl,fun j z hj=>?_,fun _ _ h=>by simp [look] at h,fun _ _ _ _ h=>by simp [look] at h,fun _ _ h=>.inl h,rfl⟩
        ·rw [h0];cases A<;>rfl
        ·simp only [look] at hj
         split at hj
         ·rename_i hij;obtain rfl:id=j:=by simpa using hij
          obtain rfl:=by simpa using hj
          rw [hee];exact hw.ents id e1 he1
         ·cases hj
      ·cases h
     ·cases h
    ·cases h
   ·cases h
  ·cases h
 ·cases h
def D.cpy (d:D) (lo m:Nat) (d2:D):D:=.l (d.rows.take lo++d2.rows.take m++d.rows.drop (lo+m))
theorem D.cpy_len {d d2:D} {lo m:Nat} (h:lo+m<=d.len) (h2:m<=d2.len):(d.cpy lo m d2).len=d.len:=by
 have e1:d.rows.length=d.len:=rfl;have e2:d2.rows.length=d2.len:=rfl;show (d.rows.take lo++d2.rows.take m++d.rows.drop (lo+m)).length=_;simp only [List.length_append,List.length_take,List.length_drop];omega
theorem D.cpy_el {d d2:D} {lo m:Nat} (h:lo+m<=d.len) (h2:m<=d2.len) (a j:Nat):(d.cpy lo m d2).el a j=if lo<=a/\a<lo+m then d2.el (a-lo) j else d.el a j:=by
 have e1:d.rows.length=d.len:=rfl;have e2:d2.rows.length=d2.len:=rfl;have:=over_get (l:=d.rows) (m:=d2.rows.take m) (o:=lo) (by simp;omega) a;have hl:(d2.rows.take m).length=m:=by simp;omega
 unfold over at this;rw [hl] at this;show ((d.rows.take lo++d2.rows.take m++d.rows.drop (lo+m)).getD a []).getD j (.i 0)=_;rw [List.getD_eq_getElem?_getD (l:=_++_),this]
 by_cases hc:lo<=a/\a<lo+m
 ·rw [if_pos hc,if_pos hc,List.getElem?_take_of_lt (by omega),<- List.getD_eq_getElem?_getD];rfl
 ·rw [if_neg hc,if_neg hc,<- List.getD_eq_getElem?_getD];rfl
def sCopyO (tt:TT) (hp:Heap) (T:TypeId):SV->SV->Option Eff
 | .one (.sc (.osl e id lo n)),.one (.sc c)=>(match uD tt T with
   |some (.slice E)=>if Nat.beq E e then (match elT tt E,look hp id,conE hp E c with
    |some _,some (.orow e1 d),some (d2,ps)=>if Nat.beq E e1 then some {val:=.one (.sc (.int .i64 (.sym (Nat.min d2.len n.v)))),vc:=(lo.v+n.v<=d.len)::ps,st:=[(id,.orow E (d.cpy lo.v (Nat.min d2.len n.v) d2))]} else none
    |_,_,_=>none) else none
   |_=>none)
 |_,_=>none
theorem sCopyO_spec {P:Program} {tt:TT} (htt:TTOK P tt) {hp:Heap} {T:TypeId} {a b:SV} {e:Eff} (h:sCopyO tt hp T a b=some e) (hvc:All e.vc) {ρ:Map} {w0:W0} {w:World} (hw:WH w0 ρ hp w) {x y:Value} (hx:UR ρ a x) (hy:UR ρ b y) {ats:Array TypeId} (hat:ats[0]? = some T) (ty:TypeId) :
 ∃ v w',(Builtin.copy_ ats ty #[x,y]).run P w = .ok v w'/\UR ρ e.val v/\Fr w0.heap.size ρ ρ w w' e:=by
 unfold sCopyO at h
 split at h
 ·rename_i el id lo n c
  split at h
  ·rename_i E hT;obtain ⟨dd,hT,hd⟩:=tt_u htt hT;obtain rfl:=u_slice hd
   split at h
   ·rename_i hee;obtain rfl:=Nat.eq_of_beq_eq_true hee
    split at h
    ·rename_i xi e1 d d2 ps hxi hl hc;obtain ⟨g1,g2,i,z,g3,g4,_⟩:=tt_el htt hxi
     split at h
     ·rename_i hee;obtain rfl:=Nat.eq_of_beq_eq_true hee;obtain rfl:=by simpa using h
      obtain ⟨hle,hps⟩:=hvc;obtain ⟨A,cp,rfl,hcp,hA⟩:=hx;obtain ⟨A2,c2,rfl,hc2,vs,k1,k2,k3,k4⟩:=conE_spec hc hps (by rw [g1];exact g2) hw hy;have h0:0<(eks E).length:=by rw [g1];exact g2
      have hm2:Nat.min d2.len n.v<=d2.len:=Nat.min_le_left _ _;have hmn:Nat.min d2.len n.v<=n.v:=Nat.min_le_right _ _;generalize hm:Nat.min d2.len n.v=m at *;have hsize:(sizeOf E).run P w = .ok (eks E).length w:=by rw [run_sizeOf g3,g4,g1]
      have hnl:(vs.take (m*(eks E).length)).length=m*(eks E).length:=by
       have:m*(eks E).length<=d2.len*(eks E).length:=Nat.mul_le_mul_right _ hm2
       simp;omega
      have hnew:∀ q,q<m*(eks E).length->(vs.take (m*(eks E).length))[q]? = vs[q]?:=fun q hq=>by rw [List.getElem?_take_of_lt hq]
      have hfirst:(Builtin.firstCells (eks E).length m (.slice A2 d2.len c2)).run P w = .ok (vs.take (m*(eks E).length)).toArray w:=by
       cases hA2:A2 with
       |none=>
        have hd0:d2.len=0:=by
         rcases Nat.eq_zero_or_pos d2.len with h |h
         ·exact h
         ·have hv0:0<vs.length:=by rw [k1];exact Nat.mul_pos h h0
          obtain ⟨a,ha,_⟩:=k2 0 vs[0] (List.getElem?_eq_getElem hv0);rw [hA2] at ha;cases ha
        have:m=0:=by omega
        rw [this];simp [Builtin.firstCells]
       |some a=>
        refine run_firstCells_some w _ _ _ _ _ _ hnl fun j v hv=>?_
        have hj:j<m*(eks E).length:=by have:=lt_of_get hv;omega
        rw [hnew j hj] at hv;obtain ⟨a',ha,hcell⟩:=k2 j v hv;rw [hA2] at ha;obtain rfl:=by simpa using ha
        exact hcell
      have hrest:∀ (w':World),(match A with |some a=>storeCells a (vs.take (m*(eks E).length)) |none=>(pure ():Sem Unit)).run P w = .ok () w'->(Builtin.copy_ ats ty #[.slice A n.v cp,.slice A2 d2.len c2]).run P w = .ok (goInt m) w':=fun w' h'=>by
       cases A with
       |none=>
        have hww:w=w':=by simpa using h'
        subst hww;simp only [Builtin.copy_,hat,List.getElem?_toArray,List.getElem?_cons_zero,List.getElem?_cons_succ,Sem.run_bind,run_underlying hT,Result.andThen_ok,Builtin.lenOf,Sem.run_pure,hsize,hm,hfirst]
       |some a=>
        simp only at h'
        simp only [Builtin.copy_,hat,List.getElem?_toArray,List.getElem?_cons_zero,List.getElem?_cons_succ,Sem.run_bind,run_underlying hT,Result.andThen_ok,Builtin.lenOf,Sem.run_pure,hsize,hm,hfirst,h']
      have hval:UR ρ (.one (.sc (.int .i64 (.sym ((m:Nat):Int))))) (goInt m):=rfl;have lk:∀ j y,look [(id,Ent.orow E (d.cpy lo.v m d2))] j=some y->j=id/\y = .orow E (d.cpy lo.v m d2):=fun j y hy=>by
       simp only [look] at hy
       split at hy
       ·rename_i hq;exact ⟨(by simpa using hq:id=j).symm,by simpa using hy.symm⟩
       ·cases hy
      rcases hA with ⟨hcp0,hsp⟩ |⟨rfl,hcap,hid⟩
      ·have hm0:m=0:=by omega
       have hrows:(d.cpy lo.v m d2).rows=d.rows:=by
        rw [hm0];show d.rows.take lo.v++d2.rows.take 0++d.rows.drop (lo.v+0)=d.rows
        simp
       refine ⟨_,w,hrest w ?_,hval,Ext.refl ρ,fun _ _=>rfl,Below.refl 0 w,fun _ _ _=>rfl,fun j y hy=>?_,fun _ _ h=>by simp [look] at h,fun _ _ _ _ h=>by simp [look] at h,fun _ _ h=>.inl h,rfl⟩
       ·rw [hm0,Nat.zero_mul];cases A<;>rfl
       ·obtain ⟨rfl,rfl⟩:=lk j y hy;have hlen:(d.cpy lo.v m d2).len=d.len:=by unfold D.len;rw [hrows]
        have hel:∀ p q,(d.cpy lo.v m d2).el p q=d.el p q:=fun p q=>by unfold D.el;rw [hrows]
        rcases hw.ents _ _ hl with ⟨q1,q2⟩ |⟨q1,q2,q3,cs,q4,q5,q6,q7⟩
        ·exact .inl ⟨q1,by rw [hlen];exact q2⟩
        ·exact .inr ⟨q1,q2,q3,cs,q4,q5,by rw [hlen];exact q6,fun p q k hp hk=>by rw [hel];exact q7 p q k (by rw [<- hlen];exact hp) hk⟩
      ·rcases hw.ents id _ hl with ⟨q0,_⟩ |⟨_,hoff,hM,cs,hh,hsz,hd',hcs⟩
       ·rw [q0] at hid;cases hid
       have hroom:lo.v*(eks E).length+(vs.take (m*(eks E).length)).length<=cs.size:=by
        rw [hnl,hsz,<- Nat.add_mul];exact Nat.mul_le_mul_right _ (by omega)
       have hst:=run_storeCells_at P (ρ.blk id) (lo.v*(eks E).length) E (vs.take (m*(eks E).length)) 0 cs w hh (by omega) (fun v hv=>k3 v (List.mem_of_mem_take hv));simp only [Nat.add_zero] at hst;have hap:∀ (p:Nat),(cs.toList.take (lo.v*(eks E).length)++vs.take (m*(eks E).length)++cs.toList.drop (lo.v*(eks E).length+(vs.take (m*(eks E).length)).length)).toArray[p]? = if lo.v*(eks E).length<=p/\p<lo.v*(eks E).length+m*(eks E).length then vs[p-lo.v*(eks E).length]? else cs[p]?:=fun p=>by
        have:=over_get (l:=cs.toList) (m:=vs.take (m*(eks E).length)) (o:=lo.v*(eks E).length) (by simpa using hroom) p;unfold over at this;rw [List.getElem?_toArray,this,hnl]
        by_cases hc:lo.v*(eks E).length<=p/\p<lo.v*(eks E).length+m*(eks E).length
        ·rw [if_pos hc,if_pos hc,hnew _ (by omega)]
        ·rw [if_neg hc,if_neg hc,Array.getElem?_toList]
       refine ⟨_,_,hrest _ hst,hval,Ext.refl ρ,fun _ _=>rfl,⟨rfl,rfl,rfl,by simp,fun k hk=>absurd hk (Nat.not_lt_zero k)⟩,fun b hb hk=>setRow_other _ _ _ _ (fun e'=>hk id _ (by simp only [look];rw [if_pos (by simp)]) hid e'.symm),fun j y hy=>?_,fun _ _ h=>by simp [look] at h,fun _ _ _ _ h=>by simp [look] at h,fun _ _ h=>.inl h,rfl⟩;obtain ⟨rfl,rfl⟩:=lk j y hy;refine .inr ⟨hid,hoff,hM,_,setRow_heap _ _ _ _ _ _ hh,?_,by rw [D.cpy_len (by omega) hm2];exact hd',fun p q k hp hk=>?_⟩
       ·rw [hnl] at hroom;simp [hnl];omega
       ·rw [D.cpy_len (by omega) hm2] at hp;have hq:=lt_of_get hk;rw [D.cpy_el (by omega) hm2,hap];have hlow:∀ {x y:Nat},x<y->x*(eks E).length+q<y*(eks E).length:=fun {x y} hxy=>by
         calc x*(eks E).length+q<x*(eks E).length+(eks E).length:=by omega
          _=(x+1)*(eks E).length:=by rw [Nat.add_mul];omega
          _<=y*(eks E).length:=Nat.mul_le_mul_right _ hxy
        by_cases hc:lo.v<=p/\p<lo.v+m
        ·rw [if_pos hc];have h1:lo.v*(eks E).length<=p*(eks E).length:=Nat.mul_le_mul_right _ hc.1;have h2:=hlow hc.2;rw [Nat.add_mul] at h2;rw [if_pos ⟨by omega,by omega⟩];obtain ⟨u,hu,ht⟩:=k4 (p-lo.v) q k (by omega) hk;refine ⟨u,?_,ht⟩;rw [<- hu];congr 1;rw [Nat.sub_mul];omega
        ·rw [if_neg hc];rw [if_neg]
         ·exact hcs p q k hp hk
         ·rintro ⟨h1,h2⟩
          apply hc
          constructor
          ·rcases Nat.lt_or_ge p lo.v with h |h
           ·have:=hlow h;omega
           ·exact h
          ·rcases Nat.lt_or_ge p (lo.v+m) with h |h
           ·exact h
           ·have:(lo.v+m)*(eks E).length<=p*(eks E).length:=Nat.mul_le_mul_right _ h;rw [Nat.add_mul] at this;omega
     ·cases h
    ·cases h
   ·cases h
  ·cases h
 ·cases h
def sCp (tt:TT) (hp:Heap) (T:TypeId) (a b:SV):Option Eff:=match sCopy tt hp T a b with |some e=>some e |none=>match sCopyE tt hp T a b with |some e=>some e |none=>sCopyO tt hp T a b
theorem sCp_spec {P:Program} {tt:TT} (htt:TTOK P tt) {hp:Heap} {T:TypeId} {a b:SV} {e:Eff} (h:sCp tt hp T a b=some e) (hvc:All e.vc) {ρ:Map} {w0:W0} {w:World} (hw:WH w0 ρ hp w) {x y:Value} (hx:UR ρ a x) (hy:UR ρ b y) {ats:Array TypeId} (hat:ats[0]? = some T) (ty:TypeId) :
 ∃ v w',(Builtin.copy_ ats ty #[x,y]).run P w = .ok v w'/\UR ρ e.val v/\Fr w0.heap.size ρ ρ w w' e:=by
 unfold sCp at h
 split at h
 ·rename_i e' hb;simp only [Option.some.injEq] at h;subst h;exact sCopy_spec htt hb hvc hw hx hy hat ty
 ·split at h
  ·rename_i e' hb;simp only [Option.some.injEq] at h;subst h;exact sCopyE_spec htt hb hvc hw hx hy hat ty
  ·exact sCopyO_spec htt h hvc hw hx hy hat ty
end Go.Proofs.YtplejbgafjpomaaGreatDoor.Sx
