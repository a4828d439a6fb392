import Derived.ChangeArms
import Derived.OpenShut
import Derived.WideShapes
import Derived.ChangeShapes
import Derived.Carry
import Derived.DataReads
import Derived.Test.YtplejbgafjpomaaGreatDoorZb13
set_option linter.unusedVariables false
set_option linter.unusedSimpArgs false
namespace Go.Proofs.YtplejbgafjpomaaGreatDoor.Sx
open Go.RowKit Go.WideShapes
def kBeq:K->K->Bool
 | .int a,.int b=>kEqB a b
 | .bool,.bool=>true
 | .str,.str=>true
 | .slice a,.slice b=>Nat.beq a b
 |_,_=>false
theorem kBeq_eq {a b:K} (h:kBeq a b=true):a=b:=by
 cases a<;>cases b<;>first |rfl |(rw [kEqB_eq h]) |(rw [Nat.eq_of_beq_eq_true h]) |(cases h)
def ksBeq:List K->List K->Bool
 | [],[]=>true
 |a::r,b::s=>kBeq a b&&ksBeq r s
 |_,_=>false
theorem ksBeq_eq:∀ {a b:List K},ksBeq a b=true->a=b
 | [],[],_=>rfl
 |a::r,b::s,h=>by
  simp only [ksBeq,Bool.and_eq_true] at h;rw [kBeq_eq h.1,ksBeq_eq h.2]
 | [],_::_,h=>by cases h
 |_::_,[],h=>by cases h
def kF (g:TypeId->Option (List K)):List (TypeId × Nat)->Nat->Option (List K)
 | [],_=>some []
 |(T,o)::r,q=>if Nat.beq o q then (match g T with
  |some a=>(match kF g r (q+a.length) with |some b=>some (a++b) |none=>none)
  |none=>none) else none
def szOK (tt:TT) (t:TypeId) (ks:List K):Option (List K):=match szT tt t with |some n=>if Nat.beq n ks.length then some ks else none |none=>none
def kT (tt:TT):Nat->TypeId->Option (List K)
 | 0,_=>none
 |f+1,t=>match uD tt t with
  |some .bool=>some [.bool]
  |some (.int k)=>some [.int k]
  |some .string=>some [.str]
  |some (.slice e)=>(match ksT tt e with |some _=>some [.slice e] |none=>none)
  |some (.array n e)=>(match kT tt f e with |some ks=>(match szOK tt e ks with |some _=>szOK tt t (List.replicate n ks).flatten |none=>none) |none=>none)
  |some (.struct fs)=>(match kF (kT tt f) fs 0 with |some ks=>szOK tt t ks |none=>none)
  |_=>none
def kAllOf (tt:TT):TT->Bool
 | []=>true
 |(t,i)::r=>(match i.ks with |some ks=>(match kT tt 9 t with |some l=>ksBeq l ks |none=>false) |none=>true)&&kAllOf tt r
def kAll (tt:TT):Bool:=kAllOf tt tt
theorem kAllOf_mem {tt:TT}:∀ {l:TT},kAllOf tt l=true->∀ t i ks,look l t=some i->i.ks=some ks->kT tt 9 t=some ks
 | [],_,t,i,ks,h,_=>by simp [look] at h
 |(j,x)::r,ha,t,i,ks,h,hk=>by
  simp only [kAllOf,Bool.and_eq_true] at ha;simp only [look] at h
  split at h
  ·rename_i hj;obtain rfl:j=t:=by simpa using hj
   obtain rfl:=by simpa using h
   have h1:=ha.1;rw [hk] at h1;dsimp only at h1
   split at h1
   ·rename_i l hl;rw [hl,ksBeq_eq h1]
   ·cases h1
  ·exact kAllOf_mem ha.2 t i ks h hk
theorem kAll_ks {tt:TT} (h:kAll tt=true) {e:TypeId} {ks:List K} (hk:ksT tt e=some ks):kT tt 9 e=some ks:=by
 unfold ksT at hk
 split at hk
 ·rename_i i hi;exact kAllOf_mem h e i ks hi hk
 ·cases hk
theorem szOK_some {tt:TT} {t:TypeId} {ks l:List K} (h:szOK tt t ks=some l):l=ks/\szT tt t=some ks.length:=by
 unfold szOK at h
 split at h
 ·rename_i n hn
  split at h
  ·rename_i hb;rw [Nat.eq_of_beq_eq_true hb] at hn;exact ⟨by simpa using h.symm,hn⟩
  ·cases h
 ·cases h
theorem szT_cells {P:Program} {tt:TT} (htt:TTOK P tt) {t:TypeId} {n:Nat} (h:szT tt t=some n):P.cellsOf t=n:=by
 obtain ⟨i,hi,hs⟩:=tt_sz htt h;simp [Program.cellsOf,hi,hs]
inductive DOk:K->D->Prop
 |int (k:IntKind) (d:D):(Lit.int k d.toI).wf=true->DOk (.int k) d
 |bool (d:D):DOk .bool d
 |str (d:D):d.toS.size<=maxLen->DOk .str d
 |slice (e:TypeId) (d:D):d.len<=maxLen->(∀ i j k,i<d.len->(eks e)[j]? = some k->DOk k (d.el i j))->DOk (.slice e) d
def CellsIn (fz:Fz) (ks:List K) (cs:List Value):Prop:=cs.length=ks.length/\∀ (j:Nat) k,ks[j]? = some k->∃ u d,cs[j]? = some u/\TRel fz k d u/\DOk k d
theorem cellsIn_one {fz:Fz} {k:K} {v:Value} {d:D} (h:TRel fz k d v) (hd:DOk k d):CellsIn fz [k] [v]:=⟨rfl,fun j k' hk=>by
 cases j with
 |zero=>simp only [List.getElem?_cons_zero,Option.some.injEq] at hk;subst hk;exact ⟨v,d,rfl,h,hd⟩
 |succ j=>simp at hk⟩
theorem addr_add2 (a:Addr) (i j:Nat):(a.add i).add j=a.add (i+j):=by
 unfold Addr.add
 by_cases hi:i=0
 ·subst hi;simp
 ·by_cases hj:j=0
  ·subst hj;simp [hi]
  ·simp [hi,hj,Nat.add_assoc]
theorem cellsAt_cell {w:World} {a:Addr} {v:Value} (h:w.cell? a=some v):a.spot=none/\Fz.cell (cellsAt w) a.block a.off=some v:=by
 unfold World.cell? at h
 split at h
 ·rename_i c T z hh
  split at h
  ·cases h
  ·rename_i hs;refine ⟨by simpa using hs,?_⟩;unfold Fz.cell cellsAt;rw [hh];exact h
 ·cases h
section
variable {P:Program} {tt:TT} {H:Type} {enc:TypeId × Value->H} {w:World} {base:Nat} {spare:Nat->Bool} {held:Bool}
theorem kF_in {n:Nat} {f:Nat} (ih:∀ (t:TypeId) (ks:List K) (cs:List Value) x,kT tt f t=some ks->DataW.trod enc P w base spare held n t cs=some x->CellsIn (cellsAt w) ks cs) {cs:List Value} :
 ∀ (fs:List (TypeId × Nat)) (q:Nat) (ks:List K),kF (kT tt f) fs q=some ks->(∀ p∈fs,∃ x,DataW.trod enc P w base spare held n p.1 ((cs.drop p.2).take (P.cellsOf p.1))=some x) ->
   ∀ (j:Nat) k,ks[j]? = some k->∃ u d,cs[q+j]? = some u/\TRel (cellsAt w) k d u/\DOk k d
 | [],q,ks,h,_,j,k,hk=>by
   simp only [kF,Option.some.injEq] at h;subst h;simp at hk
 |(T,o)::r,q,ks,h,hf,j,k,hk=>by
  simp only [kF] at h
  split at h
  ·rename_i ho;obtain rfl:=Nat.eq_of_beq_eq_true ho
   split at h
   ·rename_i a ha
    split at h
    ·rename_i b hb;obtain rfl:=by simpa using h
     obtain ⟨x,hx⟩:=hf (T,o) (List.mem_cons_self ..);obtain ⟨h1,h2⟩:=ih T a _ x ha hx
     by_cases hj:j<a.length
     ·rw [List.getElem?_append_left hj] at hk;obtain ⟨u,d,hu,hr,hd⟩:=h2 j k hk;refine ⟨u,d,?_,hr,hd⟩;have hlt:=lt_of_get hu;rw [List.length_take] at hlt;rw [List.getElem?_take_of_lt (by omega),List.getElem?_drop] at hu;exact hu
     ·rw [List.getElem?_append_right (by omega)] at hk;obtain ⟨u,d,hu,hr,hd⟩:=kF_in ih r (o+a.length) b hb (fun p hp=>hf p (List.mem_cons_of_mem _ hp)) (j-a.length) k hk;exact ⟨u,d,by rw [<- hu];congr 1;omega,hr,hd⟩
    ·cases h
   ·cases h
  ·cases h
theorem flat_get {α:Type} (l:List α):∀ (n j:Nat),((List.replicate n l).flatten)[j]? = if j<n*l.length then l[j%l.length]? else none
 | 0,j=>by simp
 |n+1,j=>by
  rw [List.replicate_succ,List.flatten_cons]
  by_cases hj:j<l.length
  ·rw [List.getElem?_append_left hj,if_pos (by rw [Nat.add_mul];omega),Nat.mod_eq_of_lt hj]
  ·rw [List.getElem?_append_right (by omega),flat_get l n];have e:(j-l.length)%l.length=j%l.length:=by
    rw [<- Nat.mod_eq_sub_mod (by omega)]
   rw [e];have e2:(n+1)*l.length=n*l.length+l.length:=by rw [Nat.add_mul];omega
   rw [e2]
   by_cases h:j-l.length<n*l.length
   ·rw [if_pos h,if_pos (by omega)]
   ·rw [if_neg h,if_neg (by omega)]
theorem in_cells (htt:TTOK P tt) (hka:kAll tt=true):∀ (n f:Nat) (t:TypeId) (ks:List K) (cs:List Value) x,kT tt f t=some ks->DataW.trod enc P w base spare held n t cs=some x->CellsIn (cellsAt w) ks cs
 | 0,f,t,ks,cs,x,_,h=>by simp [DataW.trod] at h
 |n+1,0,t,ks,cs,x,hk,h=>by simp [kT] at hk
 |n+1,f+1,t,ks,cs,x,hk,h=>by
  unfold kT at hk
  split at hk
  ·rename_i hu;obtain ⟨d,hd,hq⟩:=tt_u htt hu;obtain rfl:d = .bool:=by cases d<;>simp [uOf] at hq<;>rfl
   obtain ⟨b,rfl,_⟩:=DataW.trod_bool hd h;obtain rfl:=by simpa using hk
   exact cellsIn_one (.bool (.b b)) (.bool _)
  ·rename_i k hu;obtain ⟨d,hd,hq⟩:=tt_u htt hu;obtain rfl:d = .int k:=by cases d<;>simp [uOf] at hq<;>rw [hq]
   obtain ⟨b,rfl,_,hw⟩:=DataW.trod_int hd h;obtain rfl:=by simpa using hk
   exact cellsIn_one (.int k (.i b)) (.int _ _ hw)
  ·rename_i hu;obtain ⟨d,hd,hq⟩:=tt_u htt hu;obtain rfl:d = .string:=by cases d<;>simp [uOf] at hq<;>rfl
   obtain ⟨b,rfl,_,hw⟩:=DataW.trod_string hd h;obtain rfl:=by simpa using hk
   exact cellsIn_one (.str (.s b)) (.str _ hw)
  ·rename_i e hu;obtain ⟨d,hd,hq⟩:=tt_u htt hu;obtain rfl:d = .slice e:=by cases d<;>simp [uOf] at hq<;>rw [hq]
   split at hk
   ·rename_i kse hkse;obtain rfl:=by simpa using hk
    obtain ⟨hek,hpos,q,z,hq1,hq2,_⟩:=tt_ks htt hkse;have hce:P.cellsOf e=(eks e).length:=by simp [Program.cellsOf,hq1,hq2,hek]
    rcases DataW.trod_slice hd h with ⟨rfl,_⟩ |⟨a,len,cap,elems,rest,m,hm,rfl,_,_,hlc,hcm,hel,hget,_⟩
    ·exact cellsIn_one (.nil e (.l []) rfl) (.slice _ _ (Nat.zero_le _) (fun i j k hi=>absurd hi (Nat.not_lt_zero i)))
    ·obtain rfl:n=m:=by omega
     by_cases h0:len=0
     ·subst h0;exact cellsIn_one (.empty e (.l []) a cap rfl) (.slice _ _ (Nat.zero_le _) (fun i j k hi=>absurd hi (Nat.not_lt_zero i)))
     ·have hcell:∀ i,i<len->∀ (j:Nat) k,(eks e)[j]? = some k->∃ u d,w.cell? (a.add (i*(eks e).length+j))=some u/\TRel (cellsAt w) k d u/\DOk k d:=fun i hi j k hj=>by
       have h1:=hget i hi;rw [List.getElem?_eq_getElem (by omega)] at h1;obtain ⟨cs',g1,g2⟩:=Option.bind_eq_some_iff.1 h1;obtain ⟨g3,g4⟩:=in_cells htt hka n 9 e kse cs' _ (kAll_ks hka hkse) g2;obtain ⟨u,d,hu,hr⟩:=g4 j k (by rw [<- hek];exact hj);obtain ⟨_,_,hc⟩:=World.cells?_some g1;have:=hc j (by rw [hce];exact lt_of_get hj);rw [hu,hce,addr_add2] at this;exact ⟨u,d,this,hr⟩
      have hsp:a.spot=none:=by
       obtain ⟨k0,hk0⟩:∃ k0,(eks e)[0]? = some k0:=⟨_,List.getElem?_eq_getElem (by rw [hek];exact hpos)⟩;obtain ⟨u,d,hu,_⟩:=hcell 0 (by omega) 0 k0 hk0;have:=(cellsAt_cell hu).1
       simpa [Addr.add] using this
      obtain ⟨ab,ao,as1⟩:=a;obtain rfl:as1=none:=hsp;have each:∀ p:Nat × Nat,∃ q:Value × D,p.1<len->∀ k,(eks e)[p.2]? = some k->w.cell? ((⟨ab,ao,none⟩:Addr).add (p.1*(eks e).length+p.2))=some q.1/\TRel (cellsAt w) k q.2 q.1/\DOk k q.2:=fun p=>by
       by_cases hp:p.1<len
       ·cases hk:(eks e)[p.2]? with
        |none=>exact ⟨(undef,.i 0),fun _ k hk'=>by cases hk'⟩
        |some k=>
         obtain ⟨u,d,hh⟩:=hcell p.1 hp p.2 k hk;exact ⟨(u,d),fun _ k' hk'=>by cases hk';exact hh⟩
       ·exact ⟨(undef,.i 0),fun hp'=>absurd hp' hp⟩
      obtain ⟨F,hF⟩:=Classical.skolem.1 each;have hdl:(D.l ((List.range len).map fun i=>(List.range (eks e).length).map fun j=>(F (i,j)).2)).len=len:=by
       show ((List.range len).map _).length=len
       simp
      have hde:∀ i j,i<len->j<(eks e).length->(D.l ((List.range len).map fun i=>(List.range (eks e).length).map fun j=>(F (i,j)).2)).el i j=(F (i,j)).2:=fun i j hi hj=>by
       show (((List.range len).map fun i=>(List.range (eks e).length).map fun j=>(F (i,j)).2).getD i []).getD j (.i 0)=_;rw [List.getD_eq_getElem?_getD,List.getD_eq_getElem?_getD,List.getElem?_map,List.getElem?_range hi];simp only [Option.map_some,Option.getD_some];rw [List.getElem?_map,List.getElem?_range hj];rfl
      generalize hdd:D.l ((List.range len).map fun i=>(List.range (eks e).length).map fun j=>(F (i,j)).2)=dd at hdl hde;refine cellsIn_one (d:=dd) ?_ (.slice _ _ (by omega) fun i j k hi hk=>?_)
      ·rw [<- hdl];refine .slice e dd ab ao cap (fun i j=>(F (i,j)).1) (by omega) (fun i j hi hj=>?_) (fun i j k hi hk=>?_)
       ·obtain ⟨g1,_⟩:=hF (i,j) (by rw [<- hdl];exact hi) _ (List.getElem?_eq_getElem hj);have:=(cellsAt_cell g1).2;rw [Sx.addr_add] at this;rw [Nat.add_assoc];exact this
       ·rw [hde i j (by rw [<- hdl];exact hi) (lt_of_get hk)];exact (hF (i,j) (by rw [<- hdl];exact hi) k hk).2.1
      ·rw [hde i j (by rw [<- hdl];exact hi) (lt_of_get hk)];exact (hF (i,j) (by rw [<- hdl];exact hi) k hk).2.2
   ·cases hk
  ·rename_i m e hu;obtain ⟨d,hd,hq⟩:=tt_u htt hu;obtain rfl:d = .array m e:=by cases d<;>simp [uOf] at hq<;>rw [hq.1,hq.2]
   split at hk
   ·rename_i kse hkse
    split at hk
    ·rename_i kse' hse;obtain ⟨_,hsze⟩:=szOK_some hse;obtain ⟨rfl,hsz⟩:=szOK_some hk;obtain ⟨xs,m',hm,_,hl,hxl,hel⟩:=DataW.trod_array hd h;obtain rfl:n=m':=by omega
     have hl':cs.length=(List.replicate m kse).flatten.length:=by rw [hl,szT_cells htt hsz]
     have hce:P.cellsOf e=kse.length:=szT_cells htt hsze;refine ⟨hl',fun j k hj=>?_⟩;rw [flat_get] at hj
     split at hj
     ·rename_i hjl;have hpos:0<kse.length:=by
       rcases Nat.eq_zero_or_pos kse.length with h0 |h0
       ·rw [h0] at hjl;simp at hjl
       ·exact h0
      have hi:j/kse.length<m:=by rw [Nat.div_lt_iff_lt_mul hpos];exact hjl
      have h1:=hel (j/kse.length) hi;rw [List.getElem?_eq_getElem (by rw [hxl];exact hi)] at h1;obtain ⟨g1,g2⟩:=in_cells htt hka n f e kse _ _ hkse h1;obtain ⟨u,d,hu',hr,hd'⟩:=g2 _ k hj;refine ⟨u,d,?_,hr,hd'⟩;rw [hce,List.getElem?_take_of_lt (Nat.mod_lt _ hpos),List.getElem?_drop,Nat.div_add_mod'] at hu';exact hu'
     ·cases hj
    ·cases hk
   ·cases hk
  ·rename_i fs hu;obtain ⟨d,hd,hq⟩:=tt_u htt hu
   split at hk
   ·rename_i kse hkse;obtain ⟨rfl,hsz⟩:=szOK_some hk;obtain ⟨fa,rfl⟩:∃ fa,d = .struct fa:=by cases d<;>simp [uOf] at hq<;>exact ⟨_,rfl⟩
    obtain ⟨xs,m',hm,_,hl,hxl,hel⟩:=DataW.trod_struct hd h;obtain rfl:n=m':=by omega
    refine ⟨by rw [hl,szT_cells htt hsz],fun j k hj=>?_⟩;have:=kF_in (cs:=cs) (fun t ks cs x=>in_cells htt hka n f t ks cs x) fs 0 _ hkse (fun p hp=>?_) j k hj
    ·rw [Nat.zero_add] at this;exact this
    ·simp only [uOf,UD.struct.injEq] at hq;rw [<- hq] at hp;obtain ⟨fl,hfl,rfl⟩:=List.mem_map.1 hp;obtain ⟨i,hi,hg⟩:=List.getElem_of_mem hfl;have h1:=hel i fl (by rw [<- Array.getElem?_toList,List.getElem?_eq_getElem hi,hg]);rw [List.getElem?_eq_getElem (by rw [hxl];simpa using hi)] at h1;exact ⟨_,h1⟩
   ·cases hk
  ·cases hk
theorem elSegs_val {ks:List K} {d:D} {i:Nat} {g:Nat->Option Value} {ρ:Map} (hE:∀ (j:Nat) k,ks[j]? = some k->∃ u,g j=some u/\TRel ρ.fz k (d.el i j) u):∀ (L:List L) (j:Nat) (s:List Seg),elSegs ks d i j L=some s->(cellsOf s).length=sizeL L/\∀ q x,(cellsOf s)[q]? = some x->∃ u,g (j+q)=some u/\CRel ρ x u
 | [],j,s,h=>by
   simp only [elSegs,Option.some.injEq] at h;subst h;exact ⟨by simp [cellsOf,sizeL],fun q x hx=>by simp [cellsOf] at hx⟩
 | .c::r,j,s,h=>by
   simp only [elSegs] at h
   split at h
   ·rename_i k hk
    split at h
    ·rename_i x s' hx hs;obtain rfl:=by simpa using h
     obtain ⟨h1,h2⟩:=elSegs_val hE r _ s' hs;refine ⟨by rw [cellsOf_cons,List.length_append,h1];simp [Seg.cells,sizeL,L.size],fun q y hy=>?_⟩;rw [cellsOf_cons] at hy
     cases q with
     |zero=>
      simp only [Seg.cells,List.cons_append,List.nil_append,List.getElem?_cons_zero,Option.some.injEq] at hy;subst hy;obtain ⟨u,hu,hr⟩:=hE j k hk;exact ⟨u,hu,cellSC_spec hx hr⟩
     |succ q=>
      obtain ⟨u,hu,hr⟩:=h2 q y (by simpa [Seg.cells] using hy);exact ⟨u,by rw [<- hu];congr 1;omega,hr⟩
    ·cases h
   ·cases h
 | .ints k n::r,j,s,h=>by
   simp only [elSegs] at h
   split at h
   ·rename_i hk
    split at h
    ·rename_i s' hs;obtain rfl:=by simpa using h
     obtain ⟨h1,h2⟩:=elSegs_val hE r _ s' hs;refine ⟨by rw [cellsOf_cons,List.length_append,h1,cells_ints_len];simp [sizeL,L.size,SN.v],fun q y hy=>?_⟩;rw [cellsOf_cons] at hy
     by_cases hq:q<n
     ·rw [List.getElem?_append_left (by rw [cells_ints_len];exact hq),cells_ints_get hq] at hy;obtain rfl:=by simpa using hy
      have hkk:=intsK_spec hk q hq;rw [List.getElem?_drop] at hkk;obtain ⟨u,hu,hr⟩:=hE (j+q) _ hkk;refine ⟨u,hu,?_⟩
      cases hr;rfl
     ·rw [List.getElem?_append_right (by rw [cells_ints_len];simp only [SN.v];omega),cells_ints_len] at hy;obtain ⟨u,hu,hr⟩:=h2 (q-n) y hy;exact ⟨u,by rw [<- hu];congr 1;simp only [SN.v] at *;omega,hr⟩
    ·cases h
   ·cases h
def inV (tt:TT) (T:TypeId) (d:D):Option SV:=match kT tt 9 T,shapeT tt T with
 |some [k],some none=>(match cellSC k (d.el 0 0) with |some c=>some (.one (.sc c)) |none=>none)
 |some ks,some (some L)=>if Nat.beq (sizeL L) ks.length then (match elSegs ks d 0 0 L with |some s=>some (.one (.agg s)) |none=>none) else none
 |_,_=>none
def inVs (tt:TT):List TypeId->List D->Option (List SV)
 | [],[]=>some []
 |T::Ts,d::ds=>(match inV tt T d,inVs tt Ts ds with |some x,some r=>some (x::r) |_,_=>none)
 |_,_=>none
def DatIn (tt:TT) (T:TypeId) (d:D):Prop:=∀ ks,kT tt 9 T=some ks->∀ (j:Nat) k,ks[j]? = some k->DOk k (d.el 0 j)
def DsOk (tt:TT):List TypeId->List D->Prop
 | [],[]=>True
 |T::Ts,d::ds=>DatIn tt T d/\DsOk tt Ts ds
 |_,_=>False
theorem dsOk_nil {Ds:List D} (h:DsOk tt [] Ds):Ds=[]:=by
 cases Ds with
 |nil=>rfl
 |cons d ds=>exact h.elim
theorem not_agg {r:Reach} {b0:Nat} {T:TypeId} {d:TypeDesc} (hd:P.underlying T=some d) (ha:isAggD d=false) {v:Value} (h:Value.okWide P w r b0 T v):v.cells=#[v]:=by
 cases v<;>first |rfl |(exfalso;simp only [Value.okWide,hd] at h;cases d<;>simp_all [Cell.okWide,Cell.ok,isAggD])
theorem is_agg {r:Reach} {b0:Nat} {T:TypeId} {d:TypeDesc} (hd:P.underlying T=some d) (ha:isAggD d=true) {v:Value} (h:Value.okWide P w r b0 T v):∃ cs,v = .agg cs:=by
 simp only [Value.okWide,hd] at h
 cases d<;>first |(obtain ⟨cs,rfl,_⟩:=h;exact ⟨cs,rfl⟩) |(cases ha)
theorem val_in (htt:TTOK P tt) (hka:kAll tt=true) {T:TypeId} {v:Value} {dw:DataW H} {ps:List MemPlace} (h:DataW.Trod enc P w base spare held T v dw ps) {w1:World} {r:Reach} {b0:Nat} (hok:Value.okWide P w1 r b0 T v) :
 ∃ d:D,DatIn tt T d/\∀ sv,inV tt T d=some sv->UR (Map.at0 (cellsAt w)) sv v:=by
 cases hk:kT tt 9 T with
 |none=>exact ⟨.i 0,(fun ks hks=>by rw [hk] at hks;cases hks),fun sv hs=>by simp [inV,hk] at hs⟩
 |some ks=>
  obtain ⟨fuel,hf⟩:=h;obtain ⟨h1,h2⟩:=in_cells htt hka fuel 9 T ks _ _ hk hf;have each:∀ j:Nat,∃ d:D,∀ k,ks[j]? = some k->∃ u,v.cells.toList[j]? = some u/\TRel (cellsAt w) k d u/\DOk k d:=fun j=>by
   cases hj:ks[j]? with
   |none=>exact ⟨.i 0,fun k hk'=>by cases hk'⟩
   |some k=>
    obtain ⟨u,d,g1,g2,g3⟩:=h2 j k hj;exact ⟨d,fun k' hk'=>by cases hk';exact ⟨u,g1,g2,g3⟩⟩
  obtain ⟨F,hF⟩:=Classical.skolem.1 each;have hde:∀ j,j<ks.length->(D.l [(List.range ks.length).map F]).el 0 j=F j:=fun j hj=>by
   show ((List.range ks.length).map F).getD j (.i 0)=F j;rw [List.getD_eq_getElem?_getD,List.getElem?_map,List.getElem?_range hj];rfl
  refine ⟨.l [(List.range ks.length).map F],?_,fun sv hs=>?_⟩
  ·intro ks' hks j k hj;rw [hk] at hks
   cases hks;obtain ⟨u,_,_,g3⟩:=hF j k hj
   rw [hde j (lt_of_get hj)];exact g3
  ·have hE:∀ (j:Nat) k,ks[j]? = some k->∃ u,v.cells.toList[j]? = some u/\TRel (Map.at0 (cellsAt w)).fz k ((D.l [(List.range ks.length).map F]).el 0 j) u:=fun j k hj=>by
    obtain ⟨u,g1,g2,_⟩:=hF j k hj;rw [hde j (lt_of_get hj)];exact ⟨u,g1,g2⟩
   unfold inV at hs;rw [hk] at hs
   split at hs
   ·rename_i k hks hsh;obtain rfl:=by simpa using hks
    obtain ⟨dd,hd,hda⟩:=shapeOf_none (tt_shape htt hsh);have hc:=not_agg hd hda hok
    split at hs
    ·rename_i c hcc;obtain rfl:=by simpa using hs
     obtain ⟨u,g1,g2⟩:=hE 0 k rfl;rw [hc] at g1;obtain rfl:v=u:=by simpa using g1
     exact cellSC_spec hcc g2
    ·cases hs
   ·rename_i ks' L hks hsh;obtain rfl:=by simpa using hks
    obtain ⟨dd,i,hd,hda,_,_⟩:=shapeOf_some (tt_shape htt hsh);obtain ⟨cs,rfl⟩:=is_agg hd hda hok
    split at hs
    ·rename_i hsz
     split at hs
     ·rename_i s hss;obtain rfl:=by simpa using hs
      obtain ⟨e1,e2⟩:=elSegs_val hE L 0 s hss;refine ⟨cs,rfl,?_,fun i x u hx hu=>?_⟩
      ·rw [e1,Nat.eq_of_beq_eq_true hsz,<- h1];rfl
      ·obtain ⟨u',g1,g2⟩:=e2 i x hx;rw [Nat.zero_add] at g1;have:u=u':=by
        have h3:cs.toList[i]? = some u':=g1;rw [hu] at h3;exact Option.some.inj h3
       rw [this];exact g2
     ·cases hs
    ·cases hs
   ·cases hs
theorem args_in (htt:TTOK P tt) (hka:kAll tt=true):∀ (Ts:List TypeId) (vs:List Value) (ds:List (DataW H)) (ps:List MemPlace),DataW.TrodAll enc P w base spare held Ts vs ds ps->∀ {w1:World} {r:Reach} {b0:Nat},(∀ (j:Nat) t v,Ts[j]? = some t->vs[j]? = some v->Value.okWide P w1 r b0 t v) ->
 ∃ Ds:List D,DsOk tt Ts Ds/\∀ svs,inVs tt Ts Ds=some svs->ArgsRel (Map.at0 (cellsAt w)) svs vs
 | [],vs,ds,ps,h,_,_,_,_=>by
   obtain ⟨rfl,_⟩:=Go.ChangeShapes.trodAll_nil h;exact ⟨[],trivial,fun svs hs=>by simp only [inVs,Option.some.injEq] at hs;subst hs;trivial⟩
 |T::Ts,vs,ds,ps,h,_,_,_,hok=>by
  obtain ⟨v,vs',d,ds',p,q,rfl,_,_,h1,h2⟩:=Go.ChangeShapes.trodAll_cons h;obtain ⟨d0,a1,a2⟩:=val_in htt hka h1 (hok 0 T v rfl rfl);obtain ⟨D0,b1,b2⟩:=args_in htt hka Ts vs' ds' q h2 (fun j t v ht hv=>hok (j+1) t v (by simpa using ht) (by simpa using hv));refine ⟨d0::D0,⟨a1,b1⟩,fun svs hs=>?_⟩;simp only [inVs] at hs
  split at hs
  ·rename_i x r hx hr;obtain rfl:=by simpa using hs
   exact ⟨a2 _ hx,b2 _ hr⟩
  ·cases hs
def lawOb (tt:TT) (c:Con) (Ts:List TypeId) (Ds:List D):Prop:=match inVs tt Ts Ds with
 |some svs=>(match c [] 0 svs with
  |some e=>(match e.val,e.st with | .one (.sc (.bool b)),[]=>b.v=true/\All e.vc |_,_=>False)
  |none=>False)
 |none=>False
def tsOK (P:Program) (Ts:List TypeId):Bool:=Ts.all fun t=>P.readableRec t&&decide (t<P.types.size)
theorem args_out (hl:laidOutB P=true) {W W':World} (hb:Below W.heap.size W W'):∀ (Ts:List TypeId) (vs:List Value) (ds:List (DataW H)) (ps:List MemPlace),tsOK P Ts=true->DataW.TrodAll enc P W 0 (fun _=>true) true Ts vs ds ps->DataW.TrodAll enc P W' 0 (fun b=>decide (b<W.heap.size)) true Ts vs ds ps
 | [],vs,ds,ps,_,h=>by
   obtain ⟨rfl,rfl,rfl⟩:=Go.ChangeShapes.trodAll_nil h;exact Go.ChangeShapes.trodAll_mk0
 |T::Ts,vs,ds,ps,ht,h=>by
  obtain ⟨v,vs',d,ds',p,q,rfl,rfl,rfl,h1,h2⟩:=Go.ChangeShapes.trodAll_cons h;simp only [tsOK,List.all_cons,Bool.and_eq_true,decide_eq_true_eq] at ht;have lt:∀ x∈p,x.block<W.heap.size:=by obtain ⟨m,hm⟩:=h1;exact DataW.trod_lt m _ _ _ hm
  exact ⟨p,q,Below.trod hl ht.1.1 ht.1.2 h1 hb lt,args_out hl hb Ts vs' ds' q (by simpa [tsOK] using ht.2) h2,rfl⟩
end
end Go.Proofs.YtplejbgafjpomaaGreatDoor.Sx
