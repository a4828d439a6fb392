import Derived.Test.YtbhbjhejkamlnaaGreatRows
import Derived.Test.YtbhbjhejkamlnaaGreatZx14
import Derived.Test.YtbhbjhejkamlnaaGreatZx26
import Derived.Test.YtbhbjhejkamlnaaGreatZx25
set_option linter.all false
namespace Go.Proofs.YtbhbjhejkamlnaaGreat.Sx
open Go.RowKit Go.WideShapes
mutual
def wD:D->Nat
 | .l rows=>1+wRs rows
 | .s t=>1+t.size
 | .i _=>1
 | .b _=>1
def wRs:List (List D)->Nat
 | []=>0
 |r::l=>1+wR r+wRs l
def wR:List D->Nat
 | []=>0
 |x::r=>wD x+wR r
end
def aZ:Nat->(Nat->Nat)->Nat
 | 0,_=>0
 |n+1,f=>aZ n f+f n
theorem qh (m:Nat) (f:Nat->Nat):∀ n,aZ (m+n) f=aZ m f+aZ n (fun j=>f (m+j))
 | 0=>rfl
 |n+1=>by
  show aZ (m+n) f+f (m+n)=_;rw[qh m f n];show _=aZ m f+(aZ n _+f (m+n));omega
theorem tR {f g:Nat->Nat}:∀ n,(∀ i,i<n->f i<=g i)->aZ n f<=aZ n g
 | 0,_=>Nat.le_refl _
 |n+1,h=>Nat.add_le_add (tR n fun i hi=>h i (by omega)) (h n (by omega))
theorem ly {f g:Nat->Nat}:∀ n,(∀ i,i<n->f i=g i)->aZ n f=aZ n g
 | 0,_=>rfl
 |n+1,h=>by
  show aZ n f+f n=aZ n g+g n;rw[ly n fun i hi=>h i (by omega),h n (by omega)]
theorem qi (c:Nat) (f:Nat->Nat):∀ n,aZ n (fun i=>c*f i)=c*aZ n f
 | 0=>rfl
 |n+1=>by
  show aZ n (fun i=>c*f i)+c*f n=c*(aZ n f+f n);rw[qi c f n,Nat.mul_add]
theorem qj (f:Nat->Nat) (n:Nat):aZ (n+1) f=f 0+aZ n (fun i=>f (i+1)):=by
 rw[Nat.add_comm n 1,qh 1 f n];show 0+f 0+_=_;rw[Nat.zero_add]
 congr 1
 exact ly n fun i _=>by rw[Nat.add_comm]
theorem Bx (L:Nat) (f:Nat->Nat->Nat):∀ m,aZ (m*L) (fun j=>f (j/L) (j%L))=aZ m (fun i=>aZ L (f i))
 | 0=>by rw[Nat.zero_mul];rfl
 |m+1=>by
  rw[Nat.add_mul,Nat.one_mul,qh,Bx L f m];show _=aZ m _+aZ L (f m)
  congr 1
  refine ly L fun j hj=>?_
  have hL:0<L:=by omega
  rw[Nat.mul_comm m L,Nat.mul_add_div hL,Nat.mul_add_mod,Nat.div_eq_of_lt hj,Nat.mod_eq_of_lt hj,Nat.add_zero]
theorem By:∀ l m:List D,wR (l++m)=wR l+wR m
 | [],m=>by rw[List.nil_append];simp [wR]
 |x::l,m=>by
  show wD x+wR (l++m)=wD x+wR l+wR m;rw[By l m];omega
theorem Bz:∀ l m:List (List D),wRs (l++m)=wRs l+wRs m
 | [],m=>by rw[List.nil_append];simp [wRs]
 |x::l,m=>by
  show 1+wR x+wRs (l++m)=1+wR x+wRs l+wRs m;rw[Bz l m];omega
theorem tS (g:Nat->D):∀ n,wR ((List.range n).map g)=aZ n (fun j=>wD (g j))
 | 0=>rfl
 |n+1=>by
  rw[List.range_succ,List.map_append,By,tS g n];show _+(wD (g n)+0)=_;rfl
theorem BA (g:Nat->List D):∀ n,wRs ((List.range n).map g)=aZ n (fun i=>1+wR (g i))
 | 0=>rfl
 |n+1=>by
  rw[List.range_succ,List.map_append,Bz,BA g n];show _+(1+wR (g n)+0)=_;rfl
theorem BB:∀ {l:List (List D)} {r:List D},r∈l->1+wR r<=wRs l
 | [],r,h=>by cases h
 |x::l,r,h=>by
  show _<=1+wR x+wRs l
  rcases List.mem_cons.1 h with rfl |h
  ·omega
  ·have:=BB h;omega
theorem BC:∀ {l:List D} {x:D},x∈l->wD x<=wR l
 | [],x,h=>by cases h
 |y::l,x,h=>by
  show _<=wD y+wR l
  rcases List.mem_cons.1 h with rfl |h
  ·omega
  ·have:=BC h;omega
theorem BD:∀ l:List (List D),l.length<=wRs l
 | []=>Nat.le_refl _
 |x::l=>by
  have:=BD l;show l.length+1<=1+wR x+wRs l;omega
theorem qk (d:D):d.len<wD d:=by
 cases d with
 |l rows=>
  have:=BD rows;show rows.length<1+wRs rows;omega
 |i n=>exact Nat.zero_lt_one
 |b n=>exact Nat.zero_lt_one
 |s n=>show 0<1+n.size;omega
theorem fd {d:D} {i:Nat} (j:Nat) (h:i<d.len):wD (d.el i j)<wD d:=by
 cases d with
 |l rows=>
  have h':i<rows.length:=h;have e:(D.l rows).el i j=(rows[i]).getD j (.i 0):=by
   show (rows.getD i []).getD j (.i 0)=_;rw[List.getD_eq_getElem?_getD (l:=rows),List.getElem?_eq_getElem h',Option.getD_some]
  rw[e,List.getD_eq_getElem?_getD];have h1:=BB (List.getElem_mem h');show _<1+wRs rows
  cases hj:(rows[i])[j]? with
  |none=>
   show 1<_;omega
  |some x=>
   have:=BC (List.mem_of_getElem? hj);rw[Option.getD_some];omega
 |i n=>exact absurd h (Nat.not_lt_zero i)
 |b n=>exact absurd h (Nat.not_lt_zero i)
 |s n=>exact absurd h (Nat.not_lt_zero i)
theorem BE (d:D):d.toS.size<wD d:=by
 cases d with
 |s t=>show t.size<1+t.size;omega
 |l rows=>show 0<1+wRs rows;omega
 |i n=>exact Nat.zero_lt_one
 |b n=>exact Nat.zero_lt_one
def tT (fz:Fz) (ks:List K) (cs:List Value) (b:Nat):Prop:=cs.length=ks.length/\∃ g:Nat->D,(∀ (j:Nat) k,ks[j]? = some k->∃ u,cs[j]? = some u/\TRel fz k (g j) u/\DOk k (g j))/\aZ ks.length (fun j=>wD (g j))+1<=2*b
theorem lz {fz:Fz} {k:K} {v:Value} {d:D} {b:Nat} (h:TRel fz k d v) (hd:DOk k d) (hb:wD d+1<=2*b):tT fz [k] [v] b:=⟨rfl,fun _=>d,fun j k' hk=>by
 cases j with
 |zero=>simp only[List.getElem?_cons_zero,Option.some.injEq] at hk;subst hk;exact ⟨v,rfl,h,hd⟩
 |succ j=>simp at hk,by show 0+wD d+1<=_;omega⟩
section
variable {P:Program} {tt:TT} {H:Type} {enc:TypeId × Value->H} {w:World} {base:Nat} {spare:Nat->Bool} {held:Bool}
def bl (l:List (DataW H)) (i:Nat):Nat:=match l[i]? with |some d=>Rows.uptoBulk d |none=>0
theorem ql:∀ l:List (DataW H),Rows.uptoBulkAll l=aZ l.length (bl l)
 | []=>by simp [Rows.uptoBulkAll];rfl
 |d::l=>by
  rw[List.length_cons,qj,Rows.uptoBulkAll,ql l];rfl
theorem tU {l:List (DataW H × List MemPlace)} {i:Nat} (h:i<l.length):bl (l.map (·.1)) i=Rows.uptoBulk (l[i]).1:=by
 unfold bl;rw[List.getElem?_map,List.getElem?_eq_getElem h];rfl
theorem BF {n:Nat} {f:Nat} (ih:∀ (t:TypeId) (ks:List K) (cs:List Value) x,kT tt f t=some ks->DataW.trod enc P w base spare held n t cs=some x->tT (b9 w) ks cs (Rows.uptoBulk x.1)) {cs:List Value} :
 ∀ (fs:List (TypeId × Nat)) (q:Nat) (ks:List K) (bs:Nat->Nat),kF (kT tt f) fs q=some ks->(∀ (i:Nat) p,fs[i]? = some p->∃ x,DataW.trod enc P w base spare held n p.1 ((cs.drop p.2).take (P.cellsOf p.1))=some x/\Rows.uptoBulk x.1<=bs i) ->
   ∃ g:Nat->D,(∀ (j:Nat) k,ks[j]? = some k->∃ u,cs[q+j]? = some u/\TRel (b9 w) k (g j) u/\DOk k (g j))/\aZ ks.length (fun j=>wD (g j))<=2*aZ fs.length bs
 | [],q,ks,bs,h,_=>by
   simp only[kF,Option.some.injEq] at h;subst h;exact ⟨fun _=>.i 0,fun j k hk=>by simp at hk,Nat.zero_le _⟩
 |(T,o)::r,q,ks,bs,h,hf=>by
  simp only[kF] at h
  split at h
  ·rename_i ho;obtain rfl:=Nat.eq_of_beq_eq_true ho
   split at h
   ·rename_i a ha
    split at h
    ·rename_i b hb;obtain rfl:=by simpa using h
     obtain ⟨x,hx,hw⟩:=hf 0 (T,o) rfl;obtain ⟨h1,g1,h2,h3⟩:=ih T a _ x ha hx;obtain ⟨g2,h4,h5⟩:=BF ih r (o+a.length) b (fun i=>bs (i+1)) hb (fun i p hp=>hf (i+1) p (by simpa using hp));refine ⟨fun j=>if j<a.length then g1 j else g2 (j-a.length),fun j k hk=>?_,?_⟩
     ·by_cases hj:j<a.length
      ·rw[List.getElem?_append_left hj] at hk;obtain ⟨u,hu,hr,hd⟩:=h2 j k hk;simp only[if_pos hj];refine ⟨u,?_,hr,hd⟩;have hlt:=br hu;rw[List.length_take] at hlt;rw[List.getElem?_take_of_lt (by omega),List.getElem?_drop] at hu;exact hu
      ·rw[List.getElem?_append_right (by omega)] at hk;obtain ⟨u,hu,hr,hd⟩:=h4 (j-a.length) k hk;simp only[if_neg hj];exact ⟨u,by rw[<- hu];congr 1;omega,hr,hd⟩
     ·rw[List.length_append,qh,List.length_cons,qj,Nat.mul_add];refine Nat.add_le_add ?_ ?_
      ·rw[ly (g:=fun j=>wD (g1 j)) a.length fun i hi=>by dsimp only;rw[if_pos hi]];omega
      ·rw[ly (g:=fun j=>wD (g2 j)) b.length fun i hi=>by dsimp only;rw[if_neg (by omega),Nat.add_sub_cancel_left]];exact h5
    ·cases h
   ·cases h
  ·cases h
theorem qm (htt:aP P tt) (hka:kt tt=true):∀ (n f:Nat) (t:TypeId) (ks:List K) (cs:List Value) x,kT tt f t=some ks->DataW.trod enc P w base spare held n t cs=some x->tT (b9 w) ks cs (Rows.uptoBulk x.1)
 | 0,f,t,ks,cs,x,_,h=>by simp [DataW.trod] at h
 |n+1,0,t,ks,cs,x,hk,h=>by simp [kT] at hk
 |n+1,f+1,t,ks,cs,x,hk,h=>by
  unfold kT at hk
  split at hk
  ·rename_i hu;obtain ⟨d,hd,hq⟩:=bi htt hu;obtain rfl:d = .bool:=by cases d<;>simp [uOf] at hq<;>rfl
   obtain ⟨b,rfl,rfl⟩:=DataW.trod_bool hd h;obtain rfl:=by simpa using hk
   exact lz (.bool (.b b)) (.bool _) (Nat.le_refl 2)
  ·rename_i k hu;obtain ⟨d,hd,hq⟩:=bi htt hu;obtain rfl:d = .int k:=by cases d<;>simp [uOf] at hq<;>rw[hq]
   obtain ⟨b,rfl,rfl,hw⟩:=DataW.trod_int hd h;obtain rfl:=by simpa using hk
   exact lz (.int k (.i b)) (.int _ _ hw) (Nat.le_refl 2)
  ·rename_i hu;obtain ⟨d,hd,hq⟩:=bi htt hu;obtain rfl:d = .string:=by cases d<;>simp [uOf] at hq<;>rfl
   obtain ⟨b,rfl,rfl,hw⟩:=DataW.trod_string hd h;obtain rfl:=by simpa using hk
   refine lz (.str (.s b)) (.str _ hw) ?_
   rw[Rows.uptoBulk];have e:b.data.toList.length=b.size:=by rw[Array.length_toList];rfl
   show 1+b.size+1<=2*(b.data.toList.length+1);omega
  ·rename_i e hu;obtain ⟨d,hd,hq⟩:=bi htt hu;obtain rfl:d = .slice e:=by cases d<;>simp [uOf] at hq<;>rw[hq]
   split at hk
   ·rename_i kse hkse;obtain rfl:=by simpa using hk
    obtain ⟨hek,hpos,q,z,hq1,hq2,_⟩:=iu htt hkse;have hce:P.cellsOf e=(eks e).length:=by simp [Program.cellsOf,hq1,hq2,hek]
    rcases DataW.trod_slice hd h with ⟨rfl,rfl⟩ |⟨a,len,cap,elems,rest,m,hm,rfl,rfl,_,hlc,hcm,hel,hget,_⟩
    ·exact lz (.nil e (.l []) rfl) (.slice _ _ (Nat.zero_le _) (fun i j k hi=>absurd hi (Nat.not_lt_zero i))) (by rw[Rows.uptoBulk];show 1+0+1<=2*1;omega)
    ·obtain rfl:n=m:=by omega
     rw[Rows.uptoBulk,ql,List.length_map,hel]
     by_cases h0:len=0
     ·subst h0;exact lz (.empty e (.l []) a cap rfl) (.slice _ _ (Nat.zero_le _) (fun i j k hi=>absurd hi (Nat.not_lt_zero i))) (by show 1+0+1<=2*(_+1);omega)
     ·have each0:∀ i:Nat,∃ g:Nat->D,i<len->(∀ (j:Nat) k,(eks e)[j]? = some k->∃ u,w.cell? (a.add (i*(eks e).length+j))=some u/\TRel (b9 w) k (g j) u/\DOk k (g j))/\aZ (eks e).length (fun j=>wD (g j))+1<=2*bl (elems.map (·.1)) i:=fun i=>by
       by_cases hi:i<len
       ·have h1:=hget i hi;rw[List.getElem?_eq_getElem (by omega)] at h1;obtain ⟨cs',g1,g2⟩:=Option.bind_eq_some_iff.1 h1;obtain ⟨g3,g,g4,g5⟩:=qm htt hka n 9 e kse cs' _ (GR hka hkse) g2;refine ⟨g,fun _=>⟨fun j k hj=>?_,?_⟩⟩
        ·obtain ⟨u,hu,hr⟩:=g4 j k (by rw[<- hek];exact hj);obtain ⟨_,_,hc⟩:=World.cells?_some g1;have:=hc j (by rw[hce];exact br hj);rw[hu,hce,GS] at this;exact ⟨u,this,hr⟩
        ·rw[tU (by omega),hek];exact g5
       ·exact ⟨fun _=>.i 0,fun hi'=>absurd hi' hi⟩
      obtain ⟨G,hG⟩:=Classical.skolem.1 each0;have hsp:a.spot=none:=by
       obtain ⟨k0,hk0⟩:∃ k0,(eks e)[0]? = some k0:=⟨_,List.getElem?_eq_getElem (by rw[hek];exact hpos)⟩;obtain ⟨u,hu,_⟩:=(hG 0 (by omega)).1 0 k0 hk0;have:=(xQ hu).1
       simpa [Addr.add] using this
      obtain ⟨ab,ao,as1⟩:=a;obtain rfl:as1=none:=hsp;have each:∀ p:Nat × Nat,∃ u:Value,p.1<len->∀ k,(eks e)[p.2]? = some k->w.cell? ((⟨ab,ao,none⟩:Addr).add (p.1*(eks e).length+p.2))=some u/\TRel (b9 w) k (G p.1 p.2) u/\DOk k (G p.1 p.2):=fun p=>by
       by_cases hp:p.1<len
       ·cases hk:(eks e)[p.2]? with
        |none=>exact ⟨undef,fun _ k hk'=>by cases hk'⟩
        |some k=>
         obtain ⟨u,hh⟩:=(hG p.1 hp).1 p.2 k hk;exact ⟨u,fun _ k' hk'=>by cases hk';exact hh⟩
       ·exact ⟨undef,fun hp'=>absurd hp' hp⟩
      obtain ⟨F,hF⟩:=Classical.skolem.1 each;have hwd:wD (D.l ((List.range len).map fun i=>(List.range (eks e).length).map fun j=>G i j))=1+aZ len (fun i=>1+aZ (eks e).length (fun j=>wD (G i j))):=by
       show 1+wRs _=_;rw[BA]
       congr 1
       exact ly len fun i _=>by rw[tS]
      have hdl:(D.l ((List.range len).map fun i=>(List.range (eks e).length).map fun j=>G i j)).len=len:=by
       show ((List.range len).map _).length=len
       simp
      have hde:∀ i j,i<len->j<(eks e).length->(D.l ((List.range len).map fun i=>(List.range (eks e).length).map fun j=>G i j)).el i j=G i j:=fun i j hi hj=>by
       show (((List.range len).map fun i=>(List.range (eks e).length).map fun j=>G i j).getD i []).getD j (.i 0)=_;rw[List.getD_eq_getElem?_getD,List.getD_eq_getElem?_getD,List.getElem?_map,List.getElem?_range hi];simp only[Option.map_some,Option.getD_some];rw[List.getElem?_map,List.getElem?_range hj];rfl
      generalize hdd:D.l ((List.range len).map fun i=>(List.range (eks e).length).map fun j=>G i j)=dd at hdl hde hwd;refine lz (d:=dd) ?_ (.slice _ _ (by omega) fun i j k hi hk=>?_) ?_
      ·rw[<- hdl];refine .slice e dd ab ao cap (fun i j=>F (i,j)) (by omega) (fun i j hi hj=>?_) (fun i j k hi hk=>?_)
       ·obtain ⟨g1,_⟩:=hF (i,j) (by rw[<- hdl];exact hi) _ (List.getElem?_eq_getElem hj);have:=(xQ g1).2;rw[Sx.fM] at this;rw[Nat.add_assoc];exact this
       ·rw[hde i j (by rw[<- hdl];exact hi) (br hk)];exact (hF (i,j) (by rw[<- hdl];exact hi) k hk).2.1
      ·rw[hde i j (by rw[<- hdl];exact hi) (br hk)];exact (hF (i,j) (by rw[<- hdl];exact hi) k hk).2.2
      ·rw[hwd];have:=tR (f:=fun i=>1+aZ (eks e).length (fun j=>wD (G i j))) (g:=fun i=>2*bl (elems.map (·.1)) i) len fun i hi=>by
        have:=(hG i hi).2;omega
       rw[qi] at this;omega
   ·cases hk
  ·rename_i m e hu;obtain ⟨d,hd,hq⟩:=bi htt hu;obtain rfl:d = .array m e:=by cases d<;>simp [uOf] at hq<;>rw[hq.1,hq.2]
   split at hk
   ·rename_i kse hkse
    split at hk
    ·rename_i kse' hse;obtain ⟨_,hsze⟩:=rY hse;obtain ⟨rfl,hsz⟩:=rY hk;obtain ⟨xs,m',hm,rfl,hl,hxl,hel⟩:=DataW.trod_array hd h;obtain rfl:n=m':=by omega
     have hl':cs.length=(List.replicate m kse).flatten.length:=by rw[hl,rZ htt hsz]
     have hce:P.cellsOf e=kse.length:=rZ htt hsze;have hfl:(List.replicate m kse).flatten.length=m*kse.length:=by simp
     have each0:∀ i:Nat,∃ g:Nat->D,i<m->(∀ (j:Nat) k,kse[j]? = some k->∃ u,((cs.drop (i*P.cellsOf e)).take (P.cellsOf e))[j]? = some u/\TRel (b9 w) k (g j) u/\DOk k (g j))/\aZ kse.length (fun j=>wD (g j))+1<=2*bl (xs.map (·.1)) i:=fun i=>by
      by_cases hi:i<m
      ·have h1:=hel i hi;rw[List.getElem?_eq_getElem (by rw[hxl];exact hi)] at h1;obtain ⟨g3,g,g4,g5⟩:=qm htt hka n f e kse _ _ hkse h1;exact ⟨g,fun _=>⟨g4,by rw[tU (by rw[hxl];exact hi)];exact g5⟩⟩
      ·exact ⟨fun _=>.i 0,fun hi'=>absurd hi' hi⟩
     obtain ⟨G,hG⟩:=Classical.skolem.1 each0;refine ⟨hl',fun j=>G (j/kse.length) (j%kse.length),fun j k hj=>?_,?_⟩
     ·rw[xR] at hj
      split at hj
      ·rename_i hjl;have hpos:0<kse.length:=by
        rcases Nat.eq_zero_or_pos kse.length with h0 |h0
        ·rw[h0] at hjl;simp at hjl
        ·exact h0
       have hi:j/kse.length<m:=by rw[Nat.div_lt_iff_lt_mul hpos];exact hjl
       obtain ⟨u,hu',hr,hd'⟩:=(hG (j/kse.length) hi).1 _ k hj;refine ⟨u,?_,hr,hd'⟩;rw[hce,List.getElem?_take_of_lt (Nat.mod_lt _ hpos),List.getElem?_drop,Nat.div_add_mod'] at hu';exact hu'
      ·cases hj
     ·rw[hfl,Bx kse.length (fun i j=>wD (G i j)),Rows.uptoBulk,ql,List.length_map,hxl];have:=tR (f:=fun i=>aZ kse.length (fun j=>wD (G i j))) (g:=fun i=>2*bl (xs.map (·.1)) i) m fun i hi=>by
       have:=(hG i hi).2;omega
      rw[qi] at this;omega
    ·cases hk
   ·cases hk
  ·rename_i fs hu;obtain ⟨d,hd,hq⟩:=bi htt hu
   split at hk
   ·rename_i kse hkse;obtain ⟨rfl,hsz⟩:=rY hk;obtain ⟨fa,rfl⟩:∃ fa,d = .struct fa:=by cases d<;>simp [uOf] at hq<;>exact ⟨_,rfl⟩
    obtain ⟨xs,m',hm,rfl,hl,hxl,hel⟩:=DataW.trod_struct hd h;obtain rfl:n=m':=by omega
    simp only[uOf,UD.struct.injEq] at hq;have hfs:fs.length=xs.length:=by rw[<- hq,List.length_map,hxl];simp
    obtain ⟨g,g1,g2⟩:=BF (cs:=cs) (fun t ks cs x=>qm htt hka n f t ks cs x) fs 0 _ (bl (xs.map (·.1))) hkse (fun i p hp=>by
     rw[<- hq,List.getElem?_map] at hp;obtain ⟨fl,hfl,rfl⟩:=Option.map_eq_some_iff.1 hp;have hi:i<xs.length:=by rw[<- hfs,<- hq,List.length_map];exact br hfl
     have h1:=hel i fl (by rw[<- Array.getElem?_toList];exact hfl);rw[List.getElem?_eq_getElem hi] at h1;exact ⟨_,h1,by rw[tU hi];exact Nat.le_refl _⟩)
    refine ⟨by rw[hl,rZ htt hsz],g,fun j k hj=>?_,?_⟩
    ·have:=g1 j k hj;rw[Nat.zero_add] at this;exact this
    ·rw[Rows.uptoBulk,ql,List.length_map,<- hfs];omega
   ·cases hk
  ·cases hk
theorem J8 (htt:aP P tt) (hka:kt tt=true) {T:TypeId} {v:Value} {dw:DataW H} {ps:List MemPlace} (h:DataW.Trod enc P w base spare held T v dw ps) {w1:World} {r:Reach} {b0:Nat} (hok:Value.okWide P w1 r b0 T v) :
 ∃ d:D,r6 tt T d/\wD d<=2*Rows.uptoBulk dw+1/\∀ sv,inV tt T d=some sv->UR (Map.at0 (b9 w)) sv v:=by
 cases hk:kT tt 9 T with
 |none=>exact ⟨.i 0,(fun ks h=>by rw[hk] at h;cases h),Nat.le_add_left _ _,fun sv hs=>by unfold inV at hs;rw[hk] at hs;cases hs⟩
 |some ks=>
 obtain ⟨fuel,hf⟩:=h;obtain ⟨h1,F,h2,h3⟩:=qm htt hka fuel 9 T ks _ _ hk hf;have hde:∀ j,j<ks.length->(D.l [(List.range ks.length).map F]).el 0 j=F j:=fun j hj=>by
  show ((List.range ks.length).map F).getD j (.i 0)=F j;rw[List.getD_eq_getElem?_getD,List.getElem?_map,List.getElem?_range hj];rfl
 have hE:∀ (j:Nat) k,ks[j]? = some k->∃ u,v.cells.toList[j]? = some u/\TRel (Map.at0 (b9 w)).fz k ((D.l [(List.range ks.length).map F]).el 0 j) u:=fun j k hj=>by
  obtain ⟨u,g1,g2,_⟩:=h2 j k hj;rw[hde j (br hj)];exact ⟨u,g1,g2⟩
 refine ⟨.l [(List.range ks.length).map F],?_,?_,fun sv hs=>?_⟩
 ·intro ks' hks' j k hj;rw[hk] at hks';obtain rfl:=Option.some.inj hks';obtain ⟨u,_,_,g3⟩:=h2 j k hj;rw[hde j (br hj)];exact g3
 ·have h3:_<=2*Rows.uptoBulk dw:=h3;show 1+(1+wR ((List.range ks.length).map F)+0)<=_;rw[tS];omega
 ·unfold inV at hs;rw[hk] at hs
  split at hs
  ·rename_i k hks hsh;obtain rfl:=by simpa using hks
   obtain ⟨dd,hd,hda⟩:=sE (kL htt hsh);have hc:=GU hd hda hok
   split at hs
   ·rename_i c hcc;obtain rfl:=by simpa using hs
    obtain ⟨u,g1,g2⟩:=hE 0 k rfl;rw[hc] at g1;obtain rfl:v=u:=by simpa using g1
    exact pi hcc g2
   ·cases hs
  ·rename_i ks' L hks hsh;obtain rfl:=by simpa using hks
   obtain ⟨dd,i,hd,hda,_,_⟩:=sF (kL htt hsh);obtain ⟨cs,rfl⟩:=GV hd hda hok
   split at hs
   ·rename_i hsz
    split at hs
    ·rename_i s hss;obtain rfl:=by simpa using hs
     obtain ⟨e1,e2⟩:=r5 hE L 0 s hss;refine ⟨cs,rfl,?_,fun i x u hx hu=>?_⟩
     ·rw[e1,Nat.eq_of_beq_eq_true hsz,<- h1];rfl
     ·obtain ⟨u',g1,g2⟩:=e2 i x hx;rw[Nat.zero_add] at g1;have:u=u':=by
       have h3:cs.toList[i]? = some u':=g1;rw[hu] at h3;exact Option.some.inj h3
      rw[this];exact g2
    ·cases hs
   ·cases hs
  ·cases hs
theorem BG (htt:aP P tt) (hka:kt tt=true):∀ (Ts:List TypeId) (vs:List Value) (ds:List (DataW H)) (ps:List MemPlace),DataW.TrodAll enc P w base spare held Ts vs ds ps->∀ {w1:World} {r:Reach} {b0:Nat},(∀ (j:Nat) t v,Ts[j]? = some t->vs[j]? = some v->Value.okWide P w1 r b0 t v) ->
 ∃ Ds:List D,jo tt Ts Ds/\(∀ d∈Ds,wD d<=2*Rows.uptoBulkAll ds+1)/\∀ svs,mE tt Ts Ds=some svs->dD (Map.at0 (b9 w)) svs vs
 | [],vs,ds,ps,h,_,_,_,_=>by
   obtain ⟨rfl,_⟩:=Go.ChangeShapes.trodAll_nil h;exact ⟨[],trivial,fun _ h=>(by cases h),fun svs hs=>by simp only[mE,Option.some.injEq] at hs;subst hs;trivial⟩
 |T::Ts,vs,ds,ps,h,_,_,_,hok=>by
  obtain ⟨v,vs',d,ds',p,q,rfl,rfl,_,h1,h2⟩:=Go.ChangeShapes.trodAll_cons h;obtain ⟨d0,a1,a3,a2⟩:=J8 htt hka h1 (hok 0 T v rfl rfl);obtain ⟨D0,b1,b3,b2⟩:=BG htt hka Ts vs' ds' q h2 (fun j t v ht hv=>hok (j+1) t v (by simpa using ht) (by simpa using hv));refine ⟨d0::D0,⟨a1,b1⟩,fun x hx=>?_,fun svs hs=>?_⟩
  ·rw[Rows.uptoBulkAll]
   rcases List.mem_cons.1 hx with rfl |hx
   ·omega
   ·have:=b3 x hx;omega
  simp only[mE] at hs
  split at hs
  ·rename_i x r hx hr;obtain rfl:=by simpa using hs
   exact ⟨a2 _ hx,b2 _ hr⟩
  ·cases hs
theorem J9 (htt:aP P tt) (hka:kt tt=true) {f:FuncId} {c:Con} (hc:ConOK P f c) {params:Array TypeId} {args:Array Value} {ds:List (DataW H)} {ps:List MemPlace} (h:DataW.TrodAll enc P w base spare held params.toList args.toList ds ps) (hb:Rows.uptoBulkAll ds<=1048576)
 {w1:World} {r:Reach} {b0:Nat} (hok:∀ (j:Nat) t v,params[j]? = some t->args[j]? = some v->Value.okWide P w1 r b0 t v) (hl:∀ Ds,jo tt params.toList Ds->(∀ d∈Ds,wD d<=2097153)->r7 tt c params.toList Ds) (ht:TabF (b9 w)) :
 Calls P f args w fun e w'=>e = .returned (.bool true)/\Below w.heap.size w w':=by
 obtain ⟨Ds,h1,h0,h2⟩:=BG htt hka _ _ _ _ h (fun j t v ht hv=>hok j t v (by simpa using ht) (by simpa using hv));have h3:=hl Ds h1 (fun d hd=>Nat.le_trans (h0 d hd) (by omega));unfold r7 at h3
 split at h3
 ·rename_i svs hs
  split at h3
  ·rename_i e he
   split at h3
   ·rename_i b hv hst;have:=hc.calls [] 0 svs e he h3.2 _ w _ args.toList (GP w ht) (fun _ _ _=>rfl) (h2 svs hs);rw[Array.toArray_toList] at this;refine this.mono ?_
    rintro en w' ⟨ρ',v,rfl,g1,g2⟩;refine ⟨?_,g2.below.1,g2.below.2,g2.below.3,g2.below.size,fun k hk=>g2.keep k hk fun _ _ h=>by rw[hst] at h;simp [ad] at h⟩;rw[hv] at g1;have:v = .bool b.v:=g1;rw[this,h3.1]
   ·exact h3.elim
  ·exact h3.elim
 ·exact h3.elim
end
end Go.Proofs.YtbhbjhejkamlnaaGreat.Sx
namespace Go.Proofs.YtbhbjhejkamlnaaGreat.Sx.Z
open Go.RowKit
def gX0:AP:=.agg [.c (.int .i64),.c (.int .i64),.c .str,.c (.rows 24)]
def gC0:AP:=.agg [.c (.int .i64),.c (.int .i64),.c (.int .i64),.c .str,.c (.rows 24),.c (.int .i64),.c (.int .i64),.c .str,.c (.rows 24)]
def gB0:AP:=.sc (.rows 31)
def nm2 (s:ByteArray):Bool:=(ai s).2.2==0&&((bh (ai s).1).len:Int)==1&&((bh (ai s).1).el 0 0).toI==1&&(((bh (ai s).1).el 0 1).toS.toList==s.toList)
theorem Ka {s:ByteArray} (h:nm2 s=true):∃ m,bb s.data.toList = .ok (1,s.size,m):=by
 unfold nm2 at h;simp only[Bool.and_eq_true,beq_iff_eq] at h;obtain ⟨⟨⟨h1,h2⟩,h3⟩,h4⟩:=h;have h2:((ai s).1.length:Int)=1:=by rw[cV] at h2;exact h2
 obtain ⟨t,ht⟩:∃ t,(ai s).1=[t]:=List.length_eq_one_iff.1 (by omega);rw[ht] at h3 h4;have h3:t.kind=1:=h3;have h4:t.text.toList=s.toList:=h4;have h4:t.text=s:=by
  rw[ByteArray.toList_eq,ByteArray.toList_eq] at h4;exact ByteArray.ext (Array.toList_inj.1 h4)
 cases hg:bI s s.size 0 [] with
 |error x=>
  obtain ⟨p,e⟩:=x;rw[gK hg rfl] at ht
  cases ht
 |ok acc=>
  by_cases hl:2000<acc.length
  ·rw[mT hg rfl hl] at ht
   cases ht
  ·rw[mU hg rfl (by omega)] at ht;have ht:acc=[t]:=ht;obtain ⟨q,q1,q2⟩:=tG s s.size 0 [] acc (Nat.zero_le _) (fun _ h=>by cases h) hg t (by rw[ht];exact List.mem_singleton.2 rfl);rw[h4] at q1 q2;have q0:q=0:=by omega
   rw[q0,List.drop_zero,h3] at q2;exact ⟨_,q2⟩
theorem Kb {s:ByteArray} (h:nm2 s=true):s.size<=12:=by
 obtain ⟨m,hm⟩:=Ka h;unfold bb at hm
 split at hm
 ·unfold cQ at hm
  split at hm
  ·cases hm
  ·rename_i hn;simp only[Except.ok.injEq,Prod.mk.injEq] at hm;omega
 ·split at hm
  ·unfold cq at hm
   repeat' split at hm
   all_goals first |cases hm |(simp only[Except.ok.injEq,Prod.mk.injEq] at hm;omega)
  ·unfold dY at hm
   repeat' split at hm
   all_goals first |cases hm |(simp only[Except.ok.injEq,Prod.mk.injEq] at hm;omega)
theorem Kc (s:ByteArray):nm2 s=nmB s:=by
 cases h:nm2 s with
 |true=>
  have hz:=Kb h;unfold nm2 at h;unfold nmB;rw[decide_eq_false (by omega)];simp only[Bool.and_eq_true] at h;simp only[h.1.1.1,h.1.1.2,h.1.2,h.2,Bool.not_false,Bool.and_self]
 |false=>
  cases hb:nmB s with
  |false=>rfl
  |true=>
   unfold nmB at hb;unfold nm2 at h;simp only[Bool.and_eq_true] at hb;simp only[hb.2.1.1.1,hb.2.1.1.2,hb.2.1.2,hb.2.2,Bool.and_self] at h
   cases h
def vXb (k n:Int) (s:ByteArray) (len:Int) (f:Nat->Bool):Bool:=
 if k=1 then nuB n&&len==0 else if k=2 then nmB s&&len==0 else if k=3 then len==1&&f 0 else if biB k=true then len==2&&f 0&&f 1 else false
def vE (d:D) (i:Nat):Bool:=if _h:i<d.len then vXb (d.el i 0).toI (d.el i 1).toI (d.el i 2).toS (d.el i 3).len (fun j=>vE (d.el i 3) j) else false
 termination_by SizeOf.sizeOf d
 decreasing_by exact ap (by assumption)
def vX (k n:Int) (s:ByteArray) (d:D):Bool:=vXb k n s d.len (vE d)
theorem jK {d:D} {i:Nat} (h:i<d.len):vE d i=vX (d.el i 0).toI (d.el i 1).toI (d.el i 2).toS (d.el i 3):=by
 rw[vE,dif_pos h];rfl
theorem BH {k n:Int} {s:ByteArray} {d:D} (h:biB k=true):vX k n s d=((d.len:Int)==2&&vE d 0&&vE d 1):=by
 have hb:=ei h;unfold vX vXb;rw[if_neg (by omega),if_neg (by omega),if_neg (by omega),if_pos h]
theorem BI {k n:Int} {s:ByteArray} {d:D} (h1:k≠1) (h2:k≠2) (h3:k≠3) (h:biB k=false):vX k n s d=false:=by
 unfold vX vXb;rw[if_neg h1,if_neg h2,if_neg h3,if_neg (by rw[h];decide)]
theorem tV {k n:Int} {s:ByteArray} {d:D} (ih:∀ j,j<d.len->vE d j=true->aE d j=true) (h:vX k n s d=true):aX k n s d=true:=by
 unfold vX vXb at h;unfold aX aXb
 split at h
 ·rw[if_pos (by assumption)];simp only[Bool.and_eq_true] at h;exact h.1
 ·rw[if_neg (by assumption)]
  split at h
  ·rw[if_pos (by assumption)];simp only[Bool.and_eq_true] at h;exact h.1
  ·rw[if_neg (by assumption)]
   split at h
   ·rw[if_pos (by assumption)];simp only[Bool.and_eq_true,beq_iff_eq] at h;rw[ih 0 (by omega) h.2];simp only[Bool.and_true,beq_iff_eq];exact h.1
   ·rw[if_neg (by assumption)]
    split at h
    ·rw[if_pos (by assumption)];simp only[Bool.and_eq_true,beq_iff_eq] at h;rw[ih 0 (by omega) h.1.2,ih 1 (by omega) h.2];simp only[Bool.and_true,beq_iff_eq];exact h.1.1
    ·cases h
theorem BJ:∀ (m:Nat) (d:D),SizeOf.sizeOf d<=m->∀ i,i<d.len->vE d i=true->aE d i=true:=by
 intro m
 induction m with
 |zero=>
  intro d hm i hi;have:=ap (j:=0) hi;omega
 |succ m ih=>
  intro d hm i hi h;rw[jK hi] at h;rw[nq hi];have:=ap (j:=3) hi;exact tV (fun j hj=>ih _ (by omega) j hj) h
theorem tW {k n:Int} {s:ByteArray} {d:D} (h:vX k n s d=true):aX k n s d=true:=tV (fun j hj=>BJ _ d (Nat.le_refl _) j hj) h
def vC (op lk ln:Int) (ls:ByteArray) (ld:D) (rk rn:Int) (rs:ByteArray) (rd:D):Bool:=decide (op>=1)&&decide (op<=6)&&vX lk ln ls ld&&vX rk rn rs rd
theorem Kd {op lk ln:Int} {ls:ByteArray} {ld:D} {rk rn:Int} {rs:ByteArray} {rd:D} (h:vC op lk ln ls ld rk rn rs rd=true):aC op lk ln ls ld rk rn rs rd=true:=by
 unfold vC at h;unfold aC;simp only[Bool.and_eq_true] at h ⊢;exact ⟨⟨h.1.1,tW h.1.2⟩,tW h.2⟩
def sW (d:D):Prop:=wD d<=2200000
theorem aK {d:D} (h:sW d) {i:Nat} (hi:i<d.len) (j:Nat):sW (d.el i j):=Nat.le_trans (Nat.le_of_lt (fd j hi)) h
theorem dn {d:D} (h:sW d):d.toS.size<=2147483647:=by
 have:=BE d;have h:wD d<=2200000:=h;omega
theorem bZ {d:D} (h:sW d):d.len<=2200000:=by
 have:=qk d;have h:wD d<=2200000:=h;omega
noncomputable def BK:FSpec:=fun ds _=>match ds with
 | [.s s]=>some {val:=.one (.sc (.bool (.sym (nmB s)))),vc:=[s.size<=2147483647]}
 |_=>none
noncomputable def qn:Con:=con [.sc .str] BK
theorem tX:ConOK Tryz.prog 35 qn:=by
 refine bg tt_ok au Tryz.func35 rfl (fun _ _=>by kernel_rfl) (A:=fun ds=>⟨fun _=>Cons.of [(18,pT)],fun _=>none,fun _=>none⟩) (fun _ _=>(af AU aq)) (by kernel_rfl) ?_
 intro ds fr;unfold BK;split
 ·rename_i s;refine kmp (q:=s.size<=2147483647->s.size<=2147483647/\(((ai s).snd.snd==(0:Int)&&((bh (ai s).fst).len:Int)==1)=true/\True->(0:Nat)<(bh (ai s).fst).len)/\(((ai s).snd.snd==(0:Int)&&((bh (ai s).fst).len:Int)==1&&((bh (ai s).fst).el ((0:Nat)) (0+0:Nat)).toI==1)=true/\True->(0:Nat)<(bh (ai s).fst).len)/\((ai s).snd.snd==(0:Int)&&((bh (ai s).fst).len:Int)==1&&((bh (ai s).fst).el ((0:Nat)) (0+0:Nat)).toI==1&&((bh (ai s).fst).el ((0:Nat)) 1).toS.toList==s.toList)=nmB s) (by kernel_rfl) ?_
  intro h;refine ⟨h,fun q=>?_,fun q=>?_,(Kc s).symm ▸ rfl⟩
  ·have q:=q.1;simp only[Bool.and_eq_true,beq_iff_eq] at q;omega
  ·have q:=q.1;simp only[Bool.and_eq_true,beq_iff_eq] at q;omega
 ·trivial
noncomputable def BL:FSpec:=fun ds _=>match ds with
 | [.i n]=>some {val:=.one (.sc (.bool (.sym (nuB n)))),vc:=[]}
 |_=>none
noncomputable def tY:Con:=con [.sc (.int .i64)] BL
theorem BM:ConOK Tryz.prog 36 tY:=by
 refine bg tt_ok au Tryz.func36 rfl (fun _ _=>by kernel_rfl) (A:=fun ds=>⟨fun _=>Cons.of [],fun _=>none,fun _=>none⟩) (fun _ _=>aq) (by kernel_rfl) ?_
 intro ds fr;unfold BL;split
 ·rename_i n;refine kmp (q:=(decide (n>=(0:Int))&&decide (n<=(2147483647:Int)))=nuB n) (by kernel_rfl) ?_
  rfl
 ·trivial
noncomputable def BN:FSpec:=fun ds _=>match ds with
 | [.i k]=>some {val:=.one (.sc (.bool (.sym (biB k)))),vc:=[]}
 |_=>none
noncomputable def nB:Con:=con [.sc (.int .i64)] BN
theorem qo:ConOK Tryz.prog 66 nB:=by
 refine bg tt_ok au Tryz.func66 rfl (fun _ _=>by kernel_rfl) (A:=fun ds=>⟨fun _=>Cons.of [],fun _=>none,fun _=>none⟩) (fun _ _=>aq) (by kernel_rfl) ?_
 intro ds fr;unfold BN;split
 ·rename_i k;refine kmp (q:=(decide (k>=(4:Int))&&decide (k<=(8:Int)))=biB k) (by kernel_rfl) ?_
  rfl
 ·trivial
noncomputable def tZ:FSpec:=fun ds _=>match ds with
 | [.i k,.i n,.s s,.d d]=>some {val:=.one (.sc (.bool (.sym (vX k n s d)))),vc:=[s.size<=2147483647,sW d]}
 |_=>none
noncomputable def t5:Con:=con [gX0] tZ
noncomputable def t6:List Dat->Nat:=fun ds=>match ds with
 | [.i k,.i n,.s s,.d d]=>SizeOf.sizeOf d
 |_=>0
noncomputable def lA (m:Nat):FSpec:=fun ds _=>match ds with
 | [.i k,.i n,.s s,.d d]=>some {val:=.one (.sc (.bool (.sym (vX k n s d)))),vc:=[SizeOf.sizeOf d<m,s.size<=2147483647,sW d]}
 |_=>none
theorem Ke (m:Nat):tZ.under t6 m=lA m:=by
 funext ds fr
 unfold FSpec.under tZ t6 lA;split
 ·rename_i e h
  split at h
  ·obtain rfl:=Option.some.inj h;rfl
  ·cases h
 ·rename_i h
  split at h
  ·cases h
  ·rfl
theorem Kf (m:Nat) (ih:ConOK Tryz.prog 64 (con [gX0] (lA m))):ConOK Tryz.prog 64 (con [gX0] (lA (m+1))):=by
 refine bg tt_ok au Tryz.func64 rfl (fun _ _=>by kernel_rfl) (A:=fun ds=>⟨fun _=>Cons.of [(36,tY),(35,qn),(66,nB),(64,con [gX0] (lA m))],fun _=>none,fun _=>none⟩) (fun _ _=>(af BM (af tX (af qo (af ih aq))))) (by kernel_rfl) ?_
 intro ds fr;unfold lA;split
 ·rename_i k n s d;refine kmp (q:=ac (d.el ((0:Nat)) 3) fun Ea=>ac (d.el ((0:Nat)) 2) fun Eb=>ac (d.el ((0:Nat)) 1) fun Ec=>ac (d.el ((1:Nat)) 3) fun Ed=>ac (d.el ((0:Nat)) (0:Nat)) fun Ee=>ac (d.el ((1:Nat)) 2) fun Ef=>SizeOf.sizeOf d<m+1->s.size<=2147483647->sW d->((k==(1:Int))=true->(nuB n&&(d.len:Int)==0)=vX k n s d)/\((k==(1:Int))=false->((k==(2:Int))=true->s.size<=2147483647/\(nmB s&&(d.len:Int)==0)=vX k n s d)/\((k==(2:Int))=false->((k==(3:Int))=true->(((d.len:Int)==1)=true/\True->(0:Nat)<d.len)/\(((d.len:Int)==1)=true/\True->SizeOf.sizeOf Ea<m)/\(((d.len:Int)==1)=true/\True->Eb.toS.size<=2147483647)/\(((d.len:Int)==1)=true/\True->sW Ea)/\((d.len:Int)==1&&vX Ee.toI Ec.toI Eb.toS Ea)=vX k n s d)/\((k==(3:Int))=false->(biB k=true->(((d.len:Int)==2)=true/\True->(0:Nat)<d.len)/\(((d.len:Int)==2)=true/\True->SizeOf.sizeOf Ea<m)/\(((d.len:Int)==2)=true/\True->Eb.toS.size<=2147483647)/\(((d.len:Int)==2)=true/\True->sW Ea)/\(((d.len:Int)==2&&vX Ee.toI Ec.toI Eb.toS Ea)=true/\True->(1:Nat)<d.len)/\(((d.len:Int)==2&&vX Ee.toI Ec.toI Eb.toS Ea)=true/\True->SizeOf.sizeOf Ed<m)/\(((d.len:Int)==2&&vX Ee.toI Ec.toI Eb.toS Ea)=true/\True->Ef.toS.size<=2147483647)/\(((d.len:Int)==2&&vX Ee.toI Ec.toI Eb.toS Ea)=true/\True->sW Ed)/\((d.len:Int)==2&&vX Ee.toI Ec.toI Eb.toS Ea&&vX (d.el ((1:Nat)) (0:Nat)).toI (d.el ((1:Nat)) 1).toI Ef.toS Ed)=vX k n s d)/\(biB k=false->false=vX k n s d))))) (by kernel_rfl) ?_
  dsimp +instances only [ac]
  intro hm hs hd
  (try simp only[Nat.reduceAdd,Nat.zero_add])
  refine ⟨fun h=>?_,fun h1=>⟨fun h=>?_,fun h2=>⟨fun h=>?_,fun h3=>⟨fun h=>?_,fun h=>?_⟩⟩⟩⟩
  ·obtain rfl:=eq_of_beq h;rfl
  ·obtain rfl:=eq_of_beq h;exact ⟨hs,rfl⟩
  ·obtain rfl:=eq_of_beq h;have e:vX 3 n s d=((d.len:Int)==1&&vE d 0):=rfl;rw[e]
   by_cases hl:d.len=1
   ·have h0:0<d.len:=by omega
    have z:=ap (d:=d) (i:=0) (j:=3) h0;rw[jK h0];exact ⟨fun _=>h0,fun _=>by omega,fun _=>dn (aK hd h0 2),fun _=>aK hd h0 3,rfl⟩
   ·have q:((d.len:Int)==1)=false:=by simpa using (by omega:¬ (d.len:Int)=1)
    rw[q];exact ⟨fun h=>(by cases h.1),fun h=>(by cases h.1),fun h=>(by cases h.1),fun h=>(by cases h.1),rfl⟩
  ·rw[BH h]
   by_cases hl:d.len=2
   ·have h0:0<d.len:=by omega
    have h1:1<d.len:=by omega
    have z:=ap (d:=d) (i:=0) (j:=3) h0;have z1:=ap (d:=d) (i:=1) (j:=3) h1;rw[jK h0,jK h1];exact ⟨fun _=>h0,fun _=>by omega,fun _=>dn (aK hd h0 2),fun _=>aK hd h0 3,fun _=>h1,fun _=>by omega,fun _=>dn (aK hd h1 2),fun _=>aK hd h1 3,rfl⟩
   ·have q:((d.len:Int)==2)=false:=by simpa using (by omega:¬ (d.len:Int)=2)
    rw[q];exact ⟨fun h=>(by cases h.1),fun h=>(by cases h.1),fun h=>(by cases h.1),fun h=>(by cases h.1),fun h=>(by cases h.1),fun h=>(by cases h.1),fun h=>(by cases h.1),fun h=>(by cases h.1),rfl⟩
  ·exact (BI (ne_of_beq_false h1) (ne_of_beq_false h2) (ne_of_beq_false h3) h).symm
 ·trivial
theorem BO:ConOK Tryz.prog 64 t5:=
 fY t6 (fun _ _=>by kernel_rfl) fun m ih=>by
  rw[Ke] at ih ⊢;exact Kf m ih
noncomputable def BP:FSpec:=fun ds _=>match ds with
 | [.i op,.i lk,.i ln,.s ls,.d ld,.i rk,.i rn,.s rs,.d rd]=>some {val:=.one (.sc (.bool (.sym (vC op lk ln ls ld rk rn rs rd)))),vc:=[ls.size<=2147483647,sW ld,rs.size<=2147483647,sW rd]}
 |_=>none
noncomputable def BQ:Con:=con [gC0] BP
theorem Kg:ConOK Tryz.prog 65 BQ:=by
 refine bg tt_ok au Tryz.func65 rfl (fun _ _=>by kernel_rfl) (A:=fun ds=>⟨fun _=>Cons.of [(64,t5)],fun _=>none,fun _=>none⟩) (fun _ _=>(af BO aq)) (by kernel_rfl) ?_
 intro ds fr;unfold BP;split
 ·rename_i op lk ln ls ld rk rn rs rd;refine kmp (q:=ls.size<=2147483647->sW ld->rs.size<=2147483647->sW rd->((decide (op>=(1:Int))&&decide (op<=(6:Int)))=true/\True->ls.size<=2147483647)/\((decide (op>=(1:Int))&&decide (op<=(6:Int)))=true/\True->sW ld)/\((decide (op>=(1:Int))&&decide (op<=(6:Int))&&vX lk ln ls ld)=true/\True->rs.size<=2147483647)/\((decide (op>=(1:Int))&&decide (op<=(6:Int))&&vX lk ln ls ld)=true/\True->sW rd)/\(decide (op>=(1:Int))&&decide (op<=(6:Int))&&vX lk ln ls ld&&vX rk rn rs rd)=vC op lk ln ls ld rk rn rs rd) (by kernel_rfl) ?_
  intro h1 h2 h3 h4;exact ⟨fun _=>h1,fun _=>h2,fun _=>h3,fun _=>h4,rfl⟩
 ·trivial
end Go.Proofs.YtbhbjhejkamlnaaGreat.Sx.Z
