import Derived.HandedShaped
import Derived.Test.YthpponmbpoaffaaGreatDoorZ16
import Derived.Test.YthpponmbpoaffaaGreatDoorZ31
import Derived.Test.YthpponmbpoaffaaGreatDoorRows
import Derived.LaidMore
import Derived.Stop.LaidErr
import Derived.MakeChecks
import Derived.Test.YthpponmbpoaffaaGreatDoorZ17
namespace Go.Proofs.YthpponmbpoaffaaGreatDoor.Sx
open Go.RowKit Go.WideShapes
inductive DOkB (P:Program):K->D->Prop
 |int (k:IntKind) (d:D):DOkB P (.int k) d
 |bool (d:D):DOkB P .bool d
 |str (d:D):DOkB P .str d
 |slice (e:TypeId) (d:D):d.len*P.bytesOf e<=reachBytes->(∀ i j k,i<d.len->(eks e)[j]? = some k->DOkB P k (d.el i j))->DOkB P (.slice e) d
def CellsInB (P:Program) (fz:Fz) (ks:List K) (cs:List Value):Prop:=cs.length=ks.length/\∀ (j:Nat) k,ks[j]? = some k->∃ u d,cs[j]? = some u/\TRel fz k d u/\DOkB P k d
theorem cellsInB_one {P:Program} {fz:Fz} {k:K} {v:Value} {d:D} (h:TRel fz k d v) (hd:DOkB P k d):CellsInB P fz [k] [v]:=⟨rfl,fun j k' hk=>by
 cases j with
 |zero=>simp only [List.getElem?_cons_zero,Option.some.injEq] at hk;subst hk;exact ⟨v,d,rfl,h,hd⟩
 |succ j=>simp at hk⟩
section
variable {P:Program} {tt:TT} {H:Type} {enc:TypeId × Value->H} {w:World} {base:Nat} {spare:Nat->Bool} {held:Bool}
theorem zero_b {b:Nat}:(D.l []).len*b<=reachBytes:=by show 0*b<=_;rw [Nat.zero_mul];exact Nat.zero_le _
theorem weightsAll_mem {e:TypeId} {l:List (DataW H)} {d:DataW H} {y:Nat} (hd:d∈l) (hy:y∈DataW.weights P e d):y∈DataW.weightsAll P e l:=by
 induction l with
 |nil=>cases hd
 |cons a r ih=>
  rw [DataW.weightsAll]
  rcases List.mem_cons.1 hd with rfl |hd
  ·exact List.mem_append_left _ hy
  ·exact List.mem_append_right _ (ih hd)
theorem weightsEach_mem:∀ {ts:List TypeId} {l:List (DataW H)} {i:Nat} {t:TypeId} {d:DataW H} {y:Nat},ts[i]? = some t->l[i]? = some d->y∈DataW.weights P t d->y∈DataW.weightsEach P ts l
 | [],l,i,t,d,y,ht,_,_=>by cases ht
 |_::_,[],i,t,d,y,_,hl,_=>by cases hl
 |t0::ts,d0::l,0,t,d,y,ht,hl,hy=>by
  cases ht;cases hl
  rw [DataW.weightsEach]
  exact List.mem_append_left _ hy
 |t0::ts,d0::l,i+1,t,d,y,ht,hl,hy=>by
  rw [DataW.weightsEach]
  exact List.mem_append_right _ (weightsEach_mem (i:=i) ht hl hy)
theorem kF_inB {n:Nat} {f:Nat} (ih:∀ (t:TypeId) (ks:List K) (cs:List Value) x,kT tt f t=some ks->DataW.trod enc P w base spare held n t cs=some x->(∀ y∈DataW.weights P t x.1,y<=reachBytes)->CellsInB P (cellsAt w) ks cs) {cs:List Value} :
 ∀ (fs:List (TypeId × Nat)) (q:Nat) (ks:List K),kF (kT tt f) fs q=some ks->(∀ p∈fs,∃ x,DataW.trod enc P w base spare held n p.1 ((cs.drop p.2).take (P.cellsOf p.1))=some x/\∀ y∈DataW.weights P p.1 x.1,y<=reachBytes) ->
   ∀ (j:Nat) k,ks[j]? = some k->∃ u d,cs[q+j]? = some u/\TRel (cellsAt w) k d u/\DOkB P k d
 | [],q,ks,h,_,j,k,hk=>by
   simp only [kF,Option.some.injEq] at h
   subst h;simp at hk
 |(T,o)::r,q,ks,h,hf,j,k,hk=>by
  simp only [kF] at h
  split at h
  ·rename_i ho
   obtain rfl:=Nat.eq_of_beq_eq_true ho
   split at h
   ·rename_i a ha
    split at h
    ·rename_i b hb
     obtain rfl:=by simpa using h
     obtain ⟨x,hx,hw⟩:=hf (T,o) (List.mem_cons_self ..)
     obtain ⟨h1,h2⟩:=ih T a _ x ha hx hw
     by_cases hj:j<a.length
     ·rw [List.getElem?_append_left hj] at hk
      obtain ⟨u,d,hu,hr,hd⟩:=h2 j k hk
      refine ⟨u,d,?_,hr,hd⟩
      have hlt:=lt_of_get hu
      rw [List.length_take] at hlt
      rw [List.getElem?_take_of_lt (by omega),List.getElem?_drop] at hu
      exact hu
     ·rw [List.getElem?_append_right (by omega)] at hk
      obtain ⟨u,d,hu,hr,hd⟩:=kF_inB ih r (o+a.length) b hb (fun p hp=>hf p (List.mem_cons_of_mem _ hp)) (j-a.length) k hk
      exact ⟨u,d,by rw [<- hu];congr 1;omega,hr,hd⟩
    ·cases h
   ·cases h
  ·cases h
theorem in_cellsB (htt:TTOK P tt) (hka:kAll tt=true):∀ (n f:Nat) (t:TypeId) (ks:List K) (cs:List Value) x,kT tt f t=some ks->DataW.trod enc P w base spare held n t cs=some x->(∀ y∈DataW.weights P t x.1,y<=reachBytes)->CellsInB P (cellsAt w) ks cs
 | 0,f,t,ks,cs,x,_,h,_=>by simp [DataW.trod] at h
 |n+1,0,t,ks,cs,x,hk,h,_=>by simp [kT] at hk
 |n+1,f+1,t,ks,cs,x,hk,h,hz=>by
  unfold kT at hk
  split at hk
  ·rename_i hu
   obtain ⟨d,hd,hq⟩:=tt_u htt hu
   obtain rfl:d = .bool:=by cases d<;>simp [uOf] at hq<;>rfl
   obtain ⟨b,rfl,_⟩:=DataW.trod_bool hd h
   obtain rfl:=by simpa using hk
   exact cellsInB_one (.bool (.b b)) (.bool _)
  ·rename_i k hu
   obtain ⟨d,hd,hq⟩:=tt_u htt hu
   obtain rfl:d = .int k:=by cases d<;>simp [uOf] at hq<;>rw [hq]
   obtain ⟨b,rfl,_,hw⟩:=DataW.trod_int hd h
   obtain rfl:=by simpa using hk
   exact cellsInB_one (.int k (.i b)) (.int _ _)
  ·rename_i hu
   obtain ⟨d,hd,hq⟩:=tt_u htt hu
   obtain rfl:d = .string:=by cases d<;>simp [uOf] at hq<;>rfl
   obtain ⟨b,rfl,_,hw⟩:=DataW.trod_string hd h
   obtain rfl:=by simpa using hk
   exact cellsInB_one (.str (.s b)) (.str _)
  ·rename_i e hu
   obtain ⟨d,hd,hq⟩:=tt_u htt hu
   obtain rfl:d = .slice e:=by cases d<;>simp [uOf] at hq<;>rw [hq]
   split at hk
   ·rename_i kse hkse
    obtain rfl:=by simpa using hk
    obtain ⟨hek,hpos,q,z,hq1,hq2,_⟩:=tt_ks htt hkse
    have hce:P.cellsOf e=(eks e).length:=by simp [Program.cellsOf,hq1,hq2,hek]
    rcases DataW.trod_slice hd h with ⟨rfl,_⟩ |⟨a,len,cap,elems,rest,m,hm,rfl,rfl,_,hlc,hcm,hel,hget,_⟩
    ·exact cellsInB_one (.nil e (.l []) rfl) (.slice _ _ zero_b (fun i j k hi=>absurd hi (Nat.not_lt_zero i)))
    ·obtain rfl:n=m:=by omega
     have hb:len*P.bytesOf e<=reachBytes:=by
      have:=hz (((elems.map (·.1)).length+(rest.map (·.1)).length)*P.bytesOf e) (by simp only [DataW.weights,hd];exact List.mem_cons_self ..)
      rw [List.length_map,hel] at this
      exact Nat.le_trans (Nat.mul_le_mul_right _ (Nat.le_add_right _ _)) this
     by_cases h0:len=0
     ·subst h0
      exact cellsInB_one (.empty e (.l []) a cap rfl) (.slice _ _ zero_b (fun i j k hi=>absurd hi (Nat.not_lt_zero i)))
     ·have hcell:∀ i,i<len->∀ (j:Nat) k,(eks e)[j]? = some k->∃ u d,w.cell? (a.add (i*(eks e).length+j))=some u/\TRel (cellsAt w) k d u/\DOkB P k d:=fun i hi j k hj=>by
       have h1:=hget i hi
       rw [List.getElem?_eq_getElem (by omega)] at h1
       obtain ⟨cs',g1,g2⟩:=Option.bind_eq_some_iff.1 h1
       obtain ⟨g3,g4⟩:=in_cellsB htt hka n 9 e kse cs' _ (kAll_ks hka hkse) g2 (fun y hy=>hz y (by simp only [DataW.weights,hd];exact List.mem_cons_of_mem _ (List.mem_append_left _ (weightsAll_mem (List.mem_map_of_mem (List.getElem_mem _)) hy))))
       obtain ⟨u,d,hu,hr⟩:=g4 j k (by rw [<- hek];exact hj)
       obtain ⟨_,_,hc⟩:=World.cells?_some g1
       have:=hc j (by rw [hce];exact lt_of_get hj)
       rw [hu,hce,addr_add2] at this
       exact ⟨u,d,this,hr⟩
      have hsp:a.spot=none:=by
       obtain ⟨k0,hk0⟩:∃ k0,(eks e)[0]? = some k0:=⟨_,List.getElem?_eq_getElem (by rw [hek];exact hpos)⟩
       obtain ⟨u,d,hu,_⟩:=hcell 0 (by omega) 0 k0 hk0
       have:=(cellsAt_cell hu).1
       simpa [Addr.add] using this
      obtain ⟨ab,ao,asx⟩:=a
      obtain rfl:asx=none:=hsp
      have each:∀ p:Nat × Nat,∃ q:Value × D,p.1<len->∀ k,(eks e)[p.2]? = some k->w.cell? ((⟨ab,ao,none⟩:Addr).add (p.1*(eks e).length+p.2))=some q.1/\TRel (cellsAt w) k q.2 q.1/\DOkB P k q.2:=fun p=>by
       by_cases hp:p.1<len
       ·cases hk:(eks e)[p.2]? with
        |none=>exact ⟨(undef,.i 0),fun _ k hk'=>by cases hk'⟩
        |some k=>
         obtain ⟨u,d,hh⟩:=hcell p.1 hp p.2 k hk
         exact ⟨(u,d),fun _ k' hk'=>by cases hk';exact hh⟩
       ·exact ⟨(undef,.i 0),fun hp'=>absurd hp' hp⟩
      obtain ⟨F,hF⟩:=Classical.skolem.1 each
      have hdl:(D.l ((List.range len).map fun i=>(List.range (eks e).length).map fun j=>(F (i,j)).2)).len=len:=by
       show ((List.range len).map _).length=len
       simp
      have hde:∀ i j,i<len->j<(eks e).length->(D.l ((List.range len).map fun i=>(List.range (eks e).length).map fun j=>(F (i,j)).2)).el i j=(F (i,j)).2:=fun i j hi hj=>by
       show (((List.range len).map fun i=>(List.range (eks e).length).map fun j=>(F (i,j)).2).getD i []).getD j (.i 0)=_
       rw [List.getD_eq_getElem?_getD,List.getD_eq_getElem?_getD,List.getElem?_map,List.getElem?_range hi]
       simp only [Option.map_some,Option.getD_some]
       rw [List.getElem?_map,List.getElem?_range hj]
       rfl
      generalize hdd:D.l ((List.range len).map fun i=>(List.range (eks e).length).map fun j=>(F (i,j)).2)=dd at hdl hde
      refine cellsInB_one (d:=dd) ?_ (.slice _ _ (by rw [hdl];exact hb) fun i j k hi hk=>?_)
      ·rw [<- hdl]
       refine .slice e dd ab ao cap (fun i j=>(F (i,j)).1) (by omega) (fun i j hi hj=>?_) (fun i j k hi hk=>?_)
       ·obtain ⟨g1,_⟩:=hF (i,j) (by rw [<- hdl];exact hi) _ (List.getElem?_eq_getElem hj)
        have:=(cellsAt_cell g1).2
        rw [Sx.addr_add] at this
        rw [Nat.add_assoc]
        exact this
       ·rw [hde i j (by rw [<- hdl];exact hi) (lt_of_get hk)]
        exact (hF (i,j) (by rw [<- hdl];exact hi) k hk).2.1
      ·rw [hde i j (by rw [<- hdl];exact hi) (lt_of_get hk)]
       exact (hF (i,j) (by rw [<- hdl];exact hi) k hk).2.2
   ·cases hk
  ·rename_i m e hu
   obtain ⟨d,hd,hq⟩:=tt_u htt hu
   obtain rfl:d = .array m e:=by cases d<;>simp [uOf] at hq<;>rw [hq.1,hq.2]
   split at hk
   ·rename_i kse hkse
    split at hk
    ·rename_i kse' hse
     obtain ⟨_,hsze⟩:=szOK_some hse
     obtain ⟨rfl,hsz⟩:=szOK_some hk
     obtain ⟨xs,m',hm,rfl,hl,hxl,hel⟩:=DataW.trod_array hd h
     obtain rfl:n=m':=by omega
     have hl':cs.length=(List.replicate m kse).flatten.length:=by rw [hl,szT_cells htt hsz]
     have hce:P.cellsOf e=kse.length:=szT_cells htt hsze
     refine ⟨hl',fun j k hj=>?_⟩
     rw [flat_get] at hj
     split at hj
     ·rename_i hjl
      have hpos:0<kse.length:=by
       rcases Nat.eq_zero_or_pos kse.length with h0 |h0
       ·rw [h0] at hjl;simp at hjl
       ·exact h0
      have hi:j/kse.length<m:=by rw [Nat.div_lt_iff_lt_mul hpos];exact hjl
      have h1:=hel (j/kse.length) hi
      rw [List.getElem?_eq_getElem (by rw [hxl];exact hi)] at h1
      obtain ⟨g1,g2⟩:=in_cellsB htt hka n f e kse _ _ hkse h1 (fun y hy=>hz y (by simp only [DataW.weights,hd];exact weightsAll_mem (List.mem_map_of_mem (List.getElem_mem _)) hy))
      obtain ⟨u,d,hu',hr,hd'⟩:=g2 _ k hj
      refine ⟨u,d,?_,hr,hd'⟩
      rw [hce,List.getElem?_take_of_lt (Nat.mod_lt _ hpos),List.getElem?_drop,Nat.div_add_mod'] at hu'
      exact hu'
     ·cases hj
    ·cases hk
   ·cases hk
  ·rename_i fs hu
   obtain ⟨d,hd,hq⟩:=tt_u htt hu
   split at hk
   ·rename_i kse hkse
    obtain ⟨rfl,hsz⟩:=szOK_some hk
    obtain ⟨fa,rfl⟩:∃ fa,d = .struct fa:=by cases d<;>simp [uOf] at hq<;>exact ⟨_,rfl⟩
    obtain ⟨xs,m',hm,rfl,hl,hxl,hel⟩:=DataW.trod_struct hd h
    obtain rfl:n=m':=by omega
    refine ⟨by rw [hl,szT_cells htt hsz],fun j k hj=>?_⟩
    have:=kF_inB (cs:=cs) (fun t ks cs x=>in_cellsB htt hka n f t ks cs x) fs 0 _ hkse (fun p hp=>?_) j k hj
    ·rw [Nat.zero_add] at this;exact this
    ·simp only [uOf,UD.struct.injEq] at hq
     rw [<- hq] at hp
     obtain ⟨fl,hfl,rfl⟩:=List.mem_map.1 hp
     obtain ⟨i,hi,hg⟩:=List.getElem_of_mem hfl
     have h1:=hel i fl (by rw [<- Array.getElem?_toList,List.getElem?_eq_getElem hi,hg])
     rw [List.getElem?_eq_getElem (by rw [hxl];simpa using hi)] at h1
     exact ⟨_,h1,fun y hy=>hz y (by simp only [DataW.weights,hd];exact weightsEach_mem (i:=i) (by rw [List.getElem?_map,List.getElem?_eq_getElem hi,hg];rfl) (by rw [List.getElem?_map,List.getElem?_eq_getElem (by rw [hxl];simpa using hi)];rfl) hy)⟩
   ·cases hk
  ·cases hk
theorem val_in3 (htt:TTOK P tt) (hka:kAll tt=true) {T:TypeId} {v:Value} {dw:DataW H} {ps:List MemPlace} (h:DataW.Trod enc P w base spare held T v dw ps) (hz:∀ y∈DataW.weights P T dw,y<=reachBytes) {ks:List K} (hk:kT tt 9 T=some ks) {w1:World} {r:Reach} {b0:Nat} (hok:Value.okWide P w1 r b0 T v) :
 ∃ d:D,(∀ (j:Nat) k,ks[j]? = some k->DOkB P k (d.el 0 j))/\∀ sv,inV tt T d=some sv->UR (Map.at0 (cellsAt w)) sv v:=by
 obtain ⟨fuel,hf⟩:=h
 obtain ⟨h1,h2⟩:=in_cellsB htt hka fuel 9 T ks _ _ hk hf hz
 have each:∀ j:Nat,∃ d:D,∀ k,ks[j]? = some k->∃ u,v.cells.toList[j]? = some u/\TRel (cellsAt w) k d u/\DOkB P k d:=fun j=>by
  cases hj:ks[j]? with
  |none=>exact ⟨.i 0,fun k hk'=>by cases hk'⟩
  |some k=>
   obtain ⟨u,d,g1,g2,g3⟩:=h2 j k hj
   exact ⟨d,fun k' hk'=>by cases hk';exact ⟨u,g1,g2,g3⟩⟩
 obtain ⟨F,hF⟩:=Classical.skolem.1 each
 have hde:∀ j,j<ks.length->(D.l [(List.range ks.length).map F]).el 0 j=F j:=fun j hj=>by
  show ((List.range ks.length).map F).getD j (.i 0)=F j
  rw [List.getD_eq_getElem?_getD,List.getElem?_map,List.getElem?_range hj]
  rfl
 have hE:∀ (j:Nat) k,ks[j]? = some k->∃ u,v.cells.toList[j]? = some u/\TRel (cellsAt w) k ((D.l [(List.range ks.length).map F]).el 0 j) u:=fun j k hj=>by
  obtain ⟨u,g1,g2,_⟩:=hF j k hj
  rw [hde j (lt_of_get hj)]
  exact ⟨u,g1,g2⟩
 refine ⟨.l [(List.range ks.length).map F],?_,fun sv hs=>?_⟩
 ·intro j k hj
  obtain ⟨u,_,_,g3⟩:=hF j k hj
  rw [hde j (lt_of_get hj)]
  exact g3
 ·have hE:∀ (j:Nat) k,ks[j]? = some k->∃ u,v.cells.toList[j]? = some u/\TRel (Map.at0 (cellsAt w)).fz k ((D.l [(List.range ks.length).map F]).el 0 j) u:=hE
  unfold inV at hs
  rw [hk] at hs
  split at hs
  ·rename_i k hks hsh
   obtain rfl:=by simpa using hks
   obtain ⟨dd,hd,hda⟩:=shapeOf_none (tt_shape htt hsh)
   have hc:=not_agg hd hda hok
   split at hs
   ·rename_i c hcc
    obtain rfl:=by simpa using hs
    obtain ⟨u,g1,g2⟩:=hE 0 k rfl
    rw [hc] at g1
    obtain rfl:v=u:=by simpa using g1
    exact cellSC_spec hcc g2
   ·cases hs
  ·rename_i ks' L hks hsh
   obtain rfl:=by simpa using hks
   obtain ⟨dd,i,hd,hda,_,_⟩:=shapeOf_some (tt_shape htt hsh)
   obtain ⟨cs,rfl⟩:=is_agg hd hda hok
   split at hs
   ·rename_i hsz
    split at hs
    ·rename_i s hss
     obtain rfl:=by simpa using hs
     obtain ⟨e1,e2⟩:=elSegs_val hE L 0 s hss
     refine ⟨cs,rfl,?_,fun i x u hx hu=>?_⟩
     ·rw [e1,Nat.eq_of_beq_eq_true hsz,<- h1];rfl
     ·obtain ⟨u',g1,g2⟩:=e2 i x hx
      rw [Nat.zero_add] at g1
      have:u=u':=by
       have h3:cs.toList[i]? = some u':=g1
       rw [hu] at h3
       exact Option.some.inj h3
      rw [this];exact g2
    ·cases hs
   ·cases hs
  ·cases hs
theorem law_in3 (htt:TTOK P tt) (hka:kAll tt=true) {f:FuncId} {c:Con} (hc:ConOK P f c) {T:TypeId} {Ts:List TypeId} {params:Array TypeId} {args:Array Value} {v0:Value} {vs0:List Value} {d0:DataW H} {ds0:List (DataW H)} {p0 q0:List MemPlace} (hp:params.toList=T::Ts) (ha:args.toList=v0::vs0)
 (h0:DataW.Trod enc P w base spare held T v0 d0 p0) (h1:DataW.TrodAll enc P w base spare held Ts vs0 ds0 q0) (hz:∀ y∈DataW.weights P T d0,y<=reachBytes) {ks:List K} (hk:kT tt 9 T=some ks)
 {w1:World} {r:Reach} {b0:Nat} (hok:∀ (j:Nat) t v,params[j]? = some t->args[j]? = some v->Value.okWide P w1 r b0 t v) (hl:∀ d Ds,(∀ (j:Nat) k,ks[j]? = some k->DOkB P k (d.el 0 j))->DsOk tt Ts Ds->lawOb tt c (T::Ts) (d::Ds)) (ht:TabF (cellsAt w)) :
 Calls P f args w fun e w'=>e = .returned (.bool true)/\Below w.heap.size w w':=by
 have ok:∀ (j:Nat) t v,(T::Ts)[j]? = some t->(v0::vs0)[j]? = some v->Value.okWide P w1 r b0 t v:=fun j t v ht hv=>hok j t v (by rw [<- Array.getElem?_toList,hp];exact ht) (by rw [<- Array.getElem?_toList,ha];exact hv)
 obtain ⟨d,a1,a2⟩:=val_in3 htt hka h0 hz hk (ok 0 T v0 rfl rfl)
 obtain ⟨D0,b1,b2⟩:=args_in htt hka Ts vs0 ds0 q0 h1 (fun j t v ht hv=>ok (j+1) t v (by simpa using ht) (by simpa using hv))
 have h3:=hl d D0 a1 b1
 have h2:∀ svs,inVs tt (T::Ts) (d::D0)=some svs->ArgsRel (Map.at0 (cellsAt w)) svs args.toList:=fun svs hs=>by
  rw [ha]
  simp only [inVs] at hs
  split at hs
  ·rename_i x r hx hr
   obtain rfl:=by simpa using hs
   exact ⟨a2 _ hx,b2 _ hr⟩
  ·cases hs
 unfold lawOb at h3
 split at h3
 ·rename_i svs hs
  split at h3
  ·rename_i e he
   split at h3
   ·rename_i b hv hst
    have:=hc.calls [] 0 svs e he h3.2 _ w _ args.toList (wh_nil w ht) (fun _ _ _=>rfl) (h2 svs hs)
    rw [Array.toArray_toList] at this
    refine this.mono ?_
    rintro en w' ⟨ρ',v,rfl,g1,g2⟩
    refine ⟨?_,g2.below.1,g2.below.2,g2.below.3,g2.below.size,fun k hk=>g2.keep k hk fun _ _ h=>by rw [hst] at h;simp [look] at h⟩
    rw [hv] at g1
    have:v = .bool b.v:=g1
    rw [this,h3.1]
   ·exact h3.elim
  ·exact h3.elim
 ·exact h3.elim
end
end Go.Proofs.YthpponmbpoaffaaGreatDoor.Sx
namespace Go.Proofs.YthpponmbpoaffaaGreatDoor.Sx.Z
open Go.RowKit
theorem kS_in:∀ (m:Nat) (d:D),SizeOf.sizeOf d<=m->DOkB Tryz.prog (.slice 100) d->kS d:=by
 intro m
 induction m with
 |zero=>
  intro d h hd
  cases hd with
  |slice e d h1 h2=>
   have hb:Tryz.prog.bytesOf 100=56:=by kernel_rfl
   rw [hb] at h1
   refine (kS_iff d).2 ⟨Nat.le_trans h1 (by decide),fun i hi=>?_⟩
   have:=lel_lt (j:=3) hi
   omega
 |succ m ih=>
  intro d h hd
  cases hd with
  |slice e d h1 h2=>
   have hb:Tryz.prog.bytesOf 100=56:=by kernel_rfl
   rw [hb] at h1
   refine (kS_iff d).2 ⟨Nat.le_trans h1 (by decide),fun i hi=>?_⟩
   have:=lel_lt (j:=3) hi
   exact ih _ (by omega) (h2 i 3 _ hi (by rfl))
theorem bS_in:∀ (m:Nat) (d:D),SizeOf.sizeOf d<=m->DOkB Tryz.prog (.slice 105) d->bS d:=by
 intro m
 induction m with
 |zero=>
  intro d h hd
  cases hd with
  |slice e d h1 h2=>
   have hb:Tryz.prog.bytesOf 105=288:=by kernel_rfl
   rw [hb] at h1
   refine (bS_iff d).2 ⟨Nat.le_trans h1 (by decide),fun i hi=>?_⟩
   have:=lel_lt (j:=3) hi
   omega
 |succ m ih=>
  intro d h hd
  cases hd with
  |slice e d h1 h2=>
   have hb:Tryz.prog.bytesOf 105=288:=by kernel_rfl
   rw [hb] at h1
   refine (bS_iff d).2 ⟨Nat.le_trans h1 (by decide),fun i hi=>?_⟩
   have l1:=lel_lt (j:=16) hi
   have l2:=lel_lt (j:=17) hi
   have l3:=lel_lt (j:=18) hi
   have ha:=h2 i 18 _ hi (by rfl)
   refine ⟨kS_in _ _ (Nat.le_refl _) (h2 i 6 _ hi (by rfl)),kS_in _ _ (Nat.le_refl _) (h2 i 11 _ hi (by rfl)),kS_in _ _ (Nat.le_refl _) (h2 i 15 _ hi (by rfl)),ih _ (by omega) (h2 i 16 _ hi (by rfl)),ih _ (by omega) (h2 i 17 _ hi (by rfl)),?_⟩
   generalize d.el i 18=am at ha l3 ⊢
   cases ha with
   |slice e am a1 a2=>
    have hb2:Tryz.prog.bytesOf 109=56:=by kernel_rfl
    rw [hb2] at a1
    refine ⟨Nat.le_trans a1 (by decide),fun j hj=>?_⟩
    have l4:=lel_lt (j:=2) hj
    exact ih _ (by omega) (a2 j 2 _ hj (by rfl))
end Go.Proofs.YthpponmbpoaffaaGreatDoor.Sx.Z
namespace Go.Proofs.YthpponmbpoaffaaGreatDoor.Sx.Z
theorem tab_laid {W : World} (h : laidMetH Tryz.prog [("math/bits.deBruijn32tab", Rows.laid_math_bits_deBruijn32tab), ("math/bits.deBruijn64tab", Rows.laid_math_bits_deBruijn64tab), ("internal/strconv.uint64pow10", Rows.laid_internal_strconv_uint64pow10)] W) : TabF (cellsAt W) := by
 rw [MakeChecks.laidMetH_plain _ _ _ (by kernel_rfl)] at h
 have h3 : laidMet Tryz.prog (("internal/strconv.uint64pow10", Lib.tabData .u64 Lib.pow10Tab) :: []) W := h.tail.tail
 have ht:=Lib.tabIs_of_head (g:=0) (t:=181) (e:=173) (n:=20) (by kernel_rfl) (by kernel_rfl) Tryz.underlying181 Tryz.underlying173 (by kernel_rfl) (by kernel_rfl) h3
 rintro g cs ⟨hg,rfl⟩
 obtain rfl := Option.some.inj ((show PG.globalNamed "internal/strconv.uint64pow10" = some 0 by kernel_rfl).symm.trans hg)
 unfold Lib.TabIs World.var? at ht
 rw [show Tryz.prog.globalNamed "internal/strconv.uint64pow10" = some 0 by kernel_rfl] at ht
 change (match W.heap[0]? with |some (.cells cs _ _)=>some cs |_=>none)=_ at ht
 unfold cellsAt
 exact ht
end Go.Proofs.YthpponmbpoaffaaGreatDoor.Sx.Z
