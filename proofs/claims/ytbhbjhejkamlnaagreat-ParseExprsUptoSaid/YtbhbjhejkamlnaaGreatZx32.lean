import Derived.Test.YtbhbjhejkamlnaaGreatZx31
set_option linter.all false
namespace Go.Proofs.YtbhbjhejkamlnaaGreat.Sx.Z
open Go.RowKit
def inD (d:D) (i:Nat):D:=if (d.el i 0).toI=2 then .l [[d.el i 16],[d.el i 17]] else if (d.el i 0).toI=3 then .l [[d.el i 16]] else if (d.el i 0).toI=5 then aO (d.el i 18).len (fun j=>[(d.el i 18).el j 2]) else .l []
def bsD (d:D) (i:Nat):Nat:=if (d.el i 0).toI=2 ∨ (d.el i 0).toI=3 ∨ (d.el i 0).toI=5 then 1 else 0
def owX (d:D) (i:Nat):Nat:=if (d.el i 0).toI=1 ∨ (d.el i 0).toI=4 then dX (d.el i 3).toI (d.el i 6) else if (d.el i 0).toI=2 ∨ (d.el i 0).toI=3 ∨ (d.el i 0).toI=6 then cX d i else 0
def iD (e:D) (j:Nat):Nat:=bD (e.el j 0)+1
def iX (e:D) (j:Nat):Nat:=bX (e.el j 0)
theorem eo (f:Nat->Nat):mxT 0 f=0:=rfl
theorem Cu {n:Nat} {f g:Nat->Nat} (h:∀ i,i<n->f i=g i):mxT n f=mxT n g:=by
 unfold mxT
 congr 1
 exact List.map_congr_left fun i hi=>h i (List.mem_range.1 hi)
theorem qu {d:D} {i:Nat} (h:(d.el i 0).toI=2):inD d i = .l [[d.el i 16],[d.el i 17]]:=if_pos h
theorem qv {d:D} {i:Nat} (h:(d.el i 0).toI=3):inD d i = .l [[d.el i 16]]:=by unfold inD;rw[if_neg (by omega),if_pos h]
theorem nI {d:D} {i:Nat} (h:(d.el i 0).toI=5):inD d i=aO (d.el i 18).len (fun j=>[(d.el i 18).el j 2]):=by unfold inD;rw[if_neg (by omega),if_neg (by omega),if_pos h]
theorem jR {d:D} {i:Nat} (h2:(d.el i 0).toI≠2) (h3:(d.el i 0).toI≠3) (h5:(d.el i 0).toI≠5):inD d i = .l []:=by unfold inD;rw[if_neg h2,if_neg h3,if_neg h5]
theorem uH {n j:Nat} {f:Nat->List D} (h:j<n):(aO n f).el j 0=(f j).getD 0 (.i 0):=by
 show (((List.range n).map f).getD j []).getD 0 (.i 0)=_;rw[List.getD_eq_getElem?_getD (l:=(List.range n).map f),List.getElem?_map,List.getElem?_range h];rfl
theorem sDX (d:D) (i:Nat):sD d i=max (bsD d i) (mxT (inD d i).len (iD (inD d i)))/\sX d i=max (owX d i) (mxT (inD d i).len (iX (inD d i))):=by
 by_cases h2:(d.el i 0).toI=2
 ·rw[qu h2];constructor
  ·unfold sD jO bsD;rw[if_pos h2,if_pos (.inl h2)];show _=max 1 (max (bD (d.el i 16)+1) (max (bD (d.el i 17)+1) 0));omega
  ·unfold sX lF owX;rw[if_neg (by omega),if_pos h2,if_neg (by omega),if_pos (.inl h2)];show _=max (cX d i) (max (bX (d.el i 16)) (max (bX (d.el i 17)) 0));omega
 by_cases h3:(d.el i 0).toI=3
 ·rw[qv h3];constructor
  ·unfold sD jO bsD;rw[if_neg h2,if_pos h3,if_pos (.inr (.inl h3))];show _=max 1 (max (bD (d.el i 16)+1) 0);omega
  ·unfold sX lF owX;rw[if_neg (by omega),if_neg h2,if_pos h3,if_neg (by omega),if_pos (.inr (.inl h3))];show _=max (cX d i) (max (bX (d.el i 16)) 0);omega
 by_cases h5:(d.el i 0).toI=5
 ·rw[nI h5,ca];constructor
  ·unfold sD jO bsD;rw[if_neg h2,if_neg h3,if_pos h5,if_pos (.inr (.inr h5))]
   congr 1
   refine Cu fun j hj=>?_
   unfold aD iD;rw[uH hj];rfl
  ·unfold sX lF owX;rw[if_neg (by omega),if_neg h2,if_neg h3,if_pos h5,if_neg (by omega),if_neg (by omega),Nat.zero_max];refine Cu fun j hj=>?_
   unfold aXm iX;rw[uH hj];rfl
 rw[jR h2 h3 h5];constructor
 ·unfold sD jO bsD;rw[if_neg h2,if_neg h3,if_neg h5,if_neg (by omega)];rfl
 ·unfold sX lF owX
  by_cases h1:(d.el i 0).toI=1 ∨ (d.el i 0).toI=4
  ·rw[if_pos h1,if_pos h1];exact (Nat.max_zero _).symm
  ·rw[if_neg h1,if_neg h1,if_neg h2,if_neg h3,if_neg h5]
   by_cases h6:(d.el i 0).toI=6
   ·rw[if_pos h6,if_pos (.inr (.inr h6))];exact (Nat.max_zero _).symm
   ·rw[if_neg h6,if_neg (by omega)];rfl
theorem jS:∀ (m:Nat) (d:D),SizeOf.sizeOf d<=m->bD d<=wD d:=by
 intro m
 induction m with
 |zero=>
  intro d hm;rw[uy];refine ux fun i hi=>?_
  have:=ap (j:=0) hi;omega
 |succ m ih=>
  intro d hm;rw[uy];refine ux fun i hi=>?_
  have z1:=ap (j:=16) hi;have z2:=ap (j:=17) hi;have z3:=ap (j:=18) hi;have w1:=fd 16 hi;have w2:=fd 17 hi;have w3:=fd 18 hi;have i1:=ih (d.el i 16) (by omega);have i2:=ih (d.el i 17) (by omega);have i3:mxT (d.el i 18).len (aD (d.el i 18))<=wD (d.el i 18):=ux fun j hj=>by
   have z4:=ap (j:=2) hj;have w4:=fd 2 hj;have:=ih ((d.el i 18).el j 2) (by omega);unfold aD;omega
  unfold sD jO
  repeat' split
  all_goals omega
theorem K1 {d:D} {i:Nat} (hi:i<d.len) (h:vSt d i=true) (hd:sW d) {q:Nat} (hq:q<(inD d i).len):SizeOf.sizeOf ((inD d i).el q 0)<SizeOf.sizeOf d/\vB ((inD d i).el q 0)=true/\sW ((inD d i).el q 0):=by
 have z1:=ap (j:=16) hi;have z2:=ap (j:=17) hi;have z3:=ap (j:=18) hi;have s1:=aK hd hi 16;have s2:=aK hd hi 17;have s3:=aK hd hi 18;unfold vSt vA bz at h
 by_cases h2:(d.el i 0).toI=2
 ·rw[qu h2] at hq ⊢;rw[if_neg (by omega),if_pos h2] at h;simp only[Bool.and_eq_true] at h;have hq:q<2:=hq
  rcases (show q=0 ∨ q=1 by omega) with rfl |rfl
  ·exact ⟨z1,h.1.2,s1⟩
  ·exact ⟨z2,h.2,s2⟩
 by_cases h3:(d.el i 0).toI=3
 ·rw[qv h3] at hq ⊢;rw[if_neg (by omega),if_neg h2,if_pos h3] at h;simp only[Bool.and_eq_true] at h;have hq:q<1:=hq;obtain rfl:q=0:=by omega
  exact ⟨z1,h.2,s1⟩
 by_cases h5:(d.el i 0).toI=5
 ·rw[nI h5,ca] at hq;rw[nI h5,uH hq];rw[if_neg (by omega),if_neg h2,if_neg h3,if_neg (by omega),if_pos h5] at h;simp only[Bool.and_eq_true] at h;have h4:=bP.1 h.2 q hq;unfold vAr at h4;simp only[Bool.and_eq_true] at h4;have z4:=ap (j:=2) hq;exact ⟨Nat.lt_trans z4 z3,h4.2,aK s3 hq 2⟩
 ·rw[jR h2 h3 h5] at hq;exact absurd hq (Nat.not_lt_zero q)
noncomputable def uI:FSpec:=fun ds _=>match ds with
 | [.d d]=>some {val:=.tup [.sc (.int .i64 (.sym (bD d:Nat))),.sc (.int .i64 (.sym (bX d:Nat)))],vc:=[vB d=true,sW d]}
 |_=>none
noncomputable def Cv:Con:=con [gB0] uI
noncomputable def uJ:List Dat->Nat:=fun ds=>match ds with
 | [.d d]=>SizeOf.sizeOf d
 |_=>0
noncomputable def lI (m:Nat):FSpec:=fun ds _=>match ds with
 | [.d d]=>some {val:=.tup [.sc (.int .i64 (.sym (bD d:Nat))),.sc (.int .i64 (.sym (bX d:Nat)))],vc:=[SizeOf.sizeOf d<m,vB d=true,sW d]}
 |_=>none
theorem K2 (m:Nat):uI.under uJ m=lI m:=by
 funext ds fr
 unfold FSpec.under uI uJ lI;split
 ·rename_i e h
  split at h
  ·obtain rfl:=Option.some.inj h;rfl
  ·cases h
 ·rename_i h
  split at h
  ·cases h
  ·rfl
theorem K3 (m:Nat) (ih:ConOK Tryz.prog 13 (con [gB0] (lI m))):ConOK Tryz.prog 13 (con [gB0] (lI (m+1))):=by
 refine bg tt_ok au Tryz.func13 rfl (fun _ _=>by kernel_rfl) (A:=fun ds=>⟨fun _=>Cons.of [(38,Cq),(13,con [gB0] (lI m))],fun k=>match k,ds with | 3,[.d d]=>some {ι:=Nat,pre:=fun _ i=>i<=d.len/\True,μ:=fun i=>d.len+1-i,st:=fun s i=>aV s [(6,.one (.sc (.int .i64 (.sym ((i:Nat)))))),(4,.one (.sc (.int .i64 (.sym ((mxT i (sD d):Nat)))))),(5,.one (.sc (.int .i64 (.sym ((mxT i (sX d):Nat))))))] [0] [] []} | 21,[.d d]=>some {ι:=Nat,pre:=fun s q=>q<=(d.el (aN s 6) 18).len/\True,μ:=fun q=>2200001-q,st:=fun s q=>aV s [(9,.one (.sc (.int .i64 (.sym ((q:Nat)))))),(8,.one (.sc (.osl 28 (s.nx-1) (.lit 0) (.sym q))))] [0,4,5,6,7] [(s.nx-1,.orow 28 (aO q (fun j=>[(d.el (aN s 6) 18).el j 2])))] [7]} | 28,[.d d]=>some {ι:=Nat,pre:=fun s q=>q<=(inD d (aN s 6)).len/\True,μ:=fun q=>2200001-q,st:=fun s q=>aV s [(10,.one (.sc (.int .i64 (.sym ((q:Nat)))))),(8,.one (.sc (.osl 28 (s.nx-1) (.lit 0) (.sym (inD d (aN s 6)).len)))),(4,.one (.sc (.int .i64 (.sym ((max (mxT (aN s 6) (sD d)) (max (bsD d (aN s 6)) (mxT q (iD (inD d (aN s 6))))):Nat)))))),(5,.one (.sc (.int .i64 (.sym ((max (mxT (aN s 6) (sX d)) (max (owX d (aN s 6)) (mxT q (iX (inD d (aN s 6))))):Nat))))))] [0,6] [(s.nx-1,.orow 28 ((inD d (aN s 6))))] []} |_,_=>none,fun _=>none⟩) (fun _ _=>(af KX (af ih aq))) (by kernel_rfl) ?_
 intro ds fr;unfold lI;split
 ·rename_i d
  refine kmp (q:=ac (fun (i:Nat)=>dX (d.el (i:Int).toNat 8).toI (d.el (i:Int).toNat 11)) fun Ea=>ac (fun (i:Nat)=>d.el (i:Int).toNat 15) fun Eb=>ac (fun (i:Nat)=>d.el (i:Int).toNat 18) fun Ec=>ac (fun (i:Nat)=>d.el (i:Int).toNat 12) fun Ed=>ac (fun (i:Nat)=>d.el (i:Int).toNat 11) fun Ee=>ac (fun (i:Nat)=>d.el (i:Int).toNat 14) fun Ef=>ac (fun (i:Nat)=>d.el (i:Int).toNat 13) fun Eg=>ac (fun (i:Nat) (i_1:Nat)=>(inD d i).el (i_1:Int).toNat 0) fun Eh=>ac (fun (i:Nat)=>d.el (i:Int).toNat 10) fun Ei=>ac (fun (i:Nat) (i_1:Nat)=>max (mxT i (sD d)) (max (bsD d i) (mxT i_1 (iD (inD d i))))) fun Ej=>ac (fun (i:Nat) (i_1:Nat)=>max (mxT i (sX d)) (max (owX d i) (mxT i_1 (iX (inD d i))))) fun Ek=>ac (fun (i:Nat)=>d.el (i:Int).toNat 9) fun El=>ac (fun (i:Nat)=>d.el (i:Int).toNat 8) fun Em=>ac (fun (i:Nat)=>d.el (i:Int).toNat 17) fun En=>ac (fun (i:Nat)=>d.el (i:Int).toNat 16) fun Eo=>ac (fun (i:Nat)=>d.el (i:Int).toNat 6) fun Ep=>ac (fun (i:Nat)=>D.l [[d.el (i:Int).toNat 16],[d.el (i:Int).toNat 17]]) fun Eq=>ac (fun (i:Nat)=>d.el (i:Int).toNat 3) fun Er=>ac (fun (i:Nat)=>d.el (i:Int).toNat 0) fun Es=>ac (fun (i:Nat)=>d.el (i:Int).toNat 5) fun Et=>ac (fun (i:Nat)=>d.el (i:Int).toNat 7) fun Eu=>ac (fun (i:Nat)=>d.el (i:Int).toNat 4) fun Ev=>ac (fun (i:Nat)=>D.l [[d.el (i:Int).toNat 16]]) fun Ew=>ac (fun (i:Nat)=>List.take (0+2:Nat) [[d.el (i:Int).toNat 16],[d.el (i:Int).toNat 17]]) fun Ex=>ac (fun (i:Nat) (i_2:Nat)=>(inD d i).el (i_2:Int).toNat 0) fun Ey=>ac (fun (i:Nat)=>d.el (i:Int).toNat 2) fun Ez=>ac (fun (i:Nat) (i_2:Nat)=>max (mxT i (sD d)) (max (bsD d i) (mxT i_2 (iD (inD d i))))) fun EA=>ac (fun (i:Nat) (i_2:Nat)=>max (mxT i (sX d)) (max (owX d i) (mxT i_2 (iX (inD d i))))) fun EB=>ac (fun (i:Nat)=>d.el (i:Int).toNat 1) fun EC=>ac (fun (i:Nat) (i_1:Nat)=>(D.l [[(Ec i).el (i_1:Int).toNat (0+2:Nat)]]).sub 0 1) fun ED=>ac (fun (i:Nat)=>List.take 1 [[d.el (i:Int).toNat 16]]) fun EE=>ac (fun (i:Nat)=>dX (Ed i).toI (Eb i)) fun EF=>ac (fun (i:Nat) (i_1:Nat)=>List.take 1 [[(Ec i).el (i_1:Int).toNat (0+2:Nat)]]) fun EG=>SizeOf.sizeOf d<m+1->vB d=true->sW d->(∃ (i:Nat),(i<=d.len/\True)/\0=(i:Int)/\(0:Int)=((mxT i (sD d)):Int)/\(0:Int)=((mxT i (sX d)):Int)/\d.rows=d.rows)/\∀ (i:Nat),i<=d.len/\True->(decide ((i:Int)<(d.len:Int))=true->(0<=(i:Int)/\(i:Int)<(d.len:Int))/\(((Es i).toI==1)=true->(((Es i).toI==1)=true->vX (Er i).toI (Ev i).toI (Et i).toS (Ep i)=true/\sW (Ep i)/\(∃ (i_1:Nat),(i_1<=(inD d i).len/\True)/\0=(i_1:Int)/\(inD d i).len=0/\((mxT i (sD d)):Int)=((Ej i i_1):Int)/\(if ((dX (Er i).toI (Ep i)):Int)>((mxT i (sX d)):Int) then ((dX (Er i).toI (Ep i)):Int) else ((mxT i (sX d)):Int))=((Ek i i_1):Int)/\d.rows=d.rows/\(i:Int)=(i:Int)/\(inD d i).rows=[])/\∀ (i_1:Nat),i_1<=(inD d i).len/\True->(decide ((i_1:Int)<((inD d i).len:Int))=true->(0<=(i_1:Int)/\(i_1:Int)<((inD d i).len:Int))/\(i_1:Int).toNat<(inD d i).len/\SizeOf.sizeOf (Eh i i_1)<m/\vB (Eh i i_1)=true/\sW (Eh i i_1)/\∃ (j:Nat),(j<=(inD d i).len/\True)/\(2200001:Nat)-j<(2200001:Nat)-i_1/\IntKind.i64.wrap ((i_1:Int)+1)=(j:Int)/\(inD d i).len=(inD d i).len/\(if IntKind.i64.wrap (((bD (Eh i i_1)):Int)+1)>((Ej i i_1):Int) then IntKind.i64.wrap (((bD (Eh i i_1)):Int)+1) else ((Ej i i_1):Int))=(↑(max (mxT i (sD d)) (max (bsD d i) (mxT j (iD (inD d i))))):Int)/\(if ((bX (Eh i i_1)):Int)>((Ek i i_1):Int) then ((bX (Eh i i_1)):Int) else ((Ek i i_1):Int))=(↑(max (mxT i (sX d)) (max (owX d i) (mxT j (iX (inD d i))))):Int)/\d.rows=d.rows/\(i:Int)=(i:Int)/\(inD d i).rows=(inD d i).rows)/\(decide ((i_1:Int)<((inD d i).len:Int))=false->∃ (j:Nat),(j<=d.len/\True)/\d.len+1-j<d.len+1-i/\IntKind.i64.wrap ((i:Int)+1)=(j:Int)/\((Ej i i_1):Int)=((mxT j (sD d)):Int)/\((Ek i i_1):Int)=((mxT j (sX d)):Int)/\d.rows=d.rows))/\(((Es i).toI==1)=false->(((Es i).toI==2)=true->((0:Nat)+((Eq i).sub 0 (0+2:Nat)).len)*24<=140737488355328/\(0:Nat)+(2:Nat)<=(Eq i).len/\vX (Em i).toI (El i).toI (Ei i).toS (Ee i)=true/\sW (Ee i)/\vX (Ed i).toI (Eg i).toI (Ef i).toS (Eb i)=true/\sW (Eb i)/\(∃ (i_1:Nat),(i_1<=(inD d i).len/\True)/\0=(i_1:Int)/\(2:Nat)=(inD d i).len/\(if (1:Int)>((mxT i (sD d)):Int) then (1:Int) else ((mxT i (sD d)):Int))=((Ej i i_1):Int)/\(if ((EF i):Int)>if ((Ea i):Int)>((mxT i (sX d)):Int) then ((Ea i):Int) else ((mxT i (sX d)):Int) then ((EF i):Int) else if ((Ea i):Int)>((mxT i (sX d)):Int) then ((Ea i):Int) else ((mxT i (sX d)):Int))=((Ek i i_1):Int)/\d.rows=d.rows/\(i:Int)=(i:Int) /\ []++List.drop (0:Nat) (Ex i)=(inD d i).rows)/\∀ (i_1:Nat),i_1<=(inD d i).len/\True->(decide ((i_1:Int)<((inD d i).len:Int))=true->(0<=(i_1:Int)/\(i_1:Int)<((inD d i).len:Int))/\(i_1:Int).toNat<(inD d i).len/\SizeOf.sizeOf (Eh i i_1)<m/\vB (Eh i i_1)=true/\sW (Eh i i_1)/\∃ (j:Nat),(j<=(inD d i).len/\True)/\(2200001:Nat)-j<(2200001:Nat)-i_1/\IntKind.i64.wrap ((i_1:Int)+1)=(j:Int)/\(inD d i).len=(inD d i).len/\(if IntKind.i64.wrap (((bD (Eh i i_1)):Int)+1)>((Ej i i_1):Int) then IntKind.i64.wrap (((bD (Eh i i_1)):Int)+1) else ((Ej i i_1):Int))=(↑(max (mxT i (sD d)) (max (bsD d i) (mxT j (iD (inD d i))))):Int)/\(if ((bX (Eh i i_1)):Int)>((Ek i i_1):Int) then ((bX (Eh i i_1)):Int) else ((Ek i i_1):Int))=(↑(max (mxT i (sX d)) (max (owX d i) (mxT j (iX (inD d i))))):Int)/\d.rows=d.rows/\(i:Int)=(i:Int)/\(inD d i).rows=(inD d i).rows)/\(decide ((i_1:Int)<((inD d i).len:Int))=false->∃ (j:Nat),(j<=d.len/\True)/\d.len+1-j<d.len+1-i/\IntKind.i64.wrap ((i:Int)+1)=(j:Int)/\((Ej i i_1):Int)=((mxT j (sD d)):Int)/\((Ek i i_1):Int)=((mxT j (sX d)):Int)/\d.rows=d.rows))/\(((Es i).toI==2)=false->(((Es i).toI==3)=true->((0:Nat)+((Ew i).sub 0 1).len)*24<=140737488355328/\(0:Nat)+(1:Nat)<=(Ew i).len/\vX (Em i).toI (El i).toI (Ei i).toS (Ee i)=true/\sW (Ee i)/\vX (Ed i).toI (Eg i).toI (Ef i).toS (Eb i)=true/\sW (Eb i)/\(∃ (i_1:Nat),(i_1<=(inD d i).len/\True)/\0=(i_1:Int)/\(1:Nat)=(inD d i).len/\(if (1:Int)>((mxT i (sD d)):Int) then (1:Int) else ((mxT i (sD d)):Int))=((Ej i i_1):Int)/\(if ((EF i):Int)>if ((Ea i):Int)>((mxT i (sX d)):Int) then ((Ea i):Int) else ((mxT i (sX d)):Int) then ((EF i):Int) else if ((Ea i):Int)>((mxT i (sX d)):Int) then ((Ea i):Int) else ((mxT i (sX d)):Int))=((Ek i i_1):Int)/\d.rows=d.rows/\(i:Int)=(i:Int) /\ []++List.drop (0:Nat) (EE i)=(inD d i).rows)/\∀ (i_1:Nat),i_1<=(inD d i).len/\True->(decide ((i_1:Int)<((inD d i).len:Int))=true->(0<=(i_1:Int)/\(i_1:Int)<((inD d i).len:Int))/\(i_1:Int).toNat<(inD d i).len/\SizeOf.sizeOf (Eh i i_1)<m/\vB (Eh i i_1)=true/\sW (Eh i i_1)/\∃ (j:Nat),(j<=(inD d i).len/\True)/\(2200001:Nat)-j<(2200001:Nat)-i_1/\IntKind.i64.wrap ((i_1:Int)+1)=(j:Int)/\(inD d i).len=(inD d i).len/\(if IntKind.i64.wrap (((bD (Eh i i_1)):Int)+1)>((Ej i i_1):Int) then IntKind.i64.wrap (((bD (Eh i i_1)):Int)+1) else ((Ej i i_1):Int))=(↑(max (mxT i (sD d)) (max (bsD d i) (mxT j (iD (inD d i))))):Int)/\(if ((bX (Eh i i_1)):Int)>((Ek i i_1):Int) then ((bX (Eh i i_1)):Int) else ((Ek i i_1):Int))=(↑(max (mxT i (sX d)) (max (owX d i) (mxT j (iX (inD d i))))):Int)/\d.rows=d.rows/\(i:Int)=(i:Int)/\(inD d i).rows=(inD d i).rows)/\(decide ((i_1:Int)<((inD d i).len:Int))=false->∃ (j:Nat),(j<=d.len/\True)/\d.len+1-j<d.len+1-i/\IntKind.i64.wrap ((i:Int)+1)=(j:Int)/\((Ej i i_1):Int)=((mxT j (sD d)):Int)/\((Ek i i_1):Int)=((mxT j (sX d)):Int)/\d.rows=d.rows))/\(((Es i).toI==3)=false->(((Es i).toI==5)=true->(∃ (i_1:Nat),(i_1<=(d.el i 18).len/\True)/\0=(i_1:Int)/\i_1=(0:Nat)/\d.rows=d.rows/\((mxT i (sD d)):Int)=((mxT i (sD d)):Int)/\((mxT i (sX d)):Int)=((mxT i (sX d)):Int)/\(i:Int)=(i:Int)/\List.map (fun (j:Nat)=>[(d.el i 18).el j 2]) (List.range i_1)=[]/\(Es i).toI=(Es i).toI/\Value.string (EC i).toS=Value.string (EC i).toS/\Value.string (Ez i).toS=Value.string (Ez i).toS/\(Er i).toI=(Er i).toI/\(Ev i).toI=(Ev i).toI/\Value.string (Et i).toS=Value.string (Et i).toS/\(Ep i).rows=(Ep i).rows/\(Eu i).toI=(Eu i).toI/\(Em i).toI=(Em i).toI/\(El i).toI=(El i).toI/\Value.string (Ei i).toS=Value.string (Ei i).toS/\(Ee i).rows=(Ee i).rows/\(Ed i).toI=(Ed i).toI/\(Eg i).toI=(Eg i).toI/\Value.string (Ef i).toS=Value.string (Ef i).toS/\(Eb i).rows=(Eb i).rows/\(Eo i).rows=(Eo i).rows/\(En i).rows=(En i).rows/\(Ec i).rows=(Ec i).rows)/\∀ (i_1:Nat),i_1<=(d.el i 18).len/\True->(decide ((i_1:Int)<((Ec i).len:Int))=true->(0<=(i_1:Int)/\(i_1:Int)<((Ec i).len:Int))/\i_1=(aO i_1 fun (j:Nat)=>[(d.el i 18).el j 2]).len/\(i_1+(ED i i_1).len)*24<=140737488355328/\(0:Nat)+(1:Nat)<=(D.l [[(Ec i).el (i_1:Int).toNat (0+2:Nat)]]).len/\∃ (j:Nat),(j<=(d.el i 18).len/\True)/\(2200001:Nat)-j<(2200001:Nat)-i_1/\IntKind.i64.wrap ((i_1:Int)+1)=(j:Int)/\i_1+(ED i i_1).len=j/\d.rows=d.rows/\((mxT i (sD d)):Int)=((mxT i (sD d)):Int)/\((mxT i (sX d)):Int)=((mxT i (sX d)):Int)/\(i:Int)=(i:Int)/\List.map (fun (j:Nat)=>[(d.el i 18).el j 2]) (List.range i_1)++List.drop (0:Nat) (EG i i_1)=List.map (fun (j:Nat)=>[(d.el i 18).el j 2]) (List.range j)/\(Es i).toI=(Es i).toI/\Value.string (EC i).toS=Value.string (EC i).toS/\Value.string (Ez i).toS=Value.string (Ez i).toS/\(Er i).toI=(Er i).toI/\(Ev i).toI=(Ev i).toI/\Value.string (Et i).toS=Value.string (Et i).toS/\(Ep i).rows=(Ep i).rows/\(Eu i).toI=(Eu i).toI/\(Em i).toI=(Em i).toI/\(El i).toI=(El i).toI/\Value.string (Ei i).toS=Value.string (Ei i).toS/\(Ee i).rows=(Ee i).rows/\(Ed i).toI=(Ed i).toI/\(Eg i).toI=(Eg i).toI/\Value.string (Ef i).toS=Value.string (Ef i).toS/\(Eb i).rows=(Eb i).rows/\(Eo i).rows=(Eo i).rows/\(En i).rows=(En i).rows/\(Ec i).rows=(Ec i).rows)/\(decide ((i_1:Int)<((Ec i).len:Int))=false->(∃ (i_2:Nat),(i_2<=(inD d i).len/\True)/\0=(i_2:Int)/\i_1=(inD d i).len/\(if (1:Int)>((mxT i (sD d)):Int) then (1:Int) else ((mxT i (sD d)):Int))=((EA i i_2):Int)/\((mxT i (sX d)):Int)=((EB i i_2):Int)/\d.rows=d.rows/\(i:Int)=(i:Int)/\List.map (fun (j:Nat)=>[(d.el i 18).el j 2]) (List.range i_1)=(inD d i).rows)/\∀ (i_2:Nat),i_2<=(inD d i).len/\True->(decide ((i_2:Int)<((inD d i).len:Int))=true->(0<=(i_2:Int)/\(i_2:Int)<((inD d i).len:Int))/\(i_2:Int).toNat<(inD d i).len/\SizeOf.sizeOf (Ey i i_2)<m/\vB (Ey i i_2)=true/\sW (Ey i i_2)/\∃ (j:Nat),(j<=(inD d i).len/\True)/\(2200001:Nat)-j<(2200001:Nat)-i_2/\IntKind.i64.wrap ((i_2:Int)+1)=(j:Int)/\(inD d i).len=(inD d i).len/\(if IntKind.i64.wrap (((bD (Ey i i_2)):Int)+1)>((EA i i_2):Int) then IntKind.i64.wrap (((bD (Ey i i_2)):Int)+1) else ((EA i i_2):Int))=(↑(max (mxT i (sD d)) (max (bsD d i) (mxT j (iD (inD d i))))):Int)/\(if ((bX (Ey i i_2)):Int)>((EB i i_2):Int) then ((bX (Ey i i_2)):Int) else ((EB i i_2):Int))=(↑(max (mxT i (sX d)) (max (owX d i) (mxT j (iX (inD d i))))):Int)/\d.rows=d.rows/\(i:Int)=(i:Int)/\(inD d i).rows=(inD d i).rows)/\(decide ((i_2:Int)<((inD d i).len:Int))=false->∃ (j:Nat),(j<=d.len/\True)/\d.len+1-j<d.len+1-i/\IntKind.i64.wrap ((i:Int)+1)=(j:Int)/\((EA i i_2):Int)=((mxT j (sD d)):Int)/\((EB i i_2):Int)=((mxT j (sX d)):Int)/\d.rows=d.rows)))/\(((Es i).toI==5)=false->(((Es i).toI==6)=true->vX (Em i).toI (El i).toI (Ei i).toS (Ee i)=true/\sW (Ee i)/\vX (Ed i).toI (Eg i).toI (Ef i).toS (Eb i)=true/\sW (Eb i)/\(∃ (i_1:Nat),(i_1<=(inD d i).len/\True)/\0=(i_1:Int)/\(inD d i).len=0/\((mxT i (sD d)):Int)=((Ej i i_1):Int)/\(if ((EF i):Int)>if ((Ea i):Int)>((mxT i (sX d)):Int) then ((Ea i):Int) else ((mxT i (sX d)):Int) then ((EF i):Int) else if ((Ea i):Int)>((mxT i (sX d)):Int) then ((Ea i):Int) else ((mxT i (sX d)):Int))=((Ek i i_1):Int)/\d.rows=d.rows/\(i:Int)=(i:Int)/\(inD d i).rows=[])/\∀ (i_1:Nat),i_1<=(inD d i).len/\True->(decide ((i_1:Int)<((inD d i).len:Int))=true->(0<=(i_1:Int)/\(i_1:Int)<((inD d i).len:Int))/\(i_1:Int).toNat<(inD d i).len/\SizeOf.sizeOf (Eh i i_1)<m/\vB (Eh i i_1)=true/\sW (Eh i i_1)/\∃ (j:Nat),(j<=(inD d i).len/\True)/\(2200001:Nat)-j<(2200001:Nat)-i_1/\IntKind.i64.wrap ((i_1:Int)+1)=(j:Int)/\(inD d i).len=(inD d i).len/\(if IntKind.i64.wrap (((bD (Eh i i_1)):Int)+1)>((Ej i i_1):Int) then IntKind.i64.wrap (((bD (Eh i i_1)):Int)+1) else ((Ej i i_1):Int))=(↑(max (mxT i (sD d)) (max (bsD d i) (mxT j (iD (inD d i))))):Int)/\(if ((bX (Eh i i_1)):Int)>((Ek i i_1):Int) then ((bX (Eh i i_1)):Int) else ((Ek i i_1):Int))=(↑(max (mxT i (sX d)) (max (owX d i) (mxT j (iX (inD d i))))):Int)/\d.rows=d.rows/\(i:Int)=(i:Int)/\(inD d i).rows=(inD d i).rows)/\(decide ((i_1:Int)<((inD d i).len:Int))=false->∃ (j:Nat),(j<=d.len/\True)/\d.len+1-j<d.len+1-i/\IntKind.i64.wrap ((i:Int)+1)=(j:Int)/\((Ej i i_1):Int)=((mxT j (sD d)):Int)/\((Ek i i_1):Int)=((mxT j (sX d)):Int)/\d.rows=d.rows))/\(((Es i).toI==6)=false->(∃ (i_1:Nat),(i_1<=(inD d i).len/\True)/\0=(i_1:Int)/\(inD d i).len=0/\((mxT i (sD d)):Int)=((Ej i i_1):Int)/\((mxT i (sX d)):Int)=((Ek i i_1):Int)/\d.rows=d.rows/\(i:Int)=(i:Int)/\(inD d i).rows=[])/\∀ (i_1:Nat),i_1<=(inD d i).len/\True->(decide ((i_1:Int)<((inD d i).len:Int))=true->(0<=(i_1:Int)/\(i_1:Int)<((inD d i).len:Int))/\(i_1:Int).toNat<(inD d i).len/\SizeOf.sizeOf (Eh i i_1)<m/\vB (Eh i i_1)=true/\sW (Eh i i_1)/\∃ (j:Nat),(j<=(inD d i).len/\True)/\(2200001:Nat)-j<(2200001:Nat)-i_1/\IntKind.i64.wrap ((i_1:Int)+1)=(j:Int)/\(inD d i).len=(inD d i).len/\(if IntKind.i64.wrap (((bD (Eh i i_1)):Int)+1)>((Ej i i_1):Int) then IntKind.i64.wrap (((bD (Eh i i_1)):Int)+1) else ((Ej i i_1):Int))=(↑(max (mxT i (sD d)) (max (bsD d i) (mxT j (iD (inD d i))))):Int)/\(if ((bX (Eh i i_1)):Int)>((Ek i i_1):Int) then ((bX (Eh i i_1)):Int) else ((Ek i i_1):Int))=(↑(max (mxT i (sX d)) (max (owX d i) (mxT j (iX (inD d i))))):Int)/\d.rows=d.rows/\(i:Int)=(i:Int)/\(inD d i).rows=(inD d i).rows)/\(decide ((i_1:Int)<((inD d i).len:Int))=false->∃ (j:Nat),(j<=d.len/\True)/\d.len+1-j<d.len+1-i/\IntKind.i64.wrap ((i:Int)+1)=(j:Int)/\((Ej i i_1):Int)=((mxT j (sD d)):Int)/\((Ek i i_1):Int)=((mxT j (sX d)):Int)/\d.rows=d.rows)))))))/\(((Es i).toI==1)=false->(((Es i).toI==4)=true->vX (Er i).toI (Ev i).toI (Et i).toS (Ep i)=true/\sW (Ep i)/\(∃ (i_1:Nat),(i_1<=(inD d i).len/\True)/\0=(i_1:Int)/\(inD d i).len=0/\((mxT i (sD d)):Int)=((Ej i i_1):Int)/\(if ((dX (Er i).toI (Ep i)):Int)>((mxT i (sX d)):Int) then ((dX (Er i).toI (Ep i)):Int) else ((mxT i (sX d)):Int))=((Ek i i_1):Int)/\d.rows=d.rows/\(i:Int)=(i:Int)/\(inD d i).rows=[])/\∀ (i_1:Nat),i_1<=(inD d i).len/\True->(decide ((i_1:Int)<((inD d i).len:Int))=true->(0<=(i_1:Int)/\(i_1:Int)<((inD d i).len:Int))/\(i_1:Int).toNat<(inD d i).len/\SizeOf.sizeOf (Eh i i_1)<m/\vB (Eh i i_1)=true/\sW (Eh i i_1)/\∃ (j:Nat),(j<=(inD d i).len/\True)/\(2200001:Nat)-j<(2200001:Nat)-i_1/\IntKind.i64.wrap ((i_1:Int)+1)=(j:Int)/\(inD d i).len=(inD d i).len/\(if IntKind.i64.wrap (((bD (Eh i i_1)):Int)+1)>((Ej i i_1):Int) then IntKind.i64.wrap (((bD (Eh i i_1)):Int)+1) else ((Ej i i_1):Int))=(↑(max (mxT i (sD d)) (max (bsD d i) (mxT j (iD (inD d i))))):Int)/\(if ((bX (Eh i i_1)):Int)>((Ek i i_1):Int) then ((bX (Eh i i_1)):Int) else ((Ek i i_1):Int))=(↑(max (mxT i (sX d)) (max (owX d i) (mxT j (iX (inD d i))))):Int)/\d.rows=d.rows/\(i:Int)=(i:Int)/\(inD d i).rows=(inD d i).rows)/\(decide ((i_1:Int)<((inD d i).len:Int))=false->∃ (j:Nat),(j<=d.len/\True)/\d.len+1-j<d.len+1-i/\IntKind.i64.wrap ((i:Int)+1)=(j:Int)/\((Ej i i_1):Int)=((mxT j (sD d)):Int)/\((Ek i i_1):Int)=((mxT j (sX d)):Int)/\d.rows=d.rows))/\(((Es i).toI==4)=false->(((Es i).toI==2)=true->((0:Nat)+((Eq i).sub 0 (0+2:Nat)).len)*24<=140737488355328/\(0:Nat)+(2:Nat)<=(Eq i).len/\vX (Em i).toI (El i).toI (Ei i).toS (Ee i)=true/\sW (Ee i)/\vX (Ed i).toI (Eg i).toI (Ef i).toS (Eb i)=true/\sW (Eb i)/\(∃ (i_1:Nat),(i_1<=(inD d i).len/\True)/\0=(i_1:Int)/\(2:Nat)=(inD d i).len/\(if (1:Int)>((mxT i (sD d)):Int) then (1:Int) else ((mxT i (sD d)):Int))=((Ej i i_1):Int)/\(if ((EF i):Int)>if ((Ea i):Int)>((mxT i (sX d)):Int) then ((Ea i):Int) else ((mxT i (sX d)):Int) then ((EF i):Int) else if ((Ea i):Int)>((mxT i (sX d)):Int) then ((Ea i):Int) else ((mxT i (sX d)):Int))=((Ek i i_1):Int)/\d.rows=d.rows/\(i:Int)=(i:Int) /\ []++List.drop (0:Nat) (Ex i)=(inD d i).rows)/\∀ (i_1:Nat),i_1<=(inD d i).len/\True->(decide ((i_1:Int)<((inD d i).len:Int))=true->(0<=(i_1:Int)/\(i_1:Int)<((inD d i).len:Int))/\(i_1:Int).toNat<(inD d i).len/\SizeOf.sizeOf (Eh i i_1)<m/\vB (Eh i i_1)=true/\sW (Eh i i_1)/\∃ (j:Nat),(j<=(inD d i).len/\True)/\(2200001:Nat)-j<(2200001:Nat)-i_1/\IntKind.i64.wrap ((i_1:Int)+1)=(j:Int)/\(inD d i).len=(inD d i).len/\(if IntKind.i64.wrap (((bD (Eh i i_1)):Int)+1)>((Ej i i_1):Int) then IntKind.i64.wrap (((bD (Eh i i_1)):Int)+1) else ((Ej i i_1):Int))=(↑(max (mxT i (sD d)) (max (bsD d i) (mxT j (iD (inD d i))))):Int)/\(if ((bX (Eh i i_1)):Int)>((Ek i i_1):Int) then ((bX (Eh i i_1)):Int) else ((Ek i i_1):Int))=(↑(max (mxT i (sX d)) (max (owX d i) (mxT j (iX (inD d i))))):Int)/\d.rows=d.rows/\(i:Int)=(i:Int)/\(inD d i).rows=(inD d i).rows)/\(decide ((i_1:Int)<((inD d i).len:Int))=false->∃ (j:Nat),(j<=d.len/\True)/\d.len+1-j<d.len+1-i/\IntKind.i64.wrap ((i:Int)+1)=(j:Int)/\((Ej i i_1):Int)=((mxT j (sD d)):Int)/\((Ek i i_1):Int)=((mxT j (sX d)):Int)/\d.rows=d.rows))/\(((Es i).toI==2)=false->(((Es i).toI==3)=true->((0:Nat)+((Ew i).sub 0 1).len)*24<=140737488355328/\(0:Nat)+(1:Nat)<=(Ew i).len/\vX (Em i).toI (El i).toI (Ei i).toS (Ee i)=true/\sW (Ee i)/\vX (Ed i).toI (Eg i).toI (Ef i).toS (Eb i)=true/\sW (Eb i)/\(∃ (i_1:Nat),(i_1<=(inD d i).len/\True)/\0=(i_1:Int)/\(1:Nat)=(inD d i).len/\(if (1:Int)>((mxT i (sD d)):Int) then (1:Int) else ((mxT i (sD d)):Int))=((Ej i i_1):Int)/\(if ((EF i):Int)>if ((Ea i):Int)>((mxT i (sX d)):Int) then ((Ea i):Int) else ((mxT i (sX d)):Int) then ((EF i):Int) else if ((Ea i):Int)>((mxT i (sX d)):Int) then ((Ea i):Int) else ((mxT i (sX d)):Int))=((Ek i i_1):Int)/\d.rows=d.rows/\(i:Int)=(i:Int) /\ []++List.drop (0:Nat) (EE i)=(inD d i).rows)/\∀ (i_1:Nat),i_1<=(inD d i).len/\True->(decide ((i_1:Int)<((inD d i).len:Int))=true->(0<=(i_1:Int)/\(i_1:Int)<((inD d i).len:Int))/\(i_1:Int).toNat<(inD d i).len/\SizeOf.sizeOf (Eh i i_1)<m/\vB (Eh i i_1)=true/\sW (Eh i i_1)/\∃ (j:Nat),(j<=(inD d i).len/\True)/\(2200001:Nat)-j<(2200001:Nat)-i_1/\IntKind.i64.wrap ((i_1:Int)+1)=(j:Int)/\(inD d i).len=(inD d i).len/\(if IntKind.i64.wrap (((bD (Eh i i_1)):Int)+1)>((Ej i i_1):Int) then IntKind.i64.wrap (((bD (Eh i i_1)):Int)+1) else ((Ej i i_1):Int))=(↑(max (mxT i (sD d)) (max (bsD d i) (mxT j (iD (inD d i))))):Int)/\(if ((bX (Eh i i_1)):Int)>((Ek i i_1):Int) then ((bX (Eh i i_1)):Int) else ((Ek i i_1):Int))=(↑(max (mxT i (sX d)) (max (owX d i) (mxT j (iX (inD d i))))):Int)/\d.rows=d.rows/\(i:Int)=(i:Int)/\(inD d i).rows=(inD d i).rows)/\(decide ((i_1:Int)<((inD d i).len:Int))=false->∃ (j:Nat),(j<=d.len/\True)/\d.len+1-j<d.len+1-i/\IntKind.i64.wrap ((i:Int)+1)=(j:Int)/\((Ej i i_1):Int)=((mxT j (sD d)):Int)/\((Ek i i_1):Int)=((mxT j (sX d)):Int)/\d.rows=d.rows))/\(((Es i).toI==3)=false->(((Es i).toI==5)=true->(∃ (i_1:Nat),(i_1<=(d.el i 18).len/\True)/\0=(i_1:Int)/\i_1=(0:Nat)/\d.rows=d.rows/\((mxT i (sD d)):Int)=((mxT i (sD d)):Int)/\((mxT i (sX d)):Int)=((mxT i (sX d)):Int)/\(i:Int)=(i:Int)/\List.map (fun (j:Nat)=>[(d.el i 18).el j 2]) (List.range i_1)=[]/\(Es i).toI=(Es i).toI/\Value.string (EC i).toS=Value.string (EC i).toS/\Value.string (Ez i).toS=Value.string (Ez i).toS/\(Er i).toI=(Er i).toI/\(Ev i).toI=(Ev i).toI/\Value.string (Et i).toS=Value.string (Et i).toS/\(Ep i).rows=(Ep i).rows/\(Eu i).toI=(Eu i).toI/\(Em i).toI=(Em i).toI/\(El i).toI=(El i).toI/\Value.string (Ei i).toS=Value.string (Ei i).toS/\(Ee i).rows=(Ee i).rows/\(Ed i).toI=(Ed i).toI/\(Eg i).toI=(Eg i).toI/\Value.string (Ef i).toS=Value.string (Ef i).toS/\(Eb i).rows=(Eb i).rows/\(Eo i).rows=(Eo i).rows/\(En i).rows=(En i).rows/\(Ec i).rows=(Ec i).rows)/\∀ (i_1:Nat),i_1<=(d.el i 18).len/\True->(decide ((i_1:Int)<((Ec i).len:Int))=true->(0<=(i_1:Int)/\(i_1:Int)<((Ec i).len:Int))/\i_1=(aO i_1 fun (j:Nat)=>[(d.el i 18).el j 2]).len/\(i_1+(ED i i_1).len)*24<=140737488355328/\(0:Nat)+(1:Nat)<=(D.l [[(Ec i).el (i_1:Int).toNat (0+2:Nat)]]).len/\∃ (j:Nat),(j<=(d.el i 18).len/\True)/\(2200001:Nat)-j<(2200001:Nat)-i_1/\IntKind.i64.wrap ((i_1:Int)+1)=(j:Int)/\i_1+(ED i i_1).len=j/\d.rows=d.rows/\((mxT i (sD d)):Int)=((mxT i (sD d)):Int)/\((mxT i (sX d)):Int)=((mxT i (sX d)):Int)/\(i:Int)=(i:Int)/\List.map (fun (j:Nat)=>[(d.el i 18).el j 2]) (List.range i_1)++List.drop (0:Nat) (EG i i_1)=List.map (fun (j:Nat)=>[(d.el i 18).el j 2]) (List.range j)/\(Es i).toI=(Es i).toI/\Value.string (EC i).toS=Value.string (EC i).toS/\Value.string (Ez i).toS=Value.string (Ez i).toS/\(Er i).toI=(Er i).toI/\(Ev i).toI=(Ev i).toI/\Value.string (Et i).toS=Value.string (Et i).toS/\(Ep i).rows=(Ep i).rows/\(Eu i).toI=(Eu i).toI/\(Em i).toI=(Em i).toI/\(El i).toI=(El i).toI/\Value.string (Ei i).toS=Value.string (Ei i).toS/\(Ee i).rows=(Ee i).rows/\(Ed i).toI=(Ed i).toI/\(Eg i).toI=(Eg i).toI/\Value.string (Ef i).toS=Value.string (Ef i).toS/\(Eb i).rows=(Eb i).rows/\(Eo i).rows=(Eo i).rows/\(En i).rows=(En i).rows/\(Ec i).rows=(Ec i).rows)/\(decide ((i_1:Int)<((Ec i).len:Int))=false->(∃ (i_2:Nat),(i_2<=(inD d i).len/\True)/\0=(i_2:Int)/\i_1=(inD d i).len/\(if (1:Int)>((mxT i (sD d)):Int) then (1:Int) else ((mxT i (sD d)):Int))=((EA i i_2):Int)/\((mxT i (sX d)):Int)=((EB i i_2):Int)/\d.rows=d.rows/\(i:Int)=(i:Int)/\List.map (fun (j:Nat)=>[(d.el i 18).el j 2]) (List.range i_1)=(inD d i).rows)/\∀ (i_2:Nat),i_2<=(inD d i).len/\True->(decide ((i_2:Int)<((inD d i).len:Int))=true->(0<=(i_2:Int)/\(i_2:Int)<((inD d i).len:Int))/\(i_2:Int).toNat<(inD d i).len/\SizeOf.sizeOf (Ey i i_2)<m/\vB (Ey i i_2)=true/\sW (Ey i i_2)/\∃ (j:Nat),(j<=(inD d i).len/\True)/\(2200001:Nat)-j<(2200001:Nat)-i_2/\IntKind.i64.wrap ((i_2:Int)+1)=(j:Int)/\(inD d i).len=(inD d i).len/\(if IntKind.i64.wrap (((bD (Ey i i_2)):Int)+1)>((EA i i_2):Int) then IntKind.i64.wrap (((bD (Ey i i_2)):Int)+1) else ((EA i i_2):Int))=(↑(max (mxT i (sD d)) (max (bsD d i) (mxT j (iD (inD d i))))):Int)/\(if ((bX (Ey i i_2)):Int)>((EB i i_2):Int) then ((bX (Ey i i_2)):Int) else ((EB i i_2):Int))=(↑(max (mxT i (sX d)) (max (owX d i) (mxT j (iX (inD d i))))):Int)/\d.rows=d.rows/\(i:Int)=(i:Int)/\(inD d i).rows=(inD d i).rows)/\(decide ((i_2:Int)<((inD d i).len:Int))=false->∃ (j:Nat),(j<=d.len/\True)/\d.len+1-j<d.len+1-i/\IntKind.i64.wrap ((i:Int)+1)=(j:Int)/\((EA i i_2):Int)=((mxT j (sD d)):Int)/\((EB i i_2):Int)=((mxT j (sX d)):Int)/\d.rows=d.rows)))/\(((Es i).toI==5)=false->(((Es i).toI==6)=true->vX (Em i).toI (El i).toI (Ei i).toS (Ee i)=true/\sW (Ee i)/\vX (Ed i).toI (Eg i).toI (Ef i).toS (Eb i)=true/\sW (Eb i)/\(∃ (i_1:Nat),(i_1<=(inD d i).len/\True)/\0=(i_1:Int)/\(inD d i).len=0/\((mxT i (sD d)):Int)=((Ej i i_1):Int)/\(if ((EF i):Int)>if ((Ea i):Int)>((mxT i (sX d)):Int) then ((Ea i):Int) else ((mxT i (sX d)):Int) then ((EF i):Int) else if ((Ea i):Int)>((mxT i (sX d)):Int) then ((Ea i):Int) else ((mxT i (sX d)):Int))=((Ek i i_1):Int)/\d.rows=d.rows/\(i:Int)=(i:Int)/\(inD d i).rows=[])/\∀ (i_1:Nat),i_1<=(inD d i).len/\True->(decide ((i_1:Int)<((inD d i).len:Int))=true->(0<=(i_1:Int)/\(i_1:Int)<((inD d i).len:Int))/\(i_1:Int).toNat<(inD d i).len/\SizeOf.sizeOf (Eh i i_1)<m/\vB (Eh i i_1)=true/\sW (Eh i i_1)/\∃ (j:Nat),(j<=(inD d i).len/\True)/\(2200001:Nat)-j<(2200001:Nat)-i_1/\IntKind.i64.wrap ((i_1:Int)+1)=(j:Int)/\(inD d i).len=(inD d i).len/\(if IntKind.i64.wrap (((bD (Eh i i_1)):Int)+1)>((Ej i i_1):Int) then IntKind.i64.wrap (((bD (Eh i i_1)):Int)+1) else ((Ej i i_1):Int))=(↑(max (mxT i (sD d)) (max (bsD d i) (mxT j (iD (inD d i))))):Int)/\(if ((bX (Eh i i_1)):Int)>((Ek i i_1):Int) then ((bX (Eh i i_1)):Int) else ((Ek i i_1):Int))=(↑(max (mxT i (sX d)) (max (owX d i) (mxT j (iX (inD d i))))):Int)/\d.rows=d.rows/\(i:Int)=(i:Int)/\(inD d i).rows=(inD d i).rows)/\(decide ((i_1:Int)<((inD d i).len:Int))=false->∃ (j:Nat),(j<=d.len/\True)/\d.len+1-j<d.len+1-i/\IntKind.i64.wrap ((i:Int)+1)=(j:Int)/\((Ej i i_1):Int)=((mxT j (sD d)):Int)/\((Ek i i_1):Int)=((mxT j (sX d)):Int)/\d.rows=d.rows))/\(((Es i).toI==6)=false->(∃ (i_1:Nat),(i_1<=(inD d i).len/\True)/\0=(i_1:Int)/\(inD d i).len=0/\((mxT i (sD d)):Int)=((Ej i i_1):Int)/\((mxT i (sX d)):Int)=((Ek i i_1):Int)/\d.rows=d.rows/\(i:Int)=(i:Int)/\(inD d i).rows=[])/\∀ (i_1:Nat),i_1<=(inD d i).len/\True->(decide ((i_1:Int)<((inD d i).len:Int))=true->(0<=(i_1:Int)/\(i_1:Int)<((inD d i).len:Int))/\(i_1:Int).toNat<(inD d i).len/\SizeOf.sizeOf (Eh i i_1)<m/\vB (Eh i i_1)=true/\sW (Eh i i_1)/\∃ (j:Nat),(j<=(inD d i).len/\True)/\(2200001:Nat)-j<(2200001:Nat)-i_1/\IntKind.i64.wrap ((i_1:Int)+1)=(j:Int)/\(inD d i).len=(inD d i).len/\(if IntKind.i64.wrap (((bD (Eh i i_1)):Int)+1)>((Ej i i_1):Int) then IntKind.i64.wrap (((bD (Eh i i_1)):Int)+1) else ((Ej i i_1):Int))=(↑(max (mxT i (sD d)) (max (bsD d i) (mxT j (iD (inD d i))))):Int)/\(if ((bX (Eh i i_1)):Int)>((Ek i i_1):Int) then ((bX (Eh i i_1)):Int) else ((Ek i i_1):Int))=(↑(max (mxT i (sX d)) (max (owX d i) (mxT j (iX (inD d i))))):Int)/\d.rows=d.rows/\(i:Int)=(i:Int)/\(inD d i).rows=(inD d i).rows)/\(decide ((i_1:Int)<((inD d i).len:Int))=false->∃ (j:Nat),(j<=d.len/\True)/\d.len+1-j<d.len+1-i/\IntKind.i64.wrap ((i:Int)+1)=(j:Int)/\((Ej i i_1):Int)=((mxT j (sD d)):Int)/\((Ek i i_1):Int)=((mxT j (sX d)):Int)/\d.rows=d.rows))))))))/\(decide ((i:Int)<(d.len:Int))=false->((mxT i (sD d)):Int)=((bD d):Int)/\((mxT i (sX d)):Int)=((bX d):Int))) (by kernel_rfl) ?_
  dsimp +instances only [ac]
  intro hm hr hd;have en:∀ i:Nat,(i:Int).toNat=i:=fun i=>Int.toNat_natCast i
  simp only[Nat.reduceAdd,Nat.zero_add,en];have hlen:=bZ hd;rw[iK] at hr;have hr:=bP.1 hr;rw[uy,KU];refine ⟨⟨0,⟨Nat.zero_le _,trivial⟩,(by (repeat' with_reducible constructor)<;>rfl)⟩,fun i hi=>⟨fun hc=>?_,fun hc=>?_⟩⟩
  ·have hc:=of_decide_eq_true hc;have hi2:i<d.len:=by omega
   have hst:=hr i hi2;have hnx:IntKind.i64.wrap ((i:Int)+1)=((i+1:Nat):Int):=by rw[IntWalk.i64_in _ (by omega)];omega
   have s6:=aK hd hi2 6;have s11:=aK hd hi2 11;have s15:=aK hd hi2 15;have s18:=aK hd hi2 18;have l18:=bZ s18;obtain ⟨hsD,hsX⟩:=sDX d i;have hin:∀ q,q<(inD d i).len->SizeOf.sizeOf ((inD d i).el q 0)<SizeOf.sizeOf d/\vB ((inD d i).el q 0)=true/\sW ((inD d i).el q 0):=fun q hq=>K1 hi2 hst hd hq
   have lin:(inD d i).len<=2200000:=by
    by_cases h2:(d.el i 0).toI=2
    ·rw[qu h2];show 2<=2200000;omega
    by_cases h3:(d.el i 0).toI=3
    ·rw[qv h3];show 1<=2200000;omega
    by_cases h5:(d.el i 0).toI=5
    ·rw[nI h5,ca];exact l18
    ·rw[jR h2 h3 h5];show 0<=2200000;omega
   refine ⟨⟨by omega,hc⟩,fun k=>⟨fun _=>?_,fun k'=>absurd k' (by rw[k];decide)⟩,fun k1=>⟨fun k=>?_,fun k4=>⟨fun k=>?_,fun k2=>⟨fun k=>?_,fun k3=>⟨fun k=>?_,fun k5=>⟨fun k=>?_,fun k6=>?_⟩⟩⟩⟩⟩⟩
   ·have k:=eq_of_beq k;have ebs:bsD d i=0:=by unfold bsD;rw[if_neg (by omega)]
    have eow:owX d i=dX (d.el i 3).toI (d.el i 6):=by unfold owX;rw[if_pos (by omega)]
    have ein:inD d i = .l []:=jR (by omega) (by omega) (by omega);have hx:vX (d.el i 3).toI (d.el i 4).toI (d.el i 5).toS (d.el i 6)=true:=by
     unfold vSt vA bz at hst;rw[k] at hst;have hst:(nmB (d.el i 1).toS&&vX (d.el i 3).toI (d.el i 4).toI (d.el i 5).toS (d.el i 6))=true:=hst;simp only[Bool.and_eq_true] at hst;exact hst.2
    refine ⟨hx,s6,⟨0,⟨Nat.zero_le _,trivial⟩,rfl,(by rw[ein];first |exact True.intro |rfl),?_,?_,(by rw[ein];(repeat' (with_reducible apply And.intro))<;>first |exact True.intro |rfl)⟩,?_⟩
    ·rw[eo,ebs];(repeat' split)<;>omega
    ·rw[eo,eow];(repeat' split)<;>omega
    ·intro q hq;refine ⟨fun hc=>?_,fun hc=>?_⟩
     ·have hc:=of_decide_eq_true hc;have hq2:q<(inD d i).len:=by omega
      obtain ⟨g1,g2,g3⟩:=hin q hq2;have wb:=jS _ ((inD d i).el q 0) (Nat.le_refl _);have g4:wD ((inD d i).el q 0)<=2200000:=g3;have e1:iD (inD d i) q=bD ((inD d i).el q 0)+1:=rfl;have e2:iX (inD d i) q=bX ((inD d i).el q 0):=rfl;have hw2:IntKind.i64.wrap ((bD ((inD d i).el q 0):Int)+1)=((bD ((inD d i).el q 0)+1:Nat):Int):=by rw[IntWalk.i64_in _ (by omega)];omega
      refine ⟨⟨by omega,hc⟩,hq2,by omega,g2,g3,q+1,⟨hq2,trivial⟩,by omega,by rw[IntWalk.i64_in _ (by omega)];omega,trivial,?_,?_,(by (repeat' with_reducible constructor)<;>rfl)⟩
      ·rw[bV,e1,hw2];split<;>omega
      ·rw[bV,e2];split<;>omega
     ·have hc:=of_decide_eq_false hc;obtain rfl:q=(inD d i).len:=by have:=hq.1;omega
      exact ⟨i+1,⟨hi2,trivial⟩,by omega,hnx,by rw[bV,hsD],by rw[bV,hsX],(by (repeat' with_reducible constructor)<;>rfl)⟩
   ·have k:=eq_of_beq k;have ebs:bsD d i=0:=by unfold bsD;rw[if_neg (by omega)]
    have eow:owX d i=dX (d.el i 3).toI (d.el i 6):=by unfold owX;rw[if_pos (by omega)]
    have ein:inD d i = .l []:=jR (by omega) (by omega) (by omega);have hx:vX (d.el i 3).toI (d.el i 4).toI (d.el i 5).toS (d.el i 6)=true:=by
     unfold vSt vA bz at hst;rw[k] at hst;have hst:(nmB (d.el i 1).toS&&nmB (d.el i 2).toS&&vX (d.el i 3).toI (d.el i 4).toI (d.el i 5).toS (d.el i 6))=true:=hst;simp only[Bool.and_eq_true] at hst;exact hst.2
    refine ⟨hx,s6,⟨0,⟨Nat.zero_le _,trivial⟩,rfl,(by rw[ein];first |exact True.intro |rfl),?_,?_,(by rw[ein];(repeat' (with_reducible apply And.intro))<;>first |exact True.intro |rfl)⟩,?_⟩
    ·rw[eo,ebs];(repeat' split)<;>omega
    ·rw[eo,eow];(repeat' split)<;>omega
    ·intro q hq;refine ⟨fun hc=>?_,fun hc=>?_⟩
     ·have hc:=of_decide_eq_true hc;have hq2:q<(inD d i).len:=by omega
      obtain ⟨g1,g2,g3⟩:=hin q hq2;have wb:=jS _ ((inD d i).el q 0) (Nat.le_refl _);have g4:wD ((inD d i).el q 0)<=2200000:=g3;have e1:iD (inD d i) q=bD ((inD d i).el q 0)+1:=rfl;have e2:iX (inD d i) q=bX ((inD d i).el q 0):=rfl;have hw2:IntKind.i64.wrap ((bD ((inD d i).el q 0):Int)+1)=((bD ((inD d i).el q 0)+1:Nat):Int):=by rw[IntWalk.i64_in _ (by omega)];omega
      refine ⟨⟨by omega,hc⟩,hq2,by omega,g2,g3,q+1,⟨hq2,trivial⟩,by omega,by rw[IntWalk.i64_in _ (by omega)];omega,trivial,?_,?_,(by (repeat' with_reducible constructor)<;>rfl)⟩
      ·rw[bV,e1,hw2];split<;>omega
      ·rw[bV,e2];split<;>omega
     ·have hc:=of_decide_eq_false hc;obtain rfl:q=(inD d i).len:=by have:=hq.1;omega
      exact ⟨i+1,⟨hi2,trivial⟩,by omega,hnx,by rw[bV,hsD],by rw[bV,hsX],(by (repeat' with_reducible constructor)<;>rfl)⟩
   ·have k:=eq_of_beq k;have ebs:bsD d i=1:=by unfold bsD;rw[if_pos (by omega)]
    have eow:owX d i=max (dX (d.el i 8).toI (d.el i 11)) (dX (d.el i 12).toI (d.el i 15)):=by unfold owX;rw[if_neg (by omega),if_pos (by omega)];rfl
    have ein:=qu k;obtain ⟨x1,x2⟩:vX (d.el i 8).toI (d.el i 9).toI (d.el i 10).toS (d.el i 11)=true/\vX (d.el i 12).toI (d.el i 13).toI (d.el i 14).toS (d.el i 15)=true:=by
     unfold vSt vA bz at hst;rw[k] at hst;have hst:(vC (d.el i 7).toI (d.el i 8).toI (d.el i 9).toI (d.el i 10).toS (d.el i 11) (d.el i 12).toI (d.el i 13).toI (d.el i 14).toS (d.el i 15)&&vB (d.el i 16)&&vB (d.el i 17))=true:=hst;simp only[Bool.and_eq_true] at hst;exact (lE (hst.1.1)).2
    refine ⟨(show 2*24<=140737488355328 by omega),(by first |exact True.intro |exact Nat.le_refl _),x1,s11,x2,s15,⟨0,⟨Nat.zero_le _,trivial⟩,rfl,(by rw[ein];first |exact True.intro |rfl),?_,?_,(by rw[ein];(repeat' (with_reducible apply And.intro))<;>first |exact True.intro |rfl)⟩,?_⟩
    ·rw[eo,ebs];(repeat' split)<;>omega
    ·rw[eo,eow];(repeat' split)<;>omega
    ·intro q hq;refine ⟨fun hc=>?_,fun hc=>?_⟩
     ·have hc:=of_decide_eq_true hc;have hq2:q<(inD d i).len:=by omega
      obtain ⟨g1,g2,g3⟩:=hin q hq2;have wb:=jS _ ((inD d i).el q 0) (Nat.le_refl _);have g4:wD ((inD d i).el q 0)<=2200000:=g3;have e1:iD (inD d i) q=bD ((inD d i).el q 0)+1:=rfl;have e2:iX (inD d i) q=bX ((inD d i).el q 0):=rfl;have hw2:IntKind.i64.wrap ((bD ((inD d i).el q 0):Int)+1)=((bD ((inD d i).el q 0)+1:Nat):Int):=by rw[IntWalk.i64_in _ (by omega)];omega
      refine ⟨⟨by omega,hc⟩,hq2,by omega,g2,g3,q+1,⟨hq2,trivial⟩,by omega,by rw[IntWalk.i64_in _ (by omega)];omega,trivial,?_,?_,(by (repeat' with_reducible constructor)<;>rfl)⟩
      ·rw[bV,e1,hw2];split<;>omega
      ·rw[bV,e2];split<;>omega
     ·have hc:=of_decide_eq_false hc;obtain rfl:q=(inD d i).len:=by have:=hq.1;omega
      exact ⟨i+1,⟨hi2,trivial⟩,by omega,hnx,by rw[bV,hsD],by rw[bV,hsX],(by (repeat' with_reducible constructor)<;>rfl)⟩
   ·have k:=eq_of_beq k;have ebs:bsD d i=1:=by unfold bsD;rw[if_pos (by omega)]
    have eow:owX d i=max (dX (d.el i 8).toI (d.el i 11)) (dX (d.el i 12).toI (d.el i 15)):=by unfold owX;rw[if_neg (by omega),if_pos (by omega)];rfl
    have ein:=qv k;obtain ⟨x1,x2⟩:vX (d.el i 8).toI (d.el i 9).toI (d.el i 10).toS (d.el i 11)=true/\vX (d.el i 12).toI (d.el i 13).toI (d.el i 14).toS (d.el i 15)=true:=by
     unfold vSt vA bz at hst;rw[k] at hst;have hst:(vC (d.el i 7).toI (d.el i 8).toI (d.el i 9).toI (d.el i 10).toS (d.el i 11) (d.el i 12).toI (d.el i 13).toI (d.el i 14).toS (d.el i 15)&&vB (d.el i 16))=true:=hst;simp only[Bool.and_eq_true] at hst;exact (lE (hst.1)).2
    refine ⟨(show 1*24<=140737488355328 by omega),(by first |exact True.intro |exact Nat.le_refl _),x1,s11,x2,s15,⟨0,⟨Nat.zero_le _,trivial⟩,rfl,(by rw[ein];first |exact True.intro |rfl),?_,?_,(by rw[ein];(repeat' (with_reducible apply And.intro))<;>first |exact True.intro |rfl)⟩,?_⟩
    ·rw[eo,ebs];(repeat' split)<;>omega
    ·rw[eo,eow];(repeat' split)<;>omega
    ·intro q hq;refine ⟨fun hc=>?_,fun hc=>?_⟩
     ·have hc:=of_decide_eq_true hc;have hq2:q<(inD d i).len:=by omega
      obtain ⟨g1,g2,g3⟩:=hin q hq2;have wb:=jS _ ((inD d i).el q 0) (Nat.le_refl _);have g4:wD ((inD d i).el q 0)<=2200000:=g3;have e1:iD (inD d i) q=bD ((inD d i).el q 0)+1:=rfl;have e2:iX (inD d i) q=bX ((inD d i).el q 0):=rfl;have hw2:IntKind.i64.wrap ((bD ((inD d i).el q 0):Int)+1)=((bD ((inD d i).el q 0)+1:Nat):Int):=by rw[IntWalk.i64_in _ (by omega)];omega
      refine ⟨⟨by omega,hc⟩,hq2,by omega,g2,g3,q+1,⟨hq2,trivial⟩,by omega,by rw[IntWalk.i64_in _ (by omega)];omega,trivial,?_,?_,(by (repeat' with_reducible constructor)<;>rfl)⟩
      ·rw[bV,e1,hw2];split<;>omega
      ·rw[bV,e2];split<;>omega
     ·have hc:=of_decide_eq_false hc;obtain rfl:q=(inD d i).len:=by have:=hq.1;omega
      exact ⟨i+1,⟨hi2,trivial⟩,by omega,hnx,by rw[bV,hsD],by rw[bV,hsX],(by (repeat' with_reducible constructor)<;>rfl)⟩
   ·have k:=eq_of_beq k;have ebs:bsD d i=1:=by unfold bsD;rw[if_pos (by omega)]
    have eow:owX d i=0:=by unfold owX;rw[if_neg (by omega),if_neg (by omega)]
    have ein:=nI k;have e24:∀ x:D,((D.l [[x]]).sub 0 1).len=1:=fun _=>rfl
    refine ⟨⟨0,⟨Nat.zero_le _,trivial⟩,(by (repeat' with_reducible constructor)<;>rfl)⟩,fun p hp=>⟨fun hc=>?_,fun hc=>⟨⟨0,⟨Nat.zero_le _,trivial⟩,rfl,?_,?_,?_,?_⟩,?_⟩⟩⟩
    ·have hc:=of_decide_eq_true hc;have hp2:p<(d.el i 18).len:=by omega
     refine ⟨⟨by omega,hc⟩,(ca _ _).symm,by rw[e24];omega,Nat.le_refl _,p+1,⟨hp2,trivial⟩,by omega,by rw[IntWalk.i64_in _ (by omega)];omega,by rw[e24],?_⟩;rw[List.range_succ,List.map_append]
     (repeat' (with_reducible apply And.intro))<;>first |exact True.intro |rfl
    ·have hc:=of_decide_eq_false hc;have:=hp.1;rw[ein,ca];omega
    ·rw[eo,ebs];(repeat' split)<;>omega
    ·rw[eo,eow];omega
    ·have hc:=of_decide_eq_false hc;obtain rfl:p=(d.el i 18).len:=by have:=hp.1;omega
     rw[ein]
     (repeat' (with_reducible apply And.intro))<;>first |exact True.intro |rfl
    ·intro q hq;refine ⟨fun hc=>?_,fun hc=>?_⟩
     ·have hc:=of_decide_eq_true hc;have hq2:q<(inD d i).len:=by omega
      obtain ⟨g1,g2,g3⟩:=hin q hq2;have wb:=jS _ ((inD d i).el q 0) (Nat.le_refl _);have g4:wD ((inD d i).el q 0)<=2200000:=g3;have e1:iD (inD d i) q=bD ((inD d i).el q 0)+1:=rfl;have e2:iX (inD d i) q=bX ((inD d i).el q 0):=rfl;have hw2:IntKind.i64.wrap ((bD ((inD d i).el q 0):Int)+1)=((bD ((inD d i).el q 0)+1:Nat):Int):=by rw[IntWalk.i64_in _ (by omega)];omega
      refine ⟨⟨by omega,hc⟩,hq2,by omega,g2,g3,q+1,⟨hq2,trivial⟩,by omega,by rw[IntWalk.i64_in _ (by omega)];omega,trivial,?_,?_,(by (repeat' with_reducible constructor)<;>rfl)⟩
      ·rw[bV,e1,hw2];split<;>omega
      ·rw[bV,e2];split<;>omega
     ·have hc:=of_decide_eq_false hc;obtain rfl:q=(inD d i).len:=by have:=hq.1;omega
      exact ⟨i+1,⟨hi2,trivial⟩,by omega,hnx,by rw[bV,hsD],by rw[bV,hsX],(by (repeat' with_reducible constructor)<;>rfl)⟩
   ·have k:=eq_of_beq k;have ebs:bsD d i=0:=by unfold bsD;rw[if_neg (by omega)]
    have eow:owX d i=max (dX (d.el i 8).toI (d.el i 11)) (dX (d.el i 12).toI (d.el i 15)):=by unfold owX;rw[if_neg (by omega),if_pos (by omega)];rfl
    have ein:inD d i = .l []:=jR (by omega) (by omega) (by omega);obtain ⟨x1,x2⟩:vX (d.el i 8).toI (d.el i 9).toI (d.el i 10).toS (d.el i 11)=true/\vX (d.el i 12).toI (d.el i 13).toI (d.el i 14).toS (d.el i 15)=true:=by
     unfold vSt vA bz at hst;rw[k] at hst;have hst:vC (d.el i 7).toI (d.el i 8).toI (d.el i 9).toI (d.el i 10).toS (d.el i 11) (d.el i 12).toI (d.el i 13).toI (d.el i 14).toS (d.el i 15)=true:=hst;exact (lE (hst)).2
    refine ⟨x1,s11,x2,s15,⟨0,⟨Nat.zero_le _,trivial⟩,rfl,(by rw[ein];first |exact True.intro |rfl),?_,?_,(by rw[ein];(repeat' (with_reducible apply And.intro))<;>first |exact True.intro |rfl)⟩,?_⟩
    ·rw[eo,ebs];(repeat' split)<;>omega
    ·rw[eo,eow];(repeat' split)<;>omega
    ·intro q hq;refine ⟨fun hc=>?_,fun hc=>?_⟩
     ·have hc:=of_decide_eq_true hc;have hq2:q<(inD d i).len:=by omega
      obtain ⟨g1,g2,g3⟩:=hin q hq2;have wb:=jS _ ((inD d i).el q 0) (Nat.le_refl _);have g4:wD ((inD d i).el q 0)<=2200000:=g3;have e1:iD (inD d i) q=bD ((inD d i).el q 0)+1:=rfl;have e2:iX (inD d i) q=bX ((inD d i).el q 0):=rfl;have hw2:IntKind.i64.wrap ((bD ((inD d i).el q 0):Int)+1)=((bD ((inD d i).el q 0)+1:Nat):Int):=by rw[IntWalk.i64_in _ (by omega)];omega
      refine ⟨⟨by omega,hc⟩,hq2,by omega,g2,g3,q+1,⟨hq2,trivial⟩,by omega,by rw[IntWalk.i64_in _ (by omega)];omega,trivial,?_,?_,(by (repeat' with_reducible constructor)<;>rfl)⟩
      ·rw[bV,e1,hw2];split<;>omega
      ·rw[bV,e2];split<;>omega
     ·have hc:=of_decide_eq_false hc;obtain rfl:q=(inD d i).len:=by have:=hq.1;omega
      exact ⟨i+1,⟨hi2,trivial⟩,by omega,hnx,by rw[bV,hsD],by rw[bV,hsX],(by (repeat' with_reducible constructor)<;>rfl)⟩
   ·have n1:=ne_of_beq_false k1;have n4:=ne_of_beq_false k4;have n2:=ne_of_beq_false k2;have n3:=ne_of_beq_false k3;have n5:=ne_of_beq_false k5;have n6:=ne_of_beq_false k6
    skip
    have ebs:bsD d i=0:=by unfold bsD;rw[if_neg (by omega)]
    have eow:owX d i=0:=by unfold owX;rw[if_neg (by omega),if_neg (by omega)]
    have ein:inD d i = .l []:=jR (by omega) (by omega) (by omega)
    skip
    refine ⟨⟨0,⟨Nat.zero_le _,trivial⟩,rfl,(by rw[ein];first |exact True.intro |rfl),?_,?_,(by rw[ein];(repeat' (with_reducible apply And.intro))<;>first |exact True.intro |rfl)⟩,?_⟩
    ·rw[eo,ebs];(repeat' split)<;>omega
    ·rw[eo,eow];(repeat' split)<;>omega
    ·intro q hq;refine ⟨fun hc=>?_,fun hc=>?_⟩
     ·have hc:=of_decide_eq_true hc;have hq2:q<(inD d i).len:=by omega
      obtain ⟨g1,g2,g3⟩:=hin q hq2;have wb:=jS _ ((inD d i).el q 0) (Nat.le_refl _);have g4:wD ((inD d i).el q 0)<=2200000:=g3;have e1:iD (inD d i) q=bD ((inD d i).el q 0)+1:=rfl;have e2:iX (inD d i) q=bX ((inD d i).el q 0):=rfl;have hw2:IntKind.i64.wrap ((bD ((inD d i).el q 0):Int)+1)=((bD ((inD d i).el q 0)+1:Nat):Int):=by rw[IntWalk.i64_in _ (by omega)];omega
      refine ⟨⟨by omega,hc⟩,hq2,by omega,g2,g3,q+1,⟨hq2,trivial⟩,by omega,by rw[IntWalk.i64_in _ (by omega)];omega,trivial,?_,?_,(by (repeat' with_reducible constructor)<;>rfl)⟩
      ·rw[bV,e1,hw2];split<;>omega
      ·rw[bV,e2];split<;>omega
     ·have hc:=of_decide_eq_false hc;obtain rfl:q=(inD d i).len:=by have:=hq.1;omega
      exact ⟨i+1,⟨hi2,trivial⟩,by omega,hnx,by rw[bV,hsD],by rw[bV,hsX],(by (repeat' with_reducible constructor)<;>rfl)⟩
  ·have hc:=of_decide_eq_false hc;obtain rfl:i=d.len:=by have:=hi.1;omega
   exact ⟨rfl,rfl⟩
 ·trivial
theorem K4:ConOK Tryz.prog 13 Cv:=
 fY uJ (fun _ _=>by kernel_rfl) fun m ih=>by
  rw[K2] at ih ⊢;exact K3 m ih
end Go.Proofs.YtbhbjhejkamlnaaGreat.Sx.Z
