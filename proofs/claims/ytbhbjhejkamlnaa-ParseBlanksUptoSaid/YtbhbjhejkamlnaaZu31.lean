import Derived.Test.YtbhbjhejkamlnaaZu30
set_option linter.unusedVariables false
set_option linter.unusedSimpArgs false
namespace Go.Proofs.Ytbhbjhejkamlnaa.Sx.Z
open Go.RowKit
def inD (d:D) (i:Nat):D:=if (d.el i 0).toI=2 then .l [[d.el i 16],[d.el i 17]] else if (d.el i 0).toI=3 then .l [[d.el i 16]] else if (d.el i 0).toI=5 then cpTo (d.el i 18).len (fun j=>[(d.el i 18).el j 2]) else .l []
def bsD (d:D) (i:Nat):Nat:=if (d.el i 0).toI=2 ∨ (d.el i 0).toI=3 ∨ (d.el i 0).toI=5 then 1 else 0
def owX (d:D) (i:Nat):Nat:=if (d.el i 0).toI=1 ∨ (d.el i 0).toI=4 then dX (d.el i 3).toI (d.el i 6) else if (d.el i 0).toI=2 ∨ (d.el i 0).toI=3 ∨ (d.el i 0).toI=6 then cX d i else 0
def iD (e:D) (j:Nat):Nat:=bD (e.el j 0)+1
def iX (e:D) (j:Nat):Nat:=bX (e.el j 0)
theorem mxT_0 (f:Nat->Nat):mxT 0 f=0:=rfl
theorem mxT_congr {n:Nat} {f g:Nat->Nat} (h:∀ i,i<n->f i=g i):mxT n f=mxT n g:=by
 unfold mxT
 congr 1
 exact List.map_congr_left fun i hi=>h i (List.mem_range.1 hi)
theorem in_2 {d:D} {i:Nat} (h:(d.el i 0).toI=2):inD d i = .l [[d.el i 16],[d.el i 17]]:=if_pos h
theorem in_3 {d:D} {i:Nat} (h:(d.el i 0).toI=3):inD d i = .l [[d.el i 16]]:=by unfold inD;rw [if_neg (by omega),if_pos h]
theorem in_5 {d:D} {i:Nat} (h:(d.el i 0).toI=5):inD d i=cpTo (d.el i 18).len (fun j=>[(d.el i 18).el j 2]):=by unfold inD;rw [if_neg (by omega),if_neg (by omega),if_pos h]
theorem in_no {d:D} {i:Nat} (h2:(d.el i 0).toI≠2) (h3:(d.el i 0).toI≠3) (h5:(d.el i 0).toI≠5):inD d i = .l []:=by unfold inD;rw [if_neg h2,if_neg h3,if_neg h5]
theorem cpTo_e {n j:Nat} {f:Nat->List D} (h:j<n):(cpTo n f).el j 0=(f j).getD 0 (.i 0):=by
 show (((List.range n).map f).getD j []).getD 0 (.i 0)=_
 rw [List.getD_eq_getElem?_getD (l:=(List.range n).map f),List.getElem?_map,List.getElem?_range h]
 rfl
theorem sDX (d:D) (i:Nat):sD d i=max (bsD d i) (mxT (inD d i).len (iD (inD d i)))/\sX d i=max (owX d i) (mxT (inD d i).len (iX (inD d i))):=by
 by_cases h2:(d.el i 0).toI=2
 ·rw [in_2 h2]
  constructor
  ·unfold sD stDF bsD
   rw [if_pos h2,if_pos (.inl h2)]
   show _=max 1 (max (bD (d.el i 16)+1) (max (bD (d.el i 17)+1) 0))
   omega
  ·unfold sX stXF owX
   rw [if_neg (by omega),if_pos h2,if_neg (by omega),if_pos (.inl h2)]
   show _=max (cX d i) (max (bX (d.el i 16)) (max (bX (d.el i 17)) 0))
   omega
 by_cases h3:(d.el i 0).toI=3
 ·rw [in_3 h3]
  constructor
  ·unfold sD stDF bsD
   rw [if_neg h2,if_pos h3,if_pos (.inr (.inl h3))]
   show _=max 1 (max (bD (d.el i 16)+1) 0)
   omega
  ·unfold sX stXF owX
   rw [if_neg (by omega),if_neg h2,if_pos h3,if_neg (by omega),if_pos (.inr (.inl h3))]
   show _=max (cX d i) (max (bX (d.el i 16)) 0)
   omega
 by_cases h5:(d.el i 0).toI=5
 ·rw [in_5 h5,cpTo_len]
  constructor
  ·unfold sD stDF bsD
   rw [if_neg h2,if_neg h3,if_pos h5,if_pos (.inr (.inr h5))]
   congr 1
   refine mxT_congr fun j hj=>?_
   unfold aD iD
   rw [cpTo_e hj];rfl
  ·unfold sX stXF owX
   rw [if_neg (by omega),if_neg h2,if_neg h3,if_pos h5,if_neg (by omega),if_neg (by omega),Nat.zero_max]
   refine mxT_congr fun j hj=>?_
   unfold aXm iX
   rw [cpTo_e hj];rfl
 rw [in_no h2 h3 h5]
 constructor
 ·unfold sD stDF bsD
  rw [if_neg h2,if_neg h3,if_neg h5,if_neg (by omega)];rfl
 ·unfold sX stXF owX
  by_cases h1:(d.el i 0).toI=1 ∨ (d.el i 0).toI=4
  ·rw [if_pos h1,if_pos h1];exact (Nat.max_zero _).symm
  ·rw [if_neg h1,if_neg h1,if_neg h2,if_neg h3,if_neg h5]
   by_cases h6:(d.el i 0).toI=6
   ·rw [if_pos h6,if_pos (.inr (.inr h6))];exact (Nat.max_zero _).symm
   ·rw [if_neg h6,if_neg (by omega)];rfl
theorem bD_le:∀ (m:Nat) (d:D),SizeOf.sizeOf d<=m->bD d<=wD d:=by
 intro m
 induction m with
 |zero=>
  intro d hm
  rw [bD_eq]
  refine mxT_bd fun i hi=>?_
  have:=lel_lt (j:=0) hi
  omega
 |succ m ih=>
  intro d hm
  rw [bD_eq]
  refine mxT_bd fun i hi=>?_
  have z1:=lel_lt (j:=16) hi
  have z2:=lel_lt (j:=17) hi
  have z3:=lel_lt (j:=18) hi
  have w1:=wD_el 16 hi
  have w2:=wD_el 17 hi
  have w3:=wD_el 18 hi
  have i1:=ih (d.el i 16) (by omega)
  have i2:=ih (d.el i 17) (by omega)
  have i3:mxT (d.el i 18).len (aD (d.el i 18))<=wD (d.el i 18):=mxT_bd fun j hj=>by
   have z4:=lel_lt (j:=2) hj
   have w4:=wD_el 2 hj
   have:=ih ((d.el i 18).el j 2) (by omega)
   unfold aD
   omega
  unfold sD stDF
  repeat' split
  all_goals omega
theorem in_ok {d:D} {i:Nat} (hi:i<d.len) (h:vSt d i=true) (hd:sW d) {q:Nat} (hq:q<(inD d i).len):SizeOf.sizeOf ((inD d i).el q 0)<SizeOf.sizeOf d/\vB ((inD d i).el q 0)=true/\sW ((inD d i).el q 0):=by
 have z1:=lel_lt (j:=16) hi
 have z2:=lel_lt (j:=17) hi
 have z3:=lel_lt (j:=18) hi
 have s1:=sW_el hd hi 16
 have s2:=sW_el hd hi 17
 have s3:=sW_el hd hi 18
 unfold vSt vA aStF at h
 by_cases h2:(d.el i 0).toI=2
 ·rw [in_2 h2] at hq ⊢
  rw [if_neg (by omega),if_pos h2] at h
  simp only [Bool.and_eq_true] at h
  have hq:q<2:=hq
  rcases (show q=0 ∨ q=1 by omega) with rfl |rfl
  ·exact ⟨z1,h.1.2,s1⟩
  ·exact ⟨z2,h.2,s2⟩
 by_cases h3:(d.el i 0).toI=3
 ·rw [in_3 h3] at hq ⊢
  rw [if_neg (by omega),if_neg h2,if_pos h3] at h
  simp only [Bool.and_eq_true] at h
  have hq:q<1:=hq
  obtain rfl:q=0:=by omega
  exact ⟨z1,h.2,s1⟩
 by_cases h5:(d.el i 0).toI=5
 ·rw [in_5 h5,cpTo_len] at hq
  rw [in_5 h5,cpTo_e hq]
  rw [if_neg (by omega),if_neg h2,if_neg h3,if_neg (by omega),if_pos h5] at h
  simp only [Bool.and_eq_true] at h
  have h4:=allB_iff.1 h.2 q hq
  unfold vAr at h4
  simp only [Bool.and_eq_true] at h4
  have z4:=lel_lt (j:=2) hq
  exact ⟨Nat.lt_trans z4 z3,h4.2,sW_el s3 hq 2⟩
 ·rw [in_no h2 h3 h5] at hq
  exact absurd hq (Nat.not_lt_zero q)
noncomputable def bkqS:FSpec:=fun ds _=>match ds with
 | [.d d]=>some {val:=.tup [.sc (.int .i64 (.sym (bD d:Nat))),.sc (.int .i64 (.sym (bX d:Nat)))],vc:=[vB d=true,sW d]}
 |_=>none
noncomputable def bkqC:Con:=con [gB0] bkqS
noncomputable def bkqM:List Dat->Nat:=fun ds=>match ds with
 | [.d d]=>SizeOf.sizeOf d
 |_=>0
noncomputable def bkqSu (m:Nat):FSpec:=fun ds _=>match ds with
 | [.d d]=>some {val:=.tup [.sc (.int .i64 (.sym (bD d:Nat))),.sc (.int .i64 (.sym (bX d:Nat)))],vc:=[SizeOf.sizeOf d<m,vB d=true,sW d]}
 |_=>none
theorem bkq_under (m:Nat):bkqS.under bkqM m=bkqSu m:=by
 funext ds fr
 unfold FSpec.under bkqS bkqM bkqSu
 split
 ·rename_i e h
  split at h
  ·obtain rfl:=Option.some.inj h;rfl
  ·cases h
 ·rename_i h
  split at h
  ·cases h
  ·rfl
theorem bkq_step (m:Nat) (ih:ConOK Try.prog 31 (con [gB0] (bkqSu m))):ConOK Try.prog 31 (con [gB0] (bkqSu (m+1))):=by
 refine fn_ob tt_ok mixed Try.func31 rfl (fun _ _=>by kernel_rfl) (A:=fun ds=>⟨fun _=>Cons.of [(57,dpqC),(31,con [gB0] (bkqSu m))],fun k=>match k,ds with | 3,[.d d]=>some {ι:=Nat,pre:=fun _ i=>i<=d.len/\True,μ:=fun i=>d.len+1-i,st:=fun s i=>famR s [(6,.one (.sc (.int .i64 (.sym ((i:Nat)))))),(4,.one (.sc (.int .i64 (.sym ((mxT i (sD d):Nat)))))),(5,.one (.sc (.int .i64 (.sym ((mxT i (sX d):Nat))))))] [0] [] []} | 21,[.d d]=>some {ι:=Nat,pre:=fun s q=>q<=(d.el (slotN s 6) 18).len/\True,μ:=fun q=>2097154-q,st:=fun s q=>famR s [(9,.one (.sc (.int .i64 (.sym ((q:Nat)))))),(8,.one (.sc (.osl 49 (s.nx-1) (.lit 0) (.sym q))))] [0,4,5,6,7] [(s.nx-1,.orow 49 (cpTo q (fun j=>[(d.el (slotN s 6) 18).el j 2])))] [7]} | 28,[.d d]=>some {ι:=Nat,pre:=fun s q=>q<=(inD d (slotN s 6)).len/\True,μ:=fun q=>2097154-q,st:=fun s q=>famR s [(10,.one (.sc (.int .i64 (.sym ((q:Nat)))))),(8,.one (.sc (.osl 49 (s.nx-1) (.lit 0) (.sym (inD d (slotN s 6)).len)))),(4,.one (.sc (.int .i64 (.sym ((max (mxT (slotN s 6) (sD d)) (max (bsD d (slotN s 6)) (mxT q (iD (inD d (slotN s 6))))):Nat)))))),(5,.one (.sc (.int .i64 (.sym ((max (mxT (slotN s 6) (sX d)) (max (owX d (slotN s 6)) (mxT q (iX (inD d (slotN s 6))))):Nat))))))] [0,6] [(s.nx-1,.orow 49 ((inD d (slotN s 6))))] []} |_,_=>none,fun _=>none⟩) (fun _ _=>(cons_cons dpq_ok (cons_cons ih cons_nil))) (by kernel_rfl) ?_
 intro ds fr
 unfold bkqSu
 split
 ·rename_i d
  refine kmp (q:=withv (fun (i:Nat)=>dX (d.el (↑i:Int).toNat 8).toI (d.el (↑i:Int).toNat 11)) fun E169=>withv (fun (i:Nat)=>d.el (↑i:Int).toNat 15) fun E170=>withv (fun (i:Nat)=>d.el (↑i:Int).toNat 18) fun E171=>withv (fun (i:Nat)=>d.el (↑i:Int).toNat 12) fun E172=>withv (fun (i:Nat)=>d.el (↑i:Int).toNat 11) fun E173=>withv (fun (i:Nat)=>d.el (↑i:Int).toNat 14) fun E174=>withv (fun (i:Nat)=>d.el (↑i:Int).toNat 13) fun E175=>withv (fun (i:Nat) (i_1:Nat)=>(inD d i).el (↑i_1:Int).toNat (0:Nat)) fun E176=>withv (fun (i:Nat)=>d.el (↑i:Int).toNat 10) fun E177=>withv (fun (i:Nat) (i_1:Nat)=>max (mxT i (sD d)) (max (bsD d i) (mxT i_1 (iD (inD d i))))) fun E178=>withv (fun (i:Nat) (i_1:Nat)=>max (mxT i (sX d)) (max (owX d i) (mxT i_1 (iX (inD d i))))) fun E179=>withv (fun (i:Nat)=>d.el (↑i:Int).toNat 9) fun E180=>withv (fun (i:Nat)=>d.el (↑i:Int).toNat 8) fun E181=>withv (fun (i:Nat)=>d.el (↑i:Int).toNat 17) fun E182=>withv (fun (i:Nat)=>d.el (↑i:Int).toNat 16) fun E183=>withv (fun (i:Nat)=>d.el (↑i:Int).toNat 6) fun E184=>withv (fun (i:Nat)=>D.l [[d.el (↑i:Int).toNat 16],[d.el (↑i:Int).toNat 17]]) fun E185=>withv (fun (i:Nat)=>d.el (↑i:Int).toNat 3) fun E186=>withv (fun (i:Nat)=>d.el (↑i:Int).toNat (0:Nat)) fun E187=>withv (fun (i:Nat)=>d.el (↑i:Int).toNat 5) fun E188=>withv (fun (i:Nat)=>d.el (↑i:Int).toNat 7) fun E189=>withv (fun (i:Nat)=>d.el (↑i:Int).toNat 4) fun E190=>withv (fun (i:Nat)=>D.l [[d.el (↑i:Int).toNat 16]]) fun E191=>withv (fun (i:Nat)=>List.take ((0:Nat)+(2:Nat)) [[d.el (↑i:Int).toNat 16],[d.el (↑i:Int).toNat 17]]) fun E192=>withv (fun (i:Nat) (i_2:Nat)=>(inD d i).el (↑i_2:Int).toNat (0:Nat)) fun E193=>withv (fun (i:Nat)=>d.el (↑i:Int).toNat 2) fun E194=>withv (fun (i:Nat) (i_2:Nat)=>max (mxT i (sD d)) (max (bsD d i) (mxT i_2 (iD (inD d i))))) fun E195=>withv (fun (i:Nat) (i_2:Nat)=>max (mxT i (sX d)) (max (owX d i) (mxT i_2 (iX (inD d i))))) fun E196=>withv (fun (i:Nat)=>d.el (↑i:Int).toNat 1) fun E197=>withv (fun (i:Nat) (i_1:Nat)=>(D.l [[(E171 i).el (↑i_1:Int).toNat ((0:Nat)+(2:Nat))]]).sub (0:Nat) 1) fun E198=>withv (fun (i:Nat)=>List.take 1 [[d.el (↑i:Int).toNat 16]]) fun E199=>withv (fun (i:Nat)=>dX (E172 i).toI (E170 i)) fun E200=>SizeOf.sizeOf d<m+(1:Nat)->vB d=true->sW d->(∃ (i:Nat),(i<=d.len/\True)/\(0:Int)=(↑i:Int)/\(0:Int)=(↑(mxT i (sD d)):Int)/\(0:Int)=(↑(mxT i (sX d)):Int)/\d.rows=d.rows)/\∀ (i:Nat),i<=d.len/\True->(decide ((↑i:Int)<(↑d.len:Int))=true->((0:Int)<=(↑i:Int)/\(↑i:Int)<(↑d.len:Int))/\(((E187 i).toI==(1:Int))=true->(((E187 i).toI==(1:Int))=true->vX (E186 i).toI (E190 i).toI (E188 i).toS (E184 i)=true/\sW (E184 i)/\(∃ (i_1:Nat),(i_1<=(inD d i).len/\True)/\(0:Int)=(↑i_1:Int)/\(inD d i).len=(0:Nat)/\(↑(mxT i (sD d)):Int)=(↑(E178 i i_1):Int)/\(if (↑(dX (E186 i).toI (E184 i)):Int)>(↑(mxT i (sX d)):Int) then (↑(dX (E186 i).toI (E184 i)):Int) else (↑(mxT i (sX d)):Int))=(↑(E179 i i_1):Int)/\d.rows=d.rows/\(↑i:Int)=(↑i:Int)/\(inD d i).rows=[])/\∀ (i_1:Nat),i_1<=(inD d i).len/\True->(decide ((↑i_1:Int)<(↑(inD d i).len:Int))=true->((0:Int)<=(↑i_1:Int)/\(↑i_1:Int)<(↑(inD d i).len:Int))/\(↑i_1:Int).toNat<(inD d i).len/\SizeOf.sizeOf (E176 i i_1)<m/\vB (E176 i i_1)=true/\sW (E176 i i_1)/\∃ (j:Nat),(j<=(inD d i).len/\True)/\(2097154:Nat)-j<(2097154:Nat)-i_1/\IntKind.i64.wrap ((↑i_1:Int)+(1:Int))=(↑j:Int)/\(inD d i).len=(inD d i).len/\(if IntKind.i64.wrap ((↑(bD (E176 i i_1)):Int)+(1:Int))>(↑(E178 i i_1):Int) then IntKind.i64.wrap ((↑(bD (E176 i i_1)):Int)+(1:Int)) else (↑(E178 i i_1):Int))=(↑(max (mxT i (sD d)) (max (bsD d i) (mxT j (iD (inD d i))))):Int)/\(if (↑(bX (E176 i i_1)):Int)>(↑(E179 i i_1):Int) then (↑(bX (E176 i i_1)):Int) else (↑(E179 i i_1):Int))=(↑(max (mxT i (sX d)) (max (owX d i) (mxT j (iX (inD d i))))):Int)/\d.rows=d.rows/\(↑i:Int)=(↑i:Int)/\(inD d i).rows=(inD d i).rows)/\(decide ((↑i_1:Int)<(↑(inD d i).len:Int))=false->∃ (j:Nat),(j<=d.len/\True)/\d.len+(1:Nat)-j<d.len+(1:Nat)-i/\IntKind.i64.wrap ((↑i:Int)+(1:Int))=(↑j:Int)/\(↑(E178 i i_1):Int)=(↑(mxT j (sD d)):Int)/\(↑(E179 i i_1):Int)=(↑(mxT j (sX d)):Int)/\d.rows=d.rows))/\(((E187 i).toI==(1:Int))=false->(((E187 i).toI==(2:Int))=true->((0:Nat)+((E185 i).sub (0:Nat) ((0:Nat)+(2:Nat))).len)*(24:Nat)<=(140737488355328:Nat)/\(0:Nat)+(2:Nat)<=(E185 i).len/\vX (E181 i).toI (E180 i).toI (E177 i).toS (E173 i)=true/\sW (E173 i)/\vX (E172 i).toI (E175 i).toI (E174 i).toS (E170 i)=true/\sW (E170 i)/\(∃ (i_1:Nat),(i_1<=(inD d i).len/\True)/\(0:Int)=(↑i_1:Int)/\(2:Nat)=(inD d i).len/\(if (1:Int)>(↑(mxT i (sD d)):Int) then (1:Int) else (↑(mxT i (sD d)):Int))=(↑(E178 i i_1):Int)/\(if (↑(E200 i):Int)>if (↑(E169 i):Int)>(↑(mxT i (sX d)):Int) then (↑(E169 i):Int) else (↑(mxT i (sX d)):Int) then (↑(E200 i):Int) else if (↑(E169 i):Int)>(↑(mxT i (sX d)):Int) then (↑(E169 i):Int) else (↑(mxT i (sX d)):Int))=(↑(E179 i i_1):Int)/\d.rows=d.rows/\(↑i:Int)=(↑i:Int) /\ []++List.drop (0:Nat) (E192 i)=(inD d i).rows)/\∀ (i_1:Nat),i_1<=(inD d i).len/\True->(decide ((↑i_1:Int)<(↑(inD d i).len:Int))=true->((0:Int)<=(↑i_1:Int)/\(↑i_1:Int)<(↑(inD d i).len:Int))/\(↑i_1:Int).toNat<(inD d i).len/\SizeOf.sizeOf (E176 i i_1)<m/\vB (E176 i i_1)=true/\sW (E176 i i_1)/\∃ (j:Nat),(j<=(inD d i).len/\True)/\(2097154:Nat)-j<(2097154:Nat)-i_1/\IntKind.i64.wrap ((↑i_1:Int)+(1:Int))=(↑j:Int)/\(inD d i).len=(inD d i).len/\(if IntKind.i64.wrap ((↑(bD (E176 i i_1)):Int)+(1:Int))>(↑(E178 i i_1):Int) then IntKind.i64.wrap ((↑(bD (E176 i i_1)):Int)+(1:Int)) else (↑(E178 i i_1):Int))=(↑(max (mxT i (sD d)) (max (bsD d i) (mxT j (iD (inD d i))))):Int)/\(if (↑(bX (E176 i i_1)):Int)>(↑(E179 i i_1):Int) then (↑(bX (E176 i i_1)):Int) else (↑(E179 i i_1):Int))=(↑(max (mxT i (sX d)) (max (owX d i) (mxT j (iX (inD d i))))):Int)/\d.rows=d.rows/\(↑i:Int)=(↑i:Int)/\(inD d i).rows=(inD d i).rows)/\(decide ((↑i_1:Int)<(↑(inD d i).len:Int))=false->∃ (j:Nat),(j<=d.len/\True)/\d.len+(1:Nat)-j<d.len+(1:Nat)-i/\IntKind.i64.wrap ((↑i:Int)+(1:Int))=(↑j:Int)/\(↑(E178 i i_1):Int)=(↑(mxT j (sD d)):Int)/\(↑(E179 i i_1):Int)=(↑(mxT j (sX d)):Int)/\d.rows=d.rows))/\(((E187 i).toI==(2:Int))=false->(((E187 i).toI==(3:Int))=true->((0:Nat)+((E191 i).sub (0:Nat) 1).len)*(24:Nat)<=(140737488355328:Nat)/\(0:Nat)+(1:Nat)<=(E191 i).len/\vX (E181 i).toI (E180 i).toI (E177 i).toS (E173 i)=true/\sW (E173 i)/\vX (E172 i).toI (E175 i).toI (E174 i).toS (E170 i)=true/\sW (E170 i)/\(∃ (i_1:Nat),(i_1<=(inD d i).len/\True)/\(0:Int)=(↑i_1:Int)/\(1:Nat)=(inD d i).len/\(if (1:Int)>(↑(mxT i (sD d)):Int) then (1:Int) else (↑(mxT i (sD d)):Int))=(↑(E178 i i_1):Int)/\(if (↑(E200 i):Int)>if (↑(E169 i):Int)>(↑(mxT i (sX d)):Int) then (↑(E169 i):Int) else (↑(mxT i (sX d)):Int) then (↑(E200 i):Int) else if (↑(E169 i):Int)>(↑(mxT i (sX d)):Int) then (↑(E169 i):Int) else (↑(mxT i (sX d)):Int))=(↑(E179 i i_1):Int)/\d.rows=d.rows/\(↑i:Int)=(↑i:Int) /\ []++List.drop (0:Nat) (E199 i)=(inD d i).rows)/\∀ (i_1:Nat),i_1<=(inD d i).len/\True->(decide ((↑i_1:Int)<(↑(inD d i).len:Int))=true->((0:Int)<=(↑i_1:Int)/\(↑i_1:Int)<(↑(inD d i).len:Int))/\(↑i_1:Int).toNat<(inD d i).len/\SizeOf.sizeOf (E176 i i_1)<m/\vB (E176 i i_1)=true/\sW (E176 i i_1)/\∃ (j:Nat),(j<=(inD d i).len/\True)/\(2097154:Nat)-j<(2097154:Nat)-i_1/\IntKind.i64.wrap ((↑i_1:Int)+(1:Int))=(↑j:Int)/\(inD d i).len=(inD d i).len/\(if IntKind.i64.wrap ((↑(bD (E176 i i_1)):Int)+(1:Int))>(↑(E178 i i_1):Int) then IntKind.i64.wrap ((↑(bD (E176 i i_1)):Int)+(1:Int)) else (↑(E178 i i_1):Int))=(↑(max (mxT i (sD d)) (max (bsD d i) (mxT j (iD (inD d i))))):Int)/\(if (↑(bX (E176 i i_1)):Int)>(↑(E179 i i_1):Int) then (↑(bX (E176 i i_1)):Int) else (↑(E179 i i_1):Int))=(↑(max (mxT i (sX d)) (max (owX d i) (mxT j (iX (inD d i))))):Int)/\d.rows=d.rows/\(↑i:Int)=(↑i:Int)/\(inD d i).rows=(inD d i).rows)/\(decide ((↑i_1:Int)<(↑(inD d i).len:Int))=false->∃ (j:Nat),(j<=d.len/\True)/\d.len+(1:Nat)-j<d.len+(1:Nat)-i/\IntKind.i64.wrap ((↑i:Int)+(1:Int))=(↑j:Int)/\(↑(E178 i i_1):Int)=(↑(mxT j (sD d)):Int)/\(↑(E179 i i_1):Int)=(↑(mxT j (sX d)):Int)/\d.rows=d.rows))/\(((E187 i).toI==(3:Int))=false->(((E187 i).toI==(5:Int))=true->(∃ (i_1:Nat),(i_1<=(d.el i (18:Nat)).len/\True)/\(0:Int)=(↑i_1:Int)/\i_1=(0:Nat)/\d.rows=d.rows/\(↑(mxT i (sD d)):Int)=(↑(mxT i (sD d)):Int)/\(↑(mxT i (sX d)):Int)=(↑(mxT i (sX d)):Int)/\(↑i:Int)=(↑i:Int)/\List.map (fun (j:Nat)=>[(d.el i (18:Nat)).el j (2:Nat)]) (List.range i_1)=[]/\(E187 i).toI=(E187 i).toI/\Value.string (E197 i).toS=Value.string (E197 i).toS/\Value.string (E194 i).toS=Value.string (E194 i).toS/\(E186 i).toI=(E186 i).toI/\(E190 i).toI=(E190 i).toI/\Value.string (E188 i).toS=Value.string (E188 i).toS/\(E184 i).rows=(E184 i).rows/\(E189 i).toI=(E189 i).toI/\(E181 i).toI=(E181 i).toI/\(E180 i).toI=(E180 i).toI/\Value.string (E177 i).toS=Value.string (E177 i).toS/\(E173 i).rows=(E173 i).rows/\(E172 i).toI=(E172 i).toI/\(E175 i).toI=(E175 i).toI/\Value.string (E174 i).toS=Value.string (E174 i).toS/\(E170 i).rows=(E170 i).rows/\(E183 i).rows=(E183 i).rows/\(E182 i).rows=(E182 i).rows/\(E171 i).rows=(E171 i).rows)/\∀ (i_1:Nat),i_1<=(d.el i (18:Nat)).len/\True->(decide ((↑i_1:Int)<(↑(E171 i).len:Int))=true->((0:Int)<=(↑i_1:Int)/\(↑i_1:Int)<(↑(E171 i).len:Int))/\i_1=(cpTo i_1 fun (j:Nat)=>[(d.el i (18:Nat)).el j (2:Nat)]).len/\(i_1+(E198 i i_1).len)*(24:Nat)<=(140737488355328:Nat)/\(0:Nat)+(1:Nat)<=(D.l [[(E171 i).el (↑i_1:Int).toNat ((0:Nat)+(2:Nat))]]).len/\∃ (j:Nat),(j<=(d.el i (18:Nat)).len/\True)/\(2097154:Nat)-j<(2097154:Nat)-i_1/\IntKind.i64.wrap ((↑i_1:Int)+(1:Int))=(↑j:Int)/\i_1+(E198 i i_1).len=j/\d.rows=d.rows/\(↑(mxT i (sD d)):Int)=(↑(mxT i (sD d)):Int)/\(↑(mxT i (sX d)):Int)=(↑(mxT i (sX d)):Int)/\(↑i:Int)=(↑i:Int)/\List.map (fun (j:Nat)=>[(d.el i (18:Nat)).el j (2:Nat)]) (List.range i_1)++List.drop (0:Nat) (List.take 1 [[(E171 i).el (↑i_1:Int).toNat ((0:Nat)+(2:Nat))]])=List.map (fun (j:Nat)=>[(d.el i (18:Nat)).el j (2:Nat)]) (List.range j)/\(E187 i).toI=(E187 i).toI/\Value.string (E197 i).toS=Value.string (E197 i).toS/\Value.string (E194 i).toS=Value.string (E194 i).toS/\(E186 i).toI=(E186 i).toI/\(E190 i).toI=(E190 i).toI/\Value.string (E188 i).toS=Value.string (E188 i).toS/\(E184 i).rows=(E184 i).rows/\(E189 i).toI=(E189 i).toI/\(E181 i).toI=(E181 i).toI/\(E180 i).toI=(E180 i).toI/\Value.string (E177 i).toS=Value.string (E177 i).toS/\(E173 i).rows=(E173 i).rows/\(E172 i).toI=(E172 i).toI/\(E175 i).toI=(E175 i).toI/\Value.string (E174 i).toS=Value.string (E174 i).toS/\(E170 i).rows=(E170 i).rows/\(E183 i).rows=(E183 i).rows/\(E182 i).rows=(E182 i).rows/\(E171 i).rows=(E171 i).rows)/\(decide ((↑i_1:Int)<(↑(E171 i).len:Int))=false->(∃ (i_2:Nat),(i_2<=(inD d i).len/\True)/\(0:Int)=(↑i_2:Int)/\i_1=(inD d i).len/\(if (1:Int)>(↑(mxT i (sD d)):Int) then (1:Int) else (↑(mxT i (sD d)):Int))=(↑(E195 i i_2):Int)/\(↑(mxT i (sX d)):Int)=(↑(E196 i i_2):Int)/\d.rows=d.rows/\(↑i:Int)=(↑i:Int)/\List.map (fun (j:Nat)=>[(d.el i (18:Nat)).el j (2:Nat)]) (List.range i_1)=(inD d i).rows)/\∀ (i_2:Nat),i_2<=(inD d i).len/\True->(decide ((↑i_2:Int)<(↑(inD d i).len:Int))=true->((0:Int)<=(↑i_2:Int)/\(↑i_2:Int)<(↑(inD d i).len:Int))/\(↑i_2:Int).toNat<(inD d i).len/\SizeOf.sizeOf (E193 i i_2)<m/\vB (E193 i i_2)=true/\sW (E193 i i_2)/\∃ (j:Nat),(j<=(inD d i).len/\True)/\(2097154:Nat)-j<(2097154:Nat)-i_2/\IntKind.i64.wrap ((↑i_2:Int)+(1:Int))=(↑j:Int)/\(inD d i).len=(inD d i).len/\(if IntKind.i64.wrap ((↑(bD (E193 i i_2)):Int)+(1:Int))>(↑(E195 i i_2):Int) then IntKind.i64.wrap ((↑(bD (E193 i i_2)):Int)+(1:Int)) else (↑(E195 i i_2):Int))=(↑(max (mxT i (sD d)) (max (bsD d i) (mxT j (iD (inD d i))))):Int)/\(if (↑(bX (E193 i i_2)):Int)>(↑(E196 i i_2):Int) then (↑(bX (E193 i i_2)):Int) else (↑(E196 i i_2):Int))=(↑(max (mxT i (sX d)) (max (owX d i) (mxT j (iX (inD d i))))):Int)/\d.rows=d.rows/\(↑i:Int)=(↑i:Int)/\(inD d i).rows=(inD d i).rows)/\(decide ((↑i_2:Int)<(↑(inD d i).len:Int))=false->∃ (j:Nat),(j<=d.len/\True)/\d.len+(1:Nat)-j<d.len+(1:Nat)-i/\IntKind.i64.wrap ((↑i:Int)+(1:Int))=(↑j:Int)/\(↑(E195 i i_2):Int)=(↑(mxT j (sD d)):Int)/\(↑(E196 i i_2):Int)=(↑(mxT j (sX d)):Int)/\d.rows=d.rows)))/\(((E187 i).toI==(5:Int))=false->(((E187 i).toI==(6:Int))=true->vX (E181 i).toI (E180 i).toI (E177 i).toS (E173 i)=true/\sW (E173 i)/\vX (E172 i).toI (E175 i).toI (E174 i).toS (E170 i)=true/\sW (E170 i)/\(∃ (i_1:Nat),(i_1<=(inD d i).len/\True)/\(0:Int)=(↑i_1:Int)/\(inD d i).len=(0:Nat)/\(↑(mxT i (sD d)):Int)=(↑(E178 i i_1):Int)/\(if (↑(E200 i):Int)>if (↑(E169 i):Int)>(↑(mxT i (sX d)):Int) then (↑(E169 i):Int) else (↑(mxT i (sX d)):Int) then (↑(E200 i):Int) else if (↑(E169 i):Int)>(↑(mxT i (sX d)):Int) then (↑(E169 i):Int) else (↑(mxT i (sX d)):Int))=(↑(E179 i i_1):Int)/\d.rows=d.rows/\(↑i:Int)=(↑i:Int)/\(inD d i).rows=[])/\∀ (i_1:Nat),i_1<=(inD d i).len/\True->(decide ((↑i_1:Int)<(↑(inD d i).len:Int))=true->((0:Int)<=(↑i_1:Int)/\(↑i_1:Int)<(↑(inD d i).len:Int))/\(↑i_1:Int).toNat<(inD d i).len/\SizeOf.sizeOf (E176 i i_1)<m/\vB (E176 i i_1)=true/\sW (E176 i i_1)/\∃ (j:Nat),(j<=(inD d i).len/\True)/\(2097154:Nat)-j<(2097154:Nat)-i_1/\IntKind.i64.wrap ((↑i_1:Int)+(1:Int))=(↑j:Int)/\(inD d i).len=(inD d i).len/\(if IntKind.i64.wrap ((↑(bD (E176 i i_1)):Int)+(1:Int))>(↑(E178 i i_1):Int) then IntKind.i64.wrap ((↑(bD (E176 i i_1)):Int)+(1:Int)) else (↑(E178 i i_1):Int))=(↑(max (mxT i (sD d)) (max (bsD d i) (mxT j (iD (inD d i))))):Int)/\(if (↑(bX (E176 i i_1)):Int)>(↑(E179 i i_1):Int) then (↑(bX (E176 i i_1)):Int) else (↑(E179 i i_1):Int))=(↑(max (mxT i (sX d)) (max (owX d i) (mxT j (iX (inD d i))))):Int)/\d.rows=d.rows/\(↑i:Int)=(↑i:Int)/\(inD d i).rows=(inD d i).rows)/\(decide ((↑i_1:Int)<(↑(inD d i).len:Int))=false->∃ (j:Nat),(j<=d.len/\True)/\d.len+(1:Nat)-j<d.len+(1:Nat)-i/\IntKind.i64.wrap ((↑i:Int)+(1:Int))=(↑j:Int)/\(↑(E178 i i_1):Int)=(↑(mxT j (sD d)):Int)/\(↑(E179 i i_1):Int)=(↑(mxT j (sX d)):Int)/\d.rows=d.rows))/\(((E187 i).toI==(6:Int))=false->(∃ (i_1:Nat),(i_1<=(inD d i).len/\True)/\(0:Int)=(↑i_1:Int)/\(inD d i).len=(0:Nat)/\(↑(mxT i (sD d)):Int)=(↑(E178 i i_1):Int)/\(↑(mxT i (sX d)):Int)=(↑(E179 i i_1):Int)/\d.rows=d.rows/\(↑i:Int)=(↑i:Int)/\(inD d i).rows=[])/\∀ (i_1:Nat),i_1<=(inD d i).len/\True->(decide ((↑i_1:Int)<(↑(inD d i).len:Int))=true->((0:Int)<=(↑i_1:Int)/\(↑i_1:Int)<(↑(inD d i).len:Int))/\(↑i_1:Int).toNat<(inD d i).len/\SizeOf.sizeOf (E176 i i_1)<m/\vB (E176 i i_1)=true/\sW (E176 i i_1)/\∃ (j:Nat),(j<=(inD d i).len/\True)/\(2097154:Nat)-j<(2097154:Nat)-i_1/\IntKind.i64.wrap ((↑i_1:Int)+(1:Int))=(↑j:Int)/\(inD d i).len=(inD d i).len/\(if IntKind.i64.wrap ((↑(bD (E176 i i_1)):Int)+(1:Int))>(↑(E178 i i_1):Int) then IntKind.i64.wrap ((↑(bD (E176 i i_1)):Int)+(1:Int)) else (↑(E178 i i_1):Int))=(↑(max (mxT i (sD d)) (max (bsD d i) (mxT j (iD (inD d i))))):Int)/\(if (↑(bX (E176 i i_1)):Int)>(↑(E179 i i_1):Int) then (↑(bX (E176 i i_1)):Int) else (↑(E179 i i_1):Int))=(↑(max (mxT i (sX d)) (max (owX d i) (mxT j (iX (inD d i))))):Int)/\d.rows=d.rows/\(↑i:Int)=(↑i:Int)/\(inD d i).rows=(inD d i).rows)/\(decide ((↑i_1:Int)<(↑(inD d i).len:Int))=false->∃ (j:Nat),(j<=d.len/\True)/\d.len+(1:Nat)-j<d.len+(1:Nat)-i/\IntKind.i64.wrap ((↑i:Int)+(1:Int))=(↑j:Int)/\(↑(E178 i i_1):Int)=(↑(mxT j (sD d)):Int)/\(↑(E179 i i_1):Int)=(↑(mxT j (sX d)):Int)/\d.rows=d.rows)))))))/\(((E187 i).toI==(1:Int))=false->(((E187 i).toI==(4:Int))=true->vX (E186 i).toI (E190 i).toI (E188 i).toS (E184 i)=true/\sW (E184 i)/\(∃ (i_1:Nat),(i_1<=(inD d i).len/\True)/\(0:Int)=(↑i_1:Int)/\(inD d i).len=(0:Nat)/\(↑(mxT i (sD d)):Int)=(↑(E178 i i_1):Int)/\(if (↑(dX (E186 i).toI (E184 i)):Int)>(↑(mxT i (sX d)):Int) then (↑(dX (E186 i).toI (E184 i)):Int) else (↑(mxT i (sX d)):Int))=(↑(E179 i i_1):Int)/\d.rows=d.rows/\(↑i:Int)=(↑i:Int)/\(inD d i).rows=[])/\∀ (i_1:Nat),i_1<=(inD d i).len/\True->(decide ((↑i_1:Int)<(↑(inD d i).len:Int))=true->((0:Int)<=(↑i_1:Int)/\(↑i_1:Int)<(↑(inD d i).len:Int))/\(↑i_1:Int).toNat<(inD d i).len/\SizeOf.sizeOf (E176 i i_1)<m/\vB (E176 i i_1)=true/\sW (E176 i i_1)/\∃ (j:Nat),(j<=(inD d i).len/\True)/\(2097154:Nat)-j<(2097154:Nat)-i_1/\IntKind.i64.wrap ((↑i_1:Int)+(1:Int))=(↑j:Int)/\(inD d i).len=(inD d i).len/\(if IntKind.i64.wrap ((↑(bD (E176 i i_1)):Int)+(1:Int))>(↑(E178 i i_1):Int) then IntKind.i64.wrap ((↑(bD (E176 i i_1)):Int)+(1:Int)) else (↑(E178 i i_1):Int))=(↑(max (mxT i (sD d)) (max (bsD d i) (mxT j (iD (inD d i))))):Int)/\(if (↑(bX (E176 i i_1)):Int)>(↑(E179 i i_1):Int) then (↑(bX (E176 i i_1)):Int) else (↑(E179 i i_1):Int))=(↑(max (mxT i (sX d)) (max (owX d i) (mxT j (iX (inD d i))))):Int)/\d.rows=d.rows/\(↑i:Int)=(↑i:Int)/\(inD d i).rows=(inD d i).rows)/\(decide ((↑i_1:Int)<(↑(inD d i).len:Int))=false->∃ (j:Nat),(j<=d.len/\True)/\d.len+(1:Nat)-j<d.len+(1:Nat)-i/\IntKind.i64.wrap ((↑i:Int)+(1:Int))=(↑j:Int)/\(↑(E178 i i_1):Int)=(↑(mxT j (sD d)):Int)/\(↑(E179 i i_1):Int)=(↑(mxT j (sX d)):Int)/\d.rows=d.rows))/\(((E187 i).toI==(4:Int))=false->(((E187 i).toI==(2:Int))=true->((0:Nat)+((E185 i).sub (0:Nat) ((0:Nat)+(2:Nat))).len)*(24:Nat)<=(140737488355328:Nat)/\(0:Nat)+(2:Nat)<=(E185 i).len/\vX (E181 i).toI (E180 i).toI (E177 i).toS (E173 i)=true/\sW (E173 i)/\vX (E172 i).toI (E175 i).toI (E174 i).toS (E170 i)=true/\sW (E170 i)/\(∃ (i_1:Nat),(i_1<=(inD d i).len/\True)/\(0:Int)=(↑i_1:Int)/\(2:Nat)=(inD d i).len/\(if (1:Int)>(↑(mxT i (sD d)):Int) then (1:Int) else (↑(mxT i (sD d)):Int))=(↑(E178 i i_1):Int)/\(if (↑(E200 i):Int)>if (↑(E169 i):Int)>(↑(mxT i (sX d)):Int) then (↑(E169 i):Int) else (↑(mxT i (sX d)):Int) then (↑(E200 i):Int) else if (↑(E169 i):Int)>(↑(mxT i (sX d)):Int) then (↑(E169 i):Int) else (↑(mxT i (sX d)):Int))=(↑(E179 i i_1):Int)/\d.rows=d.rows/\(↑i:Int)=(↑i:Int) /\ []++List.drop (0:Nat) (E192 i)=(inD d i).rows)/\∀ (i_1:Nat),i_1<=(inD d i).len/\True->(decide ((↑i_1:Int)<(↑(inD d i).len:Int))=true->((0:Int)<=(↑i_1:Int)/\(↑i_1:Int)<(↑(inD d i).len:Int))/\(↑i_1:Int).toNat<(inD d i).len/\SizeOf.sizeOf (E176 i i_1)<m/\vB (E176 i i_1)=true/\sW (E176 i i_1)/\∃ (j:Nat),(j<=(inD d i).len/\True)/\(2097154:Nat)-j<(2097154:Nat)-i_1/\IntKind.i64.wrap ((↑i_1:Int)+(1:Int))=(↑j:Int)/\(inD d i).len=(inD d i).len/\(if IntKind.i64.wrap ((↑(bD (E176 i i_1)):Int)+(1:Int))>(↑(E178 i i_1):Int) then IntKind.i64.wrap ((↑(bD (E176 i i_1)):Int)+(1:Int)) else (↑(E178 i i_1):Int))=(↑(max (mxT i (sD d)) (max (bsD d i) (mxT j (iD (inD d i))))):Int)/\(if (↑(bX (E176 i i_1)):Int)>(↑(E179 i i_1):Int) then (↑(bX (E176 i i_1)):Int) else (↑(E179 i i_1):Int))=(↑(max (mxT i (sX d)) (max (owX d i) (mxT j (iX (inD d i))))):Int)/\d.rows=d.rows/\(↑i:Int)=(↑i:Int)/\(inD d i).rows=(inD d i).rows)/\(decide ((↑i_1:Int)<(↑(inD d i).len:Int))=false->∃ (j:Nat),(j<=d.len/\True)/\d.len+(1:Nat)-j<d.len+(1:Nat)-i/\IntKind.i64.wrap ((↑i:Int)+(1:Int))=(↑j:Int)/\(↑(E178 i i_1):Int)=(↑(mxT j (sD d)):Int)/\(↑(E179 i i_1):Int)=(↑(mxT j (sX d)):Int)/\d.rows=d.rows))/\(((E187 i).toI==(2:Int))=false->(((E187 i).toI==(3:Int))=true->((0:Nat)+((E191 i).sub (0:Nat) 1).len)*(24:Nat)<=(140737488355328:Nat)/\(0:Nat)+(1:Nat)<=(E191 i).len/\vX (E181 i).toI (E180 i).toI (E177 i).toS (E173 i)=true/\sW (E173 i)/\vX (E172 i).toI (E175 i).toI (E174 i).toS (E170 i)=true/\sW (E170 i)/\(∃ (i_1:Nat),(i_1<=(inD d i).len/\True)/\(0:Int)=(↑i_1:Int)/\(1:Nat)=(inD d i).len/\(if (1:Int)>(↑(mxT i (sD d)):Int) then (1:Int) else (↑(mxT i (sD d)):Int))=(↑(E178 i i_1):Int)/\(if (↑(E200 i):Int)>if (↑(E169 i):Int)>(↑(mxT i (sX d)):Int) then (↑(E169 i):Int) else (↑(mxT i (sX d)):Int) then (↑(E200 i):Int) else if (↑(E169 i):Int)>(↑(mxT i (sX d)):Int) then (↑(E169 i):Int) else (↑(mxT i (sX d)):Int))=(↑(E179 i i_1):Int)/\d.rows=d.rows/\(↑i:Int)=(↑i:Int) /\ []++List.drop (0:Nat) (E199 i)=(inD d i).rows)/\∀ (i_1:Nat),i_1<=(inD d i).len/\True->(decide ((↑i_1:Int)<(↑(inD d i).len:Int))=true->((0:Int)<=(↑i_1:Int)/\(↑i_1:Int)<(↑(inD d i).len:Int))/\(↑i_1:Int).toNat<(inD d i).len/\SizeOf.sizeOf (E176 i i_1)<m/\vB (E176 i i_1)=true/\sW (E176 i i_1)/\∃ (j:Nat),(j<=(inD d i).len/\True)/\(2097154:Nat)-j<(2097154:Nat)-i_1/\IntKind.i64.wrap ((↑i_1:Int)+(1:Int))=(↑j:Int)/\(inD d i).len=(inD d i).len/\(if IntKind.i64.wrap ((↑(bD (E176 i i_1)):Int)+(1:Int))>(↑(E178 i i_1):Int) then IntKind.i64.wrap ((↑(bD (E176 i i_1)):Int)+(1:Int)) else (↑(E178 i i_1):Int))=(↑(max (mxT i (sD d)) (max (bsD d i) (mxT j (iD (inD d i))))):Int)/\(if (↑(bX (E176 i i_1)):Int)>(↑(E179 i i_1):Int) then (↑(bX (E176 i i_1)):Int) else (↑(E179 i i_1):Int))=(↑(max (mxT i (sX d)) (max (owX d i) (mxT j (iX (inD d i))))):Int)/\d.rows=d.rows/\(↑i:Int)=(↑i:Int)/\(inD d i).rows=(inD d i).rows)/\(decide ((↑i_1:Int)<(↑(inD d i).len:Int))=false->∃ (j:Nat),(j<=d.len/\True)/\d.len+(1:Nat)-j<d.len+(1:Nat)-i/\IntKind.i64.wrap ((↑i:Int)+(1:Int))=(↑j:Int)/\(↑(E178 i i_1):Int)=(↑(mxT j (sD d)):Int)/\(↑(E179 i i_1):Int)=(↑(mxT j (sX d)):Int)/\d.rows=d.rows))/\(((E187 i).toI==(3:Int))=false->(((E187 i).toI==(5:Int))=true->(∃ (i_1:Nat),(i_1<=(d.el i (18:Nat)).len/\True)/\(0:Int)=(↑i_1:Int)/\i_1=(0:Nat)/\d.rows=d.rows/\(↑(mxT i (sD d)):Int)=(↑(mxT i (sD d)):Int)/\(↑(mxT i (sX d)):Int)=(↑(mxT i (sX d)):Int)/\(↑i:Int)=(↑i:Int)/\List.map (fun (j:Nat)=>[(d.el i (18:Nat)).el j (2:Nat)]) (List.range i_1)=[]/\(E187 i).toI=(E187 i).toI/\Value.string (E197 i).toS=Value.string (E197 i).toS/\Value.string (E194 i).toS=Value.string (E194 i).toS/\(E186 i).toI=(E186 i).toI/\(E190 i).toI=(E190 i).toI/\Value.string (E188 i).toS=Value.string (E188 i).toS/\(E184 i).rows=(E184 i).rows/\(E189 i).toI=(E189 i).toI/\(E181 i).toI=(E181 i).toI/\(E180 i).toI=(E180 i).toI/\Value.string (E177 i).toS=Value.string (E177 i).toS/\(E173 i).rows=(E173 i).rows/\(E172 i).toI=(E172 i).toI/\(E175 i).toI=(E175 i).toI/\Value.string (E174 i).toS=Value.string (E174 i).toS/\(E170 i).rows=(E170 i).rows/\(E183 i).rows=(E183 i).rows/\(E182 i).rows=(E182 i).rows/\(E171 i).rows=(E171 i).rows)/\∀ (i_1:Nat),i_1<=(d.el i (18:Nat)).len/\True->(decide ((↑i_1:Int)<(↑(E171 i).len:Int))=true->((0:Int)<=(↑i_1:Int)/\(↑i_1:Int)<(↑(E171 i).len:Int))/\i_1=(cpTo i_1 fun (j:Nat)=>[(d.el i (18:Nat)).el j (2:Nat)]).len/\(i_1+(E198 i i_1).len)*(24:Nat)<=(140737488355328:Nat)/\(0:Nat)+(1:Nat)<=(D.l [[(E171 i).el (↑i_1:Int).toNat ((0:Nat)+(2:Nat))]]).len/\∃ (j:Nat),(j<=(d.el i (18:Nat)).len/\True)/\(2097154:Nat)-j<(2097154:Nat)-i_1/\IntKind.i64.wrap ((↑i_1:Int)+(1:Int))=(↑j:Int)/\i_1+(E198 i i_1).len=j/\d.rows=d.rows/\(↑(mxT i (sD d)):Int)=(↑(mxT i (sD d)):Int)/\(↑(mxT i (sX d)):Int)=(↑(mxT i (sX d)):Int)/\(↑i:Int)=(↑i:Int)/\List.map (fun (j:Nat)=>[(d.el i (18:Nat)).el j (2:Nat)]) (List.range i_1)++List.drop (0:Nat) (List.take 1 [[(E171 i).el (↑i_1:Int).toNat ((0:Nat)+(2:Nat))]])=List.map (fun (j:Nat)=>[(d.el i (18:Nat)).el j (2:Nat)]) (List.range j)/\(E187 i).toI=(E187 i).toI/\Value.string (E197 i).toS=Value.string (E197 i).toS/\Value.string (E194 i).toS=Value.string (E194 i).toS/\(E186 i).toI=(E186 i).toI/\(E190 i).toI=(E190 i).toI/\Value.string (E188 i).toS=Value.string (E188 i).toS/\(E184 i).rows=(E184 i).rows/\(E189 i).toI=(E189 i).toI/\(E181 i).toI=(E181 i).toI/\(E180 i).toI=(E180 i).toI/\Value.string (E177 i).toS=Value.string (E177 i).toS/\(E173 i).rows=(E173 i).rows/\(E172 i).toI=(E172 i).toI/\(E175 i).toI=(E175 i).toI/\Value.string (E174 i).toS=Value.string (E174 i).toS/\(E170 i).rows=(E170 i).rows/\(E183 i).rows=(E183 i).rows/\(E182 i).rows=(E182 i).rows/\(E171 i).rows=(E171 i).rows)/\(decide ((↑i_1:Int)<(↑(E171 i).len:Int))=false->(∃ (i_2:Nat),(i_2<=(inD d i).len/\True)/\(0:Int)=(↑i_2:Int)/\i_1=(inD d i).len/\(if (1:Int)>(↑(mxT i (sD d)):Int) then (1:Int) else (↑(mxT i (sD d)):Int))=(↑(E195 i i_2):Int)/\(↑(mxT i (sX d)):Int)=(↑(E196 i i_2):Int)/\d.rows=d.rows/\(↑i:Int)=(↑i:Int)/\List.map (fun (j:Nat)=>[(d.el i (18:Nat)).el j (2:Nat)]) (List.range i_1)=(inD d i).rows)/\∀ (i_2:Nat),i_2<=(inD d i).len/\True->(decide ((↑i_2:Int)<(↑(inD d i).len:Int))=true->((0:Int)<=(↑i_2:Int)/\(↑i_2:Int)<(↑(inD d i).len:Int))/\(↑i_2:Int).toNat<(inD d i).len/\SizeOf.sizeOf (E193 i i_2)<m/\vB (E193 i i_2)=true/\sW (E193 i i_2)/\∃ (j:Nat),(j<=(inD d i).len/\True)/\(2097154:Nat)-j<(2097154:Nat)-i_2/\IntKind.i64.wrap ((↑i_2:Int)+(1:Int))=(↑j:Int)/\(inD d i).len=(inD d i).len/\(if IntKind.i64.wrap ((↑(bD (E193 i i_2)):Int)+(1:Int))>(↑(E195 i i_2):Int) then IntKind.i64.wrap ((↑(bD (E193 i i_2)):Int)+(1:Int)) else (↑(E195 i i_2):Int))=(↑(max (mxT i (sD d)) (max (bsD d i) (mxT j (iD (inD d i))))):Int)/\(if (↑(bX (E193 i i_2)):Int)>(↑(E196 i i_2):Int) then (↑(bX (E193 i i_2)):Int) else (↑(E196 i i_2):Int))=(↑(max (mxT i (sX d)) (max (owX d i) (mxT j (iX (inD d i))))):Int)/\d.rows=d.rows/\(↑i:Int)=(↑i:Int)/\(inD d i).rows=(inD d i).rows)/\(decide ((↑i_2:Int)<(↑(inD d i).len:Int))=false->∃ (j:Nat),(j<=d.len/\True)/\d.len+(1:Nat)-j<d.len+(1:Nat)-i/\IntKind.i64.wrap ((↑i:Int)+(1:Int))=(↑j:Int)/\(↑(E195 i i_2):Int)=(↑(mxT j (sD d)):Int)/\(↑(E196 i i_2):Int)=(↑(mxT j (sX d)):Int)/\d.rows=d.rows)))/\(((E187 i).toI==(5:Int))=false->(((E187 i).toI==(6:Int))=true->vX (E181 i).toI (E180 i).toI (E177 i).toS (E173 i)=true/\sW (E173 i)/\vX (E172 i).toI (E175 i).toI (E174 i).toS (E170 i)=true/\sW (E170 i)/\(∃ (i_1:Nat),(i_1<=(inD d i).len/\True)/\(0:Int)=(↑i_1:Int)/\(inD d i).len=(0:Nat)/\(↑(mxT i (sD d)):Int)=(↑(E178 i i_1):Int)/\(if (↑(E200 i):Int)>if (↑(E169 i):Int)>(↑(mxT i (sX d)):Int) then (↑(E169 i):Int) else (↑(mxT i (sX d)):Int) then (↑(E200 i):Int) else if (↑(E169 i):Int)>(↑(mxT i (sX d)):Int) then (↑(E169 i):Int) else (↑(mxT i (sX d)):Int))=(↑(E179 i i_1):Int)/\d.rows=d.rows/\(↑i:Int)=(↑i:Int)/\(inD d i).rows=[])/\∀ (i_1:Nat),i_1<=(inD d i).len/\True->(decide ((↑i_1:Int)<(↑(inD d i).len:Int))=true->((0:Int)<=(↑i_1:Int)/\(↑i_1:Int)<(↑(inD d i).len:Int))/\(↑i_1:Int).toNat<(inD d i).len/\SizeOf.sizeOf (E176 i i_1)<m/\vB (E176 i i_1)=true/\sW (E176 i i_1)/\∃ (j:Nat),(j<=(inD d i).len/\True)/\(2097154:Nat)-j<(2097154:Nat)-i_1/\IntKind.i64.wrap ((↑i_1:Int)+(1:Int))=(↑j:Int)/\(inD d i).len=(inD d i).len/\(if IntKind.i64.wrap ((↑(bD (E176 i i_1)):Int)+(1:Int))>(↑(E178 i i_1):Int) then IntKind.i64.wrap ((↑(bD (E176 i i_1)):Int)+(1:Int)) else (↑(E178 i i_1):Int))=(↑(max (mxT i (sD d)) (max (bsD d i) (mxT j (iD (inD d i))))):Int)/\(if (↑(bX (E176 i i_1)):Int)>(↑(E179 i i_1):Int) then (↑(bX (E176 i i_1)):Int) else (↑(E179 i i_1):Int))=(↑(max (mxT i (sX d)) (max (owX d i) (mxT j (iX (inD d i))))):Int)/\d.rows=d.rows/\(↑i:Int)=(↑i:Int)/\(inD d i).rows=(inD d i).rows)/\(decide ((↑i_1:Int)<(↑(inD d i).len:Int))=false->∃ (j:Nat),(j<=d.len/\True)/\d.len+(1:Nat)-j<d.len+(1:Nat)-i/\IntKind.i64.wrap ((↑i:Int)+(1:Int))=(↑j:Int)/\(↑(E178 i i_1):Int)=(↑(mxT j (sD d)):Int)/\(↑(E179 i i_1):Int)=(↑(mxT j (sX d)):Int)/\d.rows=d.rows))/\(((E187 i).toI==(6:Int))=false->(∃ (i_1:Nat),(i_1<=(inD d i).len/\True)/\(0:Int)=(↑i_1:Int)/\(inD d i).len=(0:Nat)/\(↑(mxT i (sD d)):Int)=(↑(E178 i i_1):Int)/\(↑(mxT i (sX d)):Int)=(↑(E179 i i_1):Int)/\d.rows=d.rows/\(↑i:Int)=(↑i:Int)/\(inD d i).rows=[])/\∀ (i_1:Nat),i_1<=(inD d i).len/\True->(decide ((↑i_1:Int)<(↑(inD d i).len:Int))=true->((0:Int)<=(↑i_1:Int)/\(↑i_1:Int)<(↑(inD d i).len:Int))/\(↑i_1:Int).toNat<(inD d i).len/\SizeOf.sizeOf (E176 i i_1)<m/\vB (E176 i i_1)=true/\sW (E176 i i_1)/\∃ (j:Nat),(j<=(inD d i).len/\True)/\(2097154:Nat)-j<(2097154:Nat)-i_1/\IntKind.i64.wrap ((↑i_1:Int)+(1:Int))=(↑j:Int)/\(inD d i).len=(inD d i).len/\(if IntKind.i64.wrap ((↑(bD (E176 i i_1)):Int)+(1:Int))>(↑(E178 i i_1):Int) then IntKind.i64.wrap ((↑(bD (E176 i i_1)):Int)+(1:Int)) else (↑(E178 i i_1):Int))=(↑(max (mxT i (sD d)) (max (bsD d i) (mxT j (iD (inD d i))))):Int)/\(if (↑(bX (E176 i i_1)):Int)>(↑(E179 i i_1):Int) then (↑(bX (E176 i i_1)):Int) else (↑(E179 i i_1):Int))=(↑(max (mxT i (sX d)) (max (owX d i) (mxT j (iX (inD d i))))):Int)/\d.rows=d.rows/\(↑i:Int)=(↑i:Int)/\(inD d i).rows=(inD d i).rows)/\(decide ((↑i_1:Int)<(↑(inD d i).len:Int))=false->∃ (j:Nat),(j<=d.len/\True)/\d.len+(1:Nat)-j<d.len+(1:Nat)-i/\IntKind.i64.wrap ((↑i:Int)+(1:Int))=(↑j:Int)/\(↑(E178 i i_1):Int)=(↑(mxT j (sD d)):Int)/\(↑(E179 i i_1):Int)=(↑(mxT j (sX d)):Int)/\d.rows=d.rows))))))))/\(decide ((↑i:Int)<(↑d.len:Int))=false->(↑(mxT i (sD d)):Int)=(↑(bD d):Int)/\(↑(mxT i (sX d)):Int)=(↑(bX d):Int))) (by kernel_rfl) ?_
  dsimp only [withv]
  intro hm hr hd
  have en:∀ i:Nat,(i:Int).toNat=i:=fun i=>Int.toNat_natCast i
  simp only [Nat.reduceAdd,Nat.zero_add,en]
  have hlen:=sW_len hd
  rw [vB_eq] at hr
  have hr:=allB_iff.1 hr
  rw [bD_eq,bX_eq]
  refine ⟨⟨0,⟨Nat.zero_le _,trivial⟩,(by (repeat' (with_reducible apply And.intro))<;>first |exact True.intro |rfl)⟩,fun i hi=>⟨fun hc=>?_,fun hc=>?_⟩⟩
  ·have hc:=of_decide_eq_true hc
   have hi2:i<d.len:=by omega
   have hst:=hr i hi2
   have hnx:IntKind.i64.wrap ((i:Int)+1)=((i+1:Nat):Int):=by rw [IntWalk.i64_in _ (by omega)];omega
   have s6:=sW_el hd hi2 6
   have s11:=sW_el hd hi2 11
   have s15:=sW_el hd hi2 15
   have s18:=sW_el hd hi2 18
   have l18:=sW_len s18
   obtain ⟨hsD,hsX⟩:=sDX d i
   have hin:∀ q,q<(inD d i).len->SizeOf.sizeOf ((inD d i).el q 0)<SizeOf.sizeOf d/\vB ((inD d i).el q 0)=true/\sW ((inD d i).el q 0):=fun q hq=>in_ok hi2 hst hd hq
   have lin:(inD d i).len<=2097153:=by
    by_cases h2:(d.el i 0).toI=2
    ·rw [in_2 h2];show 2<=2097153;omega
    by_cases h3:(d.el i 0).toI=3
    ·rw [in_3 h3];show 1<=2097153;omega
    by_cases h5:(d.el i 0).toI=5
    ·rw [in_5 h5,cpTo_len];exact l18
    ·rw [in_no h2 h3 h5];show 0<=2097153;omega
   refine ⟨⟨by omega,hc⟩,fun k=>⟨fun _=>?_,fun k'=>absurd k' (by rw [k];decide)⟩,fun k1=>⟨fun k=>?_,fun k4=>⟨fun k=>?_,fun k2=>⟨fun k=>?_,fun k3=>⟨fun k=>?_,fun k5=>⟨fun k=>?_,fun k6=>?_⟩⟩⟩⟩⟩⟩
   ·have k:=eq_of_beq k
    have ebs:bsD d i=0:=by unfold bsD;rw [if_neg (by omega)]
    have eow:owX d i=dX (d.el i 3).toI (d.el i 6):=by unfold owX;rw [if_pos (by omega)]
    have ein:inD d i = .l []:=in_no (by omega) (by omega) (by omega)
    have hx:vX (d.el i 3).toI (d.el i 4).toI (d.el i 5).toS (d.el i 6)=true:=by
     unfold vSt vA aStF at hst
     rw [k] at hst
     have hst:(nmB (d.el i 1).toS&&vX (d.el i 3).toI (d.el i 4).toI (d.el i 5).toS (d.el i 6))=true:=hst
     simp only [Bool.and_eq_true] at hst
     exact hst.2
    refine ⟨hx,s6,⟨0,⟨Nat.zero_le _,trivial⟩,rfl,(by rw [ein];first |exact True.intro |rfl),?_,?_,(by rw [ein];(repeat' (with_reducible apply And.intro))<;>first |exact True.intro |rfl)⟩,?_⟩
    ·rw [mxT_0,ebs];(repeat' split)<;>omega
    ·rw [mxT_0,eow];(repeat' split)<;>omega
    ·intro q hq
     refine ⟨fun hc=>?_,fun hc=>?_⟩
     ·have hc:=of_decide_eq_true hc
      have hq2:q<(inD d i).len:=by omega
      obtain ⟨g1,g2,g3⟩:=hin q hq2
      have wb:=bD_le _ ((inD d i).el q 0) (Nat.le_refl _)
      have g4:wD ((inD d i).el q 0)<=2097153:=g3
      have e1:iD (inD d i) q=bD ((inD d i).el q 0)+1:=rfl
      have e2:iX (inD d i) q=bX ((inD d i).el q 0):=rfl
      have hw2:IntKind.i64.wrap ((bD ((inD d i).el q 0):Int)+1)=((bD ((inD d i).el q 0)+1:Nat):Int):=by rw [IntWalk.i64_in _ (by omega)];omega
      refine ⟨⟨by omega,hc⟩,hq2,by omega,g2,g3,q+1,⟨hq2,trivial⟩,by omega,by rw [IntWalk.i64_in _ (by omega)];omega,trivial,?_,?_,(by (repeat' (with_reducible apply And.intro))<;>first |exact True.intro |rfl)⟩
      ·rw [mxT_succ,e1,hw2];split<;>omega
      ·rw [mxT_succ,e2];split<;>omega
     ·have hc:=of_decide_eq_false hc
      obtain rfl:q=(inD d i).len:=by have:=hq.1;omega
      exact ⟨i+1,⟨hi2,trivial⟩,by omega,hnx,by rw [mxT_succ,hsD],by rw [mxT_succ,hsX],(by (repeat' (with_reducible apply And.intro))<;>first |exact True.intro |rfl)⟩
   ·have k:=eq_of_beq k
    have ebs:bsD d i=0:=by unfold bsD;rw [if_neg (by omega)]
    have eow:owX d i=dX (d.el i 3).toI (d.el i 6):=by unfold owX;rw [if_pos (by omega)]
    have ein:inD d i = .l []:=in_no (by omega) (by omega) (by omega)
    have hx:vX (d.el i 3).toI (d.el i 4).toI (d.el i 5).toS (d.el i 6)=true:=by
     unfold vSt vA aStF at hst
     rw [k] at hst
     have hst:(nmB (d.el i 1).toS&&nmB (d.el i 2).toS&&vX (d.el i 3).toI (d.el i 4).toI (d.el i 5).toS (d.el i 6))=true:=hst
     simp only [Bool.and_eq_true] at hst
     exact hst.2
    refine ⟨hx,s6,⟨0,⟨Nat.zero_le _,trivial⟩,rfl,(by rw [ein];first |exact True.intro |rfl),?_,?_,(by rw [ein];(repeat' (with_reducible apply And.intro))<;>first |exact True.intro |rfl)⟩,?_⟩
    ·rw [mxT_0,ebs];(repeat' split)<;>omega
    ·rw [mxT_0,eow];(repeat' split)<;>omega
    ·intro q hq
     refine ⟨fun hc=>?_,fun hc=>?_⟩
     ·have hc:=of_decide_eq_true hc
      have hq2:q<(inD d i).len:=by omega
      obtain ⟨g1,g2,g3⟩:=hin q hq2
      have wb:=bD_le _ ((inD d i).el q 0) (Nat.le_refl _)
      have g4:wD ((inD d i).el q 0)<=2097153:=g3
      have e1:iD (inD d i) q=bD ((inD d i).el q 0)+1:=rfl
      have e2:iX (inD d i) q=bX ((inD d i).el q 0):=rfl
      have hw2:IntKind.i64.wrap ((bD ((inD d i).el q 0):Int)+1)=((bD ((inD d i).el q 0)+1:Nat):Int):=by rw [IntWalk.i64_in _ (by omega)];omega
      refine ⟨⟨by omega,hc⟩,hq2,by omega,g2,g3,q+1,⟨hq2,trivial⟩,by omega,by rw [IntWalk.i64_in _ (by omega)];omega,trivial,?_,?_,(by (repeat' (with_reducible apply And.intro))<;>first |exact True.intro |rfl)⟩
      ·rw [mxT_succ,e1,hw2];split<;>omega
      ·rw [mxT_succ,e2];split<;>omega
     ·have hc:=of_decide_eq_false hc
      obtain rfl:q=(inD d i).len:=by have:=hq.1;omega
      exact ⟨i+1,⟨hi2,trivial⟩,by omega,hnx,by rw [mxT_succ,hsD],by rw [mxT_succ,hsX],(by (repeat' (with_reducible apply And.intro))<;>first |exact True.intro |rfl)⟩
   ·have k:=eq_of_beq k
    have ebs:bsD d i=1:=by unfold bsD;rw [if_pos (by omega)]
    have eow:owX d i=max (dX (d.el i 8).toI (d.el i 11)) (dX (d.el i 12).toI (d.el i 15)):=by unfold owX;rw [if_neg (by omega),if_pos (by omega)];rfl
    have ein:=in_2 k
    obtain ⟨x1,x2⟩:vX (d.el i 8).toI (d.el i 9).toI (d.el i 10).toS (d.el i 11)=true/\vX (d.el i 12).toI (d.el i 13).toI (d.el i 14).toS (d.el i 15)=true:=by
     unfold vSt vA aStF at hst
     rw [k] at hst
     have hst:(vC (d.el i 7).toI (d.el i 8).toI (d.el i 9).toI (d.el i 10).toS (d.el i 11) (d.el i 12).toI (d.el i 13).toI (d.el i 14).toS (d.el i 15)&&vB (d.el i 16)&&vB (d.el i 17))=true:=hst
     simp only [Bool.and_eq_true] at hst
     exact (vC_in (hst.1.1)).2
    refine ⟨(show 2*24<=140737488355328 by omega),(by first |exact True.intro |exact Nat.le_refl _),x1,s11,x2,s15,⟨0,⟨Nat.zero_le _,trivial⟩,rfl,(by rw [ein];first |exact True.intro |rfl),?_,?_,(by rw [ein];(repeat' (with_reducible apply And.intro))<;>first |exact True.intro |rfl)⟩,?_⟩
    ·rw [mxT_0,ebs];(repeat' split)<;>omega
    ·rw [mxT_0,eow];(repeat' split)<;>omega
    ·intro q hq
     refine ⟨fun hc=>?_,fun hc=>?_⟩
     ·have hc:=of_decide_eq_true hc
      have hq2:q<(inD d i).len:=by omega
      obtain ⟨g1,g2,g3⟩:=hin q hq2
      have wb:=bD_le _ ((inD d i).el q 0) (Nat.le_refl _)
      have g4:wD ((inD d i).el q 0)<=2097153:=g3
      have e1:iD (inD d i) q=bD ((inD d i).el q 0)+1:=rfl
      have e2:iX (inD d i) q=bX ((inD d i).el q 0):=rfl
      have hw2:IntKind.i64.wrap ((bD ((inD d i).el q 0):Int)+1)=((bD ((inD d i).el q 0)+1:Nat):Int):=by rw [IntWalk.i64_in _ (by omega)];omega
      refine ⟨⟨by omega,hc⟩,hq2,by omega,g2,g3,q+1,⟨hq2,trivial⟩,by omega,by rw [IntWalk.i64_in _ (by omega)];omega,trivial,?_,?_,(by (repeat' (with_reducible apply And.intro))<;>first |exact True.intro |rfl)⟩
      ·rw [mxT_succ,e1,hw2];split<;>omega
      ·rw [mxT_succ,e2];split<;>omega
     ·have hc:=of_decide_eq_false hc
      obtain rfl:q=(inD d i).len:=by have:=hq.1;omega
      exact ⟨i+1,⟨hi2,trivial⟩,by omega,hnx,by rw [mxT_succ,hsD],by rw [mxT_succ,hsX],(by (repeat' (with_reducible apply And.intro))<;>first |exact True.intro |rfl)⟩
   ·have k:=eq_of_beq k
    have ebs:bsD d i=1:=by unfold bsD;rw [if_pos (by omega)]
    have eow:owX d i=max (dX (d.el i 8).toI (d.el i 11)) (dX (d.el i 12).toI (d.el i 15)):=by unfold owX;rw [if_neg (by omega),if_pos (by omega)];rfl
    have ein:=in_3 k
    obtain ⟨x1,x2⟩:vX (d.el i 8).toI (d.el i 9).toI (d.el i 10).toS (d.el i 11)=true/\vX (d.el i 12).toI (d.el i 13).toI (d.el i 14).toS (d.el i 15)=true:=by
     unfold vSt vA aStF at hst
     rw [k] at hst
     have hst:(vC (d.el i 7).toI (d.el i 8).toI (d.el i 9).toI (d.el i 10).toS (d.el i 11) (d.el i 12).toI (d.el i 13).toI (d.el i 14).toS (d.el i 15)&&vB (d.el i 16))=true:=hst
     simp only [Bool.and_eq_true] at hst
     exact (vC_in (hst.1)).2
    refine ⟨(show 1*24<=140737488355328 by omega),(by first |exact True.intro |exact Nat.le_refl _),x1,s11,x2,s15,⟨0,⟨Nat.zero_le _,trivial⟩,rfl,(by rw [ein];first |exact True.intro |rfl),?_,?_,(by rw [ein];(repeat' (with_reducible apply And.intro))<;>first |exact True.intro |rfl)⟩,?_⟩
    ·rw [mxT_0,ebs];(repeat' split)<;>omega
    ·rw [mxT_0,eow];(repeat' split)<;>omega
    ·intro q hq
     refine ⟨fun hc=>?_,fun hc=>?_⟩
     ·have hc:=of_decide_eq_true hc
      have hq2:q<(inD d i).len:=by omega
      obtain ⟨g1,g2,g3⟩:=hin q hq2
      have wb:=bD_le _ ((inD d i).el q 0) (Nat.le_refl _)
      have g4:wD ((inD d i).el q 0)<=2097153:=g3
      have e1:iD (inD d i) q=bD ((inD d i).el q 0)+1:=rfl
      have e2:iX (inD d i) q=bX ((inD d i).el q 0):=rfl
      have hw2:IntKind.i64.wrap ((bD ((inD d i).el q 0):Int)+1)=((bD ((inD d i).el q 0)+1:Nat):Int):=by rw [IntWalk.i64_in _ (by omega)];omega
      refine ⟨⟨by omega,hc⟩,hq2,by omega,g2,g3,q+1,⟨hq2,trivial⟩,by omega,by rw [IntWalk.i64_in _ (by omega)];omega,trivial,?_,?_,(by (repeat' (with_reducible apply And.intro))<;>first |exact True.intro |rfl)⟩
      ·rw [mxT_succ,e1,hw2];split<;>omega
      ·rw [mxT_succ,e2];split<;>omega
     ·have hc:=of_decide_eq_false hc
      obtain rfl:q=(inD d i).len:=by have:=hq.1;omega
      exact ⟨i+1,⟨hi2,trivial⟩,by omega,hnx,by rw [mxT_succ,hsD],by rw [mxT_succ,hsX],(by (repeat' (with_reducible apply And.intro))<;>first |exact True.intro |rfl)⟩
   ·have k:=eq_of_beq k
    have ebs:bsD d i=1:=by unfold bsD;rw [if_pos (by omega)]
    have eow:owX d i=0:=by unfold owX;rw [if_neg (by omega),if_neg (by omega)]
    have ein:=in_5 k
    have e24:∀ x:D,((D.l [[x]]).sub 0 1).len=1:=fun _=>rfl
    refine ⟨⟨0,⟨Nat.zero_le _,trivial⟩,(by (repeat' (with_reducible apply And.intro))<;>first |exact True.intro |rfl)⟩,fun p hp=>⟨fun hc=>?_,fun hc=>⟨⟨0,⟨Nat.zero_le _,trivial⟩,rfl,?_,?_,?_,?_⟩,?_⟩⟩⟩
    ·have hc:=of_decide_eq_true hc
     have hp2:p<(d.el i 18).len:=by omega
     refine ⟨⟨by omega,hc⟩,(cpTo_len _ _).symm,by rw [e24];omega,Nat.le_refl _,p+1,⟨hp2,trivial⟩,by omega,by rw [IntWalk.i64_in _ (by omega)];omega,by rw [e24],?_⟩
     rw [List.range_succ,List.map_append]
     (repeat' (with_reducible apply And.intro))<;>first |exact True.intro |rfl
    ·have hc:=of_decide_eq_false hc
     have:=hp.1
     rw [ein,cpTo_len];omega
    ·rw [mxT_0,ebs];(repeat' split)<;>omega
    ·rw [mxT_0,eow];omega
    ·have hc:=of_decide_eq_false hc
     obtain rfl:p=(d.el i 18).len:=by have:=hp.1;omega
     rw [ein]
     (repeat' (with_reducible apply And.intro))<;>first |exact True.intro |rfl
    ·intro q hq
     refine ⟨fun hc=>?_,fun hc=>?_⟩
     ·have hc:=of_decide_eq_true hc
      have hq2:q<(inD d i).len:=by omega
      obtain ⟨g1,g2,g3⟩:=hin q hq2
      have wb:=bD_le _ ((inD d i).el q 0) (Nat.le_refl _)
      have g4:wD ((inD d i).el q 0)<=2097153:=g3
      have e1:iD (inD d i) q=bD ((inD d i).el q 0)+1:=rfl
      have e2:iX (inD d i) q=bX ((inD d i).el q 0):=rfl
      have hw2:IntKind.i64.wrap ((bD ((inD d i).el q 0):Int)+1)=((bD ((inD d i).el q 0)+1:Nat):Int):=by rw [IntWalk.i64_in _ (by omega)];omega
      refine ⟨⟨by omega,hc⟩,hq2,by omega,g2,g3,q+1,⟨hq2,trivial⟩,by omega,by rw [IntWalk.i64_in _ (by omega)];omega,trivial,?_,?_,(by (repeat' (with_reducible apply And.intro))<;>first |exact True.intro |rfl)⟩
      ·rw [mxT_succ,e1,hw2];split<;>omega
      ·rw [mxT_succ,e2];split<;>omega
     ·have hc:=of_decide_eq_false hc
      obtain rfl:q=(inD d i).len:=by have:=hq.1;omega
      exact ⟨i+1,⟨hi2,trivial⟩,by omega,hnx,by rw [mxT_succ,hsD],by rw [mxT_succ,hsX],(by (repeat' (with_reducible apply And.intro))<;>first |exact True.intro |rfl)⟩
   ·have k:=eq_of_beq k
    have ebs:bsD d i=0:=by unfold bsD;rw [if_neg (by omega)]
    have eow:owX d i=max (dX (d.el i 8).toI (d.el i 11)) (dX (d.el i 12).toI (d.el i 15)):=by unfold owX;rw [if_neg (by omega),if_pos (by omega)];rfl
    have ein:inD d i = .l []:=in_no (by omega) (by omega) (by omega)
    obtain ⟨x1,x2⟩:vX (d.el i 8).toI (d.el i 9).toI (d.el i 10).toS (d.el i 11)=true/\vX (d.el i 12).toI (d.el i 13).toI (d.el i 14).toS (d.el i 15)=true:=by
     unfold vSt vA aStF at hst
     rw [k] at hst
     have hst:vC (d.el i 7).toI (d.el i 8).toI (d.el i 9).toI (d.el i 10).toS (d.el i 11) (d.el i 12).toI (d.el i 13).toI (d.el i 14).toS (d.el i 15)=true:=hst
     exact (vC_in (hst)).2
    refine ⟨x1,s11,x2,s15,⟨0,⟨Nat.zero_le _,trivial⟩,rfl,(by rw [ein];first |exact True.intro |rfl),?_,?_,(by rw [ein];(repeat' (with_reducible apply And.intro))<;>first |exact True.intro |rfl)⟩,?_⟩
    ·rw [mxT_0,ebs];(repeat' split)<;>omega
    ·rw [mxT_0,eow];(repeat' split)<;>omega
    ·intro q hq
     refine ⟨fun hc=>?_,fun hc=>?_⟩
     ·have hc:=of_decide_eq_true hc
      have hq2:q<(inD d i).len:=by omega
      obtain ⟨g1,g2,g3⟩:=hin q hq2
      have wb:=bD_le _ ((inD d i).el q 0) (Nat.le_refl _)
      have g4:wD ((inD d i).el q 0)<=2097153:=g3
      have e1:iD (inD d i) q=bD ((inD d i).el q 0)+1:=rfl
      have e2:iX (inD d i) q=bX ((inD d i).el q 0):=rfl
      have hw2:IntKind.i64.wrap ((bD ((inD d i).el q 0):Int)+1)=((bD ((inD d i).el q 0)+1:Nat):Int):=by rw [IntWalk.i64_in _ (by omega)];omega
      refine ⟨⟨by omega,hc⟩,hq2,by omega,g2,g3,q+1,⟨hq2,trivial⟩,by omega,by rw [IntWalk.i64_in _ (by omega)];omega,trivial,?_,?_,(by (repeat' (with_reducible apply And.intro))<;>first |exact True.intro |rfl)⟩
      ·rw [mxT_succ,e1,hw2];split<;>omega
      ·rw [mxT_succ,e2];split<;>omega
     ·have hc:=of_decide_eq_false hc
      obtain rfl:q=(inD d i).len:=by have:=hq.1;omega
      exact ⟨i+1,⟨hi2,trivial⟩,by omega,hnx,by rw [mxT_succ,hsD],by rw [mxT_succ,hsX],(by (repeat' (with_reducible apply And.intro))<;>first |exact True.intro |rfl)⟩
   ·have n1:=ne_of_beq_false k1
    have n4:=ne_of_beq_false k4
    have n2:=ne_of_beq_false k2
    have n3:=ne_of_beq_false k3
    have n5:=ne_of_beq_false k5
    have n6:=ne_of_beq_false k6
    skip
    have ebs:bsD d i=0:=by unfold bsD;rw [if_neg (by omega)]
    have eow:owX d i=0:=by unfold owX;rw [if_neg (by omega),if_neg (by omega)]
    have ein:inD d i = .l []:=in_no (by omega) (by omega) (by omega)
    skip
    refine ⟨⟨0,⟨Nat.zero_le _,trivial⟩,rfl,(by rw [ein];first |exact True.intro |rfl),?_,?_,(by rw [ein];(repeat' (with_reducible apply And.intro))<;>first |exact True.intro |rfl)⟩,?_⟩
    ·rw [mxT_0,ebs];(repeat' split)<;>omega
    ·rw [mxT_0,eow];(repeat' split)<;>omega
    ·intro q hq
     refine ⟨fun hc=>?_,fun hc=>?_⟩
     ·have hc:=of_decide_eq_true hc
      have hq2:q<(inD d i).len:=by omega
      obtain ⟨g1,g2,g3⟩:=hin q hq2
      have wb:=bD_le _ ((inD d i).el q 0) (Nat.le_refl _)
      have g4:wD ((inD d i).el q 0)<=2097153:=g3
      have e1:iD (inD d i) q=bD ((inD d i).el q 0)+1:=rfl
      have e2:iX (inD d i) q=bX ((inD d i).el q 0):=rfl
      have hw2:IntKind.i64.wrap ((bD ((inD d i).el q 0):Int)+1)=((bD ((inD d i).el q 0)+1:Nat):Int):=by rw [IntWalk.i64_in _ (by omega)];omega
      refine ⟨⟨by omega,hc⟩,hq2,by omega,g2,g3,q+1,⟨hq2,trivial⟩,by omega,by rw [IntWalk.i64_in _ (by omega)];omega,trivial,?_,?_,(by (repeat' (with_reducible apply And.intro))<;>first |exact True.intro |rfl)⟩
      ·rw [mxT_succ,e1,hw2];split<;>omega
      ·rw [mxT_succ,e2];split<;>omega
     ·have hc:=of_decide_eq_false hc
      obtain rfl:q=(inD d i).len:=by have:=hq.1;omega
      exact ⟨i+1,⟨hi2,trivial⟩,by omega,hnx,by rw [mxT_succ,hsD],by rw [mxT_succ,hsX],(by (repeat' (with_reducible apply And.intro))<;>first |exact True.intro |rfl)⟩
  ·have hc:=of_decide_eq_false hc
   obtain rfl:i=d.len:=by have:=hi.1;omega
   exact ⟨rfl,rfl⟩
 ·trivial
theorem bkq_ok:ConOK Try.prog 31 bkqC:=
 con_rec bkqM (fun _ _=>by kernel_rfl) fun m ih=>by
  rw [bkq_under] at ih ⊢
  exact bkq_step m ih
end Go.Proofs.Ytbhbjhejkamlnaa.Sx.Z
