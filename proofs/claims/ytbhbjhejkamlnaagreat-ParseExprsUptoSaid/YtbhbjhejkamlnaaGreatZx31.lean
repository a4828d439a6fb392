import Derived.Test.YtbhbjhejkamlnaaGreatZx30
import Derived.Test.YtbhbjhejkamlnaaGreatZx22
set_option linter.all false
namespace Go.Proofs.YtbhbjhejkamlnaaGreat.Sx.Z
open Go.RowKit
def dXb (k:Int) (q:Nat->Int) (f:Nat->Nat):Nat:=if k=3 then (if biB (q 0)=true then 2 else 1)+f 0 else if biB k=true then max (f 0+(if lfB k (q 0)=true then 1 else 0)) (f 1+(if rgB k (q 1)=true then 1 else 0)) else 0
def dE (d:D) (i:Nat):Nat:=if _h:i<d.len then dXb (d.el i 0).toI (fun j=>((d.el i 3).el j 0).toI) (fun j=>dE (d.el i 3) j) else 0
 termination_by SizeOf.sizeOf d
 decreasing_by exact ap (by assumption)
def dX (k:Int) (d:D):Nat:=dXb k (fun j=>(d.el j 0).toI) (dE d)
theorem uv {d:D} {i:Nat} (h:i<d.len):dE d i=dX (d.el i 0).toI (d.el i 3):=by
 rw[dE,dif_pos h];rfl
theorem uw {d:D} (h:0<d.len):dX 3 d=(if biB (d.el 0 0).toI=true then 2 else 1)+dX (d.el 0 0).toI (d.el 0 3):=by
 unfold dX dXb;rw[if_pos rfl,uv h];rfl
theorem Cm {k:Int} {d:D} (hb:biB k=true) (h:1<d.len):dX k d=max (dX (d.el 0 0).toI (d.el 0 3)+(if lfB k (d.el 0 0).toI=true then 1 else 0)) (dX (d.el 1 0).toI (d.el 1 3)+(if rgB k (d.el 1 0).toI=true then 1 else 0)):=by
 have hk:=ei hb;have e:dX k d=dXb k (fun j=>(d.el j 0).toI) (dE d):=rfl;rw[e];unfold dXb;rw[if_neg (by omega),if_pos hb,uv (by omega),uv h]
theorem Cn {k:Int} {d:D} (h3:k≠3) (hb:biB k=false):dX k d=0:=by
 unfold dX dXb;rw[if_neg h3,if_neg (by rw[hb];decide)]
theorem KT {Q:Int->Int->ByteArray->D->Prop} (h0:∀ k n s d,k≠3->biB k=false->Q k n s d)
 (h3:∀ n s d,d.len=1->Q (d.el 0 0).toI (d.el 0 1).toI (d.el 0 2).toS (d.el 0 3)->Q 3 n s d)
 (h4:∀ k n s d,biB k=true->d.len=2->Q (d.el 0 0).toI (d.el 0 1).toI (d.el 0 2).toS (d.el 0 3)->Q (d.el 1 0).toI (d.el 1 1).toI (d.el 1 2).toS (d.el 1 3)->Q k n s d) :
 ∀ (m:Nat) (k n:Int) (s:ByteArray) (d:D),SizeOf.sizeOf d<=m->vX k n s d=true->Q k n s d:=by
 intro m
 induction m with
 |zero=>
  intro k n s d hm h
  by_cases e3:k=3
  ·subst e3;obtain ⟨l1,_⟩:=iO h;have:=ap (d:=d) (i:=0) (j:=0) (by omega);omega
  ·cases hb:biB k with
   |false=>exact h0 k n s d e3 hb
   |true=>
    obtain ⟨l2,_⟩:=lD hb h;have:=ap (d:=d) (i:=0) (j:=0) (by omega);omega
 |succ m ih=>
  intro k n s d hm h
  by_cases e3:k=3
  ·subst e3;obtain ⟨l1,h1⟩:=iO h;have:=ap (d:=d) (i:=0) (j:=3) (by omega);exact h3 n s d l1 (ih _ _ _ _ (by omega) h1)
  ·cases hb:biB k with
   |false=>exact h0 k n s d e3 hb
   |true=>
    obtain ⟨l2,h1,h2⟩:=lD hb h;have z0:=ap (d:=d) (i:=0) (j:=3) (by omega);have z1:=ap (d:=d) (i:=1) (j:=3) (by omega);exact h4 k n s d hb l2 (ih _ _ _ _ (by omega) h1) (ih _ _ _ _ (by omega) h2)
theorem qr {k n:Int} {s:ByteArray} {d:D} (h:vX k n s d=true):dX k d<=2*wD d:=
 KT (Q:=fun k _ _ d=>dX k d<=2*wD d) (fun k n s d h3 hb=>by rw[Cn h3 hb];exact Nat.zero_le _)
  (fun n s d hl ih=>by
    rw[uw (by omega)];have:=fd (d:=d) (i:=0) 3 (by omega)
    split<;>omega)
  (fun k n s d hb hl i0 i1=>by
    rw[Cm hb (by omega)];have:=fd (d:=d) (i:=0) 3 (by omega);have:=fd (d:=d) (i:=1) 3 (by omega);have e0:(if lfB k (d.el 0 0).toI=true then 1 else 0)<=1:=by split<;>omega
    have e1:(if rgB k (d.el 1 0).toI=true then 1 else 0)<=1:=by split<;>omega
    omega) _ _ _ _ _ (Nat.le_refl _) h
def mxL:List Nat->Nat
 | []=>0
 |x::l=>max x (mxL l)
theorem Co:∀ l m:List Nat,mxL (l++m)=max (mxL l) (mxL m)
 | [],m=>by show mxL m=max 0 (mxL m);omega
 |x::l,m=>by show max x (mxL (l++m))=max (max x (mxL l)) (mxL m);rw[Co l m];omega
theorem Cp:∀ {l:List Nat} {b:Nat},(∀ x∈l,x<=b)->mxL l<=b
 | [],b,_=>Nat.zero_le _
 |x::l,b,h=>by
  show max x (mxL l)<=b;have:=h x (List.mem_cons_self ..);have:=Cp (l:=l) fun y hy=>h y (List.mem_cons_of_mem _ hy)
  omega
def mxT (n:Nat) (f:Nat->Nat):Nat:=mxL ((List.range n).map f)
theorem bV (n:Nat) (f:Nat->Nat):mxT (n+1) f=max (mxT n f) (f n):=by
 unfold mxT;rw[List.range_succ,List.map_append,Co];show max _ (max (f n) 0)=_;omega
theorem ux {n b:Nat} {f:Nat->Nat} (h:∀ i,i<n->f i<=b):mxT n f<=b:=Cp fun x hx=>by
 obtain ⟨i,hi,rfl⟩:=List.mem_map.1 hx;exact h i (List.mem_range.1 hi)
theorem qt {n:Nat} (f:Nat->Nat):mxL ((List.finRange n).map fun i=>f i.1)=mxT n f:=by
 unfold mxT
 congr 1
 apply List.ext_getElem
 ·simp
 ·intro i h1 h2
  simp
def jO (k:Int) (b e a:Nat):Nat:=if k=2 then max (b+1) (e+1) else if k=3 then b+1 else if k=5 then max 1 a else 0
def lF (k:Int) (xe xc b e a:Nat):Nat:=if k=1 ∨ k=4 then xe else if k=2 then max xc (max b e) else if k=3 then max xc b else if k=5 then a else if k=6 then xc else 0
def bD (d:D):Nat:=mxL ((List.finRange d.len).map fun (i:Fin d.len)=>jO (d.el i 0).toI (bD (d.el i 16)) (bD (d.el i 17)) (mxL ((List.finRange (d.el i 18).len).map fun (j:Fin (d.el i 18).len)=>bD ((d.el i 18).el j 2)+1)))
 termination_by SizeOf.sizeOf d
 decreasing_by
  ·exact ap i.isLt
  ·exact ap i.isLt
  ·exact Nat.lt_trans (ap j.isLt) (ap i.isLt)
def bX (d:D):Nat:=mxL ((List.finRange d.len).map fun (i:Fin d.len)=>lF (d.el i 0).toI (dX (d.el i 3).toI (d.el i 6)) (max (dX (d.el i 8).toI (d.el i 11)) (dX (d.el i 12).toI (d.el i 15))) (bX (d.el i 16)) (bX (d.el i 17)) (mxL ((List.finRange (d.el i 18).len).map fun (j:Fin (d.el i 18).len)=>bX ((d.el i 18).el j 2))))
 termination_by SizeOf.sizeOf d
 decreasing_by
  ·exact ap i.isLt
  ·exact ap i.isLt
  ·exact Nat.lt_trans (ap j.isLt) (ap i.isLt)
def aD (am:D) (j:Nat):Nat:=bD (am.el j 2)+1
def aXm (am:D) (j:Nat):Nat:=bX (am.el j 2)
def sD (d:D) (i:Nat):Nat:=jO (d.el i 0).toI (bD (d.el i 16)) (bD (d.el i 17)) (mxT (d.el i 18).len (aD (d.el i 18)))
def cX (d:D) (i:Nat):Nat:=max (dX (d.el i 8).toI (d.el i 11)) (dX (d.el i 12).toI (d.el i 15))
def sX (d:D) (i:Nat):Nat:=lF (d.el i 0).toI (dX (d.el i 3).toI (d.el i 6)) (cX d i) (bX (d.el i 16)) (bX (d.el i 17)) (mxT (d.el i 18).len (aXm (d.el i 18)))
theorem uy (d:D):bD d=mxT d.len (sD d):=by
 rw[bD,<- qt]
 congr 2
 funext i
 unfold sD;rw[<- qt];rfl
theorem KU (d:D):bX d=mxT d.len (sX d):=by
 rw[bX,<- qt]
 congr 2
 funext i
 unfold sX;rw[<- qt];rfl
noncomputable def uz:FSpec:=fun ds _=>match ds with
 | [.i k,.i n,.s s,.d d]=>some {val:=.one (.sc (.int .i64 (.sym ((dX k d:Nat))))),vc:=[vX k n s d=true,sW d]}
 |_=>none
noncomputable def Cq:Con:=con [gX0] uz
noncomputable def uA:List Dat->Nat:=fun ds=>match ds with
 | [.i k,.i n,.s s,.d d]=>SizeOf.sizeOf d
 |_=>0
noncomputable def lG (m:Nat):FSpec:=fun ds _=>match ds with
 | [.i k,.i n,.s s,.d d]=>some {val:=.one (.sc (.int .i64 (.sym ((dX k d:Nat))))),vc:=[SizeOf.sizeOf d<m,vX k n s d=true,sW d]}
 |_=>none
theorem KV (m:Nat):uz.under uA m=lG m:=by
 funext ds fr
 unfold FSpec.under uz uA lG;split
 ·rename_i e h
  split at h
  ·obtain rfl:=Option.some.inj h;rfl
  ·cases h
 ·rename_i h
  split at h
  ·cases h
  ·rfl
theorem KW (m:Nat) (ih:ConOK Tryz.prog 38 (con [gX0] (lG m))):ConOK Tryz.prog 38 (con [gX0] (lG (m+1))):=by
 refine bg tt_ok au Tryz.func38 rfl (fun _ _=>by kernel_rfl) (A:=fun ds=>⟨fun _=>Cons.of [(66,nB),(67,t9),(68,ud),(38,con [gX0] (lG m))],fun _=>none,fun _=>none⟩) (fun _ _=>(af qo (af BV (af BX (af ih aq))))) (by kernel_rfl) ?_
 intro ds fr;unfold lG;split
 ·rename_i k n s d;refine kmp (q:=ac (d.el ((0:Nat)) 3) fun Ea=>ac (dX (d.el ((1:Nat)) (0:Nat)).toI (d.el ((1:Nat)) 3)) fun Eb=>ac (dX (d.el ((0:Nat)) (0:Nat)).toI Ea) fun Ec=>ac (d.el ((1:Nat)) 3) fun Ed=>ac (d.el ((0:Nat)) 2) fun Ee=>ac (d.el ((0:Nat)) (0:Nat)) fun Ef=>ac (d.el ((1:Nat)) (0:Nat)) fun Eg=>ac (d.el ((0:Nat)) 1) fun Eh=>ac (k==(3:Int)&&biB (d.el ((0:Nat)) (0+0:Nat)).toI) fun Ei=>SizeOf.sizeOf d<m+1->vX k n s d=true->sW d->((k==(3:Int))=true/\True->(0:Nat)<d.len)/\(Ei=true->(0:Nat)<d.len/\SizeOf.sizeOf Ea<m/\vX Ef.toI Eh.toI Ee.toS Ea=true/\sW Ea/\IntKind.i64.wrap ((2:Int)+(Ec:Int))=((dX k d):Int))/\(Ei=false->((k==(3:Int))=true->(0:Nat)<d.len/\SizeOf.sizeOf Ea<m/\vX Ef.toI Eh.toI Ee.toS Ea=true/\sW Ea/\IntKind.i64.wrap ((1:Int)+(Ec:Int))=((dX k d):Int))/\((k==(3:Int))=false->(biB k=true->(0:Nat)<d.len/\SizeOf.sizeOf Ea<m/\vX Ef.toI Eh.toI Ee.toS Ea=true/\sW Ea/\(1:Nat)<d.len/\SizeOf.sizeOf Ed<m/\vX Eg.toI (d.el ((1:Nat)) 1).toI (d.el ((1:Nat)) 2).toS Ed=true/\sW Ed/\(0:Nat)<d.len/\(lfB k Ef.toI=true->(1:Nat)<d.len/\(rgB k Eg.toI=true->(if IntKind.i64.wrap ((Eb:Int)+1)>IntKind.i64.wrap ((Ec:Int)+1) then IntKind.i64.wrap ((Eb:Int)+1) else IntKind.i64.wrap ((Ec:Int)+1))=((dX k d):Int))/\(rgB k Eg.toI=false->(if (Eb:Int)>IntKind.i64.wrap ((Ec:Int)+1) then (Eb:Int) else IntKind.i64.wrap ((Ec:Int)+1))=((dX k d):Int)))/\(lfB k Ef.toI=false->(1:Nat)<d.len/\(rgB k Eg.toI=true->(if IntKind.i64.wrap ((Eb:Int)+1)>(Ec:Int) then IntKind.i64.wrap ((Eb:Int)+1) else (Ec:Int))=((dX k d):Int))/\(rgB k Eg.toI=false->(if (Eb:Int)>(Ec:Int) then (Eb:Int) else (Ec:Int))=((dX k d):Int))))/\(biB k=false->(0:Int)=((dX k d):Int))))) (by kernel_rfl) ?_
  dsimp +instances only [ac]
  intro hm hx hd
  (try simp only[Nat.reduceAdd,Nat.zero_add])
  have hw0:wD d<=2200000:=hd;have wr:∀ (a:Int) (n:Nat),0<=a->a<=2->n<=4400000->IntKind.i64.wrap (a+(n:Int))=a+n:=fun a n h0 h2 hn=>IntWalk.i64_in _ (by omega)
  have wr1:∀ (n:Nat),n<=4400000->IntKind.i64.wrap ((n:Int)+1)=(n:Int)+1:=fun n hn=>IntWalk.i64_in _ (by omega)
  refine ⟨fun k3=>?_,fun k3=>?_,fun k3=>⟨fun k4=>?_,fun k4=>⟨fun k5=>?_,fun k5=>?_⟩⟩⟩
  ·obtain rfl:=eq_of_beq k3.1;have:=(iO hx).1;omega
  ·simp only[Bool.and_eq_true] at k3;obtain rfl:=eq_of_beq k3.1;obtain ⟨l1,h1⟩:=iO hx;have h0:0<d.len:=by omega
   have:=ap (j:=3) h0;have w1:=fd 3 h0;have w2:=qr h1;rw[uw h0,if_pos k3.2];exact ⟨h0,by omega,h1,aK hd h0 3,by rw[wr _ _ (by omega) (by omega) (by omega)];omega⟩
  ·obtain rfl:=eq_of_beq k4;obtain ⟨l1,h1⟩:=iO hx;have h0:0<d.len:=by omega
   have:=ap (j:=3) h0;have w1:=fd 3 h0;have w2:=qr h1;have hb:biB (d.el 0 0).toI=false:=by simpa using k3
   rw[uw h0,if_neg (by rw[hb];decide)];exact ⟨h0,by omega,h1,aK hd h0 3,by rw[wr _ _ (by omega) (by omega) (by omega)];omega⟩
  ·obtain ⟨l2,h1,h2⟩:=lD k5 hx;have h0:0<d.len:=by omega
   have h01:1<d.len:=by omega
   have z0:=ap (j:=3) h0;have z1:=ap (j:=3) h01;have w0:=fd 3 h0;have w1:=fd 3 h01;have w2:=qr h1;have w3:=qr h2;rw[Cm k5 h01];generalize dX (d.el 0 0).toI (d.el 0 3)=A at w2 ⊢;generalize dX (d.el 1 0).toI (d.el 1 3)=B at w3 ⊢;rw[wr1 A (by omega),wr1 B (by omega)];refine ⟨h0,by omega,h1,aK hd h0 3,h01,by omega,h2,aK hd h01 3,h0,fun l=>⟨h01,fun r=>?_,fun r=>?_⟩,fun l=>⟨h01,fun r=>?_,fun r=>?_⟩⟩<;>simp only[l,r,if_true,Bool.false_eq_true,if_false]<;>split<;>omega
  ·rw[Cn (ne_of_beq_false k4) k5];rfl
 ·trivial
theorem KX:ConOK Tryz.prog 38 Cq:=
 fY uA (fun _ _=>by kernel_rfl) fun m ih=>by
  rw[KV] at ih ⊢;exact KW m ih
def lXr:AP:=.agg [.c (.int .i64),.c (.int .i64),.c .str,.c (.rows 24)]
def lCr:AP:=.agg [.c (.int .i64),.c (.int .i64),.c (.int .i64),.c .str,.c (.rows 24),.c (.int .i64),.c (.int .i64),.c .str,.c (.rows 24)]
def aO (n:Nat) (f:Nat->List D):D:=.l ((List.range n).map f)
theorem ca (n:Nat) (f:Nat->List D):(aO n f).len=n:=by
 show ((List.range n).map f).length=n;rw[List.length_map,List.length_range]
theorem jP (n:Nat) (f:Nat->List D):(aO (n+1) f).rows=(aO n f).rows++[f n]:=by
 show (List.range (n+1)).map f=(List.range n).map f++[f n];rw[List.range_succ,List.map_append];rfl
theorem uB {n:Nat} (f:Nat->List D):D.l ((List.finRange n).map fun i=>f i.1)=aO n f:=by
 unfold aO
 congr 1
 apply List.ext_getElem
 ·simp
 ·intro i h1 h2
  simp
def cpE (d:D):D:=.l ((List.finRange d.len).map fun (i:Fin d.len)=>[D.i (d.el i 0).toI,D.i (d.el i 1).toI,D.s (d.el i 2).toS,cpE (d.el i 3)])
 termination_by SizeOf.sizeOf d
 decreasing_by exact ap i.isLt
def rX (d:D) (i:Nat):List D:=[D.i (d.el i 0).toI,D.i (d.el i 1).toI,D.s (d.el i 2).toS,cpE (d.el i 3)]
theorem nH (d:D):cpE d=aO d.len (rX d):=by
 rw[cpE,<- uB];rfl
def kS (d:D):Prop:=d.len<=3000000/\∀ i:Fin d.len,kS (d.el i 3)
 termination_by SizeOf.sizeOf d
 decreasing_by exact ap i.isLt
theorem jQ (d:D):kS d↔d.len<=3000000/\∀ i,i<d.len->kS (d.el i 3):=by
 rw[kS];exact ⟨fun h=>⟨h.1,fun i hi=>h.2 ⟨i,hi⟩⟩,fun h=>⟨h.1,fun i=>h.2 i.1 i.2⟩⟩
noncomputable def uC:FSpec:=fun ds _=>match ds with
 | [.i k,.i n,.s s,.d d]=>some {val:=.one (.agg [.c (.int .i64 (.sym (k))),.c (.int .i64 (.sym (n))),.c (.raw (.string (s))),.c (.rows 75 (cpE d))]),vc:=[kS d]}
 |_=>none
noncomputable def uF:Con:=con [lXr] uC
noncomputable def uG:List Dat->Nat:=fun ds=>match ds with
 | [.i _k,.i _n,.s _s,.d d]=>SizeOf.sizeOf d
 |_=>0
noncomputable def lH (m:Nat):FSpec:=fun ds _=>match ds with
 | [.i k,.i n,.s s,.d d]=>some {val:=.one (.agg [.c (.int .i64 (.sym (k))),.c (.int .i64 (.sym (n))),.c (.raw (.string (s))),.c (.rows 75 (cpE d))]),vc:=[SizeOf.sizeOf d<m,kS d]}
 |_=>none
theorem KY (m:Nat):uC.under uG m=lH m:=by
 funext ds fr
 unfold FSpec.under uC uG lH;split
 ·rename_i e h
  split at h
  ·obtain rfl:=Option.some.inj h;rfl
  ·cases h
 ·rename_i h
  split at h
  ·cases h
  ·rfl
theorem KZ (m:Nat) (ih:ConOK Tryz.prog 60 (con [lXr] (lH m))):ConOK Tryz.prog 60 (con [lXr] (lH (m+1))):=by
 refine bg tt_ok au Tryz.func60 rfl (fun _ _=>by kernel_rfl) (A:=fun ds=>⟨fun _=>Cons.of [(60,con [lXr] (lH m))],fun k=>match k,ds with | 3,[.i k,.i n,.s s,.d d]=>some {ι:=Nat,pre:=fun _ i=>i<=d.len,μ:=fun i=>d.len+1-i,st:=fun s i=>aV s [(4,.one (.sc (.int .i64 (.sym ((i:Nat)))))),(3,.one (.sc (.osl 75 (s.nx-1) (.lit 0) (.sym (i)))))] [1,2] [(s.nx-1,.orow 75 (aO i (rX d)))] [1,2]} |_,_=>none,fun _=>none⟩) (fun _ _=>(af ih aq)) (by kernel_rfl) ?_
 intro ds fr;unfold lH;split
 ·rename_i k n s d;refine kmp (q:=ac (fun (i:Nat)=>D.l [[D.i (d.el (i:Int).toNat 0).toI,D.i (d.el (i:Int).toNat 1).toI,D.s (d.el (i:Int).toNat 2).toS,cpE (d.el (i:Int).toNat 3)]]) fun Ea=>ac (fun (i:Nat)=>d.el (i:Int).toNat 3) fun Eb=>SizeOf.sizeOf d<m+1->kS d->(∃ (i:Nat),i.le d.len/\0=(i:Int)/\i=0/\List.map (rX d) (List.range i)=[]/\k=k/\n=n/\Value.string s=Value.string s/\d.rows=d.rows/\(0:Int)=0/\(0:Int)=0/\Value.string ByteArray.empty=Value.string ByteArray.empty)/\∀ (i:Nat),i.le d.len->(decide ((i:Int)<(d.len:Int))=true->(0<=(i:Int)/\(i:Int)<(d.len:Int))/\SizeOf.sizeOf (Eb i)<m/\kS (Eb i)/\i=(aO i (rX d)).len/\(i+((Ea i).sub 0 1).len)*56<=140737488355328/\0+1<=(Ea i).len/\∃ (j:Nat),j.le d.len/\d.len+1-j<d.len+1-i/\IntKind.i64.wrap ((i:Int)+1)=(j:Int)/\i+((Ea i).sub 0 1).len=j/\List.map (rX d) (List.range i)++List.drop 0 (List.take 1 [[D.i (d.el (i:Int).toNat 0).toI,D.i (d.el (i:Int).toNat 1).toI,D.s (d.el (i:Int).toNat 2).toS,cpE (Eb i)]])=List.map (rX d) (List.range j)/\k=k/\n=n/\Value.string s=Value.string s/\d.rows=d.rows/\(0:Int)=0/\(0:Int)=0/\Value.string ByteArray.empty=Value.string ByteArray.empty)/\(decide ((i:Int)<(d.len:Int))=false->0+i<=(aO i (rX d)).len/\k=k/\n=n/\Value.string s=Value.string s/\List.drop 0 (List.take ((0:Nat)+i) (List.map (rX d) (List.range i)))=(cpE d).rows)) (by kernel_rfl) ?_
  dsimp +instances only [ac]
  intro hm hs;rw[jQ] at hs;obtain ⟨h1,h2⟩:=hs;refine ⟨⟨0,Nat.zero_le _,rfl,rfl,rfl,rfl,rfl,rfl,rfl,rfl,rfl,rfl⟩,fun i hi=>⟨fun hl=>?_,fun hl=>?_⟩⟩
  ·have hl:=of_decide_eq_true hl;have hi2:i<d.len:=by omega
   have hw2:IntKind.i64.wrap ((i:Int)+1)=((i+1:Nat):Int):=by rw[IntWalk.i64_in _ (by omega)];omega
   have z:=ap (j:=3) hi2;exact ⟨⟨by omega,by omega⟩,(show SizeOf.sizeOf (d.el i 3)<m by omega),h2 i hi2,(ca _ _).symm,(show (i+1)*56<=140737488355328 by omega),Nat.le_refl _,i+1,hi2,by omega,hw2,rfl,(jP i (rX d)).symm,rfl,rfl,rfl,rfl,rfl,rfl,rfl⟩
  ·have hl:=of_decide_eq_false hl;have hi3:i=d.len:=by have:i<=d.len:=hi;omega
   subst hi3;refine ⟨by rw[ca];omega,rfl,rfl,rfl,?_⟩;rw[nH,Nat.zero_add,List.drop_zero,List.take_of_length_le (by simp)];rfl
 ·trivial
theorem Cr:ConOK Tryz.prog 60 uF:=
 fY uG (fun _ _=>by kernel_rfl) fun m ih=>by
  rw[KY] at ih ⊢;exact KZ m ih
noncomputable def Cs:FSpec:=fun ds _=>match ds with
 | [.i op,.i lk,.i ln,.s ls,.d ld,.i rk,.i rn,.s rs,.d rd]=>some {val:=.one (.agg [.c (.int .i64 (.sym (op))),.c (.int .i64 (.sym (lk))),.c (.int .i64 (.sym (ln))),.c (.raw (.string (ls))),.c (.rows 75 (cpE ld)),.c (.int .i64 (.sym (rk))),.c (.int .i64 (.sym (rn))),.c (.raw (.string (rs))),.c (.rows 75 (cpE rd))]),vc:=[kS ld,kS rd]}
 |_=>none
noncomputable def Ct:Con:=con [lCr] Cs
theorem K0:ConOK Tryz.prog 61 Ct:=by
 refine bg tt_ok au Tryz.func61 rfl (fun _ _=>by kernel_rfl) (A:=fun ds=>⟨fun _=>Cons.of [(60,uF)],fun _=>none,fun _=>none⟩) (fun _ _=>(af Cr aq)) (by kernel_rfl) ?_
 intro ds fr;unfold Cs;split
 ·rename_i op lk ln ls ld rk rn rs rd;refine kmp (q:=kS ld->kS rd->kS ld/\kS rd/\op=op/\lk=lk/\ln=ln/\Value.string ls=Value.string ls/\(cpE ld).rows=(cpE ld).rows/\rk=rk/\rn=rn/\Value.string rs=Value.string rs/\(cpE rd).rows=(cpE rd).rows) (by kernel_rfl) ?_
  intro hl hr;exact ⟨hl,hr,rfl,rfl,rfl,rfl,rfl,rfl,rfl,rfl,rfl⟩
 ·trivial
end Go.Proofs.YtbhbjhejkamlnaaGreat.Sx.Z
