import Derived.Test.YtbhbjhejkamlnaaGreatZx28
set_option linter.all false
namespace Go.Proofs.YtbhbjhejkamlnaaGreat.Sx.Z
open Go.RowKit
def iL (spec:List Dat->Option Eff) (μ:List Dat->Nat) (m:Nat):List Dat->Option Eff:=fun ds=>match spec ds with
 |some e=>some {e with vc:=(μ ds<m)::e.vc}
 |none=>none
theorem BT {P:Program} {f:FuncId} {aps:List AP} {spec:List Dat->Option Eff} (μ:List Dat->Nat) (hen:∀ (args:Array Value) (w:World),(callFunc f args).run P w = .ok (.enter f args) w) (H:∀ m,ConOK P f (bM aps (iL spec μ m))->ConOK P f (bM aps (iL spec μ (m+1)))):ConOK P f (bM aps spec):=by
 have e:∀ m,bM aps (iL spec μ m)=con aps (FSpec.under (fun ds fr=>match spec ds with |some e=>some (e.sh fr) |none=>none) μ m):=fun m=>by
  unfold bM
  congr 1
  funext ds fr
  unfold iL FSpec.under;dsimp only
  cases spec ds<;>rfl
 exact fY μ hen fun m ih=>(congrArg (ConOK P f) (e (m+1))).mp (H m ((congrArg (ConOK P f) (e m)).mpr ih))
def wsR (l:List ByteArray):D:=.l (l.map fun s=>[.s s])
theorem cn (l:List ByteArray):(wsR l).len=l.length:=List.length_map ..
def lfB (k q:Int):Bool:=decide (k>=6)&&(q==4 ||q==5)
def rgB (k q:Int):Bool:=if decide (k>=6)=true then biB q else (q==4 ||q==5)
noncomputable def BU:FSpec:=fun ds _=>match ds with
 | [.i k,.i n,.s s,.d d,.i k2,.i n2,.s s2,.d d2]=>some {val:=.one (.sc (.bool (.sym (lfB k k2)))),vc:=[]}
 |_=>none
noncomputable def t9:Con:=con [gX0,gX0] BU
theorem BV:ConOK Tryz.prog 67 t9:=by
 refine bg tt_ok au Tryz.func67 rfl (fun _ _=>by kernel_rfl) (A:=fun ds=>⟨fun _=>Cons.of [],fun _=>none,fun _=>none⟩) (fun _ _=>aq) (by kernel_rfl) ?_
 intro ds fr;unfold BU;split
 ·rename_i k n s d k2 n2 s2 d2;refine kmp (q:=(decide (k>=(6:Int))&&(k2==(4:Int) ||k2==(5:Int)))=lfB k k2) (by kernel_rfl) ?_
  rfl
 ·trivial
noncomputable def BW:FSpec:=fun ds _=>match ds with
 | [.i k,.i n,.s s,.d d,.i k2,.i n2,.s s2,.d d2]=>some {val:=.one (.sc (.bool (.sym (rgB k k2)))),vc:=[]}
 |_=>none
noncomputable def ud:Con:=con [gX0,gX0] BW
theorem BX:ConOK Tryz.prog 68 ud:=by
 refine bg tt_ok au Tryz.func68 rfl (fun _ _=>by kernel_rfl) (A:=fun ds=>⟨fun _=>Cons.of [(66,nB)],fun _=>none,fun _=>none⟩) (fun _ _=>(af qo aq)) (by kernel_rfl) ?_
 intro ds fr;unfold BW;split
 ·rename_i k n s d k2 n2 s2 d2;refine kmp (q:=(decide (k>=(6:Int))=true->biB k2=rgB k k2)/\(decide (k>=(6:Int))=false->(k2==(4:Int) ||k2==(5:Int))=rgB k k2)) (by kernel_rfl) ?_
  unfold rgB;exact ⟨fun h=>by rw[if_pos h],fun h=>by rw[if_neg (by rw[h];decide)]⟩
 ·trivial
def iM (n i:Int) (s:ByteArray):Prop:=0<=i/\(s.size:Int)+i<=n+1/\((s.size=0/\i=n) ∨ (0<s.size/\(i=0->s.data.toList=Lib.decDigits n.toNat)/\(0<i->Lib.decDigits i.toNat++s.data.toList=Lib.decDigits n.toNat)))
def lC (i:Int) (s:ByteArray):Nat:=i.toNat+(if s.size=0 then 1 else 0)
def iN (i:Int) (s:ByteArray):ByteArray:=(ByteArray.mk #[UInt8.ofNat (48+i.toNat%10)])++s
theorem BY {s:ByteArray}:(s.toList==(ByteArray.mk #[]).toList)=decide (s.size=0):=by
 rw[ByteArray.toList_eq,ByteArray.toList_eq];have e:s.data.toList.length=s.size:=by rw[Array.length_toList];rfl
 cases h:s.data.toList with
 |nil=>rw[h] at e;rw[decide_eq_true (by rw[<- e];rfl)];rfl
 |cons a l=>rw[h] at e;rw[decide_eq_false (by rw[<- e,List.length_cons];omega)];rfl
theorem Kn (i:Int) (s:ByteArray):(iN i s).size=1+s.size:=by unfold iN;rw[ByteArray.size_append];rfl
theorem BZ (i:Int) (s:ByteArray):(iN i s).data.toList=UInt8.ofNat (48+i.toNat%10)::s.data.toList:=by
 unfold iN;rw[ByteArray.data_append,Array.toList_append];rfl
theorem Ko {n i:Int} {s:ByteArray} (h:iM n i s) (hc:0<i ∨ s.size=0):iM n (i/10) (iN i s)/\lC (i/10) (iN i s)<lC i s:=by
 obtain ⟨h0,h1,h2⟩:=h;have hs:=Kn i s;have key:iM n (i/10) (iN i s):=by
  refine ⟨by omega,by rw[hs];omega,.inr ⟨by omega,fun hz=>?_,fun hz=>?_⟩⟩
  ·rw[BZ];have hl:i.toNat<10:=by omega
   rcases h2 with ⟨e1,rfl⟩ |⟨e1,e2,e3⟩
   ·have e:s.data.toList=[]:=List.length_eq_zero_iff.1 (by rw[Array.length_toList];exact e1);rw[e,lp,if_pos hl,Nat.mod_eq_of_lt hl]
   ·have hp:0<i:=by omega
    rw[<- e3 hp,lp,if_pos hl,Nat.mod_eq_of_lt hl];rfl
  ·rw[BZ];have hl:¬ i.toNat<10:=by omega
   have ed:(i/10).toNat=i.toNat/10:=by omega
   rcases h2 with ⟨e1,rfl⟩ |⟨e1,e2,e3⟩
   ·have e:s.data.toList=[]:=List.length_eq_zero_iff.1 (by rw[Array.length_toList];exact e1);rw[e,ed,lp i.toNat,if_neg hl]
   ·have hp:0<i:=by omega
    rw[<- e3 hp,ed,lp i.toNat,if_neg hl,List.append_assoc];rfl
 refine ⟨key,?_⟩;unfold lC;rw[if_neg (by omega)]
 split<;>omega
theorem Kp {n i:Int} {s:ByteArray} (h:iM n i s) (hn:0<=n) (hc:¬ (0<i ∨ s.size=0)):s=itW n:=by
 obtain ⟨h0,h1,h2⟩:=h
 rcases h2 with ⟨e1,_⟩ |⟨e1,e2,_⟩
 ·exact absurd (.inr e1) hc
 ·refine ByteArray.ext (Array.toList_inj.1 ?_);rw[e2 (by omega)];unfold itW Lib.itoa;rw[if_neg (by omega)]
theorem Kq (i:Int) (h:0<=i):IntKind.u8.wrap (IntKind.i64.wrap (48+i.tmod 10))=(48+i.toNat%10:Nat):=by
 have e:i.tmod 10=(i.toNat%10:Nat):=by rw[Int.tmod_eq_emod_of_nonneg h];omega
 rw[e,IntWalk.i64_in _ (by omega),IntWalk.u8_in _ (by omega)];omega
theorem cg (l:List ByteArray):List.drop 0 (List.take l.length (l.map fun s=>[D.s s]))=l.map fun s=>[D.s s]:=by
 rw[List.drop_zero,List.take_of_length_le (by rw[List.length_map];exact Nat.le_refl _)]
theorem cx (l:List ByteArray):(wsR l).sub 0 l.length=wsR l:=by
 show D.l (List.drop 0 (List.take l.length (l.map fun s=>[D.s s])))=_;rw[cg];rfl
theorem iO {n:Int} {s:ByteArray} {d:D} (h:vX 3 n s d=true):d.len=1/\vX (d.el 0 0).toI (d.el 0 1).toI (d.el 0 2).toS (d.el 0 3)=true:=by
 have e:vX 3 n s d=((d.len:Int)==1&&vE d 0):=rfl;rw[e] at h;simp only[Bool.and_eq_true,beq_iff_eq] at h;exact ⟨by omega,by rw[<- jK (by omega)];exact h.2⟩
theorem lD {k n:Int} {s:ByteArray} {d:D} (hb:biB k=true) (h:vX k n s d=true):d.len=2/\vX (d.el 0 0).toI (d.el 0 1).toI (d.el 0 2).toS (d.el 0 3)=true/\vX (d.el 1 0).toI (d.el 1 1).toI (d.el 1 2).toS (d.el 1 3)=true:=by
 rw[BH hb] at h;simp only[Bool.and_eq_true,beq_iff_eq] at h;exact ⟨by omega,by rw[<- jK (by omega)];exact h.1.2,by rw[<- jK (by omega)];exact h.2⟩
theorem Kr {k q:Int} (h:biB k=true):lfB k q=brB k 0 q:=by
 have hk:=ei h;unfold lfB brB suB;rw[if_neg (by omega)]
 by_cases h6:k>=6
 ·rw[decide_eq_true h6,if_neg (by omega),if_pos (by omega)]
  cases hq:(q==4 ||q==5)<;>rfl
 ·rw[decide_eq_false h6,if_pos (by omega)];rfl
theorem Ks {k q:Int} (h:biB k=true):rgB k q=brB k 1 q:=by
 have hk:=ei h
 by_cases h6:k>=6
 ·have e:rgB k q=biB q:=if_pos (decide_eq_true h6);rw[e];unfold brB;rw[if_neg (by omega),if_neg (by omega),if_pos (by omega)];unfold suB biB
  by_cases h4:q=4
  ·subst h4;rfl
  ·by_cases h5:q=5
   ·subst h5;rfl
   ·rw[beq_false_of_ne h4,beq_false_of_ne h5];rfl
 ·have e:rgB k q=(q==4 ||q==5):=if_neg (by rw[decide_eq_false h6];decide);rw[e];unfold brB;rw[if_neg (by omega),if_pos (by omega)];rfl
theorem ue {k n:Int} {s:ByteArray} {d:D} (h:vX k n s d=true) (h1:k≠1) (h2:k≠2) (h3:k≠3):biB k=true:=by
 cases hb:biB k with
 |true=>rfl
 |false=>rw[BI h1 h2 h3 hb] at h;cases h
theorem Kt (b:Bool) (l:List ByteArray):l.length<=(par b l).length:=by
 unfold par;split
 ·rw[List.length_cons,List.length_append];omega
 ·exact Nat.le_refl _
theorem Ku {k:Int} (h:biB k=true):0<=IntKind.i64.wrap (k-4)/\IntKind.i64.wrap (k-4)<5/\((D.l [[D.s ⟨#[43]⟩],[D.s ⟨#[45]⟩],[D.s ⟨#[42]⟩],[D.s ⟨#[47]⟩],[D.s ⟨#[37]⟩]]).el (IntKind.i64.wrap (k-4)).toNat 0).toS=biW k:=by
 have hk:=ei h;rw[IntWalk.i64_in _ (by omega)];have:k=4 ∨ k=5 ∨ k=6 ∨ k=7 ∨ k=8:=by omega
 rcases this with rfl |rfl |rfl |rfl |rfl<;>exact ⟨by decide,by decide,rfl⟩
noncomputable def uf:List Dat->Option Eff:=fun ds=>match ds with
 | [.i k,.i n,.s s,.d d]=>some {val:=.one (.sc (.osl 9 0 (.lit 0) (.sym (xW k n s d).length))),vc:=[vX k n s d=true,sW d,(xW k n s d).length<=3000000000000],nw:=[(0,.orow 9 (wsR (xW k n s d)))]}
 |_=>none
noncomputable def qp:Con:=bM [gX0] uf
noncomputable def ug:List Dat->Nat:=fun ds=>match ds with
 | [.i k,.i n,.s s,.d d]=>SizeOf.sizeOf d
 |_=>0
noncomputable def jL (m:Nat):List Dat->Option Eff:=fun ds=>match ds with
 | [.i k,.i n,.s s,.d d]=>some {val:=.one (.sc (.osl 9 0 (.lit 0) (.sym (xW k n s d).length))),vc:=[SizeOf.sizeOf d<m,vX k n s d=true,sW d,(xW k n s d).length<=3000000000000],nw:=[(0,.orow 9 (wsR (xW k n s d)))]}
 |_=>none
theorem Kv (m:Nat):iL uf ug m=jL m:=by
 funext ds
 unfold iL uf ug jL;split
 ·rename_i e h
  split at h
  ·obtain rfl:=Option.some.inj h;rfl
  ·cases h
 ·rename_i h
  split at h
  ·cases h
  ·rfl
noncomputable def B0 (m:Nat):List Dat->Option Eff:=fun ds=>match ds with
 | [.i k,.i n,.s s,.d d,.b b]=>some {val:=.one (.sc (.osl 9 0 (.lit 0) (.sym (par b (xW k n s d)).length))),vc:=[SizeOf.sizeOf d<m,vX k n s d=true,sW d,(par b (xW k n s d)).length<=3000000000000],nw:=[(0,.orow 9 (wsR (par b (xW k n s d))))]}
 |_=>none
noncomputable def B1 (m:Nat):Con:=bM [gX0,.sc .bool] (B0 m)
theorem Kw {m:Nat} (ih:ConOK Tryz.prog 39 (bM [gX0] (jL m))):ConOK Tryz.prog 69 (B1 m):=by
 refine jq tt_ok au Tryz.func69 rfl (fun _ _=>by kernel_rfl) (A:=fun ds=>⟨fun _=>Cons.of [(39,bM [gX0] (jL m))],fun _=>none,fun _=>none⟩) (fun _ _=>(af ih aq)) (by kernel_rfl) ?_
 intro ds;unfold B0;split
 ·rename_i k n s d b;refine kmp (q:=SizeOf.sizeOf d<m->vX k n s d=true->sW d->(par b (xW k n s d)).length<=3000000000000->SizeOf.sizeOf d<m/\vX k n s d=true/\sW d/\(xW k n s d).length<=3000000000000/\(b=true->(1:Nat)=(D.l [[D.s ⟨#[40]⟩]]).len/\((1:Nat)+((wsR (xW k n s d)).sub ((0:Nat)) ((0:Nat)+(xW k n s d).length)).len)*16<=140737488355328/\(0:Nat)+(xW k n s d).length<=(wsR (xW k n s d)).len/\(1:Nat)+((wsR (xW k n s d)).sub ((0:Nat)) ((0:Nat)+(xW k n s d).length)).len=((D.l [[D.s ⟨#[40]⟩]]).app ((wsR (xW k n s d)).sub ((0:Nat)) ((0:Nat)+(xW k n s d).length))).len/\((1:Nat)+((wsR (xW k n s d)).sub ((0:Nat)) ((0:Nat)+(xW k n s d).length)).len+((D.l [[D.s ⟨#[41]⟩]]).sub 0 1).len)*16<=140737488355328/\(0:Nat)+(1:Nat)<=(D.l [[D.s ⟨#[41]⟩]]).len/\(1:Nat)+((wsR (xW k n s d)).sub ((0:Nat)) ((0:Nat)+(xW k n s d).length)).len+((D.l [[D.s ⟨#[41]⟩]]).sub 0 1).len=(par b (xW k n s d)).length /\ [[D.s ⟨#[40]⟩]]++List.drop ((0:Nat)) (List.take ((0:Nat)+(xW k n s d).length) (List.map (fun (s:ByteArray)=>[D.s s]) (xW k n s d)))++List.drop (0:Nat) (List.take 1 [[D.s ⟨#[41]⟩]])=List.map (fun (s:ByteArray)=>[D.s s]) (par b (xW k n s d)))/\(b=false->(xW k n s d).length=(par b (xW k n s d)).length/\List.map (fun (s:ByteArray)=>[D.s s]) (xW k n s d)=List.map (fun (s:ByteArray)=>[D.s s]) (par b (xW k n s d)))) (by kernel_rfl) ?_
  intro hm hx hd hl
  (try simp only[Nat.zero_add,Nat.reduceAdd])
  refine ⟨hm,hx,hd,Nat.le_trans (Kt b _) hl,fun hb=>?_,fun hb=>?_⟩
  ·subst hb;have e:par true (xW k n s d)=⟨#[40]⟩::(xW k n s d++[⟨#[41]⟩]):=rfl;rw[e] at hl ⊢;generalize xW k n s d=L at hl ⊢;rw[cx,cg,cn];rw[List.length_cons,List.length_append] at hl ⊢;have hl:L.length+1+1<=3000000000000:=hl;have e1:((D.l [[D.s ⟨#[41]⟩]]).sub 0 1).len=1:=rfl;have e2:((D.l [[D.s ⟨#[40]⟩]]).app (wsR L)).len=1+L.length:=by
    show ([[D.s ⟨#[40]⟩]]++L.map _).length=_;rw[List.length_append,List.length_map];rfl
   rw[e1,e2];refine ⟨rfl,by omega,Nat.le_refl _,rfl,by omega,Nat.le_refl _,?_,?_⟩
   ·show 1+L.length+1=L.length+1+1;omega
   ·rw[List.map_cons,List.map_append];rfl
  ·subst hb;exact ⟨rfl,rfl⟩
 ·trivial
theorem Kx (m:Nat) (ih:ConOK Tryz.prog 39 (bM [gX0] (jL m))):ConOK Tryz.prog 39 (bM [gX0] (jL (m+1))):=by
 refine jq tt_ok au Tryz.func39 rfl (fun _ _=>by kernel_rfl) (A:=fun ds=>⟨fun _=>Cons.of [(66,nB),(67,t9),(68,ud),(69,(B1 m))],fun k=>match k,ds with | 5,[.i k,.i n,.s s,.d d]=>some {ι:=Int × ByteArray,pre:=fun _ q=>iM n q.1 q.2/\True,μ:=fun q=>lC q.1 q.2,st:=fun s q=>aV s [(4,.one (.sc (.int .i64 (.sym q.1)))),(3,.one (.sc (.raw (.string q.2))))] [] [] []} |_,_=>none,fun _=>none⟩) (fun _ _=>(af qo (af BV (af BX (af (Kw ih) aq))))) (by kernel_rfl) ?_
 intro ds;unfold jL;split
 ·rename_i k n s d
  refine kmp (q:=ac (xW (d.el ((0:Nat)) (0:Nat)).toI (d.el ((0:Nat)) 1).toI (d.el ((0:Nat)) 2).toS (d.el ((0:Nat)) 3)) fun Ea=>ac (par (rgB k (d.el ((1:Nat)) (0:Nat)).toI) (xW (d.el ((1:Nat)) (0:Nat)).toI (d.el ((1:Nat)) 1).toI (d.el ((1:Nat)) 2).toS (d.el ((1:Nat)) 3))) fun Eb=>ac ((D.l [[D.s ⟨#[43]⟩],[D.s ⟨#[45]⟩],[D.s ⟨#[42]⟩],[D.s ⟨#[47]⟩],[D.s ⟨#[37]⟩]]).el (IntKind.i64.wrap (k-(4:Int))).toNat (0:Nat)) fun Ec=>ac (par (biB (d.el ((0:Nat)) (0+0:Nat)).toI) Ea) fun Ed=>ac (par (lfB k (d.el ((0:Nat)) (0:Nat)).toI) Ea) fun Ee=>ac (d.el ((0:Nat)) 3) fun Ef=>ac (fun (i:Int × ByteArray)=>D.l [[D.i (IntKind.u8.wrap (IntKind.i64.wrap ((48:Int)+i.fst.tmod (10:Int))))]]) fun Eg=>ac ((D.l [[D.s Ec.toS]]).sub 0 1) fun Eh=>ac (d.el ((1:Nat)) 3) fun Ei=>ac (d.el ((0:Nat)) 2) fun Ej=>ac ((wsR Ed).sub 0 ((0:Nat)+Ed.length)) fun Ek=>ac ((wsR Eb).sub 0 ((0:Nat)+Eb.length)) fun El=>SizeOf.sizeOf d<m+1->vX k n s d=true->sW d->(xW k n s d).length<=3000000000000->((k==(1:Int))=true->(∃ (i:Int × ByteArray),(iM n i.fst i.snd/\True)/\n=i.fst/\Value.string ⟨#[]⟩=Value.string i.snd)/\∀ (i:Int × ByteArray),iM n i.fst i.snd/\True->((decide (i.fst>(0:Int)) ||i.snd.toList==(ByteArray.mk #[]).toList)=true->(0:Nat)<(1:Nat)/\(0:Nat)+(1:Nat)<=(Eg i).len/\(∀ (i_1:Nat),i_1<(1:Nat)->(0:Int)<=((Eg i).el ((0:Nat)+i_1) (0:Nat)).toI/\((Eg i).el ((0:Nat)+i_1) (0:Nat)).toI<256)/\(((ByteArray.mk ((List.map (fun (i_1:Nat)=>UInt8.ofNat ((Eg i).el ((0:Nat)+i_1) (0:Nat)).toI.toNat) (List.range (1:Nat))).toArray)).size+i.snd.size):Int)<=IntKind.i64.max/\∃ (j:Int × ByteArray),(iM n j.fst j.snd/\True)/\lC j.fst j.snd<lC i.fst i.snd/\IntKind.i64.wrap (i.fst.tdiv (10:Int))=j.fst/\Value.string ((ByteArray.mk ((List.map (fun (i_1:Nat)=>UInt8.ofNat ((Eg i).el ((0:Nat)+i_1) (0:Nat)).toI.toNat) (List.range (1:Nat))).toArray))++i.snd)=Value.string j.snd)/\((decide (i.fst>(0:Int)) ||i.snd.toList==(ByteArray.mk #[]).toList)=false->(1:Nat)=(xW k n s d).length /\ [[D.s i.snd]]=List.map (fun (s:ByteArray)=>[D.s s]) (xW k n s d)))/\((k==(1:Int))=false->((k==(2:Int))=true->(1:Nat)=(xW k n s d).length /\ [[D.s s]]=List.map (fun (s:ByteArray)=>[D.s s]) (xW k n s d))/\((k==(2:Int))=false->((k==(3:Int))=true->(0:Nat)<d.len/\(0:Nat)<d.len/\SizeOf.sizeOf Ef<m/\vX (d.el ((0:Nat)) (0:Nat)).toI (d.el ((0:Nat)) 1).toI Ej.toS Ef=true/\sW Ef/\Ed.length<=3000000000000/\(1:Nat)=(D.l [[D.s ⟨#[45]⟩]]).len/\((1:Nat)+Ek.len)*16<=140737488355328/\(0:Nat)+Ed.length<=(wsR Ed).len/\(1:Nat)+Ek.len=(xW k n s d).length /\ [[D.s ⟨#[45]⟩]]++List.drop (0:Nat) (List.take ((0:Nat)+Ed.length) (List.map (fun (s:ByteArray)=>[D.s s]) Ed))=List.map (fun (s:ByteArray)=>[D.s s]) (xW k n s d))/\((k==(3:Int))=false->(0:Nat)<d.len/\(0:Nat)<d.len/\SizeOf.sizeOf Ef<m/\vX (d.el ((0:Nat)) (0:Nat)).toI (d.el ((0:Nat)) 1).toI Ej.toS Ef=true/\sW Ef/\Ee.length<=3000000000000/\((0:Int)<=IntKind.i64.wrap (k-(4:Int))/\IntKind.i64.wrap (k-(4:Int))<((5:Nat):Int))/\(IntKind.i64.wrap (k-(4:Int))).toNat<(D.l [[D.s ⟨#[43]⟩],[D.s ⟨#[45]⟩],[D.s ⟨#[42]⟩],[D.s ⟨#[47]⟩],[D.s ⟨#[37]⟩]]).len/\Ee.length=(wsR Ee).len/\(Ee.length+Eh.len)*16<=140737488355328/\(0:Nat)+(1:Nat)<=(D.l [[D.s Ec.toS]]).len/\(1:Nat)<d.len/\(1:Nat)<d.len/\SizeOf.sizeOf Ei<m/\vX (d.el ((1:Nat)) (0:Nat)).toI (d.el ((1:Nat)) 1).toI (d.el ((1:Nat)) 2).toS Ei=true/\sW Ei/\Eb.length<=3000000000000/\Ee.length+Eh.len=((wsR Ee).app Eh).len/\(Ee.length+Eh.len+El.len)*16<=140737488355328/\(0:Nat)+Eb.length<=(wsR Eb).len/\Ee.length+Eh.len+El.len=(xW k n s d).length/\List.map (fun (s:ByteArray)=>[D.s s]) Ee++List.drop (0:Nat) (List.take 1 [[D.s Ec.toS]])++List.drop (0:Nat) (List.take ((0:Nat)+Eb.length) (List.map (fun (s:ByteArray)=>[D.s s]) Eb))=List.map (fun (s:ByteArray)=>[D.s s]) (xW k n s d))))) (by kernel_rfl) ?_
  dsimp +instances only [ac]
  intro hm hx hd hl
  (try simp only[Nat.reduceAdd,Nat.zero_add])
  refine ⟨fun k1=>?_,fun k1=>⟨fun k2=>?_,fun k2=>⟨fun k3=>?_,fun k3=>?_⟩⟩⟩
  ·obtain rfl:=eq_of_beq k1;have hn:0<=n/\n<=2147483647:=by
    have e:vX 1 n s d=(nuB n&&(d.len:Int)==0):=rfl;rw[e] at hx;simp only[Bool.and_eq_true] at hx;have:=hx.1;unfold nuB at this
    simpa using this
   refine ⟨⟨(n,ByteArray.mk #[]),⟨⟨hn.1,by show (0:Int)+n<=n+1;omega,.inl ⟨rfl,rfl⟩⟩,trivial⟩,rfl,rfl⟩,fun q hq=>⟨fun hc=>?_,fun hc=>?_⟩⟩
   ·obtain ⟨i,t⟩:=q;obtain ⟨hq,-⟩:=hq;dsimp only at hq hc ⊢;have h0:=hq.1;have h1:=hq.2.1;have hb:=Kq i h0;have hc:0<i ∨ t.size=0:=by
     rw[BY] at hc
     simpa using hc
    obtain ⟨g1,g2⟩:=Ko hq hc;rw[hb];refine ⟨by decide,Nat.le_refl _,fun j hj=>?_,?_,(i/10,iN i t),⟨g1,trivial⟩,g2,?_,rfl⟩
    ·obtain rfl:j=0:=by omega
     show (0:Int)<=((48+i.toNat%10:Nat):Int)/\((48+i.toNat%10:Nat):Int)<256;omega
    ·show ((1+t.size:Nat):Int)<=9223372036854775807;omega
    ·rw[Int.tdiv_eq_ediv_of_nonneg h0,IntWalk.i64_in _ (by omega)]
   ·obtain ⟨i,t⟩:=q;dsimp only at hq hc ⊢;have:=Kp hq.1 hn.1 (by rw[BY] at hc;simpa using hc);rw[this];exact ⟨rfl,rfl⟩
  ·obtain rfl:=eq_of_beq k2;exact ⟨rfl,rfl⟩
  ·obtain rfl:=eq_of_beq k3;obtain ⟨hl1,hk⟩:=iO hx;have h0:0<d.len:=by omega
   have z:=ap (j:=3) h0;rw[lq n s h0] at hl ⊢;have ee:brB 3 0 (d.el 0 0).toI=biB (d.el 0 0).toI:=rfl;generalize par (biB (d.el 0 0).toI) (xW (d.el 0 0).toI (d.el 0 1).toI (d.el 0 2).toS (d.el 0 3))=L at hl ⊢;rw[List.length_cons] at hl ⊢;rw[cx,cg,cn];exact ⟨h0,h0,by omega,hk,aK hd h0 3,by omega,rfl,by omega,Nat.le_refl _,by omega,rfl⟩
  ·have hb:=ue hx (ne_of_beq_false k1) (ne_of_beq_false k2) (ne_of_beq_false k3);obtain ⟨hl2,ha,hb2⟩:=lD hb hx;have h0:0<d.len:=by omega
   have h1:1<d.len:=by omega
   have z0:=ap (j:=3) h0;have z1:=ap (j:=3) h1;obtain ⟨t1,t2,t3⟩:=Ku hb;rw[iH n s hb h1] at hl ⊢;rw[Kr hb,Ks hb,t3];generalize par (brB k 0 (d.el 0 0).toI) (xW (d.el 0 0).toI (d.el 0 1).toI (d.el 0 2).toS (d.el 0 3))=L at hl ⊢;generalize par (brB k 1 (d.el 1 0).toI) (xW (d.el 1 0).toI (d.el 1 1).toI (d.el 1 2).toS (d.el 1 3))=M at hl ⊢;rw[List.length_append,List.length_cons] at hl ⊢;rw[cx,cg,cn,cn];have e1:((D.l [[D.s (biW k)]]).sub 0 1).len=1:=rfl;have e2:((wsR L).app ((D.l [[D.s (biW k)]]).sub 0 1)).len=L.length+1:=by
    show (L.map _++[[D.s (biW k)]]).length=_;rw[List.length_append,List.length_map];rfl
   rw[e1,e2];refine ⟨h0,h0,by omega,ha,aK hd h0 3,by omega,⟨t1,t2⟩,?_,rfl,by omega,Nat.le_refl _,h1,h1,by omega,hb2,aK hd h1 3,by omega,rfl,by omega,Nat.le_refl _,by omega,?_⟩
   ·show (IntKind.i64.wrap (k-4)).toNat<5;omega
   ·rw[List.map_append,List.map_cons,List.append_assoc];rfl
 ·trivial
theorem uh:ConOK Tryz.prog 39 qp:=
 BT ug (fun _ _=>by kernel_rfl) fun m ih=>by
  rw[Kv] at ih ⊢;exact Kx m ih
end Go.Proofs.YtbhbjhejkamlnaaGreat.Sx.Z
