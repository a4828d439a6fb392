import Derived.Test.YtplejbgafjpomaaGreatDoorZa18
set_option linter.unusedVariables false
set_option linter.unusedSimpArgs false
namespace Go.Proofs.YtplejbgafjpomaaGreatDoor.Sx.Z
open Go.RowKit
def chW (k:Int):ByteArray:=if k=0 then ⟨#[98,108,111,99,107]⟩ else if k=1 then ⟨#[100,114,111,112]⟩ else ⟨#[108,111,115,115,121]⟩
def biW (k:Int):ByteArray:=if k=4 then ⟨#[43]⟩ else if k=5 then ⟨#[45]⟩ else if k=6 then ⟨#[42]⟩ else if k=7 then ⟨#[47]⟩ else ⟨#[37]⟩
def cmW (k:Int):ByteArray:=if k=1 then ⟨#[61,61]⟩ else if k=2 then ⟨#[33,61]⟩ else if k=3 then ⟨#[60]⟩ else if k=4 then ⟨#[60,61]⟩ else if k=5 then ⟨#[62]⟩ else ⟨#[62,61]⟩
def par (b:Bool) (l:List ByteArray):List ByteArray:=if b=true then ⟨#[40]⟩::(l++[⟨#[41]⟩]) else l
def xWb (k n:Int) (s:ByteArray) (q:Nat->Int) (f:Nat->List ByteArray):List ByteArray:=
 if k=1 then [itW n] else if k=2 then [s] else if k=3 then ⟨#[45]⟩::par (brB 3 0 (q 0)) (f 0) else if biB k=true then par (brB k 0 (q 0)) (f 0)++(biW k::par (brB k 1 (q 1)) (f 1)) else []
def kW (d:D) (i:Nat):List ByteArray:=if h:i<d.len then xWb (d.el i 0).toI (d.el i 1).toI (d.el i 2).toS (fun j=>((d.el i 3).el j 0).toI) (fun j=>kW (d.el i 3) j) else []
 termination_by SizeOf.sizeOf d
 decreasing_by exact lel_lt h
def xW (k n:Int) (s:ByteArray) (d:D):List ByteArray:=xWb k n s (fun j=>(d.el j 0).toI) (kW d)
theorem kW_eq {d:D} {i:Nat} (h:i<d.len):kW d i=xW (d.el i 0).toI (d.el i 1).toI (d.el i 2).toS (d.el i 3):=by
 rw [kW,dif_pos h];rfl
def xFb (k n:Int) (s:ByteArray) (len:Nat) (f:Nat->Prop):Prop:=(k=1->nI n)/\(k=2->s.size<=1000000000)/\(k=3->len=1/\f 0)/\(biB k=true->len=2/\f 0/\f 1)
def kF (d:D) (i:Nat):Prop:=if h:i<d.len then xFb (d.el i 0).toI (d.el i 1).toI (d.el i 2).toS (d.el i 3).len (fun j=>kF (d.el i 3) j) else True
 termination_by SizeOf.sizeOf d
 decreasing_by exact lel_lt h
def xF (k n:Int) (s:ByteArray) (d:D):Prop:=xFb k n s d.len (kF d)
theorem kF_eq {d:D} {i:Nat} (h:i<d.len):kF d i=xF (d.el i 0).toI (d.el i 1).toI (d.el i 2).toS (d.el i 3):=by
 rw [kF,dif_pos h];rfl
def wsR (l:List ByteArray):D:=.l (l.map sR)
theorem wsR_len (l:List ByteArray):(wsR l).len=l.length:=List.length_map ..
theorem wsR_el {l:List ByteArray} {j:Nat} (h:j<l.length):((wsR l).el j 0).toS=l[j]:=by
 show ((((l.map sR).getD j []).getD 0 (.i 0))).toS=_;rw [List.getD_eq_getElem?_getD (l:=l.map sR),List.getElem?_map,List.getElem?_eq_getElem h];rfl
theorem put_eq (w:D) (l:List ByteArray):putD w (wsR l)=cat w l:=by
 unfold putD
 congr 1
 rw [wsR_len];unfold wsL
 apply List.ext_getElem
 ·rw [List.length_map,List.length_range]
 ·intro i h1 h2;rw [List.getElem_map,List.getElem_range,wsR_el h2]
theorem wsR_ok {l:List ByteArray} (h:∀ a∈l,a.size<=281474976710656):∀ j,j<(wsR l).len->((wsR l).el j 0).toS.size<=281474976710656:=fun j hj=>by
 rw [wsR_len] at hj;rw [wsR_el hj];exact h _ (List.getElem_mem hj)
theorem ok1 {a:ByteArray} (h:a.size<=281474976710656):∀ j,j<(D.l [[D.s a]]).len->((D.l [[D.s a]]).el j 0).toS.size<=281474976710656:=wsR_ok (l:=[a]) (by simpa using h)
theorem put1s (w:D) (a:ByteArray):putD w ((D.l [[D.s a]]).sub 0 (0+1))=cat w [a]:=put_eq w [a]
theorem eqD {a b:D} (h:a=b):a.len=b.len/\a.rows=b.rows:=by rw [h];exact ⟨rfl,rfl⟩
theorem cat_nil {w:D} (h:w.len<=2001):w.len=(cat w []).len/\w.rows=(cat w []).rows:=by
 constructor
 ·rw [cat_len];show w.len=min 2001 (w.len+0);omega
 ·show w.rows=List.take 2001 (w.rows++[]);rw [List.append_nil,List.take_of_length_le (show w.len<=2001 from h)]
theorem itW_size {n:Int} (h:nI n):(itW n).size<=21:=Lib.itoa_length_le n h.1 h.2
theorem biW_size (k:Int):(biW k).size<=2:=by
 unfold biW
 (repeat' split)<;>decide
theorem cmW_size (k:Int):(cmW k).size<=2:=by
 unfold cmW
 (repeat' split)<;>decide
theorem chW_size (k:Int):(chW k).size<=5:=by
 unfold chW
 (repeat' split)<;>decide
noncomputable def chwS:FSpec:=fun ds _=>match ds with
 | [.i k]=>some {val:=.one (.sc (.raw (.string (chW k)))),vc:=[]}
 |_=>none
noncomputable def chwC:Con:=con [lI] chwS
theorem chw_ok:ConOK Tryz.prog 136 chwC:=by
 refine fn_ob tt_ok mixed Tryz.func136 rfl (fun _ _=>by kernel_rfl) (A:=fun ds=>⟨fun _=>Cons.of [],fun _=>none,fun _=>none⟩) (fun _ _=>cons_nil) (by kernel_rfl) ?_
 intro ds fr;unfold chwS;split
 ·rename_i k;refine kmp (q:=((k==(0:Int))=true->Value.string {data:=#[(98:UInt8),(108:UInt8),(111:UInt8),(99:UInt8),(107:UInt8)]}=Value.string (chW k))/\((k==(0:Int))=false->((k==(1:Int))=true->Value.string {data:=#[(100:UInt8),(114:UInt8),(111:UInt8),(112:UInt8)]}=Value.string (chW k))/\((k==(1:Int))=false->Value.string {data:=#[(108:UInt8),(111:UInt8),(115:UInt8),(115:UInt8),(121:UInt8)]}=Value.string (chW k)))) (by kernel_rfl) ?_
  refine ⟨fun h=>?_,fun n1=>⟨fun h=>?_,fun n2=>?_⟩⟩
  iterate 2 (obtain rfl:=eq_of_beq h;rfl)
  unfold chW;rw [if_neg (ne_of_beq_false n1),if_neg (ne_of_beq_false n2)]
 ·trivial
noncomputable def biwS:FSpec:=fun ds _=>match ds with
 | [.i k]=>some {val:=.one (.sc (.raw (.string (biW k)))),vc:=[]}
 |_=>none
noncomputable def biwC:Con:=con [lI] biwS
theorem biw_ok:ConOK Tryz.prog 192 biwC:=by
 refine fn_ob tt_ok mixed Tryz.func192 rfl (fun _ _=>by kernel_rfl) (A:=fun ds=>⟨fun _=>Cons.of [],fun _=>none,fun _=>none⟩) (fun _ _=>cons_nil) (by kernel_rfl) ?_
 intro ds fr;unfold biwS;split
 ·rename_i k;refine kmp (q:=((k==(4:Int))=true->Value.string {data:=#[(43:UInt8)]}=Value.string (biW k))/\((k==(4:Int))=false->((k==(5:Int))=true->Value.string {data:=#[(45:UInt8)]}=Value.string (biW k))/\((k==(5:Int))=false->((k==(6:Int))=true->Value.string {data:=#[(42:UInt8)]}=Value.string (biW k))/\((k==(6:Int))=false->((k==(7:Int))=true->Value.string {data:=#[(47:UInt8)]}=Value.string (biW k))/\((k==(7:Int))=false->Value.string {data:=#[(37:UInt8)]}=Value.string (biW k)))))) (by kernel_rfl) ?_
  refine ⟨fun h=>?_,fun n1=>⟨fun h=>?_,fun n2=>⟨fun h=>?_,fun n3=>⟨fun h=>?_,fun n4=>?_⟩⟩⟩⟩
  iterate 4 (obtain rfl:=eq_of_beq h;rfl)
  unfold biW;rw [if_neg (ne_of_beq_false n1),if_neg (ne_of_beq_false n2),if_neg (ne_of_beq_false n3),if_neg (ne_of_beq_false n4)]
 ·trivial
noncomputable def cmwS:FSpec:=fun ds _=>match ds with
 | [.i k]=>some {val:=.one (.sc (.raw (.string (cmW k)))),vc:=[]}
 |_=>none
noncomputable def cmwC:Con:=con [lI] cmwS
theorem cmw_ok:ConOK Tryz.prog 193 cmwC:=by
 refine fn_ob tt_ok mixed Tryz.func193 rfl (fun _ _=>by kernel_rfl) (A:=fun ds=>⟨fun _=>Cons.of [],fun _=>none,fun _=>none⟩) (fun _ _=>cons_nil) (by kernel_rfl) ?_
 intro ds fr;unfold cmwS;split
 ·rename_i k;refine kmp (q:=((k==(1:Int))=true->Value.string {data:=#[(61:UInt8),(61:UInt8)]}=Value.string (cmW k))/\((k==(1:Int))=false->((k==(2:Int))=true->Value.string {data:=#[(33:UInt8),(61:UInt8)]}=Value.string (cmW k))/\((k==(2:Int))=false->((k==(3:Int))=true->Value.string {data:=#[(60:UInt8)]}=Value.string (cmW k))/\((k==(3:Int))=false->((k==(4:Int))=true->Value.string {data:=#[(60:UInt8),(61:UInt8)]}=Value.string (cmW k))/\((k==(4:Int))=false->((k==(5:Int))=true->Value.string {data:=#[(62:UInt8)]}=Value.string (cmW k))/\((k==(5:Int))=false->Value.string {data:=#[(62:UInt8),(61:UInt8)]}=Value.string (cmW k))))))) (by kernel_rfl) ?_
  refine ⟨fun h=>?_,fun n1=>⟨fun h=>?_,fun n2=>⟨fun h=>?_,fun n3=>⟨fun h=>?_,fun n4=>⟨fun h=>?_,fun n5=>?_⟩⟩⟩⟩⟩
  iterate 5 (obtain rfl:=eq_of_beq h;rfl)
  unfold cmW;rw [if_neg (ne_of_beq_false n1),if_neg (ne_of_beq_false n2),if_neg (ne_of_beq_false n3),if_neg (ne_of_beq_false n4),if_neg (ne_of_beq_false n5)]
 ·trivial
noncomputable def xwrS:List Dat->Option (Eff × List Seg):=fun ds=>match ds with
 | [.d w,.i k,.i n,.s s,.d d]=>some ({val:=.tup [],vc:=[xF k n s d,w.len<=2001],nw:=[(0,.orow 9 (cat w (xW k n s d)))]},[.c (.osl 9 0 (.lit 0) (.sym (cat w (xW k n s d)).len))])
 |_=>none
noncomputable def xwrC:Con:=conM 174 [.own 9] [lX] xwrS
noncomputable def xwrM:List Dat->Nat:=fun ds=>match ds with
 | [.d w,.i k,.i n,.s s,.d d]=>SizeOf.sizeOf d
 |_=>0
noncomputable def xwrSu (m:Nat):List Dat->Option (Eff × List Seg):=fun ds=>match ds with
 | [.d w,.i k,.i n,.s s,.d d]=>some ({val:=.tup [],vc:=[SizeOf.sizeOf d<m,xF k n s d,w.len<=2001],nw:=[(0,.orow 9 (cat w (xW k n s d)))]},[.c (.osl 9 0 (.lit 0) (.sym (cat w (xW k n s d)).len))])
 |_=>none
theorem xwr_under (m:Nat):underM xwrS xwrM m=xwrSu m:=by
 funext ds
 unfold underM xwrS xwrM xwrSu;split
 ·rename_i e sg h
  split at h
  ·obtain ⟨rfl,rfl⟩:=Prod.mk.inj (Option.some.inj h);rfl
  ·cases h
 ·rename_i h
  split at h
  ·cases h
  ·rfl
noncomputable def kwrS (m:Nat):List Dat->Option (Eff × List Seg):=fun ds=>match ds with
 | [.d w,.i k,.i n,.s s,.d d,.i i]=>some ({val:=.tup [],vc:=[SizeOf.sizeOf d<m+1,0<=i/\i<d.len,kF d i.toNat,w.len<=2001],nw:=[(0,.orow 9 (cat w (par (brB k i (d.el i.toNat 0).toI) (kW d i.toNat))))]},[.c (.osl 9 0 (.lit 0) (.sym (cat w (par (brB k i (d.el i.toNat 0).toI) (kW d i.toNat))).len))])
 |_=>none
noncomputable def kwrC (m:Nat):Con:=conM 174 [.own 9] [lX,lI] (kwrS m)
theorem kwr_ok {m:Nat} (ih:ConOK Tryz.prog 176 (conM 174 [.own 9] [lX] (xwrSu m))):ConOK Tryz.prog 191 (kwrC m):=by
 refine fn_obM tt_ok mixed Tryz.func191 rfl (fun _ _=>by kernel_rfl) (A:=fun ds=>⟨fun _=>Cons.of [(135,putC),(186,brrC),(176,conM 174 [.own 9] [lX] (xwrSu m))],fun _=>none,fun _=>none⟩) (fun _ _=>(cons_cons put_ok (cons_cons brr_ok (cons_cons ih cons_nil)))) (by kernel_rfl) ?_
 intro ds;unfold kwrS;split
 ·rename_i w k n s d i;refine kmp (q:=withv (xW (d.el i.toNat 0).toI (d.el i.toNat 1).toI (d.el i.toNat 2).toS (d.el i.toNat 3)) fun E45=>withv ((D.l [[D.s {data:=#[(40:UInt8)]}]]).sub (0:Nat) 1) fun E46=>withv ((D.l [[D.s {data:=#[(41:UInt8)]}]]).sub (0:Nat) 1) fun E47=>withv (d.el i.toNat 3) fun E48=>withv (par (brB k i (d.el i.toNat 0).toI) (kW d i.toNat)) fun E49=>SizeOf.sizeOf d<m+(1:Nat)->(0:Int)<=i/\i<(d.len:Int)->kF d i.toNat->w.len<=2001->((0:Int)<=i/\i<(d.len:Int))/\((!brB k i (d.el i.toNat 0).toI)=true->((0:Int)<=i/\i<(d.len:Int))/\(0:Nat)=(0:Nat)/\w.len=w.len/\SizeOf.sizeOf E48<m/\xF (d.el i.toNat 0).toI (d.el i.toNat 1).toI (d.el i.toNat 2).toS E48/\w.len<=2001/\(cat w E45).len=(cat w E49).len/\List.take (2001:Nat) (w.rows++List.map sR E45)=List.take (2001:Nat) (w.rows++List.map sR E49))/\((!brB k i (d.el i.toNat 0).toI)=false->(0:Nat)=(0:Nat)/\w.len=w.len/\(0:Nat)+(1:Nat)<=(D.l [[D.s {data:=#[(40:UInt8)]}]]).len/\w.len<=2001/\E46.len<=1000/\(∀ (j:Nat),j<E46.len->(E46.el j 0).toS.size<=281474976710656)/\((0:Int)<=i/\i<(d.len:Int))/\(0:Nat)=(0:Nat)/\(putD w E46).len=(putD w E46).len/\SizeOf.sizeOf E48<m/\xF (d.el i.toNat 0).toI (d.el i.toNat 1).toI (d.el i.toNat 2).toS E48/\(putD w E46).len<=2001/\(0:Nat)=(0:Nat)/\(cat (putD w E46) E45).len=(cat (putD w E46) E45).len/\(0:Nat)+(1:Nat)<=(D.l [[D.s {data:=#[(41:UInt8)]}]]).len/\(cat (putD w E46) E45).len<=2001/\E47.len<=1000/\(∀ (j:Nat),j<E47.len->(E47.el j 0).toS.size<=281474976710656)/\(putD (cat (putD w E46) E45) E47).len=(cat w E49).len/\List.take (2001:Nat) (List.take (2001:Nat) (List.take (2001:Nat) (w.rows++List.map sR (wsL E46 E46.len))++List.map sR E45)++List.map sR (wsL E47 E47.len))=List.take (2001:Nat) (w.rows++List.map sR E49))) (by kernel_rfl) ?_
  dsimp +instances only [withv]
  intro hm hi hk hw;have o1:(1:Nat)<=1000:=by decide
  have hl:i.toNat<d.len:=by omega
  have z:SizeOf.sizeOf (d.el i.toNat (0+1+1+1))<m:=by have:=lel_lt (j:=3) hl;show SizeOf.sizeOf (d.el i.toNat 3)<m;omega
  have hk2:=hk;rw [kF_eq hl] at hk2;have ek:=kW_eq hl;refine ⟨hi,fun hb=>⟨hi,rfl,rfl,z,hk2,hw,eqD ?_⟩,fun hb=>⟨rfl,rfl,Nat.le_refl _,hw,o1,ok1 (by decide),hi,rfl,rfl,z,hk2,cat_le _ _,rfl,rfl,Nat.le_refl _,cat_le _ _,o1,ok1 (by decide),eqD ?_⟩⟩
  ·rw [Bool.not_eq_true'] at hb;rw [hb,ek];rfl
  ·rw [Bool.not_eq_false'] at hb;rw [put1s,cat_cat,put1s,cat_cat,hb,ek];rfl
 ·trivial
theorem xwr_step (m:Nat) (ih:ConOK Tryz.prog 176 (conM 174 [.own 9] [lX] (xwrSu m))):ConOK Tryz.prog 176 (conM 174 [.own 9] [lX] (xwrSu (m+1))):=by
 refine fn_obM tt_ok mixed Tryz.func176 rfl (fun _ _=>by kernel_rfl) (A:=fun ds=>⟨fun _=>Cons.of [(135,putC),(137,itC),(173,isbinC),(192,biwC),(191,(kwrC m))],fun _=>none,fun _=>none⟩) (fun _ _=>(cons_cons put_ok (cons_cons it_ok (cons_cons isbin_ok (cons_cons biw_ok (cons_cons (kwr_ok ih) cons_nil)))))) (by kernel_rfl) ?_
 intro ds;unfold xwrSu;split
 ·rename_i w k n s d;refine kmp (q:=withv (par (brB k (0:Int) (d.el (Int.toNat (0:Int)) (0:Nat)).toI) (kW d (Int.toNat (0:Int)))) fun E50=>withv ((D.l [[D.s {data:=#[(45:UInt8)]}]]).sub (0:Nat) 1) fun E51=>withv ((D.l [[D.s (biW k)]]).sub (0:Nat) 1) fun E52=>withv ((D.l [[D.s (itW n)]]).sub (0:Nat) 1) fun E53=>withv ((D.l [[D.s s]]).sub (0:Nat) 1) fun E54=>withv (w.rows++List.map sR (xW k n s d)) fun E55=>withv (par (brB k (1:Int) (d.el (Int.toNat (1:Int)) (0:Nat)).toI) (kW d (Int.toNat (1:Int)))) fun E56=>SizeOf.sizeOf d<m+(1:Nat)->xF k n s d->w.len<=2001->((k==(1:Int))=true->nI n/\(0:Nat)=(0:Nat)/\w.len=w.len/\(0:Nat)+(1:Nat)<=(D.l [[D.s (itW n)]]).len/\w.len<=2001/\E53.len<=1000/\(∀ (j:Nat),j<E53.len->(E53.el j 0).toS.size<=281474976710656)/\(putD w E53).len=(cat w (xW k n s d)).len/\List.take (2001:Nat) (w.rows++List.map sR (wsL E53 E53.len))=List.take (2001:Nat) E55)/\((k==(1:Int))=false->((k==(2:Int))=true->(0:Nat)=(0:Nat)/\w.len=w.len/\(0:Nat)+(1:Nat)<=(D.l [[D.s s]]).len/\w.len<=2001/\E54.len<=1000/\(∀ (j:Nat),j<E54.len->(E54.el j 0).toS.size<=281474976710656)/\(putD w E54).len=(cat w (xW k n s d)).len/\List.take (2001:Nat) (w.rows++List.map sR (wsL E54 E54.len))=List.take (2001:Nat) E55)/\((k==(2:Int))=false->((k==(3:Int))=true->(0:Nat)=(0:Nat)/\w.len=w.len/\(0:Nat)+(1:Nat)<=(D.l [[D.s {data:=#[(45:UInt8)]}]]).len/\w.len<=2001/\E51.len<=1000/\(∀ (j:Nat),j<E51.len->(E51.el j 0).toS.size<=281474976710656)/\(0:Nat)=(0:Nat)/\(putD w E51).len=(putD w E51).len/\SizeOf.sizeOf d<m+(1:Nat)/\((0:Int)<=(0:Int)/\(0:Int)<(d.len:Int))/\kF d (Int.toNat (0:Int))/\(putD w E51).len<=2001/\(cat (putD w E51) E50).len=(cat w (xW k n s d)).len/\List.take (2001:Nat) (List.take (2001:Nat) (w.rows++List.map sR (wsL E51 E51.len))++List.map sR E50)=List.take (2001:Nat) E55)/\((k==(3:Int))=false->(biB k=true->(0:Nat)=(0:Nat)/\w.len=w.len/\SizeOf.sizeOf d<m+(1:Nat)/\((0:Int)<=(0:Int)/\(0:Int)<(d.len:Int))/\kF d (Int.toNat (0:Int))/\w.len<=2001/\(0:Nat)=(0:Nat)/\(cat w E50).len=(cat w E50).len/\(0:Nat)+(1:Nat)<=(D.l [[D.s (biW k)]]).len/\(cat w E50).len<=2001/\E52.len<=1000/\(∀ (j:Nat),j<E52.len->(E52.el j 0).toS.size<=281474976710656)/\(0:Nat)=(0:Nat)/\(putD (cat w E50) E52).len=(putD (cat w E50) E52).len/\SizeOf.sizeOf d<m+(1:Nat)/\((0:Int)<=(1:Int)/\(1:Int)<(d.len:Int))/\kF d (Int.toNat (1:Int))/\(putD (cat w E50) E52).len<=2001/\(cat (putD (cat w E50) E52) E56).len=(cat w (xW k n s d)).len/\List.take (2001:Nat) (List.take (2001:Nat) (List.take (2001:Nat) (w.rows++List.map sR E50)++List.map sR (wsL E52 E52.len))++List.map sR E56)=List.take (2001:Nat) E55)/\(biB k=false->w.len=(cat w (xW k n s d)).len/\w.rows=List.take (2001:Nat) E55))))) (by kernel_rfl) ?_
  dsimp +instances only [withv]
  intro hm hf hw;have o1:(1:Nat)<=1000:=by decide
  unfold xF xFb at hf;obtain ⟨f1,f2,f3,f4⟩:=hf;refine ⟨fun h=>?_,fun n1=>⟨fun h=>?_,fun n2=>⟨fun h=>?_,fun n3=>⟨fun h=>?_,fun n4=>?_⟩⟩⟩⟩
  ·obtain rfl:=eq_of_beq h;have hn:=f1 rfl;have:=itW_size hn;exact ⟨hn,rfl,rfl,Nat.le_refl _,hw,o1,ok1 (by omega),eqD (put_eq w [itW n])⟩
  ·obtain rfl:=eq_of_beq h;have hn:=f2 rfl;exact ⟨rfl,rfl,Nat.le_refl _,hw,o1,ok1 (by omega),eqD (put_eq w [s])⟩
  ·obtain rfl:=eq_of_beq h;obtain ⟨hl,hk⟩:=f3 rfl;refine ⟨rfl,rfl,Nat.le_refl _,hw,o1,ok1 (by decide),rfl,rfl,hm,by omega,hk,cat_le _ _,eqD ?_⟩;rw [put1s,cat_cat];rfl
  ·obtain ⟨hl,k0,k1⟩:=f4 h;have:=biW_size k;refine ⟨rfl,rfl,hm,by omega,k0,hw,rfl,rfl,Nat.le_refl _,cat_le _ _,o1,ok1 (by omega),rfl,rfl,hm,by omega,k1,cat_le _ _,eqD ?_⟩;rw [put1s,cat_cat,cat_cat]
   congr 1
   unfold xW xWb;rw [if_neg (ne_of_beq_false n1),if_neg (ne_of_beq_false n2),if_neg (ne_of_beq_false n3),if_pos h];rfl
  ·have e:xW k n s d=[]:=by
    unfold xW xWb;rw [if_neg (ne_of_beq_false n1),if_neg (ne_of_beq_false n2),if_neg (ne_of_beq_false n3),if_neg (by rw [n4];decide)]
   rw [e];exact cat_nil hw
 ·trivial
theorem xwr_ok:ConOK Tryz.prog 176 xwrC:=
 conM_rec xwrM (fun _ _=>by kernel_rfl) fun m ih=>by
  rw [xwr_under] at ih ⊢;exact xwr_step m ih
end Go.Proofs.YtplejbgafjpomaaGreatDoor.Sx.Z
namespace Go.Proofs.YtplejbgafjpomaaGreatDoor.Sx.Z
open Go.RowKit
def cW (op lk ln:Int) (ls:ByteArray) (ld:D) (rk rn:Int) (rs:ByteArray) (rd:D):List ByteArray:=⟨#[40]⟩::(xW lk ln ls ld++(cmW op::(xW rk rn rs rd++[⟨#[41]⟩])))
def cF (lk ln:Int) (ls:ByteArray) (ld:D) (rk rn:Int) (rs:ByteArray) (rd:D):Prop:=xF lk ln ls ld/\xF rk rn rs rd
def blW (l:List ByteArray):List ByteArray:=⟨#[123]⟩::(l++[⟨#[125]⟩])
def catTo (n:Nat) (f:Nat->List ByteArray):List ByteArray:=((List.range n).map f).flatten
theorem catTo_succ (n:Nat) (f:Nat->List ByteArray):catTo (n+1) f=catTo n f++f n:=by
 unfold catTo;rw [List.range_succ,List.map_append,List.flatten_append]
 simp
theorem catF_eq {n:Nat} (f:Nat->List ByteArray):((List.finRange n).map fun i=>f i.1).flatten=catTo n f:=by
 unfold catTo
 congr 1
 apply List.ext_getElem
 ·simp
 ·intro i h1 h2
  simp
theorem put2s (w:D) (a b:ByteArray):putD w ((D.l [[D.s a],[D.s b]]).sub 0 (0+2))=cat w [a,b]:=put_eq w [a,b]
theorem put3s (w:D) (a b c:ByteArray):putD w ((D.l [[D.s a],[D.s b],[D.s c]]).sub 0 (0+3))=cat w [a,b,c]:=put_eq w [a,b,c]
theorem put4s (w:D) (a b c d:ByteArray):putD w ((D.l [[D.s a],[D.s b],[D.s c],[D.s d]]).sub 0 (0+4))=cat w [a,b,c,d]:=put_eq w [a,b,c,d]
theorem put5s (w:D) (a b c d e:ByteArray):putD w ((D.l [[D.s a],[D.s b],[D.s c],[D.s d],[D.s e]]).sub 0 (0+5))=cat w [a,b,c,d,e]:=put_eq w [a,b,c,d,e]
def szz (s:ByteArray):Prop:=s.size<=281474976710656
theorem ok2 {a b:ByteArray} (ha:szz a) (hb:szz b):∀ j,j<(wsR [a,b]).len->((wsR [a,b]).el j 0).toS.size<=281474976710656:=wsR_ok fun x hx=>by
 simp only [List.mem_cons,List.not_mem_nil,or_false] at hx
 rcases hx with rfl |rfl<;>assumption
theorem ok3 {a b c:ByteArray} (ha:szz a) (hb:szz b) (hc:szz c):∀ j,j<(wsR [a,b,c]).len->((wsR [a,b,c]).el j 0).toS.size<=281474976710656:=wsR_ok fun x hx=>by
 simp only [List.mem_cons,List.not_mem_nil,or_false] at hx
 rcases hx with rfl |rfl |rfl<;>assumption
theorem ok4 {a b c d:ByteArray} (ha:szz a) (hb:szz b) (hc:szz c) (hd:szz d):∀ j,j<(wsR [a,b,c,d]).len->((wsR [a,b,c,d]).el j 0).toS.size<=281474976710656:=wsR_ok fun x hx=>by
 simp only [List.mem_cons,List.not_mem_nil,or_false] at hx
 rcases hx with rfl |rfl |rfl |rfl<;>assumption
theorem ok5 {a b c d e:ByteArray} (ha:szz a) (hb:szz b) (hc:szz c) (hd:szz d) (he:szz e):∀ j,j<(wsR [a,b,c,d,e]).len->((wsR [a,b,c,d,e]).el j 0).toS.size<=281474976710656:=wsR_ok fun x hx=>by
 simp only [List.mem_cons,List.not_mem_nil,or_false] at hx
 rcases hx with rfl |rfl |rfl |rfl |rfl<;>assumption
def stWF (k:Int) (nm tg:ByteArray) (e c b el:List ByteArray) (hel:Bool) (a:List ByteArray):List ByteArray:=
 if k=1 then nm::⟨#[61]⟩::(e++[⟨#[59]⟩]) else if k=2 then ⟨#[105,102]⟩::(c++(b++(if hel=true then ⟨#[101,108,115,101]⟩::el else []))) else if k=3 then ⟨#[119,104,105,108,101]⟩::(c++b) else if k=4 then ⟨#[115,101,110,100]⟩::nm::⟨#[46]⟩::tg::⟨#[40]⟩::(e++[⟨#[41]⟩,⟨#[59]⟩]) else if k=5 then ⟨#[114,101,99,118]⟩::nm::⟨#[123]⟩::(a++[⟨#[125]⟩]) else if k=6 then ⟨#[97,115,115,101,114,116]⟩::(c++[⟨#[59]⟩]) else if k=7 then [⟨#[105,110,112,117,116]⟩,nm,⟨#[59]⟩] else []
def arWF (tg v:ByteArray) (b:List ByteArray):List ByteArray:=tg::⟨#[40]⟩::v::⟨#[41]⟩::blW b
def bW (d:D):List ByteArray:=((List.finRange d.len).map fun (i:Fin d.len)=>stWF (d.el i 0).toI (d.el i 1).toS (d.el i 2).toS (xW (d.el i 3).toI (d.el i 4).toI (d.el i 5).toS (d.el i 6)) (cW (d.el i 7).toI (d.el i 8).toI (d.el i 9).toI (d.el i 10).toS (d.el i 11) (d.el i 12).toI (d.el i 13).toI (d.el i 14).toS (d.el i 15)) (blW (bW (d.el i 16))) (blW (bW (d.el i 17))) (decide (((d.el i 17).len:Int)>0))
    ((List.finRange (d.el i 18).len).map fun (j:Fin (d.el i 18).len)=>arWF ((d.el i 18).el j 0).toS ((d.el i 18).el j 1).toS (bW ((d.el i 18).el j 2))).flatten).flatten
 termination_by SizeOf.sizeOf d
 decreasing_by
  ·exact lel_lt i.isLt
  ·exact lel_lt i.isLt
  ·exact Nat.lt_trans (lel_lt j.isLt) (lel_lt i.isLt)
def arW (am:D) (j:Nat):List ByteArray:=arWF (am.el j 0).toS (am.el j 1).toS (bW (am.el j 2))
def stW (k:Int) (nm tg:ByteArray) (ek en:Int) (es:ByteArray) (ed:D) (op lk ln:Int) (ls:ByteArray) (ld:D) (rk rn:Int) (rs:ByteArray) (rd bd eb am:D):List ByteArray:=
 stWF k nm tg (xW ek en es ed) (cW op lk ln ls ld rk rn rs rd) (blW (bW bd)) (blW (bW eb)) (decide ((eb.len:Int)>0)) (catTo am.len (arW am))
def stWE (d:D) (i:Nat):List ByteArray:=stW (d.el i 0).toI (d.el i 1).toS (d.el i 2).toS (d.el i 3).toI (d.el i 4).toI (d.el i 5).toS (d.el i 6) (d.el i 7).toI (d.el i 8).toI (d.el i 9).toI (d.el i 10).toS (d.el i 11) (d.el i 12).toI (d.el i 13).toI (d.el i 14).toS (d.el i 15) (d.el i 16) (d.el i 17) (d.el i 18)
theorem bW_eq (d:D):bW d=catTo d.len (stWE d):=by
 rw [bW,<- catF_eq]
 congr 2
 funext i
 unfold stWE stW;rw [<- catF_eq];rfl
def sz (s:ByteArray):Prop:=s.size<=1000000000
theorem sz.z {s:ByteArray} (h:sz s):szz s:=Nat.le_trans h (by decide)
def stFF (k:Int) (nm tg:ByteArray) (e c b el a:Prop):Prop:=
 (k=1->sz nm/\e)/\(k=2->c/\b/\el)/\(k=3->c/\b)/\(k=4->sz nm/\sz tg/\e)/\(k=5->sz nm/\a)/\(k=6->c)/\(k=7->sz nm)
def bF (d:D):Prop:=d.len<=10000000000000/\∀ i:Fin d.len,stFF (d.el i 0).toI (d.el i 1).toS (d.el i 2).toS (xF (d.el i 3).toI (d.el i 4).toI (d.el i 5).toS (d.el i 6)) (cF (d.el i 8).toI (d.el i 9).toI (d.el i 10).toS (d.el i 11) (d.el i 12).toI (d.el i 13).toI (d.el i 14).toS (d.el i 15)) (bF (d.el i 16)) (bF (d.el i 17))
    ((d.el i 18).len<=10000000000000/\∀ j:Fin (d.el i 18).len,sz ((d.el i 18).el j 0).toS/\sz ((d.el i 18).el j 1).toS/\bF ((d.el i 18).el j 2))
 termination_by SizeOf.sizeOf d
 decreasing_by
  ·exact lel_lt i.isLt
  ·exact lel_lt i.isLt
  ·exact Nat.lt_trans (lel_lt j.isLt) (lel_lt i.isLt)
def amsF (am:D):Prop:=am.len<=10000000000000/\∀ j,j<am.len->sz (am.el j 0).toS/\sz (am.el j 1).toS/\bF (am.el j 2)
def stmF (k:Int) (nm tg:ByteArray) (ek en:Int) (es:ByteArray) (ed:D) (_op lk ln:Int) (ls:ByteArray) (ld:D) (rk rn:Int) (rs:ByteArray) (rd bd eb am:D):Prop:=
 stFF k nm tg (xF ek en es ed) (cF lk ln ls ld rk rn rs rd) (bF bd) (bF eb) (amsF am)
def stFE (d:D) (i:Nat):Prop:=stmF (d.el i 0).toI (d.el i 1).toS (d.el i 2).toS (d.el i 3).toI (d.el i 4).toI (d.el i 5).toS (d.el i 6) (d.el i 7).toI (d.el i 8).toI (d.el i 9).toI (d.el i 10).toS (d.el i 11) (d.el i 12).toI (d.el i 13).toI (d.el i 14).toS (d.el i 15) (d.el i 16) (d.el i 17) (d.el i 18)
theorem amF_iff (am:D):(am.len<=10000000000000/\∀ j:Fin am.len,sz (am.el j 0).toS/\sz (am.el j 1).toS/\bF (am.el j 2))↔amsF am:=
 ⟨fun h=>⟨h.1,fun j hj=>h.2 ⟨j,hj⟩⟩,fun h=>⟨h.1,fun j=>h.2 j.1 j.2⟩⟩
theorem bF_iff (d:D):bF d↔d.len<=10000000000000/\∀ i,i<d.len->stFE d i:=by
 rw [bF];refine and_congr_right fun _=>⟨fun h i hi=>?_,fun h i=>?_⟩
 ·have:=h ⟨i,hi⟩;rw [amF_iff] at this;exact this
 ·rw [amF_iff];exact h i.1 i.2
noncomputable def cwrS:List Dat->Option (Eff × List Seg):=fun ds=>match ds with
 | [.d w,.i op,.i lk,.i ln,.s ls,.d ld,.i rk,.i rn,.s rs,.d rd]=>some ({val:=.tup [],vc:=[cF lk ln ls ld rk rn rs rd,w.len<=2001],nw:=[(0,.orow 9 (cat w (cW op lk ln ls ld rk rn rs rd)))]},[.c (.osl 9 0 (.lit 0) (.sym (cat w (cW op lk ln ls ld rk rn rs rd)).len))])
 |_=>none
noncomputable def cwrC:Con:=conM 174 [.own 9] [lCo] cwrS
theorem cwr_ok:ConOK Tryz.prog 177 cwrC:=by
 refine fn_obM tt_ok mixed Tryz.func177 rfl (fun _ _=>by kernel_rfl) (A:=fun ds=>⟨fun _=>Cons.of [(135,putC),(176,xwrC),(193,cmwC)],fun _=>none,fun _=>none⟩) (fun _ _=>(cons_cons put_ok (cons_cons xwr_ok (cons_cons cmw_ok cons_nil)))) (by kernel_rfl) ?_
 intro ds;unfold cwrS;split
 ·rename_i w op lk ln ls ld rk rn rs rd;refine kmp (q:=withv ((D.l [[D.s {data:=#[(40:UInt8)]}]]).sub (0:Nat) 1) fun E57=>withv ((D.l [[D.s (cmW op)]]).sub (0:Nat) 1) fun E58=>withv ((D.l [[D.s {data:=#[(41:UInt8)]}]]).sub (0:Nat) 1) fun E59=>withv (cat (putD w E57) (xW lk ln ls ld)) fun E60=>withv (cat (putD E60 E58) (xW rk rn rs rd)) fun E61=>cF lk ln ls ld rk rn rs rd->w.len<=2001->(0:Nat)=(0:Nat)/\w.len=w.len/\(0:Nat)+(1:Nat)<=(D.l [[D.s {data:=#[(40:UInt8)]}]]).len/\w.len<=2001/\E57.len<=1000/\(∀ (j:Nat),j<E57.len->(E57.el j 0).toS.size<=281474976710656)/\(0:Nat)=(0:Nat)/\(putD w E57).len=(putD w E57).len/\xF lk ln ls ld/\(putD w E57).len<=2001/\(0:Nat)=(0:Nat)/\E60.len=E60.len/\(0:Nat)+(1:Nat)<=(D.l [[D.s (cmW op)]]).len/\E60.len<=2001/\E58.len<=1000/\(∀ (j:Nat),j<E58.len->(E58.el j 0).toS.size<=281474976710656)/\(0:Nat)=(0:Nat)/\(putD E60 E58).len=(putD E60 E58).len/\xF rk rn rs rd/\(putD E60 E58).len<=2001/\(0:Nat)=(0:Nat)/\E61.len=E61.len/\(0:Nat)+(1:Nat)<=(D.l [[D.s {data:=#[(41:UInt8)]}]]).len/\E61.len<=2001/\E59.len<=1000/\(∀ (j:Nat),j<E59.len->(E59.el j 0).toS.size<=281474976710656)/\(putD E61 E59).len=(cat w (cW op lk ln ls ld rk rn rs rd)).len/\List.take (2001:Nat) (List.take (2001:Nat) (List.take (2001:Nat) (List.take (2001:Nat) (List.take (2001:Nat) (w.rows++List.map sR (wsL E57 E57.len))++List.map sR (xW lk ln ls ld))++List.map sR (wsL E58 E58.len))++List.map sR (xW rk rn rs rd))++List.map sR (wsL E59 E59.len))=List.take (2001:Nat) (w.rows++List.map sR (cW op lk ln ls ld rk rn rs rd))) (by kernel_rfl) ?_
  dsimp +instances only [withv]
  intro hf hw;have o1:(1:Nat)<=1000:=by decide
  have:=cmW_size op;refine ⟨rfl,rfl,Nat.le_refl _,hw,o1,ok1 (by decide),rfl,rfl,hf.1,cat_le _ _,rfl,rfl,Nat.le_refl _,cat_le _ _,o1,ok1 (by omega),rfl,rfl,hf.2,cat_le _ _,rfl,rfl,Nat.le_refl _,cat_le _ _,o1,ok1 (by decide),eqD ?_⟩;simp only [put1s,cat_cat];unfold cW;simp only [List.append_assoc,List.cons_append,List.nil_append]
 ·trivial
noncomputable def lwrS:List Dat->Option (Eff × List Seg):=fun ds=>match ds with
 | [.d w,.d d]=>some ({val:=.tup [],vc:=[bF d,w.len<=2001],nw:=[(0,.orow 9 (cat w (bW d)))]},[.c (.osl 9 0 (.lit 0) (.sym (cat w (bW d)).len))])
 |_=>none
noncomputable def lwrC:Con:=conM 174 [.own 9] [lBo] lwrS
noncomputable def lwrM:List Dat->Nat:=fun ds=>match ds with
 | [.d _w,.d d]=>SizeOf.sizeOf d
 |_=>0
noncomputable def lwrSu (m:Nat):List Dat->Option (Eff × List Seg):=fun ds=>match ds with
 | [.d w,.d d]=>some ({val:=.tup [],vc:=[SizeOf.sizeOf d<m,bF d,w.len<=2001],nw:=[(0,.orow 9 (cat w (bW d)))]},[.c (.osl 9 0 (.lit 0) (.sym (cat w (bW d)).len))])
 |_=>none
theorem lwr_under (m:Nat):underM lwrS lwrM m=lwrSu m:=by
 funext ds
 unfold underM lwrS lwrM lwrSu;split
 ·rename_i e sg h
  split at h
  ·obtain ⟨rfl,rfl⟩:=Prod.mk.inj (Option.some.inj h);rfl
  ·cases h
 ·rename_i h
  split at h
  ·cases h
  ·rfl
noncomputable def blwS (m:Nat):List Dat->Option (Eff × List Seg):=fun ds=>match ds with
 | [.d w,.d d]=>some ({val:=.tup [],vc:=[SizeOf.sizeOf d<m,bF d,w.len<=2001],nw:=[(0,.orow 9 (cat w (blW (bW d))))]},[.c (.osl 9 0 (.lit 0) (.sym (cat w (blW (bW d))).len))])
 |_=>none
noncomputable def blwC (m:Nat):Con:=conM 174 [.own 9] [lBo] (blwS m)
theorem blw_ok {m:Nat} (ih:ConOK Tryz.prog 138 (conM 174 [.own 9] [lBo] (lwrSu m))):ConOK Tryz.prog 178 (blwC m):=by
 refine fn_obM tt_ok mixed Tryz.func178 rfl (fun _ _=>by kernel_rfl) (A:=fun ds=>⟨fun _=>Cons.of [(135,putC),(138,conM 174 [.own 9] [lBo] (lwrSu m))],fun _=>none,fun _=>none⟩) (fun _ _=>(cons_cons put_ok (cons_cons ih cons_nil))) (by kernel_rfl) ?_
 intro ds;unfold blwS;split
 ·rename_i w d;refine kmp (q:=withv ((D.l [[D.s {data:=#[(123:UInt8)]}]]).sub (0:Nat) 1) fun E62=>withv ((D.l [[D.s {data:=#[(125:UInt8)]}]]).sub (0:Nat) 1) fun E63=>SizeOf.sizeOf d<m->bF d->w.len<=2001->(0:Nat)=(0:Nat)/\w.len=w.len/\(0:Nat)+(1:Nat)<=(D.l [[D.s {data:=#[(123:UInt8)]}]]).len/\w.len<=2001/\E62.len<=1000/\(∀ (j:Nat),j<E62.len->(E62.el j 0).toS.size<=281474976710656)/\(0:Nat)=(0:Nat)/\(putD w E62).len=(putD w E62).len/\SizeOf.sizeOf d<m/\bF d/\(putD w E62).len<=2001/\(0:Nat)=(0:Nat)/\(cat (putD w E62) (bW d)).len=(cat (putD w E62) (bW d)).len/\(0:Nat)+(1:Nat)<=(D.l [[D.s {data:=#[(125:UInt8)]}]]).len/\(cat (putD w E62) (bW d)).len<=2001/\E63.len<=1000/\(∀ (j:Nat),j<E63.len->(E63.el j 0).toS.size<=281474976710656)/\(putD (cat (putD w E62) (bW d)) E63).len=(cat w (blW (bW d))).len/\List.take (2001:Nat) (List.take (2001:Nat) (List.take (2001:Nat) (w.rows++List.map sR (wsL E62 E62.len))++List.map sR (bW d))++List.map sR (wsL E63 E63.len))=List.take (2001:Nat) (w.rows++List.map sR (blW (bW d)))) (by kernel_rfl) ?_
  dsimp +instances only [withv]
  intro hm hf hw;have o1:(1:Nat)<=1000:=by decide
  refine ⟨rfl,rfl,Nat.le_refl _,hw,o1,ok1 (by decide),rfl,rfl,hm,hf,cat_le _ _,rfl,rfl,Nat.le_refl _,cat_le _ _,o1,ok1 (by decide),eqD ?_⟩;simp only [put1s,cat_cat];unfold blW;simp only [List.cons_append,List.nil_append]
 ·trivial
noncomputable def stwS (m:Nat):List Dat->Option (Eff × List Seg):=fun ds=>match ds with
 | [.d w,.i k,.s nm,.s tg,.i ek,.i en,.s es,.d ed,.i op,.i lk,.i ln,.s ls,.d ld,.i rk,.i rn,.s rs,.d rd,.d bd,.d eb,.d am]=>some ({val:=.tup [],vc:=[SizeOf.sizeOf bd<m,SizeOf.sizeOf eb<m,SizeOf.sizeOf am<m,stmF k nm tg ek en es ed op lk ln ls ld rk rn rs rd bd eb am,w.len<=2001],nw:=[(0,.orow 9 (cat w (stW k nm tg ek en es ed op lk ln ls ld rk rn rs rd bd eb am)))]},[.c (.osl 9 0 (.lit 0) (.sym (cat w (stW k nm tg ek en es ed op lk ln ls ld rk rn rs rd bd eb am)).len))])
 |_=>none
noncomputable def stwC (m:Nat):Con:=conM 174 [.own 9] [lSt] (stwS m)
theorem stw_ok {m:Nat} (ih:ConOK Tryz.prog 138 (conM 174 [.own 9] [lBo] (lwrSu m))):ConOK Tryz.prog 165 (stwC m):=by
 refine fn_obM tt_ok mixed Tryz.func165 rfl (fun _ _=>by kernel_rfl) (A:=fun ds=>⟨fun _=>Cons.of [(135,putC),(176,xwrC),(177,cwrC),(178,(blwC m))],fun k=>match k,ds with | 24,[.d w,.i k,.s nm,.s tg,.i ek,.i en,.s es,.d ed,.i op,.i lk,.i ln,.s ls,.d ld,.i rk,.i rn,.s rs,.d rd,.d bd,.d eb,.d am]=>some {ι:=Nat,pre:=fun _ i=>i<=am.len,μ:=fun i=>am.len-i,st:=fun s i=>famR s [(85,.one (.sc (.int .i64 (.sym ((i:Int))))))] [0,83,84] [(0,.own 174 ([.c (.osl 9 1 (.lit 0) (.sym (cat w ([⟨#[114,101,99,118]⟩,nm,⟨#[123]⟩]++catTo i (arW am))).len))])),(1,.orow 9 (cat w ([⟨#[114,101,99,118]⟩,nm,⟨#[123]⟩]++catTo i (arW am))))] []} |_,_=>none,fun _=>none⟩) (fun _ _=>(cons_cons put_ok (cons_cons xwr_ok (cons_cons cwr_ok (cons_cons (blw_ok ih) cons_nil))))) (by kernel_rfl) ?_
 intro ds;unfold stwS;split
 ·rename_i w k nm tg ek en es ed op lk ln ls ld rk rn rs rd bd eb am
  refine kmp (q:=withv ((D.l [[D.s {data:=#[(115:UInt8),(101:UInt8),(110:UInt8),(100:UInt8)]}],[D.s nm],[D.s {data:=#[(46:UInt8)]}],[D.s tg],[D.s {data:=#[(40:UInt8)]}]]).sub (0:Nat) ((0:Nat)+(5:Nat))) fun E64=>withv ((D.l [[D.s {data:=#[(105:UInt8),(102:UInt8)]}]]).sub (0:Nat) 1) fun E65=>withv (fun (i:Nat)=>(D.l [[D.s (am.el (i:Int).toNat 0).toS],[D.s {data:=#[(40:UInt8)]}],[D.s (am.el (i:Int).toNat 1).toS],[D.s {data:=#[(41:UInt8)]}]]).sub (0:Nat) ((0:Nat)+(4:Nat))) fun E66=>withv ((D.l [[D.s {data:=#[(97:UInt8),(115:UInt8),(115:UInt8),(101:UInt8),(114:UInt8),(116:UInt8)]}]]).sub (0:Nat) 1) fun E67=>withv ((D.l [[D.s {data:=#[(119:UInt8),(104:UInt8),(105:UInt8),(108:UInt8),(101:UInt8)]}]]).sub (0:Nat) 1) fun E68=>withv (fun (i:Nat)=>cat w ([{data:=#[(114:UInt8),(101:UInt8),(99:UInt8),(118:UInt8)]},nm,{data:=#[(123:UInt8)]}]++catTo i (arW am))) fun E69=>withv ((D.l [[D.s {data:=#[(101:UInt8),(108:UInt8),(115:UInt8),(101:UInt8)]}]]).sub (0:Nat) 1) fun E70=>withv (stW k nm tg ek en es ed op lk ln ls ld rk rn rs rd bd eb am) fun E71=>withv ((D.l [[D.s nm],[D.s {data:=#[(61:UInt8)]}]]).sub (0:Nat) ((0:Nat)+(2:Nat))) fun E72=>withv ((D.l [[D.s {data:=#[(105:UInt8),(110:UInt8),(112:UInt8),(117:UInt8),(116:UInt8)]}],[D.s nm],[D.s {data:=#[(59:UInt8)]}]]).sub (0:Nat) ((0:Nat)+(3:Nat))) fun E73=>withv ((D.l [[D.s {data:=#[(59:UInt8)]}]]).sub (0:Nat) 1) fun E74=>withv ((D.l [[D.s {data:=#[(114:UInt8),(101:UInt8),(99:UInt8),(118:UInt8)]}],[D.s nm],[D.s {data:=#[(123:UInt8)]}]]).sub (0:Nat) ((0:Nat)+(3:Nat))) fun E75=>withv (cW op lk ln ls ld rk rn rs rd) fun E76=>withv ((D.l [[D.s {data:=#[(41:UInt8)]}],[D.s {data:=#[(59:UInt8)]}]]).sub (0:Nat) ((0:Nat)+(2:Nat))) fun E77=>withv ((D.l [[D.s {data:=#[(125:UInt8)]}]]).sub (0:Nat) 1) fun E78=>withv (fun (i:Nat)=>w.rows++List.map sR ([{data:=#[(114:UInt8),(101:UInt8),(99:UInt8),(118:UInt8)]},nm,{data:=#[(123:UInt8)]}]++catTo i (arW am))) fun E79=>withv (cat (cat (putD w E65) E76) (blW (bW bd))) fun E80=>withv (w.rows++List.map sR E71) fun E81=>withv (fun (i:Nat)=>am.el (i:Int).toNat 2) fun E82=>withv (List.take (2001:Nat) (List.take (2001:Nat) (w.rows++List.map sR (wsL E65 E65.len))++List.map sR E76)++List.map sR (blW (bW bd))) fun E83=>withv (cat (putD w E72) (xW ek en es ed)) fun E84=>withv (cat (putD w E64) (xW ek en es ed)) fun E85=>SizeOf.sizeOf bd<m->SizeOf.sizeOf eb<m->SizeOf.sizeOf am<m->stmF k nm tg ek en es ed op lk ln ls ld rk rn rs rd bd eb am->w.len<=2001->((k==(1:Int))=true->(0:Nat)=(0:Nat)/\w.len=w.len/\(0:Nat)+(2:Nat)<=(D.l [[D.s nm],[D.s {data:=#[(61:UInt8)]}]]).len/\w.len<=2001/\E72.len<=1000/\(∀ (j:Nat),j<E72.len->(E72.el j 0).toS.size<=281474976710656)/\(0:Nat)=(0:Nat)/\(putD w E72).len=(putD w E72).len/\xF ek en es ed/\(putD w E72).len<=2001/\(0:Nat)=(0:Nat)/\E84.len=E84.len/\(0:Nat)+(1:Nat)<=(D.l [[D.s {data:=#[(59:UInt8)]}]]).len/\E84.len<=2001/\E74.len<=1000/\(∀ (j:Nat),j<E74.len->(E74.el j 0).toS.size<=281474976710656)/\(putD E84 E74).len=(cat w E71).len/\List.take (2001:Nat) (List.take (2001:Nat) (List.take (2001:Nat) (w.rows++List.map sR (wsL E72 E72.len))++List.map sR (xW ek en es ed))++List.map sR (wsL E74 E74.len))=List.take (2001:Nat) E81)/\((k==(1:Int))=false->((k==(2:Int))=true->(0:Nat)=(0:Nat)/\w.len=w.len/\(0:Nat)+(1:Nat)<=(D.l [[D.s {data:=#[(105:UInt8),(102:UInt8)]}]]).len/\w.len<=2001/\E65.len<=1000/\(∀ (j:Nat),j<E65.len->(E65.el j 0).toS.size<=281474976710656)/\(0:Nat)=(0:Nat)/\(putD w E65).len=(putD w E65).len/\cF lk ln ls ld rk rn rs rd/\(putD w E65).len<=2001/\(0:Nat)=(0:Nat)/\(cat (putD w E65) E76).len=(cat (putD w E65) E76).len/\SizeOf.sizeOf bd<m/\bF bd/\(cat (putD w E65) E76).len<=2001/\(decide ((eb.len:Int)>(0:Int))=true->(0:Nat)=(0:Nat)/\E80.len=E80.len/\(0:Nat)+(1:Nat)<=(D.l [[D.s {data:=#[(101:UInt8),(108:UInt8),(115:UInt8),(101:UInt8)]}]]).len/\E80.len<=2001/\E70.len<=1000/\(∀ (j:Nat),j<E70.len->(E70.el j 0).toS.size<=281474976710656)/\(0:Nat)=(0:Nat)/\(putD E80 E70).len=(putD E80 E70).len/\SizeOf.sizeOf eb<m/\bF eb/\(putD E80 E70).len<=2001/\(cat (putD E80 E70) (blW (bW eb))).len=(cat w E71).len/\List.take (2001:Nat) (List.take (2001:Nat) (List.take (2001:Nat) E83++List.map sR (wsL E70 E70.len))++List.map sR (blW (bW eb)))=List.take (2001:Nat) E81)/\(decide ((eb.len:Int)>(0:Int))=false->E80.len=(cat w E71).len/\List.take (2001:Nat) E83=List.take (2001:Nat) E81))/\((k==(2:Int))=false->((k==(3:Int))=true->(0:Nat)=(0:Nat)/\w.len=w.len/\(0:Nat)+(1:Nat)<=(D.l [[D.s {data:=#[(119:UInt8),(104:UInt8),(105:UInt8),(108:UInt8),(101:UInt8)]}]]).len/\w.len<=2001/\E68.len<=1000/\(∀ (j:Nat),j<E68.len->(E68.el j 0).toS.size<=281474976710656)/\(0:Nat)=(0:Nat)/\(putD w E68).len=(putD w E68).len/\cF lk ln ls ld rk rn rs rd/\(putD w E68).len<=2001/\(0:Nat)=(0:Nat)/\(cat (putD w E68) E76).len=(cat (putD w E68) E76).len/\SizeOf.sizeOf bd<m/\bF bd/\(cat (putD w E68) E76).len<=2001/\(cat (cat (putD w E68) E76) (blW (bW bd))).len=(cat w E71).len/\List.take (2001:Nat) (List.take (2001:Nat) (List.take (2001:Nat) (w.rows++List.map sR (wsL E68 E68.len))++List.map sR E76)++List.map sR (blW (bW bd)))=List.take (2001:Nat) E81)/\((k==(3:Int))=false->((k==(4:Int))=true->(0:Nat)=(0:Nat)/\w.len=w.len/\(0:Nat)+(5:Nat)<=(D.l [[D.s {data:=#[(115:UInt8),(101:UInt8),(110:UInt8),(100:UInt8)]}],[D.s nm],[D.s {data:=#[(46:UInt8)]}],[D.s tg],[D.s {data:=#[(40:UInt8)]}]]).len/\w.len<=2001/\E64.len<=1000/\(∀ (j:Nat),j<E64.len->(E64.el j 0).toS.size<=281474976710656)/\(0:Nat)=(0:Nat)/\(putD w E64).len=(putD w E64).len/\xF ek en es ed/\(putD w E64).len<=2001/\(0:Nat)=(0:Nat)/\E85.len=E85.len/\(0:Nat)+(2:Nat)<=(D.l [[D.s {data:=#[(41:UInt8)]}],[D.s {data:=#[(59:UInt8)]}]]).len/\E85.len<=2001/\E77.len<=1000/\(∀ (j:Nat),j<E77.len->(E77.el j 0).toS.size<=281474976710656)/\(putD E85 E77).len=(cat w E71).len/\List.take (2001:Nat) (List.take (2001:Nat) (List.take (2001:Nat) (w.rows++List.map sR (wsL E64 E64.len))++List.map sR (xW ek en es ed))++List.map sR (wsL E77 E77.len))=List.take (2001:Nat) E81)/\((k==(4:Int))=false->((k==(5:Int))=true->(0:Nat)=(0:Nat)/\w.len=w.len/\(0:Nat)+(3:Nat)<=(D.l [[D.s {data:=#[(114:UInt8),(101:UInt8),(99:UInt8),(118:UInt8)]}],[D.s nm],[D.s {data:=#[(123:UInt8)]}]]).len/\w.len<=2001/\E75.len<=1000/\(∀ (j:Nat),j<E75.len->(E75.el j 0).toS.size<=281474976710656)/\(∃ (i:Nat),i.le am.len/\(0:Int)=(i:Int)/\am.rows=am.rows/\(am.len:Int)=(am.len:Int)/\(putD w E75).len=(E69 i).len/\List.take (2001:Nat) (w.rows++List.map sR (wsL E75 E75.len))=List.take (2001:Nat) (E79 i))/\∀ (i:Nat),i.le am.len->(decide ((i:Int)<(am.len:Int))=true->((0:Int)<=(i:Int)/\(i:Int)<(am.len:Int))/\(0:Nat)=(0:Nat)/\(E69 i).len=(E69 i).len/\(0:Nat)+(4:Nat)<=(D.l [[D.s (am.el (i:Int).toNat 0).toS],[D.s {data:=#[(40:UInt8)]}],[D.s (am.el (i:Int).toNat 1).toS],[D.s {data:=#[(41:UInt8)]}]]).len/\(E69 i).len<=2001/\(E66 i).len<=1000/\(∀ (j:Nat),j<(E66 i).len->((E66 i).el j 0).toS.size<=281474976710656)/\(0:Nat)=(0:Nat)/\(putD (E69 i) (E66 i)).len=(putD (E69 i) (E66 i)).len/\SizeOf.sizeOf (E82 i)<m/\bF (E82 i)/\(putD (E69 i) (E66 i)).len<=2001/\∃ (j:Nat),j.le am.len/\am.len-j<am.len-i/\IntKind.i64.wrap ((i:Int)+(1:Int))=(j:Int)/\am.rows=am.rows/\(am.len:Int)=(am.len:Int)/\(cat (putD (E69 i) (E66 i)) (blW (bW (E82 i)))).len=(cat w ([{data:=#[(114:UInt8),(101:UInt8),(99:UInt8),(118:UInt8)]},nm,{data:=#[(123:UInt8)]}]++catTo j (arW am))).len/\List.take (2001:Nat) (List.take (2001:Nat) (List.take (2001:Nat) (E79 i)++List.map sR (wsL (E66 i) (E66 i).len))++List.map sR (blW (bW (E82 i))))=List.take (2001:Nat) (w.rows++List.map sR ([{data:=#[(114:UInt8),(101:UInt8),(99:UInt8),(118:UInt8)]},nm,{data:=#[(123:UInt8)]}]++catTo j (arW am))))/\(decide ((i:Int)<(am.len:Int))=false->(0:Nat)=(0:Nat)/\(E69 i).len=(E69 i).len/\(0:Nat)+(1:Nat)<=(D.l [[D.s {data:=#[(125:UInt8)]}]]).len/\(E69 i).len<=2001/\E78.len<=1000/\(∀ (j:Nat),j<E78.len->(E78.el j 0).toS.size<=281474976710656)/\(putD (E69 i) E78).len=(cat w E71).len/\List.take (2001:Nat) (List.take (2001:Nat) (E79 i)++List.map sR (wsL E78 E78.len))=List.take (2001:Nat) E81))/\((k==(5:Int))=false->((k==(6:Int))=true->(0:Nat)=(0:Nat)/\w.len=w.len/\(0:Nat)+(1:Nat)<=(D.l [[D.s {data:=#[(97:UInt8),(115:UInt8),(115:UInt8),(101:UInt8),(114:UInt8),(116:UInt8)]}]]).len/\w.len<=2001/\E67.len<=1000/\(∀ (j:Nat),j<E67.len->(E67.el j 0).toS.size<=281474976710656)/\(0:Nat)=(0:Nat)/\(putD w E67).len=(putD w E67).len/\cF lk ln ls ld rk rn rs rd/\(putD w E67).len<=2001/\(0:Nat)=(0:Nat)/\(cat (putD w E67) E76).len=(cat (putD w E67) E76).len/\(0:Nat)+(1:Nat)<=(D.l [[D.s {data:=#[(59:UInt8)]}]]).len/\(cat (putD w E67) E76).len<=2001/\E74.len<=1000/\(∀ (j:Nat),j<E74.len->(E74.el j 0).toS.size<=281474976710656)/\(putD (cat (putD w E67) E76) E74).len=(cat w E71).len/\List.take (2001:Nat) (List.take (2001:Nat) (List.take (2001:Nat) (w.rows++List.map sR (wsL E67 E67.len))++List.map sR E76)++List.map sR (wsL E74 E74.len))=List.take (2001:Nat) E81)/\((k==(6:Int))=false->((k==(7:Int))=true->(0:Nat)=(0:Nat)/\w.len=w.len/\(0:Nat)+(3:Nat)<=(D.l [[D.s {data:=#[(105:UInt8),(110:UInt8),(112:UInt8),(117:UInt8),(116:UInt8)]}],[D.s nm],[D.s {data:=#[(59:UInt8)]}]]).len/\w.len<=2001/\E73.len<=1000/\(∀ (j:Nat),j<E73.len->(E73.el j 0).toS.size<=281474976710656)/\(putD w E73).len=(cat w E71).len/\List.take (2001:Nat) (w.rows++List.map sR (wsL E73 E73.len))=List.take (2001:Nat) E81)/\((k==(7:Int))=false->w.len=(cat w E71).len/\w.rows=List.take (2001:Nat) E81)))))))) (by kernel_rfl) ?_
  dsimp +instances only [withv]
  intro h1 h2 h3 hf hw;have o1:(1:Nat)<=1000:=by decide
  unfold stmF stFF at hf;obtain ⟨f1,f2,f3,f4,f5,f6,f7⟩:=hf;refine ⟨fun h=>?_,fun n1=>⟨fun h=>?_,fun n2=>⟨fun h=>?_,fun n3=>⟨fun h=>?_,fun n4=>⟨fun h=>?_,fun n5=>⟨fun h=>?_,fun n6=>⟨fun h=>?_,fun n7=>?_⟩⟩⟩⟩⟩⟩⟩
  ·obtain rfl:=eq_of_beq h;have hf:=f1 rfl;refine ⟨rfl,rfl,Nat.le_refl _,hw,(show (2:Nat)<=1000 by omega),ok2 hf.1.z (show szz _ by unfold szz;decide),rfl,rfl,hf.2,cat_le _ _,rfl,rfl,Nat.le_refl _,cat_le _ _,o1,ok1 (by decide),eqD ?_⟩;simp only [put1s,put2s,cat_cat];show cat w _=cat w (stWF 1 nm tg _ _ _ _ _ _);unfold stWF;rw [if_pos rfl];simp only [List.cons_append,List.nil_append]
  ·obtain rfl:=eq_of_beq h;obtain ⟨g1,g2,g3⟩:=f2 rfl;refine ⟨rfl,rfl,Nat.le_refl _,hw,o1,ok1 (by decide),rfl,rfl,g1,cat_le _ _,rfl,rfl,h1,g2,cat_le _ _,fun hg=>⟨rfl,rfl,Nat.le_refl _,cat_le _ _,o1,ok1 (by decide),rfl,rfl,h2,g3,cat_le _ _,eqD ?_⟩,fun hg=>eqD ?_⟩
   ·simp only [put1s,cat_cat];show cat w _=cat w (stWF 2 nm tg _ _ _ _ _ _);unfold stWF;rw [if_neg (by decide),if_pos rfl,hg,if_pos rfl];simp only [List.append_assoc,List.cons_append,List.nil_append]
   ·simp only [put1s,cat_cat];show cat w _=cat w (stWF 2 nm tg _ _ _ _ _ _);unfold stWF;rw [if_neg (by decide),if_pos rfl,hg,if_neg (by decide)];simp only [List.cons_append,List.nil_append,List.append_nil]
  ·obtain rfl:=eq_of_beq h;obtain ⟨g1,g2⟩:=f3 rfl;refine ⟨rfl,rfl,Nat.le_refl _,hw,o1,ok1 (by decide),rfl,rfl,g1,cat_le _ _,rfl,rfl,h1,g2,cat_le _ _,eqD ?_⟩;simp only [put1s,cat_cat];show cat w _=cat w (stWF 3 nm tg _ _ _ _ _ _);unfold stWF;rw [if_neg (by decide),if_neg (by decide),if_pos rfl];simp only [List.cons_append,List.nil_append]
  ·obtain rfl:=eq_of_beq h;obtain ⟨g1,g2,g3⟩:=f4 rfl;refine ⟨rfl,rfl,Nat.le_refl _,hw,(show (5:Nat)<=1000 by omega),ok5 (show szz _ by unfold szz;decide) g1.z (show szz _ by unfold szz;decide) g2.z (show szz _ by unfold szz;decide),rfl,rfl,g3,cat_le _ _,rfl,rfl,Nat.le_refl _,cat_le _ _,(show (2:Nat)<=1000 by omega),ok2 (show szz _ by unfold szz;decide) (show szz _ by unfold szz;decide),eqD ?_⟩;simp only [put2s,put5s,cat_cat];show cat w _=cat w (stWF 4 nm tg _ _ _ _ _ _);unfold stWF;rw [if_neg (by decide),if_neg (by decide),if_neg (by decide),if_pos rfl];simp only [List.cons_append,List.nil_append]
  ·obtain rfl:=eq_of_beq h;obtain ⟨g1,g2⟩:=f5 rfl;refine ⟨rfl,rfl,Nat.le_refl _,hw,(show (3:Nat)<=1000 by omega),ok3 (show szz _ by unfold szz;decide) g1.z (show szz _ by unfold szz;decide),?_⟩;refine ⟨⟨0,Nat.zero_le _,rfl,rfl,rfl,eqD ?_⟩,fun i hi=>⟨fun hl=>?_,fun hl=>?_⟩⟩
   ·rw [put3s];rfl
   ·have hl:=of_decide_eq_true hl;have hi2:i<am.len:=by omega
    have hb:=g2.1;have hw2:IntKind.i64.wrap ((i:Int)+1)=((i+1:Nat):Int):=by rw [IntWalk.i64_in _ (by omega)];omega
    obtain ⟨s1,s2,s3⟩:=g2.2 i hi2;have z:=lel_lt (j:=2) hi2;refine ⟨⟨by omega,by omega⟩,rfl,rfl,Nat.le_refl _,cat_le _ _,(show (4:Nat)<=1000 by omega),ok4 s1.z (show szz _ by unfold szz;decide) s2.z (show szz _ by unfold szz;decide),rfl,rfl,(show SizeOf.sizeOf (am.el i 2)<m by omega),s3,cat_le _ _,i+1,hi2,by omega,hw2,rfl,rfl,eqD ?_⟩;rw [put4s,cat_cat,cat_cat,catTo_succ,List.append_assoc];rfl
   ·have hl:=of_decide_eq_false hl;have hi3:i=am.len:=by have:i<=am.len:=hi;omega
    refine ⟨rfl,rfl,Nat.le_refl _,cat_le _ _,o1,ok1 (by decide),eqD ?_⟩;rw [hi3];simp only [put1s,cat_cat];show cat w _=cat w (stWF 5 nm tg _ _ _ _ _ _);unfold stWF;rw [if_neg (by decide),if_neg (by decide),if_neg (by decide),if_neg (by decide),if_pos rfl];simp only [List.cons_append,List.nil_append]
  ·obtain rfl:=eq_of_beq h;have g1:=f6 rfl;refine ⟨rfl,rfl,Nat.le_refl _,hw,o1,ok1 (by decide),rfl,rfl,g1,cat_le _ _,rfl,rfl,Nat.le_refl _,cat_le _ _,o1,ok1 (by decide),eqD ?_⟩;simp only [put1s,cat_cat];show cat w _=cat w (stWF 6 nm tg _ _ _ _ _ _);unfold stWF;rw [if_neg (by decide),if_neg (by decide),if_neg (by decide),if_neg (by decide),if_neg (by decide),if_pos rfl];simp only [List.cons_append,List.nil_append]
  ·obtain rfl:=eq_of_beq h;have g1:=f7 rfl;refine ⟨rfl,rfl,Nat.le_refl _,hw,(show (3:Nat)<=1000 by omega),ok3 (show szz _ by unfold szz;decide) g1.z (show szz _ by unfold szz;decide),eqD ?_⟩;simp only [put3s];show cat w _=cat w (stWF 7 nm tg _ _ _ _ _ _);unfold stWF;rw [if_neg (by decide),if_neg (by decide),if_neg (by decide),if_neg (by decide),if_neg (by decide),if_neg (by decide),if_pos rfl]
  ·have e:stW k nm tg ek en es ed op lk ln ls ld rk rn rs rd bd eb am=[]:=by
    unfold stW stWF;rw [if_neg (ne_of_beq_false n1),if_neg (ne_of_beq_false n2),if_neg (ne_of_beq_false n3),if_neg (ne_of_beq_false n4),if_neg (ne_of_beq_false n5),if_neg (ne_of_beq_false n6),if_neg (ne_of_beq_false n7)]
   rw [e];exact cat_nil hw
 ·trivial
theorem lwr_step (m:Nat) (ih:ConOK Tryz.prog 138 (conM 174 [.own 9] [lBo] (lwrSu m))):ConOK Tryz.prog 138 (conM 174 [.own 9] [lBo] (lwrSu (m+1))):=by
 refine fn_obM tt_ok mixed Tryz.func138 rfl (fun _ _=>by kernel_rfl) (A:=fun ds=>⟨fun _=>Cons.of [(165,(stwC m))],fun k=>match k,ds with | 1,[.d w,.d d]=>some {ι:=Nat,pre:=fun _ i=>i<=d.len,μ:=fun i=>d.len-i,st:=fun s i=>famR s [(8,.one (.sc (.int .i64 (.sym ((i:Int))))))] [0,6,7] [(0,.own 174 ([.c (.osl 9 1 (.lit 0) (.sym (cat w (catTo i (stWE d))).len))])),(1,.orow 9 (cat w (catTo i (stWE d))))] []} |_,_=>none,fun _=>none⟩) (fun _ _=>(cons_cons (stw_ok ih) cons_nil)) (by kernel_rfl) ?_
 intro ds;unfold lwrSu;split
 ·rename_i w d;refine kmp (q:=withv (fun (i:Nat)=>stW (d.el (i:Int).toNat 0).toI (d.el (i:Int).toNat 1).toS (d.el (i:Int).toNat 2).toS (d.el (i:Int).toNat 3).toI (d.el (i:Int).toNat 4).toI (d.el (i:Int).toNat 5).toS (d.el (i:Int).toNat 6) (d.el (i:Int).toNat 7).toI (d.el (i:Int).toNat 8).toI (d.el (i:Int).toNat 9).toI (d.el (i:Int).toNat 10).toS (d.el (i:Int).toNat 11) (d.el (i:Int).toNat 12).toI (d.el (i:Int).toNat 13).toI (d.el (i:Int).toNat 14).toS (d.el (i:Int).toNat 15) (d.el (i:Int).toNat 16) (d.el (i:Int).toNat 17) (d.el (i:Int).toNat 18)) fun E86=>withv (fun (i:Nat)=>d.el (i:Int).toNat 18) fun E87=>withv (fun (i:Nat)=>d.el (i:Int).toNat 17) fun E88=>withv (fun (i:Nat)=>d.el (i:Int).toNat 16) fun E89=>SizeOf.sizeOf d<m+(1:Nat)->bF d->w.len<=2001->(∃ (i:Nat),i.le d.len/\(0:Int)=(i:Int)/\d.rows=d.rows/\(d.len:Int)=(d.len:Int)/\w.len=(cat w (catTo i (stWE d))).len/\w.rows=List.take (2001:Nat) (w.rows++List.map sR (catTo i (stWE d))))/\∀ (i:Nat),i.le d.len->(decide ((i:Int)<(d.len:Int))=true->((0:Int)<=(i:Int)/\(i:Int)<(d.len:Int))/\(0:Nat)=(0:Nat)/\(cat w (catTo i (stWE d))).len=(cat w (catTo i (stWE d))).len/\SizeOf.sizeOf (E89 i)<m/\SizeOf.sizeOf (E88 i)<m/\SizeOf.sizeOf (E87 i)<m/\stmF (d.el (i:Int).toNat 0).toI (d.el (i:Int).toNat 1).toS (d.el (i:Int).toNat 2).toS (d.el (i:Int).toNat 3).toI (d.el (i:Int).toNat 4).toI (d.el (i:Int).toNat 5).toS (d.el (i:Int).toNat 6) (d.el (i:Int).toNat 7).toI (d.el (i:Int).toNat 8).toI (d.el (i:Int).toNat 9).toI (d.el (i:Int).toNat 10).toS (d.el (i:Int).toNat 11) (d.el (i:Int).toNat 12).toI (d.el (i:Int).toNat 13).toI (d.el (i:Int).toNat 14).toS (d.el (i:Int).toNat 15) (E89 i) (E88 i) (E87 i)/\(cat w (catTo i (stWE d))).len<=2001/\∃ (j:Nat),j.le d.len/\d.len-j<d.len-i/\IntKind.i64.wrap ((i:Int)+(1:Int))=(j:Int)/\d.rows=d.rows/\(d.len:Int)=(d.len:Int)/\(cat (cat w (catTo i (stWE d))) (E86 i)).len=(cat w (catTo j (stWE d))).len/\List.take (2001:Nat) (List.take (2001:Nat) (w.rows++List.map sR (catTo i (stWE d)))++List.map sR (E86 i))=List.take (2001:Nat) (w.rows++List.map sR (catTo j (stWE d))))/\(decide ((i:Int)<(d.len:Int))=false->(cat w (catTo i (stWE d))).len=(cat w (bW d)).len/\List.take (2001:Nat) (w.rows++List.map sR (catTo i (stWE d)))=List.take (2001:Nat) (w.rows++List.map sR (bW d)))) (by kernel_rfl) ?_
  dsimp +instances only [withv]
  intro hm hf hw;rw [bF_iff] at hf;rw [bW_eq];refine ⟨⟨0,Nat.zero_le _,rfl,rfl,rfl,cat_nil hw⟩,fun i hi=>⟨fun hl=>?_,fun hl=>?_⟩⟩
  ·have hl:=of_decide_eq_true hl;have hi2:i<d.len:=by omega
   have hb:=hf.1;have hw2:IntKind.i64.wrap ((i:Int)+1)=((i+1:Nat):Int):=by rw [IntWalk.i64_in _ (by omega)];omega
   have z1:=lel_lt (j:=16) hi2;have z2:=lel_lt (j:=17) hi2;have z3:=lel_lt (j:=18) hi2;refine ⟨⟨by omega,by omega⟩,rfl,rfl,(show SizeOf.sizeOf (d.el i 16)<m by omega),(show SizeOf.sizeOf (d.el i 17)<m by omega),(show SizeOf.sizeOf (d.el i 18)<m by omega),hf.2 i hi2,cat_le _ _,i+1,hi2,by omega,hw2,rfl,rfl,eqD ?_⟩;rw [cat_cat,catTo_succ];rfl
  ·have hl:=of_decide_eq_false hl;have hi3:i=d.len:=by have:i<=d.len:=hi;omega
   rw [hi3];exact ⟨rfl,rfl⟩
 ·trivial
theorem lwr_ok:ConOK Tryz.prog 138 lwrC:=
 conM_rec lwrM (fun _ _=>by kernel_rfl) fun m ih=>by
  rw [lwr_under] at ih ⊢;exact lwr_step m ih
end Go.Proofs.YtplejbgafjpomaaGreatDoor.Sx.Z
