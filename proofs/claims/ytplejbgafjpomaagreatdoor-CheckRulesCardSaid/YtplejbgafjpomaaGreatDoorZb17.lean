import Derived.Test.YtplejbgafjpomaaGreatDoorZb16
set_option linter.unusedVariables false
set_option linter.unusedSimpArgs false
namespace Go.Proofs.YtplejbgafjpomaaGreatDoor.Sx.Z
open Go.RowKit
def chW (k:Int):ByteArray:=if k=0 then ⟨#[98,108,111,99,107]⟩ else if k=1 then ⟨#[100,114,111,112]⟩ else ⟨#[108,111,115,115,121]⟩
def biW (k:Int):ByteArray:=if k=4 then ⟨#[43]⟩ else if k=5 then ⟨#[45]⟩ else if k=6 then ⟨#[42]⟩ else if k=7 then ⟨#[47]⟩ else ⟨#[37]⟩
def cmW (k:Int):ByteArray:=if k=1 then ⟨#[61,61]⟩ else if k=2 then ⟨#[33,61]⟩ else if k=3 then ⟨#[60]⟩ else if k=4 then ⟨#[60,61]⟩ else if k=5 then ⟨#[62]⟩ else ⟨#[62,61]⟩
def par (b:Bool) (l:List ByteArray):List ByteArray:=if b=true then ⟨#[40]⟩::(l++[⟨#[41]⟩]) else l
def xWb (k n:Int) (s:ByteArray) (q:Nat->Int) (f:Nat->List ByteArray):List ByteArray:=
 if k=1 then [itW n] else if k=2 then [s] else if k=3 then ⟨#[45]⟩::par (brB 3 0 (q 0)) (f 0) else if biB k=true then par (brB k 0 (q 0)) (f 0)++(biW k::par (brB k 1 (q 1)) (f 1)) else []
def kW (d:D) (i:Nat):List ByteArray:=if h:i<d.len then xWb (d.el i 0).toI (d.el i 1).toI (d.el i 2).toS (fun j=>((d.el i 3).el j 0).toI) (fun j=>kW (d.el i 3) j) else []
 termination_by SizeOf.sizeOf d
 decreasing_by exact lel_lt h
def xW (k n:Int) (s:ByteArray) (d:D):List ByteArray:=xWb k n s (fun j=>(d.el j 0).toI) (kW d)
theorem kW_eq {d:D} {i:Nat} (h:i<d.len):kW d i=xW (d.el i 0).toI (d.el i 1).toI (d.el i 2).toS (d.el i 3):=by
 rw [kW,dif_pos h];rfl
def xFb (k n:Int) (s:ByteArray) (len:Nat) (f:Nat->Prop):Prop:=(k=1->nI n)/\(k=2->s.size<=1000000000)/\(k=3->len=1/\f 0)/\(biB k=true->len=2/\f 0/\f 1)
def kF (d:D) (i:Nat):Prop:=if h:i<d.len then xFb (d.el i 0).toI (d.el i 1).toI (d.el i 2).toS (d.el i 3).len (fun j=>kF (d.el i 3) j) else True
 termination_by SizeOf.sizeOf d
 decreasing_by exact lel_lt h
def xF (k n:Int) (s:ByteArray) (d:D):Prop:=xFb k n s d.len (kF d)
theorem kF_eq {d:D} {i:Nat} (h:i<d.len):kF d i=xF (d.el i 0).toI (d.el i 1).toI (d.el i 2).toS (d.el i 3):=by
 rw [kF,dif_pos h];rfl
def wsR (l:List ByteArray):D:=.l (l.map sR)
theorem wsR_len (l:List ByteArray):(wsR l).len=l.length:=List.length_map ..
theorem wsR_el {l:List ByteArray} {j:Nat} (h:j<l.length):((wsR l).el j 0).toS=l[j]:=by
 show ((((l.map sR).getD j []).getD 0 (.i 0))).toS=_;rw [List.getD_eq_getElem?_getD (l:=l.map sR),List.getElem?_map,List.getElem?_eq_getElem h];rfl
theorem put_eq (w:D) (l:List ByteArray):putD w (wsR l)=cat w l:=by
 unfold putD
 congr 1
 rw [wsR_len];unfold wsL
 apply List.ext_getElem
 ·rw [List.length_map,List.length_range]
 ·intro i h1 h2;rw [List.getElem_map,List.getElem_range,wsR_el h2]
theorem wsR_ok {l:List ByteArray} (h:∀ a∈l,a.size<=281474976710656):∀ j,j<(wsR l).len->((wsR l).el j 0).toS.size<=281474976710656:=fun j hj=>by
 rw [wsR_len] at hj;rw [wsR_el hj];exact h _ (List.getElem_mem hj)
theorem ok1 {a:ByteArray} (h:a.size<=281474976710656):∀ j,j<(D.l [[D.s a]]).len->((D.l [[D.s a]]).el j 0).toS.size<=281474976710656:=wsR_ok (l:=[a]) (by simpa using h)
theorem put1s (w:D) (a:ByteArray):putD w ((D.l [[D.s a]]).sub 0 (0+1))=cat w [a]:=put_eq w [a]
theorem eqD {a b:D} (h:a=b):a.len=b.len/\a.rows=b.rows:=by rw [h];exact ⟨rfl,rfl⟩
theorem cat_nil {w:D} (h:w.len<=2001):w.len=(cat w []).len/\w.rows=(cat w []).rows:=by
 constructor
 ·rw [cat_len];show w.len=min 2001 (w.len+0);omega
 ·show w.rows=List.take 2001 (w.rows++[]);rw [List.append_nil,List.take_of_length_le (show w.len<=2001 from h)]
theorem itW_size {n:Int} (h:nI n):(itW n).size<=21:=Lib.itoa_length_le n h.1 h.2
theorem biW_size (k:Int):(biW k).size<=2:=by
 unfold biW
 (repeat' split)<;>decide
theorem cmW_size (k:Int):(cmW k).size<=2:=by
 unfold cmW
 (repeat' split)<;>decide
theorem chW_size (k:Int):(chW k).size<=5:=by
 unfold chW
 (repeat' split)<;>decide
noncomputable def chwS:FSpec:=fun ds _=>match ds with
 | [.i k]=>some {val:=.one (.sc (.raw (.string (chW k)))),vc:=[]}
 |_=>none
noncomputable def chwC:Con:=con [lI] chwS
theorem chw_ok:ConOK Tryz.prog 136 chwC:=by
 refine fn_ob tt_ok mixed Tryz.func136 rfl (fun _ _=>by kernel_rfl) (A:=fun ds=>⟨fun _=>Cons.of [],fun _=>none,fun _=>none⟩) (fun _ _=>cons_nil) (by kernel_rfl) ?_
 intro ds fr;unfold chwS;split
 ·rename_i k;refine kmp (q:=((k==(0:Int))=true->Value.string {data:=#[(98:UInt8),(108:UInt8),(111:UInt8),(99:UInt8),(107:UInt8)]}=Value.string (chW k))/\((k==(0:Int))=false->((k==(1:Int))=true->Value.string {data:=#[(100:UInt8),(114:UInt8),(111:UInt8),(112:UInt8)]}=Value.string (chW k))/\((k==(1:Int))=false->Value.string {data:=#[(108:UInt8),(111:UInt8),(115:UInt8),(115:UInt8),(121:UInt8)]}=Value.string (chW k)))) (by kernel_rfl) ?_
  refine ⟨fun h=>?_,fun n1=>⟨fun h=>?_,fun n2=>?_⟩⟩
  iterate 2 (obtain rfl:=eq_of_beq h;rfl)
  unfold chW;rw [if_neg (ne_of_beq_false n1),if_neg (ne_of_beq_false n2)]
 ·trivial
noncomputable def biwS:FSpec:=fun ds _=>match ds with
 | [.i k]=>some {val:=.one (.sc (.raw (.string (biW k)))),vc:=[]}
 |_=>none
noncomputable def biwC:Con:=con [lI] biwS
theorem biw_ok:ConOK Tryz.prog 192 biwC:=by
 refine fn_ob tt_ok mixed Tryz.func192 rfl (fun _ _=>by kernel_rfl) (A:=fun ds=>⟨fun _=>Cons.of [],fun _=>none,fun _=>none⟩) (fun _ _=>cons_nil) (by kernel_rfl) ?_
 intro ds fr;unfold biwS;split
 ·rename_i k;refine kmp (q:=((k==(4:Int))=true->Value.string {data:=#[(43:UInt8)]}=Value.string (biW k))/\((k==(4:Int))=false->((k==(5:Int))=true->Value.string {data:=#[(45:UInt8)]}=Value.string (biW k))/\((k==(5:Int))=false->((k==(6:Int))=true->Value.string {data:=#[(42:UInt8)]}=Value.string (biW k))/\((k==(6:Int))=false->((k==(7:Int))=true->Value.string {data:=#[(47:UInt8)]}=Value.string (biW k))/\((k==(7:Int))=false->Value.string {data:=#[(37:UInt8)]}=Value.string (biW k)))))) (by kernel_rfl) ?_
  refine ⟨fun h=>?_,fun n1=>⟨fun h=>?_,fun n2=>⟨fun h=>?_,fun n3=>⟨fun h=>?_,fun n4=>?_⟩⟩⟩⟩
  iterate 4 (obtain rfl:=eq_of_beq h;rfl)
  unfold biW;rw [if_neg (ne_of_beq_false n1),if_neg (ne_of_beq_false n2),if_neg (ne_of_beq_false n3),if_neg (ne_of_beq_false n4)]
 ·trivial
noncomputable def cmwS:FSpec:=fun ds _=>match ds with
 | [.i k]=>some {val:=.one (.sc (.raw (.string (cmW k)))),vc:=[]}
 |_=>none
noncomputable def cmwC:Con:=con [lI] cmwS
theorem cmw_ok:ConOK Tryz.prog 193 cmwC:=by
 refine fn_ob tt_ok mixed Tryz.func193 rfl (fun _ _=>by kernel_rfl) (A:=fun ds=>⟨fun _=>Cons.of [],fun _=>none,fun _=>none⟩) (fun _ _=>cons_nil) (by kernel_rfl) ?_
 intro ds fr;unfold cmwS;split
 ·rename_i k;refine kmp (q:=((k==(1:Int))=true->Value.string {data:=#[(61:UInt8),(61:UInt8)]}=Value.string (cmW k))/\((k==(1:Int))=false->((k==(2:Int))=true->Value.string {data:=#[(33:UInt8),(61:UInt8)]}=Value.string (cmW k))/\((k==(2:Int))=false->((k==(3:Int))=true->Value.string {data:=#[(60:UInt8)]}=Value.string (cmW k))/\((k==(3:Int))=false->((k==(4:Int))=true->Value.string {data:=#[(60:UInt8),(61:UInt8)]}=Value.string (cmW k))/\((k==(4:Int))=false->((k==(5:Int))=true->Value.string {data:=#[(62:UInt8)]}=Value.string (cmW k))/\((k==(5:Int))=false->Value.string {data:=#[(62:UInt8),(61:UInt8)]}=Value.string (cmW k))))))) (by kernel_rfl) ?_
  refine ⟨fun h=>?_,fun n1=>⟨fun h=>?_,fun n2=>⟨fun h=>?_,fun n3=>⟨fun h=>?_,fun n4=>⟨fun h=>?_,fun n5=>?_⟩⟩⟩⟩⟩
  iterate 5 (obtain rfl:=eq_of_beq h;rfl)
  unfold cmW;rw [if_neg (ne_of_beq_false n1),if_neg (ne_of_beq_false n2),if_neg (ne_of_beq_false n3),if_neg (ne_of_beq_false n4),if_neg (ne_of_beq_false n5)]
 ·trivial
noncomputable def xwrS:List Dat->Option (Eff × List Seg):=fun ds=>match ds with
 | [.d w,.i k,.i n,.s s,.d d]=>some ({val:=.tup [],vc:=[xF k n s d,w.len<=2001],nw:=[(0,.orow 9 (cat w (xW k n s d)))]},[.c (.osl 9 0 (.lit 0) (.sym (cat w (xW k n s d)).len))])
 |_=>none
noncomputable def xwrC:Con:=conM 174 [.own 9] [lX] xwrS
noncomputable def xwrM:List Dat->Nat:=fun ds=>match ds with
 | [.d w,.i k,.i n,.s s,.d d]=>SizeOf.sizeOf d
 |_=>0
noncomputable def xwrSu (m:Nat):List Dat->Option (Eff × List Seg):=fun ds=>match ds with
 | [.d w,.i k,.i n,.s s,.d d]=>some ({val:=.tup [],vc:=[SizeOf.sizeOf d<m,xF k n s d,w.len<=2001],nw:=[(0,.orow 9 (cat w (xW k n s d)))]},[.c (.osl 9 0 (.lit 0) (.sym (cat w (xW k n s d)).len))])
 |_=>none
theorem xwr_under (m:Nat):underM xwrS xwrM m=xwrSu m:=by
 funext ds
 unfold underM xwrS xwrM xwrSu;split
 ·rename_i e sg h
  split at h
  ·obtain ⟨rfl,rfl⟩:=Prod.mk.inj (Option.some.inj h);rfl
  ·cases h
 ·rename_i h
  split at h
  ·cases h
  ·rfl
noncomputable def kwrS (m:Nat):List Dat->Option (Eff × List Seg):=fun ds=>match ds with
 | [.d w,.i k,.i n,.s s,.d d,.i i]=>some ({val:=.tup [],vc:=[SizeOf.sizeOf d<m+1,0<=i/\i<d.len,kF d i.toNat,w.len<=2001],nw:=[(0,.orow 9 (cat w (par (brB k i (d.el i.toNat 0).toI) (kW d i.toNat))))]},[.c (.osl 9 0 (.lit 0) (.sym (cat w (par (brB k i (d.el i.toNat 0).toI) (kW d i.toNat))).len))])
 |_=>none
noncomputable def kwrC (m:Nat):Con:=conM 174 [.own 9] [lX,lI] (kwrS m)
theorem kwr_ok {m:Nat} (ih:ConOK Tryz.prog 176 (conM 174 [.own 9] [lX] (xwrSu m))):ConOK Tryz.prog 191 (kwrC m):=by
 refine fn_obM tt_ok mixed Tryz.func191 rfl (fun _ _=>by kernel_rfl) (A:=fun ds=>⟨fun _=>Cons.of [(135,putC),(186,brrC),(176,conM 174 [.own 9] [lX] (xwrSu m))],fun _=>none,fun _=>none⟩) (fun _ _=>(cons_cons put_ok (cons_cons brr_ok (cons_cons ih cons_nil)))) (by kernel_rfl) ?_
 intro ds;unfold kwrS;split
 ·rename_i w k n s d i;refine kmp (q:=withv (xW (d.el i.toNat 0).toI (d.el i.toNat 1).toI (d.el i.toNat 2).toS (d.el i.toNat 3)) fun E45=>withv ((D.l [[D.s {data:=#[(40:UInt8)]}]]).sub (0:Nat) 1) fun E46=>withv ((D.l [[D.s {data:=#[(41:UInt8)]}]]).sub (0:Nat) 1) fun E47=>withv (d.el i.toNat 3) fun E48=>withv (par (brB k i (d.el i.toNat 0).toI) (kW d i.toNat)) fun E49=>SizeOf.sizeOf d<m+(1:Nat)->(0:Int)<=i/\i<(d.len:Int)->kF d i.toNat->w.len<=2001->((0:Int)<=i/\i<(d.len:Int))/\((!brB k i (d.el i.toNat 0).toI)=true->((0:Int)<=i/\i<(d.len:Int))/\(0:Nat)=(0:Nat)/\w.len=w.len/\SizeOf.sizeOf E48<m/\xF (d.el i.toNat 0).toI (d.el i.toNat 1).toI (d.el i.toNat 2).toS E48/\w.len<=2001/\(cat w E45).len=(cat w E49).len/\List.take (2001:Nat) (w.rows++List.map sR E45)=List.take (2001:Nat) (w.rows++List.map sR E49))/\((!brB k i (d.el i.toNat 0).toI)=false->(0:Nat)=(0:Nat)/\w.len=w.len/\(0:Nat)+(1:Nat)<=(D.l [[D.s {data:=#[(40:UInt8)]}]]).len/\w.len<=2001/\E46.len<=1000/\(∀ (j:Nat),j<E46.len->(E46.el j 0).toS.size<=281474976710656)/\((0:Int)<=i/\i<(d.len:Int))/\(0:Nat)=(0:Nat)/\(putD w E46).len=(putD w E46).len/\SizeOf.sizeOf E48<m/\xF (d.el i.toNat 0).toI (d.el i.toNat 1).toI (d.el i.toNat 2).toS E48/\(putD w E46).len<=2001/\(0:Nat)=(0:Nat)/\(cat (putD w E46) E45).len=(cat (putD w E46) E45).len/\(0:Nat)+(1:Nat)<=(D.l [[D.s {data:=#[(41:UInt8)]}]]).len/\(cat (putD w E46) E45).len<=2001/\E47.len<=1000/\(∀ (j:Nat),j<E47.len->(E47.el j 0).toS.size<=281474976710656)/\(putD (cat (putD w E46) E45) E47).len=(cat w E49).len/\List.take (2001:Nat) (List.take (2001:Nat) (List.take (2001:Nat) (w.rows++List.map sR (wsL E46 E46.len))++List.map sR E45)++List.map sR (wsL E47 E47.len))=List.take (2001:Nat) (w.rows++List.map sR E49))) (by kernel_rfl) ?_
  dsimp +instances only [withv]
  intro hm hi hk hw;have o1:(1:Nat)<=1000:=by decide
  have hl:i.toNat<d.len:=by omega
  have z:SizeOf.sizeOf (d.el i.toNat (0+1+1+1))<m:=by have:=lel_lt (j:=3) hl;show SizeOf.sizeOf (d.el i.toNat 3)<m;omega
  have hk2:=hk;rw [kF_eq hl] at hk2;have ek:=kW_eq hl;refine ⟨hi,fun hb=>⟨hi,rfl,rfl,z,hk2,hw,eqD ?_⟩,fun hb=>⟨rfl,rfl,Nat.le_refl _,hw,o1,ok1 (by decide),hi,rfl,rfl,z,hk2,cat_le _ _,rfl,rfl,Nat.le_refl _,cat_le _ _,o1,ok1 (by decide),eqD ?_⟩⟩
  ·rw [Bool.not_eq_true'] at hb;rw [hb,ek];rfl
  ·rw [Bool.not_eq_false'] at hb;rw [put1s,cat_cat,put1s,cat_cat,hb,ek];rfl
 ·trivial
theorem xwr_step (m:Nat) (ih:ConOK Tryz.prog 176 (conM 174 [.own 9] [lX] (xwrSu m))):ConOK Tryz.prog 176 (conM 174 [.own 9] [lX] (xwrSu (m+1))):=by
 refine fn_obM tt_ok mixed Tryz.func176 rfl (fun _ _=>by kernel_rfl) (A:=fun ds=>⟨fun _=>Cons.of [(135,putC),(137,itC),(173,isbinC),(192,biwC),(191,(kwrC m))],fun _=>none,fun _=>none⟩) (fun _ _=>(cons_cons put_ok (cons_cons it_ok (cons_cons isbin_ok (cons_cons biw_ok (cons_cons (kwr_ok ih) cons_nil)))))) (by kernel_rfl) ?_
 intro ds;unfold xwrSu;split
 ·rename_i w k n s d;refine kmp (q:=withv (par (brB k (0:Int) (d.el (Int.toNat (0:Int)) (0:Nat)).toI) (kW d (Int.toNat (0:Int)))) fun E50=>withv ((D.l [[D.s {data:=#[(45:UInt8)]}]]).sub (0:Nat) 1) fun E51=>withv ((D.l [[D.s (biW k)]]).sub (0:Nat) 1) fun E52=>withv ((D.l [[D.s (itW n)]]).sub (0:Nat) 1) fun E53=>withv ((D.l [[D.s s]]).sub (0:Nat) 1) fun E54=>withv (w.rows++List.map sR (xW k n s d)) fun E55=>withv (par (brB k (1:Int) (d.el (Int.toNat (1:Int)) (0:Nat)).toI) (kW d (Int.toNat (1:Int)))) fun E56=>SizeOf.sizeOf d<m+(1:Nat)->xF k n s d->w.len<=2001->((k==(1:Int))=true->nI n/\(0:Nat)=(0:Nat)/\w.len=w.len/\(0:Nat)+(1:Nat)<=(D.l [[D.s (itW n)]]).len/\w.len<=2001/\E53.len<=1000/\(∀ (j:Nat),j<E53.len->(E53.el j 0).toS.size<=281474976710656)/\(putD w E53).len=(cat w (xW k n s d)).len/\List.take (2001:Nat) (w.rows++List.map sR (wsL E53 E53.len))=List.take (2001:Nat) E55)/\((k==(1:Int))=false->((k==(2:Int))=true->(0:Nat)=(0:Nat)/\w.len=w.len/\(0:Nat)+(1:Nat)<=(D.l [[D.s s]]).len/\w.len<=2001/\E54.len<=1000/\(∀ (j:Nat),j<E54.len->(E54.el j 0).toS.size<=281474976710656)/\(putD w E54).len=(cat w (xW k n s d)).len/\List.take (2001:Nat) (w.rows++List.map sR (wsL E54 E54.len))=List.take (2001:Nat) E55)/\((k==(2:Int))=false->((k==(3:Int))=true->(0:Nat)=(0:Nat)/\w.len=w.len/\(0:Nat)+(1:Nat)<=(D.l [[D.s {data:=#[(45:UInt8)]}]]).len/\w.len<=2001/\E51.len<=1000/\(∀ (j:Nat),j<E51.len->(E51.el j 0).toS.size<=281474976710656)/\(0:Nat)=(0:Nat)/\(putD w E51).len=(putD w E51).len/\SizeOf.sizeOf d<m+(1:Nat)/\((0:Int)<=(0:Int)/\(0:Int)<(d.len:Int))/\kF d (Int.toNat (0:Int))/\(putD w E51).len<=2001/\(cat (putD w E51) E50).len=(cat w (xW k n s d)).len/\List.take (2001:Nat) (List.take (2001:Nat) (w.rows++List.map sR (wsL E51 E51.len))++List.map sR E50)=List.take (2001:Nat) E55)/\((k==(3:Int))=false->(biB k=true->(0:Nat)=(0:Nat)/\w.len=w.len/\SizeOf.sizeOf d<m+(1:Nat)/\((0:Int)<=(0:Int)/\(0:Int)<(d.len:Int))/\kF d (Int.toNat (0:Int))/\w.len<=2001/\(0:Nat)=(0:Nat)/\(cat w E50).len=(cat w E50).len/\(0:Nat)+(1:Nat)<=(D.l [[D.s (biW k)]]).len/\(cat w E50).len<=2001/\E52.len<=1000/\(∀ (j:Nat),j<E52.len->(E52.el j 0).toS.size<=281474976710656)/\(0:Nat)=(0:Nat)/\(putD (cat w E50) E52).len=(putD (cat w E50) E52).len/\SizeOf.sizeOf d<m+(1:Nat)/\((0:Int)<=(1:Int)/\(1:Int)<(d.len:Int))/\kF d (Int.toNat (1:Int))/\(putD (cat w E50) E52).len<=2001/\(cat (putD (cat w E50) E52) E56).len=(cat w (xW k n s d)).len/\List.take (2001:Nat) (List.take (2001:Nat) (List.take (2001:Nat) (w.rows++List.map sR E50)++List.map sR (wsL E52 E52.len))++List.map sR E56)=List.take (2001:Nat) E55)/\(biB k=false->w.len=(cat w (xW k n s d)).len/\w.rows=List.take (2001:Nat) E55))))) (by kernel_rfl) ?_
  dsimp +instances only [withv]
  intro hm hf hw;have o1:(1:Nat)<=1000:=by decide
  unfold xF xFb at hf;obtain ⟨f1,f2,f3,f4⟩:=hf;refine ⟨fun h=>?_,fun n1=>⟨fun h=>?_,fun n2=>⟨fun h=>?_,fun n3=>⟨fun h=>?_,fun n4=>?_⟩⟩⟩⟩
  ·obtain rfl:=eq_of_beq h;have hn:=f1 rfl;have:=itW_size hn;exact ⟨hn,rfl,rfl,Nat.le_refl _,hw,o1,ok1 (by omega),eqD (put_eq w [itW n])⟩
  ·obtain rfl:=eq_of_beq h;have hn:=f2 rfl;exact ⟨rfl,rfl,Nat.le_refl _,hw,o1,ok1 (by omega),eqD (put_eq w [s])⟩
  ·obtain rfl:=eq_of_beq h;obtain ⟨hl,hk⟩:=f3 rfl;refine ⟨rfl,rfl,Nat.le_refl _,hw,o1,ok1 (by decide),rfl,rfl,hm,by omega,hk,cat_le _ _,eqD ?_⟩;rw [put1s,cat_cat];rfl
  ·obtain ⟨hl,k0,k1⟩:=f4 h;have:=biW_size k;refine ⟨rfl,rfl,hm,by omega,k0,hw,rfl,rfl,Nat.le_refl _,cat_le _ _,o1,ok1 (by omega),rfl,rfl,hm,by omega,k1,cat_le _ _,eqD ?_⟩;rw [put1s,cat_cat,cat_cat]
   congr 1
   unfold xW xWb;rw [if_neg (ne_of_beq_false n1),if_neg (ne_of_beq_false n2),if_neg (ne_of_beq_false n3),if_pos h];rfl
  ·have e:xW k n s d=[]:=by
    unfold xW xWb;rw [if_neg (ne_of_beq_false n1),if_neg (ne_of_beq_false n2),if_neg (ne_of_beq_false n3),if_neg (by rw [n4];decide)]
   rw [e];exact cat_nil hw
 ·trivial
theorem xwr_ok:ConOK Tryz.prog 176 xwrC:=
 conM_rec xwrM (fun _ _=>by kernel_rfl) fun m ih=>by
  rw [xwr_under] at ih ⊢;exact xwr_step m ih
def cW (op lk ln:Int) (ls:ByteArray) (ld:D) (rk rn:Int) (rs:ByteArray) (rd:D):List ByteArray:=⟨#[40]⟩::(xW lk ln ls ld++(cmW op::(xW rk rn rs rd++[⟨#[41]⟩])))
def cF (lk ln:Int) (ls:ByteArray) (ld:D) (rk rn:Int) (rs:ByteArray) (rd:D):Prop:=xF lk ln ls ld/\xF rk rn rs rd
def blW (l:List ByteArray):List ByteArray:=⟨#[123]⟩::(l++[⟨#[125]⟩])
def catTo (n:Nat) (f:Nat->List ByteArray):List ByteArray:=((List.range n).map f).flatten
theorem catTo_succ (n:Nat) (f:Nat->List ByteArray):catTo (n+1) f=catTo n f++f n:=by
 unfold catTo;rw [List.range_succ,List.map_append,List.flatten_append]
 simp
theorem catF_eq {n:Nat} (f:Nat->List ByteArray):((List.finRange n).map fun i=>f i.1).flatten=catTo n f:=by
 unfold catTo
 congr 1
 apply List.ext_getElem
 ·simp
 ·intro i h1 h2
  simp
theorem put2s (w:D) (a b:ByteArray):putD w ((D.l [[D.s a],[D.s b]]).sub 0 (0+2))=cat w [a,b]:=put_eq w [a,b]
theorem put3s (w:D) (a b c:ByteArray):putD w ((D.l [[D.s a],[D.s b],[D.s c]]).sub 0 (0+3))=cat w [a,b,c]:=put_eq w [a,b,c]
theorem put4s (w:D) (a b c d:ByteArray):putD w ((D.l [[D.s a],[D.s b],[D.s c],[D.s d]]).sub 0 (0+4))=cat w [a,b,c,d]:=put_eq w [a,b,c,d]
theorem put5s (w:D) (a b c d e:ByteArray):putD w ((D.l [[D.s a],[D.s b],[D.s c],[D.s d],[D.s e]]).sub 0 (0+5))=cat w [a,b,c,d,e]:=put_eq w [a,b,c,d,e]
def szz (s:ByteArray):Prop:=s.size<=281474976710656
theorem ok2 {a b:ByteArray} (ha:szz a) (hb:szz b):∀ j,j<(wsR [a,b]).len->((wsR [a,b]).el j 0).toS.size<=281474976710656:=wsR_ok fun x hx=>by
 simp only [List.mem_cons,List.not_mem_nil,or_false] at hx
 rcases hx with rfl |rfl<;>assumption
theorem ok3 {a b c:ByteArray} (ha:szz a) (hb:szz b) (hc:szz c):∀ j,j<(wsR [a,b,c]).len->((wsR [a,b,c]).el j 0).toS.size<=281474976710656:=wsR_ok fun x hx=>by
 simp only [List.mem_cons,List.not_mem_nil,or_false] at hx
 rcases hx with rfl |rfl |rfl<;>assumption
theorem ok4 {a b c d:ByteArray} (ha:szz a) (hb:szz b) (hc:szz c) (hd:szz d):∀ j,j<(wsR [a,b,c,d]).len->((wsR [a,b,c,d]).el j 0).toS.size<=281474976710656:=wsR_ok fun x hx=>by
 simp only [List.mem_cons,List.not_mem_nil,or_false] at hx
 rcases hx with rfl |rfl |rfl |rfl<;>assumption
theorem ok5 {a b c d e:ByteArray} (ha:szz a) (hb:szz b) (hc:szz c) (hd:szz d) (he:szz e):∀ j,j<(wsR [a,b,c,d,e]).len->((wsR [a,b,c,d,e]).el j 0).toS.size<=281474976710656:=wsR_ok fun x hx=>by
 simp only [List.mem_cons,List.not_mem_nil,or_false] at hx
 rcases hx with rfl |rfl |rfl |rfl |rfl<;>assumption
def stWF (k:Int) (nm tg:ByteArray) (e c b el:List ByteArray) (hel:Bool) (a:List ByteArray):List ByteArray:=
 if k=1 then nm::⟨#[61]⟩::(e++[⟨#[59]⟩]) else if k=2 then ⟨#[105,102]⟩::(c++(b++(if hel=true then ⟨#[101,108,115,101]⟩::el else []))) else if k=3 then ⟨#[119,104,105,108,101]⟩::(c++b) else if k=4 then ⟨#[115,101,110,100]⟩::nm::⟨#[46]⟩::tg::⟨#[40]⟩::(e++[⟨#[41]⟩,⟨#[59]⟩]) else if k=5 then ⟨#[114,101,99,118]⟩::nm::⟨#[123]⟩::(a++[⟨#[125]⟩]) else if k=6 then ⟨#[97,115,115,101,114,116]⟩::(c++[⟨#[59]⟩]) else if k=7 then [⟨#[105,110,112,117,116]⟩,nm,⟨#[59]⟩] else []
def arWF (tg v:ByteArray) (b:List ByteArray):List ByteArray:=tg::⟨#[40]⟩::v::⟨#[41]⟩::blW b
def bW (d:D):List ByteArray:=((List.finRange d.len).map fun (i:Fin d.len)=>stWF (d.el i 0).toI (d.el i 1).toS (d.el i 2).toS (xW (d.el i 3).toI (d.el i 4).toI (d.el i 5).toS (d.el i 6)) (cW (d.el i 7).toI (d.el i 8).toI (d.el i 9).toI (d.el i 10).toS (d.el i 11) (d.el i 12).toI (d.el i 13).toI (d.el i 14).toS (d.el i 15)) (blW (bW (d.el i 16))) (blW (bW (d.el i 17))) (decide (((d.el i 17).len:Int)>0))
    ((List.finRange (d.el i 18).len).map fun (j:Fin (d.el i 18).len)=>arWF ((d.el i 18).el j 0).toS ((d.el i 18).el j 1).toS (bW ((d.el i 18).el j 2))).flatten).flatten
 termination_by SizeOf.sizeOf d
 decreasing_by
  ·exact lel_lt i.isLt
  ·exact lel_lt i.isLt
  ·exact Nat.lt_trans (lel_lt j.isLt) (lel_lt i.isLt)
def arW (am:D) (j:Nat):List ByteArray:=arWF (am.el j 0).toS (am.el j 1).toS (bW (am.el j 2))
def stW (k:Int) (nm tg:ByteArray) (ek en:Int) (es:ByteArray) (ed:D) (op lk ln:Int) (ls:ByteArray) (ld:D) (rk rn:Int) (rs:ByteArray) (rd bd eb am:D):List ByteArray:=
 stWF k nm tg (xW ek en es ed) (cW op lk ln ls ld rk rn rs rd) (blW (bW bd)) (blW (bW eb)) (decide ((eb.len:Int)>0)) (catTo am.len (arW am))
def stWE (d:D) (i:Nat):List ByteArray:=stW (d.el i 0).toI (d.el i 1).toS (d.el i 2).toS (d.el i 3).toI (d.el i 4).toI (d.el i 5).toS (d.el i 6) (d.el i 7).toI (d.el i 8).toI (d.el i 9).toI (d.el i 10).toS (d.el i 11) (d.el i 12).toI (d.el i 13).toI (d.el i 14).toS (d.el i 15) (d.el i 16) (d.el i 17) (d.el i 18)
theorem bW_eq (d:D):bW d=catTo d.len (stWE d):=by
 rw [bW,<- catF_eq]
 congr 2
 funext i
 unfold stWE stW;rw [<- catF_eq];rfl
def sz (s:ByteArray):Prop:=s.size<=1000000000
theorem sz.z {s:ByteArray} (h:sz s):szz s:=Nat.le_trans h (by decide)
def stFF (k:Int) (nm tg:ByteArray) (e c b el a:Prop):Prop:=
 (k=1->sz nm/\e)/\(k=2->c/\b/\el)/\(k=3->c/\b)/\(k=4->sz nm/\sz tg/\e)/\(k=5->sz nm/\a)/\(k=6->c)/\(k=7->sz nm)
def bF (d:D):Prop:=d.len<=10000000000000/\∀ i:Fin d.len,stFF (d.el i 0).toI (d.el i 1).toS (d.el i 2).toS (xF (d.el i 3).toI (d.el i 4).toI (d.el i 5).toS (d.el i 6)) (cF (d.el i 8).toI (d.el i 9).toI (d.el i 10).toS (d.el i 11) (d.el i 12).toI (d.el i 13).toI (d.el i 14).toS (d.el i 15)) (bF (d.el i 16)) (bF (d.el i 17))
    ((d.el i 18).len<=10000000000000/\∀ j:Fin (d.el i 18).len,sz ((d.el i 18).el j 0).toS/\sz ((d.el i 18).el j 1).toS/\bF ((d.el i 18).el j 2))
 termination_by SizeOf.sizeOf d
 decreasing_by
  ·exact lel_lt i.isLt
  ·exact lel_lt i.isLt
  ·exact Nat.lt_trans (lel_lt j.isLt) (lel_lt i.isLt)
def amsF (am:D):Prop:=am.len<=10000000000000/\∀ j,j<am.len->sz (am.el j 0).toS/\sz (am.el j 1).toS/\bF (am.el j 2)
def stmF (k:Int) (nm tg:ByteArray) (ek en:Int) (es:ByteArray) (ed:D) (_op lk ln:Int) (ls:ByteArray) (ld:D) (rk rn:Int) (rs:ByteArray) (rd bd eb am:D):Prop:=
 stFF k nm tg (xF ek en es ed) (cF lk ln ls ld rk rn rs rd) (bF bd) (bF eb) (amsF am)
def stFE (d:D) (i:Nat):Prop:=stmF (d.el i 0).toI (d.el i 1).toS (d.el i 2).toS (d.el i 3).toI (d.el i 4).toI (d.el i 5).toS (d.el i 6) (d.el i 7).toI (d.el i 8).toI (d.el i 9).toI (d.el i 10).toS (d.el i 11) (d.el i 12).toI (d.el i 13).toI (d.el i 14).toS (d.el i 15) (d.el i 16) (d.el i 17) (d.el i 18)
theorem amF_iff (am:D):(am.len<=10000000000000/\∀ j:Fin am.len,sz (am.el j 0).toS/\sz (am.el j 1).toS/\bF (am.el j 2))↔amsF am:=
 ⟨fun h=>⟨h.1,fun j hj=>h.2 ⟨j,hj⟩⟩,fun h=>⟨h.1,fun j=>h.2 j.1 j.2⟩⟩
theorem bF_iff (d:D):bF d↔d.len<=10000000000000/\∀ i,i<d.len->stFE d i:=by
 rw [bF];refine and_congr_right fun _=>⟨fun h i hi=>?_,fun h i=>?_⟩
 ·have:=h ⟨i,hi⟩;rw [amF_iff] at this;exact this
 ·rw [amF_iff];exact h i.1 i.2
noncomputable def cwrS:List Dat->Option (Eff × List Seg):=fun ds=>match ds with
 | [.d w,.i op,.i lk,.i ln,.s ls,.d ld,.i rk,.i rn,.s rs,.d rd]=>some ({val:=.tup [],vc:=[cF lk ln ls ld rk rn rs rd,w.len<=2001],nw:=[(0,.orow 9 (cat w (cW op lk ln ls ld rk rn rs rd)))]},[.c (.osl 9 0 (.lit 0) (.sym (cat w (cW op lk ln ls ld rk rn rs rd)).len))])
 |_=>none
noncomputable def cwrC:Con:=conM 174 [.own 9] [lCo] cwrS
theorem cwr_ok:ConOK Tryz.prog 177 cwrC:=by
 refine fn_obM tt_ok mixed Tryz.func177 rfl (fun _ _=>by kernel_rfl) (A:=fun ds=>⟨fun _=>Cons.of [(135,putC),(176,xwrC),(193,cmwC)],fun _=>none,fun _=>none⟩) (fun _ _=>(cons_cons put_ok (cons_cons xwr_ok (cons_cons cmw_ok cons_nil)))) (by kernel_rfl) ?_
 intro ds;unfold cwrS;split
 ·rename_i w op lk ln ls ld rk rn rs rd;refine kmp (q:=withv ((D.l [[D.s {data:=#[(40:UInt8)]}]]).sub (0:Nat) 1) fun E57=>withv ((D.l [[D.s (cmW op)]]).sub (0:Nat) 1) fun E58=>withv ((D.l [[D.s {data:=#[(41:UInt8)]}]]).sub (0:Nat) 1) fun E59=>withv (cat (putD w E57) (xW lk ln ls ld)) fun E60=>withv (cat (putD E60 E58) (xW rk rn rs rd)) fun E61=>cF lk ln ls ld rk rn rs rd->w.len<=2001->(0:Nat)=(0:Nat)/\w.len=w.len/\(0:Nat)+(1:Nat)<=(D.l [[D.s {data:=#[(40:UInt8)]}]]).len/\w.len<=2001/\E57.len<=1000/\(∀ (j:Nat),j<E57.len->(E57.el j 0).toS.size<=281474976710656)/\(0:Nat)=(0:Nat)/\(putD w E57).len=(putD w E57).len/\xF lk ln ls ld/\(putD w E57).len<=2001/\(0:Nat)=(0:Nat)/\E60.len=E60.len/\(0:Nat)+(1:Nat)<=(D.l [[D.s (cmW op)]]).len/\E60.len<=2001/\E58.len<=1000/\(∀ (j:Nat),j<E58.len->(E58.el j 0).toS.size<=281474976710656)/\(0:Nat)=(0:Nat)/\(putD E60 E58).len=(putD E60 E58).len/\xF rk rn rs rd/\(putD E60 E58).len<=2001/\(0:Nat)=(0:Nat)/\E61.len=E61.len/\(0:Nat)+(1:Nat)<=(D.l [[D.s {data:=#[(41:UInt8)]}]]).len/\E61.len<=2001/\E59.len<=1000/\(∀ (j:Nat),j<E59.len->(E59.el j 0).toS.size<=281474976710656)/\(putD E61 E59).len=(cat w (cW op lk ln ls ld rk rn rs rd)).len/\List.take (2001:Nat) (List.take (2001:Nat) (List.take (2001:Nat) (List.take (2001:Nat) (List.take (2001:Nat) (w.rows++List.map sR (wsL E57 E57.len))++List.map sR (xW lk ln ls ld))++List.map sR (wsL E58 E58.len))++List.map sR (xW rk rn rs rd))++List.map sR (wsL E59 E59.len))=List.take (2001:Nat) (w.rows++List.map sR (cW op lk ln ls ld rk rn rs rd))) (by kernel_rfl) ?_
  dsimp +instances only [withv]
  intro hf hw;have o1:(1:Nat)<=1000:=by decide
  have:=cmW_size op;refine ⟨rfl,rfl,Nat.le_refl _,hw,o1,ok1 (by decide),rfl,rfl,hf.1,cat_le _ _,rfl,rfl,Nat.le_refl _,cat_le _ _,o1,ok1 (by omega),rfl,rfl,hf.2,cat_le _ _,rfl,rfl,Nat.le_refl _,cat_le _ _,o1,ok1 (by decide),eqD ?_⟩;simp only [put1s,cat_cat];unfold cW;simp only [List.append_assoc,List.cons_append,List.nil_append]
 ·trivial
noncomputable def lwrS:List Dat->Option (Eff × List Seg):=fun ds=>match ds with
 | [.d w,.d d]=>some ({val:=.tup [],vc:=[bF d,w.len<=2001],nw:=[(0,.orow 9 (cat w (bW d)))]},[.c (.osl 9 0 (.lit 0) (.sym (cat w (bW d)).len))])
 |_=>none
noncomputable def lwrC:Con:=conM 174 [.own 9] [lBo] lwrS
noncomputable def lwrM:List Dat->Nat:=fun ds=>match ds with
 | [.d _w,.d d]=>SizeOf.sizeOf d
 |_=>0
noncomputable def lwrSu (m:Nat):List Dat->Option (Eff × List Seg):=fun ds=>match ds with
 | [.d w,.d d]=>some ({val:=.tup [],vc:=[SizeOf.sizeOf d<m,bF d,w.len<=2001],nw:=[(0,.orow 9 (cat w (bW d)))]},[.c (.osl 9 0 (.lit 0) (.sym (cat w (bW d)).len))])
 |_=>none
theorem lwr_under (m:Nat):underM lwrS lwrM m=lwrSu m:=by
 funext ds
 unfold underM lwrS lwrM lwrSu;split
 ·rename_i e sg h
  split at h
  ·obtain ⟨rfl,rfl⟩:=Prod.mk.inj (Option.some.inj h);rfl
  ·cases h
 ·rename_i h
  split at h
  ·cases h
  ·rfl
noncomputable def blwS (m:Nat):List Dat->Option (Eff × List Seg):=fun ds=>match ds with
 | [.d w,.d d]=>some ({val:=.tup [],vc:=[SizeOf.sizeOf d<m,bF d,w.len<=2001],nw:=[(0,.orow 9 (cat w (blW (bW d))))]},[.c (.osl 9 0 (.lit 0) (.sym (cat w (blW (bW d))).len))])
 |_=>none
noncomputable def blwC (m:Nat):Con:=conM 174 [.own 9] [lBo] (blwS m)
theorem blw_ok {m:Nat} (ih:ConOK Tryz.prog 138 (conM 174 [.own 9] [lBo] (lwrSu m))):ConOK Tryz.prog 178 (blwC m):=by
 refine fn_obM tt_ok mixed Tryz.func178 rfl (fun _ _=>by kernel_rfl) (A:=fun ds=>⟨fun _=>Cons.of [(135,putC),(138,conM 174 [.own 9] [lBo] (lwrSu m))],fun _=>none,fun _=>none⟩) (fun _ _=>(cons_cons put_ok (cons_cons ih cons_nil))) (by kernel_rfl) ?_
 intro ds;unfold blwS;split
 ·rename_i w d;refine kmp (q:=withv ((D.l [[D.s {data:=#[(123:UInt8)]}]]).sub (0:Nat) 1) fun E62=>withv ((D.l [[D.s {data:=#[(125:UInt8)]}]]).sub (0:Nat) 1) fun E63=>SizeOf.sizeOf d<m->bF d->w.len<=2001->(0:Nat)=(0:Nat)/\w.len=w.len/\(0:Nat)+(1:Nat)<=(D.l [[D.s {data:=#[(123:UInt8)]}]]).len/\w.len<=2001/\E62.len<=1000/\(∀ (j:Nat),j<E62.len->(E62.el j 0).toS.size<=281474976710656)/\(0:Nat)=(0:Nat)/\(putD w E62).len=(putD w E62).len/\SizeOf.sizeOf d<m/\bF d/\(putD w E62).len<=2001/\(0:Nat)=(0:Nat)/\(cat (putD w E62) (bW d)).len=(cat (putD w E62) (bW d)).len/\(0:Nat)+(1:Nat)<=(D.l [[D.s {data:=#[(125:UInt8)]}]]).len/\(cat (putD w E62) (bW d)).len<=2001/\E63.len<=1000/\(∀ (j:Nat),j<E63.len->(E63.el j 0).toS.size<=281474976710656)/\(putD (cat (putD w E62) (bW d)) E63).len=(cat w (blW (bW d))).len/\List.take (2001:Nat) (List.take (2001:Nat) (List.take (2001:Nat) (w.rows++List.map sR (wsL E62 E62.len))++List.map sR (bW d))++List.map sR (wsL E63 E63.len))=List.take (2001:Nat) (w.rows++List.map sR (blW (bW d)))) (by kernel_rfl) ?_
  dsimp +instances only [withv]
  intro hm hf hw;have o1:(1:Nat)<=1000:=by decide
  refine ⟨rfl,rfl,Nat.le_refl _,hw,o1,ok1 (by decide),rfl,rfl,hm,hf,cat_le _ _,rfl,rfl,Nat.le_refl _,cat_le _ _,o1,ok1 (by decide),eqD ?_⟩;simp only [put1s,cat_cat];unfold blW;simp only [List.cons_append,List.nil_append]
 ·trivial
noncomputable def stwS (m:Nat):List Dat->Option (Eff × List Seg):=fun ds=>match ds with
 | [.d w,.i k,.s nm,.s tg,.i ek,.i en,.s es,.d ed,.i op,.i lk,.i ln,.s ls,.d ld,.i rk,.i rn,.s rs,.d rd,.d bd,.d eb,.d am]=>some ({val:=.tup [],vc:=[SizeOf.sizeOf bd<m,SizeOf.sizeOf eb<m,SizeOf.sizeOf am<m,stmF k nm tg ek en es ed op lk ln ls ld rk rn rs rd bd eb am,w.len<=2001],nw:=[(0,.orow 9 (cat w (stW k nm tg ek en es ed op lk ln ls ld rk rn rs rd bd eb am)))]},[.c (.osl 9 0 (.lit 0) (.sym (cat w (stW k nm tg ek en es ed op lk ln ls ld rk rn rs rd bd eb am)).len))])
 |_=>none
noncomputable def stwC (m:Nat):Con:=conM 174 [.own 9] [lSt] (stwS m)
theorem stw_ok {m:Nat} (ih:ConOK Tryz.prog 138 (conM 174 [.own 9] [lBo] (lwrSu m))):ConOK Tryz.prog 165 (stwC m):=by
 refine fn_obM tt_ok mixed Tryz.func165 rfl (fun _ _=>by kernel_rfl) (A:=fun ds=>⟨fun _=>Cons.of [(135,putC),(176,xwrC),(177,cwrC),(178,(blwC m))],fun k=>match k,ds with | 24,[.d w,.i k,.s nm,.s tg,.i ek,.i en,.s es,.d ed,.i op,.i lk,.i ln,.s ls,.d ld,.i rk,.i rn,.s rs,.d rd,.d bd,.d eb,.d am]=>some {ι:=Nat,pre:=fun _ i=>i<=am.len,μ:=fun i=>am.len-i,st:=fun s i=>famR s [(85,.one (.sc (.int .i64 (.sym ((i:Int))))))] [0,83,84] [(0,.own 174 ([.c (.osl 9 1 (.lit 0) (.sym (cat w ([⟨#[114,101,99,118]⟩,nm,⟨#[123]⟩]++catTo i (arW am))).len))])),(1,.orow 9 (cat w ([⟨#[114,101,99,118]⟩,nm,⟨#[123]⟩]++catTo i (arW am))))] []} |_,_=>none,fun _=>none⟩) (fun _ _=>(cons_cons put_ok (cons_cons xwr_ok (cons_cons cwr_ok (cons_cons (blw_ok ih) cons_nil))))) (by kernel_rfl) ?_
 intro ds;unfold stwS;split
 ·rename_i w k nm tg ek en es ed op lk ln ls ld rk rn rs rd bd eb am
  refine kmp (q:=withv ((D.l [[D.s {data:=#[(115:UInt8),(101:UInt8),(110:UInt8),(100:UInt8)]}],[D.s nm],[D.s {data:=#[(46:UInt8)]}],[D.s tg],[D.s {data:=#[(40:UInt8)]}]]).sub (0:Nat) ((0:Nat)+(5:Nat))) fun E64=>withv ((D.l [[D.s {data:=#[(105:UInt8),(102:UInt8)]}]]).sub (0:Nat) 1) fun E65=>withv (fun (i:Nat)=>(D.l [[D.s (am.el (i:Int).toNat 0).toS],[D.s {data:=#[(40:UInt8)]}],[D.s (am.el (i:Int).toNat 1).toS],[D.s {data:=#[(41:UInt8)]}]]).sub (0:Nat) ((0:Nat)+(4:Nat))) fun E66=>withv ((D.l [[D.s {data:=#[(97:UInt8),(115:UInt8),(115:UInt8),(101:UInt8),(114:UInt8),(116:UInt8)]}]]).sub (0:Nat) 1) fun E67=>withv ((D.l [[D.s {data:=#[(119:UInt8),(104:UInt8),(105:UInt8),(108:UInt8),(101:UInt8)]}]]).sub (0:Nat) 1) fun E68=>withv (fun (i:Nat)=>cat w ([{data:=#[(114:UInt8),(101:UInt8),(99:UInt8),(118:UInt8)]},nm,{data:=#[(123:UInt8)]}]++catTo i (arW am))) fun E69=>withv ((D.l [[D.s {data:=#[(101:UInt8),(108:UInt8),(115:UInt8),(101:UInt8)]}]]).sub (0:Nat) 1) fun E70=>withv (stW k nm tg ek en es ed op lk ln ls ld rk rn rs rd bd eb am) fun E71=>withv ((D.l [[D.s nm],[D.s {data:=#[(61:UInt8)]}]]).sub (0:Nat) ((0:Nat)+(2:Nat))) fun E72=>withv ((D.l [[D.s {data:=#[(105:UInt8),(110:UInt8),(112:UInt8),(117:UInt8),(116:UInt8)]}],[D.s nm],[D.s {data:=#[(59:UInt8)]}]]).sub (0:Nat) ((0:Nat)+(3:Nat))) fun E73=>withv ((D.l [[D.s {data:=#[(59:UInt8)]}]]).sub (0:Nat) 1) fun E74=>withv ((D.l [[D.s {data:=#[(114:UInt8),(101:UInt8),(99:UInt8),(118:UInt8)]}],[D.s nm],[D.s {data:=#[(123:UInt8)]}]]).sub (0:Nat) ((0:Nat)+(3:Nat))) fun E75=>withv (cW op lk ln ls ld rk rn rs rd) fun E76=>withv ((D.l [[D.s {data:=#[(41:UInt8)]}],[D.s {data:=#[(59:UInt8)]}]]).sub (0:Nat) ((0:Nat)+(2:Nat))) fun E77=>withv ((D.l [[D.s {data:=#[(125:UInt8)]}]]).sub (0:Nat) 1) fun E78=>withv (fun (i:Nat)=>w.rows++List.map sR ([{data:=#[(114:UInt8),(101:UInt8),(99:UInt8),(118:UInt8)]},nm,{data:=#[(123:UInt8)]}]++catTo i (arW am))) fun E79=>withv (cat (cat (putD w E65) E76) (blW (bW bd))) fun E80=>withv (w.rows++List.map sR E71) fun E81=>withv (fun (i:Nat)=>am.el (i:Int).toNat 2) fun E82=>withv (List.take (2001:Nat) (List.take (2001:Nat) (w.rows++List.map sR (wsL E65 E65.len))++List.map sR E76)++List.map sR (blW (bW bd))) fun E83=>withv (cat (putD w E72) (xW ek en es ed)) fun E84=>withv (cat (putD w E64) (xW ek en es ed)) fun E85=>SizeOf.sizeOf bd<m->SizeOf.sizeOf eb<m->SizeOf.sizeOf am<m->stmF k nm tg ek en es ed op lk ln ls ld rk rn rs rd bd eb am->w.len<=2001->((k==(1:Int))=true->(0:Nat)=(0:Nat)/\w.len=w.len/\(0:Nat)+(2:Nat)<=(D.l [[D.s nm],[D.s {data:=#[(61:UInt8)]}]]).len/\w.len<=2001/\E72.len<=1000/\(∀ (j:Nat),j<E72.len->(E72.el j 0).toS.size<=281474976710656)/\(0:Nat)=(0:Nat)/\(putD w E72).len=(putD w E72).len/\xF ek en es ed/\(putD w E72).len<=2001/\(0:Nat)=(0:Nat)/\E84.len=E84.len/\(0:Nat)+(1:Nat)<=(D.l [[D.s {data:=#[(59:UInt8)]}]]).len/\E84.len<=2001/\E74.len<=1000/\(∀ (j:Nat),j<E74.len->(E74.el j 0).toS.size<=281474976710656)/\(putD E84 E74).len=(cat w E71).len/\List.take (2001:Nat) (List.take (2001:Nat) (List.take (2001:Nat) (w.rows++List.map sR (wsL E72 E72.len))++List.map sR (xW ek en es ed))++List.map sR (wsL E74 E74.len))=List.take (2001:Nat) E81)/\((k==(1:Int))=false->((k==(2:Int))=true->(0:Nat)=(0:Nat)/\w.len=w.len/\(0:Nat)+(1:Nat)<=(D.l [[D.s {data:=#[(105:UInt8),(102:UInt8)]}]]).len/\w.len<=2001/\E65.len<=1000/\(∀ (j:Nat),j<E65.len->(E65.el j 0).toS.size<=281474976710656)/\(0:Nat)=(0:Nat)/\(putD w E65).len=(putD w E65).len/\cF lk ln ls ld rk rn rs rd/\(putD w E65).len<=2001/\(0:Nat)=(0:Nat)/\(cat (putD w E65) E76).len=(cat (putD w E65) E76).len/\SizeOf.sizeOf bd<m/\bF bd/\(cat (putD w E65) E76).len<=2001/\(decide ((eb.len:Int)>(0:Int))=true->(0:Nat)=(0:Nat)/\E80.len=E80.len/\(0:Nat)+(1:Nat)<=(D.l [[D.s {data:=#[(101:UInt8),(108:UInt8),(115:UInt8),(101:UInt8)]}]]).len/\E80.len<=2001/\E70.len<=1000/\(∀ (j:Nat),j<E70.len->(E70.el j 0).toS.size<=281474976710656)/\(0:Nat)=(0:Nat)/\(putD E80 E70).len=(putD E80 E70).len/\SizeOf.sizeOf eb<m/\bF eb/\(putD E80 E70).len<=2001/\(cat (putD E80 E70) (blW (bW eb))).len=(cat w E71).len/\List.take (2001:Nat) (List.take (2001:Nat) (List.take (2001:Nat) E83++List.map sR (wsL E70 E70.len))++List.map sR (blW (bW eb)))=List.take (2001:Nat) E81)/\(decide ((eb.len:Int)>(0:Int))=false->E80.len=(cat w E71).len/\List.take (2001:Nat) E83=List.take (2001:Nat) E81))/\((k==(2:Int))=false->((k==(3:Int))=true->(0:Nat)=(0:Nat)/\w.len=w.len/\(0:Nat)+(1:Nat)<=(D.l [[D.s {data:=#[(119:UInt8),(104:UInt8),(105:UInt8),(108:UInt8),(101:UInt8)]}]]).len/\w.len<=2001/\E68.len<=1000/\(∀ (j:Nat),j<E68.len->(E68.el j 0).toS.size<=281474976710656)/\(0:Nat)=(0:Nat)/\(putD w E68).len=(putD w E68).len/\cF lk ln ls ld rk rn rs rd/\(putD w E68).len<=2001/\(0:Nat)=(0:Nat)/\(cat (putD w E68) E76).len=(cat (putD w E68) E76).len/\SizeOf.sizeOf bd<m/\bF bd/\(cat (putD w E68) E76).len<=2001/\(cat (cat (putD w E68) E76) (blW (bW bd))).len=(cat w E71).len/\List.take (2001:Nat) (List.take (2001:Nat) (List.take (2001:Nat) (w.rows++List.map sR (wsL E68 E68.len))++List.map sR E76)++List.map sR (blW (bW bd)))=List.take (2001:Nat) E81)/\((k==(3:Int))=false->((k==(4:Int))=true->(0:Nat)=(0:Nat)/\w.len=w.len/\(0:Nat)+(5:Nat)<=(D.l [[D.s {data:=#[(115:UInt8),(101:UInt8),(110:UInt8),(100:UInt8)]}],[D.s nm],[D.s {data:=#[(46:UInt8)]}],[D.s tg],[D.s {data:=#[(40:UInt8)]}]]).len/\w.len<=2001/\E64.len<=1000/\(∀ (j:Nat),j<E64.len->(E64.el j 0).toS.size<=281474976710656)/\(0:Nat)=(0:Nat)/\(putD w E64).len=(putD w E64).len/\xF ek en es ed/\(putD w E64).len<=2001/\(0:Nat)=(0:Nat)/\E85.len=E85.len/\(0:Nat)+(2:Nat)<=(D.l [[D.s {data:=#[(41:UInt8)]}],[D.s {data:=#[(59:UInt8)]}]]).len/\E85.len<=2001/\E77.len<=1000/\(∀ (j:Nat),j<E77.len->(E77.el j 0).toS.size<=281474976710656)/\(putD E85 E77).len=(cat w E71).len/\List.take (2001:Nat) (List.take (2001:Nat) (List.take (2001:Nat) (w.rows++List.map sR (wsL E64 E64.len))++List.map sR (xW ek en es ed))++List.map sR (wsL E77 E77.len))=List.take (2001:Nat) E81)/\((k==(4:Int))=false->((k==(5:Int))=true->(0:Nat)=(0:Nat)/\w.len=w.len/\(0:Nat)+(3:Nat)<=(D.l [[D.s {data:=#[(114:UInt8),(101:UInt8),(99:UInt8),(118:UInt8)]}],[D.s nm],[D.s {data:=#[(123:UInt8)]}]]).len/\w.len<=2001/\E75.len<=1000/\(∀ (j:Nat),j<E75.len->(E75.el j 0).toS.size<=281474976710656)/\(∃ (i:Nat),i.le am.len/\(0:Int)=(i:Int)/\am.rows=am.rows/\(am.len:Int)=(am.len:Int)/\(putD w E75).len=(E69 i).len/\List.take (2001:Nat) (w.rows++List.map sR (wsL E75 E75.len))=List.take (2001:Nat) (E79 i))/\∀ (i:Nat),i.le am.len->(decide ((i:Int)<(am.len:Int))=true->((0:Int)<=(i:Int)/\(i:Int)<(am.len:Int))/\(0:Nat)=(0:Nat)/\(E69 i).len=(E69 i).len/\(0:Nat)+(4:Nat)<=(D.l [[D.s (am.el (i:Int).toNat 0).toS],[D.s {data:=#[(40:UInt8)]}],[D.s (am.el (i:Int).toNat 1).toS],[D.s {data:=#[(41:UInt8)]}]]).len/\(E69 i).len<=2001/\(E66 i).len<=1000/\(∀ (j:Nat),j<(E66 i).len->((E66 i).el j 0).toS.size<=281474976710656)/\(0:Nat)=(0:Nat)/\(putD (E69 i) (E66 i)).len=(putD (E69 i) (E66 i)).len/\SizeOf.sizeOf (E82 i)<m/\bF (E82 i)/\(putD (E69 i) (E66 i)).len<=2001/\∃ (j:Nat),j.le am.len/\am.len-j<am.len-i/\IntKind.i64.wrap ((i:Int)+(1:Int))=(j:Int)/\am.rows=am.rows/\(am.len:Int)=(am.len:Int)/\(cat (putD (E69 i) (E66 i)) (blW (bW (E82 i)))).len=(cat w ([{data:=#[(114:UInt8),(101:UInt8),(99:UInt8),(118:UInt8)]},nm,{data:=#[(123:UInt8)]}]++catTo j (arW am))).len/\List.take (2001:Nat) (List.take (2001:Nat) (List.take (2001:Nat) (E79 i)++List.map sR (wsL (E66 i) (E66 i).len))++List.map sR (blW (bW (E82 i))))=List.take (2001:Nat) (w.rows++List.map sR ([{data:=#[(114:UInt8),(101:UInt8),(99:UInt8),(118:UInt8)]},nm,{data:=#[(123:UInt8)]}]++catTo j (arW am))))/\(decide ((i:Int)<(am.len:Int))=false->(0:Nat)=(0:Nat)/\(E69 i).len=(E69 i).len/\(0:Nat)+(1:Nat)<=(D.l [[D.s {data:=#[(125:UInt8)]}]]).len/\(E69 i).len<=2001/\E78.len<=1000/\(∀ (j:Nat),j<E78.len->(E78.el j 0).toS.size<=281474976710656)/\(putD (E69 i) E78).len=(cat w E71).len/\List.take (2001:Nat) (List.take (2001:Nat) (E79 i)++List.map sR (wsL E78 E78.len))=List.take (2001:Nat) E81))/\((k==(5:Int))=false->((k==(6:Int))=true->(0:Nat)=(0:Nat)/\w.len=w.len/\(0:Nat)+(1:Nat)<=(D.l [[D.s {data:=#[(97:UInt8),(115:UInt8),(115:UInt8),(101:UInt8),(114:UInt8),(116:UInt8)]}]]).len/\w.len<=2001/\E67.len<=1000/\(∀ (j:Nat),j<E67.len->(E67.el j 0).toS.size<=281474976710656)/\(0:Nat)=(0:Nat)/\(putD w E67).len=(putD w E67).len/\cF lk ln ls ld rk rn rs rd/\(putD w E67).len<=2001/\(0:Nat)=(0:Nat)/\(cat (putD w E67) E76).len=(cat (putD w E67) E76).len/\(0:Nat)+(1:Nat)<=(D.l [[D.s {data:=#[(59:UInt8)]}]]).len/\(cat (putD w E67) E76).len<=2001/\E74.len<=1000/\(∀ (j:Nat),j<E74.len->(E74.el j 0).toS.size<=281474976710656)/\(putD (cat (putD w E67) E76) E74).len=(cat w E71).len/\List.take (2001:Nat) (List.take (2001:Nat) (List.take (2001:Nat) (w.rows++List.map sR (wsL E67 E67.len))++List.map sR E76)++List.map sR (wsL E74 E74.len))=List.take (2001:Nat) E81)/\((k==(6:Int))=false->((k==(7:Int))=true->(0:Nat)=(0:Nat)/\w.len=w.len/\(0:Nat)+(3:Nat)<=(D.l [[D.s {data:=#[(105:UInt8),(110:UInt8),(112:UInt8),(117:UInt8),(116:UInt8)]}],[D.s nm],[D.s {data:=#[(59:UInt8)]}]]).len/\w.len<=2001/\E73.len<=1000/\(∀ (j:Nat),j<E73.len->(E73.el j 0).toS.size<=281474976710656)/\(putD w E73).len=(cat w E71).len/\List.take (2001:Nat) (w.rows++List.map sR (wsL E73 E73.len))=List.take (2001:Nat) E81)/\((k==(7:Int))=false->w.len=(cat w E71).len/\w.rows=List.take (2001:Nat) E81)))))))) (by kernel_rfl) ?_
  dsimp +instances only [withv]
  intro h1 h2 h3 hf hw;have o1:(1:Nat)<=1000:=by decide
  unfold stmF stFF at hf;obtain ⟨f1,f2,f3,f4,f5,f6,f7⟩:=hf;refine ⟨fun h=>?_,fun n1=>⟨fun h=>?_,fun n2=>⟨fun h=>?_,fun n3=>⟨fun h=>?_,fun n4=>⟨fun h=>?_,fun n5=>⟨fun h=>?_,fun n6=>⟨fun h=>?_,fun n7=>?_⟩⟩⟩⟩⟩⟩⟩
  ·obtain rfl:=eq_of_beq h;have hf:=f1 rfl;refine ⟨rfl,rfl,Nat.le_refl _,hw,(show (2:Nat)<=1000 by omega),ok2 hf.1.z (show szz _ by unfold szz;decide),rfl,rfl,hf.2,cat_le _ _,rfl,rfl,Nat.le_refl _,cat_le _ _,o1,ok1 (by decide),eqD ?_⟩;simp only [put1s,put2s,cat_cat];show cat w _=cat w (stWF 1 nm tg _ _ _ _ _ _);unfold stWF;rw [if_pos rfl];simp only [List.cons_append,List.nil_append]
  ·obtain rfl:=eq_of_beq h;obtain ⟨g1,g2,g3⟩:=f2 rfl;refine ⟨rfl,rfl,Nat.le_refl _,hw,o1,ok1 (by decide),rfl,rfl,g1,cat_le _ _,rfl,rfl,h1,g2,cat_le _ _,fun hg=>⟨rfl,rfl,Nat.le_refl _,cat_le _ _,o1,ok1 (by decide),rfl,rfl,h2,g3,cat_le _ _,eqD ?_⟩,fun hg=>eqD ?_⟩
   ·simp only [put1s,cat_cat];show cat w _=cat w (stWF 2 nm tg _ _ _ _ _ _);unfold stWF;rw [if_neg (by decide),if_pos rfl,hg,if_pos rfl];simp only [List.append_assoc,List.cons_append,List.nil_append]
   ·simp only [put1s,cat_cat];show cat w _=cat w (stWF 2 nm tg _ _ _ _ _ _);unfold stWF;rw [if_neg (by decide),if_pos rfl,hg,if_neg (by decide)];simp only [List.cons_append,List.nil_append,List.append_nil]
  ·obtain rfl:=eq_of_beq h;obtain ⟨g1,g2⟩:=f3 rfl;refine ⟨rfl,rfl,Nat.le_refl _,hw,o1,ok1 (by decide),rfl,rfl,g1,cat_le _ _,rfl,rfl,h1,g2,cat_le _ _,eqD ?_⟩;simp only [put1s,cat_cat];show cat w _=cat w (stWF 3 nm tg _ _ _ _ _ _);unfold stWF;rw [if_neg (by decide),if_neg (by decide),if_pos rfl];simp only [List.cons_append,List.nil_append]
  ·obtain rfl:=eq_of_beq h;obtain ⟨g1,g2,g3⟩:=f4 rfl;refine ⟨rfl,rfl,Nat.le_refl _,hw,(show (5:Nat)<=1000 by omega),ok5 (show szz _ by unfold szz;decide) g1.z (show szz _ by unfold szz;decide) g2.z (show szz _ by unfold szz;decide),rfl,rfl,g3,cat_le _ _,rfl,rfl,Nat.le_refl _,cat_le _ _,(show (2:Nat)<=1000 by omega),ok2 (show szz _ by unfold szz;decide) (show szz _ by unfold szz;decide),eqD ?_⟩;simp only [put2s,put5s,cat_cat];show cat w _=cat w (stWF 4 nm tg _ _ _ _ _ _);unfold stWF;rw [if_neg (by decide),if_neg (by decide),if_neg (by decide),if_pos rfl];simp only [List.cons_append,List.nil_append]
  ·obtain rfl:=eq_of_beq h;obtain ⟨g1,g2⟩:=f5 rfl;refine ⟨rfl,rfl,Nat.le_refl _,hw,(show (3:Nat)<=1000 by omega),ok3 (show szz _ by unfold szz;decide) g1.z (show szz _ by unfold szz;decide),?_⟩;refine ⟨⟨0,Nat.zero_le _,rfl,rfl,rfl,eqD ?_⟩,fun i hi=>⟨fun hl=>?_,fun hl=>?_⟩⟩
   ·rw [put3s];rfl
   ·have hl:=of_decide_eq_true hl;have hi2:i<am.len:=by omega
    have hb:=g2.1;have hw2:IntKind.i64.wrap ((i:Int)+1)=((i+1:Nat):Int):=by rw [IntWalk.i64_in _ (by omega)];omega
    obtain ⟨s1,s2,s3⟩:=g2.2 i hi2;have z:=lel_lt (j:=2) hi2;refine ⟨⟨by omega,by omega⟩,rfl,rfl,Nat.le_refl _,cat_le _ _,(show (4:Nat)<=1000 by omega),ok4 s1.z (show szz _ by unfold szz;decide) s2.z (show szz _ by unfold szz;decide),rfl,rfl,(show SizeOf.sizeOf (am.el i 2)<m by omega),s3,cat_le _ _,i+1,hi2,by omega,hw2,rfl,rfl,eqD ?_⟩;rw [put4s,cat_cat,cat_cat,catTo_succ,List.append_assoc];rfl
   ·have hl:=of_decide_eq_false hl;have hi3:i=am.len:=by have:i<=am.len:=hi;omega
    refine ⟨rfl,rfl,Nat.le_refl _,cat_le _ _,o1,ok1 (by decide),eqD ?_⟩;rw [hi3];simp only [put1s,cat_cat];show cat w _=cat w (stWF 5 nm tg _ _ _ _ _ _);unfold stWF;rw [if_neg (by decide),if_neg (by decide),if_neg (by decide),if_neg (by decide),if_pos rfl];simp only [List.cons_append,List.nil_append]
  ·obtain rfl:=eq_of_beq h;have g1:=f6 rfl;refine ⟨rfl,rfl,Nat.le_refl _,hw,o1,ok1 (by decide),rfl,rfl,g1,cat_le _ _,rfl,rfl,Nat.le_refl _,cat_le _ _,o1,ok1 (by decide),eqD ?_⟩;simp only [put1s,cat_cat];show cat w _=cat w (stWF 6 nm tg _ _ _ _ _ _);unfold stWF;rw [if_neg (by decide),if_neg (by decide),if_neg (by decide),if_neg (by decide),if_neg (by decide),if_pos rfl];simp only [List.cons_append,List.nil_append]
  ·obtain rfl:=eq_of_beq h;have g1:=f7 rfl;refine ⟨rfl,rfl,Nat.le_refl _,hw,(show (3:Nat)<=1000 by omega),ok3 (show szz _ by unfold szz;decide) g1.z (show szz _ by unfold szz;decide),eqD ?_⟩;simp only [put3s];show cat w _=cat w (stWF 7 nm tg _ _ _ _ _ _);unfold stWF;rw [if_neg (by decide),if_neg (by decide),if_neg (by decide),if_neg (by decide),if_neg (by decide),if_neg (by decide),if_pos rfl]
  ·have e:stW k nm tg ek en es ed op lk ln ls ld rk rn rs rd bd eb am=[]:=by
    unfold stW stWF;rw [if_neg (ne_of_beq_false n1),if_neg (ne_of_beq_false n2),if_neg (ne_of_beq_false n3),if_neg (ne_of_beq_false n4),if_neg (ne_of_beq_false n5),if_neg (ne_of_beq_false n6),if_neg (ne_of_beq_false n7)]
   rw [e];exact cat_nil hw
 ·trivial
theorem lwr_step (m:Nat) (ih:ConOK Tryz.prog 138 (conM 174 [.own 9] [lBo] (lwrSu m))):ConOK Tryz.prog 138 (conM 174 [.own 9] [lBo] (lwrSu (m+1))):=by
 refine fn_obM tt_ok mixed Tryz.func138 rfl (fun _ _=>by kernel_rfl) (A:=fun ds=>⟨fun _=>Cons.of [(165,(stwC m))],fun k=>match k,ds with | 1,[.d w,.d d]=>some {ι:=Nat,pre:=fun _ i=>i<=d.len,μ:=fun i=>d.len-i,st:=fun s i=>famR s [(8,.one (.sc (.int .i64 (.sym ((i:Int))))))] [0,6,7] [(0,.own 174 ([.c (.osl 9 1 (.lit 0) (.sym (cat w (catTo i (stWE d))).len))])),(1,.orow 9 (cat w (catTo i (stWE d))))] []} |_,_=>none,fun _=>none⟩) (fun _ _=>(cons_cons (stw_ok ih) cons_nil)) (by kernel_rfl) ?_
 intro ds;unfold lwrSu;split
 ·rename_i w d;refine kmp (q:=withv (fun (i:Nat)=>stW (d.el (i:Int).toNat 0).toI (d.el (i:Int).toNat 1).toS (d.el (i:Int).toNat 2).toS (d.el (i:Int).toNat 3).toI (d.el (i:Int).toNat 4).toI (d.el (i:Int).toNat 5).toS (d.el (i:Int).toNat 6) (d.el (i:Int).toNat 7).toI (d.el (i:Int).toNat 8).toI (d.el (i:Int).toNat 9).toI (d.el (i:Int).toNat 10).toS (d.el (i:Int).toNat 11) (d.el (i:Int).toNat 12).toI (d.el (i:Int).toNat 13).toI (d.el (i:Int).toNat 14).toS (d.el (i:Int).toNat 15) (d.el (i:Int).toNat 16) (d.el (i:Int).toNat 17) (d.el (i:Int).toNat 18)) fun E86=>withv (fun (i:Nat)=>d.el (i:Int).toNat 18) fun E87=>withv (fun (i:Nat)=>d.el (i:Int).toNat 17) fun E88=>withv (fun (i:Nat)=>d.el (i:Int).toNat 16) fun E89=>SizeOf.sizeOf d<m+(1:Nat)->bF d->w.len<=2001->(∃ (i:Nat),i.le d.len/\(0:Int)=(i:Int)/\d.rows=d.rows/\(d.len:Int)=(d.len:Int)/\w.len=(cat w (catTo i (stWE d))).len/\w.rows=List.take (2001:Nat) (w.rows++List.map sR (catTo i (stWE d))))/\∀ (i:Nat),i.le d.len->(decide ((i:Int)<(d.len:Int))=true->((0:Int)<=(i:Int)/\(i:Int)<(d.len:Int))/\(0:Nat)=(0:Nat)/\(cat w (catTo i (stWE d))).len=(cat w (catTo i (stWE d))).len/\SizeOf.sizeOf (E89 i)<m/\SizeOf.sizeOf (E88 i)<m/\SizeOf.sizeOf (E87 i)<m/\stmF (d.el (i:Int).toNat 0).toI (d.el (i:Int).toNat 1).toS (d.el (i:Int).toNat 2).toS (d.el (i:Int).toNat 3).toI (d.el (i:Int).toNat 4).toI (d.el (i:Int).toNat 5).toS (d.el (i:Int).toNat 6) (d.el (i:Int).toNat 7).toI (d.el (i:Int).toNat 8).toI (d.el (i:Int).toNat 9).toI (d.el (i:Int).toNat 10).toS (d.el (i:Int).toNat 11) (d.el (i:Int).toNat 12).toI (d.el (i:Int).toNat 13).toI (d.el (i:Int).toNat 14).toS (d.el (i:Int).toNat 15) (E89 i) (E88 i) (E87 i)/\(cat w (catTo i (stWE d))).len<=2001/\∃ (j:Nat),j.le d.len/\d.len-j<d.len-i/\IntKind.i64.wrap ((i:Int)+(1:Int))=(j:Int)/\d.rows=d.rows/\(d.len:Int)=(d.len:Int)/\(cat (cat w (catTo i (stWE d))) (E86 i)).len=(cat w (catTo j (stWE d))).len/\List.take (2001:Nat) (List.take (2001:Nat) (w.rows++List.map sR (catTo i (stWE d)))++List.map sR (E86 i))=List.take (2001:Nat) (w.rows++List.map sR (catTo j (stWE d))))/\(decide ((i:Int)<(d.len:Int))=false->(cat w (catTo i (stWE d))).len=(cat w (bW d)).len/\List.take (2001:Nat) (w.rows++List.map sR (catTo i (stWE d)))=List.take (2001:Nat) (w.rows++List.map sR (bW d)))) (by kernel_rfl) ?_
  dsimp +instances only [withv]
  intro hm hf hw;rw [bF_iff] at hf;rw [bW_eq];refine ⟨⟨0,Nat.zero_le _,rfl,rfl,rfl,cat_nil hw⟩,fun i hi=>⟨fun hl=>?_,fun hl=>?_⟩⟩
  ·have hl:=of_decide_eq_true hl;have hi2:i<d.len:=by omega
   have hb:=hf.1;have hw2:IntKind.i64.wrap ((i:Int)+1)=((i+1:Nat):Int):=by rw [IntWalk.i64_in _ (by omega)];omega
   have z1:=lel_lt (j:=16) hi2;have z2:=lel_lt (j:=17) hi2;have z3:=lel_lt (j:=18) hi2;refine ⟨⟨by omega,by omega⟩,rfl,rfl,(show SizeOf.sizeOf (d.el i 16)<m by omega),(show SizeOf.sizeOf (d.el i 17)<m by omega),(show SizeOf.sizeOf (d.el i 18)<m by omega),hf.2 i hi2,cat_le _ _,i+1,hi2,by omega,hw2,rfl,rfl,eqD ?_⟩;rw [cat_cat,catTo_succ];rfl
  ·have hl:=of_decide_eq_false hl;have hi3:i=d.len:=by have:i<=d.len:=hi;omega
   rw [hi3];exact ⟨rfl,rfl⟩
 ·trivial
theorem lwr_ok:ConOK Tryz.prog 138 lwrC:=
 conM_rec lwrM (fun _ _=>by kernel_rfl) fun m ih=>by
  rw [lwr_under] at ih ⊢;exact lwr_step m ih
theorem eqDx {a b:D} {p:Prop} (h:a=b) (hp:p):a.len=b.len/\a.rows=b.rows/\p:=by rw [h];exact ⟨rfl,rfl,hp⟩
def lPr:AP:=.agg [.c .str,.c (.rows 9),.c (.rows 193)]
def tgW (tg:D) (i:Nat):List ByteArray:=if i>0 then [⟨#[44]⟩,(tg.el i 0).toS] else [(tg.el i 0).toS]
def chWd (nm:ByteArray) (k n:Int) (f t:ByteArray) (tg:D):List ByteArray:=[⟨#[99,104,97,110]⟩,nm,chW k,itW n,⟨#[102,114,111,109]⟩,f,⟨#[116,111]⟩,t,⟨#[123]⟩]++(catTo tg.len (tgW tg)++[⟨#[125]⟩,⟨#[59]⟩])
def mvW (mv:D) (i:Nat):List ByteArray:=[itW (mv.el i 0).toI,(mv.el i 1).toS,itW (mv.el i 2).toI,⟨#[59]⟩]
def ruWd (nm:ByteArray) (mv:D):List ByteArray:=[⟨#[114,117,108,101]⟩,nm,⟨#[123]⟩]++(catTo mv.len (mvW mv)++[⟨#[125]⟩])
def vaW (vs:D) (i:Nat):List ByteArray:=[⟨#[118,97,114]⟩,(vs.el i 0).toS,⟨#[59]⟩]
def prWd (nm:ByteArray) (vs bd:D):List ByteArray:=[⟨#[112,114,111,99]⟩,nm,⟨#[123]⟩]++(catTo vs.len (vaW vs)++(bW bd++[⟨#[125]⟩]))
def chWE (d:D) (i:Nat):List ByteArray:=chWd (d.el i 0).toS (d.el i 1).toI (d.el i 2).toI (d.el i 3).toS (d.el i 4).toS (d.el i 5)
def ruWE (d:D) (i:Nat):List ByteArray:=ruWd (d.el i 0).toS (d.el i 1)
def prWE (d:D) (i:Nat):List ByteArray:=prWd (d.el i 0).toS (d.el i 1) (d.el i 2)
def syW (ch ru pr:D):List ByteArray:=catTo ch.len (chWE ch)++(catTo ru.len (ruWE ru)++catTo pr.len (prWE pr))
def sm (n:Int):Prop:=nI n
theorem itW_z {n:Int} (h:sm n):szz (itW n):=Nat.le_trans (itW_size h) (by decide)
def chF (nm:ByteArray) (n:Int) (f t:ByteArray) (tg:D):Prop:=sz nm/\sm n/\sz f/\sz t/\tg.len<=10000000000000/\∀ i,i<tg.len->sz (tg.el i 0).toS
def ruF (nm:ByteArray) (mv:D):Prop:=sz nm/\mv.len<=10000000000000/\∀ i,i<mv.len->sm (mv.el i 0).toI/\sz (mv.el i 1).toS/\sm (mv.el i 2).toI
def prcF (nm:ByteArray) (vs bd:D):Prop:=sz nm/\vs.len<=10000000000000/\(∀ i,i<vs.len->sz (vs.el i 0).toS)/\bF bd
structure SyF (ch ru pr:D):Prop where
 c:∀ i,i<ch.len->chF (ch.el i 0).toS (ch.el i 2).toI (ch.el i 3).toS (ch.el i 4).toS (ch.el i 5)
 r:∀ i,i<ru.len->ruF (ru.el i 0).toS (ru.el i 1)
 p:∀ i,i<pr.len->prcF (pr.el i 0).toS (pr.el i 1) (pr.el i 2)
noncomputable def chxS:List Dat->Option (Eff × List Seg):=fun ds=>match ds with
 | [.d w,.s nm,.i k,.i n,.s f,.s t,.d tg]=>some ({val:=.tup [],vc:=[chF nm n f t tg,w.len<=2001],nw:=[(0,.orow 9 (cat w (chWd nm k n f t tg)))]},[.c (.osl 9 0 (.lit 0) (.sym (cat w (chWd nm k n f t tg)).len))])
 |_=>none
noncomputable def chxC:Con:=conM 174 [.own 9] [lCh] chxS
theorem chx_ok:ConOK Tryz.prog 97 chxC:=by
 refine fn_obM tt_ok mixed Tryz.func97 rfl (fun _ _=>by kernel_rfl) (A:=fun ds=>⟨fun _=>Cons.of [(135,putC),(137,itC),(136,chwC)],fun k=>match k,ds with | 4,[.d w,.s nm,.i k,.i n,.s f,.s t,.d tg]=>some {ι:=Nat,pre:=fun _ i=>i<=tg.len,μ:=fun i=>tg.len-i,st:=fun s i=>famR s [(27,.one (.sc (.int .i64 (.sym ((i:Int))))))] [0,25,26] [(0,.own 174 ([.c (.osl 9 1 (.lit 0) (.sym (cat w ([⟨#[99,104,97,110]⟩,nm,chW k,itW n,⟨#[102,114,111,109]⟩,f,⟨#[116,111]⟩,t,⟨#[123]⟩]++catTo i (tgW tg))).len))])),(1,.orow 9 (cat w ([⟨#[99,104,97,110]⟩,nm,chW k,itW n,⟨#[102,114,111,109]⟩,f,⟨#[116,111]⟩,t,⟨#[123]⟩]++catTo i (tgW tg))))] []} |_,_=>none,fun _=>none⟩) (fun _ _=>(cons_cons put_ok (cons_cons it_ok (cons_cons chw_ok cons_nil)))) (by kernel_rfl) ?_
 intro ds;unfold chxS;split
 ·rename_i w nm k n f t tg
  refine kmp (q:=withv (fun (i:Nat)=>cat w ([{data:=#[(99:UInt8),(104:UInt8),(97:UInt8),(110:UInt8)]},nm,chW k,itW n,{data:=#[(102:UInt8),(114:UInt8),(111:UInt8),(109:UInt8)]},f,{data:=#[(116:UInt8),(111:UInt8)]},t,{data:=#[(123:UInt8)]}]++catTo i (tgW tg))) fun E90=>withv ((D.l [[D.s {data:=#[(99:UInt8),(104:UInt8),(97:UInt8),(110:UInt8)]}],[D.s nm],[D.s (chW k)],[D.s (itW n)]]).sub (0:Nat) ((0:Nat)+(4:Nat))) fun E91=>withv ((D.l [[D.s {data:=#[(102:UInt8),(114:UInt8),(111:UInt8),(109:UInt8)]}],[D.s f],[D.s {data:=#[(116:UInt8),(111:UInt8)]}],[D.s t],[D.s {data:=#[(123:UInt8)]}]]).sub (0:Nat) ((0:Nat)+(5:Nat))) fun E92=>withv (fun (i:Nat)=>(D.l [[D.s (tg.el (i:Int).toNat 0).toS]]).sub (0:Nat) 1) fun E93=>withv (fun (i:Nat)=>w.rows++List.map sR ([{data:=#[(99:UInt8),(104:UInt8),(97:UInt8),(110:UInt8)]},nm,chW k,itW n,{data:=#[(102:UInt8),(114:UInt8),(111:UInt8),(109:UInt8)]},f,{data:=#[(116:UInt8),(111:UInt8)]},t,{data:=#[(123:UInt8)]}]++catTo i (tgW tg))) fun E94=>withv ((D.l [[D.s {data:=#[(44:UInt8)]}]]).sub (0:Nat) 1) fun E95=>withv ((D.l [[D.s {data:=#[(125:UInt8)]}],[D.s {data:=#[(59:UInt8)]}]]).sub (0:Nat) ((0:Nat)+(2:Nat))) fun E96=>withv (fun (j:Nat)=>w.rows++List.map sR ([{data:=#[(99:UInt8),(104:UInt8),(97:UInt8),(110:UInt8)]},nm,chW k,itW n,{data:=#[(102:UInt8),(114:UInt8),(111:UInt8),(109:UInt8)]},f,{data:=#[(116:UInt8),(111:UInt8)]},t,{data:=#[(123:UInt8)]}]++catTo j (tgW tg))) fun E97=>withv (fun (j:Nat)=>cat w ([{data:=#[(99:UInt8),(104:UInt8),(97:UInt8),(110:UInt8)]},nm,chW k,itW n,{data:=#[(102:UInt8),(114:UInt8),(111:UInt8),(109:UInt8)]},f,{data:=#[(116:UInt8),(111:UInt8)]},t,{data:=#[(123:UInt8)]}]++catTo j (tgW tg))) fun E98=>chF nm n f t tg->w.len<=2001->nI n/\(0:Nat)=(0:Nat)/\w.len=w.len/\(0:Nat)+(4:Nat)<=(D.l [[D.s {data:=#[(99:UInt8),(104:UInt8),(97:UInt8),(110:UInt8)]}],[D.s nm],[D.s (chW k)],[D.s (itW n)]]).len/\w.len<=2001/\E91.len<=1000/\(∀ (j:Nat),j<E91.len->(E91.el j 0).toS.size<=281474976710656)/\(0:Nat)=(0:Nat)/\(putD w E91).len=(putD w E91).len/\(0:Nat)+(5:Nat)<=(D.l [[D.s {data:=#[(102:UInt8),(114:UInt8),(111:UInt8),(109:UInt8)]}],[D.s f],[D.s {data:=#[(116:UInt8),(111:UInt8)]}],[D.s t],[D.s {data:=#[(123:UInt8)]}]]).len/\(putD w E91).len<=2001/\E92.len<=1000/\(∀ (j:Nat),j<E92.len->(E92.el j 0).toS.size<=281474976710656)/\(∃ (i:Nat),i.le tg.len/\(0:Int)=(i:Int)/\tg.rows=tg.rows/\(tg.len:Int)=(tg.len:Int)/\(putD (putD w E91) E92).len=(E90 i).len/\List.take (2001:Nat) (List.take (2001:Nat) (w.rows++List.map sR (wsL E91 E91.len))++List.map sR (wsL E92 E92.len))=List.take (2001:Nat) (E94 i))/\∀ (i:Nat),i.le tg.len->(decide ((i:Int)<(tg.len:Int))=true->((0:Int)<=(i:Int)/\(i:Int)<(tg.len:Int))/\(decide ((i:Int)>(0:Int))=true->(0:Nat)=(0:Nat)/\(E90 i).len=(E90 i).len/\(0:Nat)+(1:Nat)<=(D.l [[D.s {data:=#[(44:UInt8)]}]]).len/\(E90 i).len<=2001/\E95.len<=1000/\(∀ (j:Nat),j<E95.len->(E95.el j 0).toS.size<=281474976710656)/\(0:Nat)=(0:Nat)/\(putD (E90 i) E95).len=(putD (E90 i) E95).len/\(0:Nat)+(1:Nat)<=(D.l [[D.s (tg.el (i:Int).toNat 0).toS]]).len/\(putD (E90 i) E95).len<=2001/\(E93 i).len<=1000/\(∀ (j:Nat),j<(E93 i).len->((E93 i).el j 0).toS.size<=281474976710656)/\∃ (j:Nat),j.le tg.len/\tg.len-j<tg.len-i/\IntKind.i64.wrap ((i:Int)+(1:Int))=(j:Int)/\tg.rows=tg.rows/\(tg.len:Int)=(tg.len:Int)/\(putD (putD (E90 i) E95) (E93 i)).len=(E98 j).len/\List.take (2001:Nat) (List.take (2001:Nat) (List.take (2001:Nat) (E94 i)++List.map sR (wsL E95 E95.len))++List.map sR (wsL (E93 i) (E93 i).len))=List.take (2001:Nat) (E97 j))/\(decide ((i:Int)>(0:Int))=false->(0:Nat)=(0:Nat)/\(E90 i).len=(E90 i).len/\(0:Nat)+(1:Nat)<=(D.l [[D.s (tg.el (i:Int).toNat 0).toS]]).len/\(E90 i).len<=2001/\(E93 i).len<=1000/\(∀ (j:Nat),j<(E93 i).len->((E93 i).el j 0).toS.size<=281474976710656)/\∃ (j:Nat),j.le tg.len/\tg.len-j<tg.len-i/\IntKind.i64.wrap ((i:Int)+(1:Int))=(j:Int)/\tg.rows=tg.rows/\(tg.len:Int)=(tg.len:Int)/\(putD (E90 i) (E93 i)).len=(E98 j).len/\List.take (2001:Nat) (List.take (2001:Nat) (E94 i)++List.map sR (wsL (E93 i) (E93 i).len))=List.take (2001:Nat) (E97 j)))/\(decide ((i:Int)<(tg.len:Int))=false->(0:Nat)=(0:Nat)/\(E90 i).len=(E90 i).len/\(0:Nat)+(2:Nat)<=(D.l [[D.s {data:=#[(125:UInt8)]}],[D.s {data:=#[(59:UInt8)]}]]).len/\(E90 i).len<=2001/\E96.len<=1000/\(∀ (j:Nat),j<E96.len->(E96.el j 0).toS.size<=281474976710656)/\(putD (E90 i) E96).len=(cat w (chWd nm k n f t tg)).len/\List.take (2001:Nat) (List.take (2001:Nat) (E94 i)++List.map sR (wsL E96 E96.len))=List.take (2001:Nat) (w.rows++List.map sR (chWd nm k n f t tg)))) (by kernel_rfl) ?_
  dsimp +instances only [withv]
  intro hf hw;have o1:(1:Nat)<=1000:=by decide
  obtain ⟨h1,h2,h3,h4,h5,h6⟩:=hf;refine ⟨h2,rfl,rfl,Nat.le_refl _,hw,(show (4:Nat)<=1000 by omega),ok4 (show szz _ by unfold szz;decide) h1.z (show szz _ by have:=chW_size k;unfold szz;omega) (itW_z h2),rfl,rfl,Nat.le_refl _,cat_le _ _,(show (5:Nat)<=1000 by omega),ok5 (show szz _ by unfold szz;decide) h3.z (show szz _ by unfold szz;decide) h4.z (show szz _ by unfold szz;decide),?_⟩;refine ⟨⟨0,Nat.zero_le _,rfl,rfl,rfl,eqD ?_⟩,fun i hi=>⟨fun hl=>?_,fun hl=>?_⟩⟩
  ·simp only [put1s,put2s,put3s,put4s,put5s,cat_cat]<;>rfl
  ·have hl:=of_decide_eq_true hl;have hi2:i<tg.len:=by omega
   have hb:=h5;have hw2:IntKind.i64.wrap ((i:Int)+1)=((i+1:Nat):Int):=by rw [IntWalk.i64_in _ (by omega)];omega
   have z:=h6 i hi2;refine ⟨⟨by omega,by omega⟩,fun hg=>⟨rfl,rfl,Nat.le_refl _,cat_le _ _,o1,ok1 (by decide),rfl,rfl,Nat.le_refl _,cat_le _ _,o1,ok1 z.z,i+1,hi2,by omega,hw2,rfl,rfl,eqD ?_⟩,fun hg=>⟨rfl,rfl,Nat.le_refl _,cat_le _ _,o1,ok1 z.z,i+1,hi2,by omega,hw2,rfl,rfl,eqD ?_⟩⟩
   ·have e:tgW tg i=[⟨#[44]⟩,(tg.el i 0).toS]:=if_pos (by have:=of_decide_eq_true hg;omega);simp only [put1s,put2s,put3s,put4s,put5s,cat_cat,catTo_succ,e,List.append_assoc]<;>rfl
   ·have e:tgW tg i=[(tg.el i 0).toS]:=if_neg (by have:=of_decide_eq_false hg;omega);simp only [put1s,put2s,put3s,put4s,put5s,cat_cat,catTo_succ,e,List.append_assoc]<;>rfl
  ·have hl:=of_decide_eq_false hl;have hi3:i=tg.len:=by have:i<=tg.len:=hi;omega
   subst hi3;refine ⟨rfl,rfl,Nat.le_refl _,cat_le _ _,(show (2:Nat)<=1000 by omega),ok2 (show szz _ by unfold szz;decide) (show szz _ by unfold szz;decide),eqD ?_⟩;unfold chWd;simp only [put1s,put2s,put3s,put4s,put5s,cat_cat,List.append_assoc]<;>rfl
 ·trivial
noncomputable def ruxS:List Dat->Option (Eff × List Seg):=fun ds=>match ds with
 | [.d w,.s nm,.d mv]=>some ({val:=.tup [],vc:=[ruF nm mv,w.len<=2001],nw:=[(0,.orow 9 (cat w (ruWd nm mv)))]},[.c (.osl 9 0 (.lit 0) (.sym (cat w (ruWd nm mv)).len))])
 |_=>none
noncomputable def ruxC:Con:=conM 174 [.own 9] [lRu] ruxS
theorem rux_ok:ConOK Tryz.prog 98 ruxC:=by
 refine fn_obM tt_ok mixed Tryz.func98 rfl (fun _ _=>by kernel_rfl) (A:=fun ds=>⟨fun _=>Cons.of [(135,putC),(137,itC)],fun k=>match k,ds with | 3,[.d w,.s nm,.d mv]=>some {ι:=Nat,pre:=fun _ i=>i<=mv.len,μ:=fun i=>mv.len-i,st:=fun s i=>famR s [(14,.one (.sc (.int .i64 (.sym ((i:Int))))))] [0,12,13] [(0,.own 174 ([.c (.osl 9 1 (.lit 0) (.sym (cat w ([⟨#[114,117,108,101]⟩,nm,⟨#[123]⟩]++catTo i (mvW mv))).len))])),(1,.orow 9 (cat w ([⟨#[114,117,108,101]⟩,nm,⟨#[123]⟩]++catTo i (mvW mv))))] []} |_,_=>none,fun _=>none⟩) (fun _ _=>(cons_cons put_ok (cons_cons it_ok cons_nil))) (by kernel_rfl) ?_
 intro ds;unfold ruxS;split
 ·rename_i w nm mv;refine kmp (q:=withv (fun (i:Nat)=>D.l [[D.s (itW (mv.el (i:Int).toNat 0).toI)],[D.s (mv.el (i:Int).toNat 1).toS],[D.s (itW (mv.el (i:Int).toNat 2).toI)],[D.s {data:=#[(59:UInt8)]}]]) fun E99=>withv (fun (i:Nat)=>cat w ([{data:=#[(114:UInt8),(117:UInt8),(108:UInt8),(101:UInt8)]},nm,{data:=#[(123:UInt8)]}]++catTo i (mvW mv))) fun E100=>withv ((D.l [[D.s {data:=#[(114:UInt8),(117:UInt8),(108:UInt8),(101:UInt8)]}],[D.s nm],[D.s {data:=#[(123:UInt8)]}]]).sub (0:Nat) ((0:Nat)+(3:Nat))) fun E101=>withv ((D.l [[D.s {data:=#[(125:UInt8)]}]]).sub (0:Nat) 1) fun E102=>withv (fun (i:Nat)=>w.rows++List.map sR ([{data:=#[(114:UInt8),(117:UInt8),(108:UInt8),(101:UInt8)]},nm,{data:=#[(123:UInt8)]}]++catTo i (mvW mv))) fun E103=>withv (fun (i:Nat)=>(E99 i).sub (0:Nat) ((0:Nat)+(4:Nat))) fun E104=>ruF nm mv->w.len<=2001->(0:Nat)=(0:Nat)/\w.len=w.len/\(0:Nat)+(3:Nat)<=(D.l [[D.s {data:=#[(114:UInt8),(117:UInt8),(108:UInt8),(101:UInt8)]}],[D.s nm],[D.s {data:=#[(123:UInt8)]}]]).len/\w.len<=2001/\E101.len<=1000/\(∀ (j:Nat),j<E101.len->(E101.el j 0).toS.size<=281474976710656)/\(∃ (i:Nat),i.le mv.len/\(0:Int)=(i:Int)/\mv.rows=mv.rows/\(mv.len:Int)=(mv.len:Int)/\(putD w E101).len=(E100 i).len/\List.take (2001:Nat) (w.rows++List.map sR (wsL E101 E101.len))=List.take (2001:Nat) (E103 i))/\∀ (i:Nat),i.le mv.len->(decide ((i:Int)<(mv.len:Int))=true->((0:Int)<=(i:Int)/\(i:Int)<(mv.len:Int))/\nI (mv.el (i:Int).toNat 0).toI/\nI (mv.el (i:Int).toNat 2).toI/\(0:Nat)=(0:Nat)/\(E100 i).len=(E100 i).len/\(0:Nat)+(4:Nat)<=(E99 i).len/\(E100 i).len<=2001/\(E104 i).len<=1000/\(∀ (j:Nat),j<(E104 i).len->((E104 i).el j 0).toS.size<=281474976710656)/\∃ (j:Nat),j.le mv.len/\mv.len-j<mv.len-i/\IntKind.i64.wrap ((i:Int)+(1:Int))=(j:Int)/\mv.rows=mv.rows/\(mv.len:Int)=(mv.len:Int)/\(putD (E100 i) (E104 i)).len=(cat w ([{data:=#[(114:UInt8),(117:UInt8),(108:UInt8),(101:UInt8)]},nm,{data:=#[(123:UInt8)]}]++catTo j (mvW mv))).len/\List.take (2001:Nat) (List.take (2001:Nat) (E103 i)++List.map sR (wsL (E104 i) (E104 i).len))=List.take (2001:Nat) (w.rows++List.map sR ([{data:=#[(114:UInt8),(117:UInt8),(108:UInt8),(101:UInt8)]},nm,{data:=#[(123:UInt8)]}]++catTo j (mvW mv))))/\(decide ((i:Int)<(mv.len:Int))=false->(0:Nat)=(0:Nat)/\(E100 i).len=(E100 i).len/\(0:Nat)+(1:Nat)<=(D.l [[D.s {data:=#[(125:UInt8)]}]]).len/\(E100 i).len<=2001/\E102.len<=1000/\(∀ (j:Nat),j<E102.len->(E102.el j 0).toS.size<=281474976710656)/\(putD (E100 i) E102).len=(cat w (ruWd nm mv)).len/\List.take (2001:Nat) (List.take (2001:Nat) (E103 i)++List.map sR (wsL E102 E102.len))=List.take (2001:Nat) (w.rows++List.map sR (ruWd nm mv)))) (by kernel_rfl) ?_
  dsimp +instances only [withv]
  intro hf hw;have o1:(1:Nat)<=1000:=by decide
  obtain ⟨h1,h2,h3⟩:=hf;refine ⟨rfl,rfl,Nat.le_refl _,hw,(show (3:Nat)<=1000 by omega),ok3 (show szz _ by unfold szz;decide) h1.z (show szz _ by unfold szz;decide),?_⟩;refine ⟨⟨0,Nat.zero_le _,rfl,rfl,rfl,eqD ?_⟩,fun i hi=>⟨fun hl=>?_,fun hl=>?_⟩⟩
  ·simp only [put1s,put2s,put3s,put4s,put5s,cat_cat]<;>rfl
  ·have hl:=of_decide_eq_true hl;have hi2:i<mv.len:=by omega
   have hb:=h2;have hw2:IntKind.i64.wrap ((i:Int)+1)=((i+1:Nat):Int):=by rw [IntWalk.i64_in _ (by omega)];omega
   obtain ⟨z1,z2,z3⟩:=h3 i hi2;refine ⟨⟨by omega,by omega⟩,z1,z3,rfl,rfl,Nat.le_refl _,cat_le _ _,(show (4:Nat)<=1000 by omega),ok4 (itW_z z1) z2.z (itW_z z3) (show szz _ by unfold szz;decide),i+1,hi2,by omega,hw2,rfl,rfl,eqD ?_⟩;simp only [put1s,put2s,put3s,put4s,put5s,cat_cat,catTo_succ,List.append_assoc]<;>rfl
  ·have hl:=of_decide_eq_false hl;have hi3:i=mv.len:=by have:i<=mv.len:=hi;omega
   subst hi3;refine ⟨rfl,rfl,Nat.le_refl _,cat_le _ _,o1,ok1 (by decide),eqD ?_⟩;unfold ruWd;simp only [put1s,put2s,put3s,put4s,put5s,cat_cat,List.append_assoc]<;>rfl
 ·trivial
noncomputable def prxS:List Dat->Option (Eff × List Seg):=fun ds=>match ds with
 | [.d w,.s nm,.d vs,.d bd]=>some ({val:=.tup [],vc:=[prcF nm vs bd,w.len<=2001],nw:=[(0,.orow 9 (cat w (prWd nm vs bd)))]},[.c (.osl 9 0 (.lit 0) (.sym (cat w (prWd nm vs bd)).len))])
 |_=>none
noncomputable def prxC:Con:=conM 174 [.own 9] [lPr] prxS
theorem prx_ok:ConOK Tryz.prog 99 prxC:=by
 refine fn_obM tt_ok mixed Tryz.func99 rfl (fun _ _=>by kernel_rfl) (A:=fun ds=>⟨fun _=>Cons.of [(135,putC),(138,lwrC)],fun k=>match k,ds with | 3,[.d w,.s nm,.d vs,.d bd]=>some {ι:=Nat,pre:=fun _ i=>i<=vs.len,μ:=fun i=>vs.len-i,st:=fun s i=>famR s [(14,.one (.sc (.int .i64 (.sym ((i:Int))))))] [0,3,12,13] [(0,.own 174 ([.c (.osl 9 1 (.lit 0) (.sym (cat w ([⟨#[112,114,111,99]⟩,nm,⟨#[123]⟩]++catTo i (vaW vs))).len))])),(1,.orow 9 (cat w ([⟨#[112,114,111,99]⟩,nm,⟨#[123]⟩]++catTo i (vaW vs))))] [3]} |_,_=>none,fun _=>none⟩) (fun _ _=>(cons_cons put_ok (cons_cons lwr_ok cons_nil))) (by kernel_rfl) ?_
 intro ds;unfold prxS;split
 ·rename_i w nm vs bd;refine kmp (q:=withv (fun (i:Nat)=>cat w ([{data:=#[(112:UInt8),(114:UInt8),(111:UInt8),(99:UInt8)]},nm,{data:=#[(123:UInt8)]}]++catTo i (vaW vs))) fun E105=>withv (fun (i:Nat)=>(D.l [[D.s {data:=#[(118:UInt8),(97:UInt8),(114:UInt8)]}],[D.s (vs.el (i:Int).toNat 0).toS],[D.s {data:=#[(59:UInt8)]}]]).sub (0:Nat) ((0:Nat)+(3:Nat))) fun E106=>withv ((D.l [[D.s {data:=#[(112:UInt8),(114:UInt8),(111:UInt8),(99:UInt8)]}],[D.s nm],[D.s {data:=#[(123:UInt8)]}]]).sub (0:Nat) ((0:Nat)+(3:Nat))) fun E107=>withv ((D.l [[D.s {data:=#[(125:UInt8)]}]]).sub (0:Nat) 1) fun E108=>withv (fun (i:Nat)=>w.rows++List.map sR ([{data:=#[(112:UInt8),(114:UInt8),(111:UInt8),(99:UInt8)]},nm,{data:=#[(123:UInt8)]}]++catTo i (vaW vs))) fun E109=>prcF nm vs bd->w.len<=2001->(0:Nat)=(0:Nat)/\w.len=w.len/\(0:Nat)+(3:Nat)<=(D.l [[D.s {data:=#[(112:UInt8),(114:UInt8),(111:UInt8),(99:UInt8)]}],[D.s nm],[D.s {data:=#[(123:UInt8)]}]]).len/\w.len<=2001/\E107.len<=1000/\(∀ (j:Nat),j<E107.len->(E107.el j 0).toS.size<=281474976710656)/\(∃ (i:Nat),i.le vs.len/\(0:Int)=(i:Int)/\vs.rows=vs.rows/\(vs.len:Int)=(vs.len:Int)/\(putD w E107).len=(E105 i).len/\List.take (2001:Nat) (w.rows++List.map sR (wsL E107 E107.len))=List.take (2001:Nat) (E109 i)/\Value.string nm=Value.string nm/\vs.rows=vs.rows/\bd.rows=bd.rows)/\∀ (i:Nat),i.le vs.len->(decide ((i:Int)<(vs.len:Int))=true->((0:Int)<=(i:Int)/\(i:Int)<(vs.len:Int))/\(0:Nat)=(0:Nat)/\(E105 i).len=(E105 i).len/\(0:Nat)+(3:Nat)<=(D.l [[D.s {data:=#[(118:UInt8),(97:UInt8),(114:UInt8)]}],[D.s (vs.el (i:Int).toNat 0).toS],[D.s {data:=#[(59:UInt8)]}]]).len/\(E105 i).len<=2001/\(E106 i).len<=1000/\(∀ (j:Nat),j<(E106 i).len->((E106 i).el j 0).toS.size<=281474976710656)/\∃ (j:Nat),j.le vs.len/\vs.len-j<vs.len-i/\IntKind.i64.wrap ((i:Int)+(1:Int))=(j:Int)/\vs.rows=vs.rows/\(vs.len:Int)=(vs.len:Int)/\(putD (E105 i) (E106 i)).len=(cat w ([{data:=#[(112:UInt8),(114:UInt8),(111:UInt8),(99:UInt8)]},nm,{data:=#[(123:UInt8)]}]++catTo j (vaW vs))).len/\List.take (2001:Nat) (List.take (2001:Nat) (E109 i)++List.map sR (wsL (E106 i) (E106 i).len))=List.take (2001:Nat) (w.rows++List.map sR ([{data:=#[(112:UInt8),(114:UInt8),(111:UInt8),(99:UInt8)]},nm,{data:=#[(123:UInt8)]}]++catTo j (vaW vs)))/\Value.string nm=Value.string nm/\vs.rows=vs.rows/\bd.rows=bd.rows)/\(decide ((i:Int)<(vs.len:Int))=false->(0:Nat)=(0:Nat)/\(E105 i).len=(E105 i).len/\bF bd/\(E105 i).len<=2001/\(0:Nat)=(0:Nat)/\(cat (E105 i) (bW bd)).len=(cat (E105 i) (bW bd)).len/\(0:Nat)+(1:Nat)<=(D.l [[D.s {data:=#[(125:UInt8)]}]]).len/\(cat (E105 i) (bW bd)).len<=2001/\E108.len<=1000/\(∀ (j:Nat),j<E108.len->(E108.el j 0).toS.size<=281474976710656)/\(putD (cat (E105 i) (bW bd)) E108).len=(cat w (prWd nm vs bd)).len/\List.take (2001:Nat) (List.take (2001:Nat) (List.take (2001:Nat) (E109 i)++List.map sR (bW bd))++List.map sR (wsL E108 E108.len))=List.take (2001:Nat) (w.rows++List.map sR (prWd nm vs bd)))) (by kernel_rfl) ?_
  dsimp +instances only [withv]
  intro hf hw;have o1:(1:Nat)<=1000:=by decide
  obtain ⟨h1,h2,h3,h4⟩:=hf;refine ⟨rfl,rfl,Nat.le_refl _,hw,(show (3:Nat)<=1000 by omega),ok3 (show szz _ by unfold szz;decide) h1.z (show szz _ by unfold szz;decide),?_⟩;refine ⟨⟨0,Nat.zero_le _,rfl,rfl,rfl,eqDx ?_ ⟨rfl,rfl,rfl⟩⟩,fun i hi=>⟨fun hl=>?_,fun hl=>?_⟩⟩
  ·simp only [put1s,put2s,put3s,put4s,put5s,cat_cat]<;>rfl
  ·have hl:=of_decide_eq_true hl;have hi2:i<vs.len:=by omega
   have hb:=h2;have hw2:IntKind.i64.wrap ((i:Int)+1)=((i+1:Nat):Int):=by rw [IntWalk.i64_in _ (by omega)];omega
   have z1:=h3 i hi2;refine ⟨⟨by omega,by omega⟩,rfl,rfl,Nat.le_refl _,cat_le _ _,(show (3:Nat)<=1000 by omega),ok3 (show szz _ by unfold szz;decide) z1.z (show szz _ by unfold szz;decide),i+1,hi2,by omega,hw2,rfl,rfl,eqDx ?_ ⟨rfl,rfl,rfl⟩⟩;simp only [put1s,put2s,put3s,put4s,put5s,cat_cat,catTo_succ,List.append_assoc]<;>rfl
  ·have hl:=of_decide_eq_false hl;have hi3:i=vs.len:=by have:i<=vs.len:=hi;omega
   subst hi3;refine ⟨rfl,rfl,h4,cat_le _ _,rfl,rfl,Nat.le_refl _,cat_le _ _,o1,ok1 (by decide),eqD ?_⟩;unfold prWd;simp only [put1s,put2s,put3s,put4s,put5s,cat_cat,List.append_assoc]<;>rfl
 ·trivial
noncomputable def syxS:List Dat->Option (Eff × List Seg):=fun ds=>match ds with
 | [.d w,.d ch,.d ru,.d pr]=>some ({val:=.tup [],vc:=[SyOK ch ru pr,SyF ch ru pr,w.len<=2001],nw:=[(0,.orow 9 (cat w (syW ch ru pr)))]},[.c (.osl 9 0 (.lit 0) (.sym (cat w (syW ch ru pr)).len))])
 |_=>none
noncomputable def syxC:Con:=conM 174 [.own 9] [lSy] syxS
theorem syx_ok:ConOK Tryz.prog 54 syxC:=by
 refine fn_obM tt_ok mixed Tryz.func54 rfl (fun _ _=>by kernel_rfl) (A:=fun ds=>⟨fun _=>Cons.of [(97,chxC),(98,ruxC),(99,prxC)],fun k=>match k,ds with | 2,[.d w,.d ch,.d ru,.d pr]=>some {ι:=Nat,pre:=fun _ i=>i<=ch.len,μ:=fun i=>ch.len-i,st:=fun s i=>famR s [(13,.one (.sc (.int .i64 (.sym ((i:Int))))))] [0,3,11,12] [(0,.own 174 ([.c (.osl 9 1 (.lit 0) (.sym (cat w (catTo i (chWE ch))).len))])),(1,.orow 9 (cat w (catTo i (chWE ch))))] [3]} | 7,[.d w,.d ch,.d ru,.d pr]=>some {ι:=Nat,pre:=fun _ i=>i<=ru.len,μ:=fun i=>ru.len-i,st:=fun s i=>famR s [(24,.one (.sc (.int .i64 (.sym ((i:Int))))))] [0,3,22,23] [(0,.own 174 ([.c (.osl 9 1 (.lit 0) (.sym (cat w (catTo ch.len (chWE ch)++catTo i (ruWE ru))).len))])),(1,.orow 9 (cat w (catTo ch.len (chWE ch)++catTo i (ruWE ru))))] [3]} | 12,[.d w,.d ch,.d ru,.d pr]=>some {ι:=Nat,pre:=fun _ i=>i<=pr.len,μ:=fun i=>pr.len-i,st:=fun s i=>famR s [(35,.one (.sc (.int .i64 (.sym ((i:Int))))))] [0,3,33,34] [(0,.own 174 ([.c (.osl 9 1 (.lit 0) (.sym (cat w ((catTo ch.len (chWE ch)++catTo ru.len (ruWE ru))++catTo i (prWE pr))).len))])),(1,.orow 9 (cat w ((catTo ch.len (chWE ch)++catTo ru.len (ruWE ru))++catTo i (prWE pr))))] [3]} |_,_=>none,fun _=>none⟩) (fun _ _=>(cons_cons chx_ok (cons_cons rux_ok (cons_cons prx_ok cons_nil)))) (by kernel_rfl) ?_
 intro ds;unfold syxS;split
 ·rename_i w ch ru pr
  refine kmp (q:=SyOK ch ru pr->SyF ch ru pr->w.len<=2001->(∃ (i:Nat),i.le ch.len/\(0:Int)=(i:Int)/\ch.rows=ch.rows/\(ch.len:Int)=(ch.len:Int)/\w.len=(cat w (catTo i (chWE ch))).len/\w.rows=List.take (2001:Nat) (w.rows++List.map sR (catTo i (chWE ch)))/\ch.rows=ch.rows/\ru.rows=ru.rows/\pr.rows=pr.rows)/\∀ (i:Nat),i.le ch.len->(decide ((i:Int)<(ch.len:Int))=true->((0:Int)<=(i:Int)/\(i:Int)<(ch.len:Int))/\(0:Nat)=(0:Nat)/\(cat w (catTo i (chWE ch))).len=(cat w (catTo i (chWE ch))).len/\chF (ch.el (i:Int).toNat 0).toS (ch.el (i:Int).toNat 2).toI (ch.el (i:Int).toNat 3).toS (ch.el (i:Int).toNat 4).toS (ch.el (i:Int).toNat 5)/\(cat w (catTo i (chWE ch))).len<=2001/\∃ (j:Nat),j.le ch.len/\ch.len-j<ch.len-i/\IntKind.i64.wrap ((i:Int)+(1:Int))=(j:Int)/\ch.rows=ch.rows/\(ch.len:Int)=(ch.len:Int)/\(cat (cat w (catTo i (chWE ch))) (chWd (ch.el (i:Int).toNat 0).toS (ch.el (i:Int).toNat 1).toI (ch.el (i:Int).toNat 2).toI (ch.el (i:Int).toNat 3).toS (ch.el (i:Int).toNat 4).toS (ch.el (i:Int).toNat 5))).len=(cat w (catTo j (chWE ch))).len/\List.take (2001:Nat) (List.take (2001:Nat) (w.rows++List.map sR (catTo i (chWE ch)))++List.map sR (chWd (ch.el (i:Int).toNat 0).toS (ch.el (i:Int).toNat 1).toI (ch.el (i:Int).toNat 2).toI (ch.el (i:Int).toNat 3).toS (ch.el (i:Int).toNat 4).toS (ch.el (i:Int).toNat 5)))=List.take (2001:Nat) (w.rows++List.map sR (catTo j (chWE ch)))/\ch.rows=ch.rows/\ru.rows=ru.rows/\pr.rows=pr.rows)/\(decide ((i:Int)<(ch.len:Int))=false->(∃ (i_1:Nat),i_1.le ru.len/\(0:Int)=(i_1:Int)/\ru.rows=ru.rows/\(ru.len:Int)=(ru.len:Int)/\(cat w (catTo i (chWE ch))).len=(cat w (catTo ch.len (chWE ch)++catTo i_1 (ruWE ru))).len/\List.take (2001:Nat) (w.rows++List.map sR (catTo i (chWE ch)))=List.take (2001:Nat) (w.rows++List.map sR (catTo ch.len (chWE ch)++catTo i_1 (ruWE ru)))/\ch.rows=ch.rows/\ru.rows=ru.rows/\pr.rows=pr.rows)/\∀ (i:Nat),i.le ru.len->(decide ((i:Int)<(ru.len:Int))=true->((0:Int)<=(i:Int)/\(i:Int)<(ru.len:Int))/\(0:Nat)=(0:Nat)/\(cat w (catTo ch.len (chWE ch)++catTo i (ruWE ru))).len=(cat w (catTo ch.len (chWE ch)++catTo i (ruWE ru))).len/\ruF (ru.el (i:Int).toNat 0).toS (ru.el (i:Int).toNat 1)/\(cat w (catTo ch.len (chWE ch)++catTo i (ruWE ru))).len<=2001/\∃ (j:Nat),j.le ru.len/\ru.len-j<ru.len-i/\IntKind.i64.wrap ((i:Int)+(1:Int))=(j:Int)/\ru.rows=ru.rows/\(ru.len:Int)=(ru.len:Int)/\(cat (cat w (catTo ch.len (chWE ch)++catTo i (ruWE ru))) (ruWd (ru.el (i:Int).toNat 0).toS (ru.el (i:Int).toNat 1))).len=(cat w (catTo ch.len (chWE ch)++catTo j (ruWE ru))).len/\List.take (2001:Nat) (List.take (2001:Nat) (w.rows++List.map sR (catTo ch.len (chWE ch)++catTo i (ruWE ru)))++List.map sR (ruWd (ru.el (i:Int).toNat 0).toS (ru.el (i:Int).toNat 1)))=List.take (2001:Nat) (w.rows++List.map sR (catTo ch.len (chWE ch)++catTo j (ruWE ru)))/\ch.rows=ch.rows/\ru.rows=ru.rows/\pr.rows=pr.rows)/\(decide ((i:Int)<(ru.len:Int))=false->(∃ (i_1:Nat),i_1.le pr.len/\(0:Int)=(i_1:Int)/\pr.rows=pr.rows/\(pr.len:Int)=(pr.len:Int)/\(cat w (catTo ch.len (chWE ch)++catTo i (ruWE ru))).len=(cat w (catTo ch.len (chWE ch)++catTo ru.len (ruWE ru)++catTo i_1 (prWE pr))).len/\List.take (2001:Nat) (w.rows++List.map sR (catTo ch.len (chWE ch)++catTo i (ruWE ru)))=List.take (2001:Nat) (w.rows++List.map sR (catTo ch.len (chWE ch)++catTo ru.len (ruWE ru)++catTo i_1 (prWE pr)))/\ch.rows=ch.rows/\ru.rows=ru.rows/\pr.rows=pr.rows)/\∀ (i:Nat),i.le pr.len->(decide ((i:Int)<(pr.len:Int))=true->((0:Int)<=(i:Int)/\(i:Int)<(pr.len:Int))/\(0:Nat)=(0:Nat)/\(cat w (catTo ch.len (chWE ch)++catTo ru.len (ruWE ru)++catTo i (prWE pr))).len=(cat w (catTo ch.len (chWE ch)++catTo ru.len (ruWE ru)++catTo i (prWE pr))).len/\prcF (pr.el (i:Int).toNat 0).toS (pr.el (i:Int).toNat 1) (pr.el (i:Int).toNat 2)/\(cat w (catTo ch.len (chWE ch)++catTo ru.len (ruWE ru)++catTo i (prWE pr))).len<=2001/\∃ (j:Nat),j.le pr.len/\pr.len-j<pr.len-i/\IntKind.i64.wrap ((i:Int)+(1:Int))=(j:Int)/\pr.rows=pr.rows/\(pr.len:Int)=(pr.len:Int)/\(cat (cat w (catTo ch.len (chWE ch)++catTo ru.len (ruWE ru)++catTo i (prWE pr))) (prWd (pr.el (i:Int).toNat 0).toS (pr.el (i:Int).toNat 1) (pr.el (i:Int).toNat 2))).len=(cat w (catTo ch.len (chWE ch)++catTo ru.len (ruWE ru)++catTo j (prWE pr))).len/\List.take (2001:Nat) (List.take (2001:Nat) (w.rows++List.map sR (catTo ch.len (chWE ch)++catTo ru.len (ruWE ru)++catTo i (prWE pr)))++List.map sR (prWd (pr.el (i:Int).toNat 0).toS (pr.el (i:Int).toNat 1) (pr.el (i:Int).toNat 2)))=List.take (2001:Nat) (w.rows++List.map sR (catTo ch.len (chWE ch)++catTo ru.len (ruWE ru)++catTo j (prWE pr)))/\ch.rows=ch.rows/\ru.rows=ru.rows/\pr.rows=pr.rows)/\(decide ((i:Int)<(pr.len:Int))=false->(cat w (catTo ch.len (chWE ch)++catTo ru.len (ruWE ru)++catTo i (prWE pr))).len=(cat w (syW ch ru pr)).len/\List.take (2001:Nat) (w.rows++List.map sR (catTo ch.len (chWE ch)++catTo ru.len (ruWE ru)++catTo i (prWE pr)))=List.take (2001:Nat) (w.rows++List.map sR (syW ch ru pr)))))) (by kernel_rfl) ?_
  intro hk hf hw;refine ⟨⟨0,Nat.zero_le _,rfl,rfl,rfl,(cat_nil hw).1,(cat_nil hw).2,rfl,rfl,rfl⟩,fun i hi=>⟨fun hl=>?_,fun hl=>?_⟩⟩
  ·have hl:=of_decide_eq_true hl;have hi2:i<ch.len:=by omega
   have hb:=hk.c;have hw2:IntKind.i64.wrap ((i:Int)+1)=((i+1:Nat):Int):=by rw [IntWalk.i64_in _ (by omega)];omega
   have z1:=hf.c i hi2;refine ⟨⟨by omega,by omega⟩,rfl,rfl,z1,cat_le _ _,i+1,hi2,by omega,hw2,rfl,rfl,eqDx ?_ ⟨rfl,rfl,rfl⟩⟩;simp only [put1s,put2s,put3s,put4s,put5s,cat_cat,catTo_succ,List.append_assoc]<;>rfl
  ·have hl:=of_decide_eq_false hl;have hi3:i=ch.len:=by have:i<=ch.len:=hi;omega
   subst hi3;refine ⟨⟨0,Nat.zero_le _,rfl,rfl,rfl,eqDx ?_ ⟨rfl,rfl,rfl⟩⟩,fun i hi=>⟨fun hl=>?_,fun hl=>?_⟩⟩
   ·simp only [catTo,List.range_zero,List.map_nil,List.flatten_nil,List.append_nil]
   ·have hl:=of_decide_eq_true hl;have hi2:i<ru.len:=by omega
    have hb:=hk.r;have hw2:IntKind.i64.wrap ((i:Int)+1)=((i+1:Nat):Int):=by rw [IntWalk.i64_in _ (by omega)];omega
    have z1:=hf.r i hi2;refine ⟨⟨by omega,by omega⟩,rfl,rfl,z1,cat_le _ _,i+1,hi2,by omega,hw2,rfl,rfl,eqDx ?_ ⟨rfl,rfl,rfl⟩⟩;simp only [put1s,put2s,put3s,put4s,put5s,cat_cat,catTo_succ,List.append_assoc]<;>rfl
   ·have hl:=of_decide_eq_false hl;have hi3:i=ru.len:=by have:i<=ru.len:=hi;omega
    subst hi3;refine ⟨⟨0,Nat.zero_le _,rfl,rfl,rfl,eqDx ?_ ⟨rfl,rfl,rfl⟩⟩,fun i hi=>⟨fun hl=>?_,fun hl=>?_⟩⟩
    ·simp only [catTo,List.range_zero,List.map_nil,List.flatten_nil,List.append_nil]
    ·have hl:=of_decide_eq_true hl;have hi2:i<pr.len:=by omega
     have hb:=hk.p;have hw2:IntKind.i64.wrap ((i:Int)+1)=((i+1:Nat):Int):=by rw [IntWalk.i64_in _ (by omega)];omega
     have z1:=hf.p i hi2;refine ⟨⟨by omega,by omega⟩,rfl,rfl,z1,cat_le _ _,i+1,hi2,by omega,hw2,rfl,rfl,eqDx ?_ ⟨rfl,rfl,rfl⟩⟩;simp only [put1s,put2s,put3s,put4s,put5s,cat_cat,catTo_succ,List.append_assoc]<;>rfl
    ·have hl:=of_decide_eq_false hl;have hi3:i=pr.len:=by have:i<=pr.len:=hi;omega
     subst hi3;refine eqD ?_
     unfold syW;simp only [List.append_assoc]
 ·trivial
def wdD (ch ru pr:D):D:=cat (.l []) (syW ch ru pr)
def wdE (ch ru pr:D):Int:=if syB ch ru pr=true then (if syN pr=true then (if ((wdD ch ru pr).len:Int)>2000 then 4 else 0) else 6) else 5
def wdA (ch ru pr:D):D:=if wdE ch ru pr=0 then wdD ch ru pr else .l []
theorem wd5 {ch ru pr:D} (h:syB ch ru pr=false):wdE ch ru pr=5:=by unfold wdE;rw [h];rfl
theorem wd6 {ch ru pr:D} (h:syB ch ru pr=true) (h2:syN pr=false):wdE ch ru pr=6:=by unfold wdE;rw [h,h2];rfl
theorem wd4 {ch ru pr:D} (h:syB ch ru pr=true) (h2:syN pr=true) (h3:((wdD ch ru pr).len:Int)>2000):wdE ch ru pr=4:=by unfold wdE;rw [h,h2,if_pos rfl,if_pos rfl,if_pos h3]
theorem wd0 {ch ru pr:D} (h:syB ch ru pr=true) (h2:syN pr=true) (h3:¬ ((wdD ch ru pr).len:Int)>2000):wdE ch ru pr=0:=by unfold wdE;rw [h,h2,if_pos rfl,if_pos rfl,if_neg h3]
noncomputable def wrdS:FSpec:=fun ds _=>match ds with
 | [.d ch,.d ru,.d pr]=>some {val:=.tup [.sc (.rows 9 (wdA ch ru pr)),.sc (.int .i64 (.sym (wdE ch ru pr)))],vc:=[SyOK ch ru pr,(syB ch ru pr=true->syN pr=true->SyF ch ru pr)]}
 |_=>none
noncomputable def wrdC:Con:=con [lSy] wrdS
theorem wrd_ok:ConOK Tryz.prog 29 wrdC:=by
 refine fn_ob tt_ok mixed Tryz.func29 rfl (fun _ _=>by kernel_rfl) (A:=fun ds=>⟨fun _=>Cons.of [(52,syrC),(53,sydC),(54,syxC),(55,tooMC)],fun _=>none,fun _=>none⟩) (fun _ _=>(cons_cons syr_ok (cons_cons syd_ok (cons_cons syx_ok (cons_cons tooM_ok cons_nil))))) (by kernel_rfl) ?_
 intro ds fr;unfold wrdS;split
 ·rename_i ch ru pr;refine kmp (q:=SyOK ch ru pr->(syB ch ru pr=true->syN pr=true->SyF ch ru pr)->SyOK ch ru pr/\((!syB ch ru pr)=true->(wdA ch ru pr).rows=[]/\(5:Int)=wdE ch ru pr)/\((!syB ch ru pr)=false->SyOK ch ru pr/\syB ch ru pr=true/\((!syN pr)=true->(wdA ch ru pr).rows=[]/\(6:Int)=wdE ch ru pr)/\((!syN pr)=false->SyOK ch ru pr/\SyF ch ru pr/\(D.l []).len<=2001/\(0:Nat)=(0:Nat)/\(cat (D.l []) (syW ch ru pr)).len=(cat (D.l []) (syW ch ru pr)).len/\(cat (D.l []) (syW ch ru pr)).len<=10000000000000/\(decide ((↑(cat (D.l []) (syW ch ru pr)).len:Int)>(2000:Int))=true->(wdA ch ru pr).rows=[]/\(4:Int)=wdE ch ru pr)/\(decide ((↑(cat (D.l []) (syW ch ru pr)).len:Int)>(2000:Int))=false->(0:Nat)+(cat (D.l []) (syW ch ru pr)).len<=(cat (D.l []) (syW ch ru pr)).len/\List.drop ((0:Nat)) (List.take ((0:Nat)+(cat (D.l []) (syW ch ru pr)).len) (List.take (2001:Nat) ([]++List.map sR (syW ch ru pr))))=(wdA ch ru pr).rows/\(0:Int)=wdE ch ru pr)))) (by kernel_rfl) ?_
  intro hk hf;have an:wdE ch ru pr≠0->(wdA ch ru pr).rows=[]:=fun h=>by unfold wdA;rw [if_neg h];rfl
  refine ⟨hk,fun h=>?_,fun h=>?_⟩
  ·rw [Bool.not_eq_true'] at h;have e:=wd5 h;exact ⟨an (by rw [e];decide),e.symm⟩
  ·rw [Bool.not_eq_false'] at h;refine ⟨hk,h,fun h2=>?_,fun h2=>?_⟩
   ·rw [Bool.not_eq_true'] at h2;have e:=wd6 h h2;exact ⟨an (by rw [e];decide),e.symm⟩
   ·rw [Bool.not_eq_false'] at h2;refine ⟨hk,hf h h2,Nat.zero_le _,rfl,rfl,Nat.le_trans (cat_le _ _) (by decide),fun h3=>?_,fun h3=>?_⟩
    ·have e:=wd4 h h2 (of_decide_eq_true h3);exact ⟨an (by rw [e];decide),e.symm⟩
    ·have e:=wd0 h h2 (of_decide_eq_false h3);have ea:wdA ch ru pr=wdD ch ru pr:=if_pos e;refine ⟨by omega,?_,e.symm⟩;rw [ea,Nat.zero_add];show List.drop 0 (List.take (wdD ch ru pr).rows.length (wdD ch ru pr).rows)=_;rw [List.take_length];rfl
 ·trivial
def lXr:AP:=.agg [.c (.int .i64),.c (.int .i64),.c .str,.c (.rows 143)]
def lCr:AP:=.agg [.c (.int .i64),.c (.int .i64),.c (.int .i64),.c .str,.c (.rows 143),.c (.int .i64),.c (.int .i64),.c .str,.c (.rows 143)]
def cpTo (n:Nat) (f:Nat->List D):D:=.l ((List.range n).map f)
theorem cpTo_len (n:Nat) (f:Nat->List D):(cpTo n f).len=n:=by
 show ((List.range n).map f).length=n;rw [List.length_map,List.length_range]
theorem cpTo_succ (n:Nat) (f:Nat->List D):(cpTo (n+1) f).rows=(cpTo n f).rows++[f n]:=by
 show (List.range (n+1)).map f=(List.range n).map f++[f n];rw [List.range_succ,List.map_append];rfl
theorem cpF_eq {n:Nat} (f:Nat->List D):D.l ((List.finRange n).map fun i=>f i.1)=cpTo n f:=by
 unfold cpTo
 congr 1
 apply List.ext_getElem
 ·simp
 ·intro i h1 h2
  simp
def cpE (d:D):D:=.l ((List.finRange d.len).map fun (i:Fin d.len)=>[D.i (d.el i 0).toI,D.i (d.el i 1).toI,D.s (d.el i 2).toS,cpE (d.el i 3)])
 termination_by SizeOf.sizeOf d
 decreasing_by exact lel_lt i.isLt
def rX (d:D) (i:Nat):List D:=[D.i (d.el i 0).toI,D.i (d.el i 1).toI,D.s (d.el i 2).toS,cpE (d.el i 3)]
theorem cpE_eq (d:D):cpE d=cpTo d.len (rX d):=by
 rw [cpE,<- cpF_eq];rfl
def kS (d:D):Prop:=d.len*56<=140737488355328/\∀ i:Fin d.len,kS (d.el i 3)
 termination_by SizeOf.sizeOf d
 decreasing_by exact lel_lt i.isLt
theorem kS_iff (d:D):kS d↔d.len*56<=140737488355328/\∀ i,i<d.len->kS (d.el i 3):=by
 rw [kS];exact ⟨fun h=>⟨h.1,fun i hi=>h.2 ⟨i,hi⟩⟩,fun h=>⟨h.1,fun i=>h.2 i.1 i.2⟩⟩
noncomputable def xcpS:FSpec:=fun ds _=>match ds with
 | [.i k,.i n,.s s,.d d]=>some {val:=.one (.agg [.c (.int .i64 (.sym (k))),.c (.int .i64 (.sym (n))),.c (.raw (.string (s))),.c (.rows 186 (cpE d))]),vc:=[kS d]}
 |_=>none
noncomputable def xcpC:Con:=con [lXr] xcpS
noncomputable def xcpM:List Dat->Nat:=fun ds=>match ds with
 | [.i _k,.i _n,.s _s,.d d]=>SizeOf.sizeOf d
 |_=>0
noncomputable def xcpSu (m:Nat):FSpec:=fun ds _=>match ds with
 | [.i k,.i n,.s s,.d d]=>some {val:=.one (.agg [.c (.int .i64 (.sym (k))),.c (.int .i64 (.sym (n))),.c (.raw (.string (s))),.c (.rows 186 (cpE d))]),vc:=[SizeOf.sizeOf d<m,kS d]}
 |_=>none
theorem xcp_under (m:Nat):xcpS.under xcpM m=xcpSu m:=by
 funext ds fr
 unfold FSpec.under xcpS xcpM xcpSu;split
 ·rename_i e h
  split at h
  ·obtain rfl:=Option.some.inj h;rfl
  ·cases h
 ·rename_i h
  split at h
  ·cases h
  ·rfl
theorem xcp_step (m:Nat) (ih:ConOK Tryz.prog 62 (con [lXr] (xcpSu m))):ConOK Tryz.prog 62 (con [lXr] (xcpSu (m+1))):=by
 refine fn_ob tt_ok mixed Tryz.func62 rfl (fun _ _=>by kernel_rfl) (A:=fun ds=>⟨fun _=>Cons.of [(62,con [lXr] (xcpSu m))],fun k=>match k,ds with | 3,[.i k,.i n,.s s,.d d]=>some {ι:=Nat,pre:=fun _ i=>i<=d.len,μ:=fun i=>d.len+1-i,st:=fun s i=>famR s [(4,.one (.sc (.int .i64 (.sym ((i:Nat)))))),(3,.one (.sc (.osl 186 (s.nx-1) (.lit 0) (.sym (i)))))] [1,2] [(s.nx-1,.orow 186 (cpTo i (rX d)))] [1,2]} |_,_=>none,fun _=>none⟩) (fun _ _=>(cons_cons ih cons_nil)) (by kernel_rfl) ?_
 intro ds fr;unfold xcpSu;split
 ·rename_i k n s d;refine kmp (q:=SizeOf.sizeOf d<m+(1:Nat)->kS d->(∃ (i:Nat),i.le d.len/\(0:Int)=(i:Int)/\i=(0:Nat)/\List.map (rX d) (List.range i)=[]/\k=k/\n=n/\Value.string s=Value.string s/\d.rows=d.rows/\(0:Int)=(0:Int)/\(0:Int)=(0:Int)/\Value.string ByteArray.empty=Value.string ByteArray.empty)/\∀ (i:Nat),i.le d.len->(decide ((i:Int)<(d.len:Int))=true->((0:Int)<=(i:Int)/\(i:Int)<(d.len:Int))/\SizeOf.sizeOf (d.el (i:Int).toNat 3)<m/\kS (d.el (i:Int).toNat 3)/\i=(cpTo i (rX d)).len/\(i+((D.l [[D.i (d.el (i:Int).toNat 0).toI,D.i (d.el (i:Int).toNat 1).toI,D.s (d.el (i:Int).toNat 2).toS,cpE (d.el (i:Int).toNat 3)]]).sub (0:Nat) 1).len)*(56:Nat)<=(140737488355328:Nat)/\(0:Nat)+(1:Nat)<=(D.l [[D.i (d.el (i:Int).toNat 0).toI,D.i (d.el (i:Int).toNat 1).toI,D.s (d.el (i:Int).toNat 2).toS,cpE (d.el (i:Int).toNat 3)]]).len/\∃ (j:Nat),j.le d.len/\d.len+(1:Nat)-j<d.len+(1:Nat)-i/\IntKind.i64.wrap ((i:Int)+(1:Int))=(j:Int)/\i+((D.l [[D.i (d.el (i:Int).toNat 0).toI,D.i (d.el (i:Int).toNat 1).toI,D.s (d.el (i:Int).toNat 2).toS,cpE (d.el (i:Int).toNat 3)]]).sub (0:Nat) 1).len=j/\List.map (rX d) (List.range i)++List.drop (0:Nat) (List.take 1 [[D.i (d.el (i:Int).toNat 0).toI,D.i (d.el (i:Int).toNat 1).toI,D.s (d.el (i:Int).toNat 2).toS,cpE (d.el (i:Int).toNat 3)]])=List.map (rX d) (List.range j)/\k=k/\n=n/\Value.string s=Value.string s/\d.rows=d.rows/\(0:Int)=(0:Int)/\(0:Int)=(0:Int)/\Value.string ByteArray.empty=Value.string ByteArray.empty)/\(decide ((i:Int)<(d.len:Int))=false->(0:Nat)+i<=(cpTo i (rX d)).len/\k=k/\n=n/\Value.string s=Value.string s/\List.drop ((0:Nat)) (List.take ((0:Nat)+i) (List.map (rX d) (List.range i)))=(cpE d).rows)) (by kernel_rfl) ?_
  intro hm hs;rw [kS_iff] at hs;obtain ⟨h1,h2⟩:=hs;refine ⟨⟨0,Nat.zero_le _,rfl,rfl,rfl,rfl,rfl,rfl,rfl,rfl,rfl,rfl⟩,fun i hi=>⟨fun hl=>?_,fun hl=>?_⟩⟩
  ·have hl:=of_decide_eq_true hl;have hi2:i<d.len:=by omega
   have hw2:IntKind.i64.wrap ((i:Int)+1)=((i+1:Nat):Int):=by rw [IntWalk.i64_in _ (by omega)];omega
   have z:=lel_lt (j:=3) hi2;exact ⟨⟨by omega,by omega⟩,(show SizeOf.sizeOf (d.el i 3)<m by omega),h2 i hi2,(cpTo_len _ _).symm,(show (i+1)*56<=140737488355328 by omega),Nat.le_refl _,i+1,hi2,by omega,hw2,rfl,(cpTo_succ i (rX d)).symm,rfl,rfl,rfl,rfl,rfl,rfl,rfl⟩
  ·have hl:=of_decide_eq_false hl;have hi3:i=d.len:=by have:i<=d.len:=hi;omega
   subst hi3;refine ⟨by rw [cpTo_len];omega,rfl,rfl,rfl,?_⟩;rw [cpE_eq,Nat.zero_add,List.drop_zero,List.take_of_length_le (by simp)];rfl
 ·trivial
theorem xcp_ok:ConOK Tryz.prog 62 xcpC:=
 con_rec xcpM (fun _ _=>by kernel_rfl) fun m ih=>by
  rw [xcp_under] at ih ⊢;exact xcp_step m ih
noncomputable def ccpS:FSpec:=fun ds _=>match ds with
 | [.i op,.i lk,.i ln,.s ls,.d ld,.i rk,.i rn,.s rs,.d rd]=>some {val:=.one (.agg [.c (.int .i64 (.sym (op))),.c (.int .i64 (.sym (lk))),.c (.int .i64 (.sym (ln))),.c (.raw (.string (ls))),.c (.rows 186 (cpE ld)),.c (.int .i64 (.sym (rk))),.c (.int .i64 (.sym (rn))),.c (.raw (.string (rs))),.c (.rows 186 (cpE rd))]),vc:=[kS ld,kS rd]}
 |_=>none
noncomputable def ccpC:Con:=con [lCr] ccpS
theorem ccp_ok:ConOK Tryz.prog 63 ccpC:=by
 refine fn_ob tt_ok mixed Tryz.func63 rfl (fun _ _=>by kernel_rfl) (A:=fun ds=>⟨fun _=>Cons.of [(62,xcpC)],fun _=>none,fun _=>none⟩) (fun _ _=>(cons_cons xcp_ok cons_nil)) (by kernel_rfl) ?_
 intro ds fr;unfold ccpS;split
 ·rename_i op lk ln ls ld rk rn rs rd;refine kmp (q:=kS ld->kS rd->kS ld/\kS rd/\op=op/\lk=lk/\ln=ln/\Value.string ls=Value.string ls/\(cpE ld).rows=(cpE ld).rows/\rk=rk/\rn=rn/\Value.string rs=Value.string rs/\(cpE rd).rows=(cpE rd).rows) (by kernel_rfl) ?_
  intro hl hr;exact ⟨hl,hr,rfl,rfl,rfl,rfl,rfl,rfl,rfl,rfl,rfl⟩
 ·trivial
def lBr:AP:=.sc (.rows 148)
theorem cpTo_all (n:Nat) (f:Nat->List D):(cpTo n f).sub 0 (0+n)=cpTo n f:=by
 rw [Nat.zero_add];show D.l (List.drop 0 (List.take n ((List.range n).map f)))=_;rw [List.take_of_length_le (by simp)];rfl
def cpB (d:D):D:=.l ((List.finRange d.len).map fun (i:Fin d.len)=>[D.i (d.el i 0).toI,D.s (d.el i 1).toS,D.s (d.el i 2).toS,D.i (d.el i 3).toI,D.i (d.el i 4).toI,D.s (d.el i 5).toS,cpE (d.el i 6),D.i (d.el i 7).toI,D.i (d.el i 8).toI,D.i (d.el i 9).toI,D.s (d.el i 10).toS,cpE (d.el i 11),D.i (d.el i 12).toI,D.i (d.el i 13).toI,D.s (d.el i 14).toS,cpE (d.el i 15),cpB (d.el i 16),cpB (d.el i 17),.l ((List.finRange (d.el i 18).len).map fun (j:Fin (d.el i 18).len)=>[D.s ((d.el i 18).el j 0).toS,D.s ((d.el i 18).el j 1).toS,cpB ((d.el i 18).el j 2)])])
 termination_by SizeOf.sizeOf d
 decreasing_by
  ·exact lel_lt i.isLt
  ·exact lel_lt i.isLt
  ·exact Nat.lt_trans (lel_lt j.isLt) (lel_lt i.isLt)
def arR (am:D) (j:Nat):List D:=[D.s (am.el j 0).toS,D.s (am.el j 1).toS,cpB (am.el j 2)]
def rSt (d:D) (i:Nat):List D:=[D.i (d.el i 0).toI,D.s (d.el i 1).toS,D.s (d.el i 2).toS,D.i (d.el i 3).toI,D.i (d.el i 4).toI,D.s (d.el i 5).toS,cpE (d.el i 6),D.i (d.el i 7).toI,D.i (d.el i 8).toI,D.i (d.el i 9).toI,D.s (d.el i 10).toS,cpE (d.el i 11),D.i (d.el i 12).toI,D.i (d.el i 13).toI,D.s (d.el i 14).toS,cpE (d.el i 15),cpB (d.el i 16),cpB (d.el i 17),cpTo (d.el i 18).len (arR (d.el i 18))]
theorem cpB_eq (d:D):cpB d=cpTo d.len (rSt d):=by
 rw [cpB,<- cpF_eq]
 congr 2
 funext i
 unfold rSt;rw [<- cpF_eq];rfl
def bS (d:D):Prop:=d.len*288<=140737488355328/\∀ i:Fin d.len,kS (d.el i 6)/\kS (d.el i 11)/\kS (d.el i 15)/\bS (d.el i 16)/\bS (d.el i 17)/\(d.el i 18).len*56<=140737488355328/\∀ j:Fin (d.el i 18).len,bS ((d.el i 18).el j 2)
 termination_by SizeOf.sizeOf d
 decreasing_by
  ·exact lel_lt i.isLt
  ·exact lel_lt i.isLt
  ·exact Nat.lt_trans (lel_lt j.isLt) (lel_lt i.isLt)
theorem bS_iff (d:D):bS d↔d.len*288<=140737488355328/\∀ i,i<d.len->kS (d.el i 6)/\kS (d.el i 11)/\kS (d.el i 15)/\bS (d.el i 16)/\bS (d.el i 17)/\(d.el i 18).len*56<=140737488355328/\∀ j,j<(d.el i 18).len->bS ((d.el i 18).el j 2):=by
 rw [bS];refine ⟨fun h=>⟨h.1,fun i hi=>?_⟩,fun h=>⟨h.1,fun i=>?_⟩⟩
 ·obtain ⟨a,b,c,e,f,g,k⟩:=h.2 ⟨i,hi⟩;exact ⟨a,b,c,e,f,g,fun j hj=>k ⟨j,hj⟩⟩
 ·obtain ⟨a,b,c,e,f,g,k⟩:=h.2 i.1 i.2;exact ⟨a,b,c,e,f,g,fun j=>k j.1 j.2⟩
noncomputable def scpS:FSpec:=fun ds _=>match ds with
 | [.d d]=>some {val:=.one (.sc (.rows 193 (cpB d))),vc:=[bS d]}
 |_=>none
noncomputable def scpC:Con:=con [lBr] scpS
noncomputable def scpM:List Dat->Nat:=fun ds=>match ds with
 | [.d d]=>SizeOf.sizeOf d
 |_=>0
noncomputable def scpSu (m:Nat):FSpec:=fun ds _=>match ds with
 | [.d d]=>some {val:=.one (.sc (.rows 193 (cpB d))),vc:=[SizeOf.sizeOf d<m,bS d]}
 |_=>none
theorem scp_under (m:Nat):scpS.under scpM m=scpSu m:=by
 funext ds fr
 unfold FSpec.under scpS scpM scpSu;split
 ·rename_i e h
  split at h
  ·obtain rfl:=Option.some.inj h;rfl
  ·cases h
 ·rename_i h
  split at h
  ·cases h
  ·rfl
theorem scp_step (m:Nat) (ih:ConOK Tryz.prog 33 (con [lBr] (scpSu m))):ConOK Tryz.prog 33 (con [lBr] (scpSu (m+1))):=by
 refine fn_ob tt_ok mixed Tryz.func33 rfl (fun _ _=>by kernel_rfl) (A:=fun ds=>⟨fun _=>Cons.of [(62,xcpC),(63,ccpC),(33,con [lBr] (scpSu m))],fun k=>match k,ds with | 3,[.d d]=>some {ι:=Nat,pre:=fun _ i=>i<=d.len,μ:=fun i=>d.len+1-i,st:=fun s i=>famR s [(4,.one (.sc (.int .i64 (.sym ((i:Nat)))))),(3,.one (.sc (.osl 193 (s.nx-1) (.lit 0) (.sym (i)))))] [0] [(s.nx-1,.orow 193 (cpTo i (rSt d)))] []} | 8,[.d d]=>some {ι:=Nat,pre:=fun s q=>q<=(d.el (slotN s 4) 18).len/\True,μ:=fun q=>3000000000001-q,st:=fun s q=>famR s [(7,.one (.sc (.int .i64 (.sym ((q:Nat))))))] [0,3,4,5,6] [(idOf s 6,.own 193 ([.c (.int .i64 (.sym ((d.el (slotN s 4) 0).toI))),.c (.raw (.string ((d.el (slotN s 4) 1).toS))),.c (.raw (.string ((d.el (slotN s 4) 2).toS))),.c (.int .i64 (.sym ((d.el (slotN s 4) 3).toI))),.c (.int .i64 (.sym ((d.el (slotN s 4) 4).toI))),.c (.raw (.string ((d.el (slotN s 4) 5).toS))),.c (.rows 186 (cpE (d.el (slotN s 4) 6))),.c (.int .i64 (.sym ((d.el (slotN s 4) 7).toI))),.c (.int .i64 (.sym ((d.el (slotN s 4) 8).toI))),.c (.int .i64 (.sym ((d.el (slotN s 4) 9).toI))),.c (.raw (.string ((d.el (slotN s 4) 10).toS))),.c (.rows 186 (cpE (d.el (slotN s 4) 11))),.c (.int .i64 (.sym ((d.el (slotN s 4) 12).toI))),.c (.int .i64 (.sym ((d.el (slotN s 4) 13).toI))),.c (.raw (.string ((d.el (slotN s 4) 14).toS))),.c (.rows 186 (cpE (d.el (slotN s 4) 15))),.c (.rows 193 (cpB (d.el (slotN s 4) 16))),.c (.rows 193 (cpB (d.el (slotN s 4) 17))),.c (.osl 195 (s.nx-1) (.lit 0) (.sym q))])),(s.nx-1,.orow 195 (cpTo q (arR (d.el (slotN s 4) 18))))] [3,5]} |_,_=>none,fun _=>none⟩) (fun _ _=>(cons_cons xcp_ok (cons_cons ccp_ok (cons_cons ih cons_nil)))) (by kernel_rfl) ?_
 intro ds fr;unfold scpSu;split
 ·rename_i d
  refine kmp (q:=withv (fun (i:Nat)=>d.el (i:Int).toNat 18) fun E117=>withv (fun (i:Nat)=>d.el (i:Int).toNat 17) fun E118=>withv (fun (i:Nat)=>d.el (i:Int).toNat 16) fun E119=>withv (fun (i:Nat) (i_1:Nat)=>D.l [[D.i (d.el i 0).toI,D.s (d.el i 1).toS,D.s (d.el i 2).toS,D.i (d.el i 3).toI,D.i (d.el i 4).toI,D.s (d.el i 5).toS,cpE (d.el i 6),D.i (d.el i 7).toI,D.i (d.el i 8).toI,D.i (d.el i 9).toI,D.s (d.el i 10).toS,cpE (d.el i 11),D.i (d.el i 12).toI,D.i (d.el i 13).toI,D.s (d.el i 14).toS,cpE (d.el i 15),cpB (d.el i 16),cpB (d.el i 17),(cpTo i_1 (arR (d.el i 18))).sub ((0:Nat)) ((0:Nat)+i_1)]]) fun E120=>withv (fun (i:Nat)=>d.el (i:Int).toNat 15) fun E121=>withv (fun (i:Nat)=>d.el (i:Int).toNat 11) fun E122=>withv (fun (i:Nat)=>d.el (i:Int).toNat 14) fun E123=>withv (fun (i:Nat)=>d.el (i:Int).toNat 13) fun E124=>withv (fun (i:Nat)=>d.el (i:Int).toNat 12) fun E125=>withv (fun (i:Nat)=>d.el (i:Int).toNat 10) fun E126=>withv (fun (i:Nat)=>d.el (i:Int).toNat 9) fun E127=>withv (fun (i:Nat)=>d.el (i:Int).toNat 6) fun E128=>withv (fun (i:Nat)=>d.el (i:Int).toNat 8) fun E129=>withv (fun (i:Nat)=>d.el (i:Int).toNat 7) fun E130=>withv (fun (i:Nat) (i_1:Nat)=>D.l [[D.s ((E117 i).el (i_1:Int).toNat ((0:Nat)+(0:Nat))).toS,D.s ((E117 i).el (i_1:Int).toNat 1).toS,cpB ((E117 i).el (i_1:Int).toNat ((0:Nat)+(2:Nat)))]]) fun E131=>withv (fun (i:Nat)=>d.el (i:Int).toNat 5) fun E132=>withv (fun (i:Nat)=>d.el (i:Int).toNat 4) fun E133=>withv (fun (i:Nat)=>d.el (i:Int).toNat 3) fun E134=>withv (fun (i:Nat)=>d.el (i:Int).toNat 2) fun E135=>withv (fun (i:Nat)=>d.el (i:Int).toNat 1) fun E136=>withv (fun (i:Nat)=>d.el (i:Int).toNat 0) fun E137=>SizeOf.sizeOf d<m+(1:Nat)->bS d->(∃ (i:Nat),i.le d.len/\(0:Int)=(i:Int)/\i=(0:Nat)/\d.rows=d.rows/\List.map (rSt d) (List.range i)=[])/\∀ (i:Nat),i.le d.len->(decide ((i:Int)<(d.len:Int))=true->((0:Int)<=(i:Int)/\(i:Int)<(d.len:Int))/\kS (E128 i)/\kS (E122 i)/\kS (E121 i)/\SizeOf.sizeOf (E119 i)<m/\bS (E119 i)/\SizeOf.sizeOf (E118 i)<m/\bS (E118 i)/\(∃ (i_1:Nat),(i_1<=(d.el i 18).len/\True)/\(0:Int)=(i_1:Int)/\d.rows=d.rows/\i=i/\(i:Int)=(i:Int)/\(E137 i).toI=(d.el i 0).toI/\Value.string (E136 i).toS=Value.string (d.el i 1).toS/\Value.string (E135 i).toS=Value.string (d.el i 2).toS/\(E134 i).toI=(d.el i 3).toI/\(E133 i).toI=(d.el i 4).toI/\Value.string (E132 i).toS=Value.string (d.el i 5).toS/\(cpE (E128 i)).rows=(cpE (d.el i 6)).rows/\(E130 i).toI=(d.el i 7).toI/\(E129 i).toI=(d.el i 8).toI/\(E127 i).toI=(d.el i 9).toI/\Value.string (E126 i).toS=Value.string (d.el i 10).toS/\(cpE (E122 i)).rows=(cpE (d.el i 11)).rows/\(E125 i).toI=(d.el i 12).toI/\(E124 i).toI=(d.el i 13).toI/\Value.string (E123 i).toS=Value.string (d.el i 14).toS/\(cpE (E121 i)).rows=(cpE (d.el i 15)).rows/\(cpB (E119 i)).rows=(cpB (d.el i 16)).rows/\(cpB (E118 i)).rows=(cpB (d.el i 17)).rows/\i_1=(0:Nat)/\List.map (arR (d.el i 18)) (List.range i_1)=[]/\List.map (rSt d) (List.range i)=List.map (rSt d) (List.range i)/\(E137 i).toI=(E137 i).toI/\Value.string (E136 i).toS=Value.string (E136 i).toS/\Value.string (E135 i).toS=Value.string (E135 i).toS/\(E134 i).toI=(E134 i).toI/\(E133 i).toI=(E133 i).toI/\Value.string (E132 i).toS=Value.string (E132 i).toS/\(E128 i).rows=(E128 i).rows/\(E130 i).toI=(E130 i).toI/\(E129 i).toI=(E129 i).toI/\(E127 i).toI=(E127 i).toI/\Value.string (E126 i).toS=Value.string (E126 i).toS/\(E122 i).rows=(E122 i).rows/\(E125 i).toI=(E125 i).toI/\(E124 i).toI=(E124 i).toI/\Value.string (E123 i).toS=Value.string (E123 i).toS/\(E121 i).rows=(E121 i).rows/\(E119 i).rows=(E119 i).rows/\(E118 i).rows=(E118 i).rows/\(E117 i).rows=(E117 i).rows)/\∀ (i_1:Nat),i_1<=(d.el i 18).len/\True->(decide ((i_1:Int)<(↑(E117 i).len:Int))=true->((0:Int)<=(i_1:Int)/\(i_1:Int)<(↑(E117 i).len:Int))/\((0:Int)<=(i_1:Int)/\(i_1:Int)<(↑(E117 i).len:Int))/\((0:Int)<=(i_1:Int)/\(i_1:Int)<(↑(E117 i).len:Int))/\SizeOf.sizeOf ((E117 i).el (i_1:Int).toNat ((0:Nat)+(2:Nat)))<m/\bS ((E117 i).el (i_1:Int).toNat ((0:Nat)+(2:Nat)))/\i_1=(cpTo i_1 (arR (d.el i 18))).len/\(i_1+((E131 i i_1).sub (0:Nat) 1).len)*(56:Nat)<=(140737488355328:Nat)/\(0:Nat)+(1:Nat)<=(E131 i i_1).len/\∃ (j:Nat),(j<=(d.el i 18).len/\True)/\(3000000000001:Nat)-j<(3000000000001:Nat)-i_1/\IntKind.i64.wrap ((i_1:Int)+(1:Int))=(j:Int)/\d.rows=d.rows/\i=i/\(i:Int)=(i:Int)/\(d.el i 0).toI=(d.el i 0).toI/\Value.string (d.el i 1).toS=Value.string (d.el i 1).toS/\Value.string (d.el i 2).toS=Value.string (d.el i 2).toS/\(d.el i 3).toI=(d.el i 3).toI/\(d.el i 4).toI=(d.el i 4).toI/\Value.string (d.el i 5).toS=Value.string (d.el i 5).toS/\(cpE (d.el i 6)).rows=(cpE (d.el i 6)).rows/\(d.el i 7).toI=(d.el i 7).toI/\(d.el i 8).toI=(d.el i 8).toI/\(d.el i 9).toI=(d.el i 9).toI/\Value.string (d.el i 10).toS=Value.string (d.el i 10).toS/\(cpE (d.el i 11)).rows=(cpE (d.el i 11)).rows/\(d.el i 12).toI=(d.el i 12).toI/\(d.el i 13).toI=(d.el i 13).toI/\Value.string (d.el i 14).toS=Value.string (d.el i 14).toS/\(cpE (d.el i 15)).rows=(cpE (d.el i 15)).rows/\(cpB (d.el i 16)).rows=(cpB (d.el i 16)).rows/\(cpB (d.el i 17)).rows=(cpB (d.el i 17)).rows/\i_1+((E131 i i_1).sub (0:Nat) 1).len=j/\List.map (arR (d.el i 18)) (List.range i_1)++List.drop (0:Nat) (List.take 1 [[D.s ((E117 i).el (i_1:Int).toNat ((0:Nat)+(0:Nat))).toS,D.s ((E117 i).el (i_1:Int).toNat 1).toS,cpB ((E117 i).el (i_1:Int).toNat ((0:Nat)+(2:Nat)))]])=List.map (arR (d.el i 18)) (List.range j)/\List.map (rSt d) (List.range i)=List.map (rSt d) (List.range i)/\(E137 i).toI=(E137 i).toI/\Value.string (E136 i).toS=Value.string (E136 i).toS/\Value.string (E135 i).toS=Value.string (E135 i).toS/\(E134 i).toI=(E134 i).toI/\(E133 i).toI=(E133 i).toI/\Value.string (E132 i).toS=Value.string (E132 i).toS/\(E128 i).rows=(E128 i).rows/\(E130 i).toI=(E130 i).toI/\(E129 i).toI=(E129 i).toI/\(E127 i).toI=(E127 i).toI/\Value.string (E126 i).toS=Value.string (E126 i).toS/\(E122 i).rows=(E122 i).rows/\(E125 i).toI=(E125 i).toI/\(E124 i).toI=(E124 i).toI/\Value.string (E123 i).toS=Value.string (E123 i).toS/\(E121 i).rows=(E121 i).rows/\(E119 i).rows=(E119 i).rows/\(E118 i).rows=(E118 i).rows/\(E117 i).rows=(E117 i).rows)/\(decide ((i_1:Int)<(↑(E117 i).len:Int))=false->(0:Nat)+i_1<=(cpTo i_1 (arR (d.el i 18))).len/\i=(cpTo i (rSt d)).len/\(i+((E120 i i_1).sub (0:Nat) 1).len)*(288:Nat)<=(140737488355328:Nat)/\(0:Nat)+(1:Nat)<=(E120 i i_1).len/\∃ (j:Nat),j.le d.len/\d.len+(1:Nat)-j<d.len+(1:Nat)-i/\IntKind.i64.wrap ((i:Int)+(1:Int))=(j:Int)/\i+((E120 i i_1).sub (0:Nat) 1).len=j/\d.rows=d.rows/\List.map (rSt d) (List.range i)++List.drop (0:Nat) (List.take 1 [[D.i (d.el i 0).toI,D.s (d.el i 1).toS,D.s (d.el i 2).toS,D.i (d.el i 3).toI,D.i (d.el i 4).toI,D.s (d.el i 5).toS,cpE (d.el i 6),D.i (d.el i 7).toI,D.i (d.el i 8).toI,D.i (d.el i 9).toI,D.s (d.el i 10).toS,cpE (d.el i 11),D.i (d.el i 12).toI,D.i (d.el i 13).toI,D.s (d.el i 14).toS,cpE (d.el i 15),cpB (d.el i 16),cpB (d.el i 17),(cpTo i_1 (arR (d.el i 18))).sub ((0:Nat)) ((0:Nat)+i_1)]])=List.map (rSt d) (List.range j)))/\(decide ((i:Int)<(d.len:Int))=false->(0:Nat)+i<=(cpTo i (rSt d)).len/\List.drop ((0:Nat)) (List.take ((0:Nat)+i) (List.map (rSt d) (List.range i)))=(cpB d).rows)) (by kernel_rfl) ?_
  dsimp +instances only [withv]
  intro hm hs;rw [bS_iff] at hs;obtain ⟨hl,hk⟩:=hs;refine ⟨⟨0,Nat.zero_le _,rfl,rfl,rfl,rfl⟩,fun i hi=>⟨fun hc=>?_,fun hc=>?_⟩⟩
  ·have hc:=of_decide_eq_true hc;have hi2:i<d.len:=by omega
   have hw2:IntKind.i64.wrap ((i:Int)+1)=((i+1:Nat):Int):=by rw [IntWalk.i64_in _ (by omega)];omega
   have hb2:(i+1)*288<=140737488355328:=Nat.le_trans (Nat.mul_le_mul_right 288 hi2) hl;obtain ⟨a1,a2,a3,b1,b2,am,ab⟩:=hk i hi2;have z1:=lel_lt (j:=16) hi2;have z2:=lel_lt (j:=17) hi2;have z3:=lel_lt (j:=18) hi2;refine ⟨⟨by omega,by omega⟩,a1,a2,a3,(show SizeOf.sizeOf (d.el i 16)<m by omega),b1,(show SizeOf.sizeOf (d.el i 17)<m by omega),b2,⟨0,⟨Nat.zero_le _,trivial⟩,?_⟩,fun q hq=>⟨fun hd=>?_,fun hd=>?_⟩⟩
   ·(repeat' apply And.intro)<;>rfl
   ·have hd:=of_decide_eq_true hd;have hq2:q<(d.el i 18).len:=by have:(q:Int)<((d.el i 18).len:Int):=hd;omega
    have hwq:IntKind.i64.wrap ((q:Int)+1)=((q+1:Nat):Int):=by rw [IntWalk.i64_in _ (by omega)];omega
    have zq:=lel_lt (j:=2) hq2;refine ⟨⟨by omega,hd⟩,⟨by omega,hd⟩,⟨by omega,hd⟩,(show SizeOf.sizeOf ((d.el i 18).el q 2)<m by omega),ab q hq2,(cpTo_len _ _).symm,(show (q+1)*56<=140737488355328 by omega),Nat.le_refl _,q+1,⟨hq2,trivial⟩,by omega,hwq,?_⟩
    (repeat' apply And.intro)<;>first |exact (cpTo_succ q (arR (d.el i 18))).symm |rfl
   ·have hd:=of_decide_eq_false hd;have hq3:q=(d.el i 18).len:=by have:¬ (q:Int)<((d.el i 18).len:Int):=hd;have:=hq.1;omega
    subst hq3;rw [cpTo_all];exact ⟨by rw [cpTo_len];omega,(cpTo_len _ _).symm,hb2,Nat.le_refl _,i+1,hi2,by omega,hw2,rfl,rfl,(cpTo_succ i (rSt d)).symm⟩
  ·have hc:=of_decide_eq_false hc;have hi3:i=d.len:=by have:i<=d.len:=hi;omega
   subst hi3;refine ⟨by rw [cpTo_len];omega,?_⟩;rw [cpB_eq,Nat.zero_add,List.drop_zero,List.take_of_length_le (by simp)];rfl
 ·trivial
theorem scp_ok:ConOK Tryz.prog 33 scpC:=
 con_rec scpM (fun _ _=>by kernel_rfl) fun m ih=>by
  rw [scp_under] at ih ⊢;exact scp_step m ih
end Go.Proofs.YtplejbgafjpomaaGreatDoor.Sx.Z
namespace Go.Proofs.YtplejbgafjpomaaGreatDoor.Sx
def cellId (s:St) (t j:Nat):Nat:=match look s.hp (idOf s t) with |some (.own _ l)=>(match l[j]? with |some (.c (.osl _ id _ _))=>id |_=>0) |_=>0
end Go.Proofs.YtplejbgafjpomaaGreatDoor.Sx
namespace Go.Proofs.YtplejbgafjpomaaGreatDoor.Sx.Z
open Go.RowKit
def lSyr:AP:=.agg [.c (.rows 72),.c (.rows 86),.c (.rows 75)]
def nD (d:D):D:=.l d.rows
theorem nD_app (d:D):((D.l []).app d).sub 0 (0+(0+d.len))=nD d:=by
 rw [Nat.zero_add,Nat.zero_add];show D.l (List.drop 0 (List.take d.rows.length ([]++d.rows)))=D.l d.rows;rw [List.nil_append,List.take_length];rfl
theorem app_le (d:D):0+(0+d.len)<=((D.l []).app d).len:=by
 rw [D.app_len];show 0+(0+d.len)<=0+d.len;omega
theorem takeAll (n:Nat) (f:Nat->List D):List.drop 0 (List.take (0+n) ((List.range n).map f))=(List.range n).map f:=by
 rw [Nat.zero_add,List.drop_zero,List.take_of_length_le (by simp)]
def chRq (ch:D) (i:Nat):List D:=[D.s (ch.el i 0).toS,D.i (ch.el i 1).toI,D.i (ch.el i 2).toI,D.s (ch.el i 3).toS,D.s (ch.el i 4).toS,nD (ch.el i 5)]
def mvR (mv:D) (i:Nat):List D:=[D.i (mv.el i 0).toI,D.s (mv.el i 1).toS,D.i (mv.el i 2).toI]
def ruRq (ru:D) (i:Nat):List D:=[D.s (ru.el i 0).toS,cpTo (ru.el i 1).len (mvR (ru.el i 1))]
def prR (pr:D) (i:Nat):List D:=[D.s (pr.el i 0).toS,nD (pr.el i 1),cpB (pr.el i 2)]
def cpC (ch:D):D:=cpTo ch.len (chRq ch)
def cpU (ru:D):D:=cpTo ru.len (ruRq ru)
def cpP (pr:D):D:=cpTo pr.len (prR pr)
structure SyS (ch ru pr:D):Prop where
 c:ch.len*88<=140737488355328
 ct:∀ i,i<ch.len->(ch.el i 5).len*16<=140737488355328
 r:ru.len*40<=140737488355328
 rm:∀ i,i<ru.len->(ru.el i 1).len*32<=140737488355328
 p:pr.len*64<=140737488355328
 pv:∀ i,i<pr.len->(pr.el i 1).len*16<=140737488355328
 pb:∀ i,i<pr.len->bS (pr.el i 2)
noncomputable def ycpS:FSpec:=fun ds _=>match ds with
 | [.d ch,.d ru,.d pr]=>some {val:=.one (.agg [.c (.rows 118 (cpC ch)),.c (.rows 121 (cpU ru)),.c (.rows 126 (cpP pr))]),vc:=[SyS ch ru pr]}
 |_=>none
noncomputable def ycpC:Con:=con [lSyr] ycpS
theorem ycp_ok:ConOK Tryz.prog 13 ycpC:=by
 refine fn_ob tt_ok mixed Tryz.func13 rfl (fun _ _=>by kernel_rfl) (A:=fun ds=>⟨fun _=>Cons.of [(33,scpC)],fun k=>match k,ds with | 3,[.d ch,.d ru,.d pr]=>some {ι:=Nat,pre:=fun _ i=>i<=ch.len,μ:=fun i=>ch.len+1-i,st:=fun s i=>famR s [(4,.one (.sc (.int .i64 (.sym ((i:Nat))))))] [1,2,3] [(idOf s 3,.own 67 ([.c (.osl 118 (s.nx-1) (.lit 0) (.sym (i))),.c .nils,.c .nils])),(s.nx-1,.orow 118 (cpTo (i) (chRq ch)))] [1,2]} | 8,[.d ch,.d ru,.d pr]=>some {ι:=Nat,pre:=fun _ i=>i<=ru.len,μ:=fun i=>ru.len+1-i,st:=fun s i=>famR s [(6,.one (.sc (.int .i64 (.sym ((i:Nat))))))] [1,2,3] [(idOf s 3,.own 67 ([.c (.osl 118 (cellId s 3 0) (.lit 0) (.sym (ch.len))),.c (.osl 121 (s.nx-1) (.lit 0) (.sym (i))),.c .nils])),(cellId s 3 0,.orow 118 (cpTo (ch.len) (chRq ch))),(s.nx-1,.orow 121 (cpTo (i) (ruRq ru)))] [1,2]} | 12,[.d ch,.d ru,.d pr]=>some {ι:=Nat,pre:=fun s q=>q<=(ru.el (slotN s 6) 1).len/\True,μ:=fun q=>140737488355329-q,st:=fun s q=>famR s [(8,.one (.sc (.int .i64 (.sym ((q:Nat))))))] [1,2,3,6,7] [(idOf s 7,.own 121 ([.c (.raw (.string ((ru.el (slotN s 6) 0).toS))),.c (.osl 122 (s.nx-1) (.lit 0) (.sym (q)))])),(s.nx-1,.orow 122 (cpTo q (mvR (ru.el (slotN s 6) 1)))),(cellId s 3 0,.orow 118 (cpTo (ch.len) (chRq ch))),(cellId s 3 1,.orow 121 (cpTo (slotN s 6) (ruRq ru)))] [1,2,3]} | 18,[.d ch,.d ru,.d pr]=>some {ι:=Nat,pre:=fun _ i=>i<=pr.len,μ:=fun i=>pr.len+1-i,st:=fun s i=>famR s [(10,.one (.sc (.int .i64 (.sym ((i:Nat))))))] [1,2,3] [(idOf s 3,.own 67 ([.c (.osl 118 (cellId s 3 0) (.lit 0) (.sym (ch.len))),.c (.osl 121 (cellId s 3 1) (.lit 0) (.sym (ru.len))),.c (.osl 126 (s.nx-1) (.lit 0) (.sym (i)))])),(cellId s 3 0,.orow 118 (cpTo (ch.len) (chRq ch))),(cellId s 3 1,.orow 121 (cpTo (ru.len) (ruRq ru))),(s.nx-1,.orow 126 (cpTo (i) (prR pr)))] [1,2]} |_,_=>none,fun _=>none⟩) (fun _ _=>(cons_cons scp_ok cons_nil)) (by kernel_rfl) ?_
 intro ds fr;unfold ycpS;split
 ·rename_i ch ru pr
  refine kmp (q:=withv (fun (i:Nat)=>D.l [[D.s (ch.el (i:Int).toNat 0).toS,D.i (ch.el (i:Int).toNat 1).toI,D.i (ch.el (i:Int).toNat 2).toI,D.s (ch.el (i:Int).toNat 3).toS,D.s (ch.el (i:Int).toNat 4).toS,((D.l []).app (ch.el (i:Int).toNat 5)).sub (0:Nat) ((0:Nat)+((0:Nat)+(ch.el (i:Int).toNat 5).len))]]) fun E138=>withv (fun (i:Nat) (i_1:Nat)=>D.l [[D.i ((ru.el (i:Int).toNat 1).el (i_1:Int).toNat 0).toI,D.s ((ru.el (i:Int).toNat 1).el (i_1:Int).toNat 1).toS,D.i ((ru.el (i:Int).toNat 1).el (i_1:Int).toNat 2).toI]]) fun E139=>withv (fun (i:Nat)=>D.l [[D.s (pr.el (i:Int).toNat 0).toS,((D.l []).app (pr.el (i:Int).toNat 1)).sub (0:Nat) ((0:Nat)+((0:Nat)+(pr.el (i:Int).toNat 1).len)),cpB (pr.el (i:Int).toNat 2)]]) fun E140=>withv (fun (i:Nat)=>ch.el (i:Int).toNat 5) fun E141=>withv (fun (i:Nat)=>ru.el (i:Int).toNat 1) fun E142=>withv (fun (i:Nat) (i_1:Nat)=>D.l [[D.s (ru.el i 0).toS,(cpTo i_1 (mvR (ru.el i 1))).sub ((0:Nat)) ((0:Nat)+i_1)]]) fun E143=>withv (fun (i:Nat)=>pr.el (i:Int).toNat 1) fun E144=>SyS ch ru pr->(∃ (i:Nat),i.le ch.len/\(0:Int)=(i:Int)/\i=(0:Nat)/\List.map (chRq ch) (List.range i)=[]/\ch.rows=ch.rows/\ru.rows=ru.rows/\pr.rows=pr.rows)/\∀ (i:Nat),i.le ch.len->(decide ((i:Int)<(ch.len:Int))=true->((0:Int)<=(i:Int)/\(i:Int)<(ch.len:Int))/\(0:Nat)=(D.l []).len/\((0:Nat)+(E141 i).len)*(16:Nat)<=(140737488355328:Nat)/\(0:Nat)+((0:Nat)+(E141 i).len)<=((D.l []).app (E141 i)).len/\i=(cpTo i (chRq ch)).len/\(i+((E138 i).sub (0:Nat) 1).len)*(88:Nat)<=(140737488355328:Nat)/\(0:Nat)+(1:Nat)<=(E138 i).len/\∃ (j:Nat),j.le ch.len/\ch.len+(1:Nat)-j<ch.len+(1:Nat)-i/\IntKind.i64.wrap ((i:Int)+(1:Int))=(j:Int)/\i+((E138 i).sub (0:Nat) 1).len=j/\List.map (chRq ch) (List.range i)++List.drop (0:Nat) (List.take 1 [[D.s (ch.el (i:Int).toNat 0).toS,D.i (ch.el (i:Int).toNat 1).toI,D.i (ch.el (i:Int).toNat 2).toI,D.s (ch.el (i:Int).toNat 3).toS,D.s (ch.el (i:Int).toNat 4).toS,((D.l []).app (E141 i)).sub (0:Nat) ((0:Nat)+((0:Nat)+(E141 i).len))]])=List.map (chRq ch) (List.range j)/\ch.rows=ch.rows/\ru.rows=ru.rows/\pr.rows=pr.rows)/\(decide ((i:Int)<(ch.len:Int))=false->(∃ (i_1:Nat),i_1.le ru.len/\(0:Int)=(i_1:Int)/\i=ch.len/\i_1=(0:Nat)/\List.map (chRq ch) (List.range i)=List.map (chRq ch) (List.range ch.len)/\List.map (ruRq ru) (List.range i_1)=[]/\ch.rows=ch.rows/\ru.rows=ru.rows/\pr.rows=pr.rows)/\∀ (i:Nat),i.le ru.len->(decide ((i:Int)<(ru.len:Int))=true->((0:Int)<=(i:Int)/\(i:Int)<(ru.len:Int))/\(∃ (i_1:Nat),(i_1<=(ru.el i 1).len/\True)/\(0:Int)=(i_1:Int)/\(i:Int)=(i:Int)/\Value.string (ru.el (i:Int).toNat ((0:Nat)+(0:Nat))).toS=Value.string (ru.el i 0).toS/\i_1=(0:Nat)/\List.map (mvR (ru.el i 1)) (List.range i_1)=[]/\List.map (chRq ch) (List.range ch.len)=List.map (chRq ch) (List.range ch.len)/\List.map (ruRq ru) (List.range i)=List.map (ruRq ru) (List.range i)/\ch.rows=ch.rows/\ru.rows=ru.rows/\pr.rows=pr.rows/\ch.len=ch.len/\i=i)/\∀ (i_1:Nat),i_1<=(ru.el i 1).len/\True->((0:Int)<=(i:Int)/\(i:Int)<(ru.len:Int))/\(decide ((i_1:Int)<(↑(E142 i).len:Int))=true->((0:Int)<=(i:Int)/\(i:Int)<(ru.len:Int))/\((0:Int)<=(i_1:Int)/\(i_1:Int)<(↑(E142 i).len:Int))/\i_1=(cpTo i_1 (mvR (ru.el i 1))).len/\(i_1+((E139 i i_1).sub (0:Nat) 1).len)*(32:Nat)<=(140737488355328:Nat)/\(0:Nat)+(1:Nat)<=(E139 i i_1).len/\∃ (j:Nat),(j<=(ru.el i 1).len/\True)/\(140737488355329:Nat)-j<(140737488355329:Nat)-i_1/\IntKind.i64.wrap ((i_1:Int)+(1:Int))=(j:Int)/\(i:Int)=(i:Int)/\Value.string (ru.el i 0).toS=Value.string (ru.el i 0).toS/\i_1+((E139 i i_1).sub (0:Nat) 1).len=j/\List.map (mvR (ru.el i 1)) (List.range i_1)++List.drop (0:Nat) (List.take 1 [[D.i ((E142 i).el (i_1:Int).toNat 0).toI,D.s ((E142 i).el (i_1:Int).toNat 1).toS,D.i ((E142 i).el (i_1:Int).toNat 2).toI]])=List.map (mvR (ru.el i 1)) (List.range j)/\List.map (chRq ch) (List.range ch.len)=List.map (chRq ch) (List.range ch.len)/\List.map (ruRq ru) (List.range i)=List.map (ruRq ru) (List.range i)/\ch.rows=ch.rows/\ru.rows=ru.rows/\pr.rows=pr.rows/\ch.len=ch.len/\i=i)/\(decide ((i_1:Int)<(↑(E142 i).len:Int))=false->(0:Nat)+i_1<=(cpTo i_1 (mvR (ru.el i 1))).len/\i=(cpTo i (ruRq ru)).len/\(i+((E143 i i_1).sub (0:Nat) 1).len)*(40:Nat)<=(140737488355328:Nat)/\(0:Nat)+(1:Nat)<=(E143 i i_1).len/\∃ (j:Nat),j.le ru.len/\ru.len+(1:Nat)-j<ru.len+(1:Nat)-i/\IntKind.i64.wrap ((i:Int)+(1:Int))=(j:Int)/\ch.len=ch.len/\i+((E143 i i_1).sub (0:Nat) 1).len=j/\List.map (chRq ch) (List.range ch.len)=List.map (chRq ch) (List.range ch.len)/\List.map (ruRq ru) (List.range i)++List.drop (0:Nat) (List.take 1 [[D.s (ru.el i 0).toS,(cpTo i_1 (mvR (ru.el i 1))).sub ((0:Nat)) ((0:Nat)+i_1)]])=List.map (ruRq ru) (List.range j)/\ch.rows=ch.rows/\ru.rows=ru.rows/\pr.rows=pr.rows))/\(decide ((i:Int)<(ru.len:Int))=false->(∃ (i_1:Nat),i_1.le pr.len/\(0:Int)=(i_1:Int)/\ch.len=ch.len/\i=ru.len/\i_1=(0:Nat)/\List.map (chRq ch) (List.range ch.len)=List.map (chRq ch) (List.range ch.len)/\List.map (ruRq ru) (List.range i)=List.map (ruRq ru) (List.range ru.len)/\List.map (prR pr) (List.range i_1)=[]/\ch.rows=ch.rows/\ru.rows=ru.rows/\pr.rows=pr.rows)/\∀ (i:Nat),i.le pr.len->(decide ((i:Int)<(pr.len:Int))=true->((0:Int)<=(i:Int)/\(i:Int)<(pr.len:Int))/\(0:Nat)=(D.l []).len/\((0:Nat)+(E144 i).len)*(16:Nat)<=(140737488355328:Nat)/\bS (pr.el (i:Int).toNat 2)/\(0:Nat)+((0:Nat)+(E144 i).len)<=((D.l []).app (E144 i)).len/\i=(cpTo i (prR pr)).len/\(i+((E140 i).sub (0:Nat) 1).len)*(64:Nat)<=(140737488355328:Nat)/\(0:Nat)+(1:Nat)<=(E140 i).len/\∃ (j:Nat),j.le pr.len/\pr.len+(1:Nat)-j<pr.len+(1:Nat)-i/\IntKind.i64.wrap ((i:Int)+(1:Int))=(j:Int)/\ch.len=ch.len/\ru.len=ru.len/\i+((E140 i).sub (0:Nat) 1).len=j/\List.map (chRq ch) (List.range ch.len)=List.map (chRq ch) (List.range ch.len)/\List.map (ruRq ru) (List.range ru.len)=List.map (ruRq ru) (List.range ru.len)/\List.map (prR pr) (List.range i)++List.drop (0:Nat) (List.take 1 [[D.s (pr.el (i:Int).toNat 0).toS,((D.l []).app (E144 i)).sub (0:Nat) ((0:Nat)+((0:Nat)+(E144 i).len)),cpB (pr.el (i:Int).toNat 2)]])=List.map (prR pr) (List.range j)/\ch.rows=ch.rows/\ru.rows=ru.rows/\pr.rows=pr.rows)/\(decide ((i:Int)<(pr.len:Int))=false->(0:Nat)+ch.len<=(cpTo ch.len (chRq ch)).len/\(0:Nat)+ru.len<=(cpTo ru.len (ruRq ru)).len/\(0:Nat)+i<=(cpTo i (prR pr)).len/\List.drop ((0:Nat)) (List.take ((0:Nat)+ch.len) (List.map (chRq ch) (List.range ch.len)))=List.map (chRq ch) (List.range ch.len)/\List.drop ((0:Nat)) (List.take ((0:Nat)+ru.len) (List.map (ruRq ru) (List.range ru.len)))=List.map (ruRq ru) (List.range ru.len)/\List.drop ((0:Nat)) (List.take ((0:Nat)+i) (List.map (prR pr) (List.range i)))=List.map (prR pr) (List.range pr.len))))) (by kernel_rfl) ?_
  dsimp +instances only [withv]
  intro hs;refine ⟨⟨0,Nat.zero_le _,by (repeat' apply And.intro)<;>rfl⟩,fun i hi=>⟨fun hc=>?_,fun hc=>?_⟩⟩
  ·have hc:=of_decide_eq_true hc;have hi2:i<ch.len:=by omega
   have b1:=hs.c;have b2:=hs.ct i hi2;have hw2:IntKind.i64.wrap ((i:Int)+1)=((i+1:Nat):Int):=by rw [IntWalk.i64_in _ (by omega)];omega
   rw [nD_app];refine ⟨⟨by omega,by omega⟩,rfl,(show (0+(ch.el i 5).len)*16<=140737488355328 by omega),app_le _,(cpTo_len _ _).symm,(show (i+1)*88<=140737488355328 by omega),Nat.le_refl _,i+1,hi2,by omega,hw2,?_⟩
   (repeat' apply And.intro)<;>first |exact (cpTo_succ i (chRq ch)).symm |rfl
  ·have hc:=of_decide_eq_false hc;have hi3:i=ch.len:=by have:i<=ch.len:=hi;omega
   subst hi3;refine ⟨⟨0,Nat.zero_le _,by (repeat' apply And.intro)<;>rfl⟩,fun i hi=>⟨fun hc=>?_,fun hc=>?_⟩⟩
   ·have hc:=of_decide_eq_true hc;have hi2:i<ru.len:=by omega
    have b1:=hs.r;have b2:=hs.rm i hi2;have hw2:IntKind.i64.wrap ((i:Int)+1)=((i+1:Nat):Int):=by rw [IntWalk.i64_in _ (by omega)];omega
    refine ⟨⟨by omega,by omega⟩,⟨0,⟨Nat.zero_le _,trivial⟩,by (repeat' apply And.intro)<;>rfl⟩,fun q hq=>⟨⟨by omega,by omega⟩,fun hd=>?_,fun hd=>?_⟩⟩
    ·have hd:=of_decide_eq_true hd;have hq2:q<(ru.el i 1).len:=by have:(q:Int)<((ru.el i 1).len:Int):=hd;omega
     have hwq:IntKind.i64.wrap ((q:Int)+1)=((q+1:Nat):Int):=by rw [IntWalk.i64_in _ (by omega)];omega
     refine ⟨⟨by omega,by omega⟩,⟨by omega,hd⟩,(cpTo_len _ _).symm,(show (q+1)*32<=140737488355328 by omega),Nat.le_refl _,q+1,⟨hq2,trivial⟩,by omega,hwq,?_⟩
     (repeat' apply And.intro)<;>first |exact (cpTo_succ q (mvR (ru.el i 1))).symm |rfl
    ·have hd:=of_decide_eq_false hd;have hq3:q=(ru.el i 1).len:=by have:¬ (q:Int)<((ru.el i 1).len:Int):=hd;have:=hq.1;omega
     subst hq3;rw [cpTo_all];refine ⟨by rw [cpTo_len];omega,(cpTo_len _ _).symm,(show (i+1)*40<=140737488355328 by omega),Nat.le_refl _,i+1,hi2,by omega,hw2,?_⟩
     (repeat' apply And.intro)<;>first |exact (cpTo_succ i (ruRq ru)).symm |rfl
   ·have hc:=of_decide_eq_false hc;have hi3:i=ru.len:=by have:i<=ru.len:=hi;omega
    subst hi3;refine ⟨⟨0,Nat.zero_le _,by (repeat' apply And.intro)<;>rfl⟩,fun i hi=>⟨fun hc=>?_,fun hc=>?_⟩⟩
    ·have hc:=of_decide_eq_true hc;have hi2:i<pr.len:=by omega
     have b1:=hs.p;have b2:=hs.pv i hi2;have hw2:IntKind.i64.wrap ((i:Int)+1)=((i+1:Nat):Int):=by rw [IntWalk.i64_in _ (by omega)];omega
     rw [nD_app];refine ⟨⟨by omega,by omega⟩,rfl,(show (0+(pr.el i 1).len)*16<=140737488355328 by omega),hs.pb i hi2,app_le _,(cpTo_len _ _).symm,(show (i+1)*64<=140737488355328 by omega),Nat.le_refl _,i+1,hi2,by omega,hw2,?_⟩
     (repeat' apply And.intro)<;>first |exact (cpTo_succ i (prR pr)).symm |rfl
    ·have hc:=of_decide_eq_false hc;have hi3:i=pr.len:=by have:i<=pr.len:=hi;omega
     subst hi3;exact ⟨by rw [cpTo_len];omega,by rw [cpTo_len];omega,by rw [cpTo_len];omega,takeAll _ _,takeAll _ _,takeAll _ _⟩
 ·trivial
end Go.Proofs.YtplejbgafjpomaaGreatDoor.Sx.Z
