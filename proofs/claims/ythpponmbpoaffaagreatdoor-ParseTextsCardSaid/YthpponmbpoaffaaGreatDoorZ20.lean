import Derived.Test.YthpponmbpoaffaaGreatDoorZ19
namespace Go.Proofs.YthpponmbpoaffaaGreatDoor.Sx.Z
open Go.RowKit
def cW (op lk ln:Int) (ls:ByteArray) (ld:D) (rk rn:Int) (rs:ByteArray) (rd:D):List ByteArray:=⟨#[40]⟩::(xW lk ln ls ld++(cmW op::(xW rk rn rs rd++[⟨#[41]⟩])))
def cF (lk ln:Int) (ls:ByteArray) (ld:D) (rk rn:Int) (rs:ByteArray) (rd:D):Prop:=xF lk ln ls ld/\xF rk rn rs rd
def blW (l:List ByteArray):List ByteArray:=⟨#[123]⟩::(l++[⟨#[125]⟩])
def catTo (n:Nat) (f:Nat->List ByteArray):List ByteArray:=((List.range n).map f).flatten
theorem catTo_succ (n:Nat) (f:Nat->List ByteArray):catTo (n+1) f=catTo n f++f n:=by
 unfold catTo
 rw [List.range_succ,List.map_append,List.flatten_append]
 simp
theorem catF_eq {n:Nat} (f:Nat->List ByteArray):((List.finRange n).map fun i=>f i.1).flatten=catTo n f:=by
 unfold catTo
 congr 1
 apply List.ext_getElem
 ·simp
 ·intro i h1 h2
  simp
theorem put2s (w:D) (a b:ByteArray):putD w ((D.l [[D.s a],[D.s b]]).sub 0 (0+2))=cat w [a,b]:=put_eq w [a,b]
theorem put3s (w:D) (a b c:ByteArray):putD w ((D.l [[D.s a],[D.s b],[D.s c]]).sub 0 (0+3))=cat w [a,b,c]:=put_eq w [a,b,c]
theorem put4s (w:D) (a b c d:ByteArray):putD w ((D.l [[D.s a],[D.s b],[D.s c],[D.s d]]).sub 0 (0+4))=cat w [a,b,c,d]:=put_eq w [a,b,c,d]
theorem put5s (w:D) (a b c d e:ByteArray):putD w ((D.l [[D.s a],[D.s b],[D.s c],[D.s d],[D.s e]]).sub 0 (0+5))=cat w [a,b,c,d,e]:=put_eq w [a,b,c,d,e]
def szz (s:ByteArray):Prop:=s.size<=281474976710656
theorem ok2 {a b:ByteArray} (ha:szz a) (hb:szz b):∀ j,j<(wsR [a,b]).len->((wsR [a,b]).el j 0).toS.size<=281474976710656:=wsR_ok fun x hx=>by
 simp only [List.mem_cons,List.not_mem_nil,or_false] at hx
 rcases hx with rfl |rfl<;>assumption
theorem ok3 {a b c:ByteArray} (ha:szz a) (hb:szz b) (hc:szz c):∀ j,j<(wsR [a,b,c]).len->((wsR [a,b,c]).el j 0).toS.size<=281474976710656:=wsR_ok fun x hx=>by
 simp only [List.mem_cons,List.not_mem_nil,or_false] at hx
 rcases hx with rfl |rfl |rfl<;>assumption
theorem ok4 {a b c d:ByteArray} (ha:szz a) (hb:szz b) (hc:szz c) (hd:szz d):∀ j,j<(wsR [a,b,c,d]).len->((wsR [a,b,c,d]).el j 0).toS.size<=281474976710656:=wsR_ok fun x hx=>by
 simp only [List.mem_cons,List.not_mem_nil,or_false] at hx
 rcases hx with rfl |rfl |rfl |rfl<;>assumption
theorem ok5 {a b c d e:ByteArray} (ha:szz a) (hb:szz b) (hc:szz c) (hd:szz d) (he:szz e):∀ j,j<(wsR [a,b,c,d,e]).len->((wsR [a,b,c,d,e]).el j 0).toS.size<=281474976710656:=wsR_ok fun x hx=>by
 simp only [List.mem_cons,List.not_mem_nil,or_false] at hx
 rcases hx with rfl |rfl |rfl |rfl |rfl<;>assumption
def stWF (k:Int) (nm tg:ByteArray) (e c b el:List ByteArray) (hel:Bool) (a:List ByteArray):List ByteArray:=
 if k=1 then nm::⟨#[61]⟩::(e++[⟨#[59]⟩]) else if k=2 then ⟨#[105,102]⟩::(c++(b++(if hel=true then ⟨#[101,108,115,101]⟩::el else []))) else if k=3 then ⟨#[119,104,105,108,101]⟩::(c++b) else if k=4 then ⟨#[115,101,110,100]⟩::nm::⟨#[46]⟩::tg::⟨#[40]⟩::(e++[⟨#[41]⟩,⟨#[59]⟩]) else if k=5 then ⟨#[114,101,99,118]⟩::nm::⟨#[123]⟩::(a++[⟨#[125]⟩]) else if k=6 then ⟨#[97,115,115,101,114,116]⟩::(c++[⟨#[59]⟩]) else if k=7 then [⟨#[105,110,112,117,116]⟩,nm,⟨#[59]⟩] else []
def arWF (tg v:ByteArray) (b:List ByteArray):List ByteArray:=tg::⟨#[40]⟩::v::⟨#[41]⟩::blW b
def bW (d:D):List ByteArray:=((List.finRange d.len).map fun (i:Fin d.len)=>stWF (d.el i 0).toI (d.el i 1).toS (d.el i 2).toS (xW (d.el i 3).toI (d.el i 4).toI (d.el i 5).toS (d.el i 6)) (cW (d.el i 7).toI (d.el i 8).toI (d.el i 9).toI (d.el i 10).toS (d.el i 11) (d.el i 12).toI (d.el i 13).toI (d.el i 14).toS (d.el i 15)) (blW (bW (d.el i 16))) (blW (bW (d.el i 17))) (decide (((d.el i 17).len:Int)>0))
    ((List.finRange (d.el i 18).len).map fun (j:Fin (d.el i 18).len)=>arWF ((d.el i 18).el j 0).toS ((d.el i 18).el j 1).toS (bW ((d.el i 18).el j 2))).flatten).flatten
 termination_by SizeOf.sizeOf d
 decreasing_by
  ·exact lel_lt i.isLt
  ·exact lel_lt i.isLt
  ·exact Nat.lt_trans (lel_lt j.isLt) (lel_lt i.isLt)
def arW (am:D) (j:Nat):List ByteArray:=arWF (am.el j 0).toS (am.el j 1).toS (bW (am.el j 2))
def stW (k:Int) (nm tg:ByteArray) (ek en:Int) (es:ByteArray) (ed:D) (op lk ln:Int) (ls:ByteArray) (ld:D) (rk rn:Int) (rs:ByteArray) (rd bd eb am:D):List ByteArray:=
 stWF k nm tg (xW ek en es ed) (cW op lk ln ls ld rk rn rs rd) (blW (bW bd)) (blW (bW eb)) (decide ((eb.len:Int)>0)) (catTo am.len (arW am))
def stWE (d:D) (i:Nat):List ByteArray:=stW (d.el i 0).toI (d.el i 1).toS (d.el i 2).toS (d.el i 3).toI (d.el i 4).toI (d.el i 5).toS (d.el i 6) (d.el i 7).toI (d.el i 8).toI (d.el i 9).toI (d.el i 10).toS (d.el i 11) (d.el i 12).toI (d.el i 13).toI (d.el i 14).toS (d.el i 15) (d.el i 16) (d.el i 17) (d.el i 18)
theorem bW_eq (d:D):bW d=catTo d.len (stWE d):=by
 rw [bW,<- catF_eq]
 congr 2
 funext i
 unfold stWE stW
 rw [<- catF_eq]
 rfl
def sz (s:ByteArray):Prop:=s.size<=1000000000
theorem sz.z {s:ByteArray} (h:sz s):szz s:=Nat.le_trans h (by decide)
def stFF (k:Int) (nm tg:ByteArray) (e c b el a:Prop):Prop:=
 (k=1->sz nm/\e)/\(k=2->c/\b/\el)/\(k=3->c/\b)/\(k=4->sz nm/\sz tg/\e)/\(k=5->sz nm/\a)/\(k=6->c)/\(k=7->sz nm)
def bF (d:D):Prop:=d.len<=10000000000000/\∀ i:Fin d.len,stFF (d.el i 0).toI (d.el i 1).toS (d.el i 2).toS (xF (d.el i 3).toI (d.el i 4).toI (d.el i 5).toS (d.el i 6)) (cF (d.el i 8).toI (d.el i 9).toI (d.el i 10).toS (d.el i 11) (d.el i 12).toI (d.el i 13).toI (d.el i 14).toS (d.el i 15)) (bF (d.el i 16)) (bF (d.el i 17))
    ((d.el i 18).len<=10000000000000/\∀ j:Fin (d.el i 18).len,sz ((d.el i 18).el j 0).toS/\sz ((d.el i 18).el j 1).toS/\bF ((d.el i 18).el j 2))
 termination_by SizeOf.sizeOf d
 decreasing_by
  ·exact lel_lt i.isLt
  ·exact lel_lt i.isLt
  ·exact Nat.lt_trans (lel_lt j.isLt) (lel_lt i.isLt)
def amsF (am:D):Prop:=am.len<=10000000000000/\∀ j,j<am.len->sz (am.el j 0).toS/\sz (am.el j 1).toS/\bF (am.el j 2)
def stmF (k:Int) (nm tg:ByteArray) (ek en:Int) (es:ByteArray) (ed:D) (_op lk ln:Int) (ls:ByteArray) (ld:D) (rk rn:Int) (rs:ByteArray) (rd bd eb am:D):Prop:=
 stFF k nm tg (xF ek en es ed) (cF lk ln ls ld rk rn rs rd) (bF bd) (bF eb) (amsF am)
def stFE (d:D) (i:Nat):Prop:=stmF (d.el i 0).toI (d.el i 1).toS (d.el i 2).toS (d.el i 3).toI (d.el i 4).toI (d.el i 5).toS (d.el i 6) (d.el i 7).toI (d.el i 8).toI (d.el i 9).toI (d.el i 10).toS (d.el i 11) (d.el i 12).toI (d.el i 13).toI (d.el i 14).toS (d.el i 15) (d.el i 16) (d.el i 17) (d.el i 18)
theorem amF_iff (am:D):(am.len<=10000000000000/\∀ j:Fin am.len,sz (am.el j 0).toS/\sz (am.el j 1).toS/\bF (am.el j 2))↔amsF am:=
 ⟨fun h=>⟨h.1,fun j hj=>h.2 ⟨j,hj⟩⟩,fun h=>⟨h.1,fun j=>h.2 j.1 j.2⟩⟩
theorem bF_iff (d:D):bF d↔d.len<=10000000000000/\∀ i,i<d.len->stFE d i:=by
 rw [bF]
 refine and_congr_right fun _=>⟨fun h i hi=>?_,fun h i=>?_⟩
 ·have:=h ⟨i,hi⟩
  rw [amF_iff] at this
  exact this
 ·rw [amF_iff]
  exact h i.1 i.2
noncomputable def cwrS:List Dat->Option (Eff × List Seg):=fun ds=>match ds with
 | [.d w,.i op,.i lk,.i ln,.s ls,.d ld,.i rk,.i rn,.s rs,.d rd]=>some ({val:=.tup [],vc:=[cF lk ln ls ld rk rn rs rd,w.len<=2001],nw:=[(0,.orow 9 (cat w (cW op lk ln ls ld rk rn rs rd)))]},[.c (.osl 9 0 (.lit 0) (.sym (cat w (cW op lk ln ls ld rk rn rs rd)).len))])
 |_=>none
noncomputable def cwrC:Con:=conM 96 [.own 9] [lCo] cwrS
theorem cwr_ok:ConOK Tryz.prog 102 cwrC:=by
 refine fn_obM tt_ok mixed Tryz.func102 rfl (fun _ _=>by kernel_rfl) (A:=fun ds=>⟨fun _=>Cons.of [(69,putC),(101,xwrC),(116,cmwC)],fun _=>none,fun _=>none⟩) (fun _ _=>(cons_cons put_ok (cons_cons xwr_ok (cons_cons cmw_ok cons_nil)))) (by kernel_rfl) ?_
 intro ds
 unfold cwrS
 split
 ·rename_i w op lk ln ls ld rk rn rs rd
  refine kmp (q:=cF lk ln ls ld rk rn rs rd->w.len<=(2001:Nat)->(0:Nat)=(0:Nat)/\w.len=w.len/\(0:Nat)+(1:Nat)<=(D.l [[D.s {data:=#[(40:UInt8)]}]]).len/\w.len<=(2001:Nat)/\((D.l [[D.s {data:=#[(40:UInt8)]}]]).sub (0:Nat) 1).len<=(1000:Nat)/\(∀ (j:Nat),j<((D.l [[D.s {data:=#[(40:UInt8)]}]]).sub (0:Nat) 1).len->(((D.l [[D.s {data:=#[(40:UInt8)]}]]).sub (0:Nat) 1).el j (0:Nat)).toS.size<=(281474976710656:Nat))/\(0:Nat)=(0:Nat)/\(putD w ((D.l [[D.s {data:=#[(40:UInt8)]}]]).sub (0:Nat) 1)).len=(putD w ((D.l [[D.s {data:=#[(40:UInt8)]}]]).sub (0:Nat) 1)).len/\xF lk ln ls ld/\(putD w ((D.l [[D.s {data:=#[(40:UInt8)]}]]).sub (0:Nat) 1)).len<=(2001:Nat)/\(0:Nat)=(0:Nat)/\(cat (putD w ((D.l [[D.s {data:=#[(40:UInt8)]}]]).sub (0:Nat) 1)) (xW lk ln ls ld)).len=(cat (putD w ((D.l [[D.s {data:=#[(40:UInt8)]}]]).sub (0:Nat) 1)) (xW lk ln ls ld)).len/\(0:Nat)+(1:Nat)<=(D.l [[D.s (cmW op)]]).len/\(cat (putD w ((D.l [[D.s {data:=#[(40:UInt8)]}]]).sub (0:Nat) 1)) (xW lk ln ls ld)).len<=(2001:Nat)/\((D.l [[D.s (cmW op)]]).sub (0:Nat) 1).len<=(1000:Nat)/\(∀ (j:Nat),j<((D.l [[D.s (cmW op)]]).sub (0:Nat) 1).len->(((D.l [[D.s (cmW op)]]).sub (0:Nat) 1).el j (0:Nat)).toS.size<=(281474976710656:Nat))/\(0:Nat)=(0:Nat)/\(putD (cat (putD w ((D.l [[D.s {data:=#[(40:UInt8)]}]]).sub (0:Nat) 1)) (xW lk ln ls ld)) ((D.l [[D.s (cmW op)]]).sub (0:Nat) 1)).len=(putD (cat (putD w ((D.l [[D.s {data:=#[(40:UInt8)]}]]).sub (0:Nat) 1)) (xW lk ln ls ld)) ((D.l [[D.s (cmW op)]]).sub (0:Nat) 1)).len/\xF rk rn rs rd/\(putD (cat (putD w ((D.l [[D.s {data:=#[(40:UInt8)]}]]).sub (0:Nat) 1)) (xW lk ln ls ld)) ((D.l [[D.s (cmW op)]]).sub (0:Nat) 1)).len<=(2001:Nat)/\(0:Nat)=(0:Nat)/\(cat (putD (cat (putD w ((D.l [[D.s {data:=#[(40:UInt8)]}]]).sub (0:Nat) 1)) (xW lk ln ls ld)) ((D.l [[D.s (cmW op)]]).sub (0:Nat) 1)) (xW rk rn rs rd)).len=(cat (putD (cat (putD w ((D.l [[D.s {data:=#[(40:UInt8)]}]]).sub (0:Nat) 1)) (xW lk ln ls ld)) ((D.l [[D.s (cmW op)]]).sub (0:Nat) 1)) (xW rk rn rs rd)).len/\(0:Nat)+(1:Nat)<=(D.l [[D.s {data:=#[(41:UInt8)]}]]).len/\(cat (putD (cat (putD w ((D.l [[D.s {data:=#[(40:UInt8)]}]]).sub (0:Nat) 1)) (xW lk ln ls ld)) ((D.l [[D.s (cmW op)]]).sub (0:Nat) 1)) (xW rk rn rs rd)).len<=(2001:Nat)/\((D.l [[D.s {data:=#[(41:UInt8)]}]]).sub (0:Nat) 1).len<=(1000:Nat)/\(∀ (j:Nat),j<((D.l [[D.s {data:=#[(41:UInt8)]}]]).sub (0:Nat) 1).len->(((D.l [[D.s {data:=#[(41:UInt8)]}]]).sub (0:Nat) 1).el j (0:Nat)).toS.size<=(281474976710656:Nat))/\(putD (cat (putD (cat (putD w ((D.l [[D.s {data:=#[(40:UInt8)]}]]).sub (0:Nat) 1)) (xW lk ln ls ld)) ((D.l [[D.s (cmW op)]]).sub (0:Nat) 1)) (xW rk rn rs rd)) ((D.l [[D.s {data:=#[(41:UInt8)]}]]).sub (0:Nat) 1)).len=(cat w (cW op lk ln ls ld rk rn rs rd)).len/\List.take (2001:Nat) (List.take (2001:Nat) (List.take (2001:Nat) (List.take (2001:Nat) (List.take (2001:Nat) (w.rows++List.map sR (wsL ((D.l [[D.s {data:=#[(40:UInt8)]}]]).sub (0:Nat) 1) ((D.l [[D.s {data:=#[(40:UInt8)]}]]).sub (0:Nat) 1).len))++List.map sR (xW lk ln ls ld))++List.map sR (wsL ((D.l [[D.s (cmW op)]]).sub (0:Nat) 1) ((D.l [[D.s (cmW op)]]).sub (0:Nat) 1).len))++List.map sR (xW rk rn rs rd))++List.map sR (wsL ((D.l [[D.s {data:=#[(41:UInt8)]}]]).sub (0:Nat) 1) ((D.l [[D.s {data:=#[(41:UInt8)]}]]).sub (0:Nat) 1).len))=List.take (2001:Nat) (w.rows++List.map sR (cW op lk ln ls ld rk rn rs rd))) (by kernel_rfl) ?_
  intro hf hw
  have o1:(1:Nat)<=1000:=by decide
  have:=cmW_size op
  refine ⟨rfl,rfl,Nat.le_refl _,hw,o1,ok1 (by decide),rfl,rfl,hf.1,cat_le _ _,rfl,rfl,Nat.le_refl _,cat_le _ _,o1,ok1 (by omega),rfl,rfl,hf.2,cat_le _ _,rfl,rfl,Nat.le_refl _,cat_le _ _,o1,ok1 (by decide),eqD ?_⟩
  simp only [put1s,cat_cat]
  unfold cW
  simp only [List.append_assoc,List.cons_append,List.nil_append]
 ·trivial
noncomputable def lwrS:List Dat->Option (Eff × List Seg):=fun ds=>match ds with
 | [.d w,.d d]=>some ({val:=.tup [],vc:=[bF d,w.len<=2001],nw:=[(0,.orow 9 (cat w (bW d)))]},[.c (.osl 9 0 (.lit 0) (.sym (cat w (bW d)).len))])
 |_=>none
noncomputable def lwrC:Con:=conM 96 [.own 9] [lBo] lwrS
noncomputable def lwrM:List Dat->Nat:=fun ds=>match ds with
 | [.d _w,.d d]=>SizeOf.sizeOf d
 |_=>0
noncomputable def lwrSu (m:Nat):List Dat->Option (Eff × List Seg):=fun ds=>match ds with
 | [.d w,.d d]=>some ({val:=.tup [],vc:=[SizeOf.sizeOf d<m,bF d,w.len<=2001],nw:=[(0,.orow 9 (cat w (bW d)))]},[.c (.osl 9 0 (.lit 0) (.sym (cat w (bW d)).len))])
 |_=>none
theorem lwr_under (m:Nat):underM lwrS lwrM m=lwrSu m:=by
 funext ds
 unfold underM lwrS lwrM lwrSu
 split
 ·rename_i e sg h
  split at h
  ·obtain ⟨rfl,rfl⟩:=Prod.mk.inj (Option.some.inj h);rfl
  ·cases h
 ·rename_i h
  split at h
  ·cases h
  ·rfl
noncomputable def blwS (m:Nat):List Dat->Option (Eff × List Seg):=fun ds=>match ds with
 | [.d w,.d d]=>some ({val:=.tup [],vc:=[SizeOf.sizeOf d<m,bF d,w.len<=2001],nw:=[(0,.orow 9 (cat w (blW (bW d))))]},[.c (.osl 9 0 (.lit 0) (.sym (cat w (blW (bW d))).len))])
 |_=>none
noncomputable def blwC (m:Nat):Con:=conM 96 [.own 9] [lBo] (blwS m)
theorem blw_ok {m:Nat} (ih:ConOK Tryz.prog 72 (conM 96 [.own 9] [lBo] (lwrSu m))):ConOK Tryz.prog 103 (blwC m):=by
 refine fn_obM tt_ok mixed Tryz.func103 rfl (fun _ _=>by kernel_rfl) (A:=fun ds=>⟨fun _=>Cons.of [(69,putC),(72,conM 96 [.own 9] [lBo] (lwrSu m))],fun _=>none,fun _=>none⟩) (fun _ _=>(cons_cons put_ok (cons_cons ih cons_nil))) (by kernel_rfl) ?_
 intro ds
 unfold blwS
 split
 ·rename_i w d
  refine kmp (q:=SizeOf.sizeOf d<m->bF d->w.len<=(2001:Nat)->(0:Nat)=(0:Nat)/\w.len=w.len/\(0:Nat)+(1:Nat)<=(D.l [[D.s {data:=#[(123:UInt8)]}]]).len/\w.len<=(2001:Nat)/\((D.l [[D.s {data:=#[(123:UInt8)]}]]).sub (0:Nat) 1).len<=(1000:Nat)/\(∀ (j:Nat),j<((D.l [[D.s {data:=#[(123:UInt8)]}]]).sub (0:Nat) 1).len->(((D.l [[D.s {data:=#[(123:UInt8)]}]]).sub (0:Nat) 1).el j (0:Nat)).toS.size<=(281474976710656:Nat))/\(0:Nat)=(0:Nat)/\(putD w ((D.l [[D.s {data:=#[(123:UInt8)]}]]).sub (0:Nat) 1)).len=(putD w ((D.l [[D.s {data:=#[(123:UInt8)]}]]).sub (0:Nat) 1)).len/\SizeOf.sizeOf d<m/\bF d/\(putD w ((D.l [[D.s {data:=#[(123:UInt8)]}]]).sub (0:Nat) 1)).len<=(2001:Nat)/\(0:Nat)=(0:Nat)/\(cat (putD w ((D.l [[D.s {data:=#[(123:UInt8)]}]]).sub (0:Nat) 1)) (bW d)).len=(cat (putD w ((D.l [[D.s {data:=#[(123:UInt8)]}]]).sub (0:Nat) 1)) (bW d)).len/\(0:Nat)+(1:Nat)<=(D.l [[D.s {data:=#[(125:UInt8)]}]]).len/\(cat (putD w ((D.l [[D.s {data:=#[(123:UInt8)]}]]).sub (0:Nat) 1)) (bW d)).len<=(2001:Nat)/\((D.l [[D.s {data:=#[(125:UInt8)]}]]).sub (0:Nat) 1).len<=(1000:Nat)/\(∀ (j:Nat),j<((D.l [[D.s {data:=#[(125:UInt8)]}]]).sub (0:Nat) 1).len->(((D.l [[D.s {data:=#[(125:UInt8)]}]]).sub (0:Nat) 1).el j (0:Nat)).toS.size<=(281474976710656:Nat))/\(putD (cat (putD w ((D.l [[D.s {data:=#[(123:UInt8)]}]]).sub (0:Nat) 1)) (bW d)) ((D.l [[D.s {data:=#[(125:UInt8)]}]]).sub (0:Nat) 1)).len=(cat w (blW (bW d))).len/\List.take (2001:Nat) (List.take (2001:Nat) (List.take (2001:Nat) (w.rows++List.map sR (wsL ((D.l [[D.s {data:=#[(123:UInt8)]}]]).sub (0:Nat) 1) ((D.l [[D.s {data:=#[(123:UInt8)]}]]).sub (0:Nat) 1).len))++List.map sR (bW d))++List.map sR (wsL ((D.l [[D.s {data:=#[(125:UInt8)]}]]).sub (0:Nat) 1) ((D.l [[D.s {data:=#[(125:UInt8)]}]]).sub (0:Nat) 1).len))=List.take (2001:Nat) (w.rows++List.map sR (blW (bW d)))) (by kernel_rfl) ?_
  intro hm hf hw
  have o1:(1:Nat)<=1000:=by decide
  refine ⟨rfl,rfl,Nat.le_refl _,hw,o1,ok1 (by decide),rfl,rfl,hm,hf,cat_le _ _,rfl,rfl,Nat.le_refl _,cat_le _ _,o1,ok1 (by decide),eqD ?_⟩
  simp only [put1s,cat_cat]
  unfold blW
  simp only [List.cons_append,List.nil_append]
 ·trivial
noncomputable def stwS (m:Nat):List Dat->Option (Eff × List Seg):=fun ds=>match ds with
 | [.d w,.i k,.s nm,.s tg,.i ek,.i en,.s es,.d ed,.i op,.i lk,.i ln,.s ls,.d ld,.i rk,.i rn,.s rs,.d rd,.d bd,.d eb,.d am]=>some ({val:=.tup [],vc:=[SizeOf.sizeOf bd<m,SizeOf.sizeOf eb<m,SizeOf.sizeOf am<m,stmF k nm tg ek en es ed op lk ln ls ld rk rn rs rd bd eb am,w.len<=2001],nw:=[(0,.orow 9 (cat w (stW k nm tg ek en es ed op lk ln ls ld rk rn rs rd bd eb am)))]},[.c (.osl 9 0 (.lit 0) (.sym (cat w (stW k nm tg ek en es ed op lk ln ls ld rk rn rs rd bd eb am)).len))])
 |_=>none
noncomputable def stwC (m:Nat):Con:=conM 96 [.own 9] [lSt] (stwS m)
theorem stw_ok {m:Nat} (ih:ConOK Tryz.prog 72 (conM 96 [.own 9] [lBo] (lwrSu m))):ConOK Tryz.prog 92 (stwC m):=by
 refine fn_obM tt_ok mixed Tryz.func92 rfl (fun _ _=>by kernel_rfl) (A:=fun ds=>⟨fun _=>Cons.of [(69,putC),(101,xwrC),(102,cwrC),(103,(blwC m))],fun k=>match k,ds with | 24,[.d w,.i k,.s nm,.s tg,.i ek,.i en,.s es,.d ed,.i op,.i lk,.i ln,.s ls,.d ld,.i rk,.i rn,.s rs,.d rd,.d bd,.d eb,.d am]=>some {ι:=Nat,pre:=fun _ i=>i<=am.len,μ:=fun i=>am.len-i,st:=fun s i=>famR s [(85,.one (.sc (.int .i64 (.sym ((i:Int))))))] [0,83,84] [(0,.own 96 ([.c (.osl 9 1 (.lit 0) (.sym (cat w ([⟨#[114,101,99,118]⟩,nm,⟨#[123]⟩]++catTo i (arW am))).len))])),(1,.orow 9 (cat w ([⟨#[114,101,99,118]⟩,nm,⟨#[123]⟩]++catTo i (arW am))))] []} |_,_=>none,fun _=>none⟩) (fun _ _=>(cons_cons put_ok (cons_cons xwr_ok (cons_cons cwr_ok (cons_cons (blw_ok ih) cons_nil))))) (by kernel_rfl) ?_
 intro ds
 unfold stwS
 split
 ·rename_i w k nm tg ek en es ed op lk ln ls ld rk rn rs rd bd eb am
  refine kmp (q:=SizeOf.sizeOf bd<m->SizeOf.sizeOf eb<m->SizeOf.sizeOf am<m->stmF k nm tg ek en es ed op lk ln ls ld rk rn rs rd bd eb am->w.len<=(2001:Nat)->((k==(1:Int))=true->(0:Nat)=(0:Nat)/\w.len=w.len/\(0:Nat)+(2:Nat)<=(D.l [[D.s nm],[D.s {data:=#[(61:UInt8)]}]]).len/\w.len<=(2001:Nat)/\((D.l [[D.s nm],[D.s {data:=#[(61:UInt8)]}]]).sub (0:Nat) ((0:Nat)+(2:Nat))).len<=(1000:Nat)/\(∀ (j:Nat),j<((D.l [[D.s nm],[D.s {data:=#[(61:UInt8)]}]]).sub (0:Nat) ((0:Nat)+(2:Nat))).len->(((D.l [[D.s nm],[D.s {data:=#[(61:UInt8)]}]]).sub (0:Nat) ((0:Nat)+(2:Nat))).el j (0:Nat)).toS.size<=(281474976710656:Nat))/\(0:Nat)=(0:Nat)/\(putD w ((D.l [[D.s nm],[D.s {data:=#[(61:UInt8)]}]]).sub (0:Nat) ((0:Nat)+(2:Nat)))).len=(putD w ((D.l [[D.s nm],[D.s {data:=#[(61:UInt8)]}]]).sub (0:Nat) ((0:Nat)+(2:Nat)))).len/\xF ek en es ed/\(putD w ((D.l [[D.s nm],[D.s {data:=#[(61:UInt8)]}]]).sub (0:Nat) ((0:Nat)+(2:Nat)))).len<=(2001:Nat)/\(0:Nat)=(0:Nat)/\(cat (putD w ((D.l [[D.s nm],[D.s {data:=#[(61:UInt8)]}]]).sub (0:Nat) ((0:Nat)+(2:Nat)))) (xW ek en es ed)).len=(cat (putD w ((D.l [[D.s nm],[D.s {data:=#[(61:UInt8)]}]]).sub (0:Nat) ((0:Nat)+(2:Nat)))) (xW ek en es ed)).len/\(0:Nat)+(1:Nat)<=(D.l [[D.s {data:=#[(59:UInt8)]}]]).len/\(cat (putD w ((D.l [[D.s nm],[D.s {data:=#[(61:UInt8)]}]]).sub (0:Nat) ((0:Nat)+(2:Nat)))) (xW ek en es ed)).len<=(2001:Nat)/\((D.l [[D.s {data:=#[(59:UInt8)]}]]).sub (0:Nat) 1).len<=(1000:Nat)/\(∀ (j:Nat),j<((D.l [[D.s {data:=#[(59:UInt8)]}]]).sub (0:Nat) 1).len->(((D.l [[D.s {data:=#[(59:UInt8)]}]]).sub (0:Nat) 1).el j (0:Nat)).toS.size<=(281474976710656:Nat))/\(putD (cat (putD w ((D.l [[D.s nm],[D.s {data:=#[(61:UInt8)]}]]).sub (0:Nat) ((0:Nat)+(2:Nat)))) (xW ek en es ed)) ((D.l [[D.s {data:=#[(59:UInt8)]}]]).sub (0:Nat) 1)).len=(cat w (stW k nm tg ek en es ed op lk ln ls ld rk rn rs rd bd eb am)).len/\List.take (2001:Nat) (List.take (2001:Nat) (List.take (2001:Nat) (w.rows++List.map sR (wsL ((D.l [[D.s nm],[D.s {data:=#[(61:UInt8)]}]]).sub (0:Nat) ((0:Nat)+(2:Nat))) ((D.l [[D.s nm],[D.s {data:=#[(61:UInt8)]}]]).sub (0:Nat) ((0:Nat)+(2:Nat))).len))++List.map sR (xW ek en es ed))++List.map sR (wsL ((D.l [[D.s {data:=#[(59:UInt8)]}]]).sub (0:Nat) 1) ((D.l [[D.s {data:=#[(59:UInt8)]}]]).sub (0:Nat) 1).len))=List.take (2001:Nat) (w.rows++List.map sR (stW k nm tg ek en es ed op lk ln ls ld rk rn rs rd bd eb am)))/\((k==(1:Int))=false->((k==(2:Int))=true->(0:Nat)=(0:Nat)/\w.len=w.len/\(0:Nat)+(1:Nat)<=(D.l [[D.s {data:=#[(105:UInt8),(102:UInt8)]}]]).len/\w.len<=(2001:Nat)/\((D.l [[D.s {data:=#[(105:UInt8),(102:UInt8)]}]]).sub (0:Nat) 1).len<=(1000:Nat)/\(∀ (j:Nat),j<((D.l [[D.s {data:=#[(105:UInt8),(102:UInt8)]}]]).sub (0:Nat) 1).len->(((D.l [[D.s {data:=#[(105:UInt8),(102:UInt8)]}]]).sub (0:Nat) 1).el j (0:Nat)).toS.size<=(281474976710656:Nat))/\(0:Nat)=(0:Nat)/\(putD w ((D.l [[D.s {data:=#[(105:UInt8),(102:UInt8)]}]]).sub (0:Nat) 1)).len=(putD w ((D.l [[D.s {data:=#[(105:UInt8),(102:UInt8)]}]]).sub (0:Nat) 1)).len/\cF lk ln ls ld rk rn rs rd/\(putD w ((D.l [[D.s {data:=#[(105:UInt8),(102:UInt8)]}]]).sub (0:Nat) 1)).len<=(2001:Nat)/\(0:Nat)=(0:Nat)/\(cat (putD w ((D.l [[D.s {data:=#[(105:UInt8),(102:UInt8)]}]]).sub (0:Nat) 1)) (cW op lk ln ls ld rk rn rs rd)).len=(cat (putD w ((D.l [[D.s {data:=#[(105:UInt8),(102:UInt8)]}]]).sub (0:Nat) 1)) (cW op lk ln ls ld rk rn rs rd)).len/\SizeOf.sizeOf bd<m/\bF bd/\(cat (putD w ((D.l [[D.s {data:=#[(105:UInt8),(102:UInt8)]}]]).sub (0:Nat) 1)) (cW op lk ln ls ld rk rn rs rd)).len<=(2001:Nat)/\(decide ((↑eb.len:Int)>(0:Int))=true->(0:Nat)=(0:Nat)/\(cat (cat (putD w ((D.l [[D.s {data:=#[(105:UInt8),(102:UInt8)]}]]).sub (0:Nat) 1)) (cW op lk ln ls ld rk rn rs rd)) (blW (bW bd))).len=(cat (cat (putD w ((D.l [[D.s {data:=#[(105:UInt8),(102:UInt8)]}]]).sub (0:Nat) 1)) (cW op lk ln ls ld rk rn rs rd)) (blW (bW bd))).len/\(0:Nat)+(1:Nat)<=(D.l [[D.s {data:=#[(101:UInt8),(108:UInt8),(115:UInt8),(101:UInt8)]}]]).len/\(cat (cat (putD w ((D.l [[D.s {data:=#[(105:UInt8),(102:UInt8)]}]]).sub (0:Nat) 1)) (cW op lk ln ls ld rk rn rs rd)) (blW (bW bd))).len<=(2001:Nat)/\((D.l [[D.s {data:=#[(101:UInt8),(108:UInt8),(115:UInt8),(101:UInt8)]}]]).sub (0:Nat) 1).len<=(1000:Nat)/\(∀ (j:Nat),j<((D.l [[D.s {data:=#[(101:UInt8),(108:UInt8),(115:UInt8),(101:UInt8)]}]]).sub (0:Nat) 1).len->(((D.l [[D.s {data:=#[(101:UInt8),(108:UInt8),(115:UInt8),(101:UInt8)]}]]).sub (0:Nat) 1).el j (0:Nat)).toS.size<=(281474976710656:Nat))/\(0:Nat)=(0:Nat)/\(putD (cat (cat (putD w ((D.l [[D.s {data:=#[(105:UInt8),(102:UInt8)]}]]).sub (0:Nat) 1)) (cW op lk ln ls ld rk rn rs rd)) (blW (bW bd))) ((D.l [[D.s {data:=#[(101:UInt8),(108:UInt8),(115:UInt8),(101:UInt8)]}]]).sub (0:Nat) 1)).len=(putD (cat (cat (putD w ((D.l [[D.s {data:=#[(105:UInt8),(102:UInt8)]}]]).sub (0:Nat) 1)) (cW op lk ln ls ld rk rn rs rd)) (blW (bW bd))) ((D.l [[D.s {data:=#[(101:UInt8),(108:UInt8),(115:UInt8),(101:UInt8)]}]]).sub (0:Nat) 1)).len/\SizeOf.sizeOf eb<m/\bF eb/\(putD (cat (cat (putD w ((D.l [[D.s {data:=#[(105:UInt8),(102:UInt8)]}]]).sub (0:Nat) 1)) (cW op lk ln ls ld rk rn rs rd)) (blW (bW bd))) ((D.l [[D.s {data:=#[(101:UInt8),(108:UInt8),(115:UInt8),(101:UInt8)]}]]).sub (0:Nat) 1)).len<=(2001:Nat)/\(cat (putD (cat (cat (putD w ((D.l [[D.s {data:=#[(105:UInt8),(102:UInt8)]}]]).sub (0:Nat) 1)) (cW op lk ln ls ld rk rn rs rd)) (blW (bW bd))) ((D.l [[D.s {data:=#[(101:UInt8),(108:UInt8),(115:UInt8),(101:UInt8)]}]]).sub (0:Nat) 1)) (blW (bW eb))).len=(cat w (stW k nm tg ek en es ed op lk ln ls ld rk rn rs rd bd eb am)).len/\List.take (2001:Nat) (List.take (2001:Nat) (List.take (2001:Nat) (List.take (2001:Nat) (List.take (2001:Nat) (w.rows++List.map sR (wsL ((D.l [[D.s {data:=#[(105:UInt8),(102:UInt8)]}]]).sub (0:Nat) 1) ((D.l [[D.s {data:=#[(105:UInt8),(102:UInt8)]}]]).sub (0:Nat) 1).len))++List.map sR (cW op lk ln ls ld rk rn rs rd))++List.map sR (blW (bW bd)))++List.map sR (wsL ((D.l [[D.s {data:=#[(101:UInt8),(108:UInt8),(115:UInt8),(101:UInt8)]}]]).sub (0:Nat) 1) ((D.l [[D.s {data:=#[(101:UInt8),(108:UInt8),(115:UInt8),(101:UInt8)]}]]).sub (0:Nat) 1).len))++List.map sR (blW (bW eb)))=List.take (2001:Nat) (w.rows++List.map sR (stW k nm tg ek en es ed op lk ln ls ld rk rn rs rd bd eb am)))/\(decide ((↑eb.len:Int)>(0:Int))=false->(cat (cat (putD w ((D.l [[D.s {data:=#[(105:UInt8),(102:UInt8)]}]]).sub (0:Nat) 1)) (cW op lk ln ls ld rk rn rs rd)) (blW (bW bd))).len=(cat w (stW k nm tg ek en es ed op lk ln ls ld rk rn rs rd bd eb am)).len/\List.take (2001:Nat) (List.take (2001:Nat) (List.take (2001:Nat) (w.rows++List.map sR (wsL ((D.l [[D.s {data:=#[(105:UInt8),(102:UInt8)]}]]).sub (0:Nat) 1) ((D.l [[D.s {data:=#[(105:UInt8),(102:UInt8)]}]]).sub (0:Nat) 1).len))++List.map sR (cW op lk ln ls ld rk rn rs rd))++List.map sR (blW (bW bd)))=List.take (2001:Nat) (w.rows++List.map sR (stW k nm tg ek en es ed op lk ln ls ld rk rn rs rd bd eb am))))/\((k==(2:Int))=false->((k==(3:Int))=true->(0:Nat)=(0:Nat)/\w.len=w.len/\(0:Nat)+(1:Nat)<=(D.l [[D.s {data:=#[(119:UInt8),(104:UInt8),(105:UInt8),(108:UInt8),(101:UInt8)]}]]).len/\w.len<=(2001:Nat)/\((D.l [[D.s {data:=#[(119:UInt8),(104:UInt8),(105:UInt8),(108:UInt8),(101:UInt8)]}]]).sub (0:Nat) 1).len<=(1000:Nat)/\(∀ (j:Nat),j<((D.l [[D.s {data:=#[(119:UInt8),(104:UInt8),(105:UInt8),(108:UInt8),(101:UInt8)]}]]).sub (0:Nat) 1).len->(((D.l [[D.s {data:=#[(119:UInt8),(104:UInt8),(105:UInt8),(108:UInt8),(101:UInt8)]}]]).sub (0:Nat) 1).el j (0:Nat)).toS.size<=(281474976710656:Nat))/\(0:Nat)=(0:Nat)/\(putD w ((D.l [[D.s {data:=#[(119:UInt8),(104:UInt8),(105:UInt8),(108:UInt8),(101:UInt8)]}]]).sub (0:Nat) 1)).len=(putD w ((D.l [[D.s {data:=#[(119:UInt8),(104:UInt8),(105:UInt8),(108:UInt8),(101:UInt8)]}]]).sub (0:Nat) 1)).len/\cF lk ln ls ld rk rn rs rd/\(putD w ((D.l [[D.s {data:=#[(119:UInt8),(104:UInt8),(105:UInt8),(108:UInt8),(101:UInt8)]}]]).sub (0:Nat) 1)).len<=(2001:Nat)/\(0:Nat)=(0:Nat)/\(cat (putD w ((D.l [[D.s {data:=#[(119:UInt8),(104:UInt8),(105:UInt8),(108:UInt8),(101:UInt8)]}]]).sub (0:Nat) 1)) (cW op lk ln ls ld rk rn rs rd)).len=(cat (putD w ((D.l [[D.s {data:=#[(119:UInt8),(104:UInt8),(105:UInt8),(108:UInt8),(101:UInt8)]}]]).sub (0:Nat) 1)) (cW op lk ln ls ld rk rn rs rd)).len/\SizeOf.sizeOf bd<m/\bF bd/\(cat (putD w ((D.l [[D.s {data:=#[(119:UInt8),(104:UInt8),(105:UInt8),(108:UInt8),(101:UInt8)]}]]).sub (0:Nat) 1)) (cW op lk ln ls ld rk rn rs rd)).len<=(2001:Nat)/\(cat (cat (putD w ((D.l [[D.s {data:=#[(119:UInt8),(104:UInt8),(105:UInt8),(108:UInt8),(101:UInt8)]}]]).sub (0:Nat) 1)) (cW op lk ln ls ld rk rn rs rd)) (blW (bW bd))).len=(cat w (stW k nm tg ek en es ed op lk ln ls ld rk rn rs rd bd eb am)).len/\List.take (2001:Nat) (List.take (2001:Nat) (List.take (2001:Nat) (w.rows++List.map sR (wsL ((D.l [[D.s {data:=#[(119:UInt8),(104:UInt8),(105:UInt8),(108:UInt8),(101:UInt8)]}]]).sub (0:Nat) 1) ((D.l [[D.s {data:=#[(119:UInt8),(104:UInt8),(105:UInt8),(108:UInt8),(101:UInt8)]}]]).sub (0:Nat) 1).len))++List.map sR (cW op lk ln ls ld rk rn rs rd))++List.map sR (blW (bW bd)))=List.take (2001:Nat) (w.rows++List.map sR (stW k nm tg ek en es ed op lk ln ls ld rk rn rs rd bd eb am)))/\((k==(3:Int))=false->((k==(4:Int))=true->(0:Nat)=(0:Nat)/\w.len=w.len/\(0:Nat)+(5:Nat)<=(D.l [[D.s {data:=#[(115:UInt8),(101:UInt8),(110:UInt8),(100:UInt8)]}],[D.s nm],[D.s {data:=#[(46:UInt8)]}],[D.s tg],[D.s {data:=#[(40:UInt8)]}]]).len/\w.len<=(2001:Nat)/\((D.l [[D.s {data:=#[(115:UInt8),(101:UInt8),(110:UInt8),(100:UInt8)]}],[D.s nm],[D.s {data:=#[(46:UInt8)]}],[D.s tg],[D.s {data:=#[(40:UInt8)]}]]).sub (0:Nat) ((0:Nat)+(5:Nat))).len<=(1000:Nat)/\(∀ (j:Nat),j<((D.l [[D.s {data:=#[(115:UInt8),(101:UInt8),(110:UInt8),(100:UInt8)]}],[D.s nm],[D.s {data:=#[(46:UInt8)]}],[D.s tg],[D.s {data:=#[(40:UInt8)]}]]).sub (0:Nat) ((0:Nat)+(5:Nat))).len->(((D.l [[D.s {data:=#[(115:UInt8),(101:UInt8),(110:UInt8),(100:UInt8)]}],[D.s nm],[D.s {data:=#[(46:UInt8)]}],[D.s tg],[D.s {data:=#[(40:UInt8)]}]]).sub (0:Nat) ((0:Nat)+(5:Nat))).el j (0:Nat)).toS.size<=(281474976710656:Nat))/\(0:Nat)=(0:Nat)/\(putD w ((D.l [[D.s {data:=#[(115:UInt8),(101:UInt8),(110:UInt8),(100:UInt8)]}],[D.s nm],[D.s {data:=#[(46:UInt8)]}],[D.s tg],[D.s {data:=#[(40:UInt8)]}]]).sub (0:Nat) ((0:Nat)+(5:Nat)))).len=(putD w ((D.l [[D.s {data:=#[(115:UInt8),(101:UInt8),(110:UInt8),(100:UInt8)]}],[D.s nm],[D.s {data:=#[(46:UInt8)]}],[D.s tg],[D.s {data:=#[(40:UInt8)]}]]).sub (0:Nat) ((0:Nat)+(5:Nat)))).len/\xF ek en es ed/\(putD w ((D.l [[D.s {data:=#[(115:UInt8),(101:UInt8),(110:UInt8),(100:UInt8)]}],[D.s nm],[D.s {data:=#[(46:UInt8)]}],[D.s tg],[D.s {data:=#[(40:UInt8)]}]]).sub (0:Nat) ((0:Nat)+(5:Nat)))).len<=(2001:Nat)/\(0:Nat)=(0:Nat)/\(cat (putD w ((D.l [[D.s {data:=#[(115:UInt8),(101:UInt8),(110:UInt8),(100:UInt8)]}],[D.s nm],[D.s {data:=#[(46:UInt8)]}],[D.s tg],[D.s {data:=#[(40:UInt8)]}]]).sub (0:Nat) ((0:Nat)+(5:Nat)))) (xW ek en es ed)).len=(cat (putD w ((D.l [[D.s {data:=#[(115:UInt8),(101:UInt8),(110:UInt8),(100:UInt8)]}],[D.s nm],[D.s {data:=#[(46:UInt8)]}],[D.s tg],[D.s {data:=#[(40:UInt8)]}]]).sub (0:Nat) ((0:Nat)+(5:Nat)))) (xW ek en es ed)).len/\(0:Nat)+(2:Nat)<=(D.l [[D.s {data:=#[(41:UInt8)]}],[D.s {data:=#[(59:UInt8)]}]]).len/\(cat (putD w ((D.l [[D.s {data:=#[(115:UInt8),(101:UInt8),(110:UInt8),(100:UInt8)]}],[D.s nm],[D.s {data:=#[(46:UInt8)]}],[D.s tg],[D.s {data:=#[(40:UInt8)]}]]).sub (0:Nat) ((0:Nat)+(5:Nat)))) (xW ek en es ed)).len<=(2001:Nat)/\((D.l [[D.s {data:=#[(41:UInt8)]}],[D.s {data:=#[(59:UInt8)]}]]).sub (0:Nat) ((0:Nat)+(2:Nat))).len<=(1000:Nat)/\(∀ (j:Nat),j<((D.l [[D.s {data:=#[(41:UInt8)]}],[D.s {data:=#[(59:UInt8)]}]]).sub (0:Nat) ((0:Nat)+(2:Nat))).len->(((D.l [[D.s {data:=#[(41:UInt8)]}],[D.s {data:=#[(59:UInt8)]}]]).sub (0:Nat) ((0:Nat)+(2:Nat))).el j (0:Nat)).toS.size<=(281474976710656:Nat))/\(putD (cat (putD w ((D.l [[D.s {data:=#[(115:UInt8),(101:UInt8),(110:UInt8),(100:UInt8)]}],[D.s nm],[D.s {data:=#[(46:UInt8)]}],[D.s tg],[D.s {data:=#[(40:UInt8)]}]]).sub (0:Nat) ((0:Nat)+(5:Nat)))) (xW ek en es ed)) ((D.l [[D.s {data:=#[(41:UInt8)]}],[D.s {data:=#[(59:UInt8)]}]]).sub (0:Nat) ((0:Nat)+(2:Nat)))).len=(cat w (stW k nm tg ek en es ed op lk ln ls ld rk rn rs rd bd eb am)).len/\List.take (2001:Nat) (List.take (2001:Nat) (List.take (2001:Nat) (w.rows++List.map sR (wsL ((D.l [[D.s {data:=#[(115:UInt8),(101:UInt8),(110:UInt8),(100:UInt8)]}],[D.s nm],[D.s {data:=#[(46:UInt8)]}],[D.s tg],[D.s {data:=#[(40:UInt8)]}]]).sub (0:Nat) ((0:Nat)+(5:Nat))) ((D.l [[D.s {data:=#[(115:UInt8),(101:UInt8),(110:UInt8),(100:UInt8)]}],[D.s nm],[D.s {data:=#[(46:UInt8)]}],[D.s tg],[D.s {data:=#[(40:UInt8)]}]]).sub (0:Nat) ((0:Nat)+(5:Nat))).len))++List.map sR (xW ek en es ed))++List.map sR (wsL ((D.l [[D.s {data:=#[(41:UInt8)]}],[D.s {data:=#[(59:UInt8)]}]]).sub (0:Nat) ((0:Nat)+(2:Nat))) ((D.l [[D.s {data:=#[(41:UInt8)]}],[D.s {data:=#[(59:UInt8)]}]]).sub (0:Nat) ((0:Nat)+(2:Nat))).len))=List.take (2001:Nat) (w.rows++List.map sR (stW k nm tg ek en es ed op lk ln ls ld rk rn rs rd bd eb am)))/\((k==(4:Int))=false->((k==(5:Int))=true->(0:Nat)=(0:Nat)/\w.len=w.len/\(0:Nat)+(3:Nat)<=(D.l [[D.s {data:=#[(114:UInt8),(101:UInt8),(99:UInt8),(118:UInt8)]}],[D.s nm],[D.s {data:=#[(123:UInt8)]}]]).len/\w.len<=(2001:Nat)/\((D.l [[D.s {data:=#[(114:UInt8),(101:UInt8),(99:UInt8),(118:UInt8)]}],[D.s nm],[D.s {data:=#[(123:UInt8)]}]]).sub (0:Nat) ((0:Nat)+(3:Nat))).len<=(1000:Nat)/\(∀ (j:Nat),j<((D.l [[D.s {data:=#[(114:UInt8),(101:UInt8),(99:UInt8),(118:UInt8)]}],[D.s nm],[D.s {data:=#[(123:UInt8)]}]]).sub (0:Nat) ((0:Nat)+(3:Nat))).len->(((D.l [[D.s {data:=#[(114:UInt8),(101:UInt8),(99:UInt8),(118:UInt8)]}],[D.s nm],[D.s {data:=#[(123:UInt8)]}]]).sub (0:Nat) ((0:Nat)+(3:Nat))).el j (0:Nat)).toS.size<=(281474976710656:Nat))/\(∃ (i:Nat),i.le am.len/\(0:Int)=(↑i:Int)/\am.rows=am.rows/\(↑am.len:Int)=(↑am.len:Int)/\(putD w ((D.l [[D.s {data:=#[(114:UInt8),(101:UInt8),(99:UInt8),(118:UInt8)]}],[D.s nm],[D.s {data:=#[(123:UInt8)]}]]).sub (0:Nat) ((0:Nat)+(3:Nat)))).len=(cat w ([{data:=#[(114:UInt8),(101:UInt8),(99:UInt8),(118:UInt8)]},nm,{data:=#[(123:UInt8)]}]++catTo i (arW am))).len/\List.take (2001:Nat) (w.rows++List.map sR (wsL ((D.l [[D.s {data:=#[(114:UInt8),(101:UInt8),(99:UInt8),(118:UInt8)]}],[D.s nm],[D.s {data:=#[(123:UInt8)]}]]).sub (0:Nat) ((0:Nat)+(3:Nat))) ((D.l [[D.s {data:=#[(114:UInt8),(101:UInt8),(99:UInt8),(118:UInt8)]}],[D.s nm],[D.s {data:=#[(123:UInt8)]}]]).sub (0:Nat) ((0:Nat)+(3:Nat))).len))=List.take (2001:Nat) (w.rows++List.map sR ([{data:=#[(114:UInt8),(101:UInt8),(99:UInt8),(118:UInt8)]},nm,{data:=#[(123:UInt8)]}]++catTo i (arW am))))/\∀ (i:Nat),i.le am.len->(decide ((↑i:Int)<(↑am.len:Int))=true->((0:Int)<=(↑i:Int)/\(↑i:Int)<(↑am.len:Int))/\(0:Nat)=(0:Nat)/\(cat w ([{data:=#[(114:UInt8),(101:UInt8),(99:UInt8),(118:UInt8)]},nm,{data:=#[(123:UInt8)]}]++catTo i (arW am))).len=(cat w ([{data:=#[(114:UInt8),(101:UInt8),(99:UInt8),(118:UInt8)]},nm,{data:=#[(123:UInt8)]}]++catTo i (arW am))).len/\(0:Nat)+(4:Nat)<=(D.l [[D.s (am.el (↑i:Int).toNat (0:Nat)).toS],[D.s {data:=#[(40:UInt8)]}],[D.s (am.el (↑i:Int).toNat 1).toS],[D.s {data:=#[(41:UInt8)]}]]).len/\(cat w ([{data:=#[(114:UInt8),(101:UInt8),(99:UInt8),(118:UInt8)]},nm,{data:=#[(123:UInt8)]}]++catTo i (arW am))).len<=(2001:Nat)/\((D.l [[D.s (am.el (↑i:Int).toNat (0:Nat)).toS],[D.s {data:=#[(40:UInt8)]}],[D.s (am.el (↑i:Int).toNat 1).toS],[D.s {data:=#[(41:UInt8)]}]]).sub (0:Nat) ((0:Nat)+(4:Nat))).len<=(1000:Nat)/\(∀ (j:Nat),j<((D.l [[D.s (am.el (↑i:Int).toNat (0:Nat)).toS],[D.s {data:=#[(40:UInt8)]}],[D.s (am.el (↑i:Int).toNat 1).toS],[D.s {data:=#[(41:UInt8)]}]]).sub (0:Nat) ((0:Nat)+(4:Nat))).len->(((D.l [[D.s (am.el (↑i:Int).toNat (0:Nat)).toS],[D.s {data:=#[(40:UInt8)]}],[D.s (am.el (↑i:Int).toNat 1).toS],[D.s {data:=#[(41:UInt8)]}]]).sub (0:Nat) ((0:Nat)+(4:Nat))).el j (0:Nat)).toS.size<=(281474976710656:Nat))/\(0:Nat)=(0:Nat)/\(putD (cat w ([{data:=#[(114:UInt8),(101:UInt8),(99:UInt8),(118:UInt8)]},nm,{data:=#[(123:UInt8)]}]++catTo i (arW am))) ((D.l [[D.s (am.el (↑i:Int).toNat (0:Nat)).toS],[D.s {data:=#[(40:UInt8)]}],[D.s (am.el (↑i:Int).toNat 1).toS],[D.s {data:=#[(41:UInt8)]}]]).sub (0:Nat) ((0:Nat)+(4:Nat)))).len=(putD (cat w ([{data:=#[(114:UInt8),(101:UInt8),(99:UInt8),(118:UInt8)]},nm,{data:=#[(123:UInt8)]}]++catTo i (arW am))) ((D.l [[D.s (am.el (↑i:Int).toNat (0:Nat)).toS],[D.s {data:=#[(40:UInt8)]}],[D.s (am.el (↑i:Int).toNat 1).toS],[D.s {data:=#[(41:UInt8)]}]]).sub (0:Nat) ((0:Nat)+(4:Nat)))).len/\SizeOf.sizeOf (am.el (↑i:Int).toNat 2)<m/\bF (am.el (↑i:Int).toNat 2)/\(putD (cat w ([{data:=#[(114:UInt8),(101:UInt8),(99:UInt8),(118:UInt8)]},nm,{data:=#[(123:UInt8)]}]++catTo i (arW am))) ((D.l [[D.s (am.el (↑i:Int).toNat (0:Nat)).toS],[D.s {data:=#[(40:UInt8)]}],[D.s (am.el (↑i:Int).toNat 1).toS],[D.s {data:=#[(41:UInt8)]}]]).sub (0:Nat) ((0:Nat)+(4:Nat)))).len<=(2001:Nat)/\∃ (j:Nat),j.le am.len/\am.len-j<am.len-i/\IntKind.i64.wrap ((↑i:Int)+(1:Int))=(↑j:Int)/\am.rows=am.rows/\(↑am.len:Int)=(↑am.len:Int)/\(cat (putD (cat w ([{data:=#[(114:UInt8),(101:UInt8),(99:UInt8),(118:UInt8)]},nm,{data:=#[(123:UInt8)]}]++catTo i (arW am))) ((D.l [[D.s (am.el (↑i:Int).toNat (0:Nat)).toS],[D.s {data:=#[(40:UInt8)]}],[D.s (am.el (↑i:Int).toNat 1).toS],[D.s {data:=#[(41:UInt8)]}]]).sub (0:Nat) ((0:Nat)+(4:Nat)))) (blW (bW (am.el (↑i:Int).toNat 2)))).len=(cat w ([{data:=#[(114:UInt8),(101:UInt8),(99:UInt8),(118:UInt8)]},nm,{data:=#[(123:UInt8)]}]++catTo j (arW am))).len/\List.take (2001:Nat) (List.take (2001:Nat) (List.take (2001:Nat) (w.rows++List.map sR ([{data:=#[(114:UInt8),(101:UInt8),(99:UInt8),(118:UInt8)]},nm,{data:=#[(123:UInt8)]}]++catTo i (arW am)))++List.map sR (wsL ((D.l [[D.s (am.el (↑i:Int).toNat (0:Nat)).toS],[D.s {data:=#[(40:UInt8)]}],[D.s (am.el (↑i:Int).toNat 1).toS],[D.s {data:=#[(41:UInt8)]}]]).sub (0:Nat) ((0:Nat)+(4:Nat))) ((D.l [[D.s (am.el (↑i:Int).toNat (0:Nat)).toS],[D.s {data:=#[(40:UInt8)]}],[D.s (am.el (↑i:Int).toNat 1).toS],[D.s {data:=#[(41:UInt8)]}]]).sub (0:Nat) ((0:Nat)+(4:Nat))).len))++List.map sR (blW (bW (am.el (↑i:Int).toNat 2))))=List.take (2001:Nat) (w.rows++List.map sR ([{data:=#[(114:UInt8),(101:UInt8),(99:UInt8),(118:UInt8)]},nm,{data:=#[(123:UInt8)]}]++catTo j (arW am))))/\(decide ((↑i:Int)<(↑am.len:Int))=false->(0:Nat)=(0:Nat)/\(cat w ([{data:=#[(114:UInt8),(101:UInt8),(99:UInt8),(118:UInt8)]},nm,{data:=#[(123:UInt8)]}]++catTo i (arW am))).len=(cat w ([{data:=#[(114:UInt8),(101:UInt8),(99:UInt8),(118:UInt8)]},nm,{data:=#[(123:UInt8)]}]++catTo i (arW am))).len/\(0:Nat)+(1:Nat)<=(D.l [[D.s {data:=#[(125:UInt8)]}]]).len/\(cat w ([{data:=#[(114:UInt8),(101:UInt8),(99:UInt8),(118:UInt8)]},nm,{data:=#[(123:UInt8)]}]++catTo i (arW am))).len<=(2001:Nat)/\((D.l [[D.s {data:=#[(125:UInt8)]}]]).sub (0:Nat) 1).len<=(1000:Nat)/\(∀ (j:Nat),j<((D.l [[D.s {data:=#[(125:UInt8)]}]]).sub (0:Nat) 1).len->(((D.l [[D.s {data:=#[(125:UInt8)]}]]).sub (0:Nat) 1).el j (0:Nat)).toS.size<=(281474976710656:Nat))/\(putD (cat w ([{data:=#[(114:UInt8),(101:UInt8),(99:UInt8),(118:UInt8)]},nm,{data:=#[(123:UInt8)]}]++catTo i (arW am))) ((D.l [[D.s {data:=#[(125:UInt8)]}]]).sub (0:Nat) 1)).len=(cat w (stW k nm tg ek en es ed op lk ln ls ld rk rn rs rd bd eb am)).len/\List.take (2001:Nat) (List.take (2001:Nat) (w.rows++List.map sR ([{data:=#[(114:UInt8),(101:UInt8),(99:UInt8),(118:UInt8)]},nm,{data:=#[(123:UInt8)]}]++catTo i (arW am)))++List.map sR (wsL ((D.l [[D.s {data:=#[(125:UInt8)]}]]).sub (0:Nat) 1) ((D.l [[D.s {data:=#[(125:UInt8)]}]]).sub (0:Nat) 1).len))=List.take (2001:Nat) (w.rows++List.map sR (stW k nm tg ek en es ed op lk ln ls ld rk rn rs rd bd eb am))))/\((k==(5:Int))=false->((k==(6:Int))=true->(0:Nat)=(0:Nat)/\w.len=w.len/\(0:Nat)+(1:Nat)<=(D.l [[D.s {data:=#[(97:UInt8),(115:UInt8),(115:UInt8),(101:UInt8),(114:UInt8),(116:UInt8)]}]]).len/\w.len<=(2001:Nat)/\((D.l [[D.s {data:=#[(97:UInt8),(115:UInt8),(115:UInt8),(101:UInt8),(114:UInt8),(116:UInt8)]}]]).sub (0:Nat) 1).len<=(1000:Nat)/\(∀ (j:Nat),j<((D.l [[D.s {data:=#[(97:UInt8),(115:UInt8),(115:UInt8),(101:UInt8),(114:UInt8),(116:UInt8)]}]]).sub (0:Nat) 1).len->(((D.l [[D.s {data:=#[(97:UInt8),(115:UInt8),(115:UInt8),(101:UInt8),(114:UInt8),(116:UInt8)]}]]).sub (0:Nat) 1).el j (0:Nat)).toS.size<=(281474976710656:Nat))/\(0:Nat)=(0:Nat)/\(putD w ((D.l [[D.s {data:=#[(97:UInt8),(115:UInt8),(115:UInt8),(101:UInt8),(114:UInt8),(116:UInt8)]}]]).sub (0:Nat) 1)).len=(putD w ((D.l [[D.s {data:=#[(97:UInt8),(115:UInt8),(115:UInt8),(101:UInt8),(114:UInt8),(116:UInt8)]}]]).sub (0:Nat) 1)).len/\cF lk ln ls ld rk rn rs rd/\(putD w ((D.l [[D.s {data:=#[(97:UInt8),(115:UInt8),(115:UInt8),(101:UInt8),(114:UInt8),(116:UInt8)]}]]).sub (0:Nat) 1)).len<=(2001:Nat)/\(0:Nat)=(0:Nat)/\(cat (putD w ((D.l [[D.s {data:=#[(97:UInt8),(115:UInt8),(115:UInt8),(101:UInt8),(114:UInt8),(116:UInt8)]}]]).sub (0:Nat) 1)) (cW op lk ln ls ld rk rn rs rd)).len=(cat (putD w ((D.l [[D.s {data:=#[(97:UInt8),(115:UInt8),(115:UInt8),(101:UInt8),(114:UInt8),(116:UInt8)]}]]).sub (0:Nat) 1)) (cW op lk ln ls ld rk rn rs rd)).len/\(0:Nat)+(1:Nat)<=(D.l [[D.s {data:=#[(59:UInt8)]}]]).len/\(cat (putD w ((D.l [[D.s {data:=#[(97:UInt8),(115:UInt8),(115:UInt8),(101:UInt8),(114:UInt8),(116:UInt8)]}]]).sub (0:Nat) 1)) (cW op lk ln ls ld rk rn rs rd)).len<=(2001:Nat)/\((D.l [[D.s {data:=#[(59:UInt8)]}]]).sub (0:Nat) 1).len<=(1000:Nat)/\(∀ (j:Nat),j<((D.l [[D.s {data:=#[(59:UInt8)]}]]).sub (0:Nat) 1).len->(((D.l [[D.s {data:=#[(59:UInt8)]}]]).sub (0:Nat) 1).el j (0:Nat)).toS.size<=(281474976710656:Nat))/\(putD (cat (putD w ((D.l [[D.s {data:=#[(97:UInt8),(115:UInt8),(115:UInt8),(101:UInt8),(114:UInt8),(116:UInt8)]}]]).sub (0:Nat) 1)) (cW op lk ln ls ld rk rn rs rd)) ((D.l [[D.s {data:=#[(59:UInt8)]}]]).sub (0:Nat) 1)).len=(cat w (stW k nm tg ek en es ed op lk ln ls ld rk rn rs rd bd eb am)).len/\List.take (2001:Nat) (List.take (2001:Nat) (List.take (2001:Nat) (w.rows++List.map sR (wsL ((D.l [[D.s {data:=#[(97:UInt8),(115:UInt8),(115:UInt8),(101:UInt8),(114:UInt8),(116:UInt8)]}]]).sub (0:Nat) 1) ((D.l [[D.s {data:=#[(97:UInt8),(115:UInt8),(115:UInt8),(101:UInt8),(114:UInt8),(116:UInt8)]}]]).sub (0:Nat) 1).len))++List.map sR (cW op lk ln ls ld rk rn rs rd))++List.map sR (wsL ((D.l [[D.s {data:=#[(59:UInt8)]}]]).sub (0:Nat) 1) ((D.l [[D.s {data:=#[(59:UInt8)]}]]).sub (0:Nat) 1).len))=List.take (2001:Nat) (w.rows++List.map sR (stW k nm tg ek en es ed op lk ln ls ld rk rn rs rd bd eb am)))/\((k==(6:Int))=false->((k==(7:Int))=true->(0:Nat)=(0:Nat)/\w.len=w.len/\(0:Nat)+(3:Nat)<=(D.l [[D.s {data:=#[(105:UInt8),(110:UInt8),(112:UInt8),(117:UInt8),(116:UInt8)]}],[D.s nm],[D.s {data:=#[(59:UInt8)]}]]).len/\w.len<=(2001:Nat)/\((D.l [[D.s {data:=#[(105:UInt8),(110:UInt8),(112:UInt8),(117:UInt8),(116:UInt8)]}],[D.s nm],[D.s {data:=#[(59:UInt8)]}]]).sub (0:Nat) ((0:Nat)+(3:Nat))).len<=(1000:Nat)/\(∀ (j:Nat),j<((D.l [[D.s {data:=#[(105:UInt8),(110:UInt8),(112:UInt8),(117:UInt8),(116:UInt8)]}],[D.s nm],[D.s {data:=#[(59:UInt8)]}]]).sub (0:Nat) ((0:Nat)+(3:Nat))).len->(((D.l [[D.s {data:=#[(105:UInt8),(110:UInt8),(112:UInt8),(117:UInt8),(116:UInt8)]}],[D.s nm],[D.s {data:=#[(59:UInt8)]}]]).sub (0:Nat) ((0:Nat)+(3:Nat))).el j (0:Nat)).toS.size<=(281474976710656:Nat))/\(putD w ((D.l [[D.s {data:=#[(105:UInt8),(110:UInt8),(112:UInt8),(117:UInt8),(116:UInt8)]}],[D.s nm],[D.s {data:=#[(59:UInt8)]}]]).sub (0:Nat) ((0:Nat)+(3:Nat)))).len=(cat w (stW k nm tg ek en es ed op lk ln ls ld rk rn rs rd bd eb am)).len/\List.take (2001:Nat) (w.rows++List.map sR (wsL ((D.l [[D.s {data:=#[(105:UInt8),(110:UInt8),(112:UInt8),(117:UInt8),(116:UInt8)]}],[D.s nm],[D.s {data:=#[(59:UInt8)]}]]).sub (0:Nat) ((0:Nat)+(3:Nat))) ((D.l [[D.s {data:=#[(105:UInt8),(110:UInt8),(112:UInt8),(117:UInt8),(116:UInt8)]}],[D.s nm],[D.s {data:=#[(59:UInt8)]}]]).sub (0:Nat) ((0:Nat)+(3:Nat))).len))=List.take (2001:Nat) (w.rows++List.map sR (stW k nm tg ek en es ed op lk ln ls ld rk rn rs rd bd eb am)))/\((k==(7:Int))=false->w.len=(cat w (stW k nm tg ek en es ed op lk ln ls ld rk rn rs rd bd eb am)).len/\w.rows=List.take (2001:Nat) (w.rows++List.map sR (stW k nm tg ek en es ed op lk ln ls ld rk rn rs rd bd eb am)))))))))) (by kernel_rfl) ?_
  intro h1 h2 h3 hf hw
  have o1:(1:Nat)<=1000:=by decide
  unfold stmF stFF at hf
  obtain ⟨f1,f2,f3,f4,f5,f6,f7⟩:=hf
  refine ⟨fun h=>?_,fun n1=>⟨fun h=>?_,fun n2=>⟨fun h=>?_,fun n3=>⟨fun h=>?_,fun n4=>⟨fun h=>?_,fun n5=>⟨fun h=>?_,fun n6=>⟨fun h=>?_,fun n7=>?_⟩⟩⟩⟩⟩⟩⟩
  ·obtain rfl:=eq_of_beq h
   have hf:=f1 rfl
   refine ⟨rfl,rfl,Nat.le_refl _,hw,(show (2:Nat)<=1000 by omega),ok2 hf.1.z (show szz _ by unfold szz;decide),rfl,rfl,hf.2,cat_le _ _,rfl,rfl,Nat.le_refl _,cat_le _ _,o1,ok1 (by decide),eqD ?_⟩
   simp only [put1s,put2s,cat_cat]
   show cat w _=cat w (stWF 1 nm tg _ _ _ _ _ _)
   unfold stWF
   rw [if_pos rfl]
   simp only [List.cons_append,List.nil_append]
  ·obtain rfl:=eq_of_beq h
   obtain ⟨g1,g2,g3⟩:=f2 rfl
   refine ⟨rfl,rfl,Nat.le_refl _,hw,o1,ok1 (by decide),rfl,rfl,g1,cat_le _ _,rfl,rfl,h1,g2,cat_le _ _,fun hg=>⟨rfl,rfl,Nat.le_refl _,cat_le _ _,o1,ok1 (by decide),rfl,rfl,h2,g3,cat_le _ _,eqD ?_⟩,fun hg=>eqD ?_⟩
   ·simp only [put1s,cat_cat]
    show cat w _=cat w (stWF 2 nm tg _ _ _ _ _ _)
    unfold stWF
    rw [if_neg (by decide),if_pos rfl,hg,if_pos rfl]
    simp only [List.append_assoc,List.cons_append,List.nil_append]
   ·simp only [put1s,cat_cat]
    show cat w _=cat w (stWF 2 nm tg _ _ _ _ _ _)
    unfold stWF
    rw [if_neg (by decide),if_pos rfl,hg,if_neg (by decide)]
    simp only [List.cons_append,List.nil_append,List.append_nil]
  ·obtain rfl:=eq_of_beq h
   obtain ⟨g1,g2⟩:=f3 rfl
   refine ⟨rfl,rfl,Nat.le_refl _,hw,o1,ok1 (by decide),rfl,rfl,g1,cat_le _ _,rfl,rfl,h1,g2,cat_le _ _,eqD ?_⟩
   simp only [put1s,cat_cat]
   show cat w _=cat w (stWF 3 nm tg _ _ _ _ _ _)
   unfold stWF
   rw [if_neg (by decide),if_neg (by decide),if_pos rfl]
   simp only [List.cons_append,List.nil_append]
  ·obtain rfl:=eq_of_beq h
   obtain ⟨g1,g2,g3⟩:=f4 rfl
   refine ⟨rfl,rfl,Nat.le_refl _,hw,(show (5:Nat)<=1000 by omega),ok5 (show szz _ by unfold szz;decide) g1.z (show szz _ by unfold szz;decide) g2.z (show szz _ by unfold szz;decide),rfl,rfl,g3,cat_le _ _,rfl,rfl,Nat.le_refl _,cat_le _ _,(show (2:Nat)<=1000 by omega),ok2 (show szz _ by unfold szz;decide) (show szz _ by unfold szz;decide),eqD ?_⟩
   simp only [put2s,put5s,cat_cat]
   show cat w _=cat w (stWF 4 nm tg _ _ _ _ _ _)
   unfold stWF
   rw [if_neg (by decide),if_neg (by decide),if_neg (by decide),if_pos rfl]
   simp only [List.cons_append,List.nil_append]
  ·obtain rfl:=eq_of_beq h
   obtain ⟨g1,g2⟩:=f5 rfl
   refine ⟨rfl,rfl,Nat.le_refl _,hw,(show (3:Nat)<=1000 by omega),ok3 (show szz _ by unfold szz;decide) g1.z (show szz _ by unfold szz;decide),?_⟩
   refine ⟨⟨0,Nat.zero_le _,rfl,rfl,rfl,eqD ?_⟩,fun i hi=>⟨fun hl=>?_,fun hl=>?_⟩⟩
   ·rw [put3s];rfl
   ·have hl:=of_decide_eq_true hl
    have hi2:i<am.len:=by omega
    have hb:=g2.1
    have hw2:IntKind.i64.wrap ((i:Int)+1)=((i+1:Nat):Int):=by rw [IntWalk.i64_in _ (by omega)];omega
    obtain ⟨s1,s2,s3⟩:=g2.2 i hi2
    have z:=lel_lt (j:=2) hi2
    refine ⟨⟨by omega,by omega⟩,rfl,rfl,Nat.le_refl _,cat_le _ _,(show (4:Nat)<=1000 by omega),ok4 s1.z (show szz _ by unfold szz;decide) s2.z (show szz _ by unfold szz;decide),rfl,rfl,(show SizeOf.sizeOf (am.el i 2)<m by omega),s3,cat_le _ _,i+1,hi2,by omega,hw2,rfl,rfl,eqD ?_⟩
    rw [put4s,cat_cat,cat_cat,catTo_succ,List.append_assoc];rfl
   ·have hl:=of_decide_eq_false hl
    have hi3:i=am.len:=by have:i<=am.len:=hi;omega
    refine ⟨rfl,rfl,Nat.le_refl _,cat_le _ _,o1,ok1 (by decide),eqD ?_⟩
    rw [hi3]
    simp only [put1s,cat_cat]
    show cat w _=cat w (stWF 5 nm tg _ _ _ _ _ _)
    unfold stWF
    rw [if_neg (by decide),if_neg (by decide),if_neg (by decide),if_neg (by decide),if_pos rfl]
    simp only [List.cons_append,List.nil_append]
  ·obtain rfl:=eq_of_beq h
   have g1:=f6 rfl
   refine ⟨rfl,rfl,Nat.le_refl _,hw,o1,ok1 (by decide),rfl,rfl,g1,cat_le _ _,rfl,rfl,Nat.le_refl _,cat_le _ _,o1,ok1 (by decide),eqD ?_⟩
   simp only [put1s,cat_cat]
   show cat w _=cat w (stWF 6 nm tg _ _ _ _ _ _)
   unfold stWF
   rw [if_neg (by decide),if_neg (by decide),if_neg (by decide),if_neg (by decide),if_neg (by decide),if_pos rfl]
   simp only [List.cons_append,List.nil_append]
  ·obtain rfl:=eq_of_beq h
   have g1:=f7 rfl
   refine ⟨rfl,rfl,Nat.le_refl _,hw,(show (3:Nat)<=1000 by omega),ok3 (show szz _ by unfold szz;decide) g1.z (show szz _ by unfold szz;decide),eqD ?_⟩
   simp only [put3s]
   show cat w _=cat w (stWF 7 nm tg _ _ _ _ _ _)
   unfold stWF
   rw [if_neg (by decide),if_neg (by decide),if_neg (by decide),if_neg (by decide),if_neg (by decide),if_neg (by decide),if_pos rfl]
  ·have e:stW k nm tg ek en es ed op lk ln ls ld rk rn rs rd bd eb am=[]:=by
    unfold stW stWF
    rw [if_neg (ne_of_beq_false n1),if_neg (ne_of_beq_false n2),if_neg (ne_of_beq_false n3),if_neg (ne_of_beq_false n4),if_neg (ne_of_beq_false n5),if_neg (ne_of_beq_false n6),if_neg (ne_of_beq_false n7)]
   rw [e]
   exact cat_nil hw
 ·trivial
theorem lwr_step (m:Nat) (ih:ConOK Tryz.prog 72 (conM 96 [.own 9] [lBo] (lwrSu m))):ConOK Tryz.prog 72 (conM 96 [.own 9] [lBo] (lwrSu (m+1))):=by
 refine fn_obM tt_ok mixed Tryz.func72 rfl (fun _ _=>by kernel_rfl) (A:=fun ds=>⟨fun _=>Cons.of [(92,(stwC m))],fun k=>match k,ds with | 1,[.d w,.d d]=>some {ι:=Nat,pre:=fun _ i=>i<=d.len,μ:=fun i=>d.len-i,st:=fun s i=>famR s [(8,.one (.sc (.int .i64 (.sym ((i:Int))))))] [0,6,7] [(0,.own 96 ([.c (.osl 9 1 (.lit 0) (.sym (cat w (catTo i (stWE d))).len))])),(1,.orow 9 (cat w (catTo i (stWE d))))] []} |_,_=>none,fun _=>none⟩) (fun _ _=>(cons_cons (stw_ok ih) cons_nil)) (by kernel_rfl) ?_
 intro ds
 unfold lwrSu
 split
 ·rename_i w d
  refine kmp (q:=SizeOf.sizeOf d<m+(1:Nat)->bF d->w.len<=(2001:Nat)->(∃ (i:Nat),i.le d.len/\(0:Int)=(↑i:Int)/\d.rows=d.rows/\(↑d.len:Int)=(↑d.len:Int)/\w.len=(cat w (catTo i (stWE d))).len/\w.rows=List.take (2001:Nat) (w.rows++List.map sR (catTo i (stWE d))))/\∀ (i:Nat),i.le d.len->(decide ((↑i:Int)<(↑d.len:Int))=true->((0:Int)<=(↑i:Int)/\(↑i:Int)<(↑d.len:Int))/\(0:Nat)=(0:Nat)/\(cat w (catTo i (stWE d))).len=(cat w (catTo i (stWE d))).len/\SizeOf.sizeOf (d.el (↑i:Int).toNat 16)<m/\SizeOf.sizeOf (d.el (↑i:Int).toNat 17)<m/\SizeOf.sizeOf (d.el (↑i:Int).toNat 18)<m/\stmF (d.el (↑i:Int).toNat (0:Nat)).toI (d.el (↑i:Int).toNat 1).toS (d.el (↑i:Int).toNat 2).toS (d.el (↑i:Int).toNat 3).toI (d.el (↑i:Int).toNat 4).toI (d.el (↑i:Int).toNat 5).toS (d.el (↑i:Int).toNat 6) (d.el (↑i:Int).toNat 7).toI (d.el (↑i:Int).toNat 8).toI (d.el (↑i:Int).toNat 9).toI (d.el (↑i:Int).toNat 10).toS (d.el (↑i:Int).toNat 11) (d.el (↑i:Int).toNat 12).toI (d.el (↑i:Int).toNat 13).toI (d.el (↑i:Int).toNat 14).toS (d.el (↑i:Int).toNat 15) (d.el (↑i:Int).toNat 16) (d.el (↑i:Int).toNat 17) (d.el (↑i:Int).toNat 18)/\(cat w (catTo i (stWE d))).len<=(2001:Nat)/\∃ (j:Nat),j.le d.len/\d.len-j<d.len-i/\IntKind.i64.wrap ((↑i:Int)+(1:Int))=(↑j:Int)/\d.rows=d.rows/\(↑d.len:Int)=(↑d.len:Int)/\(cat (cat w (catTo i (stWE d))) (stW (d.el (↑i:Int).toNat (0:Nat)).toI (d.el (↑i:Int).toNat 1).toS (d.el (↑i:Int).toNat 2).toS (d.el (↑i:Int).toNat 3).toI (d.el (↑i:Int).toNat 4).toI (d.el (↑i:Int).toNat 5).toS (d.el (↑i:Int).toNat 6) (d.el (↑i:Int).toNat 7).toI (d.el (↑i:Int).toNat 8).toI (d.el (↑i:Int).toNat 9).toI (d.el (↑i:Int).toNat 10).toS (d.el (↑i:Int).toNat 11) (d.el (↑i:Int).toNat 12).toI (d.el (↑i:Int).toNat 13).toI (d.el (↑i:Int).toNat 14).toS (d.el (↑i:Int).toNat 15) (d.el (↑i:Int).toNat 16) (d.el (↑i:Int).toNat 17) (d.el (↑i:Int).toNat 18))).len=(cat w (catTo j (stWE d))).len/\List.take (2001:Nat) (List.take (2001:Nat) (w.rows++List.map sR (catTo i (stWE d)))++List.map sR (stW (d.el (↑i:Int).toNat (0:Nat)).toI (d.el (↑i:Int).toNat 1).toS (d.el (↑i:Int).toNat 2).toS (d.el (↑i:Int).toNat 3).toI (d.el (↑i:Int).toNat 4).toI (d.el (↑i:Int).toNat 5).toS (d.el (↑i:Int).toNat 6) (d.el (↑i:Int).toNat 7).toI (d.el (↑i:Int).toNat 8).toI (d.el (↑i:Int).toNat 9).toI (d.el (↑i:Int).toNat 10).toS (d.el (↑i:Int).toNat 11) (d.el (↑i:Int).toNat 12).toI (d.el (↑i:Int).toNat 13).toI (d.el (↑i:Int).toNat 14).toS (d.el (↑i:Int).toNat 15) (d.el (↑i:Int).toNat 16) (d.el (↑i:Int).toNat 17) (d.el (↑i:Int).toNat 18)))=List.take (2001:Nat) (w.rows++List.map sR (catTo j (stWE d))))/\(decide ((↑i:Int)<(↑d.len:Int))=false->(cat w (catTo i (stWE d))).len=(cat w (bW d)).len/\List.take (2001:Nat) (w.rows++List.map sR (catTo i (stWE d)))=List.take (2001:Nat) (w.rows++List.map sR (bW d)))) (by kernel_rfl) ?_
  intro hm hf hw
  rw [bF_iff] at hf
  rw [bW_eq]
  refine ⟨⟨0,Nat.zero_le _,rfl,rfl,rfl,cat_nil hw⟩,fun i hi=>⟨fun hl=>?_,fun hl=>?_⟩⟩
  ·have hl:=of_decide_eq_true hl
   have hi2:i<d.len:=by omega
   have hb:=hf.1
   have hw2:IntKind.i64.wrap ((i:Int)+1)=((i+1:Nat):Int):=by rw [IntWalk.i64_in _ (by omega)];omega
   have z1:=lel_lt (j:=16) hi2
   have z2:=lel_lt (j:=17) hi2
   have z3:=lel_lt (j:=18) hi2
   refine ⟨⟨by omega,by omega⟩,rfl,rfl,(show SizeOf.sizeOf (d.el i 16)<m by omega),(show SizeOf.sizeOf (d.el i 17)<m by omega),(show SizeOf.sizeOf (d.el i 18)<m by omega),hf.2 i hi2,cat_le _ _,i+1,hi2,by omega,hw2,rfl,rfl,eqD ?_⟩
   rw [cat_cat,catTo_succ];rfl
  ·have hl:=of_decide_eq_false hl
   have hi3:i=d.len:=by have:i<=d.len:=hi;omega
   rw [hi3]
   exact ⟨rfl,rfl⟩
 ·trivial
theorem lwr_ok:ConOK Tryz.prog 72 lwrC:=
 conM_rec lwrM (fun _ _=>by kernel_rfl) fun m ih=>by
  rw [lwr_under] at ih ⊢
  exact lwr_step m ih
end Go.Proofs.YthpponmbpoaffaaGreatDoor.Sx.Z
