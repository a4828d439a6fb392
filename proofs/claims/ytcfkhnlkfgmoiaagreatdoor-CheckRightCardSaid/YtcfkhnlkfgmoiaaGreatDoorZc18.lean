import Derived.Test.YtcfkhnlkfgmoiaaGreatDoorZc17
import Derived.Test.YtcfkhnlkfgmoiaaGreatDoorZc13
set_option linter.unusedVariables false
set_option linter.unusedSimpArgs false
namespace Go.Proofs.YtcfkhnlkfgmoiaaGreatDoor.Sx.Z
open Go.RowKit
theorem eqDx {a b:D} {p:Prop} (h:a=b) (hp:p):a.len=b.len/\a.rows=b.rows/\p:=by rw [h];exact ⟨rfl,rfl,hp⟩
def lPr:AP:=.agg [.c .str,.c (.rows 9),.c (.rows 193)]
def tgW (tg:D) (i:Nat):List ByteArray:=if i>0 then [⟨#[44]⟩,(tg.el i 0).toS] else [(tg.el i 0).toS]
def chWd (nm:ByteArray) (k n:Int) (f t:ByteArray) (tg:D):List ByteArray:=[⟨#[99,104,97,110]⟩,nm,chW k,itW n,⟨#[102,114,111,109]⟩,f,⟨#[116,111]⟩,t,⟨#[123]⟩]++(catTo tg.len (tgW tg)++[⟨#[125]⟩,⟨#[59]⟩])
def mvW (mv:D) (i:Nat):List ByteArray:=[itW (mv.el i 0).toI,(mv.el i 1).toS,itW (mv.el i 2).toI,⟨#[59]⟩]
def ruWd (nm:ByteArray) (mv:D):List ByteArray:=[⟨#[114,117,108,101]⟩,nm,⟨#[123]⟩]++(catTo mv.len (mvW mv)++[⟨#[125]⟩])
def vaW (vs:D) (i:Nat):List ByteArray:=[⟨#[118,97,114]⟩,(vs.el i 0).toS,⟨#[59]⟩]
def prWd (nm:ByteArray) (vs bd:D):List ByteArray:=[⟨#[112,114,111,99]⟩,nm,⟨#[123]⟩]++(catTo vs.len (vaW vs)++(bW bd++[⟨#[125]⟩]))
def chWE (d:D) (i:Nat):List ByteArray:=chWd (d.el i 0).toS (d.el i 1).toI (d.el i 2).toI (d.el i 3).toS (d.el i 4).toS (d.el i 5)
def ruWE (d:D) (i:Nat):List ByteArray:=ruWd (d.el i 0).toS (d.el i 1)
def prWE (d:D) (i:Nat):List ByteArray:=prWd (d.el i 0).toS (d.el i 1) (d.el i 2)
def syW (ch ru pr:D):List ByteArray:=catTo ch.len (chWE ch)++(catTo ru.len (ruWE ru)++catTo pr.len (prWE pr))
def sm (n:Int):Prop:=nI n
theorem itW_z {n:Int} (h:sm n):szz (itW n):=Nat.le_trans (itW_size h) (by decide)
def chF (nm:ByteArray) (n:Int) (f t:ByteArray) (tg:D):Prop:=sz nm/\sm n/\sz f/\sz t/\tg.len<=10000000000000/\∀ i,i<tg.len->sz (tg.el i 0).toS
def ruF (nm:ByteArray) (mv:D):Prop:=sz nm/\mv.len<=10000000000000/\∀ i,i<mv.len->sm (mv.el i 0).toI/\sz (mv.el i 1).toS/\sm (mv.el i 2).toI
def prcF (nm:ByteArray) (vs bd:D):Prop:=sz nm/\vs.len<=10000000000000/\(∀ i,i<vs.len->sz (vs.el i 0).toS)/\bF bd
structure SyF (ch ru pr:D):Prop where
 c:∀ i,i<ch.len->chF (ch.el i 0).toS (ch.el i 2).toI (ch.el i 3).toS (ch.el i 4).toS (ch.el i 5)
 r:∀ i,i<ru.len->ruF (ru.el i 0).toS (ru.el i 1)
 p:∀ i,i<pr.len->prcF (pr.el i 0).toS (pr.el i 1) (pr.el i 2)
noncomputable def chxS:List Dat->Option (Eff × List Seg):=fun ds=>match ds with
 | [.d w,.s nm,.i k,.i n,.s f,.s t,.d tg]=>some ({val:=.tup [],vc:=[chF nm n f t tg,w.len<=2001],nw:=[(0,.orow 9 (cat w (chWd nm k n f t tg)))]},[.c (.osl 9 0 (.lit 0) (.sym (cat w (chWd nm k n f t tg)).len))])
 |_=>none
noncomputable def chxC:Con:=conM 174 [.own 9] [lCh] chxS
theorem chx_ok:ConOK Tryz.prog 98 chxC:=by
 refine fn_obM tt_ok mixed Tryz.func98 rfl (fun _ _=>by kernel_rfl) (A:=fun ds=>⟨fun _=>Cons.of [(136,putC),(138,itC),(137,chwC)],fun k=>match k,ds with | 4,[.d w,.s nm,.i k,.i n,.s f,.s t,.d tg]=>some {ι:=Nat,pre:=fun _ i=>i<=tg.len,μ:=fun i=>tg.len-i,st:=fun s i=>famR s [(27,.one (.sc (.int .i64 (.sym ((i:Int))))))] [0,25,26] [(0,.own 174 ([.c (.osl 9 1 (.lit 0) (.sym (cat w ([⟨#[99,104,97,110]⟩,nm,chW k,itW n,⟨#[102,114,111,109]⟩,f,⟨#[116,111]⟩,t,⟨#[123]⟩]++catTo i (tgW tg))).len))])),(1,.orow 9 (cat w ([⟨#[99,104,97,110]⟩,nm,chW k,itW n,⟨#[102,114,111,109]⟩,f,⟨#[116,111]⟩,t,⟨#[123]⟩]++catTo i (tgW tg))))] []} |_,_=>none,fun _=>none⟩) (fun _ _=>(cons_cons put_ok (cons_cons it_ok (cons_cons chw_ok cons_nil)))) (by kernel_rfl) ?_
 intro ds;unfold chxS;split
 ·rename_i w nm k n f t tg
  refine kmp (q:=withv (fun (i:Nat)=>cat w ([{data:=#[(99:UInt8),(104:UInt8),(97:UInt8),(110:UInt8)]},nm,chW k,itW n,{data:=#[(102:UInt8),(114:UInt8),(111:UInt8),(109:UInt8)]},f,{data:=#[(116:UInt8),(111:UInt8)]},t,{data:=#[(123:UInt8)]}]++catTo i (tgW tg))) fun E90=>withv ((D.l [[D.s {data:=#[(99:UInt8),(104:UInt8),(97:UInt8),(110:UInt8)]}],[D.s nm],[D.s (chW k)],[D.s (itW n)]]).sub (0:Nat) ((0:Nat)+(4:Nat))) fun E91=>withv ((D.l [[D.s {data:=#[(102:UInt8),(114:UInt8),(111:UInt8),(109:UInt8)]}],[D.s f],[D.s {data:=#[(116:UInt8),(111:UInt8)]}],[D.s t],[D.s {data:=#[(123:UInt8)]}]]).sub (0:Nat) ((0:Nat)+(5:Nat))) fun E92=>withv (fun (i:Nat)=>(D.l [[D.s (tg.el (i:Int).toNat 0).toS]]).sub (0:Nat) 1) fun E93=>withv (fun (i:Nat)=>w.rows++List.map sR ([{data:=#[(99:UInt8),(104:UInt8),(97:UInt8),(110:UInt8)]},nm,chW k,itW n,{data:=#[(102:UInt8),(114:UInt8),(111:UInt8),(109:UInt8)]},f,{data:=#[(116:UInt8),(111:UInt8)]},t,{data:=#[(123:UInt8)]}]++catTo i (tgW tg))) fun E94=>withv ((D.l [[D.s {data:=#[(44:UInt8)]}]]).sub (0:Nat) 1) fun E95=>withv ((D.l [[D.s {data:=#[(125:UInt8)]}],[D.s {data:=#[(59:UInt8)]}]]).sub (0:Nat) ((0:Nat)+(2:Nat))) fun E96=>withv (fun (j:Nat)=>w.rows++List.map sR ([{data:=#[(99:UInt8),(104:UInt8),(97:UInt8),(110:UInt8)]},nm,chW k,itW n,{data:=#[(102:UInt8),(114:UInt8),(111:UInt8),(109:UInt8)]},f,{data:=#[(116:UInt8),(111:UInt8)]},t,{data:=#[(123:UInt8)]}]++catTo j (tgW tg))) fun E97=>withv (fun (j:Nat)=>cat w ([{data:=#[(99:UInt8),(104:UInt8),(97:UInt8),(110:UInt8)]},nm,chW k,itW n,{data:=#[(102:UInt8),(114:UInt8),(111:UInt8),(109:UInt8)]},f,{data:=#[(116:UInt8),(111:UInt8)]},t,{data:=#[(123:UInt8)]}]++catTo j (tgW tg))) fun E98=>chF nm n f t tg->w.len<=2001->nI n/\(0:Nat)=(0:Nat)/\w.len=w.len/\(0:Nat)+(4:Nat)<=(D.l [[D.s {data:=#[(99:UInt8),(104:UInt8),(97:UInt8),(110:UInt8)]}],[D.s nm],[D.s (chW k)],[D.s (itW n)]]).len/\w.len<=2001/\E91.len<=1000/\(∀ (j:Nat),j<E91.len->(E91.el j 0).toS.size<=281474976710656)/\(0:Nat)=(0:Nat)/\(putD w E91).len=(putD w E91).len/\(0:Nat)+(5:Nat)<=(D.l [[D.s {data:=#[(102:UInt8),(114:UInt8),(111:UInt8),(109:UInt8)]}],[D.s f],[D.s {data:=#[(116:UInt8),(111:UInt8)]}],[D.s t],[D.s {data:=#[(123:UInt8)]}]]).len/\(putD w E91).len<=2001/\E92.len<=1000/\(∀ (j:Nat),j<E92.len->(E92.el j 0).toS.size<=281474976710656)/\(∃ (i:Nat),i.le tg.len/\(0:Int)=(i:Int)/\tg.rows=tg.rows/\(tg.len:Int)=(tg.len:Int)/\(putD (putD w E91) E92).len=(E90 i).len/\List.take (2001:Nat) (List.take (2001:Nat) (w.rows++List.map sR (wsL E91 E91.len))++List.map sR (wsL E92 E92.len))=List.take (2001:Nat) (E94 i))/\∀ (i:Nat),i.le tg.len->(decide ((i:Int)<(tg.len:Int))=true->((0:Int)<=(i:Int)/\(i:Int)<(tg.len:Int))/\(decide ((i:Int)>(0:Int))=true->(0:Nat)=(0:Nat)/\(E90 i).len=(E90 i).len/\(0:Nat)+(1:Nat)<=(D.l [[D.s {data:=#[(44:UInt8)]}]]).len/\(E90 i).len<=2001/\E95.len<=1000/\(∀ (j:Nat),j<E95.len->(E95.el j 0).toS.size<=281474976710656)/\(0:Nat)=(0:Nat)/\(putD (E90 i) E95).len=(putD (E90 i) E95).len/\(0:Nat)+(1:Nat)<=(D.l [[D.s (tg.el (i:Int).toNat 0).toS]]).len/\(putD (E90 i) E95).len<=2001/\(E93 i).len<=1000/\(∀ (j:Nat),j<(E93 i).len->((E93 i).el j 0).toS.size<=281474976710656)/\∃ (j:Nat),j.le tg.len/\tg.len-j<tg.len-i/\IntKind.i64.wrap ((i:Int)+(1:Int))=(j:Int)/\tg.rows=tg.rows/\(tg.len:Int)=(tg.len:Int)/\(putD (putD (E90 i) E95) (E93 i)).len=(E98 j).len/\List.take (2001:Nat) (List.take (2001:Nat) (List.take (2001:Nat) (E94 i)++List.map sR (wsL E95 E95.len))++List.map sR (wsL (E93 i) (E93 i).len))=List.take (2001:Nat) (E97 j))/\(decide ((i:Int)>(0:Int))=false->(0:Nat)=(0:Nat)/\(E90 i).len=(E90 i).len/\(0:Nat)+(1:Nat)<=(D.l [[D.s (tg.el (i:Int).toNat 0).toS]]).len/\(E90 i).len<=2001/\(E93 i).len<=1000/\(∀ (j:Nat),j<(E93 i).len->((E93 i).el j 0).toS.size<=281474976710656)/\∃ (j:Nat),j.le tg.len/\tg.len-j<tg.len-i/\IntKind.i64.wrap ((i:Int)+(1:Int))=(j:Int)/\tg.rows=tg.rows/\(tg.len:Int)=(tg.len:Int)/\(putD (E90 i) (E93 i)).len=(E98 j).len/\List.take (2001:Nat) (List.take (2001:Nat) (E94 i)++List.map sR (wsL (E93 i) (E93 i).len))=List.take (2001:Nat) (E97 j)))/\(decide ((i:Int)<(tg.len:Int))=false->(0:Nat)=(0:Nat)/\(E90 i).len=(E90 i).len/\(0:Nat)+(2:Nat)<=(D.l [[D.s {data:=#[(125:UInt8)]}],[D.s {data:=#[(59:UInt8)]}]]).len/\(E90 i).len<=2001/\E96.len<=1000/\(∀ (j:Nat),j<E96.len->(E96.el j 0).toS.size<=281474976710656)/\(putD (E90 i) E96).len=(cat w (chWd nm k n f t tg)).len/\List.take (2001:Nat) (List.take (2001:Nat) (E94 i)++List.map sR (wsL E96 E96.len))=List.take (2001:Nat) (w.rows++List.map sR (chWd nm k n f t tg)))) (by kernel_rfl) ?_
  dsimp +instances only [withv]
  intro hf hw;have o1:(1:Nat)<=1000:=by decide
  obtain ⟨h1,h2,h3,h4,h5,h6⟩:=hf;refine ⟨h2,rfl,rfl,Nat.le_refl _,hw,(show (4:Nat)<=1000 by omega),ok4 (show szz _ by unfold szz;decide) h1.z (show szz _ by have:=chW_size k;unfold szz;omega) (itW_z h2),rfl,rfl,Nat.le_refl _,cat_le _ _,(show (5:Nat)<=1000 by omega),ok5 (show szz _ by unfold szz;decide) h3.z (show szz _ by unfold szz;decide) h4.z (show szz _ by unfold szz;decide),?_⟩;refine ⟨⟨0,Nat.zero_le _,rfl,rfl,rfl,eqD ?_⟩,fun i hi=>⟨fun hl=>?_,fun hl=>?_⟩⟩
  ·simp only [put1s,put2s,put3s,put4s,put5s,cat_cat]<;>rfl
  ·have hl:=of_decide_eq_true hl;have hi2:i<tg.len:=by omega
   have hb:=h5;have hw2:IntKind.i64.wrap ((i:Int)+1)=((i+1:Nat):Int):=by rw [IntWalk.i64_in _ (by omega)];omega
   have z:=h6 i hi2;refine ⟨⟨by omega,by omega⟩,fun hg=>⟨rfl,rfl,Nat.le_refl _,cat_le _ _,o1,ok1 (by decide),rfl,rfl,Nat.le_refl _,cat_le _ _,o1,ok1 z.z,i+1,hi2,by omega,hw2,rfl,rfl,eqD ?_⟩,fun hg=>⟨rfl,rfl,Nat.le_refl _,cat_le _ _,o1,ok1 z.z,i+1,hi2,by omega,hw2,rfl,rfl,eqD ?_⟩⟩
   ·have e:tgW tg i=[⟨#[44]⟩,(tg.el i 0).toS]:=if_pos (by have:=of_decide_eq_true hg;omega);simp only [put1s,put2s,put3s,put4s,put5s,cat_cat,catTo_succ,e,List.append_assoc]<;>rfl
   ·have e:tgW tg i=[(tg.el i 0).toS]:=if_neg (by have:=of_decide_eq_false hg;omega);simp only [put1s,put2s,put3s,put4s,put5s,cat_cat,catTo_succ,e,List.append_assoc]<;>rfl
  ·have hl:=of_decide_eq_false hl;have hi3:i=tg.len:=by have:i<=tg.len:=hi;omega
   subst hi3;refine ⟨rfl,rfl,Nat.le_refl _,cat_le _ _,(show (2:Nat)<=1000 by omega),ok2 (show szz _ by unfold szz;decide) (show szz _ by unfold szz;decide),eqD ?_⟩;unfold chWd;simp only [put1s,put2s,put3s,put4s,put5s,cat_cat,List.append_assoc]<;>rfl
 ·trivial
noncomputable def ruxS:List Dat->Option (Eff × List Seg):=fun ds=>match ds with
 | [.d w,.s nm,.d mv]=>some ({val:=.tup [],vc:=[ruF nm mv,w.len<=2001],nw:=[(0,.orow 9 (cat w (ruWd nm mv)))]},[.c (.osl 9 0 (.lit 0) (.sym (cat w (ruWd nm mv)).len))])
 |_=>none
noncomputable def ruxC:Con:=conM 174 [.own 9] [lRu] ruxS
theorem rux_ok:ConOK Tryz.prog 99 ruxC:=by
 refine fn_obM tt_ok mixed Tryz.func99 rfl (fun _ _=>by kernel_rfl) (A:=fun ds=>⟨fun _=>Cons.of [(136,putC),(138,itC)],fun k=>match k,ds with | 3,[.d w,.s nm,.d mv]=>some {ι:=Nat,pre:=fun _ i=>i<=mv.len,μ:=fun i=>mv.len-i,st:=fun s i=>famR s [(14,.one (.sc (.int .i64 (.sym ((i:Int))))))] [0,12,13] [(0,.own 174 ([.c (.osl 9 1 (.lit 0) (.sym (cat w ([⟨#[114,117,108,101]⟩,nm,⟨#[123]⟩]++catTo i (mvW mv))).len))])),(1,.orow 9 (cat w ([⟨#[114,117,108,101]⟩,nm,⟨#[123]⟩]++catTo i (mvW mv))))] []} |_,_=>none,fun _=>none⟩) (fun _ _=>(cons_cons put_ok (cons_cons it_ok cons_nil))) (by kernel_rfl) ?_
 intro ds;unfold ruxS;split
 ·rename_i w nm mv;refine kmp (q:=withv (fun (i:Nat)=>D.l [[D.s (itW (mv.el (i:Int).toNat 0).toI)],[D.s (mv.el (i:Int).toNat 1).toS],[D.s (itW (mv.el (i:Int).toNat 2).toI)],[D.s {data:=#[(59:UInt8)]}]]) fun E99=>withv (fun (i:Nat)=>cat w ([{data:=#[(114:UInt8),(117:UInt8),(108:UInt8),(101:UInt8)]},nm,{data:=#[(123:UInt8)]}]++catTo i (mvW mv))) fun E100=>withv ((D.l [[D.s {data:=#[(114:UInt8),(117:UInt8),(108:UInt8),(101:UInt8)]}],[D.s nm],[D.s {data:=#[(123:UInt8)]}]]).sub (0:Nat) ((0:Nat)+(3:Nat))) fun E101=>withv ((D.l [[D.s {data:=#[(125:UInt8)]}]]).sub (0:Nat) 1) fun E102=>withv (fun (i:Nat)=>w.rows++List.map sR ([{data:=#[(114:UInt8),(117:UInt8),(108:UInt8),(101:UInt8)]},nm,{data:=#[(123:UInt8)]}]++catTo i (mvW mv))) fun E103=>withv (fun (i:Nat)=>(E99 i).sub (0:Nat) ((0:Nat)+(4:Nat))) fun E104=>ruF nm mv->w.len<=2001->(0:Nat)=(0:Nat)/\w.len=w.len/\(0:Nat)+(3:Nat)<=(D.l [[D.s {data:=#[(114:UInt8),(117:UInt8),(108:UInt8),(101:UInt8)]}],[D.s nm],[D.s {data:=#[(123:UInt8)]}]]).len/\w.len<=2001/\E101.len<=1000/\(∀ (j:Nat),j<E101.len->(E101.el j 0).toS.size<=281474976710656)/\(∃ (i:Nat),i.le mv.len/\(0:Int)=(i:Int)/\mv.rows=mv.rows/\(mv.len:Int)=(mv.len:Int)/\(putD w E101).len=(E100 i).len/\List.take (2001:Nat) (w.rows++List.map sR (wsL E101 E101.len))=List.take (2001:Nat) (E103 i))/\∀ (i:Nat),i.le mv.len->(decide ((i:Int)<(mv.len:Int))=true->((0:Int)<=(i:Int)/\(i:Int)<(mv.len:Int))/\nI (mv.el (i:Int).toNat 0).toI/\nI (mv.el (i:Int).toNat 2).toI/\(0:Nat)=(0:Nat)/\(E100 i).len=(E100 i).len/\(0:Nat)+(4:Nat)<=(E99 i).len/\(E100 i).len<=2001/\(E104 i).len<=1000/\(∀ (j:Nat),j<(E104 i).len->((E104 i).el j 0).toS.size<=281474976710656)/\∃ (j:Nat),j.le mv.len/\mv.len-j<mv.len-i/\IntKind.i64.wrap ((i:Int)+(1:Int))=(j:Int)/\mv.rows=mv.rows/\(mv.len:Int)=(mv.len:Int)/\(putD (E100 i) (E104 i)).len=(cat w ([{data:=#[(114:UInt8),(117:UInt8),(108:UInt8),(101:UInt8)]},nm,{data:=#[(123:UInt8)]}]++catTo j (mvW mv))).len/\List.take (2001:Nat) (List.take (2001:Nat) (E103 i)++List.map sR (wsL (E104 i) (E104 i).len))=List.take (2001:Nat) (w.rows++List.map sR ([{data:=#[(114:UInt8),(117:UInt8),(108:UInt8),(101:UInt8)]},nm,{data:=#[(123:UInt8)]}]++catTo j (mvW mv))))/\(decide ((i:Int)<(mv.len:Int))=false->(0:Nat)=(0:Nat)/\(E100 i).len=(E100 i).len/\(0:Nat)+(1:Nat)<=(D.l [[D.s {data:=#[(125:UInt8)]}]]).len/\(E100 i).len<=2001/\E102.len<=1000/\(∀ (j:Nat),j<E102.len->(E102.el j 0).toS.size<=281474976710656)/\(putD (E100 i) E102).len=(cat w (ruWd nm mv)).len/\List.take (2001:Nat) (List.take (2001:Nat) (E103 i)++List.map sR (wsL E102 E102.len))=List.take (2001:Nat) (w.rows++List.map sR (ruWd nm mv)))) (by kernel_rfl) ?_
  dsimp +instances only [withv]
  intro hf hw;have o1:(1:Nat)<=1000:=by decide
  obtain ⟨h1,h2,h3⟩:=hf;refine ⟨rfl,rfl,Nat.le_refl _,hw,(show (3:Nat)<=1000 by omega),ok3 (show szz _ by unfold szz;decide) h1.z (show szz _ by unfold szz;decide),?_⟩;refine ⟨⟨0,Nat.zero_le _,rfl,rfl,rfl,eqD ?_⟩,fun i hi=>⟨fun hl=>?_,fun hl=>?_⟩⟩
  ·simp only [put1s,put2s,put3s,put4s,put5s,cat_cat]<;>rfl
  ·have hl:=of_decide_eq_true hl;have hi2:i<mv.len:=by omega
   have hb:=h2;have hw2:IntKind.i64.wrap ((i:Int)+1)=((i+1:Nat):Int):=by rw [IntWalk.i64_in _ (by omega)];omega
   obtain ⟨z1,z2,z3⟩:=h3 i hi2;refine ⟨⟨by omega,by omega⟩,z1,z3,rfl,rfl,Nat.le_refl _,cat_le _ _,(show (4:Nat)<=1000 by omega),ok4 (itW_z z1) z2.z (itW_z z3) (show szz _ by unfold szz;decide),i+1,hi2,by omega,hw2,rfl,rfl,eqD ?_⟩;simp only [put1s,put2s,put3s,put4s,put5s,cat_cat,catTo_succ,List.append_assoc]<;>rfl
  ·have hl:=of_decide_eq_false hl;have hi3:i=mv.len:=by have:i<=mv.len:=hi;omega
   subst hi3;refine ⟨rfl,rfl,Nat.le_refl _,cat_le _ _,o1,ok1 (by decide),eqD ?_⟩;unfold ruWd;simp only [put1s,put2s,put3s,put4s,put5s,cat_cat,List.append_assoc]<;>rfl
 ·trivial
noncomputable def prxS:List Dat->Option (Eff × List Seg):=fun ds=>match ds with
 | [.d w,.s nm,.d vs,.d bd]=>some ({val:=.tup [],vc:=[prcF nm vs bd,w.len<=2001],nw:=[(0,.orow 9 (cat w (prWd nm vs bd)))]},[.c (.osl 9 0 (.lit 0) (.sym (cat w (prWd nm vs bd)).len))])
 |_=>none
noncomputable def prxC:Con:=conM 174 [.own 9] [lPr] prxS
theorem prx_ok:ConOK Tryz.prog 100 prxC:=by
 refine fn_obM tt_ok mixed Tryz.func100 rfl (fun _ _=>by kernel_rfl) (A:=fun ds=>⟨fun _=>Cons.of [(136,putC),(139,lwrC)],fun k=>match k,ds with | 3,[.d w,.s nm,.d vs,.d bd]=>some {ι:=Nat,pre:=fun _ i=>i<=vs.len,μ:=fun i=>vs.len-i,st:=fun s i=>famR s [(14,.one (.sc (.int .i64 (.sym ((i:Int))))))] [0,3,12,13] [(0,.own 174 ([.c (.osl 9 1 (.lit 0) (.sym (cat w ([⟨#[112,114,111,99]⟩,nm,⟨#[123]⟩]++catTo i (vaW vs))).len))])),(1,.orow 9 (cat w ([⟨#[112,114,111,99]⟩,nm,⟨#[123]⟩]++catTo i (vaW vs))))] [3]} |_,_=>none,fun _=>none⟩) (fun _ _=>(cons_cons put_ok (cons_cons lwr_ok cons_nil))) (by kernel_rfl) ?_
 intro ds;unfold prxS;split
 ·rename_i w nm vs bd;refine kmp (q:=withv (fun (i:Nat)=>cat w ([{data:=#[(112:UInt8),(114:UInt8),(111:UInt8),(99:UInt8)]},nm,{data:=#[(123:UInt8)]}]++catTo i (vaW vs))) fun E105=>withv (fun (i:Nat)=>(D.l [[D.s {data:=#[(118:UInt8),(97:UInt8),(114:UInt8)]}],[D.s (vs.el (i:Int).toNat 0).toS],[D.s {data:=#[(59:UInt8)]}]]).sub (0:Nat) ((0:Nat)+(3:Nat))) fun E106=>withv ((D.l [[D.s {data:=#[(112:UInt8),(114:UInt8),(111:UInt8),(99:UInt8)]}],[D.s nm],[D.s {data:=#[(123:UInt8)]}]]).sub (0:Nat) ((0:Nat)+(3:Nat))) fun E107=>withv ((D.l [[D.s {data:=#[(125:UInt8)]}]]).sub (0:Nat) 1) fun E108=>withv (fun (i:Nat)=>w.rows++List.map sR ([{data:=#[(112:UInt8),(114:UInt8),(111:UInt8),(99:UInt8)]},nm,{data:=#[(123:UInt8)]}]++catTo i (vaW vs))) fun E109=>prcF nm vs bd->w.len<=2001->(0:Nat)=(0:Nat)/\w.len=w.len/\(0:Nat)+(3:Nat)<=(D.l [[D.s {data:=#[(112:UInt8),(114:UInt8),(111:UInt8),(99:UInt8)]}],[D.s nm],[D.s {data:=#[(123:UInt8)]}]]).len/\w.len<=2001/\E107.len<=1000/\(∀ (j:Nat),j<E107.len->(E107.el j 0).toS.size<=281474976710656)/\(∃ (i:Nat),i.le vs.len/\(0:Int)=(i:Int)/\vs.rows=vs.rows/\(vs.len:Int)=(vs.len:Int)/\(putD w E107).len=(E105 i).len/\List.take (2001:Nat) (w.rows++List.map sR (wsL E107 E107.len))=List.take (2001:Nat) (E109 i)/\Value.string nm=Value.string nm/\vs.rows=vs.rows/\bd.rows=bd.rows)/\∀ (i:Nat),i.le vs.len->(decide ((i:Int)<(vs.len:Int))=true->((0:Int)<=(i:Int)/\(i:Int)<(vs.len:Int))/\(0:Nat)=(0:Nat)/\(E105 i).len=(E105 i).len/\(0:Nat)+(3:Nat)<=(D.l [[D.s {data:=#[(118:UInt8),(97:UInt8),(114:UInt8)]}],[D.s (vs.el (i:Int).toNat 0).toS],[D.s {data:=#[(59:UInt8)]}]]).len/\(E105 i).len<=2001/\(E106 i).len<=1000/\(∀ (j:Nat),j<(E106 i).len->((E106 i).el j 0).toS.size<=281474976710656)/\∃ (j:Nat),j.le vs.len/\vs.len-j<vs.len-i/\IntKind.i64.wrap ((i:Int)+(1:Int))=(j:Int)/\vs.rows=vs.rows/\(vs.len:Int)=(vs.len:Int)/\(putD (E105 i) (E106 i)).len=(cat w ([{data:=#[(112:UInt8),(114:UInt8),(111:UInt8),(99:UInt8)]},nm,{data:=#[(123:UInt8)]}]++catTo j (vaW vs))).len/\List.take (2001:Nat) (List.take (2001:Nat) (E109 i)++List.map sR (wsL (E106 i) (E106 i).len))=List.take (2001:Nat) (w.rows++List.map sR ([{data:=#[(112:UInt8),(114:UInt8),(111:UInt8),(99:UInt8)]},nm,{data:=#[(123:UInt8)]}]++catTo j (vaW vs)))/\Value.string nm=Value.string nm/\vs.rows=vs.rows/\bd.rows=bd.rows)/\(decide ((i:Int)<(vs.len:Int))=false->(0:Nat)=(0:Nat)/\(E105 i).len=(E105 i).len/\bF bd/\(E105 i).len<=2001/\(0:Nat)=(0:Nat)/\(cat (E105 i) (bW bd)).len=(cat (E105 i) (bW bd)).len/\(0:Nat)+(1:Nat)<=(D.l [[D.s {data:=#[(125:UInt8)]}]]).len/\(cat (E105 i) (bW bd)).len<=2001/\E108.len<=1000/\(∀ (j:Nat),j<E108.len->(E108.el j 0).toS.size<=281474976710656)/\(putD (cat (E105 i) (bW bd)) E108).len=(cat w (prWd nm vs bd)).len/\List.take (2001:Nat) (List.take (2001:Nat) (List.take (2001:Nat) (E109 i)++List.map sR (bW bd))++List.map sR (wsL E108 E108.len))=List.take (2001:Nat) (w.rows++List.map sR (prWd nm vs bd)))) (by kernel_rfl) ?_
  dsimp +instances only [withv]
  intro hf hw;have o1:(1:Nat)<=1000:=by decide
  obtain ⟨h1,h2,h3,h4⟩:=hf;refine ⟨rfl,rfl,Nat.le_refl _,hw,(show (3:Nat)<=1000 by omega),ok3 (show szz _ by unfold szz;decide) h1.z (show szz _ by unfold szz;decide),?_⟩;refine ⟨⟨0,Nat.zero_le _,rfl,rfl,rfl,eqDx ?_ ⟨rfl,rfl,rfl⟩⟩,fun i hi=>⟨fun hl=>?_,fun hl=>?_⟩⟩
  ·simp only [put1s,put2s,put3s,put4s,put5s,cat_cat]<;>rfl
  ·have hl:=of_decide_eq_true hl;have hi2:i<vs.len:=by omega
   have hb:=h2;have hw2:IntKind.i64.wrap ((i:Int)+1)=((i+1:Nat):Int):=by rw [IntWalk.i64_in _ (by omega)];omega
   have z1:=h3 i hi2;refine ⟨⟨by omega,by omega⟩,rfl,rfl,Nat.le_refl _,cat_le _ _,(show (3:Nat)<=1000 by omega),ok3 (show szz _ by unfold szz;decide) z1.z (show szz _ by unfold szz;decide),i+1,hi2,by omega,hw2,rfl,rfl,eqDx ?_ ⟨rfl,rfl,rfl⟩⟩;simp only [put1s,put2s,put3s,put4s,put5s,cat_cat,catTo_succ,List.append_assoc]<;>rfl
  ·have hl:=of_decide_eq_false hl;have hi3:i=vs.len:=by have:i<=vs.len:=hi;omega
   subst hi3;refine ⟨rfl,rfl,h4,cat_le _ _,rfl,rfl,Nat.le_refl _,cat_le _ _,o1,ok1 (by decide),eqD ?_⟩;unfold prWd;simp only [put1s,put2s,put3s,put4s,put5s,cat_cat,List.append_assoc]<;>rfl
 ·trivial
noncomputable def syxS:List Dat->Option (Eff × List Seg):=fun ds=>match ds with
 | [.d w,.d ch,.d ru,.d pr]=>some ({val:=.tup [],vc:=[SyOK ch ru pr,SyF ch ru pr,w.len<=2001],nw:=[(0,.orow 9 (cat w (syW ch ru pr)))]},[.c (.osl 9 0 (.lit 0) (.sym (cat w (syW ch ru pr)).len))])
 |_=>none
noncomputable def syxC:Con:=conM 174 [.own 9] [lSy] syxS
theorem syx_ok:ConOK Tryz.prog 55 syxC:=by
 refine fn_obM tt_ok mixed Tryz.func55 rfl (fun _ _=>by kernel_rfl) (A:=fun ds=>⟨fun _=>Cons.of [(98,chxC),(99,ruxC),(100,prxC)],fun k=>match k,ds with | 2,[.d w,.d ch,.d ru,.d pr]=>some {ι:=Nat,pre:=fun _ i=>i<=ch.len,μ:=fun i=>ch.len-i,st:=fun s i=>famR s [(13,.one (.sc (.int .i64 (.sym ((i:Int))))))] [0,3,11,12] [(0,.own 174 ([.c (.osl 9 1 (.lit 0) (.sym (cat w (catTo i (chWE ch))).len))])),(1,.orow 9 (cat w (catTo i (chWE ch))))] [3]} | 7,[.d w,.d ch,.d ru,.d pr]=>some {ι:=Nat,pre:=fun _ i=>i<=ru.len,μ:=fun i=>ru.len-i,st:=fun s i=>famR s [(24,.one (.sc (.int .i64 (.sym ((i:Int))))))] [0,3,22,23] [(0,.own 174 ([.c (.osl 9 1 (.lit 0) (.sym (cat w (catTo ch.len (chWE ch)++catTo i (ruWE ru))).len))])),(1,.orow 9 (cat w (catTo ch.len (chWE ch)++catTo i (ruWE ru))))] [3]} | 12,[.d w,.d ch,.d ru,.d pr]=>some {ι:=Nat,pre:=fun _ i=>i<=pr.len,μ:=fun i=>pr.len-i,st:=fun s i=>famR s [(35,.one (.sc (.int .i64 (.sym ((i:Int))))))] [0,3,33,34] [(0,.own 174 ([.c (.osl 9 1 (.lit 0) (.sym (cat w ((catTo ch.len (chWE ch)++catTo ru.len (ruWE ru))++catTo i (prWE pr))).len))])),(1,.orow 9 (cat w ((catTo ch.len (chWE ch)++catTo ru.len (ruWE ru))++catTo i (prWE pr))))] [3]} |_,_=>none,fun _=>none⟩) (fun _ _=>(cons_cons chx_ok (cons_cons rux_ok (cons_cons prx_ok cons_nil)))) (by kernel_rfl) ?_
 intro ds;unfold syxS;split
 ·rename_i w ch ru pr
  refine kmp (q:=SyOK ch ru pr->SyF ch ru pr->w.len<=2001->(∃ (i:Nat),i.le ch.len/\(0:Int)=(i:Int)/\ch.rows=ch.rows/\(ch.len:Int)=(ch.len:Int)/\w.len=(cat w (catTo i (chWE ch))).len/\w.rows=List.take (2001:Nat) (w.rows++List.map sR (catTo i (chWE ch)))/\ch.rows=ch.rows/\ru.rows=ru.rows/\pr.rows=pr.rows)/\∀ (i:Nat),i.le ch.len->(decide ((i:Int)<(ch.len:Int))=true->((0:Int)<=(i:Int)/\(i:Int)<(ch.len:Int))/\(0:Nat)=(0:Nat)/\(cat w (catTo i (chWE ch))).len=(cat w (catTo i (chWE ch))).len/\chF (ch.el (i:Int).toNat 0).toS (ch.el (i:Int).toNat 2).toI (ch.el (i:Int).toNat 3).toS (ch.el (i:Int).toNat 4).toS (ch.el (i:Int).toNat 5)/\(cat w (catTo i (chWE ch))).len<=2001/\∃ (j:Nat),j.le ch.len/\ch.len-j<ch.len-i/\IntKind.i64.wrap ((i:Int)+(1:Int))=(j:Int)/\ch.rows=ch.rows/\(ch.len:Int)=(ch.len:Int)/\(cat (cat w (catTo i (chWE ch))) (chWd (ch.el (i:Int).toNat 0).toS (ch.el (i:Int).toNat 1).toI (ch.el (i:Int).toNat 2).toI (ch.el (i:Int).toNat 3).toS (ch.el (i:Int).toNat 4).toS (ch.el (i:Int).toNat 5))).len=(cat w (catTo j (chWE ch))).len/\List.take (2001:Nat) (List.take (2001:Nat) (w.rows++List.map sR (catTo i (chWE ch)))++List.map sR (chWd (ch.el (i:Int).toNat 0).toS (ch.el (i:Int).toNat 1).toI (ch.el (i:Int).toNat 2).toI (ch.el (i:Int).toNat 3).toS (ch.el (i:Int).toNat 4).toS (ch.el (i:Int).toNat 5)))=List.take (2001:Nat) (w.rows++List.map sR (catTo j (chWE ch)))/\ch.rows=ch.rows/\ru.rows=ru.rows/\pr.rows=pr.rows)/\(decide ((i:Int)<(ch.len:Int))=false->(∃ (i_1:Nat),i_1.le ru.len/\(0:Int)=(i_1:Int)/\ru.rows=ru.rows/\(ru.len:Int)=(ru.len:Int)/\(cat w (catTo i (chWE ch))).len=(cat w (catTo ch.len (chWE ch)++catTo i_1 (ruWE ru))).len/\List.take (2001:Nat) (w.rows++List.map sR (catTo i (chWE ch)))=List.take (2001:Nat) (w.rows++List.map sR (catTo ch.len (chWE ch)++catTo i_1 (ruWE ru)))/\ch.rows=ch.rows/\ru.rows=ru.rows/\pr.rows=pr.rows)/\∀ (i:Nat),i.le ru.len->(decide ((i:Int)<(ru.len:Int))=true->((0:Int)<=(i:Int)/\(i:Int)<(ru.len:Int))/\(0:Nat)=(0:Nat)/\(cat w (catTo ch.len (chWE ch)++catTo i (ruWE ru))).len=(cat w (catTo ch.len (chWE ch)++catTo i (ruWE ru))).len/\ruF (ru.el (i:Int).toNat 0).toS (ru.el (i:Int).toNat 1)/\(cat w (catTo ch.len (chWE ch)++catTo i (ruWE ru))).len<=2001/\∃ (j:Nat),j.le ru.len/\ru.len-j<ru.len-i/\IntKind.i64.wrap ((i:Int)+(1:Int))=(j:Int)/\ru.rows=ru.rows/\(ru.len:Int)=(ru.len:Int)/\(cat (cat w (catTo ch.len (chWE ch)++catTo i (ruWE ru))) (ruWd (ru.el (i:Int).toNat 0).toS (ru.el (i:Int).toNat 1))).len=(cat w (catTo ch.len (chWE ch)++catTo j (ruWE ru))).len/\List.take (2001:Nat) (List.take (2001:Nat) (w.rows++List.map sR (catTo ch.len (chWE ch)++catTo i (ruWE ru)))++List.map sR (ruWd (ru.el (i:Int).toNat 0).toS (ru.el (i:Int).toNat 1)))=List.take (2001:Nat) (w.rows++List.map sR (catTo ch.len (chWE ch)++catTo j (ruWE ru)))/\ch.rows=ch.rows/\ru.rows=ru.rows/\pr.rows=pr.rows)/\(decide ((i:Int)<(ru.len:Int))=false->(∃ (i_1:Nat),i_1.le pr.len/\(0:Int)=(i_1:Int)/\pr.rows=pr.rows/\(pr.len:Int)=(pr.len:Int)/\(cat w (catTo ch.len (chWE ch)++catTo i (ruWE ru))).len=(cat w (catTo ch.len (chWE ch)++catTo ru.len (ruWE ru)++catTo i_1 (prWE pr))).len/\List.take (2001:Nat) (w.rows++List.map sR (catTo ch.len (chWE ch)++catTo i (ruWE ru)))=List.take (2001:Nat) (w.rows++List.map sR (catTo ch.len (chWE ch)++catTo ru.len (ruWE ru)++catTo i_1 (prWE pr)))/\ch.rows=ch.rows/\ru.rows=ru.rows/\pr.rows=pr.rows)/\∀ (i:Nat),i.le pr.len->(decide ((i:Int)<(pr.len:Int))=true->((0:Int)<=(i:Int)/\(i:Int)<(pr.len:Int))/\(0:Nat)=(0:Nat)/\(cat w (catTo ch.len (chWE ch)++catTo ru.len (ruWE ru)++catTo i (prWE pr))).len=(cat w (catTo ch.len (chWE ch)++catTo ru.len (ruWE ru)++catTo i (prWE pr))).len/\prcF (pr.el (i:Int).toNat 0).toS (pr.el (i:Int).toNat 1) (pr.el (i:Int).toNat 2)/\(cat w (catTo ch.len (chWE ch)++catTo ru.len (ruWE ru)++catTo i (prWE pr))).len<=2001/\∃ (j:Nat),j.le pr.len/\pr.len-j<pr.len-i/\IntKind.i64.wrap ((i:Int)+(1:Int))=(j:Int)/\pr.rows=pr.rows/\(pr.len:Int)=(pr.len:Int)/\(cat (cat w (catTo ch.len (chWE ch)++catTo ru.len (ruWE ru)++catTo i (prWE pr))) (prWd (pr.el (i:Int).toNat 0).toS (pr.el (i:Int).toNat 1) (pr.el (i:Int).toNat 2))).len=(cat w (catTo ch.len (chWE ch)++catTo ru.len (ruWE ru)++catTo j (prWE pr))).len/\List.take (2001:Nat) (List.take (2001:Nat) (w.rows++List.map sR (catTo ch.len (chWE ch)++catTo ru.len (ruWE ru)++catTo i (prWE pr)))++List.map sR (prWd (pr.el (i:Int).toNat 0).toS (pr.el (i:Int).toNat 1) (pr.el (i:Int).toNat 2)))=List.take (2001:Nat) (w.rows++List.map sR (catTo ch.len (chWE ch)++catTo ru.len (ruWE ru)++catTo j (prWE pr)))/\ch.rows=ch.rows/\ru.rows=ru.rows/\pr.rows=pr.rows)/\(decide ((i:Int)<(pr.len:Int))=false->(cat w (catTo ch.len (chWE ch)++catTo ru.len (ruWE ru)++catTo i (prWE pr))).len=(cat w (syW ch ru pr)).len/\List.take (2001:Nat) (w.rows++List.map sR (catTo ch.len (chWE ch)++catTo ru.len (ruWE ru)++catTo i (prWE pr)))=List.take (2001:Nat) (w.rows++List.map sR (syW ch ru pr)))))) (by kernel_rfl) ?_
  intro hk hf hw;refine ⟨⟨0,Nat.zero_le _,rfl,rfl,rfl,(cat_nil hw).1,(cat_nil hw).2,rfl,rfl,rfl⟩,fun i hi=>⟨fun hl=>?_,fun hl=>?_⟩⟩
  ·have hl:=of_decide_eq_true hl;have hi2:i<ch.len:=by omega
   have hb:=hk.c;have hw2:IntKind.i64.wrap ((i:Int)+1)=((i+1:Nat):Int):=by rw [IntWalk.i64_in _ (by omega)];omega
   have z1:=hf.c i hi2;refine ⟨⟨by omega,by omega⟩,rfl,rfl,z1,cat_le _ _,i+1,hi2,by omega,hw2,rfl,rfl,eqDx ?_ ⟨rfl,rfl,rfl⟩⟩;simp only [put1s,put2s,put3s,put4s,put5s,cat_cat,catTo_succ,List.append_assoc]<;>rfl
  ·have hl:=of_decide_eq_false hl;have hi3:i=ch.len:=by have:i<=ch.len:=hi;omega
   subst hi3;refine ⟨⟨0,Nat.zero_le _,rfl,rfl,rfl,eqDx ?_ ⟨rfl,rfl,rfl⟩⟩,fun i hi=>⟨fun hl=>?_,fun hl=>?_⟩⟩
   ·simp only [catTo,List.range_zero,List.map_nil,List.flatten_nil,List.append_nil]
   ·have hl:=of_decide_eq_true hl;have hi2:i<ru.len:=by omega
    have hb:=hk.r;have hw2:IntKind.i64.wrap ((i:Int)+1)=((i+1:Nat):Int):=by rw [IntWalk.i64_in _ (by omega)];omega
    have z1:=hf.r i hi2;refine ⟨⟨by omega,by omega⟩,rfl,rfl,z1,cat_le _ _,i+1,hi2,by omega,hw2,rfl,rfl,eqDx ?_ ⟨rfl,rfl,rfl⟩⟩;simp only [put1s,put2s,put3s,put4s,put5s,cat_cat,catTo_succ,List.append_assoc]<;>rfl
   ·have hl:=of_decide_eq_false hl;have hi3:i=ru.len:=by have:i<=ru.len:=hi;omega
    subst hi3;refine ⟨⟨0,Nat.zero_le _,rfl,rfl,rfl,eqDx ?_ ⟨rfl,rfl,rfl⟩⟩,fun i hi=>⟨fun hl=>?_,fun hl=>?_⟩⟩
    ·simp only [catTo,List.range_zero,List.map_nil,List.flatten_nil,List.append_nil]
    ·have hl:=of_decide_eq_true hl;have hi2:i<pr.len:=by omega
     have hb:=hk.p;have hw2:IntKind.i64.wrap ((i:Int)+1)=((i+1:Nat):Int):=by rw [IntWalk.i64_in _ (by omega)];omega
     have z1:=hf.p i hi2;refine ⟨⟨by omega,by omega⟩,rfl,rfl,z1,cat_le _ _,i+1,hi2,by omega,hw2,rfl,rfl,eqDx ?_ ⟨rfl,rfl,rfl⟩⟩;simp only [put1s,put2s,put3s,put4s,put5s,cat_cat,catTo_succ,List.append_assoc]<;>rfl
    ·have hl:=of_decide_eq_false hl;have hi3:i=pr.len:=by have:i<=pr.len:=hi;omega
     subst hi3;refine eqD ?_
     unfold syW;simp only [List.append_assoc]
 ·trivial
end Go.Proofs.YtcfkhnlkfgmoiaaGreatDoor.Sx.Z
namespace Go.Proofs.YtcfkhnlkfgmoiaaGreatDoor.Sx.Z
open Go.RowKit
def wdD (ch ru pr:D):D:=cat (.l []) (syW ch ru pr)
def wdE (ch ru pr:D):Int:=if syB ch ru pr=true then (if syN pr=true then (if ((wdD ch ru pr).len:Int)>2000 then 4 else 0) else 6) else 5
def wdA (ch ru pr:D):D:=if wdE ch ru pr=0 then wdD ch ru pr else .l []
theorem wd5 {ch ru pr:D} (h:syB ch ru pr=false):wdE ch ru pr=5:=by unfold wdE;rw [h];rfl
theorem wd6 {ch ru pr:D} (h:syB ch ru pr=true) (h2:syN pr=false):wdE ch ru pr=6:=by unfold wdE;rw [h,h2];rfl
theorem wd4 {ch ru pr:D} (h:syB ch ru pr=true) (h2:syN pr=true) (h3:((wdD ch ru pr).len:Int)>2000):wdE ch ru pr=4:=by unfold wdE;rw [h,h2,if_pos rfl,if_pos rfl,if_pos h3]
theorem wd0 {ch ru pr:D} (h:syB ch ru pr=true) (h2:syN pr=true) (h3:¬ ((wdD ch ru pr).len:Int)>2000):wdE ch ru pr=0:=by unfold wdE;rw [h,h2,if_pos rfl,if_pos rfl,if_neg h3]
noncomputable def wrdS:FSpec:=fun ds _=>match ds with
 | [.d ch,.d ru,.d pr]=>some {val:=.tup [.sc (.rows 9 (wdA ch ru pr)),.sc (.int .i64 (.sym (wdE ch ru pr)))],vc:=[SyOK ch ru pr,(syB ch ru pr=true->syN pr=true->SyF ch ru pr)]}
 |_=>none
noncomputable def wrdC:Con:=con [lSy] wrdS
theorem wrd_ok:ConOK Tryz.prog 30 wrdC:=by
 refine fn_ob tt_ok mixed Tryz.func30 rfl (fun _ _=>by kernel_rfl) (A:=fun ds=>⟨fun _=>Cons.of [(53,syrC),(54,sydC),(55,syxC),(56,tooMC)],fun _=>none,fun _=>none⟩) (fun _ _=>(cons_cons syr_ok (cons_cons syd_ok (cons_cons syx_ok (cons_cons tooM_ok cons_nil))))) (by kernel_rfl) ?_
 intro ds fr;unfold wrdS;split
 ·rename_i ch ru pr;refine kmp (q:=SyOK ch ru pr->(syB ch ru pr=true->syN pr=true->SyF ch ru pr)->SyOK ch ru pr/\((!syB ch ru pr)=true->(wdA ch ru pr).rows=[]/\(5:Int)=wdE ch ru pr)/\((!syB ch ru pr)=false->SyOK ch ru pr/\syB ch ru pr=true/\((!syN pr)=true->(wdA ch ru pr).rows=[]/\(6:Int)=wdE ch ru pr)/\((!syN pr)=false->SyOK ch ru pr/\SyF ch ru pr/\(D.l []).len<=2001/\(0:Nat)=(0:Nat)/\(cat (D.l []) (syW ch ru pr)).len=(cat (D.l []) (syW ch ru pr)).len/\(cat (D.l []) (syW ch ru pr)).len<=10000000000000/\(decide ((↑(cat (D.l []) (syW ch ru pr)).len:Int)>(2000:Int))=true->(wdA ch ru pr).rows=[]/\(4:Int)=wdE ch ru pr)/\(decide ((↑(cat (D.l []) (syW ch ru pr)).len:Int)>(2000:Int))=false->(0:Nat)+(cat (D.l []) (syW ch ru pr)).len<=(cat (D.l []) (syW ch ru pr)).len/\List.drop ((0:Nat)) (List.take ((0:Nat)+(cat (D.l []) (syW ch ru pr)).len) (List.take (2001:Nat) ([]++List.map sR (syW ch ru pr))))=(wdA ch ru pr).rows/\(0:Int)=wdE ch ru pr)))) (by kernel_rfl) ?_
  intro hk hf;have an:wdE ch ru pr≠0->(wdA ch ru pr).rows=[]:=fun h=>by unfold wdA;rw [if_neg h];rfl
  refine ⟨hk,fun h=>?_,fun h=>?_⟩
  ·rw [Bool.not_eq_true'] at h;have e:=wd5 h;exact ⟨an (by rw [e];decide),e.symm⟩
  ·rw [Bool.not_eq_false'] at h;refine ⟨hk,h,fun h2=>?_,fun h2=>?_⟩
   ·rw [Bool.not_eq_true'] at h2;have e:=wd6 h h2;exact ⟨an (by rw [e];decide),e.symm⟩
   ·rw [Bool.not_eq_false'] at h2;refine ⟨hk,hf h h2,Nat.zero_le _,rfl,rfl,Nat.le_trans (cat_le _ _) (by decide),fun h3=>?_,fun h3=>?_⟩
    ·have e:=wd4 h h2 (of_decide_eq_true h3);exact ⟨an (by rw [e];decide),e.symm⟩
    ·have e:=wd0 h h2 (of_decide_eq_false h3);have ea:wdA ch ru pr=wdD ch ru pr:=if_pos e;refine ⟨by omega,?_,e.symm⟩;rw [ea,Nat.zero_add];show List.drop 0 (List.take (wdD ch ru pr).rows.length (wdD ch ru pr).rows)=_;rw [List.take_length];rfl
 ·trivial
end Go.Proofs.YtcfkhnlkfgmoiaaGreatDoor.Sx.Z
namespace Go.Proofs.YtcfkhnlkfgmoiaaGreatDoor.Sx.Z
open Go.RowKit
def cpTo (n:Nat) (f:Nat->List D):D:=.l ((List.range n).map f)
theorem cpTo_len (n:Nat) (f:Nat->List D):(cpTo n f).len=n:=by
 show ((List.range n).map f).length=n;rw [List.length_map,List.length_range]
theorem cpTo_succ (n:Nat) (f:Nat->List D):(cpTo (n+1) f).rows=(cpTo n f).rows++[f n]:=by
 show (List.range (n+1)).map f=(List.range n).map f++[f n];rw [List.range_succ,List.map_append];rfl
theorem cpF_eq {n:Nat} (f:Nat->List D):D.l ((List.finRange n).map fun i=>f i.1)=cpTo n f:=by
 unfold cpTo
 congr 1
 apply List.ext_getElem
 ·simp
 ·intro i h1 h2
  simp
def kS (d:D):Prop:=d.len*56<=140737488355328/\∀ i:Fin d.len,kS (d.el i 3)
 termination_by SizeOf.sizeOf d
 decreasing_by exact lel_lt i.isLt
end Go.Proofs.YtcfkhnlkfgmoiaaGreatDoor.Sx.Z
namespace Go.Proofs.YtcfkhnlkfgmoiaaGreatDoor.Sx.Z
open Go.RowKit
theorem cpTo_all (n:Nat) (f:Nat->List D):(cpTo n f).sub 0 (0+n)=cpTo n f:=by
 rw [Nat.zero_add];show D.l (List.drop 0 (List.take n ((List.range n).map f)))=_;rw [List.take_of_length_le (by simp)];rfl
def bS (d:D):Prop:=d.len*288<=140737488355328/\∀ i:Fin d.len,kS (d.el i 6)/\kS (d.el i 11)/\kS (d.el i 15)/\bS (d.el i 16)/\bS (d.el i 17)/\(d.el i 18).len*56<=140737488355328/\∀ j:Fin (d.el i 18).len,bS ((d.el i 18).el j 2)
 termination_by SizeOf.sizeOf d
 decreasing_by
  ·exact lel_lt i.isLt
  ·exact lel_lt i.isLt
  ·exact Nat.lt_trans (lel_lt j.isLt) (lel_lt i.isLt)
end Go.Proofs.YtcfkhnlkfgmoiaaGreatDoor.Sx.Z
namespace Go.Proofs.YtcfkhnlkfgmoiaaGreatDoor.Sx
def cellId (s:St) (t j:Nat):Nat:=match look s.hp (idOf s t) with |some (.own _ l)=>(match l[j]? with |some (.c (.osl _ id _ _))=>id |_=>0) |_=>0
end Go.Proofs.YtcfkhnlkfgmoiaaGreatDoor.Sx
namespace Go.Proofs.YtcfkhnlkfgmoiaaGreatDoor.Sx.Z
open Go.RowKit
def nD (d:D):D:=.l d.rows
theorem nD_app (d:D):((D.l []).app d).sub 0 (0+(0+d.len))=nD d:=by
 rw [Nat.zero_add,Nat.zero_add];show D.l (List.drop 0 (List.take d.rows.length ([]++d.rows)))=D.l d.rows;rw [List.nil_append,List.take_length];rfl
theorem app_le (d:D):0+(0+d.len)<=((D.l []).app d).len:=by
 rw [D.app_len];show 0+(0+d.len)<=0+d.len;omega
theorem takeAll (n:Nat) (f:Nat->List D):List.drop 0 (List.take (0+n) ((List.range n).map f))=(List.range n).map f:=by
 rw [Nat.zero_add,List.drop_zero,List.take_of_length_le (by simp)]
structure SyS (ch ru pr:D):Prop where
 c:ch.len*88<=140737488355328
 ct:∀ i,i<ch.len->(ch.el i 5).len*16<=140737488355328
 r:ru.len*40<=140737488355328
 rm:∀ i,i<ru.len->(ru.el i 1).len*32<=140737488355328
 p:pr.len*64<=140737488355328
 pv:∀ i,i<pr.len->(pr.el i 1).len*16<=140737488355328
 pb:∀ i,i<pr.len->bS (pr.el i 2)
end Go.Proofs.YtcfkhnlkfgmoiaaGreatDoor.Sx.Z
namespace Go.Proofs.YtcfkhnlkfgmoiaaGreatDoor.Sx.Z
open Go.RowKit
def kX:AP:=.agg [.c (.int .i64),.c (.int .i64),.c (.int .i64),.c (.rows 143)]
def kCo:AP:=.agg [.c (.int .i64),.c (.int .i64),.c (.int .i64),.c (.int .i64),.c (.rows 143),.c (.int .i64),.c (.int .i64),.c (.int .i64),.c (.rows 143)]
def kSt:AP:=.agg [.c (.int .i64),.c (.int .i64),.c (.int .i64),.c (.int .i64),.c (.int .i64),.c (.int .i64),.c (.int .i64),.c (.rows 143),.c (.int .i64),.c (.int .i64),.c (.int .i64),.c (.int .i64),.c (.rows 143),.c (.int .i64),.c (.int .i64),.c (.int .i64),.c (.rows 143),.c (.rows 148),.c (.rows 148),.c (.rows 154)]
def kIn:AP:=.agg [.c (.rows 69),.c (.int .i64),.c (.int .i64)]
def plK (a n:Int):Bool:=decide (a>=0)&&decide (a<n)
theorem plK_iff {a n:Int}:plK a n=true↔0<=a/\a<n:=by
 unfold plK;rw [Bool.and_eq_true,decide_eq_true_iff,decide_eq_true_iff]
def xkB (vs k n v len:Int) (f:Nat->Bool):Bool:=
 if k=1 then decide (n>=0)&&decide (n<=2147483647)&&v==0&&len==0 else if k=2 then plK v vs&&n==0&&len==0 else if k=3 then len==1&&(f 0&&(n==0&&v==0)) else if biB k=true then len==2&&(f 0&&f 1&&(n==0&&v==0)) else false
def xkE (vs:Int) (d:D) (i:Nat):Bool:=if _h:i<d.len then xkB vs (d.el i 0).toI (d.el i 1).toI (d.el i 2).toI (d.el i 3).len (fun j=>xkE vs (d.el i 3) j) else false
 termination_by SizeOf.sizeOf d
 decreasing_by exact lel_lt (by assumption)
def xkX (vs k n v:Int) (d:D):Bool:=xkB vs k n v d.len (xkE vs d)
theorem xkE_eq {vs:Int} {d:D} {i:Nat} (h:i<d.len):xkE vs d i=xkX vs (d.el i 0).toI (d.el i 1).toI (d.el i 2).toI (d.el i 3):=by
 rw [xkE,dif_pos h];rfl
theorem xkX_bin {vs k n v:Int} {d:D} (h:biB k=true):xkX vs k n v d=((d.len:Int)==2&&(xkE vs d 0&&xkE vs d 1&&(n==0&&v==0))):=by
 have hb:=bi_in h;unfold xkX xkB;rw [if_neg (by omega),if_neg (by omega),if_neg (by omega),if_pos h]
theorem xkX_no {vs k n v:Int} {d:D} (h1:k≠1) (h2:k≠2) (h3:k≠3) (h:biB k=false):xkX vs k n v d=false:=by
 unfold xkX xkB;rw [if_neg h1,if_neg h2,if_neg h3,if_neg (by rw [h];decide)]
def xkC (vs op lk ln lv:Int) (ld:D) (rk rn rv:Int) (rd:D):Bool:=decide (op>=1)&&decide (op<=6)&&xkX vs lk ln lv ld&&xkX vs rk rn rv rd
def xkN (k n v len:Int):Bool:=k==0&&n==0&&v==0&&len==0
def skF (vs k v c t:Int) (e ne cr nc sd b el ar:Bool) (bl ell al:Int):Bool:=
 if k=1 then plK v vs&&e&&c==0&&t==0&&nc&&bl==0&&ell==0&&al==0
 else if k=2 then cr&&b&&el&&v==0&&c==0&&t==0&&ne&&al==0
 else if k=3 then cr&&b&&v==0&&c==0&&t==0&&ne&&ell==0&&al==0
 else if k=4 then sd&&e&&v==0&&nc&&bl==0&&ell==0&&al==0
 else if k=5 then ar&&v==0&&t==0&&ne&&nc&&bl==0&&ell==0
 else if k=6 then cr&&v==0&&c==0&&t==0&&ne&&bl==0&&ell==0&&al==0
 else if k=7 then plK v vs&&c==0&&t==0&&ne&&nc&&bl==0&&ell==0&&al==0 else false
def nkS (k v c t ek en ev el op lk ln lv ll rk rn rv rl bl ell al:Int):Bool:=k==0&&v==0&&c==0&&t==0&&xkN ek en ev el&&op==0&&xkN lk ln lv ll&&xkN rk rn rv rl&&bl==0&&ell==0&&al==0
def skD (ch:D) (pc c t:Int):Bool:=plK c ch.len&&(ch.el c.toNat 2).toI==pc&&plK t (ch.el c.toNat 4).toI
def tgU (am:D) (n:Nat) (t:Int):Bool:=(List.range n).any fun j=>(am.el j 0).toI==t
def bkR (ch:D) (pc vs:Int) (d:D):Bool:=(List.finRange d.len).all fun (i:Fin d.len)=>
 skF vs (d.el i 0).toI (d.el i 1).toI (d.el i 2).toI (d.el i 3).toI (xkX vs (d.el i 4).toI (d.el i 5).toI (d.el i 6).toI (d.el i 7)) (xkN (d.el i 4).toI (d.el i 5).toI (d.el i 6).toI (d.el i 7).len)
  (xkC vs (d.el i 8).toI (d.el i 9).toI (d.el i 10).toI (d.el i 11).toI (d.el i 12) (d.el i 13).toI (d.el i 14).toI (d.el i 15).toI (d.el i 16))
  ((d.el i 8).toI==0&&xkN (d.el i 9).toI (d.el i 10).toI (d.el i 11).toI (d.el i 12).len&&xkN (d.el i 13).toI (d.el i 14).toI (d.el i 15).toI (d.el i 16).len)
  (skD ch pc (d.el i 2).toI (d.el i 3).toI) (bkR ch pc vs (d.el i 17)) (bkR ch pc vs (d.el i 18))
  (plK (d.el i 2).toI ch.len&&(ch.el (d.el i 2).toI.toNat 3).toI==pc && !(((d.el i 19).len:Int)==0)&&(List.finRange (d.el i 19).len).all fun (j:Fin (d.el i 19).len)=>
    plK ((d.el i 19).el j 0).toI (ch.el (d.el i 2).toI.toNat 4).toI && !tgU (d.el i 19) j ((d.el i 19).el j 0).toI&&plK ((d.el i 19).el j 1).toI vs&&bkR ch pc vs ((d.el i 19).el j 2))
  (d.el i 17).len (d.el i 18).len (d.el i 19).len
 termination_by SizeOf.sizeOf d
 decreasing_by
  ·exact lel_lt i.isLt
  ·exact lel_lt i.isLt
  ·exact Nat.lt_trans (lel_lt j.isLt) (lel_lt i.isLt)
def arK (ch:D) (pc vs ts:Int) (am:D) (j:Nat):Bool:=plK (am.el j 0).toI ts && !tgU am j (am.el j 0).toI&&plK (am.el j 1).toI vs&&bkR ch pc vs (am.el j 2)
def rvK (ch:D) (pc vs c:Int) (am:D):Bool:=plK c ch.len&&(ch.el c.toNat 3).toI==pc && !((am.len:Int)==0)&&allB am.len (arK ch pc vs (ch.el c.toNat 4).toI am)
def skS (ch:D) (pc vs k v c t ek en ev:Int) (ed:D) (op lk ln lv:Int) (ld:D) (rk rn rv:Int) (rd bd eb am:D):Bool:=
 skF vs k v c t (xkX vs ek en ev ed) (xkN ek en ev ed.len) (xkC vs op lk ln lv ld rk rn rv rd) (op==0&&xkN lk ln lv ld.len&&xkN rk rn rv rd.len) (skD ch pc c t) (bkR ch pc vs bd) (bkR ch pc vs eb) (rvK ch pc vs c am) bd.len eb.len am.len
def skE (ch:D) (pc vs:Int) (d:D) (i:Nat):Bool:=skS ch pc vs (d.el i 0).toI (d.el i 1).toI (d.el i 2).toI (d.el i 3).toI (d.el i 4).toI (d.el i 5).toI (d.el i 6).toI (d.el i 7) (d.el i 8).toI (d.el i 9).toI (d.el i 10).toI (d.el i 11).toI (d.el i 12) (d.el i 13).toI (d.el i 14).toI (d.el i 15).toI (d.el i 16) (d.el i 17) (d.el i 18) (d.el i 19)
theorem bkR_eq (ch:D) (pc vs:Int) (d:D):bkR ch pc vs d=allB d.len (skE ch pc vs d):=by
 rw [bkR,<- allF_eq]
 congr 1
 funext i
 unfold skE skS rvK arK;rw [<- allF_eq]
def kOK (d:D):Prop:=d.len<=4000000000000/\∀ i:Fin d.len,kOK (d.el i 17)/\kOK (d.el i 18)/\(d.el i 19).len<=4000000000000/\∀ j:Fin (d.el i 19).len,kOK ((d.el i 19).el j 2)
 termination_by SizeOf.sizeOf d
 decreasing_by
  ·exact lel_lt i.isLt
  ·exact lel_lt i.isLt
  ·exact Nat.lt_trans (lel_lt j.isLt) (lel_lt i.isLt)
def amK (am:D):Prop:=am.len<=4000000000000/\∀ j,j<am.len->kOK (am.el j 2)
theorem kOK_iff (d:D):kOK d↔d.len<=4000000000000/\∀ i,i<d.len->kOK (d.el i 17)/\kOK (d.el i 18)/\amK (d.el i 19):=by
 rw [kOK];constructor
 ·rintro ⟨h,k⟩;refine ⟨h,fun i hi=>?_⟩;obtain ⟨a,b,c,e⟩:=k ⟨i,hi⟩;exact ⟨a,b,c,fun j hj=>e ⟨j,hj⟩⟩
 ·rintro ⟨h,k⟩;refine ⟨h,fun i=>?_⟩;obtain ⟨a,b,c,e⟩:=k i.1 i.2;exact ⟨a,b,c,fun j=>e j.1 j.2⟩
theorem tgU_succ (am:D) (n:Nat) (t:Int):tgU am (n+1) t=(tgU am n t ||(am.el n 0).toI==t):=by
 unfold tgU;rw [List.range_succ,List.any_append]
 simp
theorem tgU_iff {am:D} {n:Nat} {t:Int}:tgU am n t=true ↔ ∃ j,j<n/\(am.el j 0).toI=t:=by
 unfold tgU;rw [List.any_eq_true];exact ⟨fun ⟨j,h1,h2⟩=>⟨j,List.mem_range.1 h1,eq_of_beq h2⟩,fun ⟨j,h1,h2⟩=>⟨j,List.mem_range.2 h1,beq_iff_eq.2 h2⟩⟩
theorem k_ext {f:Nat->Bool} {i:Nat} (h:∀ j,j<i->f j=true) (g:f i=true):∀ j,j<i+1->f j=true:=fun j hj=>by
 rcases Nat.lt_or_ge j i with h1 |h1
 ·exact h j h1
 ·obtain rfl:j=i:=by omega
  exact g
theorem k_nx {i:Nat} (h:i<=1000000000000000):IntKind.i64.wrap ((i:Int)+1)=((i+1:Nat):Int):=by rw [IntWalk.i64_in _ (by omega)];omega
theorem k_n (i:Nat):(i:Int).toNat=i:=Int.toNat_natCast i
theorem allB_1 (f:Nat->Bool):allB 1 f=f 0:=by simp [allB]
theorem allB_2 (f:Nat->Bool):allB 2 f=(f 0&&f 1):=by simp [allB,List.range_succ]
theorem xk_1 {vs k n v:Int} {d:D} (h:k=3):((d.len:Int)==1&&(allB d.len (xkE vs d)&&(n==0&&v==0)))=xkX vs k n v d:=by
 subst h;show _=((d.len:Int)==1&&(xkE vs d 0&&(n==0&&v==0)))
 by_cases hl:d.len=1
 ·rw [hl,allB_1]
 ·have q:((d.len:Int)==1)=false:=by simpa using (by omega:¬ (d.len:Int)=1)
  rw [q];rfl
theorem xk_2 {vs k n v:Int} {d:D} (h:biB k=true):((d.len:Int)==2&&(allB d.len (xkE vs d)&&(n==0&&v==0)))=xkX vs k n v d:=by
 rw [xkX_bin h]
 by_cases hl:d.len=2
 ·rw [hl,allB_2]
 ·have q:((d.len:Int)==2)=false:=by simpa using (by omega:¬ (d.len:Int)=2)
  rw [q];rfl
noncomputable def kplS:FSpec:=fun ds _=>match ds with
 | [.i a,.i n]=>some {val:=.one (.sc (.bool (.sym (plK a n)))),vc:=[]}
 |_=>none
noncomputable def kplC:Con:=con [lI,lI] kplS
theorem kpl_ok:ConOK Tryz.prog 42 kplC:=by
 refine fn_ob tt_ok mixed Tryz.func42 rfl (fun _ _=>by kernel_rfl) (A:=fun ds=>⟨fun _=>Cons.of [],fun _=>none,fun _=>none⟩) (fun _ _=>cons_nil) (by kernel_rfl) ?_
 intro ds fr;unfold kplS;split
 ·rename_i a n;refine kmp (q:=(decide (a>=(0:Int))&&decide (a<n))=plK a n) (by kernel_rfl) ?_
  rfl
 ·trivial
noncomputable def kvrS:FSpec:=fun ds _=>match ds with
 | [.d ch,.i pc,.i vs,.i a]=>some {val:=.one (.sc (.bool (.sym (plK a vs)))),vc:=[]}
 |_=>none
noncomputable def kvrC:Con:=con [kIn,lI] kvrS
theorem kvr_ok:ConOK Tryz.prog 79 kvrC:=by
 refine fn_ob tt_ok mixed Tryz.func79 rfl (fun _ _=>by kernel_rfl) (A:=fun ds=>⟨fun _=>Cons.of [(42,kplC)],fun _=>none,fun _=>none⟩) (fun _ _=>(cons_cons kpl_ok cons_nil)) (by kernel_rfl) ?_
 intro ds fr;unfold kvrS;split
 ·rename_i ch pc vs a;refine kmp (q:=plK a vs=plK a vs) (by kernel_rfl) ?_
  exact rfl
 ·trivial
noncomputable def kenS:FSpec:=fun ds _=>match ds with
 | [.i k,.i n,.i v,.d d]=>some {val:=.one (.sc (.bool (.sym (xkN k n v d.len)))),vc:=[]}
 |_=>none
noncomputable def kenC:Con:=con [kX] kenS
theorem ken_ok:ConOK Tryz.prog 127 kenC:=by
 refine fn_ob tt_ok mixed Tryz.func127 rfl (fun _ _=>by kernel_rfl) (A:=fun ds=>⟨fun _=>Cons.of [],fun _=>none,fun _=>none⟩) (fun _ _=>cons_nil) (by kernel_rfl) ?_
 intro ds fr;unfold kenS;split
 ·rename_i k n v d;refine kmp (q:=(k==(0:Int)&&n==(0:Int)&&v==(0:Int)&&(d.len:Int)==(0:Int))=xkN k n v (d.len:Int)) (by kernel_rfl) ?_
  rfl
 ·trivial
noncomputable def ksnS:FSpec:=fun ds _=>match ds with
 | [.i k,.i v,.i c,.i t,.i ek,.i en,.i ev,.d ed,.i op,.i lk,.i ln,.i lv,.d ld,.i rk,.i rn,.i rv,.d rd,.d bd,.d eb,.d am]=>some {val:=.one (.sc (.bool (.sym (nkS k v c t ek en ev ed.len op lk ln lv ld.len rk rn rv rd.len bd.len eb.len am.len)))),vc:=[]}
 |_=>none
noncomputable def ksnC:Con:=con [kSt] ksnS
set_option maxRecDepth 100000 in
theorem ksn_ok:ConOK Tryz.prog 81 ksnC:=by
 refine fn_ob tt_ok mixed Tryz.func81 rfl (fun _ _=>by kernel_rfl) (A:=fun ds=>⟨fun _=>Cons.of [(127,kenC)],fun _=>none,fun _=>none⟩) (fun _ _=>(cons_cons ken_ok cons_nil)) (by kernel_rfl) ?_
 intro ds fr;unfold ksnS;split
 ·rename_i k v c t ek en ev ed op lk ln lv ld rk rn rv rd bd eb am;refine kmp (q:=(k==(0:Int)&&v==(0:Int)&&c==(0:Int)&&t==(0:Int)&&xkN ek en ev (ed.len:Int)&&op==(0:Int)&&xkN lk ln lv (ld.len:Int)&&xkN rk rn rv (rd.len:Int)&&(bd.len:Int)==(0:Int)&&(eb.len:Int)==(0:Int)&&(am.len:Int)==(0:Int))=nkS k v c t ek en ev (ed.len:Int) op lk ln lv (ld.len:Int) rk rn rv (rd.len:Int) (bd.len:Int) (eb.len:Int) (am.len:Int)) (by kernel_rfl) ?_
  rfl
 ·trivial
noncomputable def kxrS:FSpec:=fun ds _=>match ds with
 | [.d ch,.i pc,.i vs,.i k,.i n,.i v,.d d]=>some {val:=.one (.sc (.bool (.sym (xkX vs k n v d)))),vc:=[]}
 |_=>none
noncomputable def kxrC:Con:=con [kIn,kX] kxrS
noncomputable def kxrM:List Dat->Nat:=fun ds=>match ds with
 | [.d ch,.i pc,.i vs,.i k,.i n,.i v,.d d]=>SizeOf.sizeOf d
 |_=>0
noncomputable def kxrSu (m:Nat):FSpec:=fun ds _=>match ds with
 | [.d ch,.i pc,.i vs,.i k,.i n,.i v,.d d]=>some {val:=.one (.sc (.bool (.sym (xkX vs k n v d)))),vc:=[SizeOf.sizeOf d<m]}
 |_=>none
theorem kxr_under (m:Nat):kxrS.under kxrM m=kxrSu m:=by
 funext ds fr
 unfold FSpec.under kxrS kxrM kxrSu;split
 ·rename_i e h
  split at h
  ·obtain rfl:=Option.some.inj h;rfl
  ·cases h
 ·rename_i h
  split at h
  ·cases h
  ·rfl
noncomputable def kkrS (m:Nat):FSpec:=fun ds _=>match ds with
 | [.d ch,.i pc,.i vs,.i k,.i n,.i v,.d d]=>some {val:=.one (.sc (.bool (.sym (allB d.len (xkE vs d)&&(n==0&&v==0))))),vc:=[SizeOf.sizeOf d<=m,d.len<=4000000000000]}
 |_=>none
noncomputable def kkrC (m:Nat):Con:=con [kIn,kX] (kkrS m)
theorem kkr_ok {m:Nat} (ih:ConOK Tryz.prog 80 (con [kIn,kX] (kxrSu m))):ConOK Tryz.prog 126 (kkrC m):=by
 refine fn_ob tt_ok mixed Tryz.func126 rfl (fun _ _=>by kernel_rfl) (A:=fun ds=>⟨fun _=>Cons.of [(80,con [kIn,kX] (kxrSu m))],fun k=>match k,ds with | 2,[.d ch,.i pc,.i vs,.i k,.i n,.i v,.d d]=>some {ι:=Nat,pre:=fun _ i=>i<=d.len/\∀ j,j<i->xkE vs d j=true,μ:=fun i=>d.len-i,st:=fun s i=>famR s [(10,.one (.sc (.int .i64 (.sym ((i:Int))))))] [2,3,8,9] [] [2,3]} |_,_=>none,fun _=>none⟩) (fun _ _=>(cons_cons ih cons_nil)) (by kernel_rfl) ?_
 intro ds fr;unfold kkrS;split
 ·rename_i ch pc vs k n v d;refine kmp (q:=SizeOf.sizeOf d<=m->d.len<=4000000000000->(∃ (i:Nat),(i<=d.len/\∀ (j:Nat),j<i->xkE vs d j=true)/\(0:Int)=(i:Int)/\d.rows=d.rows/\(d.len:Int)=(d.len:Int)/\ch.rows=ch.rows/\pc=pc/\vs=vs/\k=k/\n=n/\v=v/\d.rows=d.rows)/\∀ (i:Nat),(i<=d.len/\∀ (j:Nat),j<i->xkE vs d j=true)->(decide ((i:Int)<(d.len:Int))=true->((0:Int)<=(i:Int)/\(i:Int)<(d.len:Int))/\SizeOf.sizeOf (d.el (i:Int).toNat 3)<m/\((!xkX vs (d.el (i:Int).toNat 0).toI (d.el (i:Int).toNat 1).toI (d.el (i:Int).toNat 2).toI (d.el (i:Int).toNat 3))=true->false=(allB d.len (xkE vs d)&&(n==(0:Int)&&v==(0:Int))))/\((!xkX vs (d.el (i:Int).toNat 0).toI (d.el (i:Int).toNat 1).toI (d.el (i:Int).toNat 2).toI (d.el (i:Int).toNat 3))=false->∃ (j:Nat),(j<=d.len/\∀ (j_1:Nat),j_1<j->xkE vs d j_1=true)/\d.len-j<d.len-i/\IntKind.i64.wrap ((i:Int)+(1:Int))=(j:Int)/\d.rows=d.rows/\(d.len:Int)=(d.len:Int)/\ch.rows=ch.rows/\pc=pc/\vs=vs/\k=k/\n=n/\v=v/\d.rows=d.rows))/\(decide ((i:Int)<(d.len:Int))=false->(n==(0:Int)&&v==(0:Int))=(allB d.len (xkE vs d)&&(n==(0:Int)&&v==(0:Int))))) (by kernel_rfl) ?_
  intro hm hl;simp only [Nat.reduceAdd,Nat.zero_add,k_n];refine ⟨⟨0,⟨Nat.zero_le _,fun j hj=>absurd hj (Nat.not_lt_zero j)⟩,rfl,(by (repeat' (with_reducible apply And.intro))<;>first |exact True.intro |rfl)⟩,fun i hp=>⟨fun hc=>?_,fun hc=>?_⟩⟩
  ·have hc:=of_decide_eq_true hc;have hi:i<d.len:=by omega
   have z:=lel_lt (j:=3) hi;rw [<- xkE_eq hi];refine ⟨⟨by omega,by omega⟩,by omega,fun hq=>?_,fun hq=>?_⟩
   ·rw [allB_no hi (by simpa using hq)];rfl
   ·exact ⟨i+1,⟨hi,k_ext hp.2 (by simpa using hq)⟩,by omega,k_nx (by omega),(by (repeat' (with_reducible apply And.intro))<;>first |exact True.intro |rfl)⟩
  ·have hc:=of_decide_eq_false hc;rw [allB_yes fun j hj=>hp.2 j (by omega)];rfl
 ·trivial
theorem kxr_step (m:Nat) (ih:ConOK Tryz.prog 80 (con [kIn,kX] (kxrSu m))):ConOK Tryz.prog 80 (con [kIn,kX] (kxrSu (m+1))):=by
 refine fn_ob tt_ok mixed Tryz.func80 rfl (fun _ _=>by kernel_rfl) (A:=fun ds=>⟨fun _=>Cons.of [(79,kvrC),(126,(kkrC m))],fun _=>none,fun _=>none⟩) (fun _ _=>(cons_cons kvr_ok (cons_cons (kkr_ok ih) cons_nil))) (by kernel_rfl) ?_
 intro ds fr;unfold kxrSu;split
 ·rename_i ch pc vs k n v d;refine kmp (q:=SizeOf.sizeOf d<m+(1:Nat)->((k==(1:Int))=true->(decide (n>=(0:Int))&&decide (n<=(2147483647:Int))&&v==(0:Int)&&(d.len:Int)==(0:Int))=xkX vs k n v d)/\((k==(1:Int))=false->((k==(2:Int))=true->(plK v vs&&n==(0:Int)&&(d.len:Int)==(0:Int))=xkX vs k n v d)/\((k==(2:Int))=false->((k==(3:Int))=true->(((d.len:Int)==(1:Int))=true/\True->SizeOf.sizeOf d<=m)/\(((d.len:Int)==(1:Int))=true/\True->d.len<=4000000000000)/\((d.len:Int)==(1:Int)&&(allB d.len (xkE vs d)&&(n==(0:Int)&&v==(0:Int))))=xkX vs k n v d)/\((k==(3:Int))=false->((k==(4:Int))=true->((k==(4:Int))=true->(((d.len:Int)==(2:Int))=true/\True->SizeOf.sizeOf d<=m)/\(((d.len:Int)==(2:Int))=true/\True->d.len<=4000000000000)/\((d.len:Int)==(2:Int)&&(allB d.len (xkE vs d)&&(n==(0:Int)&&v==(0:Int))))=xkX vs k n v d)/\((k==(4:Int))=false->false=xkX vs k n v d))/\((k==(4:Int))=false->((k==(5:Int))=true->((k==(5:Int))=true->(((d.len:Int)==(2:Int))=true/\True->SizeOf.sizeOf d<=m)/\(((d.len:Int)==(2:Int))=true/\True->d.len<=4000000000000)/\((d.len:Int)==(2:Int)&&(allB d.len (xkE vs d)&&(n==(0:Int)&&v==(0:Int))))=xkX vs k n v d)/\((k==(5:Int))=false->false=xkX vs k n v d))/\((k==(5:Int))=false->((k==(6:Int))=true->((k==(6:Int))=true->(((d.len:Int)==(2:Int))=true/\True->SizeOf.sizeOf d<=m)/\(((d.len:Int)==(2:Int))=true/\True->d.len<=4000000000000)/\((d.len:Int)==(2:Int)&&(allB d.len (xkE vs d)&&(n==(0:Int)&&v==(0:Int))))=xkX vs k n v d)/\((k==(6:Int))=false->false=xkX vs k n v d))/\((k==(6:Int))=false->((k==(7:Int))=true->((k==(7:Int))=true->(((d.len:Int)==(2:Int))=true/\True->SizeOf.sizeOf d<=m)/\(((d.len:Int)==(2:Int))=true/\True->d.len<=4000000000000)/\((d.len:Int)==(2:Int)&&(allB d.len (xkE vs d)&&(n==(0:Int)&&v==(0:Int))))=xkX vs k n v d)/\((k==(7:Int))=false->false=xkX vs k n v d))/\((k==(7:Int))=false->((k==(8:Int))=true->(((d.len:Int)==(2:Int))=true/\True->SizeOf.sizeOf d<=m)/\(((d.len:Int)==(2:Int))=true/\True->d.len<=4000000000000)/\((d.len:Int)==(2:Int)&&(allB d.len (xkE vs d)&&(n==(0:Int)&&v==(0:Int))))=xkX vs k n v d)/\((k==(8:Int))=false->false=xkX vs k n v d))))))))) (by kernel_rfl) ?_
  intro hm;have ob:((d.len:Int)==2)=true/\True->d.len<=4000000000000:=fun h=>by have:=h.1;simp only [beq_iff_eq] at this;omega
  have oa:((d.len:Int)==1)=true/\True->d.len<=4000000000000:=fun h=>by have:=h.1;simp only [beq_iff_eq] at this;omega
  have om:SizeOf.sizeOf d<=m:=by omega
  have b4:∀ {k:Int} (j:Int),4<=j->j<=8->(k==j)=true->biB k=true:=fun j h1 h2 h=>by
   rw [eq_of_beq h];unfold biB;rw [decide_eq_true h1,decide_eq_true h2];rfl
  refine ⟨fun h=>?_,fun h1=>⟨fun h=>?_,fun h2=>⟨fun h=>⟨fun _=>om,oa,xk_1 (eq_of_beq h)⟩,fun h3=>?_⟩⟩⟩
  ·obtain rfl:=eq_of_beq h;rfl
  ·obtain rfl:=eq_of_beq h;rfl
  refine ⟨fun h=>⟨fun _=>⟨fun _=>om,ob,xk_2 (b4 4 (by decide) (by decide) h)⟩,fun q=>by rw [h] at q;cases q⟩,fun h4=>?_⟩;refine ⟨fun h=>⟨fun _=>⟨fun _=>om,ob,xk_2 (b4 5 (by decide) (by decide) h)⟩,fun q=>by rw [h] at q;cases q⟩,fun h5=>?_⟩;refine ⟨fun h=>⟨fun _=>⟨fun _=>om,ob,xk_2 (b4 6 (by decide) (by decide) h)⟩,fun q=>by rw [h] at q;cases q⟩,fun h6=>?_⟩;refine ⟨fun h=>⟨fun _=>⟨fun _=>om,ob,xk_2 (b4 7 (by decide) (by decide) h)⟩,fun q=>by rw [h] at q;cases q⟩,fun h7=>?_⟩;refine ⟨fun h=>⟨fun _=>om,ob,xk_2 (b4 8 (by decide) (by decide) h)⟩,fun h8=>?_⟩;refine (xkX_no (ne_of_beq_false h1) (ne_of_beq_false h2) (ne_of_beq_false h3) ?_).symm;have n4:=ne_of_beq_false h4;have n5:=ne_of_beq_false h5;have n6:=ne_of_beq_false h6;have n7:=ne_of_beq_false h7;have n8:=ne_of_beq_false h8;unfold biB;simp only [Bool.and_eq_false_iff,decide_eq_false_iff_not];omega
 ·trivial
theorem kxr_ok:ConOK Tryz.prog 80 kxrC:=
 con_rec kxrM (fun _ _=>by kernel_rfl) fun m ih=>by
  rw [kxr_under] at ih ⊢;exact kxr_step m ih
noncomputable def kcrS:FSpec:=fun ds _=>match ds with
 | [.d ch,.i pc,.i vs,.i op,.i lk,.i ln,.i lv,.d ld,.i rk,.i rn,.i rv,.d rd]=>some {val:=.one (.sc (.bool (.sym (xkC vs op lk ln lv ld rk rn rv rd)))),vc:=[]}
 |_=>none
noncomputable def kcrC:Con:=con [kIn,kCo] kcrS
theorem kcr_ok:ConOK Tryz.prog 82 kcrC:=by
 refine fn_ob tt_ok mixed Tryz.func82 rfl (fun _ _=>by kernel_rfl) (A:=fun ds=>⟨fun _=>Cons.of [(80,kxrC)],fun _=>none,fun _=>none⟩) (fun _ _=>(cons_cons kxr_ok cons_nil)) (by kernel_rfl) ?_
 intro ds fr;unfold kcrS;split
 ·rename_i ch pc vs op lk ln lv ld rk rn rv rd;refine kmp (q:=(decide (op>=(1:Int))&&decide (op<=(6:Int))&&xkX vs lk ln lv ld&&xkX vs rk rn rv rd)=xkC vs op lk ln lv ld rk rn rv rd) (by kernel_rfl) ?_
  exact rfl
 ·trivial
end Go.Proofs.YtcfkhnlkfgmoiaaGreatDoor.Sx.Z
namespace Go.Proofs.YtcfkhnlkfgmoiaaGreatDoor.Sx.Z
open Go.RowKit
def ixF (q:Nat->Bool) (n:Nat):Int:=match (List.range n).find? q with |some i=>(i:Int) |none=>-1
theorem ixF_hit {q:Nat->Bool} {n i:Nat} (hi:i<n) (hq:q i=true) (hb:∀ j,j<i->q j=false):ixF q n=(i:Int):=by
 have:(List.range n).find? q=some i:=by
  rw [List.find?_range_eq_some];exact ⟨hq,by simpa using hi,fun j hj=>by simpa using hb j hj⟩
 unfold ixF;rw [this]
theorem ixF_no {q:Nat->Bool} {n:Nat} (h:∀ j,j<n->q j=false):ixF q n = -1:=by
 have:(List.range n).find? q=none:=by
  rw [List.find?_eq_none];intro j hj
  simpa using h j (List.mem_range.1 hj)
 unfold ixF;rw [this]
theorem ixF_or (q:Nat->Bool) (n:Nat):(∃ i,i<n/\q i=true/\(∀ j,j<i->q j=false)/\ixF q n=(i:Int)) ∨ ((∀ j,j<n->q j=false)/\ixF q n = -1):=by
 unfold ixF
 cases hf:(List.range n).find? q with
 |none=>
  rw [List.find?_eq_none] at hf;exact .inr ⟨fun j hj=>by simpa using hf j (List.mem_range.2 hj),rfl⟩
 |some i=>
  rw [List.find?_range_eq_some] at hf;exact .inl ⟨i,by simpa using hf.2.1,hf.1,fun j hj=>by simpa using hf.2.2 j hj,rfl⟩
theorem ixF_any (q:Nat->Bool) (n:Nat):decide (ixF q n>=0)=(List.range n).any q:=by
 rcases ixF_or q n with ⟨i,h1,h2,_,h3⟩ |⟨h1,h2⟩
 ·rw [h3,decide_eq_true (by omega)];exact (List.any_eq_true.2 ⟨i,List.mem_range.2 h1,h2⟩).symm
 ·rw [h2,show decide ((-1:Int)>=0)=false from rfl]
  symm
  rw [List.any_eq_false];intro j hj;rw [h1 j (List.mem_range.1 hj)]
  decide
def cAr (d:D) (i:Nat):List D:=[D.i (d.el i 0).toI,D.i (d.el i 1).toI,d.el i 2]
def arA:AP:=.agg [.c (.int .i64),.c (.int .i64),.c (.rows 148)]
def tgQ (t:Int) (l:List D):Bool:=(l.getD 0 (.i 0)).toI==t
def okK0:List D->Prop:=fun _=>True
noncomputable def ixrS:FSpec:=fun ds _=>match ds with
 | [.d d,.q p ok]=>some {val:=.one (.sc (.int .i64 (.sym (ixF (fun i=>p (cAr d i)) d.len)))),vc:=[d.len<=4000000000000,∀ i,i<d.len->ok (cAr d i)]}
 |_=>none
noncomputable def ixrC:Con:=con [.sc (.rows 154),.sc (.fn true 154)] ixrS
theorem ixr_ok:ConOK Tryz.prog 173 ixrC:=by
 refine fn_ob tt_ok mixed Tryz.func173 rfl (fun _ _=>by kernel_rfl) (A:=fun ds=>⟨fun _=>Cons.of [],fun k=>match k,ds with | 2,[.d d,.q p ok]=>some {ι:=Nat,pre:=fun _ i=>i<=d.len/\∀ j,j<i->p (cAr d j)=false,μ:=fun i=>d.len-i,st:=fun s i=>famR s [(8,.one (.sc (.int .i64 (.sym ((i:Int))))))] [0,1,7] [] []} |_,_=>none,fun _=>none⟩) (fun _ _=>cons_nil) (by kernel_rfl) ?_
 intro ds fr;unfold ixrS;split
 ·rename_i d p ok;refine kmp (q:=d.len<=4000000000000->(∀ (i:Nat),i<d.len->ok (cAr d i))->(∃ (i:Nat),(i<=d.len/\∀ (j:Nat),j<i->p (cAr d j)=false)/\(0:Int)=(i:Int)/\d.rows=d.rows/\p=p/\ok=ok/\(d.len:Int)=(d.len:Int))/\∀ (i:Nat),(i<=d.len/\∀ (j:Nat),j<i->p (cAr d j)=false)->(decide ((i:Int)<(d.len:Int))=true->((0:Int)<=(i:Int)/\(i:Int)<(d.len:Int))/\ok [D.i (d.el (i:Int).toNat 0).toI,D.i (d.el (i:Int).toNat 1).toI,d.el (i:Int).toNat 2]/\(p [D.i (d.el (i:Int).toNat 0).toI,D.i (d.el (i:Int).toNat 1).toI,d.el (i:Int).toNat 2]=true->(i:Int)=ixF (fun (i:Nat)=>p (cAr d i)) d.len)/\(p [D.i (d.el (i:Int).toNat 0).toI,D.i (d.el (i:Int).toNat 1).toI,d.el (i:Int).toNat 2]=false->∃ (j:Nat),(j<=d.len/\∀ (j_1:Nat),j_1<j->p (cAr d j_1)=false)/\d.len-j<d.len-i/\IntKind.i64.wrap ((i:Int)+(1:Int))=(j:Int)/\d.rows=d.rows/\p=p/\ok=ok/\(d.len:Int)=(d.len:Int)))/\(decide ((i:Int)<(d.len:Int))=false->(-1:Int)=ixF (fun (i:Nat)=>p (cAr d i)) d.len)) (by kernel_rfl) ?_
  intro hc ho;have e0:∀ (i:Nat),((i:Int)).toNat=i:=fun i=>Int.toNat_natCast i
  refine ⟨⟨0,⟨Nat.zero_le _,fun j hj=>absurd hj (Nat.not_lt_zero j)⟩,rfl,rfl,rfl,rfl,rfl⟩,fun i hp=>⟨fun hl=>?_,fun hl=>?_⟩⟩
  ·have hi:i<d.len:=by have:=of_decide_eq_true hl;omega
   refine ⟨⟨by omega,by omega⟩,by simp only [e0];exact ho i hi,fun hq=>?_,fun hq=>?_⟩
   ·simp only [e0] at hq;exact (ixF_hit hi hq hp.2).symm
   ·simp only [e0] at hq;have hw:IntKind.i64.wrap ((i:Int)+1)=((i+1:Nat):Int):=by rw [IntWalk.i64_in _ (by omega)];omega
    refine ⟨i+1,⟨by omega,fun j hj=>?_⟩,by omega,hw,rfl,rfl,rfl,rfl⟩
    rcases Nat.lt_or_ge j i with h |h
    ·exact hp.2 j h
    ·obtain rfl:j=i:=by omega
     exact hq
  ·have hi:¬ i<d.len:=by have:=of_decide_eq_false hl;omega
   exact (ixF_no fun j hj=>hp.2 j (by omega)).symm
 ·trivial
noncomputable def cfrS:FSpec:=fun ds _=>match ds with
 | [.d d,.q p ok]=>some {val:=.one (.sc (.bool (.sym ((List.range d.len).any fun i=>p (cAr d i))))),vc:=[d.len<=4000000000000,∀ i,i<d.len->ok (cAr d i)]}
 |_=>none
noncomputable def cfrC:Con:=con [.sc (.rows 154),.sc (.fn true 154)] cfrS
theorem cfr_ok:ConOK Tryz.prog 156 cfrC:=by
 refine fn_ob tt_ok mixed Tryz.func156 rfl (fun _ _=>by kernel_rfl) (A:=fun ds=>⟨fun _=>Cons.of [(173,ixrC)],fun _=>none,fun _=>none⟩) (fun _ _=>(cons_cons ixr_ok cons_nil)) (by kernel_rfl) ?_
 intro ds fr;unfold cfrS;split
 ·rename_i d p ok;refine kmp (q:=d.len<=4000000000000->(∀ (i:Nat),i<d.len->ok (cAr d i))->d.len<=4000000000000/\(∀ (i:Nat),i<d.len->ok (cAr d i))/\decide (ixF (fun (i:Nat)=>p (cAr d i)) d.len>=(0:Int))=(List.range d.len).any fun (i:Nat)=>p (cAr d i)) (by kernel_rfl) ?_
  intro hc ho;exact ⟨hc,ho,(ixF_any _ _)⟩
 ·trivial
noncomputable def tu1S:FSpec:=fun ds _=>match ds with
 | [.i g,.i w,.d b,.i t]=>some {val:=.one (.sc (.bool (.sym (g==t)))),vc:=[]}
 |_=>none
noncomputable def tu1C:Con:=con [arA,.sc (.pt (.int .i64))] tu1S
theorem tu1_ok:ConOK Tryz.prog 157 tu1C:=by
 refine fn_ob tt_ok mixed Tryz.func157 rfl (fun _ _=>by kernel_rfl) (A:=fun ds=>⟨fun _=>Cons.of [],fun _=>none,fun _=>none⟩) (fun _ _=>cons_nil) (by kernel_rfl) ?_
 intro ds fr;unfold tu1S;split
 ·rename_i g w b t;refine kmp (q:=(g==t)=(g==t)) (by kernel_rfl) ?_
  rfl
 ·trivial
def tu1F:FC:=⟨.int .i64,true,154,fun d=>match d with | .i a=>some (tgQ a,okK0) |_=>none⟩
noncomputable def tu1K:Con:=conF tu1F tu1C
theorem tu1K_ok:ConOK Tryz.prog 157 tu1K:=
 conF_ok tu1_ok (fc_ok (ks:=eks 154) rfl rfl (fun h=>by cases h) tu1_ok rfl fun d q h l _=>by
  cases d with
  |i a=>
   obtain rfl:=Option.some.inj h;exact ⟨_,rfl,trivial⟩
  |_=>cases h)
noncomputable def ktuS:FSpec:=fun ds _=>match ds with
 | [.d d,.i t]=>some {val:=.one (.sc (.bool (.sym (tgU d d.len t)))),vc:=[d.len<=4000000000000]}
 |_=>none
noncomputable def ktuC:Con:=con [.sc (.rows 154),lI] ktuS
theorem ktu_ok:ConOK Tryz.prog 128 ktuC:=by
 refine fn_ob tt_ok mixed Tryz.func128 rfl (fun _ _=>by kernel_rfl) (A:=fun ds=>⟨fun _=>Cons.of [(157,tu1K),(156,cfrC)],fun _=>none,fun _=>none⟩) (fun _ _=>(cons_cons tu1K_ok (cons_cons cfr_ok cons_nil))) (by kernel_rfl) ?_
 intro ds fr;unfold ktuS;split
 ·rename_i d t;refine kmp (q:=d.len<=4000000000000->d.len<=4000000000000/\(∀ (i:Nat),i<d.len->okK0 (cAr d i))/\((List.range d.len).any fun (i:Nat)=>tgQ t (cAr d i))=tgU d d.len t) (by kernel_rfl) ?_
  intro h;exact ⟨h,fun _ _=>trivial,rfl⟩
 ·trivial
theorem tgU_sub {am:D} {n:Nat} (h:n<=am.len) (t:Int):tgU (am.sub 0 n) (am.sub 0 n).len t=tgU am n t:=by
 rw [D.sub_len am h,Nat.sub_zero];unfold tgU;rw [Bool.eq_iff_iff,List.any_eq_true,List.any_eq_true];constructor
 ·rintro ⟨j,h1,h2⟩;refine ⟨j,h1,?_⟩;have hj:=List.mem_range.1 h1;rw [D.sub_el am (by omega),Nat.zero_add] at h2;exact h2
 ·rintro ⟨j,h1,h2⟩;refine ⟨j,h1,?_⟩;have hj:=List.mem_range.1 h1;rw [D.sub_el am (by omega),Nat.zero_add];exact h2
end Go.Proofs.YtcfkhnlkfgmoiaaGreatDoor.Sx.Z
