import Derived.Test.YtplejbgafjpomaaGreatDoorZa19
set_option linter.unusedVariables false
set_option linter.unusedSimpArgs false
namespace Go.Proofs.YtplejbgafjpomaaGreatDoor.Sx.Z
open Go.RowKit
theorem eqDx {a b:D} {p:Prop} (h:a=b) (hp:p):a.len=b.len/\a.rows=b.rows/\p:=by rw [h];exact ⟨rfl,rfl,hp⟩
def lPr:AP:=.agg [.c .str,.c (.rows 9),.c (.rows 193)]
def tgW (tg:D) (i:Nat):List ByteArray:=if i>0 then [⟨#[44]⟩,(tg.el i 0).toS] else [(tg.el i 0).toS]
def chWd (nm:ByteArray) (k n:Int) (f t:ByteArray) (tg:D):List ByteArray:=[⟨#[99,104,97,110]⟩,nm,chW k,itW n,⟨#[102,114,111,109]⟩,f,⟨#[116,111]⟩,t,⟨#[123]⟩]++(catTo tg.len (tgW tg)++[⟨#[125]⟩,⟨#[59]⟩])
def mvW (mv:D) (i:Nat):List ByteArray:=[itW (mv.el i 0).toI,(mv.el i 1).toS,itW (mv.el i 2).toI,⟨#[59]⟩]
def ruWd (nm:ByteArray) (mv:D):List ByteArray:=[⟨#[114,117,108,101]⟩,nm,⟨#[123]⟩]++(catTo mv.len (mvW mv)++[⟨#[125]⟩])
def vaW (vs:D) (i:Nat):List ByteArray:=[⟨#[118,97,114]⟩,(vs.el i 0).toS,⟨#[59]⟩]
def prWd (nm:ByteArray) (vs bd:D):List ByteArray:=[⟨#[112,114,111,99]⟩,nm,⟨#[123]⟩]++(catTo vs.len (vaW vs)++(bW bd++[⟨#[125]⟩]))
def chWE (d:D) (i:Nat):List ByteArray:=chWd (d.el i 0).toS (d.el i 1).toI (d.el i 2).toI (d.el i 3).toS (d.el i 4).toS (d.el i 5)
def ruWE (d:D) (i:Nat):List ByteArray:=ruWd (d.el i 0).toS (d.el i 1)
def prWE (d:D) (i:Nat):List ByteArray:=prWd (d.el i 0).toS (d.el i 1) (d.el i 2)
def syW (ch ru pr:D):List ByteArray:=catTo ch.len (chWE ch)++(catTo ru.len (ruWE ru)++catTo pr.len (prWE pr))
def sm (n:Int):Prop:=nI n
theorem itW_z {n:Int} (h:sm n):szz (itW n):=Nat.le_trans (itW_size h) (by decide)
def chF (nm:ByteArray) (n:Int) (f t:ByteArray) (tg:D):Prop:=sz nm/\sm n/\sz f/\sz t/\tg.len<=10000000000000/\∀ i,i<tg.len->sz (tg.el i 0).toS
def ruF (nm:ByteArray) (mv:D):Prop:=sz nm/\mv.len<=10000000000000/\∀ i,i<mv.len->sm (mv.el i 0).toI/\sz (mv.el i 1).toS/\sm (mv.el i 2).toI
def prcF (nm:ByteArray) (vs bd:D):Prop:=sz nm/\vs.len<=10000000000000/\(∀ i,i<vs.len->sz (vs.el i 0).toS)/\bF bd
structure SyF (ch ru pr:D):Prop where
 c:∀ i,i<ch.len->chF (ch.el i 0).toS (ch.el i 2).toI (ch.el i 3).toS (ch.el i 4).toS (ch.el i 5)
 r:∀ i,i<ru.len->ruF (ru.el i 0).toS (ru.el i 1)
 p:∀ i,i<pr.len->prcF (pr.el i 0).toS (pr.el i 1) (pr.el i 2)
noncomputable def chxS:List Dat->Option (Eff × List Seg):=fun ds=>match ds with
 | [.d w,.s nm,.i k,.i n,.s f,.s t,.d tg]=>some ({val:=.tup [],vc:=[chF nm n f t tg,w.len<=2001],nw:=[(0,.orow 9 (cat w (chWd nm k n f t tg)))]},[.c (.osl 9 0 (.lit 0) (.sym (cat w (chWd nm k n f t tg)).len))])
 |_=>none
noncomputable def chxC:Con:=conM 174 [.own 9] [lCh] chxS
theorem chx_ok:ConOK Tryz.prog 97 chxC:=by
 refine fn_obM tt_ok mixed Tryz.func97 rfl (fun _ _=>by kernel_rfl) (A:=fun ds=>⟨fun _=>Cons.of [(135,putC),(137,itC),(136,chwC)],fun k=>match k,ds with | 4,[.d w,.s nm,.i k,.i n,.s f,.s t,.d tg]=>some {ι:=Nat,pre:=fun _ i=>i<=tg.len,μ:=fun i=>tg.len-i,st:=fun s i=>famR s [(27,.one (.sc (.int .i64 (.sym ((i:Int))))))] [0,25,26] [(0,.own 174 ([.c (.osl 9 1 (.lit 0) (.sym (cat w ([⟨#[99,104,97,110]⟩,nm,chW k,itW n,⟨#[102,114,111,109]⟩,f,⟨#[116,111]⟩,t,⟨#[123]⟩]++catTo i (tgW tg))).len))])),(1,.orow 9 (cat w ([⟨#[99,104,97,110]⟩,nm,chW k,itW n,⟨#[102,114,111,109]⟩,f,⟨#[116,111]⟩,t,⟨#[123]⟩]++catTo i (tgW tg))))] []} |_,_=>none,fun _=>none⟩) (fun _ _=>(cons_cons put_ok (cons_cons it_ok (cons_cons chw_ok cons_nil)))) (by kernel_rfl) ?_
 intro ds;unfold chxS;split
 ·rename_i w nm k n f t tg
  refine kmp (q:=withv (fun (i:Nat)=>cat w ([{data:=#[(99:UInt8),(104:UInt8),(97:UInt8),(110:UInt8)]},nm,chW k,itW n,{data:=#[(102:UInt8),(114:UInt8),(111:UInt8),(109:UInt8)]},f,{data:=#[(116:UInt8),(111:UInt8)]},t,{data:=#[(123:UInt8)]}]++catTo i (tgW tg))) fun E90=>withv ((D.l [[D.s {data:=#[(99:UInt8),(104:UInt8),(97:UInt8),(110:UInt8)]}],[D.s nm],[D.s (chW k)],[D.s (itW n)]]).sub (0:Nat) ((0:Nat)+(4:Nat))) fun E91=>withv ((D.l [[D.s {data:=#[(102:UInt8),(114:UInt8),(111:UInt8),(109:UInt8)]}],[D.s f],[D.s {data:=#[(116:UInt8),(111:UInt8)]}],[D.s t],[D.s {data:=#[(123:UInt8)]}]]).sub (0:Nat) ((0:Nat)+(5:Nat))) fun E92=>withv (fun (i:Nat)=>(D.l [[D.s (tg.el (i:Int).toNat 0).toS]]).sub (0:Nat) 1) fun E93=>withv (fun (i:Nat)=>w.rows++List.map sR ([{data:=#[(99:UInt8),(104:UInt8),(97:UInt8),(110:UInt8)]},nm,chW k,itW n,{data:=#[(102:UInt8),(114:UInt8),(111:UInt8),(109:UInt8)]},f,{data:=#[(116:UInt8),(111:UInt8)]},t,{data:=#[(123:UInt8)]}]++catTo i (tgW tg))) fun E94=>withv ((D.l [[D.s {data:=#[(44:UInt8)]}]]).sub (0:Nat) 1) fun E95=>withv ((D.l [[D.s {data:=#[(125:UInt8)]}],[D.s {data:=#[(59:UInt8)]}]]).sub (0:Nat) ((0:Nat)+(2:Nat))) fun E96=>withv (fun (j:Nat)=>w.rows++List.map sR ([{data:=#[(99:UInt8),(104:UInt8),(97:UInt8),(110:UInt8)]},nm,chW k,itW n,{data:=#[(102:UInt8),(114:UInt8),(111:UInt8),(109:UInt8)]},f,{data:=#[(116:UInt8),(111:UInt8)]},t,{data:=#[(123:UInt8)]}]++catTo j (tgW tg))) fun E97=>withv (fun (j:Nat)=>cat w ([{data:=#[(99:UInt8),(104:UInt8),(97:UInt8),(110:UInt8)]},nm,chW k,itW n,{data:=#[(102:UInt8),(114:UInt8),(111:UInt8),(109:UInt8)]},f,{data:=#[(116:UInt8),(111:UInt8)]},t,{data:=#[(123:UInt8)]}]++catTo j (tgW tg))) fun E98=>chF nm n f t tg->w.len<=2001->nI n/\(0:Nat)=(0:Nat)/\w.len=w.len/\(0:Nat)+(4:Nat)<=(D.l [[D.s {data:=#[(99:UInt8),(104:UInt8),(97:UInt8),(110:UInt8)]}],[D.s nm],[D.s (chW k)],[D.s (itW n)]]).len/\w.len<=2001/\E91.len<=1000/\(∀ (j:Nat),j<E91.len->(E91.el j 0).toS.size<=281474976710656)/\(0:Nat)=(0:Nat)/\(putD w E91).len=(putD w E91).len/\(0:Nat)+(5:Nat)<=(D.l [[D.s {data:=#[(102:UInt8),(114:UInt8),(111:UInt8),(109:UInt8)]}],[D.s f],[D.s {data:=#[(116:UInt8),(111:UInt8)]}],[D.s t],[D.s {data:=#[(123:UInt8)]}]]).len/\(putD w E91).len<=2001/\E92.len<=1000/\(∀ (j:Nat),j<E92.len->(E92.el j 0).toS.size<=281474976710656)/\(∃ (i:Nat),i.le tg.len/\(0:Int)=(i:Int)/\tg.rows=tg.rows/\(tg.len:Int)=(tg.len:Int)/\(putD (putD w E91) E92).len=(E90 i).len/\List.take (2001:Nat) (List.take (2001:Nat) (w.rows++List.map sR (wsL E91 E91.len))++List.map sR (wsL E92 E92.len))=List.take (2001:Nat) (E94 i))/\∀ (i:Nat),i.le tg.len->(decide ((i:Int)<(tg.len:Int))=true->((0:Int)<=(i:Int)/\(i:Int)<(tg.len:Int))/\(decide ((i:Int)>(0:Int))=true->(0:Nat)=(0:Nat)/\(E90 i).len=(E90 i).len/\(0:Nat)+(1:Nat)<=(D.l [[D.s {data:=#[(44:UInt8)]}]]).len/\(E90 i).len<=2001/\E95.len<=1000/\(∀ (j:Nat),j<E95.len->(E95.el j 0).toS.size<=281474976710656)/\(0:Nat)=(0:Nat)/\(putD (E90 i) E95).len=(putD (E90 i) E95).len/\(0:Nat)+(1:Nat)<=(D.l [[D.s (tg.el (i:Int).toNat 0).toS]]).len/\(putD (E90 i) E95).len<=2001/\(E93 i).len<=1000/\(∀ (j:Nat),j<(E93 i).len->((E93 i).el j 0).toS.size<=281474976710656)/\∃ (j:Nat),j.le tg.len/\tg.len-j<tg.len-i/\IntKind.i64.wrap ((i:Int)+(1:Int))=(j:Int)/\tg.rows=tg.rows/\(tg.len:Int)=(tg.len:Int)/\(putD (putD (E90 i) E95) (E93 i)).len=(E98 j).len/\List.take (2001:Nat) (List.take (2001:Nat) (List.take (2001:Nat) (E94 i)++List.map sR (wsL E95 E95.len))++List.map sR (wsL (E93 i) (E93 i).len))=List.take (2001:Nat) (E97 j))/\(decide ((i:Int)>(0:Int))=false->(0:Nat)=(0:Nat)/\(E90 i).len=(E90 i).len/\(0:Nat)+(1:Nat)<=(D.l [[D.s (tg.el (i:Int).toNat 0).toS]]).len/\(E90 i).len<=2001/\(E93 i).len<=1000/\(∀ (j:Nat),j<(E93 i).len->((E93 i).el j 0).toS.size<=281474976710656)/\∃ (j:Nat),j.le tg.len/\tg.len-j<tg.len-i/\IntKind.i64.wrap ((i:Int)+(1:Int))=(j:Int)/\tg.rows=tg.rows/\(tg.len:Int)=(tg.len:Int)/\(putD (E90 i) (E93 i)).len=(E98 j).len/\List.take (2001:Nat) (List.take (2001:Nat) (E94 i)++List.map sR (wsL (E93 i) (E93 i).len))=List.take (2001:Nat) (E97 j)))/\(decide ((i:Int)<(tg.len:Int))=false->(0:Nat)=(0:Nat)/\(E90 i).len=(E90 i).len/\(0:Nat)+(2:Nat)<=(D.l [[D.s {data:=#[(125:UInt8)]}],[D.s {data:=#[(59:UInt8)]}]]).len/\(E90 i).len<=2001/\E96.len<=1000/\(∀ (j:Nat),j<E96.len->(E96.el j 0).toS.size<=281474976710656)/\(putD (E90 i) E96).len=(cat w (chWd nm k n f t tg)).len/\List.take (2001:Nat) (List.take (2001:Nat) (E94 i)++List.map sR (wsL E96 E96.len))=List.take (2001:Nat) (w.rows++List.map sR (chWd nm k n f t tg)))) (by kernel_rfl) ?_
  dsimp +instances only [withv]
  intro hf hw;have o1:(1:Nat)<=1000:=by decide
  obtain ⟨h1,h2,h3,h4,h5,h6⟩:=hf;refine ⟨h2,rfl,rfl,Nat.le_refl _,hw,(show (4:Nat)<=1000 by omega),ok4 (show szz _ by unfold szz;decide) h1.z (show szz _ by have:=chW_size k;unfold szz;omega) (itW_z h2),rfl,rfl,Nat.le_refl _,cat_le _ _,(show (5:Nat)<=1000 by omega),ok5 (show szz _ by unfold szz;decide) h3.z (show szz _ by unfold szz;decide) h4.z (show szz _ by unfold szz;decide),?_⟩;refine ⟨⟨0,Nat.zero_le _,rfl,rfl,rfl,eqD ?_⟩,fun i hi=>⟨fun hl=>?_,fun hl=>?_⟩⟩
  ·simp only [put1s,put2s,put3s,put4s,put5s,cat_cat]<;>rfl
  ·have hl:=of_decide_eq_true hl;have hi2:i<tg.len:=by omega
   have hb:=h5;have hw2:IntKind.i64.wrap ((i:Int)+1)=((i+1:Nat):Int):=by rw [IntWalk.i64_in _ (by omega)];omega
   have z:=h6 i hi2;refine ⟨⟨by omega,by omega⟩,fun hg=>⟨rfl,rfl,Nat.le_refl _,cat_le _ _,o1,ok1 (by decide),rfl,rfl,Nat.le_refl _,cat_le _ _,o1,ok1 z.z,i+1,hi2,by omega,hw2,rfl,rfl,eqD ?_⟩,fun hg=>⟨rfl,rfl,Nat.le_refl _,cat_le _ _,o1,ok1 z.z,i+1,hi2,by omega,hw2,rfl,rfl,eqD ?_⟩⟩
   ·have e:tgW tg i=[⟨#[44]⟩,(tg.el i 0).toS]:=if_pos (by have:=of_decide_eq_true hg;omega);simp only [put1s,put2s,put3s,put4s,put5s,cat_cat,catTo_succ,e,List.append_assoc]<;>rfl
   ·have e:tgW tg i=[(tg.el i 0).toS]:=if_neg (by have:=of_decide_eq_false hg;omega);simp only [put1s,put2s,put3s,put4s,put5s,cat_cat,catTo_succ,e,List.append_assoc]<;>rfl
  ·have hl:=of_decide_eq_false hl;have hi3:i=tg.len:=by have:i<=tg.len:=hi;omega
   subst hi3;refine ⟨rfl,rfl,Nat.le_refl _,cat_le _ _,(show (2:Nat)<=1000 by omega),ok2 (show szz _ by unfold szz;decide) (show szz _ by unfold szz;decide),eqD ?_⟩;unfold chWd;simp only [put1s,put2s,put3s,put4s,put5s,cat_cat,List.append_assoc]<;>rfl
 ·trivial
noncomputable def ruxS:List Dat->Option (Eff × List Seg):=fun ds=>match ds with
 | [.d w,.s nm,.d mv]=>some ({val:=.tup [],vc:=[ruF nm mv,w.len<=2001],nw:=[(0,.orow 9 (cat w (ruWd nm mv)))]},[.c (.osl 9 0 (.lit 0) (.sym (cat w (ruWd nm mv)).len))])
 |_=>none
noncomputable def ruxC:Con:=conM 174 [.own 9] [lRu] ruxS
theorem rux_ok:ConOK Tryz.prog 98 ruxC:=by
 refine fn_obM tt_ok mixed Tryz.func98 rfl (fun _ _=>by kernel_rfl) (A:=fun ds=>⟨fun _=>Cons.of [(135,putC),(137,itC)],fun k=>match k,ds with | 3,[.d w,.s nm,.d mv]=>some {ι:=Nat,pre:=fun _ i=>i<=mv.len,μ:=fun i=>mv.len-i,st:=fun s i=>famR s [(14,.one (.sc (.int .i64 (.sym ((i:Int))))))] [0,12,13] [(0,.own 174 ([.c (.osl 9 1 (.lit 0) (.sym (cat w ([⟨#[114,117,108,101]⟩,nm,⟨#[123]⟩]++catTo i (mvW mv))).len))])),(1,.orow 9 (cat w ([⟨#[114,117,108,101]⟩,nm,⟨#[123]⟩]++catTo i (mvW mv))))] []} |_,_=>none,fun _=>none⟩) (fun _ _=>(cons_cons put_ok (cons_cons it_ok cons_nil))) (by kernel_rfl) ?_
 intro ds;unfold ruxS;split
 ·rename_i w nm mv;refine kmp (q:=withv (fun (i:Nat)=>D.l [[D.s (itW (mv.el (i:Int).toNat 0).toI)],[D.s (mv.el (i:Int).toNat 1).toS],[D.s (itW (mv.el (i:Int).toNat 2).toI)],[D.s {data:=#[(59:UInt8)]}]]) fun E99=>withv (fun (i:Nat)=>cat w ([{data:=#[(114:UInt8),(117:UInt8),(108:UInt8),(101:UInt8)]},nm,{data:=#[(123:UInt8)]}]++catTo i (mvW mv))) fun E100=>withv ((D.l [[D.s {data:=#[(114:UInt8),(117:UInt8),(108:UInt8),(101:UInt8)]}],[D.s nm],[D.s {data:=#[(123:UInt8)]}]]).sub (0:Nat) ((0:Nat)+(3:Nat))) fun E101=>withv ((D.l [[D.s {data:=#[(125:UInt8)]}]]).sub (0:Nat) 1) fun E102=>withv (fun (i:Nat)=>w.rows++List.map sR ([{data:=#[(114:UInt8),(117:UInt8),(108:UInt8),(101:UInt8)]},nm,{data:=#[(123:UInt8)]}]++catTo i (mvW mv))) fun E103=>withv (fun (i:Nat)=>(E99 i).sub (0:Nat) ((0:Nat)+(4:Nat))) fun E104=>ruF nm mv->w.len<=2001->(0:Nat)=(0:Nat)/\w.len=w.len/\(0:Nat)+(3:Nat)<=(D.l [[D.s {data:=#[(114:UInt8),(117:UInt8),(108:UInt8),(101:UInt8)]}],[D.s nm],[D.s {data:=#[(123:UInt8)]}]]).len/\w.len<=2001/\E101.len<=1000/\(∀ (j:Nat),j<E101.len->(E101.el j 0).toS.size<=281474976710656)/\(∃ (i:Nat),i.le mv.len/\(0:Int)=(i:Int)/\mv.rows=mv.rows/\(mv.len:Int)=(mv.len:Int)/\(putD w E101).len=(E100 i).len/\List.take (2001:Nat) (w.rows++List.map sR (wsL E101 E101.len))=List.take (2001:Nat) (E103 i))/\∀ (i:Nat),i.le mv.len->(decide ((i:Int)<(mv.len:Int))=true->((0:Int)<=(i:Int)/\(i:Int)<(mv.len:Int))/\nI (mv.el (i:Int).toNat 0).toI/\nI (mv.el (i:Int).toNat 2).toI/\(0:Nat)=(0:Nat)/\(E100 i).len=(E100 i).len/\(0:Nat)+(4:Nat)<=(E99 i).len/\(E100 i).len<=2001/\(E104 i).len<=1000/\(∀ (j:Nat),j<(E104 i).len->((E104 i).el j 0).toS.size<=281474976710656)/\∃ (j:Nat),j.le mv.len/\mv.len-j<mv.len-i/\IntKind.i64.wrap ((i:Int)+(1:Int))=(j:Int)/\mv.rows=mv.rows/\(mv.len:Int)=(mv.len:Int)/\(putD (E100 i) (E104 i)).len=(cat w ([{data:=#[(114:UInt8),(117:UInt8),(108:UInt8),(101:UInt8)]},nm,{data:=#[(123:UInt8)]}]++catTo j (mvW mv))).len/\List.take (2001:Nat) (List.take (2001:Nat) (E103 i)++List.map sR (wsL (E104 i) (E104 i).len))=List.take (2001:Nat) (w.rows++List.map sR ([{data:=#[(114:UInt8),(117:UInt8),(108:UInt8),(101:UInt8)]},nm,{data:=#[(123:UInt8)]}]++catTo j (mvW mv))))/\(decide ((i:Int)<(mv.len:Int))=false->(0:Nat)=(0:Nat)/\(E100 i).len=(E100 i).len/\(0:Nat)+(1:Nat)<=(D.l [[D.s {data:=#[(125:UInt8)]}]]).len/\(E100 i).len<=2001/\E102.len<=1000/\(∀ (j:Nat),j<E102.len->(E102.el j 0).toS.size<=281474976710656)/\(putD (E100 i) E102).len=(cat w (ruWd nm mv)).len/\List.take (2001:Nat) (List.take (2001:Nat) (E103 i)++List.map sR (wsL E102 E102.len))=List.take (2001:Nat) (w.rows++List.map sR (ruWd nm mv)))) (by kernel_rfl) ?_
  dsimp +instances only [withv]
  intro hf hw;have o1:(1:Nat)<=1000:=by decide
  obtain ⟨h1,h2,h3⟩:=hf;refine ⟨rfl,rfl,Nat.le_refl _,hw,(show (3:Nat)<=1000 by omega),ok3 (show szz _ by unfold szz;decide) h1.z (show szz _ by unfold szz;decide),?_⟩;refine ⟨⟨0,Nat.zero_le _,rfl,rfl,rfl,eqD ?_⟩,fun i hi=>⟨fun hl=>?_,fun hl=>?_⟩⟩
  ·simp only [put1s,put2s,put3s,put4s,put5s,cat_cat]<;>rfl
  ·have hl:=of_decide_eq_true hl;have hi2:i<mv.len:=by omega
   have hb:=h2;have hw2:IntKind.i64.wrap ((i:Int)+1)=((i+1:Nat):Int):=by rw [IntWalk.i64_in _ (by omega)];omega
   obtain ⟨z1,z2,z3⟩:=h3 i hi2;refine ⟨⟨by omega,by omega⟩,z1,z3,rfl,rfl,Nat.le_refl _,cat_le _ _,(show (4:Nat)<=1000 by omega),ok4 (itW_z z1) z2.z (itW_z z3) (show szz _ by unfold szz;decide),i+1,hi2,by omega,hw2,rfl,rfl,eqD ?_⟩;simp only [put1s,put2s,put3s,put4s,put5s,cat_cat,catTo_succ,List.append_assoc]<;>rfl
  ·have hl:=of_decide_eq_false hl;have hi3:i=mv.len:=by have:i<=mv.len:=hi;omega
   subst hi3;refine ⟨rfl,rfl,Nat.le_refl _,cat_le _ _,o1,ok1 (by decide),eqD ?_⟩;unfold ruWd;simp only [put1s,put2s,put3s,put4s,put5s,cat_cat,List.append_assoc]<;>rfl
 ·trivial
noncomputable def prxS:List Dat->Option (Eff × List Seg):=fun ds=>match ds with
 | [.d w,.s nm,.d vs,.d bd]=>some ({val:=.tup [],vc:=[prcF nm vs bd,w.len<=2001],nw:=[(0,.orow 9 (cat w (prWd nm vs bd)))]},[.c (.osl 9 0 (.lit 0) (.sym (cat w (prWd nm vs bd)).len))])
 |_=>none
noncomputable def prxC:Con:=conM 174 [.own 9] [lPr] prxS
theorem prx_ok:ConOK Tryz.prog 99 prxC:=by
 refine fn_obM tt_ok mixed Tryz.func99 rfl (fun _ _=>by kernel_rfl) (A:=fun ds=>⟨fun _=>Cons.of [(135,putC),(138,lwrC)],fun k=>match k,ds with | 3,[.d w,.s nm,.d vs,.d bd]=>some {ι:=Nat,pre:=fun _ i=>i<=vs.len,μ:=fun i=>vs.len-i,st:=fun s i=>famR s [(14,.one (.sc (.int .i64 (.sym ((i:Int))))))] [0,3,12,13] [(0,.own 174 ([.c (.osl 9 1 (.lit 0) (.sym (cat w ([⟨#[112,114,111,99]⟩,nm,⟨#[123]⟩]++catTo i (vaW vs))).len))])),(1,.orow 9 (cat w ([⟨#[112,114,111,99]⟩,nm,⟨#[123]⟩]++catTo i (vaW vs))))] [3]} |_,_=>none,fun _=>none⟩) (fun _ _=>(cons_cons put_ok (cons_cons lwr_ok cons_nil))) (by kernel_rfl) ?_
 intro ds;unfold prxS;split
 ·rename_i w nm vs bd;refine kmp (q:=withv (fun (i:Nat)=>cat w ([{data:=#[(112:UInt8),(114:UInt8),(111:UInt8),(99:UInt8)]},nm,{data:=#[(123:UInt8)]}]++catTo i (vaW vs))) fun E105=>withv (fun (i:Nat)=>(D.l [[D.s {data:=#[(118:UInt8),(97:UInt8),(114:UInt8)]}],[D.s (vs.el (i:Int).toNat 0).toS],[D.s {data:=#[(59:UInt8)]}]]).sub (0:Nat) ((0:Nat)+(3:Nat))) fun E106=>withv ((D.l [[D.s {data:=#[(112:UInt8),(114:UInt8),(111:UInt8),(99:UInt8)]}],[D.s nm],[D.s {data:=#[(123:UInt8)]}]]).sub (0:Nat) ((0:Nat)+(3:Nat))) fun E107=>withv ((D.l [[D.s {data:=#[(125:UInt8)]}]]).sub (0:Nat) 1) fun E108=>withv (fun (i:Nat)=>w.rows++List.map sR ([{data:=#[(112:UInt8),(114:UInt8),(111:UInt8),(99:UInt8)]},nm,{data:=#[(123:UInt8)]}]++catTo i (vaW vs))) fun E109=>prcF nm vs bd->w.len<=2001->(0:Nat)=(0:Nat)/\w.len=w.len/\(0:Nat)+(3:Nat)<=(D.l [[D.s {data:=#[(112:UInt8),(114:UInt8),(111:UInt8),(99:UInt8)]}],[D.s nm],[D.s {data:=#[(123:UInt8)]}]]).len/\w.len<=2001/\E107.len<=1000/\(∀ (j:Nat),j<E107.len->(E107.el j 0).toS.size<=281474976710656)/\(∃ (i:Nat),i.le vs.len/\(0:Int)=(i:Int)/\vs.rows=vs.rows/\(vs.len:Int)=(vs.len:Int)/\(putD w E107).len=(E105 i).len/\List.take (2001:Nat) (w.rows++List.map sR (wsL E107 E107.len))=List.take (2001:Nat) (E109 i)/\Value.string nm=Value.string nm/\vs.rows=vs.rows/\bd.rows=bd.rows)/\∀ (i:Nat),i.le vs.len->(decide ((i:Int)<(vs.len:Int))=true->((0:Int)<=(i:Int)/\(i:Int)<(vs.len:Int))/\(0:Nat)=(0:Nat)/\(E105 i).len=(E105 i).len/\(0:Nat)+(3:Nat)<=(D.l [[D.s {data:=#[(118:UInt8),(97:UInt8),(114:UInt8)]}],[D.s (vs.el (i:Int).toNat 0).toS],[D.s {data:=#[(59:UInt8)]}]]).len/\(E105 i).len<=2001/\(E106 i).len<=1000/\(∀ (j:Nat),j<(E106 i).len->((E106 i).el j 0).toS.size<=281474976710656)/\∃ (j:Nat),j.le vs.len/\vs.len-j<vs.len-i/\IntKind.i64.wrap ((i:Int)+(1:Int))=(j:Int)/\vs.rows=vs.rows/\(vs.len:Int)=(vs.len:Int)/\(putD (E105 i) (E106 i)).len=(cat w ([{data:=#[(112:UInt8),(114:UInt8),(111:UInt8),(99:UInt8)]},nm,{data:=#[(123:UInt8)]}]++catTo j (vaW vs))).len/\List.take (2001:Nat) (List.take (2001:Nat) (E109 i)++List.map sR (wsL (E106 i) (E106 i).len))=List.take (2001:Nat) (w.rows++List.map sR ([{data:=#[(112:UInt8),(114:UInt8),(111:UInt8),(99:UInt8)]},nm,{data:=#[(123:UInt8)]}]++catTo j (vaW vs)))/\Value.string nm=Value.string nm/\vs.rows=vs.rows/\bd.rows=bd.rows)/\(decide ((i:Int)<(vs.len:Int))=false->(0:Nat)=(0:Nat)/\(E105 i).len=(E105 i).len/\bF bd/\(E105 i).len<=2001/\(0:Nat)=(0:Nat)/\(cat (E105 i) (bW bd)).len=(cat (E105 i) (bW bd)).len/\(0:Nat)+(1:Nat)<=(D.l [[D.s {data:=#[(125:UInt8)]}]]).len/\(cat (E105 i) (bW bd)).len<=2001/\E108.len<=1000/\(∀ (j:Nat),j<E108.len->(E108.el j 0).toS.size<=281474976710656)/\(putD (cat (E105 i) (bW bd)) E108).len=(cat w (prWd nm vs bd)).len/\List.take (2001:Nat) (List.take (2001:Nat) (List.take (2001:Nat) (E109 i)++List.map sR (bW bd))++List.map sR (wsL E108 E108.len))=List.take (2001:Nat) (w.rows++List.map sR (prWd nm vs bd)))) (by kernel_rfl) ?_
  dsimp +instances only [withv]
  intro hf hw;have o1:(1:Nat)<=1000:=by decide
  obtain ⟨h1,h2,h3,h4⟩:=hf;refine ⟨rfl,rfl,Nat.le_refl _,hw,(show (3:Nat)<=1000 by omega),ok3 (show szz _ by unfold szz;decide) h1.z (show szz _ by unfold szz;decide),?_⟩;refine ⟨⟨0,Nat.zero_le _,rfl,rfl,rfl,eqDx ?_ ⟨rfl,rfl,rfl⟩⟩,fun i hi=>⟨fun hl=>?_,fun hl=>?_⟩⟩
  ·simp only [put1s,put2s,put3s,put4s,put5s,cat_cat]<;>rfl
  ·have hl:=of_decide_eq_true hl;have hi2:i<vs.len:=by omega
   have hb:=h2;have hw2:IntKind.i64.wrap ((i:Int)+1)=((i+1:Nat):Int):=by rw [IntWalk.i64_in _ (by omega)];omega
   have z1:=h3 i hi2;refine ⟨⟨by omega,by omega⟩,rfl,rfl,Nat.le_refl _,cat_le _ _,(show (3:Nat)<=1000 by omega),ok3 (show szz _ by unfold szz;decide) z1.z (show szz _ by unfold szz;decide),i+1,hi2,by omega,hw2,rfl,rfl,eqDx ?_ ⟨rfl,rfl,rfl⟩⟩;simp only [put1s,put2s,put3s,put4s,put5s,cat_cat,catTo_succ,List.append_assoc]<;>rfl
  ·have hl:=of_decide_eq_false hl;have hi3:i=vs.len:=by have:i<=vs.len:=hi;omega
   subst hi3;refine ⟨rfl,rfl,h4,cat_le _ _,rfl,rfl,Nat.le_refl _,cat_le _ _,o1,ok1 (by decide),eqD ?_⟩;unfold prWd;simp only [put1s,put2s,put3s,put4s,put5s,cat_cat,List.append_assoc]<;>rfl
 ·trivial
noncomputable def syxS:List Dat->Option (Eff × List Seg):=fun ds=>match ds with
 | [.d w,.d ch,.d ru,.d pr]=>some ({val:=.tup [],vc:=[SyOK ch ru pr,SyF ch ru pr,w.len<=2001],nw:=[(0,.orow 9 (cat w (syW ch ru pr)))]},[.c (.osl 9 0 (.lit 0) (.sym (cat w (syW ch ru pr)).len))])
 |_=>none
noncomputable def syxC:Con:=conM 174 [.own 9] [lSy] syxS
theorem syx_ok:ConOK Tryz.prog 54 syxC:=by
 refine fn_obM tt_ok mixed Tryz.func54 rfl (fun _ _=>by kernel_rfl) (A:=fun ds=>⟨fun _=>Cons.of [(97,chxC),(98,ruxC),(99,prxC)],fun k=>match k,ds with | 2,[.d w,.d ch,.d ru,.d pr]=>some {ι:=Nat,pre:=fun _ i=>i<=ch.len,μ:=fun i=>ch.len-i,st:=fun s i=>famR s [(13,.one (.sc (.int .i64 (.sym ((i:Int))))))] [0,3,11,12] [(0,.own 174 ([.c (.osl 9 1 (.lit 0) (.sym (cat w (catTo i (chWE ch))).len))])),(1,.orow 9 (cat w (catTo i (chWE ch))))] [3]} | 7,[.d w,.d ch,.d ru,.d pr]=>some {ι:=Nat,pre:=fun _ i=>i<=ru.len,μ:=fun i=>ru.len-i,st:=fun s i=>famR s [(24,.one (.sc (.int .i64 (.sym ((i:Int))))))] [0,3,22,23] [(0,.own 174 ([.c (.osl 9 1 (.lit 0) (.sym (cat w (catTo ch.len (chWE ch)++catTo i (ruWE ru))).len))])),(1,.orow 9 (cat w (catTo ch.len (chWE ch)++catTo i (ruWE ru))))] [3]} | 12,[.d w,.d ch,.d ru,.d pr]=>some {ι:=Nat,pre:=fun _ i=>i<=pr.len,μ:=fun i=>pr.len-i,st:=fun s i=>famR s [(35,.one (.sc (.int .i64 (.sym ((i:Int))))))] [0,3,33,34] [(0,.own 174 ([.c (.osl 9 1 (.lit 0) (.sym (cat w ((catTo ch.len (chWE ch)++catTo ru.len (ruWE ru))++catTo i (prWE pr))).len))])),(1,.orow 9 (cat w ((catTo ch.len (chWE ch)++catTo ru.len (ruWE ru))++catTo i (prWE pr))))] [3]} |_,_=>none,fun _=>none⟩) (fun _ _=>(cons_cons chx_ok (cons_cons rux_ok (cons_cons prx_ok cons_nil)))) (by kernel_rfl) ?_
 intro ds;unfold syxS;split
 ·rename_i w ch ru pr
  refine kmp (q:=SyOK ch ru pr->SyF ch ru pr->w.len<=2001->(∃ (i:Nat),i.le ch.len/\(0:Int)=(i:Int)/\ch.rows=ch.rows/\(ch.len:Int)=(ch.len:Int)/\w.len=(cat w (catTo i (chWE ch))).len/\w.rows=List.take (2001:Nat) (w.rows++List.map sR (catTo i (chWE ch)))/\ch.rows=ch.rows/\ru.rows=ru.rows/\pr.rows=pr.rows)/\∀ (i:Nat),i.le ch.len->(decide ((i:Int)<(ch.len:Int))=true->((0:Int)<=(i:Int)/\(i:Int)<(ch.len:Int))/\(0:Nat)=(0:Nat)/\(cat w (catTo i (chWE ch))).len=(cat w (catTo i (chWE ch))).len/\chF (ch.el (i:Int).toNat 0).toS (ch.el (i:Int).toNat 2).toI (ch.el (i:Int).toNat 3).toS (ch.el (i:Int).toNat 4).toS (ch.el (i:Int).toNat 5)/\(cat w (catTo i (chWE ch))).len<=2001/\∃ (j:Nat),j.le ch.len/\ch.len-j<ch.len-i/\IntKind.i64.wrap ((i:Int)+(1:Int))=(j:Int)/\ch.rows=ch.rows/\(ch.len:Int)=(ch.len:Int)/\(cat (cat w (catTo i (chWE ch))) (chWd (ch.el (i:Int).toNat 0).toS (ch.el (i:Int).toNat 1).toI (ch.el (i:Int).toNat 2).toI (ch.el (i:Int).toNat 3).toS (ch.el (i:Int).toNat 4).toS (ch.el (i:Int).toNat 5))).len=(cat w (catTo j (chWE ch))).len/\List.take (2001:Nat) (List.take (2001:Nat) (w.rows++List.map sR (catTo i (chWE ch)))++List.map sR (chWd (ch.el (i:Int).toNat 0).toS (ch.el (i:Int).toNat 1).toI (ch.el (i:Int).toNat 2).toI (ch.el (i:Int).toNat 3).toS (ch.el (i:Int).toNat 4).toS (ch.el (i:Int).toNat 5)))=List.take (2001:Nat) (w.rows++List.map sR (catTo j (chWE ch)))/\ch.rows=ch.rows/\ru.rows=ru.rows/\pr.rows=pr.rows)/\(decide ((i:Int)<(ch.len:Int))=false->(∃ (i_1:Nat),i_1.le ru.len/\(0:Int)=(i_1:Int)/\ru.rows=ru.rows/\(ru.len:Int)=(ru.len:Int)/\(cat w (catTo i (chWE ch))).len=(cat w (catTo ch.len (chWE ch)++catTo i_1 (ruWE ru))).len/\List.take (2001:Nat) (w.rows++List.map sR (catTo i (chWE ch)))=List.take (2001:Nat) (w.rows++List.map sR (catTo ch.len (chWE ch)++catTo i_1 (ruWE ru)))/\ch.rows=ch.rows/\ru.rows=ru.rows/\pr.rows=pr.rows)/\∀ (i:Nat),i.le ru.len->(decide ((i:Int)<(ru.len:Int))=true->((0:Int)<=(i:Int)/\(i:Int)<(ru.len:Int))/\(0:Nat)=(0:Nat)/\(cat w (catTo ch.len (chWE ch)++catTo i (ruWE ru))).len=(cat w (catTo ch.len (chWE ch)++catTo i (ruWE ru))).len/\ruF (ru.el (i:Int).toNat 0).toS (ru.el (i:Int).toNat 1)/\(cat w (catTo ch.len (chWE ch)++catTo i (ruWE ru))).len<=2001/\∃ (j:Nat),j.le ru.len/\ru.len-j<ru.len-i/\IntKind.i64.wrap ((i:Int)+(1:Int))=(j:Int)/\ru.rows=ru.rows/\(ru.len:Int)=(ru.len:Int)/\(cat (cat w (catTo ch.len (chWE ch)++catTo i (ruWE ru))) (ruWd (ru.el (i:Int).toNat 0).toS (ru.el (i:Int).toNat 1))).len=(cat w (catTo ch.len (chWE ch)++catTo j (ruWE ru))).len/\List.take (2001:Nat) (List.take (2001:Nat) (w.rows++List.map sR (catTo ch.len (chWE ch)++catTo i (ruWE ru)))++List.map sR (ruWd (ru.el (i:Int).toNat 0).toS (ru.el (i:Int).toNat 1)))=List.take (2001:Nat) (w.rows++List.map sR (catTo ch.len (chWE ch)++catTo j (ruWE ru)))/\ch.rows=ch.rows/\ru.rows=ru.rows/\pr.rows=pr.rows)/\(decide ((i:Int)<(ru.len:Int))=false->(∃ (i_1:Nat),i_1.le pr.len/\(0:Int)=(i_1:Int)/\pr.rows=pr.rows/\(pr.len:Int)=(pr.len:Int)/\(cat w (catTo ch.len (chWE ch)++catTo i (ruWE ru))).len=(cat w (catTo ch.len (chWE ch)++catTo ru.len (ruWE ru)++catTo i_1 (prWE pr))).len/\List.take (2001:Nat) (w.rows++List.map sR (catTo ch.len (chWE ch)++catTo i (ruWE ru)))=List.take (2001:Nat) (w.rows++List.map sR (catTo ch.len (chWE ch)++catTo ru.len (ruWE ru)++catTo i_1 (prWE pr)))/\ch.rows=ch.rows/\ru.rows=ru.rows/\pr.rows=pr.rows)/\∀ (i:Nat),i.le pr.len->(decide ((i:Int)<(pr.len:Int))=true->((0:Int)<=(i:Int)/\(i:Int)<(pr.len:Int))/\(0:Nat)=(0:Nat)/\(cat w (catTo ch.len (chWE ch)++catTo ru.len (ruWE ru)++catTo i (prWE pr))).len=(cat w (catTo ch.len (chWE ch)++catTo ru.len (ruWE ru)++catTo i (prWE pr))).len/\prcF (pr.el (i:Int).toNat 0).toS (pr.el (i:Int).toNat 1) (pr.el (i:Int).toNat 2)/\(cat w (catTo ch.len (chWE ch)++catTo ru.len (ruWE ru)++catTo i (prWE pr))).len<=2001/\∃ (j:Nat),j.le pr.len/\pr.len-j<pr.len-i/\IntKind.i64.wrap ((i:Int)+(1:Int))=(j:Int)/\pr.rows=pr.rows/\(pr.len:Int)=(pr.len:Int)/\(cat (cat w (catTo ch.len (chWE ch)++catTo ru.len (ruWE ru)++catTo i (prWE pr))) (prWd (pr.el (i:Int).toNat 0).toS (pr.el (i:Int).toNat 1) (pr.el (i:Int).toNat 2))).len=(cat w (catTo ch.len (chWE ch)++catTo ru.len (ruWE ru)++catTo j (prWE pr))).len/\List.take (2001:Nat) (List.take (2001:Nat) (w.rows++List.map sR (catTo ch.len (chWE ch)++catTo ru.len (ruWE ru)++catTo i (prWE pr)))++List.map sR (prWd (pr.el (i:Int).toNat 0).toS (pr.el (i:Int).toNat 1) (pr.el (i:Int).toNat 2)))=List.take (2001:Nat) (w.rows++List.map sR (catTo ch.len (chWE ch)++catTo ru.len (ruWE ru)++catTo j (prWE pr)))/\ch.rows=ch.rows/\ru.rows=ru.rows/\pr.rows=pr.rows)/\(decide ((i:Int)<(pr.len:Int))=false->(cat w (catTo ch.len (chWE ch)++catTo ru.len (ruWE ru)++catTo i (prWE pr))).len=(cat w (syW ch ru pr)).len/\List.take (2001:Nat) (w.rows++List.map sR (catTo ch.len (chWE ch)++catTo ru.len (ruWE ru)++catTo i (prWE pr)))=List.take (2001:Nat) (w.rows++List.map sR (syW ch ru pr)))))) (by kernel_rfl) ?_
  intro hk hf hw;refine ⟨⟨0,Nat.zero_le _,rfl,rfl,rfl,(cat_nil hw).1,(cat_nil hw).2,rfl,rfl,rfl⟩,fun i hi=>⟨fun hl=>?_,fun hl=>?_⟩⟩
  ·have hl:=of_decide_eq_true hl;have hi2:i<ch.len:=by omega
   have hb:=hk.c;have hw2:IntKind.i64.wrap ((i:Int)+1)=((i+1:Nat):Int):=by rw [IntWalk.i64_in _ (by omega)];omega
   have z1:=hf.c i hi2;refine ⟨⟨by omega,by omega⟩,rfl,rfl,z1,cat_le _ _,i+1,hi2,by omega,hw2,rfl,rfl,eqDx ?_ ⟨rfl,rfl,rfl⟩⟩;simp only [put1s,put2s,put3s,put4s,put5s,cat_cat,catTo_succ,List.append_assoc]<;>rfl
  ·have hl:=of_decide_eq_false hl;have hi3:i=ch.len:=by have:i<=ch.len:=hi;omega
   subst hi3;refine ⟨⟨0,Nat.zero_le _,rfl,rfl,rfl,eqDx ?_ ⟨rfl,rfl,rfl⟩⟩,fun i hi=>⟨fun hl=>?_,fun hl=>?_⟩⟩
   ·simp only [catTo,List.range_zero,List.map_nil,List.flatten_nil,List.append_nil]
   ·have hl:=of_decide_eq_true hl;have hi2:i<ru.len:=by omega
    have hb:=hk.r;have hw2:IntKind.i64.wrap ((i:Int)+1)=((i+1:Nat):Int):=by rw [IntWalk.i64_in _ (by omega)];omega
    have z1:=hf.r i hi2;refine ⟨⟨by omega,by omega⟩,rfl,rfl,z1,cat_le _ _,i+1,hi2,by omega,hw2,rfl,rfl,eqDx ?_ ⟨rfl,rfl,rfl⟩⟩;simp only [put1s,put2s,put3s,put4s,put5s,cat_cat,catTo_succ,List.append_assoc]<;>rfl
   ·have hl:=of_decide_eq_false hl;have hi3:i=ru.len:=by have:i<=ru.len:=hi;omega
    subst hi3;refine ⟨⟨0,Nat.zero_le _,rfl,rfl,rfl,eqDx ?_ ⟨rfl,rfl,rfl⟩⟩,fun i hi=>⟨fun hl=>?_,fun hl=>?_⟩⟩
    ·simp only [catTo,List.range_zero,List.map_nil,List.flatten_nil,List.append_nil]
    ·have hl:=of_decide_eq_true hl;have hi2:i<pr.len:=by omega
     have hb:=hk.p;have hw2:IntKind.i64.wrap ((i:Int)+1)=((i+1:Nat):Int):=by rw [IntWalk.i64_in _ (by omega)];omega
     have z1:=hf.p i hi2;refine ⟨⟨by omega,by omega⟩,rfl,rfl,z1,cat_le _ _,i+1,hi2,by omega,hw2,rfl,rfl,eqDx ?_ ⟨rfl,rfl,rfl⟩⟩;simp only [put1s,put2s,put3s,put4s,put5s,cat_cat,catTo_succ,List.append_assoc]<;>rfl
    ·have hl:=of_decide_eq_false hl;have hi3:i=pr.len:=by have:i<=pr.len:=hi;omega
     subst hi3;refine eqD ?_
     unfold syW;simp only [List.append_assoc]
 ·trivial
end Go.Proofs.YtplejbgafjpomaaGreatDoor.Sx.Z
namespace Go.Proofs.YtplejbgafjpomaaGreatDoor.Sx.Z
open Go.RowKit
def wdD (ch ru pr:D):D:=cat (.l []) (syW ch ru pr)
def wdE (ch ru pr:D):Int:=if syB ch ru pr=true then (if syN pr=true then (if ((wdD ch ru pr).len:Int)>2000 then 4 else 0) else 6) else 5
def wdA (ch ru pr:D):D:=if wdE ch ru pr=0 then wdD ch ru pr else .l []
theorem wd5 {ch ru pr:D} (h:syB ch ru pr=false):wdE ch ru pr=5:=by unfold wdE;rw [h];rfl
theorem wd6 {ch ru pr:D} (h:syB ch ru pr=true) (h2:syN pr=false):wdE ch ru pr=6:=by unfold wdE;rw [h,h2];rfl
theorem wd4 {ch ru pr:D} (h:syB ch ru pr=true) (h2:syN pr=true) (h3:((wdD ch ru pr).len:Int)>2000):wdE ch ru pr=4:=by unfold wdE;rw [h,h2,if_pos rfl,if_pos rfl,if_pos h3]
theorem wd0 {ch ru pr:D} (h:syB ch ru pr=true) (h2:syN pr=true) (h3:¬ ((wdD ch ru pr).len:Int)>2000):wdE ch ru pr=0:=by unfold wdE;rw [h,h2,if_pos rfl,if_pos rfl,if_neg h3]
noncomputable def wrdS:FSpec:=fun ds _=>match ds with
 | [.d ch,.d ru,.d pr]=>some {val:=.tup [.sc (.rows 9 (wdA ch ru pr)),.sc (.int .i64 (.sym (wdE ch ru pr)))],vc:=[SyOK ch ru pr,(syB ch ru pr=true->syN pr=true->SyF ch ru pr)]}
 |_=>none
noncomputable def wrdC:Con:=con [lSy] wrdS
theorem wrd_ok:ConOK Tryz.prog 29 wrdC:=by
 refine fn_ob tt_ok mixed Tryz.func29 rfl (fun _ _=>by kernel_rfl) (A:=fun ds=>⟨fun _=>Cons.of [(52,syrC),(53,sydC),(54,syxC),(55,tooMC)],fun _=>none,fun _=>none⟩) (fun _ _=>(cons_cons syr_ok (cons_cons syd_ok (cons_cons syx_ok (cons_cons tooM_ok cons_nil))))) (by kernel_rfl) ?_
 intro ds fr;unfold wrdS;split
 ·rename_i ch ru pr;refine kmp (q:=SyOK ch ru pr->(syB ch ru pr=true->syN pr=true->SyF ch ru pr)->SyOK ch ru pr/\((!syB ch ru pr)=true->(wdA ch ru pr).rows=[]/\(5:Int)=wdE ch ru pr)/\((!syB ch ru pr)=false->SyOK ch ru pr/\syB ch ru pr=true/\((!syN pr)=true->(wdA ch ru pr).rows=[]/\(6:Int)=wdE ch ru pr)/\((!syN pr)=false->SyOK ch ru pr/\SyF ch ru pr/\(D.l []).len<=2001/\(0:Nat)=(0:Nat)/\(cat (D.l []) (syW ch ru pr)).len=(cat (D.l []) (syW ch ru pr)).len/\(cat (D.l []) (syW ch ru pr)).len<=10000000000000/\(decide ((↑(cat (D.l []) (syW ch ru pr)).len:Int)>(2000:Int))=true->(wdA ch ru pr).rows=[]/\(4:Int)=wdE ch ru pr)/\(decide ((↑(cat (D.l []) (syW ch ru pr)).len:Int)>(2000:Int))=false->(0:Nat)+(cat (D.l []) (syW ch ru pr)).len<=(cat (D.l []) (syW ch ru pr)).len/\List.drop ((0:Nat)) (List.take ((0:Nat)+(cat (D.l []) (syW ch ru pr)).len) (List.take (2001:Nat) ([]++List.map sR (syW ch ru pr))))=(wdA ch ru pr).rows/\(0:Int)=wdE ch ru pr)))) (by kernel_rfl) ?_
  intro hk hf;have an:wdE ch ru pr≠0->(wdA ch ru pr).rows=[]:=fun h=>by unfold wdA;rw [if_neg h];rfl
  refine ⟨hk,fun h=>?_,fun h=>?_⟩
  ·rw [Bool.not_eq_true'] at h;have e:=wd5 h;exact ⟨an (by rw [e];decide),e.symm⟩
  ·rw [Bool.not_eq_false'] at h;refine ⟨hk,h,fun h2=>?_,fun h2=>?_⟩
   ·rw [Bool.not_eq_true'] at h2;have e:=wd6 h h2;exact ⟨an (by rw [e];decide),e.symm⟩
   ·rw [Bool.not_eq_false'] at h2;refine ⟨hk,hf h h2,Nat.zero_le _,rfl,rfl,Nat.le_trans (cat_le _ _) (by decide),fun h3=>?_,fun h3=>?_⟩
    ·have e:=wd4 h h2 (of_decide_eq_true h3);exact ⟨an (by rw [e];decide),e.symm⟩
    ·have e:=wd0 h h2 (of_decide_eq_false h3);have ea:wdA ch ru pr=wdD ch ru pr:=if_pos e;refine ⟨by omega,?_,e.symm⟩;rw [ea,Nat.zero_add];show List.drop 0 (List.take (wdD ch ru pr).rows.length (wdD ch ru pr).rows)=_;rw [List.take_length];rfl
 ·trivial
end Go.Proofs.YtplejbgafjpomaaGreatDoor.Sx.Z
namespace Go.Proofs.YtplejbgafjpomaaGreatDoor.Sx.Z
open Go.RowKit
def lXr:AP:=.agg [.c (.int .i64),.c (.int .i64),.c .str,.c (.rows 143)]
def lCr:AP:=.agg [.c (.int .i64),.c (.int .i64),.c (.int .i64),.c .str,.c (.rows 143),.c (.int .i64),.c (.int .i64),.c .str,.c (.rows 143)]
def cpTo (n:Nat) (f:Nat->List D):D:=.l ((List.range n).map f)
theorem cpTo_len (n:Nat) (f:Nat->List D):(cpTo n f).len=n:=by
 show ((List.range n).map f).length=n;rw [List.length_map,List.length_range]
theorem cpTo_succ (n:Nat) (f:Nat->List D):(cpTo (n+1) f).rows=(cpTo n f).rows++[f n]:=by
 show (List.range (n+1)).map f=(List.range n).map f++[f n];rw [List.range_succ,List.map_append];rfl
theorem cpF_eq {n:Nat} (f:Nat->List D):D.l ((List.finRange n).map fun i=>f i.1)=cpTo n f:=by
 unfold cpTo
 congr 1
 apply List.ext_getElem
 ·simp
 ·intro i h1 h2
  simp
def cpE (d:D):D:=.l ((List.finRange d.len).map fun (i:Fin d.len)=>[D.i (d.el i 0).toI,D.i (d.el i 1).toI,D.s (d.el i 2).toS,cpE (d.el i 3)])
 termination_by SizeOf.sizeOf d
 decreasing_by exact lel_lt i.isLt
def rX (d:D) (i:Nat):List D:=[D.i (d.el i 0).toI,D.i (d.el i 1).toI,D.s (d.el i 2).toS,cpE (d.el i 3)]
theorem cpE_eq (d:D):cpE d=cpTo d.len (rX d):=by
 rw [cpE,<- cpF_eq];rfl
def kS (d:D):Prop:=d.len*56<=140737488355328/\∀ i:Fin d.len,kS (d.el i 3)
 termination_by SizeOf.sizeOf d
 decreasing_by exact lel_lt i.isLt
theorem kS_iff (d:D):kS d↔d.len*56<=140737488355328/\∀ i,i<d.len->kS (d.el i 3):=by
 rw [kS];exact ⟨fun h=>⟨h.1,fun i hi=>h.2 ⟨i,hi⟩⟩,fun h=>⟨h.1,fun i=>h.2 i.1 i.2⟩⟩
noncomputable def xcpS:FSpec:=fun ds _=>match ds with
 | [.i k,.i n,.s s,.d d]=>some {val:=.one (.agg [.c (.int .i64 (.sym (k))),.c (.int .i64 (.sym (n))),.c (.raw (.string (s))),.c (.rows 186 (cpE d))]),vc:=[kS d]}
 |_=>none
noncomputable def xcpC:Con:=con [lXr] xcpS
noncomputable def xcpM:List Dat->Nat:=fun ds=>match ds with
 | [.i _k,.i _n,.s _s,.d d]=>SizeOf.sizeOf d
 |_=>0
noncomputable def xcpSu (m:Nat):FSpec:=fun ds _=>match ds with
 | [.i k,.i n,.s s,.d d]=>some {val:=.one (.agg [.c (.int .i64 (.sym (k))),.c (.int .i64 (.sym (n))),.c (.raw (.string (s))),.c (.rows 186 (cpE d))]),vc:=[SizeOf.sizeOf d<m,kS d]}
 |_=>none
theorem xcp_under (m:Nat):xcpS.under xcpM m=xcpSu m:=by
 funext ds fr
 unfold FSpec.under xcpS xcpM xcpSu;split
 ·rename_i e h
  split at h
  ·obtain rfl:=Option.some.inj h;rfl
  ·cases h
 ·rename_i h
  split at h
  ·cases h
  ·rfl
theorem xcp_step (m:Nat) (ih:ConOK Tryz.prog 62 (con [lXr] (xcpSu m))):ConOK Tryz.prog 62 (con [lXr] (xcpSu (m+1))):=by
 refine fn_ob tt_ok mixed Tryz.func62 rfl (fun _ _=>by kernel_rfl) (A:=fun ds=>⟨fun _=>Cons.of [(62,con [lXr] (xcpSu m))],fun k=>match k,ds with | 3,[.i k,.i n,.s s,.d d]=>some {ι:=Nat,pre:=fun _ i=>i<=d.len,μ:=fun i=>d.len+1-i,st:=fun s i=>famR s [(4,.one (.sc (.int .i64 (.sym ((i:Nat)))))),(3,.one (.sc (.osl 186 (s.nx-1) (.lit 0) (.sym (i)))))] [1,2] [(s.nx-1,.orow 186 (cpTo i (rX d)))] [1,2]} |_,_=>none,fun _=>none⟩) (fun _ _=>(cons_cons ih cons_nil)) (by kernel_rfl) ?_
 intro ds fr;unfold xcpSu;split
 ·rename_i k n s d;refine kmp (q:=SizeOf.sizeOf d<m+(1:Nat)->kS d->(∃ (i:Nat),i.le d.len/\(0:Int)=(i:Int)/\i=(0:Nat)/\List.map (rX d) (List.range i)=[]/\k=k/\n=n/\Value.string s=Value.string s/\d.rows=d.rows/\(0:Int)=(0:Int)/\(0:Int)=(0:Int)/\Value.string ByteArray.empty=Value.string ByteArray.empty)/\∀ (i:Nat),i.le d.len->(decide ((i:Int)<(d.len:Int))=true->((0:Int)<=(i:Int)/\(i:Int)<(d.len:Int))/\SizeOf.sizeOf (d.el (i:Int).toNat 3)<m/\kS (d.el (i:Int).toNat 3)/\i=(cpTo i (rX d)).len/\(i+((D.l [[D.i (d.el (i:Int).toNat 0).toI,D.i (d.el (i:Int).toNat 1).toI,D.s (d.el (i:Int).toNat 2).toS,cpE (d.el (i:Int).toNat 3)]]).sub (0:Nat) 1).len)*(56:Nat)<=(140737488355328:Nat)/\(0:Nat)+(1:Nat)<=(D.l [[D.i (d.el (i:Int).toNat 0).toI,D.i (d.el (i:Int).toNat 1).toI,D.s (d.el (i:Int).toNat 2).toS,cpE (d.el (i:Int).toNat 3)]]).len/\∃ (j:Nat),j.le d.len/\d.len+(1:Nat)-j<d.len+(1:Nat)-i/\IntKind.i64.wrap ((i:Int)+(1:Int))=(j:Int)/\i+((D.l [[D.i (d.el (i:Int).toNat 0).toI,D.i (d.el (i:Int).toNat 1).toI,D.s (d.el (i:Int).toNat 2).toS,cpE (d.el (i:Int).toNat 3)]]).sub (0:Nat) 1).len=j/\List.map (rX d) (List.range i)++List.drop (0:Nat) (List.take 1 [[D.i (d.el (i:Int).toNat 0).toI,D.i (d.el (i:Int).toNat 1).toI,D.s (d.el (i:Int).toNat 2).toS,cpE (d.el (i:Int).toNat 3)]])=List.map (rX d) (List.range j)/\k=k/\n=n/\Value.string s=Value.string s/\d.rows=d.rows/\(0:Int)=(0:Int)/\(0:Int)=(0:Int)/\Value.string ByteArray.empty=Value.string ByteArray.empty)/\(decide ((i:Int)<(d.len:Int))=false->(0:Nat)+i<=(cpTo i (rX d)).len/\k=k/\n=n/\Value.string s=Value.string s/\List.drop ((0:Nat)) (List.take ((0:Nat)+i) (List.map (rX d) (List.range i)))=(cpE d).rows)) (by kernel_rfl) ?_
  intro hm hs;rw [kS_iff] at hs;obtain ⟨h1,h2⟩:=hs;refine ⟨⟨0,Nat.zero_le _,rfl,rfl,rfl,rfl,rfl,rfl,rfl,rfl,rfl,rfl⟩,fun i hi=>⟨fun hl=>?_,fun hl=>?_⟩⟩
  ·have hl:=of_decide_eq_true hl;have hi2:i<d.len:=by omega
   have hw2:IntKind.i64.wrap ((i:Int)+1)=((i+1:Nat):Int):=by rw [IntWalk.i64_in _ (by omega)];omega
   have z:=lel_lt (j:=3) hi2;exact ⟨⟨by omega,by omega⟩,(show SizeOf.sizeOf (d.el i 3)<m by omega),h2 i hi2,(cpTo_len _ _).symm,(show (i+1)*56<=140737488355328 by omega),Nat.le_refl _,i+1,hi2,by omega,hw2,rfl,(cpTo_succ i (rX d)).symm,rfl,rfl,rfl,rfl,rfl,rfl,rfl⟩
  ·have hl:=of_decide_eq_false hl;have hi3:i=d.len:=by have:i<=d.len:=hi;omega
   subst hi3;refine ⟨by rw [cpTo_len];omega,rfl,rfl,rfl,?_⟩;rw [cpE_eq,Nat.zero_add,List.drop_zero,List.take_of_length_le (by simp)];rfl
 ·trivial
theorem xcp_ok:ConOK Tryz.prog 62 xcpC:=
 con_rec xcpM (fun _ _=>by kernel_rfl) fun m ih=>by
  rw [xcp_under] at ih ⊢;exact xcp_step m ih
noncomputable def ccpS:FSpec:=fun ds _=>match ds with
 | [.i op,.i lk,.i ln,.s ls,.d ld,.i rk,.i rn,.s rs,.d rd]=>some {val:=.one (.agg [.c (.int .i64 (.sym (op))),.c (.int .i64 (.sym (lk))),.c (.int .i64 (.sym (ln))),.c (.raw (.string (ls))),.c (.rows 186 (cpE ld)),.c (.int .i64 (.sym (rk))),.c (.int .i64 (.sym (rn))),.c (.raw (.string (rs))),.c (.rows 186 (cpE rd))]),vc:=[kS ld,kS rd]}
 |_=>none
noncomputable def ccpC:Con:=con [lCr] ccpS
theorem ccp_ok:ConOK Tryz.prog 63 ccpC:=by
 refine fn_ob tt_ok mixed Tryz.func63 rfl (fun _ _=>by kernel_rfl) (A:=fun ds=>⟨fun _=>Cons.of [(62,xcpC)],fun _=>none,fun _=>none⟩) (fun _ _=>(cons_cons xcp_ok cons_nil)) (by kernel_rfl) ?_
 intro ds fr;unfold ccpS;split
 ·rename_i op lk ln ls ld rk rn rs rd;refine kmp (q:=kS ld->kS rd->kS ld/\kS rd/\op=op/\lk=lk/\ln=ln/\Value.string ls=Value.string ls/\(cpE ld).rows=(cpE ld).rows/\rk=rk/\rn=rn/\Value.string rs=Value.string rs/\(cpE rd).rows=(cpE rd).rows) (by kernel_rfl) ?_
  intro hl hr;exact ⟨hl,hr,rfl,rfl,rfl,rfl,rfl,rfl,rfl,rfl,rfl⟩
 ·trivial
end Go.Proofs.YtplejbgafjpomaaGreatDoor.Sx.Z
namespace Go.Proofs.YtplejbgafjpomaaGreatDoor.Sx.Z
open Go.RowKit
def lBr:AP:=.sc (.rows 148)
theorem cpTo_all (n:Nat) (f:Nat->List D):(cpTo n f).sub 0 (0+n)=cpTo n f:=by
 rw [Nat.zero_add];show D.l (List.drop 0 (List.take n ((List.range n).map f)))=_;rw [List.take_of_length_le (by simp)];rfl
def cpB (d:D):D:=.l ((List.finRange d.len).map fun (i:Fin d.len)=>[D.i (d.el i 0).toI,D.s (d.el i 1).toS,D.s (d.el i 2).toS,D.i (d.el i 3).toI,D.i (d.el i 4).toI,D.s (d.el i 5).toS,cpE (d.el i 6),D.i (d.el i 7).toI,D.i (d.el i 8).toI,D.i (d.el i 9).toI,D.s (d.el i 10).toS,cpE (d.el i 11),D.i (d.el i 12).toI,D.i (d.el i 13).toI,D.s (d.el i 14).toS,cpE (d.el i 15),cpB (d.el i 16),cpB (d.el i 17),.l ((List.finRange (d.el i 18).len).map fun (j:Fin (d.el i 18).len)=>[D.s ((d.el i 18).el j 0).toS,D.s ((d.el i 18).el j 1).toS,cpB ((d.el i 18).el j 2)])])
 termination_by SizeOf.sizeOf d
 decreasing_by
  ·exact lel_lt i.isLt
  ·exact lel_lt i.isLt
  ·exact Nat.lt_trans (lel_lt j.isLt) (lel_lt i.isLt)
def arR (am:D) (j:Nat):List D:=[D.s (am.el j 0).toS,D.s (am.el j 1).toS,cpB (am.el j 2)]
def rSt (d:D) (i:Nat):List D:=[D.i (d.el i 0).toI,D.s (d.el i 1).toS,D.s (d.el i 2).toS,D.i (d.el i 3).toI,D.i (d.el i 4).toI,D.s (d.el i 5).toS,cpE (d.el i 6),D.i (d.el i 7).toI,D.i (d.el i 8).toI,D.i (d.el i 9).toI,D.s (d.el i 10).toS,cpE (d.el i 11),D.i (d.el i 12).toI,D.i (d.el i 13).toI,D.s (d.el i 14).toS,cpE (d.el i 15),cpB (d.el i 16),cpB (d.el i 17),cpTo (d.el i 18).len (arR (d.el i 18))]
theorem cpB_eq (d:D):cpB d=cpTo d.len (rSt d):=by
 rw [cpB,<- cpF_eq]
 congr 2
 funext i
 unfold rSt;rw [<- cpF_eq];rfl
def bS (d:D):Prop:=d.len*288<=140737488355328/\∀ i:Fin d.len,kS (d.el i 6)/\kS (d.el i 11)/\kS (d.el i 15)/\bS (d.el i 16)/\bS (d.el i 17)/\(d.el i 18).len*56<=140737488355328/\∀ j:Fin (d.el i 18).len,bS ((d.el i 18).el j 2)
 termination_by SizeOf.sizeOf d
 decreasing_by
  ·exact lel_lt i.isLt
  ·exact lel_lt i.isLt
  ·exact Nat.lt_trans (lel_lt j.isLt) (lel_lt i.isLt)
theorem bS_iff (d:D):bS d↔d.len*288<=140737488355328/\∀ i,i<d.len->kS (d.el i 6)/\kS (d.el i 11)/\kS (d.el i 15)/\bS (d.el i 16)/\bS (d.el i 17)/\(d.el i 18).len*56<=140737488355328/\∀ j,j<(d.el i 18).len->bS ((d.el i 18).el j 2):=by
 rw [bS];refine ⟨fun h=>⟨h.1,fun i hi=>?_⟩,fun h=>⟨h.1,fun i=>?_⟩⟩
 ·obtain ⟨a,b,c,e,f,g,k⟩:=h.2 ⟨i,hi⟩;exact ⟨a,b,c,e,f,g,fun j hj=>k ⟨j,hj⟩⟩
 ·obtain ⟨a,b,c,e,f,g,k⟩:=h.2 i.1 i.2;exact ⟨a,b,c,e,f,g,fun j=>k j.1 j.2⟩
noncomputable def scpS:FSpec:=fun ds _=>match ds with
 | [.d d]=>some {val:=.one (.sc (.rows 193 (cpB d))),vc:=[bS d]}
 |_=>none
noncomputable def scpC:Con:=con [lBr] scpS
noncomputable def scpM:List Dat->Nat:=fun ds=>match ds with
 | [.d d]=>SizeOf.sizeOf d
 |_=>0
noncomputable def scpSu (m:Nat):FSpec:=fun ds _=>match ds with
 | [.d d]=>some {val:=.one (.sc (.rows 193 (cpB d))),vc:=[SizeOf.sizeOf d<m,bS d]}
 |_=>none
theorem scp_under (m:Nat):scpS.under scpM m=scpSu m:=by
 funext ds fr
 unfold FSpec.under scpS scpM scpSu;split
 ·rename_i e h
  split at h
  ·obtain rfl:=Option.some.inj h;rfl
  ·cases h
 ·rename_i h
  split at h
  ·cases h
  ·rfl
theorem scp_step (m:Nat) (ih:ConOK Tryz.prog 33 (con [lBr] (scpSu m))):ConOK Tryz.prog 33 (con [lBr] (scpSu (m+1))):=by
 refine fn_ob tt_ok mixed Tryz.func33 rfl (fun _ _=>by kernel_rfl) (A:=fun ds=>⟨fun _=>Cons.of [(62,xcpC),(63,ccpC),(33,con [lBr] (scpSu m))],fun k=>match k,ds with | 3,[.d d]=>some {ι:=Nat,pre:=fun _ i=>i<=d.len,μ:=fun i=>d.len+1-i,st:=fun s i=>famR s [(4,.one (.sc (.int .i64 (.sym ((i:Nat)))))),(3,.one (.sc (.osl 193 (s.nx-1) (.lit 0) (.sym (i)))))] [0] [(s.nx-1,.orow 193 (cpTo i (rSt d)))] []} | 8,[.d d]=>some {ι:=Nat,pre:=fun s q=>q<=(d.el (slotN s 4) 18).len/\True,μ:=fun q=>3000000000001-q,st:=fun s q=>famR s [(7,.one (.sc (.int .i64 (.sym ((q:Nat))))))] [0,3,4,5,6] [(idOf s 6,.own 193 ([.c (.int .i64 (.sym ((d.el (slotN s 4) 0).toI))),.c (.raw (.string ((d.el (slotN s 4) 1).toS))),.c (.raw (.string ((d.el (slotN s 4) 2).toS))),.c (.int .i64 (.sym ((d.el (slotN s 4) 3).toI))),.c (.int .i64 (.sym ((d.el (slotN s 4) 4).toI))),.c (.raw (.string ((d.el (slotN s 4) 5).toS))),.c (.rows 186 (cpE (d.el (slotN s 4) 6))),.c (.int .i64 (.sym ((d.el (slotN s 4) 7).toI))),.c (.int .i64 (.sym ((d.el (slotN s 4) 8).toI))),.c (.int .i64 (.sym ((d.el (slotN s 4) 9).toI))),.c (.raw (.string ((d.el (slotN s 4) 10).toS))),.c (.rows 186 (cpE (d.el (slotN s 4) 11))),.c (.int .i64 (.sym ((d.el (slotN s 4) 12).toI))),.c (.int .i64 (.sym ((d.el (slotN s 4) 13).toI))),.c (.raw (.string ((d.el (slotN s 4) 14).toS))),.c (.rows 186 (cpE (d.el (slotN s 4) 15))),.c (.rows 193 (cpB (d.el (slotN s 4) 16))),.c (.rows 193 (cpB (d.el (slotN s 4) 17))),.c (.osl 195 (s.nx-1) (.lit 0) (.sym q))])),(s.nx-1,.orow 195 (cpTo q (arR (d.el (slotN s 4) 18))))] [3,5]} |_,_=>none,fun _=>none⟩) (fun _ _=>(cons_cons xcp_ok (cons_cons ccp_ok (cons_cons ih cons_nil)))) (by kernel_rfl) ?_
 intro ds fr;unfold scpSu;split
 ·rename_i d
  refine kmp (q:=withv (fun (i:Nat)=>d.el (i:Int).toNat 18) fun E117=>withv (fun (i:Nat)=>d.el (i:Int).toNat 17) fun E118=>withv (fun (i:Nat)=>d.el (i:Int).toNat 16) fun E119=>withv (fun (i:Nat) (i_1:Nat)=>D.l [[D.i (d.el i 0).toI,D.s (d.el i 1).toS,D.s (d.el i 2).toS,D.i (d.el i 3).toI,D.i (d.el i 4).toI,D.s (d.el i 5).toS,cpE (d.el i 6),D.i (d.el i 7).toI,D.i (d.el i 8).toI,D.i (d.el i 9).toI,D.s (d.el i 10).toS,cpE (d.el i 11),D.i (d.el i 12).toI,D.i (d.el i 13).toI,D.s (d.el i 14).toS,cpE (d.el i 15),cpB (d.el i 16),cpB (d.el i 17),(cpTo i_1 (arR (d.el i 18))).sub ((0:Nat)) ((0:Nat)+i_1)]]) fun E120=>withv (fun (i:Nat)=>d.el (i:Int).toNat 15) fun E121=>withv (fun (i:Nat)=>d.el (i:Int).toNat 11) fun E122=>withv (fun (i:Nat)=>d.el (i:Int).toNat 14) fun E123=>withv (fun (i:Nat)=>d.el (i:Int).toNat 13) fun E124=>withv (fun (i:Nat)=>d.el (i:Int).toNat 12) fun E125=>withv (fun (i:Nat)=>d.el (i:Int).toNat 10) fun E126=>withv (fun (i:Nat)=>d.el (i:Int).toNat 9) fun E127=>withv (fun (i:Nat)=>d.el (i:Int).toNat 6) fun E128=>withv (fun (i:Nat)=>d.el (i:Int).toNat 8) fun E129=>withv (fun (i:Nat)=>d.el (i:Int).toNat 7) fun E130=>withv (fun (i:Nat) (i_1:Nat)=>D.l [[D.s ((E117 i).el (i_1:Int).toNat ((0:Nat)+(0:Nat))).toS,D.s ((E117 i).el (i_1:Int).toNat 1).toS,cpB ((E117 i).el (i_1:Int).toNat ((0:Nat)+(2:Nat)))]]) fun E131=>withv (fun (i:Nat)=>d.el (i:Int).toNat 5) fun E132=>withv (fun (i:Nat)=>d.el (i:Int).toNat 4) fun E133=>withv (fun (i:Nat)=>d.el (i:Int).toNat 3) fun E134=>withv (fun (i:Nat)=>d.el (i:Int).toNat 2) fun E135=>withv (fun (i:Nat)=>d.el (i:Int).toNat 1) fun E136=>withv (fun (i:Nat)=>d.el (i:Int).toNat 0) fun E137=>SizeOf.sizeOf d<m+(1:Nat)->bS d->(∃ (i:Nat),i.le d.len/\(0:Int)=(i:Int)/\i=(0:Nat)/\d.rows=d.rows/\List.map (rSt d) (List.range i)=[])/\∀ (i:Nat),i.le d.len->(decide ((i:Int)<(d.len:Int))=true->((0:Int)<=(i:Int)/\(i:Int)<(d.len:Int))/\kS (E128 i)/\kS (E122 i)/\kS (E121 i)/\SizeOf.sizeOf (E119 i)<m/\bS (E119 i)/\SizeOf.sizeOf (E118 i)<m/\bS (E118 i)/\(∃ (i_1:Nat),(i_1<=(d.el i 18).len/\True)/\(0:Int)=(i_1:Int)/\d.rows=d.rows/\i=i/\(i:Int)=(i:Int)/\(E137 i).toI=(d.el i 0).toI/\Value.string (E136 i).toS=Value.string (d.el i 1).toS/\Value.string (E135 i).toS=Value.string (d.el i 2).toS/\(E134 i).toI=(d.el i 3).toI/\(E133 i).toI=(d.el i 4).toI/\Value.string (E132 i).toS=Value.string (d.el i 5).toS/\(cpE (E128 i)).rows=(cpE (d.el i 6)).rows/\(E130 i).toI=(d.el i 7).toI/\(E129 i).toI=(d.el i 8).toI/\(E127 i).toI=(d.el i 9).toI/\Value.string (E126 i).toS=Value.string (d.el i 10).toS/\(cpE (E122 i)).rows=(cpE (d.el i 11)).rows/\(E125 i).toI=(d.el i 12).toI/\(E124 i).toI=(d.el i 13).toI/\Value.string (E123 i).toS=Value.string (d.el i 14).toS/\(cpE (E121 i)).rows=(cpE (d.el i 15)).rows/\(cpB (E119 i)).rows=(cpB (d.el i 16)).rows/\(cpB (E118 i)).rows=(cpB (d.el i 17)).rows/\i_1=(0:Nat)/\List.map (arR (d.el i 18)) (List.range i_1)=[]/\List.map (rSt d) (List.range i)=List.map (rSt d) (List.range i)/\(E137 i).toI=(E137 i).toI/\Value.string (E136 i).toS=Value.string (E136 i).toS/\Value.string (E135 i).toS=Value.string (E135 i).toS/\(E134 i).toI=(E134 i).toI/\(E133 i).toI=(E133 i).toI/\Value.string (E132 i).toS=Value.string (E132 i).toS/\(E128 i).rows=(E128 i).rows/\(E130 i).toI=(E130 i).toI/\(E129 i).toI=(E129 i).toI/\(E127 i).toI=(E127 i).toI/\Value.string (E126 i).toS=Value.string (E126 i).toS/\(E122 i).rows=(E122 i).rows/\(E125 i).toI=(E125 i).toI/\(E124 i).toI=(E124 i).toI/\Value.string (E123 i).toS=Value.string (E123 i).toS/\(E121 i).rows=(E121 i).rows/\(E119 i).rows=(E119 i).rows/\(E118 i).rows=(E118 i).rows/\(E117 i).rows=(E117 i).rows)/\∀ (i_1:Nat),i_1<=(d.el i 18).len/\True->(decide ((i_1:Int)<(↑(E117 i).len:Int))=true->((0:Int)<=(i_1:Int)/\(i_1:Int)<(↑(E117 i).len:Int))/\((0:Int)<=(i_1:Int)/\(i_1:Int)<(↑(E117 i).len:Int))/\((0:Int)<=(i_1:Int)/\(i_1:Int)<(↑(E117 i).len:Int))/\SizeOf.sizeOf ((E117 i).el (i_1:Int).toNat ((0:Nat)+(2:Nat)))<m/\bS ((E117 i).el (i_1:Int).toNat ((0:Nat)+(2:Nat)))/\i_1=(cpTo i_1 (arR (d.el i 18))).len/\(i_1+((E131 i i_1).sub (0:Nat) 1).len)*(56:Nat)<=(140737488355328:Nat)/\(0:Nat)+(1:Nat)<=(E131 i i_1).len/\∃ (j:Nat),(j<=(d.el i 18).len/\True)/\(3000000000001:Nat)-j<(3000000000001:Nat)-i_1/\IntKind.i64.wrap ((i_1:Int)+(1:Int))=(j:Int)/\d.rows=d.rows/\i=i/\(i:Int)=(i:Int)/\(d.el i 0).toI=(d.el i 0).toI/\Value.string (d.el i 1).toS=Value.string (d.el i 1).toS/\Value.string (d.el i 2).toS=Value.string (d.el i 2).toS/\(d.el i 3).toI=(d.el i 3).toI/\(d.el i 4).toI=(d.el i 4).toI/\Value.string (d.el i 5).toS=Value.string (d.el i 5).toS/\(cpE (d.el i 6)).rows=(cpE (d.el i 6)).rows/\(d.el i 7).toI=(d.el i 7).toI/\(d.el i 8).toI=(d.el i 8).toI/\(d.el i 9).toI=(d.el i 9).toI/\Value.string (d.el i 10).toS=Value.string (d.el i 10).toS/\(cpE (d.el i 11)).rows=(cpE (d.el i 11)).rows/\(d.el i 12).toI=(d.el i 12).toI/\(d.el i 13).toI=(d.el i 13).toI/\Value.string (d.el i 14).toS=Value.string (d.el i 14).toS/\(cpE (d.el i 15)).rows=(cpE (d.el i 15)).rows/\(cpB (d.el i 16)).rows=(cpB (d.el i 16)).rows/\(cpB (d.el i 17)).rows=(cpB (d.el i 17)).rows/\i_1+((E131 i i_1).sub (0:Nat) 1).len=j/\List.map (arR (d.el i 18)) (List.range i_1)++List.drop (0:Nat) (List.take 1 [[D.s ((E117 i).el (i_1:Int).toNat ((0:Nat)+(0:Nat))).toS,D.s ((E117 i).el (i_1:Int).toNat 1).toS,cpB ((E117 i).el (i_1:Int).toNat ((0:Nat)+(2:Nat)))]])=List.map (arR (d.el i 18)) (List.range j)/\List.map (rSt d) (List.range i)=List.map (rSt d) (List.range i)/\(E137 i).toI=(E137 i).toI/\Value.string (E136 i).toS=Value.string (E136 i).toS/\Value.string (E135 i).toS=Value.string (E135 i).toS/\(E134 i).toI=(E134 i).toI/\(E133 i).toI=(E133 i).toI/\Value.string (E132 i).toS=Value.string (E132 i).toS/\(E128 i).rows=(E128 i).rows/\(E130 i).toI=(E130 i).toI/\(E129 i).toI=(E129 i).toI/\(E127 i).toI=(E127 i).toI/\Value.string (E126 i).toS=Value.string (E126 i).toS/\(E122 i).rows=(E122 i).rows/\(E125 i).toI=(E125 i).toI/\(E124 i).toI=(E124 i).toI/\Value.string (E123 i).toS=Value.string (E123 i).toS/\(E121 i).rows=(E121 i).rows/\(E119 i).rows=(E119 i).rows/\(E118 i).rows=(E118 i).rows/\(E117 i).rows=(E117 i).rows)/\(decide ((i_1:Int)<(↑(E117 i).len:Int))=false->(0:Nat)+i_1<=(cpTo i_1 (arR (d.el i 18))).len/\i=(cpTo i (rSt d)).len/\(i+((E120 i i_1).sub (0:Nat) 1).len)*(288:Nat)<=(140737488355328:Nat)/\(0:Nat)+(1:Nat)<=(E120 i i_1).len/\∃ (j:Nat),j.le d.len/\d.len+(1:Nat)-j<d.len+(1:Nat)-i/\IntKind.i64.wrap ((i:Int)+(1:Int))=(j:Int)/\i+((E120 i i_1).sub (0:Nat) 1).len=j/\d.rows=d.rows/\List.map (rSt d) (List.range i)++List.drop (0:Nat) (List.take 1 [[D.i (d.el i 0).toI,D.s (d.el i 1).toS,D.s (d.el i 2).toS,D.i (d.el i 3).toI,D.i (d.el i 4).toI,D.s (d.el i 5).toS,cpE (d.el i 6),D.i (d.el i 7).toI,D.i (d.el i 8).toI,D.i (d.el i 9).toI,D.s (d.el i 10).toS,cpE (d.el i 11),D.i (d.el i 12).toI,D.i (d.el i 13).toI,D.s (d.el i 14).toS,cpE (d.el i 15),cpB (d.el i 16),cpB (d.el i 17),(cpTo i_1 (arR (d.el i 18))).sub ((0:Nat)) ((0:Nat)+i_1)]])=List.map (rSt d) (List.range j)))/\(decide ((i:Int)<(d.len:Int))=false->(0:Nat)+i<=(cpTo i (rSt d)).len/\List.drop ((0:Nat)) (List.take ((0:Nat)+i) (List.map (rSt d) (List.range i)))=(cpB d).rows)) (by kernel_rfl) ?_
  dsimp +instances only [withv]
  intro hm hs;rw [bS_iff] at hs;obtain ⟨hl,hk⟩:=hs;refine ⟨⟨0,Nat.zero_le _,rfl,rfl,rfl,rfl⟩,fun i hi=>⟨fun hc=>?_,fun hc=>?_⟩⟩
  ·have hc:=of_decide_eq_true hc;have hi2:i<d.len:=by omega
   have hw2:IntKind.i64.wrap ((i:Int)+1)=((i+1:Nat):Int):=by rw [IntWalk.i64_in _ (by omega)];omega
   have hb2:(i+1)*288<=140737488355328:=Nat.le_trans (Nat.mul_le_mul_right 288 hi2) hl;obtain ⟨a1,a2,a3,b1,b2,am,ab⟩:=hk i hi2;have z1:=lel_lt (j:=16) hi2;have z2:=lel_lt (j:=17) hi2;have z3:=lel_lt (j:=18) hi2;refine ⟨⟨by omega,by omega⟩,a1,a2,a3,(show SizeOf.sizeOf (d.el i 16)<m by omega),b1,(show SizeOf.sizeOf (d.el i 17)<m by omega),b2,⟨0,⟨Nat.zero_le _,trivial⟩,?_⟩,fun q hq=>⟨fun hd=>?_,fun hd=>?_⟩⟩
   ·(repeat' apply And.intro)<;>rfl
   ·have hd:=of_decide_eq_true hd;have hq2:q<(d.el i 18).len:=by have:(q:Int)<((d.el i 18).len:Int):=hd;omega
    have hwq:IntKind.i64.wrap ((q:Int)+1)=((q+1:Nat):Int):=by rw [IntWalk.i64_in _ (by omega)];omega
    have zq:=lel_lt (j:=2) hq2;refine ⟨⟨by omega,hd⟩,⟨by omega,hd⟩,⟨by omega,hd⟩,(show SizeOf.sizeOf ((d.el i 18).el q 2)<m by omega),ab q hq2,(cpTo_len _ _).symm,(show (q+1)*56<=140737488355328 by omega),Nat.le_refl _,q+1,⟨hq2,trivial⟩,by omega,hwq,?_⟩
    (repeat' apply And.intro)<;>first |exact (cpTo_succ q (arR (d.el i 18))).symm |rfl
   ·have hd:=of_decide_eq_false hd;have hq3:q=(d.el i 18).len:=by have:¬ (q:Int)<((d.el i 18).len:Int):=hd;have:=hq.1;omega
    subst hq3;rw [cpTo_all];exact ⟨by rw [cpTo_len];omega,(cpTo_len _ _).symm,hb2,Nat.le_refl _,i+1,hi2,by omega,hw2,rfl,rfl,(cpTo_succ i (rSt d)).symm⟩
  ·have hc:=of_decide_eq_false hc;have hi3:i=d.len:=by have:i<=d.len:=hi;omega
   subst hi3;refine ⟨by rw [cpTo_len];omega,?_⟩;rw [cpB_eq,Nat.zero_add,List.drop_zero,List.take_of_length_le (by simp)];rfl
 ·trivial
theorem scp_ok:ConOK Tryz.prog 33 scpC:=
 con_rec scpM (fun _ _=>by kernel_rfl) fun m ih=>by
  rw [scp_under] at ih ⊢;exact scp_step m ih
end Go.Proofs.YtplejbgafjpomaaGreatDoor.Sx.Z
