import Derived.Test.YthpponmbpoaffaaGreatDoorZ20
namespace Go.Proofs.YthpponmbpoaffaaGreatDoor.Sx.Z
open Go.RowKit
theorem eqDx {a b:D} {p:Prop} (h:a=b) (hp:p):a.len=b.len/\a.rows=b.rows/\p:=by rw [h];exact ⟨rfl,rfl,hp⟩
def lPr:AP:=.agg [.c .str,.c (.rows 9),.c (.rows 81)]
def tgW (tg:D) (i:Nat):List ByteArray:=if i>0 then [⟨#[44]⟩,(tg.el i 0).toS] else [(tg.el i 0).toS]
def chWd (nm:ByteArray) (k n:Int) (f t:ByteArray) (tg:D):List ByteArray:=[⟨#[99,104,97,110]⟩,nm,chW k,itW n,⟨#[102,114,111,109]⟩,f,⟨#[116,111]⟩,t,⟨#[123]⟩]++(catTo tg.len (tgW tg)++[⟨#[125]⟩,⟨#[59]⟩])
def mvW (mv:D) (i:Nat):List ByteArray:=[itW (mv.el i 0).toI,(mv.el i 1).toS,itW (mv.el i 2).toI,⟨#[59]⟩]
def ruWd (nm:ByteArray) (mv:D):List ByteArray:=[⟨#[114,117,108,101]⟩,nm,⟨#[123]⟩]++(catTo mv.len (mvW mv)++[⟨#[125]⟩])
def vaW (vs:D) (i:Nat):List ByteArray:=[⟨#[118,97,114]⟩,(vs.el i 0).toS,⟨#[59]⟩]
def prWd (nm:ByteArray) (vs bd:D):List ByteArray:=[⟨#[112,114,111,99]⟩,nm,⟨#[123]⟩]++(catTo vs.len (vaW vs)++(bW bd++[⟨#[125]⟩]))
def chWE (d:D) (i:Nat):List ByteArray:=chWd (d.el i 0).toS (d.el i 1).toI (d.el i 2).toI (d.el i 3).toS (d.el i 4).toS (d.el i 5)
def ruWE (d:D) (i:Nat):List ByteArray:=ruWd (d.el i 0).toS (d.el i 1)
def prWE (d:D) (i:Nat):List ByteArray:=prWd (d.el i 0).toS (d.el i 1) (d.el i 2)
def syW (ch ru pr:D):List ByteArray:=catTo ch.len (chWE ch)++(catTo ru.len (ruWE ru)++catTo pr.len (prWE pr))
def sm (n:Int):Prop:=nI n
theorem itW_z {n:Int} (h:sm n):szz (itW n):=Nat.le_trans (itW_size h) (by decide)
def chF (nm:ByteArray) (n:Int) (f t:ByteArray) (tg:D):Prop:=sz nm/\sm n/\sz f/\sz t/\tg.len<=10000000000000/\∀ i,i<tg.len->sz (tg.el i 0).toS
def ruF (nm:ByteArray) (mv:D):Prop:=sz nm/\mv.len<=10000000000000/\∀ i,i<mv.len->sm (mv.el i 0).toI/\sz (mv.el i 1).toS/\sm (mv.el i 2).toI
def prcF (nm:ByteArray) (vs bd:D):Prop:=sz nm/\vs.len<=10000000000000/\(∀ i,i<vs.len->sz (vs.el i 0).toS)/\bF bd
structure SyF (ch ru pr:D):Prop where
 c:∀ i,i<ch.len->chF (ch.el i 0).toS (ch.el i 2).toI (ch.el i 3).toS (ch.el i 4).toS (ch.el i 5)
 r:∀ i,i<ru.len->ruF (ru.el i 0).toS (ru.el i 1)
 p:∀ i,i<pr.len->prcF (pr.el i 0).toS (pr.el i 1) (pr.el i 2)
noncomputable def chxS:List Dat->Option (Eff × List Seg):=fun ds=>match ds with
 | [.d w,.s nm,.i k,.i n,.s f,.s t,.d tg]=>some ({val:=.tup [],vc:=[chF nm n f t tg,w.len<=2001],nw:=[(0,.orow 9 (cat w (chWd nm k n f t tg)))]},[.c (.osl 9 0 (.lit 0) (.sym (cat w (chWd nm k n f t tg)).len))])
 |_=>none
noncomputable def chxC:Con:=conM 96 [.own 9] [lCh] chxS
theorem chx_ok:ConOK Tryz.prog 47 chxC:=by
 refine fn_obM tt_ok mixed Tryz.func47 rfl (fun _ _=>by kernel_rfl) (A:=fun ds=>⟨fun _=>Cons.of [(69,putC),(71,itC),(70,chwC)],fun k=>match k,ds with | 4,[.d w,.s nm,.i k,.i n,.s f,.s t,.d tg]=>some {ι:=Nat,pre:=fun _ i=>i<=tg.len,μ:=fun i=>tg.len-i,st:=fun s i=>famR s [(27,.one (.sc (.int .i64 (.sym ((i:Int))))))] [0,25,26] [(0,.own 96 ([.c (.osl 9 1 (.lit 0) (.sym (cat w ([⟨#[99,104,97,110]⟩,nm,chW k,itW n,⟨#[102,114,111,109]⟩,f,⟨#[116,111]⟩,t,⟨#[123]⟩]++catTo i (tgW tg))).len))])),(1,.orow 9 (cat w ([⟨#[99,104,97,110]⟩,nm,chW k,itW n,⟨#[102,114,111,109]⟩,f,⟨#[116,111]⟩,t,⟨#[123]⟩]++catTo i (tgW tg))))] []} |_,_=>none,fun _=>none⟩) (fun _ _=>(cons_cons put_ok (cons_cons it_ok (cons_cons chw_ok cons_nil)))) (by kernel_rfl) ?_
 intro ds
 unfold chxS
 split
 ·rename_i w nm k n f t tg
  refine kmp (q:=chF nm n f t tg->w.len<=(2001:Nat)->nI n/\(0:Nat)=(0:Nat)/\w.len=w.len/\(0:Nat)+(4:Nat)<=(D.l [[D.s {data:=#[(99:UInt8),(104:UInt8),(97:UInt8),(110:UInt8)]}],[D.s nm],[D.s (chW k)],[D.s (itW n)]]).len/\w.len<=(2001:Nat)/\((D.l [[D.s {data:=#[(99:UInt8),(104:UInt8),(97:UInt8),(110:UInt8)]}],[D.s nm],[D.s (chW k)],[D.s (itW n)]]).sub (0:Nat) ((0:Nat)+(4:Nat))).len<=(1000:Nat)/\(∀ (j:Nat),j<((D.l [[D.s {data:=#[(99:UInt8),(104:UInt8),(97:UInt8),(110:UInt8)]}],[D.s nm],[D.s (chW k)],[D.s (itW n)]]).sub (0:Nat) ((0:Nat)+(4:Nat))).len->(((D.l [[D.s {data:=#[(99:UInt8),(104:UInt8),(97:UInt8),(110:UInt8)]}],[D.s nm],[D.s (chW k)],[D.s (itW n)]]).sub (0:Nat) ((0:Nat)+(4:Nat))).el j (0:Nat)).toS.size<=(281474976710656:Nat))/\(0:Nat)=(0:Nat)/\(putD w ((D.l [[D.s {data:=#[(99:UInt8),(104:UInt8),(97:UInt8),(110:UInt8)]}],[D.s nm],[D.s (chW k)],[D.s (itW n)]]).sub (0:Nat) ((0:Nat)+(4:Nat)))).len=(putD w ((D.l [[D.s {data:=#[(99:UInt8),(104:UInt8),(97:UInt8),(110:UInt8)]}],[D.s nm],[D.s (chW k)],[D.s (itW n)]]).sub (0:Nat) ((0:Nat)+(4:Nat)))).len/\(0:Nat)+(5:Nat)<=(D.l [[D.s {data:=#[(102:UInt8),(114:UInt8),(111:UInt8),(109:UInt8)]}],[D.s f],[D.s {data:=#[(116:UInt8),(111:UInt8)]}],[D.s t],[D.s {data:=#[(123:UInt8)]}]]).len/\(putD w ((D.l [[D.s {data:=#[(99:UInt8),(104:UInt8),(97:UInt8),(110:UInt8)]}],[D.s nm],[D.s (chW k)],[D.s (itW n)]]).sub (0:Nat) ((0:Nat)+(4:Nat)))).len<=(2001:Nat)/\((D.l [[D.s {data:=#[(102:UInt8),(114:UInt8),(111:UInt8),(109:UInt8)]}],[D.s f],[D.s {data:=#[(116:UInt8),(111:UInt8)]}],[D.s t],[D.s {data:=#[(123:UInt8)]}]]).sub (0:Nat) ((0:Nat)+(5:Nat))).len<=(1000:Nat)/\(∀ (j:Nat),j<((D.l [[D.s {data:=#[(102:UInt8),(114:UInt8),(111:UInt8),(109:UInt8)]}],[D.s f],[D.s {data:=#[(116:UInt8),(111:UInt8)]}],[D.s t],[D.s {data:=#[(123:UInt8)]}]]).sub (0:Nat) ((0:Nat)+(5:Nat))).len->(((D.l [[D.s {data:=#[(102:UInt8),(114:UInt8),(111:UInt8),(109:UInt8)]}],[D.s f],[D.s {data:=#[(116:UInt8),(111:UInt8)]}],[D.s t],[D.s {data:=#[(123:UInt8)]}]]).sub (0:Nat) ((0:Nat)+(5:Nat))).el j (0:Nat)).toS.size<=(281474976710656:Nat))/\(∃ (i:Nat),i.le tg.len/\(0:Int)=(↑i:Int)/\tg.rows=tg.rows/\(↑tg.len:Int)=(↑tg.len:Int)/\(putD (putD w ((D.l [[D.s {data:=#[(99:UInt8),(104:UInt8),(97:UInt8),(110:UInt8)]}],[D.s nm],[D.s (chW k)],[D.s (itW n)]]).sub (0:Nat) ((0:Nat)+(4:Nat)))) ((D.l [[D.s {data:=#[(102:UInt8),(114:UInt8),(111:UInt8),(109:UInt8)]}],[D.s f],[D.s {data:=#[(116:UInt8),(111:UInt8)]}],[D.s t],[D.s {data:=#[(123:UInt8)]}]]).sub (0:Nat) ((0:Nat)+(5:Nat)))).len=(cat w ([{data:=#[(99:UInt8),(104:UInt8),(97:UInt8),(110:UInt8)]},nm,chW k,itW n,{data:=#[(102:UInt8),(114:UInt8),(111:UInt8),(109:UInt8)]},f,{data:=#[(116:UInt8),(111:UInt8)]},t,{data:=#[(123:UInt8)]}]++catTo i (tgW tg))).len/\List.take (2001:Nat) (List.take (2001:Nat) (w.rows++List.map sR (wsL ((D.l [[D.s {data:=#[(99:UInt8),(104:UInt8),(97:UInt8),(110:UInt8)]}],[D.s nm],[D.s (chW k)],[D.s (itW n)]]).sub (0:Nat) ((0:Nat)+(4:Nat))) ((D.l [[D.s {data:=#[(99:UInt8),(104:UInt8),(97:UInt8),(110:UInt8)]}],[D.s nm],[D.s (chW k)],[D.s (itW n)]]).sub (0:Nat) ((0:Nat)+(4:Nat))).len))++List.map sR (wsL ((D.l [[D.s {data:=#[(102:UInt8),(114:UInt8),(111:UInt8),(109:UInt8)]}],[D.s f],[D.s {data:=#[(116:UInt8),(111:UInt8)]}],[D.s t],[D.s {data:=#[(123:UInt8)]}]]).sub (0:Nat) ((0:Nat)+(5:Nat))) ((D.l [[D.s {data:=#[(102:UInt8),(114:UInt8),(111:UInt8),(109:UInt8)]}],[D.s f],[D.s {data:=#[(116:UInt8),(111:UInt8)]}],[D.s t],[D.s {data:=#[(123:UInt8)]}]]).sub (0:Nat) ((0:Nat)+(5:Nat))).len))=List.take (2001:Nat) (w.rows++List.map sR ([{data:=#[(99:UInt8),(104:UInt8),(97:UInt8),(110:UInt8)]},nm,chW k,itW n,{data:=#[(102:UInt8),(114:UInt8),(111:UInt8),(109:UInt8)]},f,{data:=#[(116:UInt8),(111:UInt8)]},t,{data:=#[(123:UInt8)]}]++catTo i (tgW tg))))/\∀ (i:Nat),i.le tg.len->(decide ((↑i:Int)<(↑tg.len:Int))=true->((0:Int)<=(↑i:Int)/\(↑i:Int)<(↑tg.len:Int))/\(decide ((↑i:Int)>(0:Int))=true->(0:Nat)=(0:Nat)/\(cat w ([{data:=#[(99:UInt8),(104:UInt8),(97:UInt8),(110:UInt8)]},nm,chW k,itW n,{data:=#[(102:UInt8),(114:UInt8),(111:UInt8),(109:UInt8)]},f,{data:=#[(116:UInt8),(111:UInt8)]},t,{data:=#[(123:UInt8)]}]++catTo i (tgW tg))).len=(cat w ([{data:=#[(99:UInt8),(104:UInt8),(97:UInt8),(110:UInt8)]},nm,chW k,itW n,{data:=#[(102:UInt8),(114:UInt8),(111:UInt8),(109:UInt8)]},f,{data:=#[(116:UInt8),(111:UInt8)]},t,{data:=#[(123:UInt8)]}]++catTo i (tgW tg))).len/\(0:Nat)+(1:Nat)<=(D.l [[D.s {data:=#[(44:UInt8)]}]]).len/\(cat w ([{data:=#[(99:UInt8),(104:UInt8),(97:UInt8),(110:UInt8)]},nm,chW k,itW n,{data:=#[(102:UInt8),(114:UInt8),(111:UInt8),(109:UInt8)]},f,{data:=#[(116:UInt8),(111:UInt8)]},t,{data:=#[(123:UInt8)]}]++catTo i (tgW tg))).len<=(2001:Nat)/\((D.l [[D.s {data:=#[(44:UInt8)]}]]).sub (0:Nat) 1).len<=(1000:Nat)/\(∀ (j:Nat),j<((D.l [[D.s {data:=#[(44:UInt8)]}]]).sub (0:Nat) 1).len->(((D.l [[D.s {data:=#[(44:UInt8)]}]]).sub (0:Nat) 1).el j (0:Nat)).toS.size<=(281474976710656:Nat))/\(0:Nat)=(0:Nat)/\(putD (cat w ([{data:=#[(99:UInt8),(104:UInt8),(97:UInt8),(110:UInt8)]},nm,chW k,itW n,{data:=#[(102:UInt8),(114:UInt8),(111:UInt8),(109:UInt8)]},f,{data:=#[(116:UInt8),(111:UInt8)]},t,{data:=#[(123:UInt8)]}]++catTo i (tgW tg))) ((D.l [[D.s {data:=#[(44:UInt8)]}]]).sub (0:Nat) 1)).len=(putD (cat w ([{data:=#[(99:UInt8),(104:UInt8),(97:UInt8),(110:UInt8)]},nm,chW k,itW n,{data:=#[(102:UInt8),(114:UInt8),(111:UInt8),(109:UInt8)]},f,{data:=#[(116:UInt8),(111:UInt8)]},t,{data:=#[(123:UInt8)]}]++catTo i (tgW tg))) ((D.l [[D.s {data:=#[(44:UInt8)]}]]).sub (0:Nat) 1)).len/\(0:Nat)+(1:Nat)<=(D.l [[D.s (tg.el (↑i:Int).toNat (0:Nat)).toS]]).len/\(putD (cat w ([{data:=#[(99:UInt8),(104:UInt8),(97:UInt8),(110:UInt8)]},nm,chW k,itW n,{data:=#[(102:UInt8),(114:UInt8),(111:UInt8),(109:UInt8)]},f,{data:=#[(116:UInt8),(111:UInt8)]},t,{data:=#[(123:UInt8)]}]++catTo i (tgW tg))) ((D.l [[D.s {data:=#[(44:UInt8)]}]]).sub (0:Nat) 1)).len<=(2001:Nat)/\((D.l [[D.s (tg.el (↑i:Int).toNat (0:Nat)).toS]]).sub (0:Nat) 1).len<=(1000:Nat)/\(∀ (j:Nat),j<((D.l [[D.s (tg.el (↑i:Int).toNat (0:Nat)).toS]]).sub (0:Nat) 1).len->(((D.l [[D.s (tg.el (↑i:Int).toNat (0:Nat)).toS]]).sub (0:Nat) 1).el j (0:Nat)).toS.size<=(281474976710656:Nat))/\∃ (j:Nat),j.le tg.len/\tg.len-j<tg.len-i/\IntKind.i64.wrap ((↑i:Int)+(1:Int))=(↑j:Int)/\tg.rows=tg.rows/\(↑tg.len:Int)=(↑tg.len:Int)/\(putD (putD (cat w ([{data:=#[(99:UInt8),(104:UInt8),(97:UInt8),(110:UInt8)]},nm,chW k,itW n,{data:=#[(102:UInt8),(114:UInt8),(111:UInt8),(109:UInt8)]},f,{data:=#[(116:UInt8),(111:UInt8)]},t,{data:=#[(123:UInt8)]}]++catTo i (tgW tg))) ((D.l [[D.s {data:=#[(44:UInt8)]}]]).sub (0:Nat) 1)) ((D.l [[D.s (tg.el (↑i:Int).toNat (0:Nat)).toS]]).sub (0:Nat) 1)).len=(cat w ([{data:=#[(99:UInt8),(104:UInt8),(97:UInt8),(110:UInt8)]},nm,chW k,itW n,{data:=#[(102:UInt8),(114:UInt8),(111:UInt8),(109:UInt8)]},f,{data:=#[(116:UInt8),(111:UInt8)]},t,{data:=#[(123:UInt8)]}]++catTo j (tgW tg))).len/\List.take (2001:Nat) (List.take (2001:Nat) (List.take (2001:Nat) (w.rows++List.map sR ([{data:=#[(99:UInt8),(104:UInt8),(97:UInt8),(110:UInt8)]},nm,chW k,itW n,{data:=#[(102:UInt8),(114:UInt8),(111:UInt8),(109:UInt8)]},f,{data:=#[(116:UInt8),(111:UInt8)]},t,{data:=#[(123:UInt8)]}]++catTo i (tgW tg)))++List.map sR (wsL ((D.l [[D.s {data:=#[(44:UInt8)]}]]).sub (0:Nat) 1) ((D.l [[D.s {data:=#[(44:UInt8)]}]]).sub (0:Nat) 1).len))++List.map sR (wsL ((D.l [[D.s (tg.el (↑i:Int).toNat (0:Nat)).toS]]).sub (0:Nat) 1) ((D.l [[D.s (tg.el (↑i:Int).toNat (0:Nat)).toS]]).sub (0:Nat) 1).len))=List.take (2001:Nat) (w.rows++List.map sR ([{data:=#[(99:UInt8),(104:UInt8),(97:UInt8),(110:UInt8)]},nm,chW k,itW n,{data:=#[(102:UInt8),(114:UInt8),(111:UInt8),(109:UInt8)]},f,{data:=#[(116:UInt8),(111:UInt8)]},t,{data:=#[(123:UInt8)]}]++catTo j (tgW tg))))/\(decide ((↑i:Int)>(0:Int))=false->(0:Nat)=(0:Nat)/\(cat w ([{data:=#[(99:UInt8),(104:UInt8),(97:UInt8),(110:UInt8)]},nm,chW k,itW n,{data:=#[(102:UInt8),(114:UInt8),(111:UInt8),(109:UInt8)]},f,{data:=#[(116:UInt8),(111:UInt8)]},t,{data:=#[(123:UInt8)]}]++catTo i (tgW tg))).len=(cat w ([{data:=#[(99:UInt8),(104:UInt8),(97:UInt8),(110:UInt8)]},nm,chW k,itW n,{data:=#[(102:UInt8),(114:UInt8),(111:UInt8),(109:UInt8)]},f,{data:=#[(116:UInt8),(111:UInt8)]},t,{data:=#[(123:UInt8)]}]++catTo i (tgW tg))).len/\(0:Nat)+(1:Nat)<=(D.l [[D.s (tg.el (↑i:Int).toNat (0:Nat)).toS]]).len/\(cat w ([{data:=#[(99:UInt8),(104:UInt8),(97:UInt8),(110:UInt8)]},nm,chW k,itW n,{data:=#[(102:UInt8),(114:UInt8),(111:UInt8),(109:UInt8)]},f,{data:=#[(116:UInt8),(111:UInt8)]},t,{data:=#[(123:UInt8)]}]++catTo i (tgW tg))).len<=(2001:Nat)/\((D.l [[D.s (tg.el (↑i:Int).toNat (0:Nat)).toS]]).sub (0:Nat) 1).len<=(1000:Nat)/\(∀ (j:Nat),j<((D.l [[D.s (tg.el (↑i:Int).toNat (0:Nat)).toS]]).sub (0:Nat) 1).len->(((D.l [[D.s (tg.el (↑i:Int).toNat (0:Nat)).toS]]).sub (0:Nat) 1).el j (0:Nat)).toS.size<=(281474976710656:Nat))/\∃ (j:Nat),j.le tg.len/\tg.len-j<tg.len-i/\IntKind.i64.wrap ((↑i:Int)+(1:Int))=(↑j:Int)/\tg.rows=tg.rows/\(↑tg.len:Int)=(↑tg.len:Int)/\(putD (cat w ([{data:=#[(99:UInt8),(104:UInt8),(97:UInt8),(110:UInt8)]},nm,chW k,itW n,{data:=#[(102:UInt8),(114:UInt8),(111:UInt8),(109:UInt8)]},f,{data:=#[(116:UInt8),(111:UInt8)]},t,{data:=#[(123:UInt8)]}]++catTo i (tgW tg))) ((D.l [[D.s (tg.el (↑i:Int).toNat (0:Nat)).toS]]).sub (0:Nat) 1)).len=(cat w ([{data:=#[(99:UInt8),(104:UInt8),(97:UInt8),(110:UInt8)]},nm,chW k,itW n,{data:=#[(102:UInt8),(114:UInt8),(111:UInt8),(109:UInt8)]},f,{data:=#[(116:UInt8),(111:UInt8)]},t,{data:=#[(123:UInt8)]}]++catTo j (tgW tg))).len/\List.take (2001:Nat) (List.take (2001:Nat) (w.rows++List.map sR ([{data:=#[(99:UInt8),(104:UInt8),(97:UInt8),(110:UInt8)]},nm,chW k,itW n,{data:=#[(102:UInt8),(114:UInt8),(111:UInt8),(109:UInt8)]},f,{data:=#[(116:UInt8),(111:UInt8)]},t,{data:=#[(123:UInt8)]}]++catTo i (tgW tg)))++List.map sR (wsL ((D.l [[D.s (tg.el (↑i:Int).toNat (0:Nat)).toS]]).sub (0:Nat) 1) ((D.l [[D.s (tg.el (↑i:Int).toNat (0:Nat)).toS]]).sub (0:Nat) 1).len))=List.take (2001:Nat) (w.rows++List.map sR ([{data:=#[(99:UInt8),(104:UInt8),(97:UInt8),(110:UInt8)]},nm,chW k,itW n,{data:=#[(102:UInt8),(114:UInt8),(111:UInt8),(109:UInt8)]},f,{data:=#[(116:UInt8),(111:UInt8)]},t,{data:=#[(123:UInt8)]}]++catTo j (tgW tg)))))/\(decide ((↑i:Int)<(↑tg.len:Int))=false->(0:Nat)=(0:Nat)/\(cat w ([{data:=#[(99:UInt8),(104:UInt8),(97:UInt8),(110:UInt8)]},nm,chW k,itW n,{data:=#[(102:UInt8),(114:UInt8),(111:UInt8),(109:UInt8)]},f,{data:=#[(116:UInt8),(111:UInt8)]},t,{data:=#[(123:UInt8)]}]++catTo i (tgW tg))).len=(cat w ([{data:=#[(99:UInt8),(104:UInt8),(97:UInt8),(110:UInt8)]},nm,chW k,itW n,{data:=#[(102:UInt8),(114:UInt8),(111:UInt8),(109:UInt8)]},f,{data:=#[(116:UInt8),(111:UInt8)]},t,{data:=#[(123:UInt8)]}]++catTo i (tgW tg))).len/\(0:Nat)+(2:Nat)<=(D.l [[D.s {data:=#[(125:UInt8)]}],[D.s {data:=#[(59:UInt8)]}]]).len/\(cat w ([{data:=#[(99:UInt8),(104:UInt8),(97:UInt8),(110:UInt8)]},nm,chW k,itW n,{data:=#[(102:UInt8),(114:UInt8),(111:UInt8),(109:UInt8)]},f,{data:=#[(116:UInt8),(111:UInt8)]},t,{data:=#[(123:UInt8)]}]++catTo i (tgW tg))).len<=(2001:Nat)/\((D.l [[D.s {data:=#[(125:UInt8)]}],[D.s {data:=#[(59:UInt8)]}]]).sub (0:Nat) ((0:Nat)+(2:Nat))).len<=(1000:Nat)/\(∀ (j:Nat),j<((D.l [[D.s {data:=#[(125:UInt8)]}],[D.s {data:=#[(59:UInt8)]}]]).sub (0:Nat) ((0:Nat)+(2:Nat))).len->(((D.l [[D.s {data:=#[(125:UInt8)]}],[D.s {data:=#[(59:UInt8)]}]]).sub (0:Nat) ((0:Nat)+(2:Nat))).el j (0:Nat)).toS.size<=(281474976710656:Nat))/\(putD (cat w ([{data:=#[(99:UInt8),(104:UInt8),(97:UInt8),(110:UInt8)]},nm,chW k,itW n,{data:=#[(102:UInt8),(114:UInt8),(111:UInt8),(109:UInt8)]},f,{data:=#[(116:UInt8),(111:UInt8)]},t,{data:=#[(123:UInt8)]}]++catTo i (tgW tg))) ((D.l [[D.s {data:=#[(125:UInt8)]}],[D.s {data:=#[(59:UInt8)]}]]).sub (0:Nat) ((0:Nat)+(2:Nat)))).len=(cat w (chWd nm k n f t tg)).len/\List.take (2001:Nat) (List.take (2001:Nat) (w.rows++List.map sR ([{data:=#[(99:UInt8),(104:UInt8),(97:UInt8),(110:UInt8)]},nm,chW k,itW n,{data:=#[(102:UInt8),(114:UInt8),(111:UInt8),(109:UInt8)]},f,{data:=#[(116:UInt8),(111:UInt8)]},t,{data:=#[(123:UInt8)]}]++catTo i (tgW tg)))++List.map sR (wsL ((D.l [[D.s {data:=#[(125:UInt8)]}],[D.s {data:=#[(59:UInt8)]}]]).sub (0:Nat) ((0:Nat)+(2:Nat))) ((D.l [[D.s {data:=#[(125:UInt8)]}],[D.s {data:=#[(59:UInt8)]}]]).sub (0:Nat) ((0:Nat)+(2:Nat))).len))=List.take (2001:Nat) (w.rows++List.map sR (chWd nm k n f t tg)))) (by kernel_rfl) ?_
  intro hf hw
  have o1:(1:Nat)<=1000:=by decide
  obtain ⟨h1,h2,h3,h4,h5,h6⟩:=hf
  refine ⟨h2,rfl,rfl,Nat.le_refl _,hw,(show (4:Nat)<=1000 by omega),ok4 (show szz _ by unfold szz;decide) h1.z (show szz _ by have:=chW_size k;unfold szz;omega) (itW_z h2),rfl,rfl,Nat.le_refl _,cat_le _ _,(show (5:Nat)<=1000 by omega),ok5 (show szz _ by unfold szz;decide) h3.z (show szz _ by unfold szz;decide) h4.z (show szz _ by unfold szz;decide),?_⟩
  refine ⟨⟨0,Nat.zero_le _,rfl,rfl,rfl,eqD ?_⟩,fun i hi=>⟨fun hl=>?_,fun hl=>?_⟩⟩
  ·simp only [put1s,put2s,put3s,put4s,put5s,cat_cat]<;>rfl
  ·have hl:=of_decide_eq_true hl
   have hi2:i<tg.len:=by omega
   have hb:=h5
   have hw2:IntKind.i64.wrap ((i:Int)+1)=((i+1:Nat):Int):=by rw [IntWalk.i64_in _ (by omega)];omega
   have z:=h6 i hi2
   refine ⟨⟨by omega,by omega⟩,fun hg=>⟨rfl,rfl,Nat.le_refl _,cat_le _ _,o1,ok1 (by decide),rfl,rfl,Nat.le_refl _,cat_le _ _,o1,ok1 z.z,i+1,hi2,by omega,hw2,rfl,rfl,eqD ?_⟩,fun hg=>⟨rfl,rfl,Nat.le_refl _,cat_le _ _,o1,ok1 z.z,i+1,hi2,by omega,hw2,rfl,rfl,eqD ?_⟩⟩
   ·have e:tgW tg i=[⟨#[44]⟩,(tg.el i 0).toS]:=if_pos (by have:=of_decide_eq_true hg;omega)
    simp only [put1s,put2s,put3s,put4s,put5s,cat_cat,catTo_succ,e,List.append_assoc]<;>rfl
   ·have e:tgW tg i=[(tg.el i 0).toS]:=if_neg (by have:=of_decide_eq_false hg;omega)
    simp only [put1s,put2s,put3s,put4s,put5s,cat_cat,catTo_succ,e,List.append_assoc]<;>rfl
  ·have hl:=of_decide_eq_false hl
   have hi3:i=tg.len:=by have:i<=tg.len:=hi;omega
   subst hi3
   refine ⟨rfl,rfl,Nat.le_refl _,cat_le _ _,(show (2:Nat)<=1000 by omega),ok2 (show szz _ by unfold szz;decide) (show szz _ by unfold szz;decide),eqD ?_⟩
   unfold chWd
   simp only [put1s,put2s,put3s,put4s,put5s,cat_cat,List.append_assoc]<;>rfl
 ·trivial
noncomputable def ruxS:List Dat->Option (Eff × List Seg):=fun ds=>match ds with
 | [.d w,.s nm,.d mv]=>some ({val:=.tup [],vc:=[ruF nm mv,w.len<=2001],nw:=[(0,.orow 9 (cat w (ruWd nm mv)))]},[.c (.osl 9 0 (.lit 0) (.sym (cat w (ruWd nm mv)).len))])
 |_=>none
noncomputable def ruxC:Con:=conM 96 [.own 9] [lRu] ruxS
theorem rux_ok:ConOK Tryz.prog 48 ruxC:=by
 refine fn_obM tt_ok mixed Tryz.func48 rfl (fun _ _=>by kernel_rfl) (A:=fun ds=>⟨fun _=>Cons.of [(69,putC),(71,itC)],fun k=>match k,ds with | 3,[.d w,.s nm,.d mv]=>some {ι:=Nat,pre:=fun _ i=>i<=mv.len,μ:=fun i=>mv.len-i,st:=fun s i=>famR s [(14,.one (.sc (.int .i64 (.sym ((i:Int))))))] [0,12,13] [(0,.own 96 ([.c (.osl 9 1 (.lit 0) (.sym (cat w ([⟨#[114,117,108,101]⟩,nm,⟨#[123]⟩]++catTo i (mvW mv))).len))])),(1,.orow 9 (cat w ([⟨#[114,117,108,101]⟩,nm,⟨#[123]⟩]++catTo i (mvW mv))))] []} |_,_=>none,fun _=>none⟩) (fun _ _=>(cons_cons put_ok (cons_cons it_ok cons_nil))) (by kernel_rfl) ?_
 intro ds
 unfold ruxS
 split
 ·rename_i w nm mv
  refine kmp (q:=ruF nm mv->w.len<=(2001:Nat)->(0:Nat)=(0:Nat)/\w.len=w.len/\(0:Nat)+(3:Nat)<=(D.l [[D.s {data:=#[(114:UInt8),(117:UInt8),(108:UInt8),(101:UInt8)]}],[D.s nm],[D.s {data:=#[(123:UInt8)]}]]).len/\w.len<=(2001:Nat)/\((D.l [[D.s {data:=#[(114:UInt8),(117:UInt8),(108:UInt8),(101:UInt8)]}],[D.s nm],[D.s {data:=#[(123:UInt8)]}]]).sub (0:Nat) ((0:Nat)+(3:Nat))).len<=(1000:Nat)/\(∀ (j:Nat),j<((D.l [[D.s {data:=#[(114:UInt8),(117:UInt8),(108:UInt8),(101:UInt8)]}],[D.s nm],[D.s {data:=#[(123:UInt8)]}]]).sub (0:Nat) ((0:Nat)+(3:Nat))).len->(((D.l [[D.s {data:=#[(114:UInt8),(117:UInt8),(108:UInt8),(101:UInt8)]}],[D.s nm],[D.s {data:=#[(123:UInt8)]}]]).sub (0:Nat) ((0:Nat)+(3:Nat))).el j (0:Nat)).toS.size<=(281474976710656:Nat))/\(∃ (i:Nat),i.le mv.len/\(0:Int)=(↑i:Int)/\mv.rows=mv.rows/\(↑mv.len:Int)=(↑mv.len:Int)/\(putD w ((D.l [[D.s {data:=#[(114:UInt8),(117:UInt8),(108:UInt8),(101:UInt8)]}],[D.s nm],[D.s {data:=#[(123:UInt8)]}]]).sub (0:Nat) ((0:Nat)+(3:Nat)))).len=(cat w ([{data:=#[(114:UInt8),(117:UInt8),(108:UInt8),(101:UInt8)]},nm,{data:=#[(123:UInt8)]}]++catTo i (mvW mv))).len/\List.take (2001:Nat) (w.rows++List.map sR (wsL ((D.l [[D.s {data:=#[(114:UInt8),(117:UInt8),(108:UInt8),(101:UInt8)]}],[D.s nm],[D.s {data:=#[(123:UInt8)]}]]).sub (0:Nat) ((0:Nat)+(3:Nat))) ((D.l [[D.s {data:=#[(114:UInt8),(117:UInt8),(108:UInt8),(101:UInt8)]}],[D.s nm],[D.s {data:=#[(123:UInt8)]}]]).sub (0:Nat) ((0:Nat)+(3:Nat))).len))=List.take (2001:Nat) (w.rows++List.map sR ([{data:=#[(114:UInt8),(117:UInt8),(108:UInt8),(101:UInt8)]},nm,{data:=#[(123:UInt8)]}]++catTo i (mvW mv))))/\∀ (i:Nat),i.le mv.len->(decide ((↑i:Int)<(↑mv.len:Int))=true->((0:Int)<=(↑i:Int)/\(↑i:Int)<(↑mv.len:Int))/\nI (mv.el (↑i:Int).toNat (0:Nat)).toI/\nI (mv.el (↑i:Int).toNat 2).toI/\(0:Nat)=(0:Nat)/\(cat w ([{data:=#[(114:UInt8),(117:UInt8),(108:UInt8),(101:UInt8)]},nm,{data:=#[(123:UInt8)]}]++catTo i (mvW mv))).len=(cat w ([{data:=#[(114:UInt8),(117:UInt8),(108:UInt8),(101:UInt8)]},nm,{data:=#[(123:UInt8)]}]++catTo i (mvW mv))).len/\(0:Nat)+(4:Nat)<=(D.l [[D.s (itW (mv.el (↑i:Int).toNat (0:Nat)).toI)],[D.s (mv.el (↑i:Int).toNat 1).toS],[D.s (itW (mv.el (↑i:Int).toNat 2).toI)],[D.s {data:=#[(59:UInt8)]}]]).len/\(cat w ([{data:=#[(114:UInt8),(117:UInt8),(108:UInt8),(101:UInt8)]},nm,{data:=#[(123:UInt8)]}]++catTo i (mvW mv))).len<=(2001:Nat)/\((D.l [[D.s (itW (mv.el (↑i:Int).toNat (0:Nat)).toI)],[D.s (mv.el (↑i:Int).toNat 1).toS],[D.s (itW (mv.el (↑i:Int).toNat 2).toI)],[D.s {data:=#[(59:UInt8)]}]]).sub (0:Nat) ((0:Nat)+(4:Nat))).len<=(1000:Nat)/\(∀ (j:Nat),j<((D.l [[D.s (itW (mv.el (↑i:Int).toNat (0:Nat)).toI)],[D.s (mv.el (↑i:Int).toNat 1).toS],[D.s (itW (mv.el (↑i:Int).toNat 2).toI)],[D.s {data:=#[(59:UInt8)]}]]).sub (0:Nat) ((0:Nat)+(4:Nat))).len->(((D.l [[D.s (itW (mv.el (↑i:Int).toNat (0:Nat)).toI)],[D.s (mv.el (↑i:Int).toNat 1).toS],[D.s (itW (mv.el (↑i:Int).toNat 2).toI)],[D.s {data:=#[(59:UInt8)]}]]).sub (0:Nat) ((0:Nat)+(4:Nat))).el j (0:Nat)).toS.size<=(281474976710656:Nat))/\∃ (j:Nat),j.le mv.len/\mv.len-j<mv.len-i/\IntKind.i64.wrap ((↑i:Int)+(1:Int))=(↑j:Int)/\mv.rows=mv.rows/\(↑mv.len:Int)=(↑mv.len:Int)/\(putD (cat w ([{data:=#[(114:UInt8),(117:UInt8),(108:UInt8),(101:UInt8)]},nm,{data:=#[(123:UInt8)]}]++catTo i (mvW mv))) ((D.l [[D.s (itW (mv.el (↑i:Int).toNat (0:Nat)).toI)],[D.s (mv.el (↑i:Int).toNat 1).toS],[D.s (itW (mv.el (↑i:Int).toNat 2).toI)],[D.s {data:=#[(59:UInt8)]}]]).sub (0:Nat) ((0:Nat)+(4:Nat)))).len=(cat w ([{data:=#[(114:UInt8),(117:UInt8),(108:UInt8),(101:UInt8)]},nm,{data:=#[(123:UInt8)]}]++catTo j (mvW mv))).len/\List.take (2001:Nat) (List.take (2001:Nat) (w.rows++List.map sR ([{data:=#[(114:UInt8),(117:UInt8),(108:UInt8),(101:UInt8)]},nm,{data:=#[(123:UInt8)]}]++catTo i (mvW mv)))++List.map sR (wsL ((D.l [[D.s (itW (mv.el (↑i:Int).toNat (0:Nat)).toI)],[D.s (mv.el (↑i:Int).toNat 1).toS],[D.s (itW (mv.el (↑i:Int).toNat 2).toI)],[D.s {data:=#[(59:UInt8)]}]]).sub (0:Nat) ((0:Nat)+(4:Nat))) ((D.l [[D.s (itW (mv.el (↑i:Int).toNat (0:Nat)).toI)],[D.s (mv.el (↑i:Int).toNat 1).toS],[D.s (itW (mv.el (↑i:Int).toNat 2).toI)],[D.s {data:=#[(59:UInt8)]}]]).sub (0:Nat) ((0:Nat)+(4:Nat))).len))=List.take (2001:Nat) (w.rows++List.map sR ([{data:=#[(114:UInt8),(117:UInt8),(108:UInt8),(101:UInt8)]},nm,{data:=#[(123:UInt8)]}]++catTo j (mvW mv))))/\(decide ((↑i:Int)<(↑mv.len:Int))=false->(0:Nat)=(0:Nat)/\(cat w ([{data:=#[(114:UInt8),(117:UInt8),(108:UInt8),(101:UInt8)]},nm,{data:=#[(123:UInt8)]}]++catTo i (mvW mv))).len=(cat w ([{data:=#[(114:UInt8),(117:UInt8),(108:UInt8),(101:UInt8)]},nm,{data:=#[(123:UInt8)]}]++catTo i (mvW mv))).len/\(0:Nat)+(1:Nat)<=(D.l [[D.s {data:=#[(125:UInt8)]}]]).len/\(cat w ([{data:=#[(114:UInt8),(117:UInt8),(108:UInt8),(101:UInt8)]},nm,{data:=#[(123:UInt8)]}]++catTo i (mvW mv))).len<=(2001:Nat)/\((D.l [[D.s {data:=#[(125:UInt8)]}]]).sub (0:Nat) 1).len<=(1000:Nat)/\(∀ (j:Nat),j<((D.l [[D.s {data:=#[(125:UInt8)]}]]).sub (0:Nat) 1).len->(((D.l [[D.s {data:=#[(125:UInt8)]}]]).sub (0:Nat) 1).el j (0:Nat)).toS.size<=(281474976710656:Nat))/\(putD (cat w ([{data:=#[(114:UInt8),(117:UInt8),(108:UInt8),(101:UInt8)]},nm,{data:=#[(123:UInt8)]}]++catTo i (mvW mv))) ((D.l [[D.s {data:=#[(125:UInt8)]}]]).sub (0:Nat) 1)).len=(cat w (ruWd nm mv)).len/\List.take (2001:Nat) (List.take (2001:Nat) (w.rows++List.map sR ([{data:=#[(114:UInt8),(117:UInt8),(108:UInt8),(101:UInt8)]},nm,{data:=#[(123:UInt8)]}]++catTo i (mvW mv)))++List.map sR (wsL ((D.l [[D.s {data:=#[(125:UInt8)]}]]).sub (0:Nat) 1) ((D.l [[D.s {data:=#[(125:UInt8)]}]]).sub (0:Nat) 1).len))=List.take (2001:Nat) (w.rows++List.map sR (ruWd nm mv)))) (by kernel_rfl) ?_
  intro hf hw
  have o1:(1:Nat)<=1000:=by decide
  obtain ⟨h1,h2,h3⟩:=hf
  refine ⟨rfl,rfl,Nat.le_refl _,hw,(show (3:Nat)<=1000 by omega),ok3 (show szz _ by unfold szz;decide) h1.z (show szz _ by unfold szz;decide),?_⟩
  refine ⟨⟨0,Nat.zero_le _,rfl,rfl,rfl,eqD ?_⟩,fun i hi=>⟨fun hl=>?_,fun hl=>?_⟩⟩
  ·simp only [put1s,put2s,put3s,put4s,put5s,cat_cat]<;>rfl
  ·have hl:=of_decide_eq_true hl
   have hi2:i<mv.len:=by omega
   have hb:=h2
   have hw2:IntKind.i64.wrap ((i:Int)+1)=((i+1:Nat):Int):=by rw [IntWalk.i64_in _ (by omega)];omega
   obtain ⟨z1,z2,z3⟩:=h3 i hi2
   refine ⟨⟨by omega,by omega⟩,z1,z3,rfl,rfl,Nat.le_refl _,cat_le _ _,(show (4:Nat)<=1000 by omega),ok4 (itW_z z1) z2.z (itW_z z3) (show szz _ by unfold szz;decide),i+1,hi2,by omega,hw2,rfl,rfl,eqD ?_⟩
   simp only [put1s,put2s,put3s,put4s,put5s,cat_cat,catTo_succ,List.append_assoc]<;>rfl
  ·have hl:=of_decide_eq_false hl
   have hi3:i=mv.len:=by have:i<=mv.len:=hi;omega
   subst hi3
   refine ⟨rfl,rfl,Nat.le_refl _,cat_le _ _,o1,ok1 (by decide),eqD ?_⟩
   unfold ruWd
   simp only [put1s,put2s,put3s,put4s,put5s,cat_cat,List.append_assoc]<;>rfl
 ·trivial
noncomputable def prxS:List Dat->Option (Eff × List Seg):=fun ds=>match ds with
 | [.d w,.s nm,.d vs,.d bd]=>some ({val:=.tup [],vc:=[prcF nm vs bd,w.len<=2001],nw:=[(0,.orow 9 (cat w (prWd nm vs bd)))]},[.c (.osl 9 0 (.lit 0) (.sym (cat w (prWd nm vs bd)).len))])
 |_=>none
noncomputable def prxC:Con:=conM 96 [.own 9] [lPr] prxS
theorem prx_ok:ConOK Tryz.prog 49 prxC:=by
 refine fn_obM tt_ok mixed Tryz.func49 rfl (fun _ _=>by kernel_rfl) (A:=fun ds=>⟨fun _=>Cons.of [(69,putC),(72,lwrC)],fun k=>match k,ds with | 3,[.d w,.s nm,.d vs,.d bd]=>some {ι:=Nat,pre:=fun _ i=>i<=vs.len,μ:=fun i=>vs.len-i,st:=fun s i=>famR s [(14,.one (.sc (.int .i64 (.sym ((i:Int))))))] [0,3,12,13] [(0,.own 96 ([.c (.osl 9 1 (.lit 0) (.sym (cat w ([⟨#[112,114,111,99]⟩,nm,⟨#[123]⟩]++catTo i (vaW vs))).len))])),(1,.orow 9 (cat w ([⟨#[112,114,111,99]⟩,nm,⟨#[123]⟩]++catTo i (vaW vs))))] [3]} |_,_=>none,fun _=>none⟩) (fun _ _=>(cons_cons put_ok (cons_cons lwr_ok cons_nil))) (by kernel_rfl) ?_
 intro ds
 unfold prxS
 split
 ·rename_i w nm vs bd
  refine kmp (q:=prcF nm vs bd->w.len<=(2001:Nat)->(0:Nat)=(0:Nat)/\w.len=w.len/\(0:Nat)+(3:Nat)<=(D.l [[D.s {data:=#[(112:UInt8),(114:UInt8),(111:UInt8),(99:UInt8)]}],[D.s nm],[D.s {data:=#[(123:UInt8)]}]]).len/\w.len<=(2001:Nat)/\((D.l [[D.s {data:=#[(112:UInt8),(114:UInt8),(111:UInt8),(99:UInt8)]}],[D.s nm],[D.s {data:=#[(123:UInt8)]}]]).sub (0:Nat) ((0:Nat)+(3:Nat))).len<=(1000:Nat)/\(∀ (j:Nat),j<((D.l [[D.s {data:=#[(112:UInt8),(114:UInt8),(111:UInt8),(99:UInt8)]}],[D.s nm],[D.s {data:=#[(123:UInt8)]}]]).sub (0:Nat) ((0:Nat)+(3:Nat))).len->(((D.l [[D.s {data:=#[(112:UInt8),(114:UInt8),(111:UInt8),(99:UInt8)]}],[D.s nm],[D.s {data:=#[(123:UInt8)]}]]).sub (0:Nat) ((0:Nat)+(3:Nat))).el j (0:Nat)).toS.size<=(281474976710656:Nat))/\(∃ (i:Nat),i.le vs.len/\(0:Int)=(↑i:Int)/\vs.rows=vs.rows/\(↑vs.len:Int)=(↑vs.len:Int)/\(putD w ((D.l [[D.s {data:=#[(112:UInt8),(114:UInt8),(111:UInt8),(99:UInt8)]}],[D.s nm],[D.s {data:=#[(123:UInt8)]}]]).sub (0:Nat) ((0:Nat)+(3:Nat)))).len=(cat w ([{data:=#[(112:UInt8),(114:UInt8),(111:UInt8),(99:UInt8)]},nm,{data:=#[(123:UInt8)]}]++catTo i (vaW vs))).len/\List.take (2001:Nat) (w.rows++List.map sR (wsL ((D.l [[D.s {data:=#[(112:UInt8),(114:UInt8),(111:UInt8),(99:UInt8)]}],[D.s nm],[D.s {data:=#[(123:UInt8)]}]]).sub (0:Nat) ((0:Nat)+(3:Nat))) ((D.l [[D.s {data:=#[(112:UInt8),(114:UInt8),(111:UInt8),(99:UInt8)]}],[D.s nm],[D.s {data:=#[(123:UInt8)]}]]).sub (0:Nat) ((0:Nat)+(3:Nat))).len))=List.take (2001:Nat) (w.rows++List.map sR ([{data:=#[(112:UInt8),(114:UInt8),(111:UInt8),(99:UInt8)]},nm,{data:=#[(123:UInt8)]}]++catTo i (vaW vs)))/\Value.string nm=Value.string nm/\vs.rows=vs.rows/\bd.rows=bd.rows)/\∀ (i:Nat),i.le vs.len->(decide ((↑i:Int)<(↑vs.len:Int))=true->((0:Int)<=(↑i:Int)/\(↑i:Int)<(↑vs.len:Int))/\(0:Nat)=(0:Nat)/\(cat w ([{data:=#[(112:UInt8),(114:UInt8),(111:UInt8),(99:UInt8)]},nm,{data:=#[(123:UInt8)]}]++catTo i (vaW vs))).len=(cat w ([{data:=#[(112:UInt8),(114:UInt8),(111:UInt8),(99:UInt8)]},nm,{data:=#[(123:UInt8)]}]++catTo i (vaW vs))).len/\(0:Nat)+(3:Nat)<=(D.l [[D.s {data:=#[(118:UInt8),(97:UInt8),(114:UInt8)]}],[D.s (vs.el (↑i:Int).toNat (0:Nat)).toS],[D.s {data:=#[(59:UInt8)]}]]).len/\(cat w ([{data:=#[(112:UInt8),(114:UInt8),(111:UInt8),(99:UInt8)]},nm,{data:=#[(123:UInt8)]}]++catTo i (vaW vs))).len<=(2001:Nat)/\((D.l [[D.s {data:=#[(118:UInt8),(97:UInt8),(114:UInt8)]}],[D.s (vs.el (↑i:Int).toNat (0:Nat)).toS],[D.s {data:=#[(59:UInt8)]}]]).sub (0:Nat) ((0:Nat)+(3:Nat))).len<=(1000:Nat)/\(∀ (j:Nat),j<((D.l [[D.s {data:=#[(118:UInt8),(97:UInt8),(114:UInt8)]}],[D.s (vs.el (↑i:Int).toNat (0:Nat)).toS],[D.s {data:=#[(59:UInt8)]}]]).sub (0:Nat) ((0:Nat)+(3:Nat))).len->(((D.l [[D.s {data:=#[(118:UInt8),(97:UInt8),(114:UInt8)]}],[D.s (vs.el (↑i:Int).toNat (0:Nat)).toS],[D.s {data:=#[(59:UInt8)]}]]).sub (0:Nat) ((0:Nat)+(3:Nat))).el j (0:Nat)).toS.size<=(281474976710656:Nat))/\∃ (j:Nat),j.le vs.len/\vs.len-j<vs.len-i/\IntKind.i64.wrap ((↑i:Int)+(1:Int))=(↑j:Int)/\vs.rows=vs.rows/\(↑vs.len:Int)=(↑vs.len:Int)/\(putD (cat w ([{data:=#[(112:UInt8),(114:UInt8),(111:UInt8),(99:UInt8)]},nm,{data:=#[(123:UInt8)]}]++catTo i (vaW vs))) ((D.l [[D.s {data:=#[(118:UInt8),(97:UInt8),(114:UInt8)]}],[D.s (vs.el (↑i:Int).toNat (0:Nat)).toS],[D.s {data:=#[(59:UInt8)]}]]).sub (0:Nat) ((0:Nat)+(3:Nat)))).len=(cat w ([{data:=#[(112:UInt8),(114:UInt8),(111:UInt8),(99:UInt8)]},nm,{data:=#[(123:UInt8)]}]++catTo j (vaW vs))).len/\List.take (2001:Nat) (List.take (2001:Nat) (w.rows++List.map sR ([{data:=#[(112:UInt8),(114:UInt8),(111:UInt8),(99:UInt8)]},nm,{data:=#[(123:UInt8)]}]++catTo i (vaW vs)))++List.map sR (wsL ((D.l [[D.s {data:=#[(118:UInt8),(97:UInt8),(114:UInt8)]}],[D.s (vs.el (↑i:Int).toNat (0:Nat)).toS],[D.s {data:=#[(59:UInt8)]}]]).sub (0:Nat) ((0:Nat)+(3:Nat))) ((D.l [[D.s {data:=#[(118:UInt8),(97:UInt8),(114:UInt8)]}],[D.s (vs.el (↑i:Int).toNat (0:Nat)).toS],[D.s {data:=#[(59:UInt8)]}]]).sub (0:Nat) ((0:Nat)+(3:Nat))).len))=List.take (2001:Nat) (w.rows++List.map sR ([{data:=#[(112:UInt8),(114:UInt8),(111:UInt8),(99:UInt8)]},nm,{data:=#[(123:UInt8)]}]++catTo j (vaW vs)))/\Value.string nm=Value.string nm/\vs.rows=vs.rows/\bd.rows=bd.rows)/\(decide ((↑i:Int)<(↑vs.len:Int))=false->(0:Nat)=(0:Nat)/\(cat w ([{data:=#[(112:UInt8),(114:UInt8),(111:UInt8),(99:UInt8)]},nm,{data:=#[(123:UInt8)]}]++catTo i (vaW vs))).len=(cat w ([{data:=#[(112:UInt8),(114:UInt8),(111:UInt8),(99:UInt8)]},nm,{data:=#[(123:UInt8)]}]++catTo i (vaW vs))).len/\bF bd/\(cat w ([{data:=#[(112:UInt8),(114:UInt8),(111:UInt8),(99:UInt8)]},nm,{data:=#[(123:UInt8)]}]++catTo i (vaW vs))).len<=(2001:Nat)/\(0:Nat)=(0:Nat)/\(cat (cat w ([{data:=#[(112:UInt8),(114:UInt8),(111:UInt8),(99:UInt8)]},nm,{data:=#[(123:UInt8)]}]++catTo i (vaW vs))) (bW bd)).len=(cat (cat w ([{data:=#[(112:UInt8),(114:UInt8),(111:UInt8),(99:UInt8)]},nm,{data:=#[(123:UInt8)]}]++catTo i (vaW vs))) (bW bd)).len/\(0:Nat)+(1:Nat)<=(D.l [[D.s {data:=#[(125:UInt8)]}]]).len/\(cat (cat w ([{data:=#[(112:UInt8),(114:UInt8),(111:UInt8),(99:UInt8)]},nm,{data:=#[(123:UInt8)]}]++catTo i (vaW vs))) (bW bd)).len<=(2001:Nat)/\((D.l [[D.s {data:=#[(125:UInt8)]}]]).sub (0:Nat) 1).len<=(1000:Nat)/\(∀ (j:Nat),j<((D.l [[D.s {data:=#[(125:UInt8)]}]]).sub (0:Nat) 1).len->(((D.l [[D.s {data:=#[(125:UInt8)]}]]).sub (0:Nat) 1).el j (0:Nat)).toS.size<=(281474976710656:Nat))/\(putD (cat (cat w ([{data:=#[(112:UInt8),(114:UInt8),(111:UInt8),(99:UInt8)]},nm,{data:=#[(123:UInt8)]}]++catTo i (vaW vs))) (bW bd)) ((D.l [[D.s {data:=#[(125:UInt8)]}]]).sub (0:Nat) 1)).len=(cat w (prWd nm vs bd)).len/\List.take (2001:Nat) (List.take (2001:Nat) (List.take (2001:Nat) (w.rows++List.map sR ([{data:=#[(112:UInt8),(114:UInt8),(111:UInt8),(99:UInt8)]},nm,{data:=#[(123:UInt8)]}]++catTo i (vaW vs)))++List.map sR (bW bd))++List.map sR (wsL ((D.l [[D.s {data:=#[(125:UInt8)]}]]).sub (0:Nat) 1) ((D.l [[D.s {data:=#[(125:UInt8)]}]]).sub (0:Nat) 1).len))=List.take (2001:Nat) (w.rows++List.map sR (prWd nm vs bd)))) (by kernel_rfl) ?_
  intro hf hw
  have o1:(1:Nat)<=1000:=by decide
  obtain ⟨h1,h2,h3,h4⟩:=hf
  refine ⟨rfl,rfl,Nat.le_refl _,hw,(show (3:Nat)<=1000 by omega),ok3 (show szz _ by unfold szz;decide) h1.z (show szz _ by unfold szz;decide),?_⟩
  refine ⟨⟨0,Nat.zero_le _,rfl,rfl,rfl,eqDx ?_ ⟨rfl,rfl,rfl⟩⟩,fun i hi=>⟨fun hl=>?_,fun hl=>?_⟩⟩
  ·simp only [put1s,put2s,put3s,put4s,put5s,cat_cat]<;>rfl
  ·have hl:=of_decide_eq_true hl
   have hi2:i<vs.len:=by omega
   have hb:=h2
   have hw2:IntKind.i64.wrap ((i:Int)+1)=((i+1:Nat):Int):=by rw [IntWalk.i64_in _ (by omega)];omega
   have z1:=h3 i hi2
   refine ⟨⟨by omega,by omega⟩,rfl,rfl,Nat.le_refl _,cat_le _ _,(show (3:Nat)<=1000 by omega),ok3 (show szz _ by unfold szz;decide) z1.z (show szz _ by unfold szz;decide),i+1,hi2,by omega,hw2,rfl,rfl,eqDx ?_ ⟨rfl,rfl,rfl⟩⟩
   simp only [put1s,put2s,put3s,put4s,put5s,cat_cat,catTo_succ,List.append_assoc]<;>rfl
  ·have hl:=of_decide_eq_false hl
   have hi3:i=vs.len:=by have:i<=vs.len:=hi;omega
   subst hi3
   refine ⟨rfl,rfl,h4,cat_le _ _,rfl,rfl,Nat.le_refl _,cat_le _ _,o1,ok1 (by decide),eqD ?_⟩
   unfold prWd
   simp only [put1s,put2s,put3s,put4s,put5s,cat_cat,List.append_assoc]<;>rfl
 ·trivial
noncomputable def syxS:List Dat->Option (Eff × List Seg):=fun ds=>match ds with
 | [.d w,.d ch,.d ru,.d pr]=>some ({val:=.tup [],vc:=[SyOK ch ru pr,SyF ch ru pr,w.len<=2001],nw:=[(0,.orow 9 (cat w (syW ch ru pr)))]},[.c (.osl 9 0 (.lit 0) (.sym (cat w (syW ch ru pr)).len))])
 |_=>none
noncomputable def syxC:Con:=conM 96 [.own 9] [lSy] syxS
theorem syx_ok:ConOK Tryz.prog 25 syxC:=by
 refine fn_obM tt_ok mixed Tryz.func25 rfl (fun _ _=>by kernel_rfl) (A:=fun ds=>⟨fun _=>Cons.of [(47,chxC),(48,ruxC),(49,prxC)],fun k=>match k,ds with | 2,[.d w,.d ch,.d ru,.d pr]=>some {ι:=Nat,pre:=fun _ i=>i<=ch.len,μ:=fun i=>ch.len-i,st:=fun s i=>famR s [(13,.one (.sc (.int .i64 (.sym ((i:Int))))))] [0,3,11,12] [(0,.own 96 ([.c (.osl 9 1 (.lit 0) (.sym (cat w (catTo i (chWE ch))).len))])),(1,.orow 9 (cat w (catTo i (chWE ch))))] [3]} | 7,[.d w,.d ch,.d ru,.d pr]=>some {ι:=Nat,pre:=fun _ i=>i<=ru.len,μ:=fun i=>ru.len-i,st:=fun s i=>famR s [(24,.one (.sc (.int .i64 (.sym ((i:Int))))))] [0,3,22,23] [(0,.own 96 ([.c (.osl 9 1 (.lit 0) (.sym (cat w (catTo ch.len (chWE ch)++catTo i (ruWE ru))).len))])),(1,.orow 9 (cat w (catTo ch.len (chWE ch)++catTo i (ruWE ru))))] [3]} | 12,[.d w,.d ch,.d ru,.d pr]=>some {ι:=Nat,pre:=fun _ i=>i<=pr.len,μ:=fun i=>pr.len-i,st:=fun s i=>famR s [(35,.one (.sc (.int .i64 (.sym ((i:Int))))))] [0,3,33,34] [(0,.own 96 ([.c (.osl 9 1 (.lit 0) (.sym (cat w ((catTo ch.len (chWE ch)++catTo ru.len (ruWE ru))++catTo i (prWE pr))).len))])),(1,.orow 9 (cat w ((catTo ch.len (chWE ch)++catTo ru.len (ruWE ru))++catTo i (prWE pr))))] [3]} |_,_=>none,fun _=>none⟩) (fun _ _=>(cons_cons chx_ok (cons_cons rux_ok (cons_cons prx_ok cons_nil)))) (by kernel_rfl) ?_
 intro ds
 unfold syxS
 split
 ·rename_i w ch ru pr
  refine kmp (q:=SyOK ch ru pr->SyF ch ru pr->w.len<=(2001:Nat)->(∃ (i:Nat),i.le ch.len/\(0:Int)=(↑i:Int)/\ch.rows=ch.rows/\(↑ch.len:Int)=(↑ch.len:Int)/\w.len=(cat w (catTo i (chWE ch))).len/\w.rows=List.take (2001:Nat) (w.rows++List.map sR (catTo i (chWE ch)))/\ch.rows=ch.rows/\ru.rows=ru.rows/\pr.rows=pr.rows)/\∀ (i:Nat),i.le ch.len->(decide ((↑i:Int)<(↑ch.len:Int))=true->((0:Int)<=(↑i:Int)/\(↑i:Int)<(↑ch.len:Int))/\(0:Nat)=(0:Nat)/\(cat w (catTo i (chWE ch))).len=(cat w (catTo i (chWE ch))).len/\chF (ch.el (↑i:Int).toNat (0:Nat)).toS (ch.el (↑i:Int).toNat 2).toI (ch.el (↑i:Int).toNat 3).toS (ch.el (↑i:Int).toNat 4).toS (ch.el (↑i:Int).toNat 5)/\(cat w (catTo i (chWE ch))).len<=(2001:Nat)/\∃ (j:Nat),j.le ch.len/\ch.len-j<ch.len-i/\IntKind.i64.wrap ((↑i:Int)+(1:Int))=(↑j:Int)/\ch.rows=ch.rows/\(↑ch.len:Int)=(↑ch.len:Int)/\(cat (cat w (catTo i (chWE ch))) (chWd (ch.el (↑i:Int).toNat (0:Nat)).toS (ch.el (↑i:Int).toNat 1).toI (ch.el (↑i:Int).toNat 2).toI (ch.el (↑i:Int).toNat 3).toS (ch.el (↑i:Int).toNat 4).toS (ch.el (↑i:Int).toNat 5))).len=(cat w (catTo j (chWE ch))).len/\List.take (2001:Nat) (List.take (2001:Nat) (w.rows++List.map sR (catTo i (chWE ch)))++List.map sR (chWd (ch.el (↑i:Int).toNat (0:Nat)).toS (ch.el (↑i:Int).toNat 1).toI (ch.el (↑i:Int).toNat 2).toI (ch.el (↑i:Int).toNat 3).toS (ch.el (↑i:Int).toNat 4).toS (ch.el (↑i:Int).toNat 5)))=List.take (2001:Nat) (w.rows++List.map sR (catTo j (chWE ch)))/\ch.rows=ch.rows/\ru.rows=ru.rows/\pr.rows=pr.rows)/\(decide ((↑i:Int)<(↑ch.len:Int))=false->(∃ (i_1:Nat),i_1.le ru.len/\(0:Int)=(↑i_1:Int)/\ru.rows=ru.rows/\(↑ru.len:Int)=(↑ru.len:Int)/\(cat w (catTo i (chWE ch))).len=(cat w (catTo ch.len (chWE ch)++catTo i_1 (ruWE ru))).len/\List.take (2001:Nat) (w.rows++List.map sR (catTo i (chWE ch)))=List.take (2001:Nat) (w.rows++List.map sR (catTo ch.len (chWE ch)++catTo i_1 (ruWE ru)))/\ch.rows=ch.rows/\ru.rows=ru.rows/\pr.rows=pr.rows)/\∀ (i:Nat),i.le ru.len->(decide ((↑i:Int)<(↑ru.len:Int))=true->((0:Int)<=(↑i:Int)/\(↑i:Int)<(↑ru.len:Int))/\(0:Nat)=(0:Nat)/\(cat w (catTo ch.len (chWE ch)++catTo i (ruWE ru))).len=(cat w (catTo ch.len (chWE ch)++catTo i (ruWE ru))).len/\ruF (ru.el (↑i:Int).toNat (0:Nat)).toS (ru.el (↑i:Int).toNat 1)/\(cat w (catTo ch.len (chWE ch)++catTo i (ruWE ru))).len<=(2001:Nat)/\∃ (j:Nat),j.le ru.len/\ru.len-j<ru.len-i/\IntKind.i64.wrap ((↑i:Int)+(1:Int))=(↑j:Int)/\ru.rows=ru.rows/\(↑ru.len:Int)=(↑ru.len:Int)/\(cat (cat w (catTo ch.len (chWE ch)++catTo i (ruWE ru))) (ruWd (ru.el (↑i:Int).toNat (0:Nat)).toS (ru.el (↑i:Int).toNat 1))).len=(cat w (catTo ch.len (chWE ch)++catTo j (ruWE ru))).len/\List.take (2001:Nat) (List.take (2001:Nat) (w.rows++List.map sR (catTo ch.len (chWE ch)++catTo i (ruWE ru)))++List.map sR (ruWd (ru.el (↑i:Int).toNat (0:Nat)).toS (ru.el (↑i:Int).toNat 1)))=List.take (2001:Nat) (w.rows++List.map sR (catTo ch.len (chWE ch)++catTo j (ruWE ru)))/\ch.rows=ch.rows/\ru.rows=ru.rows/\pr.rows=pr.rows)/\(decide ((↑i:Int)<(↑ru.len:Int))=false->(∃ (i_1:Nat),i_1.le pr.len/\(0:Int)=(↑i_1:Int)/\pr.rows=pr.rows/\(↑pr.len:Int)=(↑pr.len:Int)/\(cat w (catTo ch.len (chWE ch)++catTo i (ruWE ru))).len=(cat w (catTo ch.len (chWE ch)++catTo ru.len (ruWE ru)++catTo i_1 (prWE pr))).len/\List.take (2001:Nat) (w.rows++List.map sR (catTo ch.len (chWE ch)++catTo i (ruWE ru)))=List.take (2001:Nat) (w.rows++List.map sR (catTo ch.len (chWE ch)++catTo ru.len (ruWE ru)++catTo i_1 (prWE pr)))/\ch.rows=ch.rows/\ru.rows=ru.rows/\pr.rows=pr.rows)/\∀ (i:Nat),i.le pr.len->(decide ((↑i:Int)<(↑pr.len:Int))=true->((0:Int)<=(↑i:Int)/\(↑i:Int)<(↑pr.len:Int))/\(0:Nat)=(0:Nat)/\(cat w (catTo ch.len (chWE ch)++catTo ru.len (ruWE ru)++catTo i (prWE pr))).len=(cat w (catTo ch.len (chWE ch)++catTo ru.len (ruWE ru)++catTo i (prWE pr))).len/\prcF (pr.el (↑i:Int).toNat (0:Nat)).toS (pr.el (↑i:Int).toNat 1) (pr.el (↑i:Int).toNat 2)/\(cat w (catTo ch.len (chWE ch)++catTo ru.len (ruWE ru)++catTo i (prWE pr))).len<=(2001:Nat)/\∃ (j:Nat),j.le pr.len/\pr.len-j<pr.len-i/\IntKind.i64.wrap ((↑i:Int)+(1:Int))=(↑j:Int)/\pr.rows=pr.rows/\(↑pr.len:Int)=(↑pr.len:Int)/\(cat (cat w (catTo ch.len (chWE ch)++catTo ru.len (ruWE ru)++catTo i (prWE pr))) (prWd (pr.el (↑i:Int).toNat (0:Nat)).toS (pr.el (↑i:Int).toNat 1) (pr.el (↑i:Int).toNat 2))).len=(cat w (catTo ch.len (chWE ch)++catTo ru.len (ruWE ru)++catTo j (prWE pr))).len/\List.take (2001:Nat) (List.take (2001:Nat) (w.rows++List.map sR (catTo ch.len (chWE ch)++catTo ru.len (ruWE ru)++catTo i (prWE pr)))++List.map sR (prWd (pr.el (↑i:Int).toNat (0:Nat)).toS (pr.el (↑i:Int).toNat 1) (pr.el (↑i:Int).toNat 2)))=List.take (2001:Nat) (w.rows++List.map sR (catTo ch.len (chWE ch)++catTo ru.len (ruWE ru)++catTo j (prWE pr)))/\ch.rows=ch.rows/\ru.rows=ru.rows/\pr.rows=pr.rows)/\(decide ((↑i:Int)<(↑pr.len:Int))=false->(cat w (catTo ch.len (chWE ch)++catTo ru.len (ruWE ru)++catTo i (prWE pr))).len=(cat w (syW ch ru pr)).len/\List.take (2001:Nat) (w.rows++List.map sR (catTo ch.len (chWE ch)++catTo ru.len (ruWE ru)++catTo i (prWE pr)))=List.take (2001:Nat) (w.rows++List.map sR (syW ch ru pr)))))) (by kernel_rfl) ?_
  intro hk hf hw
  refine ⟨⟨0,Nat.zero_le _,rfl,rfl,rfl,(cat_nil hw).1,(cat_nil hw).2,rfl,rfl,rfl⟩,fun i hi=>⟨fun hl=>?_,fun hl=>?_⟩⟩
  ·have hl:=of_decide_eq_true hl
   have hi2:i<ch.len:=by omega
   have hb:=hk.c
   have hw2:IntKind.i64.wrap ((i:Int)+1)=((i+1:Nat):Int):=by rw [IntWalk.i64_in _ (by omega)];omega
   have z1:=hf.c i hi2
   refine ⟨⟨by omega,by omega⟩,rfl,rfl,z1,cat_le _ _,i+1,hi2,by omega,hw2,rfl,rfl,eqDx ?_ ⟨rfl,rfl,rfl⟩⟩
   simp only [put1s,put2s,put3s,put4s,put5s,cat_cat,catTo_succ,List.append_assoc]<;>rfl
  ·have hl:=of_decide_eq_false hl
   have hi3:i=ch.len:=by have:i<=ch.len:=hi;omega
   subst hi3
   refine ⟨⟨0,Nat.zero_le _,rfl,rfl,rfl,eqDx ?_ ⟨rfl,rfl,rfl⟩⟩,fun i hi=>⟨fun hl=>?_,fun hl=>?_⟩⟩
   ·simp only [catTo,List.range_zero,List.map_nil,List.flatten_nil,List.append_nil]
   ·have hl:=of_decide_eq_true hl
    have hi2:i<ru.len:=by omega
    have hb:=hk.r
    have hw2:IntKind.i64.wrap ((i:Int)+1)=((i+1:Nat):Int):=by rw [IntWalk.i64_in _ (by omega)];omega
    have z1:=hf.r i hi2
    refine ⟨⟨by omega,by omega⟩,rfl,rfl,z1,cat_le _ _,i+1,hi2,by omega,hw2,rfl,rfl,eqDx ?_ ⟨rfl,rfl,rfl⟩⟩
    simp only [put1s,put2s,put3s,put4s,put5s,cat_cat,catTo_succ,List.append_assoc]<;>rfl
   ·have hl:=of_decide_eq_false hl
    have hi3:i=ru.len:=by have:i<=ru.len:=hi;omega
    subst hi3
    refine ⟨⟨0,Nat.zero_le _,rfl,rfl,rfl,eqDx ?_ ⟨rfl,rfl,rfl⟩⟩,fun i hi=>⟨fun hl=>?_,fun hl=>?_⟩⟩
    ·simp only [catTo,List.range_zero,List.map_nil,List.flatten_nil,List.append_nil]
    ·have hl:=of_decide_eq_true hl
     have hi2:i<pr.len:=by omega
     have hb:=hk.p
     have hw2:IntKind.i64.wrap ((i:Int)+1)=((i+1:Nat):Int):=by rw [IntWalk.i64_in _ (by omega)];omega
     have z1:=hf.p i hi2
     refine ⟨⟨by omega,by omega⟩,rfl,rfl,z1,cat_le _ _,i+1,hi2,by omega,hw2,rfl,rfl,eqDx ?_ ⟨rfl,rfl,rfl⟩⟩
     simp only [put1s,put2s,put3s,put4s,put5s,cat_cat,catTo_succ,List.append_assoc]<;>rfl
    ·have hl:=of_decide_eq_false hl
     have hi3:i=pr.len:=by have:i<=pr.len:=hi;omega
     subst hi3
     refine eqD ?_
     unfold syW
     simp only [List.append_assoc]
 ·trivial
end Go.Proofs.YthpponmbpoaffaaGreatDoor.Sx.Z
namespace Go.Proofs.YthpponmbpoaffaaGreatDoor.Sx.Z
open Go.RowKit
def wdD (ch ru pr:D):D:=cat (.l []) (syW ch ru pr)
def wdE (ch ru pr:D):Int:=if syB ch ru pr=true then (if syN pr=true then (if ((wdD ch ru pr).len:Int)>2000 then 4 else 0) else 6) else 5
def wdA (ch ru pr:D):D:=if wdE ch ru pr=0 then wdD ch ru pr else .l []
theorem wd5 {ch ru pr:D} (h:syB ch ru pr=false):wdE ch ru pr=5:=by unfold wdE;rw [h];rfl
theorem wd6 {ch ru pr:D} (h:syB ch ru pr=true) (h2:syN pr=false):wdE ch ru pr=6:=by unfold wdE;rw [h,h2];rfl
theorem wd4 {ch ru pr:D} (h:syB ch ru pr=true) (h2:syN pr=true) (h3:((wdD ch ru pr).len:Int)>2000):wdE ch ru pr=4:=by unfold wdE;rw [h,h2,if_pos rfl,if_pos rfl,if_pos h3]
theorem wd0 {ch ru pr:D} (h:syB ch ru pr=true) (h2:syN pr=true) (h3:¬ ((wdD ch ru pr).len:Int)>2000):wdE ch ru pr=0:=by unfold wdE;rw [h,h2,if_pos rfl,if_pos rfl,if_neg h3]
noncomputable def wrdS:FSpec:=fun ds _=>match ds with
 | [.d ch,.d ru,.d pr]=>some {val:=.tup [.sc (.rows 9 (wdA ch ru pr)),.sc (.int .i64 (.sym (wdE ch ru pr)))],vc:=[SyOK ch ru pr,(syB ch ru pr=true->syN pr=true->SyF ch ru pr)]}
 |_=>none
noncomputable def wrdC:Con:=con [lSy] wrdS
theorem wrd_ok:ConOK Tryz.prog 9 wrdC:=by
 refine fn_ob tt_ok mixed Tryz.func9 rfl (fun _ _=>by kernel_rfl) (A:=fun ds=>⟨fun _=>Cons.of [(23,syrC),(24,sydC),(25,syxC),(26,tooMC)],fun _=>none,fun _=>none⟩) (fun _ _=>(cons_cons syr_ok (cons_cons syd_ok (cons_cons syx_ok (cons_cons tooM_ok cons_nil))))) (by kernel_rfl) ?_
 intro ds fr
 unfold wrdS
 split
 ·rename_i ch ru pr
  refine kmp (q:=SyOK ch ru pr->(syB ch ru pr=true->syN pr=true->SyF ch ru pr)->SyOK ch ru pr/\((!syB ch ru pr)=true->(wdA ch ru pr).rows=[]/\(5:Int)=wdE ch ru pr)/\((!syB ch ru pr)=false->SyOK ch ru pr/\syB ch ru pr=true/\((!syN pr)=true->(wdA ch ru pr).rows=[]/\(6:Int)=wdE ch ru pr)/\((!syN pr)=false->SyOK ch ru pr/\SyF ch ru pr/\(D.l []).len<=(2001:Nat)/\(0:Nat)=(0:Nat)/\(cat (D.l []) (syW ch ru pr)).len=(cat (D.l []) (syW ch ru pr)).len/\(cat (D.l []) (syW ch ru pr)).len<=(10000000000000:Nat)/\(decide ((↑(cat (D.l []) (syW ch ru pr)).len:Int)>(2000:Int))=true->(wdA ch ru pr).rows=[]/\(4:Int)=wdE ch ru pr)/\(decide ((↑(cat (D.l []) (syW ch ru pr)).len:Int)>(2000:Int))=false->(0:Nat)+(cat (D.l []) (syW ch ru pr)).len<=(cat (D.l []) (syW ch ru pr)).len/\List.drop ((0:Nat)) (List.take ((0:Nat)+(cat (D.l []) (syW ch ru pr)).len) (List.take (2001:Nat) ([]++List.map sR (syW ch ru pr))))=(wdA ch ru pr).rows/\(0:Int)=wdE ch ru pr)))) (by kernel_rfl) ?_
  intro hk hf
  have an:wdE ch ru pr≠0->(wdA ch ru pr).rows=[]:=fun h=>by unfold wdA;rw [if_neg h];rfl
  refine ⟨hk,fun h=>?_,fun h=>?_⟩
  ·rw [Bool.not_eq_true'] at h
   have e:=wd5 h
   exact ⟨an (by rw [e];decide),e.symm⟩
  ·rw [Bool.not_eq_false'] at h
   refine ⟨hk,h,fun h2=>?_,fun h2=>?_⟩
   ·rw [Bool.not_eq_true'] at h2
    have e:=wd6 h h2
    exact ⟨an (by rw [e];decide),e.symm⟩
   ·rw [Bool.not_eq_false'] at h2
    refine ⟨hk,hf h h2,Nat.zero_le _,rfl,rfl,Nat.le_trans (cat_le _ _) (by decide),fun h3=>?_,fun h3=>?_⟩
    ·have e:=wd4 h h2 (of_decide_eq_true h3)
     exact ⟨an (by rw [e];decide),e.symm⟩
    ·have e:=wd0 h h2 (of_decide_eq_false h3)
     have ea:wdA ch ru pr=wdD ch ru pr:=if_pos e
     refine ⟨by omega,?_,e.symm⟩
     rw [ea,Nat.zero_add]
     show List.drop 0 (List.take (wdD ch ru pr).rows.length (wdD ch ru pr).rows)=_
     rw [List.take_length];rfl
 ·trivial
end Go.Proofs.YthpponmbpoaffaaGreatDoor.Sx.Z
namespace Go.Proofs.YthpponmbpoaffaaGreatDoor.Sx.Z
open Go.RowKit
def lXr:AP:=.agg [.c (.int .i64),.c (.int .i64),.c .str,.c (.rows 100)]
def lCr:AP:=.agg [.c (.int .i64),.c (.int .i64),.c (.int .i64),.c .str,.c (.rows 100),.c (.int .i64),.c (.int .i64),.c .str,.c (.rows 100)]
def cpTo (n:Nat) (f:Nat->List D):D:=.l ((List.range n).map f)
theorem cpTo_len (n:Nat) (f:Nat->List D):(cpTo n f).len=n:=by
 show ((List.range n).map f).length=n
 rw [List.length_map,List.length_range]
theorem cpTo_succ (n:Nat) (f:Nat->List D):(cpTo (n+1) f).rows=(cpTo n f).rows++[f n]:=by
 show (List.range (n+1)).map f=(List.range n).map f++[f n]
 rw [List.range_succ,List.map_append];rfl
theorem cpF_eq {n:Nat} (f:Nat->List D):D.l ((List.finRange n).map fun i=>f i.1)=cpTo n f:=by
 unfold cpTo
 congr 1
 apply List.ext_getElem
 ·simp
 ·intro i h1 h2
  simp
def cpE (d:D):D:=.l ((List.finRange d.len).map fun (i:Fin d.len)=>[D.i (d.el i 0).toI,D.i (d.el i 1).toI,D.s (d.el i 2).toS,cpE (d.el i 3)])
 termination_by SizeOf.sizeOf d
 decreasing_by exact lel_lt i.isLt
def rX (d:D) (i:Nat):List D:=[D.i (d.el i 0).toI,D.i (d.el i 1).toI,D.s (d.el i 2).toS,cpE (d.el i 3)]
theorem cpE_eq (d:D):cpE d=cpTo d.len (rX d):=by
 rw [cpE,<- cpF_eq];rfl
def kS (d:D):Prop:=d.len*56<=140737488355328/\∀ i:Fin d.len,kS (d.el i 3)
 termination_by SizeOf.sizeOf d
 decreasing_by exact lel_lt i.isLt
theorem kS_iff (d:D):kS d↔d.len*56<=140737488355328/\∀ i,i<d.len->kS (d.el i 3):=by
 rw [kS]
 exact ⟨fun h=>⟨h.1,fun i hi=>h.2 ⟨i,hi⟩⟩,fun h=>⟨h.1,fun i=>h.2 i.1 i.2⟩⟩
noncomputable def xcpS:FSpec:=fun ds _=>match ds with
 | [.i k,.i n,.s s,.d d]=>some {val:=.one (.agg [.c (.int .i64 (.sym (k))),.c (.int .i64 (.sym (n))),.c (.raw (.string (s))),.c (.rows 76 (cpE d))]),vc:=[kS d]}
 |_=>none
noncomputable def xcpC:Con:=con [lXr] xcpS
noncomputable def xcpM:List Dat->Nat:=fun ds=>match ds with
 | [.i _k,.i _n,.s _s,.d d]=>SizeOf.sizeOf d
 |_=>0
noncomputable def xcpSu (m:Nat):FSpec:=fun ds _=>match ds with
 | [.i k,.i n,.s s,.d d]=>some {val:=.one (.agg [.c (.int .i64 (.sym (k))),.c (.int .i64 (.sym (n))),.c (.raw (.string (s))),.c (.rows 76 (cpE d))]),vc:=[SizeOf.sizeOf d<m,kS d]}
 |_=>none
theorem xcp_under (m:Nat):xcpS.under xcpM m=xcpSu m:=by
 funext ds fr
 unfold FSpec.under xcpS xcpM xcpSu
 split
 ·rename_i e h
  split at h
  ·obtain rfl:=Option.some.inj h;rfl
  ·cases h
 ·rename_i h
  split at h
  ·cases h
  ·rfl
theorem xcp_step (m:Nat) (ih:ConOK Tryz.prog 27 (con [lXr] (xcpSu m))):ConOK Tryz.prog 27 (con [lXr] (xcpSu (m+1))):=by
 refine fn_ob tt_ok mixed Tryz.func27 rfl (fun _ _=>by kernel_rfl) (A:=fun ds=>⟨fun _=>Cons.of [(27,con [lXr] (xcpSu m))],fun k=>match k,ds with | 3,[.i k,.i n,.s s,.d d]=>some {ι:=Nat,pre:=fun _ i=>i<=d.len,μ:=fun i=>d.len+1-i,st:=fun s i=>famR s [(4,.one (.sc (.int .i64 (.sym ((i:Nat)))))),(3,.one (.sc (.osl 76 (s.nx-1) (.lit 0) (.sym (i)))))] [1,2] [(s.nx-1,.orow 76 (cpTo i (rX d)))] [1,2]} |_,_=>none,fun _=>none⟩) (fun _ _=>(cons_cons ih cons_nil)) (by kernel_rfl) ?_
 intro ds fr
 unfold xcpSu
 split
 ·rename_i k n s d
  refine kmp (q:=SizeOf.sizeOf d<m+(1:Nat)->kS d->(∃ (i:Nat),i.le d.len/\(0:Int)=(↑i:Int)/\i=(0:Nat)/\List.map (rX d) (List.range i)=[]/\k=k/\n=n/\Value.string s=Value.string s/\d.rows=d.rows/\(0:Int)=(0:Int)/\(0:Int)=(0:Int)/\Value.string ByteArray.empty=Value.string ByteArray.empty)/\∀ (i:Nat),i.le d.len->(decide ((↑i:Int)<(↑d.len:Int))=true->((0:Int)<=(↑i:Int)/\(↑i:Int)<(↑d.len:Int))/\SizeOf.sizeOf (d.el (↑i:Int).toNat 3)<m/\kS (d.el (↑i:Int).toNat 3)/\i=(cpTo i (rX d)).len/\(i+((D.l [[D.i (d.el (↑i:Int).toNat (0:Nat)).toI,D.i (d.el (↑i:Int).toNat 1).toI,D.s (d.el (↑i:Int).toNat 2).toS,cpE (d.el (↑i:Int).toNat 3)]]).sub (0:Nat) 1).len)*(56:Nat)<=(140737488355328:Nat)/\(0:Nat)+(1:Nat)<=(D.l [[D.i (d.el (↑i:Int).toNat (0:Nat)).toI,D.i (d.el (↑i:Int).toNat 1).toI,D.s (d.el (↑i:Int).toNat 2).toS,cpE (d.el (↑i:Int).toNat 3)]]).len/\∃ (j:Nat),j.le d.len/\d.len+(1:Nat)-j<d.len+(1:Nat)-i/\IntKind.i64.wrap ((↑i:Int)+(1:Int))=(↑j:Int)/\i+((D.l [[D.i (d.el (↑i:Int).toNat (0:Nat)).toI,D.i (d.el (↑i:Int).toNat 1).toI,D.s (d.el (↑i:Int).toNat 2).toS,cpE (d.el (↑i:Int).toNat 3)]]).sub (0:Nat) 1).len=j/\List.map (rX d) (List.range i)++List.drop (0:Nat) (List.take 1 [[D.i (d.el (↑i:Int).toNat (0:Nat)).toI,D.i (d.el (↑i:Int).toNat 1).toI,D.s (d.el (↑i:Int).toNat 2).toS,cpE (d.el (↑i:Int).toNat 3)]])=List.map (rX d) (List.range j)/\k=k/\n=n/\Value.string s=Value.string s/\d.rows=d.rows/\(0:Int)=(0:Int)/\(0:Int)=(0:Int)/\Value.string ByteArray.empty=Value.string ByteArray.empty)/\(decide ((↑i:Int)<(↑d.len:Int))=false->(0:Nat)+i<=(cpTo i (rX d)).len/\k=k/\n=n/\Value.string s=Value.string s/\List.drop ((0:Nat)) (List.take ((0:Nat)+i) (List.map (rX d) (List.range i)))=(cpE d).rows)) (by kernel_rfl) ?_
  intro hm hs
  rw [kS_iff] at hs
  obtain ⟨h1,h2⟩:=hs
  refine ⟨⟨0,Nat.zero_le _,rfl,rfl,rfl,rfl,rfl,rfl,rfl,rfl,rfl,rfl⟩,fun i hi=>⟨fun hl=>?_,fun hl=>?_⟩⟩
  ·have hl:=of_decide_eq_true hl
   have hi2:i<d.len:=by omega
   have hw2:IntKind.i64.wrap ((i:Int)+1)=((i+1:Nat):Int):=by rw [IntWalk.i64_in _ (by omega)];omega
   have z:=lel_lt (j:=3) hi2
   exact ⟨⟨by omega,by omega⟩,(show SizeOf.sizeOf (d.el i 3)<m by omega),h2 i hi2,(cpTo_len _ _).symm,(show (i+1)*56<=140737488355328 by omega),Nat.le_refl _,i+1,hi2,by omega,hw2,rfl,(cpTo_succ i (rX d)).symm,rfl,rfl,rfl,rfl,rfl,rfl,rfl⟩
  ·have hl:=of_decide_eq_false hl
   have hi3:i=d.len:=by have:i<=d.len:=hi;omega
   subst hi3
   refine ⟨by rw [cpTo_len];omega,rfl,rfl,rfl,?_⟩
   rw [cpE_eq,Nat.zero_add,List.drop_zero,List.take_of_length_le (by simp)];rfl
 ·trivial
theorem xcp_ok:ConOK Tryz.prog 27 xcpC:=
 con_rec xcpM (fun _ _=>by kernel_rfl) fun m ih=>by
  rw [xcp_under] at ih ⊢
  exact xcp_step m ih
noncomputable def ccpS:FSpec:=fun ds _=>match ds with
 | [.i op,.i lk,.i ln,.s ls,.d ld,.i rk,.i rn,.s rs,.d rd]=>some {val:=.one (.agg [.c (.int .i64 (.sym (op))),.c (.int .i64 (.sym (lk))),.c (.int .i64 (.sym (ln))),.c (.raw (.string (ls))),.c (.rows 76 (cpE ld)),.c (.int .i64 (.sym (rk))),.c (.int .i64 (.sym (rn))),.c (.raw (.string (rs))),.c (.rows 76 (cpE rd))]),vc:=[kS ld,kS rd]}
 |_=>none
noncomputable def ccpC:Con:=con [lCr] ccpS
theorem ccp_ok:ConOK Tryz.prog 28 ccpC:=by
 refine fn_ob tt_ok mixed Tryz.func28 rfl (fun _ _=>by kernel_rfl) (A:=fun ds=>⟨fun _=>Cons.of [(27,xcpC)],fun _=>none,fun _=>none⟩) (fun _ _=>(cons_cons xcp_ok cons_nil)) (by kernel_rfl) ?_
 intro ds fr
 unfold ccpS
 split
 ·rename_i op lk ln ls ld rk rn rs rd
  refine kmp (q:=kS ld->kS rd->kS ld/\kS rd/\op=op/\lk=lk/\ln=ln/\Value.string ls=Value.string ls/\(cpE ld).rows=(cpE ld).rows/\rk=rk/\rn=rn/\Value.string rs=Value.string rs/\(cpE rd).rows=(cpE rd).rows) (by kernel_rfl) ?_
  intro hl hr
  exact ⟨hl,hr,rfl,rfl,rfl,rfl,rfl,rfl,rfl,rfl,rfl⟩
 ·trivial
end Go.Proofs.YthpponmbpoaffaaGreatDoor.Sx.Z
