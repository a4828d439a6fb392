import Derived.Test.YtbhbjhejkamlnaaZ21
import Derived.Test.YtbhbjhejkamlnaaZ15
namespace Go.Proofs.Ytbhbjhejkamlnaa.Sx.Z
open Go.RowKit
def tokR (t:Tok):List D:=[.i t.kind,.s t.text,.i t.num,.i (t.pos:Nat)]
def tokD (l:List Tok):D:=.l (l.map tokR)
theorem tokD_len (l:List Tok):(tokD l).len=l.length:=List.length_map ..
def tokV (t:Tok):List Value:=[.int .i64 t.kind,.string t.text,.int .i64 t.num,.int .i64 (t.pos:Nat)]
theorem tcells_get:∀ {l:List Tok} {i j:Nat} {t:Tok},l[i]? = some t->j<4->(tcells l)[i*4+j]? = (tokV t)[j]?
 | [],i,j,t,h,_=>by simp at h
 |a::l,0,j,t,h,hj=>by
  obtain rfl:a=t:=by simpa using h
  show (tokV a++tcells l)[0*4+j]? = _
  rw [Nat.zero_mul,Nat.zero_add,List.getElem?_append_left (by show j<4;exact hj)]
 |a::l,i+1,j,t,h,hj=>by
  have ih:=tcells_get (l:=l) (i:=i) (j:=j) (t:=t) (by simpa using h) hj
  show (tokV a++tcells l)[(i+1)*4+j]? = _
  rw [List.getElem?_append_right (by show 4<=_;omega)]
  rw [<- ih]
  congr 1
  show (i+1)*4+j-4=i*4+j
  omega
theorem tok_eks:eks 115=[.int .i64,.str,.int .i64,.int .i64]:=by rfl
theorem tokD_el {l:List Tok} {i:Nat} {t:Tok} (h:l[i]? = some t) (j:Nat):(tokD l).el i j=(tokR t).getD j (.i 0):=by
 unfold D.el
 have:(tokD l).rows.getD i []=tokR t:=by
  show (l.map tokR).getD i []=_
  rw [List.getD_eq_getElem?_getD,List.getElem?_map,h];rfl
 rw [this]
def lexS:FSpec:=fun ds _=>match ds with
 | [.s s]=>some {val:=.tup [.sc (.rows 115 (tokD (lexR s).1)),.sc (.int .i64 (.sym ((lexR s).2.1:Nat))),.sc (.int .i64 (.sym (lexR s).2.2))],vc:=[s.size<=140737488351232]}
 |_=>none
def lexC:Con:=con [.sc .str] lexS
theorem lex_rel {fz:Fz} {l:List Tok} {A:Option Addr} {c:Nat} {base:Nat} {w:World} (h:w.ownsRow base 115 4 (.slice A l.length c) l.length (tcells l)) (hf:∀ g cur,base<=g->w.heap[g]? = some (.cells cur 115 (0,0))->A=some ⟨g,0,none⟩->fz g=some cur):TRel fz (.slice 115) (tokD l) (.slice A l.length c):=by
 rcases h.2 with ⟨hv,h0⟩ |⟨g,cap,cur,hv,hg,hh,h1,h2,h3,h4⟩
 ·rw [hv]
  exact .nil _ _ (by rw [tokD_len];exact h0)
 ·obtain ⟨hA,_,hc⟩:=Value.slice.inj hv
  subst hA hc
  by_cases h0:l.length=0
  ·rw [h0]
   exact .empty _ _ _ _ (by rw [tokD_len];exact h0)
  ·have hF:=hf g cur hg hh rfl
   have hat:∀ i j t,l[i]? = some t->j<4->cur[i*4+j]? = (tokV t)[j]?:=fun i j t ht hj=>by
    have e:=tcells_get ht hj
    rw [<- h4] at e
    have hi:i<l.length:=lt_of_get ht
    rw [List.getElem?_take_of_lt (by omega),Array.getElem?_toList] at e
    exact e
   rw [show Value.slice (some ⟨g,0,none⟩) l.length c=Value.slice (some ⟨g,0,none⟩) (tokD l).len c by rw [tokD_len]]
   refine .slice _ _ _ _ _ (fun i j=>(cur[i*4+j]?).getD undef) (by rw [tokD_len];exact h1) (fun i j hi hj=>?_) (fun i j k hi hk=>?_)
   ·rw [tokD_len] at hi
    have hj4:j<4:=hj
    have e:=hat i j _ (List.getElem?_eq_getElem hi) hj4
    have e2:(tokV l[i])[j]? = some (tokV l[i])[j]:=List.getElem?_eq_getElem (by show j<4;exact hj4)
    rw [e2] at e
    show Fz.cell fz g (0+i*4+j)=_
    rw [Nat.zero_add,e]
    unfold Fz.cell
    rw [hF]
    exact e
   ·rw [tokD_len] at hi
    have ht:=List.getElem?_eq_getElem hi
    rw [tokD_el ht]
    rw [tok_eks] at hk
    match j,hk with
    | 0,hk=>obtain rfl:=Option.some.inj hk;rw [hat i 0 _ ht (by omega)];exact .int _ (.i _)
    | 1,hk=>obtain rfl:=Option.some.inj hk;rw [hat i 1 _ ht (by omega)];exact .str (.s _)
    | 2,hk=>obtain rfl:=Option.some.inj hk;rw [hat i 2 _ ht (by omega)];exact .int _ (.i _)
    | 3,hk=>obtain rfl:=Option.some.inj hk;rw [hat i 3 _ ht (by omega)];exact .int _ (.i _)
    |j+4,hk=>simp at hk
def lexF (f:Fz) (w w':World) (A:Option Addr):Fz:=fun b=>match A with |some a=>if b=a.block/\w.heap.size<=b then cellsAt w' b else f b |none=>f b
theorem lexF_or {f:Fz} {w w':World} {A:Option Addr} {b:Nat} {cs:Array Value} (h:lexF f w w' A b=some cs):f b=some cs ∨ (w.heap.size<=b/\cellsAt w' b=some cs):=by
 unfold lexF at h
 split at h
 ·split at h
  ·rename_i hh;exact .inr ⟨hh.2,h⟩
  ·exact .inl h
 ·exact .inl h
theorem lex_ok:ConOK Try.prog 13 lexC:=by
 refine ⟨fun _ _=>by kernel_rfl,fun hp fr args e he hv w0 w ρ vs hw _ ha=>?_,fun _ _ _ _ h=>nomatch (con_jf _ _ _ _ _).symm.trans h⟩
 unfold lexC con at he
 split at he
 ·rename_i ds ps hds
  split at he
  ·rename_i e1 he1
   unfold lexS at he1
   split at he1
   ·rename_i s
    obtain rfl:=Option.some.inj he1
    obtain rfl:=Option.some.inj he
    obtain ⟨hp1,hp2⟩:=all_append.1 hv
    obtain ⟨svs,h,ρ1,id,hun,_,_,hrel⟩:=unP_spec hw [.sc .str] args _ ps hds hp1 vs ha (ids:=keepOwn hp (idsX hp args)) (fun i hi ho=>keepOwn_mem.2 ⟨hi,ho⟩) 0
    obtain rfl:svs=_:=(congrArg Prod.fst (Option.some.inj hun)).symm
    match vs,hrel with
    | [x],⟨hx,_⟩=>
      have hx:x = .string s:=hx
      subst hx
      refine (lex_any s w hp2.1).mono ?_
      rintro en w' ⟨A,c,rfl,hown,hb⟩
      have hle:FzLe ρ.fz (lexF ρ.fz w w' A):=fun b cs hbc=>by
       unfold lexF
       split
       ·split
        ·rename_i hh
         rw [hw.froz.new hh.2] at hbc;cases hbc
        ·exact hbc
       ·exact hbc
      have hrel2:TRel (lexF ρ.fz w w' A) (.slice 115) (tokD (lexR s).1) (.slice A (lexR s).1.length c):=lex_rel hown fun g cur hg hh hA=>by
       subst hA
       show (if g=g/\w.heap.size<=g then cellsAt w' g else ρ.fz g)=some cur
       rw [if_pos ⟨rfl,hg⟩]
       unfold cellsAt
       rw [hh]
      refine ⟨{ρ with fz:=lexF ρ.fz w w' A},_,rfl,⟨_,rfl,hrel2,rfl,rfl,trivial⟩,⟨⟨fun _ _ h=>h,fun _ _=>rfl,hle,rfl,rfl⟩,fun _ _=>rfl,hb.mono (Nat.zero_le _),fun b hlt _=>hb.block b hlt,fun i x hx=>?_,fun i x hx=>?_,fun i j x y hx=>?_,fun b cs hcs=>?_⟩⟩
      ·have hx':look (kills (keepOwn hp (idsX hp args))) i=some x:=hx
       rw [(kills_look hx').1];trivial
      ·cases hx
      ·cases hx
      ·rcases lexF_or hcs with h1 |⟨h1,h2⟩
       ·exact .inl h1
       ·exact .inr ⟨.inl h1,cellsAt_some h2,fun _ _ h=>by cases h⟩
   ·cases he1
  ·cases he
 ·cases he
end Go.Proofs.Ytbhbjhejkamlnaa.Sx.Z
namespace Go.Proofs.Ytbhbjhejkamlnaa.Sx.Z
open Go.RowKit
def paW (s:ByteArray):D:=tokD (lexR s).1
def paY (s:ByteArray):Rd:=syR (paW s) (s.size:Nat) (mR 0 0 0)
def paO (s:ByteArray):Bool:=decide ((lexR s).2.2=0)&&decide ((paY s).er=0)
def paC (s:ByteArray):D:=if paO s=true then (syC (paW s) (s.size:Nat) (mR 0 0 0)).1 else .l []
def paU (s:ByteArray):D:=if paO s=true then (syU (paW s) (s.size:Nat) (mR 0 0 0)).1 else .l []
def paP (s:ByteArray):D:=if paO s=true then (syP (paW s) (s.size:Nat) (mR 0 0 0)).1 else .l []
def paE (s:ByteArray):Int:=if (lexR s).2.2=0 then (paY s).er else (lexR s).2.2
def paA (s:ByteArray):Int:=if (lexR s).2.2=0 then (if (paY s).er=0 then 0 else (paY s).pa) else ((lexR s).2.1:Nat)
theorem ne_of_bne {a b:Int} (h:(a != b)=true):a≠b:=by simpa using h
theorem of_not_bne {a b:Int} (h:(a != b)=false):a=b:=by simpa using h
theorem lexR_len (s:ByteArray):(lexR s).1.length<=2000:=by
 unfold lexR
 split
 ·exact Nat.zero_le _
 ·split
  ·exact Nat.zero_le _
  ·rename_i h
   exact Nat.le_of_not_lt h
theorem paW_ok (s:ByteArray):rdOK (paW s) (mR 0 0 0).nx:=by
 have h:=lexR_len s
 have e:(paW s).len=(lexR s).1.length:=tokD_len _
 exact ⟨Int.le_refl _,by show (0:Int)<=_;omega,by omega⟩
noncomputable def parS:List Dat->Option Eff:=fun ds=>match ds with
 | [.s s]=>some {val:=.tup [.agg [.c (.osl 97 0 (.lit 0) (.sym ((paC s).len))),.c (.osl 102 1 (.lit 0) (.sym ((paU s).len))),.c (.osl 87 2 (.lit 0) (.sym ((paP s).len)))],.sc (.int .i64 (.sym (paA s))),.sc (.int .i64 (.sym (paE s)))],vc:=[s.size<=140737488351232],nw:=[(0,.orow 97 (paC s)),(1,.orow 102 (paU s)),(2,.orow 87 (paP s))]}
 |_=>none
noncomputable def parC:Con:=conS [.sc .str] parS
theorem par_ok:ConOK Try.prog 7 parC:=by
 refine fn_obS tt_ok mixed Try.func7 rfl (fun _ _=>by kernel_rfl) (A:=fun ds=>⟨fun _=>Cons.of [(13,lexC),(14,sysC)],fun _=>none,fun _=>none⟩) (fun _ _=>(cons_cons lex_ok (cons_cons sys_ok cons_nil))) (by kernel_rfl) ?_
 intro ds
 unfold parS
 split
 ·rename_i s
  refine kmp (q:=s.size<=140737488351232->s.size<=140737488351232/\(((lexR s).snd.snd != (0:Int))=true->(paC s).len=0/\(paU s).len=0/\(paP s).len=0/\(↑(lexR s).snd.fst:Int)=paA s/\(lexR s).snd.snd=paE s/\(paC s).rows=[]/\(paU s).rows=[]/\(paP s).rows=[])/\(((lexR s).snd.snd != (0:Int))=false->rdOK (tokD (lexR s).fst) (0:Int)/\(((syR (tokD (lexR s).fst) (↑s.size:Int) (mR (0:Int) (0:Int) (0:Int))).er != (0:Int))=true->(paC s).len=0/\(paU s).len=0/\(paP s).len=0/\(syR (tokD (lexR s).fst) (↑s.size:Int) (mR (0:Int) (0:Int) (0:Int))).pa=paA s/\(syR (tokD (lexR s).fst) (↑s.size:Int) (mR (0:Int) (0:Int) (0:Int))).er=paE s/\(paC s).rows=[]/\(paU s).rows=[]/\(paP s).rows=[])/\(((syR (tokD (lexR s).fst) (↑s.size:Int) (mR (0:Int) (0:Int) (0:Int))).er != (0:Int))=false->(syC (tokD (lexR s).fst) (↑s.size:Int) (mR (0:Int) (0:Int) (0:Int))).fst.len=(paC s).len/\(syU (tokD (lexR s).fst) (↑s.size:Int) (mR (0:Int) (0:Int) (0:Int))).fst.len=(paU s).len/\(syP (tokD (lexR s).fst) (↑s.size:Int) (mR (0:Int) (0:Int) (0:Int))).fst.len=(paP s).len/\(0:Int)=paA s/\(0:Int)=paE s/\(syC (tokD (lexR s).fst) (↑s.size:Int) (mR (0:Int) (0:Int) (0:Int))).fst.rows=(paC s).rows/\(syU (tokD (lexR s).fst) (↑s.size:Int) (mR (0:Int) (0:Int) (0:Int))).fst.rows=(paU s).rows/\(syP (tokD (lexR s).fst) (↑s.size:Int) (mR (0:Int) (0:Int) (0:Int))).fst.rows=(paP s).rows))) (by kernel_rfl) ?_
  intro h
  have g:=paW_ok s
  refine ⟨h,fun hc=>?_,fun hc=>⟨g,fun hd=>?_,fun hd=>?_⟩⟩
  ·have hc:(lexR s).2.2≠0:=by simpa using hc
   have e:paO s=false:=by simp only [paO,decide_eq_false hc,Bool.false_and]
   simp only [paC,paU,paP,paA,paE,e,if_neg hc,Bool.false_eq_true,if_false]
   (repeat' (with_reducible apply And.intro))<;>first |with_reducible rfl |exact True.intro |with_reducible assumption |decide |assumption |rfl
  ·have hc:(lexR s).2.2=0:=by simpa using hc
   have hd:(paY s).er≠0:=ne_of_bne hd
   have e:paO s=false:=by simp only [paO,decide_eq_false hd,Bool.and_false]
   simp only [paC,paU,paP,paA,paE,e,if_pos hc,if_neg hd,Bool.false_eq_true,if_false]
   (repeat' (with_reducible apply And.intro))<;>first |with_reducible rfl |exact True.intro |with_reducible assumption |decide |assumption |rfl
  ·have hc:(lexR s).2.2=0:=by simpa using hc
   have hd:(paY s).er=0:=of_not_bne hd
   have e:paO s=true:=by simp only [paO,decide_eq_true hc,decide_eq_true hd,Bool.and_self]
   simp only [paC,paU,paP,paA,paE,e,if_pos hc,if_pos hd,if_true,hd]
   (repeat' (with_reducible apply And.intro))<;>first |with_reducible rfl |exact True.intro |with_reducible assumption |decide |assumption |rfl
 ·trivial
end Go.Proofs.Ytbhbjhejkamlnaa.Sx.Z
namespace Go.Proofs.Ytbhbjhejkamlnaa.Sx.Z
open Go.RowKit
def txP:ByteArray:=⟨#[112,114,111,99,32,112,32,123,32,120,32,61,32,49,32,43,32,50,32,42,32,51,32,59,32,125]⟩
def txQ:ByteArray:=⟨#[112,114,111,99,32,112]⟩
def tpD:D:=.l [[.s ⟨#[112]⟩,.l [],.l [[.i 1,.s ⟨#[120]⟩,.s ByteArray.empty,.i 4,.i 0,.s ByteArray.empty,.l [[.i 1,.i 1,.s ByteArray.empty,.l []],[.i 6,.i 0,.s ByteArray.empty,.l [[.i 1,.i 2,.s ByteArray.empty,.l []],[.i 1,.i 3,.s ByteArray.empty,.l []]]]],.i 0,.i 0,.i 0,.s ByteArray.empty,.l [],.i 0,.i 0,.s ByteArray.empty,.l [],.l [],.l [],.l []]]]]
theorem conS_sub {P:Program} {f:FuncId} {aps:List AP} {S S':List Dat->Option Eff} (h:ConOK P f (conS aps S)) (hS:∀ ds e,S' ds=some e->S ds=some e):ConOK P f (conS aps S'):=by
 refine ⟨h.enters,fun hp fr args e he=>h.calls hp fr args e ?_,fun hp fr caps e he=>?_⟩
 ·unfold conS con at he ⊢
  split at he
  ·rename_i ds ps hds
   cases hq:S' ds with
   |none=>simp only [hq] at he;cases he
   |some x=>
    simp only [hq] at he
    simp only [hds,hS _ _ hq]
    exact he
  ·cases he
 ·unfold conS at he;rw [con_jf] at he;cases he
theorem ba_eq {a b:ByteArray} (h:(a.toList==b.toList)=true):a=b:=by
 have h:=eq_of_beq h
 rw [ByteArray.toList_eq,ByteArray.toList_eq] at h
 exact ByteArray.ext (Array.toList_inj.1 h)
noncomputable def prtS:List Dat->Option Eff:=fun ds=>match ds with
 | [.s s]=>(match s.toList==txP.toList with
   |true=>some {val:=.tup [.agg [.c (.osl 97 0 (.lit 0) (.sym (D.len (.l [])))),.c (.osl 102 1 (.lit 0) (.sym (D.len (.l [])))),.c (.osl 87 2 (.lit 0) (.sym (D.len (.l [[.s ⟨#[112]⟩,.l [],.l [[.i 1,.s ⟨#[120]⟩,.s ByteArray.empty,.i 4,.i 0,.s ByteArray.empty,.l [[.i 1,.i 1,.s ByteArray.empty,.l []],[.i 6,.i 0,.s ByteArray.empty,.l [[.i 1,.i 2,.s ByteArray.empty,.l []],[.i 1,.i 3,.s ByteArray.empty,.l []]]]],.i 0,.i 0,.i 0,.s ByteArray.empty,.l [],.i 0,.i 0,.s ByteArray.empty,.l [],.l [],.l [],.l []]]]]))))],.sc (.int .i64 (.sym 0)),.sc (.int .i64 (.sym 0))],vc:=[s.size<=140737488351232],nw:=[(0,.orow 97 (.l [])),(1,.orow 102 (.l [])),(2,.orow 87 (.l [[.s ⟨#[112]⟩,.l [],.l [[.i 1,.s ⟨#[120]⟩,.s ByteArray.empty,.i 4,.i 0,.s ByteArray.empty,.l [[.i 1,.i 1,.s ByteArray.empty,.l []],[.i 6,.i 0,.s ByteArray.empty,.l [[.i 1,.i 2,.s ByteArray.empty,.l []],[.i 1,.i 3,.s ByteArray.empty,.l []]]]],.i 0,.i 0,.i 0,.s ByteArray.empty,.l [],.i 0,.i 0,.s ByteArray.empty,.l [],.l [],.l [],.l []]]]]))]}
   |false=>match s.toList==txQ.toList with
    |true=>some {val:=.tup [.agg [.c (.osl 97 0 (.lit 0) (.sym (D.len (.l [])))),.c (.osl 102 1 (.lit 0) (.sym (D.len (.l [])))),.c (.osl 87 2 (.lit 0) (.sym (D.len (.l []))))],.sc (.int .i64 (.sym 6)),.sc (.int .i64 (.sym 5))],vc:=[s.size<=140737488351232],nw:=[(0,.orow 97 (.l [])),(1,.orow 102 (.l [])),(2,.orow 87 (.l []))]}
    |false=>none)
 |_=>none
set_option maxRecDepth 100000 in
theorem tp_facts:paC txP = .l []/\paU txP = .l []/\paP txP=tpD/\paA txP=0/\paE txP=0:=⟨by kernel_rfl,by kernel_rfl,by kernel_rfl,by decide +kernel,by decide +kernel⟩
set_option maxRecDepth 100000 in
theorem tq_facts:paC txQ = .l []/\paU txQ = .l []/\paP txQ = .l []/\paA txQ=6/\paE txQ=5:=⟨by kernel_rfl,by kernel_rfl,by kernel_rfl,by decide +kernel,by decide +kernel⟩
theorem prt_ok:ConOK Try.prog 7 (conS [.sc .str] prtS):=conS_sub par_ok fun ds e h=>by
 unfold prtS at h
 split at h
 ·rename_i s
  split at h
  ·rename_i hs
   obtain rfl:=ba_eq hs
   obtain ⟨a,b,c,d,e⟩:=tp_facts
   rw [<- h]
   unfold parS
   simp only [a,b,c,d,e]
   rfl
  ·split at h
   ·rename_i hs
    obtain rfl:=ba_eq hs
    obtain ⟨a,b,c,d,e⟩:=tq_facts
    rw [<- h]
    unfold parS
    simp only [a,b,c,d,e]
   ·cases h
 ·cases h
noncomputable def prsS:FSpec:=fun ds _=>match ds with
 | []=>some {val:=.one (.sc (.bool (.sym (true)))),vc:=[]}
 |_=>none
noncomputable def prsC:Con:=con [] prsS
theorem prs_ok:ConOK Try.prog 9 prsC:=by
 refine fn_ob tt_ok mixed Try.func9 rfl (fun _ _=>by kernel_rfl) (A:=fun ds=>⟨fun _=>Cons.of [(7,(conS [.sc .str] prtS))],fun _=>none,fun _=>none⟩) (fun _ _=>(cons_cons prt_ok cons_nil)) (by kernel_rfl) ?_
 intro ds fr
 unfold prsS
 split
 ·skip
  refine kmp (q:=txP.size<=140737488351232/\txQ.size<=140737488351232/\(((0:Int)==(0:Int)&&(↑1:Int)==(1:Int))=true/\True->0<(1:Nat))/\(((0:Int)==(0:Int)&&(↑1:Int)==(1:Int))=true/\True->0<tpD.len)/\(((0:Int)==(0:Int)&&(↑1:Int)==(1:Int)&&(↑(tpD.el 0 ((0:Nat)+(2:Nat))).len:Int)==(1:Int))=true/\True->0<(1:Nat))/\(((0:Int)==(0:Int)&&(↑1:Int)==(1:Int)&&(↑(tpD.el 0 ((0:Nat)+(2:Nat))).len:Int)==(1:Int))=true/\True->0<tpD.len)/\(((0:Int)==(0:Int)&&(↑1:Int)==(1:Int)&&(↑(tpD.el 0 ((0:Nat)+(2:Nat))).len:Int)==(1:Int))=true/\True->0<(tpD.el 0 ((0:Nat)+(2:Nat))).len)/\(((0:Int)==(0:Int)&&(↑1:Int)==(1:Int)&&(↑(tpD.el 0 ((0:Nat)+(2:Nat))).len:Int)==(1:Int)&&(4:Int)==(4:Int))=true/\True->0<(1:Nat))/\(((0:Int)==(0:Int)&&(↑1:Int)==(1:Int)&&(↑(tpD.el 0 ((0:Nat)+(2:Nat))).len:Int)==(1:Int)&&(4:Int)==(4:Int))=true/\True->0<tpD.len)/\(((0:Int)==(0:Int)&&(↑1:Int)==(1:Int)&&(↑(tpD.el 0 ((0:Nat)+(2:Nat))).len:Int)==(1:Int)&&(4:Int)==(4:Int))=true/\True->0<(tpD.el 0 ((0:Nat)+(2:Nat))).len)/\(((0:Int)==(0:Int)&&(↑1:Int)==(1:Int)&&(↑(tpD.el 0 ((0:Nat)+(2:Nat))).len:Int)==(1:Int)&&(4:Int)==(4:Int)&&(↑((tpD.el 0 ((0:Nat)+(2:Nat))).el 0 ((0:Nat)+3+(3:Nat))).len:Int)==(2:Int))=true/\True->0<(1:Nat))/\(((0:Int)==(0:Int)&&(↑1:Int)==(1:Int)&&(↑(tpD.el 0 ((0:Nat)+(2:Nat))).len:Int)==(1:Int)&&(4:Int)==(4:Int)&&(↑((tpD.el 0 ((0:Nat)+(2:Nat))).el 0 ((0:Nat)+3+(3:Nat))).len:Int)==(2:Int))=true/\True->0<tpD.len)/\(((0:Int)==(0:Int)&&(↑1:Int)==(1:Int)&&(↑(tpD.el 0 ((0:Nat)+(2:Nat))).len:Int)==(1:Int)&&(4:Int)==(4:Int)&&(↑((tpD.el 0 ((0:Nat)+(2:Nat))).el 0 ((0:Nat)+3+(3:Nat))).len:Int)==(2:Int))=true/\True->0<(tpD.el 0 ((0:Nat)+(2:Nat))).len)/\(((0:Int)==(0:Int)&&(↑1:Int)==(1:Int)&&(↑(tpD.el 0 ((0:Nat)+(2:Nat))).len:Int)==(1:Int)&&(4:Int)==(4:Int)&&(↑((tpD.el 0 ((0:Nat)+(2:Nat))).el 0 ((0:Nat)+3+(3:Nat))).len:Int)==(2:Int))=true/\True->1<((tpD.el 0 ((0:Nat)+(2:Nat))).el 0 ((0:Nat)+3+(3:Nat))).len)/\((0:Int)==(0:Int)&&(↑1:Int)==(1:Int)&&(↑(tpD.el 0 ((0:Nat)+(2:Nat))).len:Int)==(1:Int)&&(4:Int)==(4:Int)&&(↑((tpD.el 0 ((0:Nat)+(2:Nat))).el 0 ((0:Nat)+3+(3:Nat))).len:Int)==(2:Int)&&(6:Int)==(6:Int)&&(5:Int)==(5:Int)&&(6:Int)==(6:Int))=true) (by kernel_rfl) ?_
  (repeat' (with_reducible apply And.intro))<;>first |decide |(intro _;decide) |rfl
 ·trivial
end Go.Proofs.Ytbhbjhejkamlnaa.Sx.Z
namespace Go.Proofs.Ytbhbjhejkamlnaa.Sx.Z
open Go.RowKit
theorem lel_lt {d:D} {i j:Nat} (h:i<d.len):SizeOf.sizeOf (d.el i j)<SizeOf.sizeOf d:=by
 cases d with
 |l rows=>
  have h':i<rows.length:=h
  have e:(D.l rows).el i j=(rows[i]).getD j (.i 0):=by
   show (rows.getD i []).getD j (.i 0)=_
   rw [List.getD_eq_getElem?_getD (l:=rows),List.getElem?_eq_getElem h',Option.getD_some]
  rw [e,List.getD_eq_getElem?_getD]
  have h1:=List.sizeOf_lt_of_mem (List.getElem_mem h')
  cases hj:(rows[i])[j]? with
  |none=>
   rw [Option.getD_none]
   have:SizeOf.sizeOf (D.i 0)=1+SizeOf.sizeOf (0:Int):=rfl
   have e2:SizeOf.sizeOf (0:Int)=1:=rfl
   have:SizeOf.sizeOf (D.l rows)=1+SizeOf.sizeOf rows:=by simp
   have h2:1<=SizeOf.sizeOf (rows[i]):=by cases rows[i]<;>simp<;>omega
   omega
  |some x=>
   rw [Option.getD_some]
   have h2:=List.sizeOf_lt_of_mem (List.mem_of_getElem? hj)
   have:SizeOf.sizeOf (D.l rows)=1+SizeOf.sizeOf rows:=by simp
   omega
 |i n=>exact absurd h (Nat.not_lt_zero i)
 |b n=>exact absurd h (Nat.not_lt_zero i)
 |s n=>exact absurd h (Nat.not_lt_zero i)
def lXr:AP:=.agg [.c (.int .i64),.c (.int .i64),.c .str,.c (.rows 45)]
def lCr:AP:=.agg [.c (.int .i64),.c (.int .i64),.c (.int .i64),.c .str,.c (.rows 45),.c (.int .i64),.c (.int .i64),.c .str,.c (.rows 45)]
def cpTo (n:Nat) (f:Nat->List D):D:=.l ((List.range n).map f)
theorem cpTo_len (n:Nat) (f:Nat->List D):(cpTo n f).len=n:=by
 show ((List.range n).map f).length=n
 rw [List.length_map,List.length_range]
theorem cpTo_succ (n:Nat) (f:Nat->List D):(cpTo (n+1) f).rows=(cpTo n f).rows++[f n]:=by
 show (List.range (n+1)).map f=(List.range n).map f++[f n]
 rw [List.range_succ,List.map_append];rfl
theorem cpF_eq {n:Nat} (f:Nat->List D):D.l ((List.finRange n).map fun i=>f i.1)=cpTo n f:=by
 unfold cpTo
 congr 1
 apply List.ext_getElem
 ·simp
 ·intro i h1 h2
  simp
def cpE (d:D):D:=.l ((List.finRange d.len).map fun (i:Fin d.len)=>[D.i (d.el i 0).toI,D.i (d.el i 1).toI,D.s (d.el i 2).toS,cpE (d.el i 3)])
 termination_by SizeOf.sizeOf d
 decreasing_by exact lel_lt i.isLt
def rX (d:D) (i:Nat):List D:=[D.i (d.el i 0).toI,D.i (d.el i 1).toI,D.s (d.el i 2).toS,cpE (d.el i 3)]
theorem cpE_eq (d:D):cpE d=cpTo d.len (rX d):=by
 rw [cpE,<- cpF_eq];rfl
def kS (d:D):Prop:=d.len<=1000000/\∀ i:Fin d.len,kS (d.el i 3)
 termination_by SizeOf.sizeOf d
 decreasing_by exact lel_lt i.isLt
theorem kS_iff (d:D):kS d↔d.len<=1000000/\∀ i,i<d.len->kS (d.el i 3):=by
 rw [kS]
 exact ⟨fun h=>⟨h.1,fun i hi=>h.2 ⟨i,hi⟩⟩,fun h=>⟨h.1,fun i=>h.2 i.1 i.2⟩⟩
noncomputable def xcpS:FSpec:=fun ds _=>match ds with
 | [.i k,.i n,.s s,.d d]=>some {val:=.one (.agg [.c (.int .i64 (.sym (k))),.c (.int .i64 (.sym (n))),.c (.raw (.string (s))),.c (.rows 90 (cpE d))]),vc:=[kS d]}
 |_=>none
noncomputable def xcpC:Con:=con [lXr] xcpS
noncomputable def xcpM:List Dat->Nat:=fun ds=>match ds with
 | [.i _k,.i _n,.s _s,.d d]=>SizeOf.sizeOf d
 |_=>0
noncomputable def xcpSu (m:Nat):FSpec:=fun ds _=>match ds with
 | [.i k,.i n,.s s,.d d]=>some {val:=.one (.agg [.c (.int .i64 (.sym (k))),.c (.int .i64 (.sym (n))),.c (.raw (.string (s))),.c (.rows 90 (cpE d))]),vc:=[SizeOf.sizeOf d<m,kS d]}
 |_=>none
theorem xcp_under (m:Nat):xcpS.under xcpM m=xcpSu m:=by
 funext ds fr
 unfold FSpec.under xcpS xcpM xcpSu
 split
 ·rename_i e h
  split at h
  ·obtain rfl:=Option.some.inj h;rfl
  ·cases h
 ·rename_i h
  split at h
  ·cases h
  ·rfl
theorem xcp_step (m:Nat) (ih:ConOK Try.prog 52 (con [lXr] (xcpSu m))):ConOK Try.prog 52 (con [lXr] (xcpSu (m+1))):=by
 refine fn_ob tt_ok mixed Try.func52 rfl (fun _ _=>by kernel_rfl) (A:=fun ds=>⟨fun _=>Cons.of [(52,con [lXr] (xcpSu m))],fun k=>match k,ds with | 3,[.i k,.i n,.s s,.d d]=>some {ι:=Nat,pre:=fun _ i=>i<=d.len,μ:=fun i=>d.len+1-i,st:=fun s i=>famR s [(4,.one (.sc (.int .i64 (.sym ((i:Nat)))))),(3,.one (.sc (.osl 90 (s.nx-1) (.lit 0) (.sym (i)))))] [1,2] [(s.nx-1,.orow 90 (cpTo i (rX d)))] [1,2]} |_,_=>none,fun _=>none⟩) (fun _ _=>(cons_cons ih cons_nil)) (by kernel_rfl) ?_
 intro ds fr
 unfold xcpSu
 split
 ·rename_i k n s d
  refine kmp (q:=SizeOf.sizeOf d<m+1->kS d->(∃ (i:Nat),i.le d.len/\(0:Int)=(↑i:Int)/\i=0/\List.map (rX d) (List.range i)=[]/\k=k/\n=n/\Value.string s=Value.string s/\d.rows=d.rows/\(0:Int)=(0:Int)/\(0:Int)=(0:Int)/\Value.string ByteArray.empty=Value.string ByteArray.empty)/\∀ (i:Nat),i.le d.len->(decide ((↑i:Int)<(↑d.len:Int))=true->((0:Int)<=(↑i:Int)/\(↑i:Int)<(↑d.len:Int))/\SizeOf.sizeOf (d.el (↑i:Int).toNat 3)<m/\kS (d.el (↑i:Int).toNat 3)/\i=(cpTo i (rX d)).len/\(i+((D.l [[D.i (d.el (↑i:Int).toNat (0:Nat)).toI,D.i (d.el (↑i:Int).toNat 1).toI,D.s (d.el (↑i:Int).toNat 2).toS,cpE (d.el (↑i:Int).toNat 3)]]).sub 0 1).len)*56<=140737488355328/\0+1<=(D.l [[D.i (d.el (↑i:Int).toNat (0:Nat)).toI,D.i (d.el (↑i:Int).toNat 1).toI,D.s (d.el (↑i:Int).toNat 2).toS,cpE (d.el (↑i:Int).toNat 3)]]).len/\∃ (j:Nat),j.le d.len/\d.len+1-j<d.len+1-i/\IntKind.i64.wrap ((↑i:Int)+1)=(↑j:Int)/\i+((D.l [[D.i (d.el (↑i:Int).toNat (0:Nat)).toI,D.i (d.el (↑i:Int).toNat 1).toI,D.s (d.el (↑i:Int).toNat 2).toS,cpE (d.el (↑i:Int).toNat 3)]]).sub 0 1).len=j/\List.map (rX d) (List.range i)++List.drop 0 (List.take 1 [[D.i (d.el (↑i:Int).toNat (0:Nat)).toI,D.i (d.el (↑i:Int).toNat 1).toI,D.s (d.el (↑i:Int).toNat 2).toS,cpE (d.el (↑i:Int).toNat 3)]])=List.map (rX d) (List.range j)/\k=k/\n=n/\Value.string s=Value.string s/\d.rows=d.rows/\(0:Int)=(0:Int)/\(0:Int)=(0:Int)/\Value.string ByteArray.empty=Value.string ByteArray.empty)/\(decide ((↑i:Int)<(↑d.len:Int))=false->0+i<=(cpTo i (rX d)).len/\k=k/\n=n/\Value.string s=Value.string s/\List.drop 0 (List.take ((0:Nat)+i) (List.map (rX d) (List.range i)))=(cpE d).rows)) (by kernel_rfl) ?_
  intro hm hs
  rw [kS_iff] at hs
  obtain ⟨h1,h2⟩:=hs
  refine ⟨⟨0,Nat.zero_le _,rfl,rfl,rfl,rfl,rfl,rfl,rfl,rfl,rfl,rfl⟩,fun i hi=>⟨fun hl=>?_,fun hl=>?_⟩⟩
  ·have hl:=of_decide_eq_true hl
   have hi2:i<d.len:=by omega
   have hw2:IntKind.i64.wrap ((i:Int)+1)=((i+1:Nat):Int):=by rw [IntWalk.i64_in _ (by omega)];omega
   have z:=lel_lt (j:=3) hi2
   exact ⟨⟨by omega,by omega⟩,(show SizeOf.sizeOf (d.el i 3)<m by omega),h2 i hi2,(cpTo_len _ _).symm,(show (i+1)*56<=140737488355328 by omega),Nat.le_refl _,i+1,hi2,by omega,hw2,rfl,(cpTo_succ i (rX d)).symm,rfl,rfl,rfl,rfl,rfl,rfl,rfl⟩
  ·have hl:=of_decide_eq_false hl
   have hi3:i=d.len:=by have:i<=d.len:=hi;omega
   subst hi3
   refine ⟨by rw [cpTo_len];omega,rfl,rfl,rfl,?_⟩
   rw [cpE_eq,Nat.zero_add,List.drop_zero,List.take_of_length_le (by simp)];rfl
 ·trivial
theorem xcp_ok:ConOK Try.prog 52 xcpC:=
 con_rec xcpM (fun _ _=>by kernel_rfl) fun m ih=>by
  rw [xcp_under] at ih ⊢
  exact xcp_step m ih
noncomputable def ccpS:FSpec:=fun ds _=>match ds with
 | [.i op,.i lk,.i ln,.s ls,.d ld,.i rk,.i rn,.s rs,.d rd]=>some {val:=.one (.agg [.c (.int .i64 (.sym (op))),.c (.int .i64 (.sym (lk))),.c (.int .i64 (.sym (ln))),.c (.raw (.string (ls))),.c (.rows 90 (cpE ld)),.c (.int .i64 (.sym (rk))),.c (.int .i64 (.sym (rn))),.c (.raw (.string (rs))),.c (.rows 90 (cpE rd))]),vc:=[kS ld,kS rd]}
 |_=>none
noncomputable def ccpC:Con:=con [lCr] ccpS
theorem ccp_ok:ConOK Try.prog 53 ccpC:=by
 refine fn_ob tt_ok mixed Try.func53 rfl (fun _ _=>by kernel_rfl) (A:=fun ds=>⟨fun _=>Cons.of [(52,xcpC)],fun _=>none,fun _=>none⟩) (fun _ _=>(cons_cons xcp_ok cons_nil)) (by kernel_rfl) ?_
 intro ds fr
 unfold ccpS
 split
 ·rename_i op lk ln ls ld rk rn rs rd
  refine kmp (q:=kS ld->kS rd->kS ld/\kS rd/\op=op/\lk=lk/\ln=ln/\Value.string ls=Value.string ls/\(cpE ld).rows=(cpE ld).rows/\rk=rk/\rn=rn/\Value.string rs=Value.string rs/\(cpE rd).rows=(cpE rd).rows) (by kernel_rfl) ?_
  intro hl hr
  exact ⟨hl,hr,rfl,rfl,rfl,rfl,rfl,rfl,rfl,rfl,rfl⟩
 ·trivial
end Go.Proofs.Ytbhbjhejkamlnaa.Sx.Z
namespace Go.Proofs.Ytbhbjhejkamlnaa.Sx.Z
open Go.RowKit
def lBr:AP:=.sc (.rows 52)
theorem cpTo_all (n:Nat) (f:Nat->List D):(cpTo n f).sub 0 (0+n)=cpTo n f:=by
 rw [Nat.zero_add]
 show D.l (List.drop 0 (List.take n ((List.range n).map f)))=_
 rw [List.take_of_length_le (by simp)];rfl
def cpB (d:D):D:=.l ((List.finRange d.len).map fun (i:Fin d.len)=>[D.i (d.el i 0).toI,D.s (d.el i 1).toS,D.s (d.el i 2).toS,D.i (d.el i 3).toI,D.i (d.el i 4).toI,D.s (d.el i 5).toS,cpE (d.el i 6),D.i (d.el i 7).toI,D.i (d.el i 8).toI,D.i (d.el i 9).toI,D.s (d.el i 10).toS,cpE (d.el i 11),D.i (d.el i 12).toI,D.i (d.el i 13).toI,D.s (d.el i 14).toS,cpE (d.el i 15),cpB (d.el i 16),cpB (d.el i 17),.l ((List.finRange (d.el i 18).len).map fun (j:Fin (d.el i 18).len)=>[D.s ((d.el i 18).el j 0).toS,D.s ((d.el i 18).el j 1).toS,cpB ((d.el i 18).el j 2)])])
 termination_by SizeOf.sizeOf d
 decreasing_by
  ·exact lel_lt i.isLt
  ·exact lel_lt i.isLt
  ·exact Nat.lt_trans (lel_lt j.isLt) (lel_lt i.isLt)
def arR (am:D) (j:Nat):List D:=[D.s (am.el j 0).toS,D.s (am.el j 1).toS,cpB (am.el j 2)]
def rSt (d:D) (i:Nat):List D:=[D.i (d.el i 0).toI,D.s (d.el i 1).toS,D.s (d.el i 2).toS,D.i (d.el i 3).toI,D.i (d.el i 4).toI,D.s (d.el i 5).toS,cpE (d.el i 6),D.i (d.el i 7).toI,D.i (d.el i 8).toI,D.i (d.el i 9).toI,D.s (d.el i 10).toS,cpE (d.el i 11),D.i (d.el i 12).toI,D.i (d.el i 13).toI,D.s (d.el i 14).toS,cpE (d.el i 15),cpB (d.el i 16),cpB (d.el i 17),cpTo (d.el i 18).len (arR (d.el i 18))]
theorem cpB_eq (d:D):cpB d=cpTo d.len (rSt d):=by
 rw [cpB,<- cpF_eq]
 congr 2
 funext i
 unfold rSt
 rw [<- cpF_eq]
 rfl
def bS (d:D):Prop:=d.len<=1000000/\∀ i:Fin d.len,kS (d.el i 6)/\kS (d.el i 11)/\kS (d.el i 15)/\bS (d.el i 16)/\bS (d.el i 17)/\(d.el i 18).len<=1000000/\∀ j:Fin (d.el i 18).len,bS ((d.el i 18).el j 2)
 termination_by SizeOf.sizeOf d
 decreasing_by
  ·exact lel_lt i.isLt
  ·exact lel_lt i.isLt
  ·exact Nat.lt_trans (lel_lt j.isLt) (lel_lt i.isLt)
theorem bS_iff (d:D):bS d↔d.len<=1000000/\∀ i,i<d.len->kS (d.el i 6)/\kS (d.el i 11)/\kS (d.el i 15)/\bS (d.el i 16)/\bS (d.el i 17)/\(d.el i 18).len<=1000000/\∀ j,j<(d.el i 18).len->bS ((d.el i 18).el j 2):=by
 rw [bS]
 refine ⟨fun h=>⟨h.1,fun i hi=>?_⟩,fun h=>⟨h.1,fun i=>?_⟩⟩
 ·obtain ⟨a,b,c,e,f,g,k⟩:=h.2 ⟨i,hi⟩
  exact ⟨a,b,c,e,f,g,fun j hj=>k ⟨j,hj⟩⟩
 ·obtain ⟨a,b,c,e,f,g,k⟩:=h.2 i.1 i.2
  exact ⟨a,b,c,e,f,g,fun j=>k j.1 j.2⟩
noncomputable def scpS:FSpec:=fun ds _=>match ds with
 | [.d d]=>some {val:=.one (.sc (.rows 95 (cpB d))),vc:=[bS d]}
 |_=>none
noncomputable def scpC:Con:=con [lBr] scpS
noncomputable def scpM:List Dat->Nat:=fun ds=>match ds with
 | [.d d]=>SizeOf.sizeOf d
 |_=>0
noncomputable def scpSu (m:Nat):FSpec:=fun ds _=>match ds with
 | [.d d]=>some {val:=.one (.sc (.rows 95 (cpB d))),vc:=[SizeOf.sizeOf d<m,bS d]}
 |_=>none
theorem scp_under (m:Nat):scpS.under scpM m=scpSu m:=by
 funext ds fr
 unfold FSpec.under scpS scpM scpSu
 split
 ·rename_i e h
  split at h
  ·obtain rfl:=Option.some.inj h;rfl
  ·cases h
 ·rename_i h
  split at h
  ·cases h
  ·rfl
theorem scp_step (m:Nat) (ih:ConOK Try.prog 29 (con [lBr] (scpSu m))):ConOK Try.prog 29 (con [lBr] (scpSu (m+1))):=by
 refine fn_ob tt_ok mixed Try.func29 rfl (fun _ _=>by kernel_rfl) (A:=fun ds=>⟨fun _=>Cons.of [(52,xcpC),(53,ccpC),(29,con [lBr] (scpSu m))],fun k=>match k,ds with | 3,[.d d]=>some {ι:=Nat,pre:=fun _ i=>i<=d.len,μ:=fun i=>d.len+1-i,st:=fun s i=>famR s [(4,.one (.sc (.int .i64 (.sym ((i:Nat)))))),(3,.one (.sc (.osl 95 (s.nx-1) (.lit 0) (.sym (i)))))] [0] [(s.nx-1,.orow 95 (cpTo i (rSt d)))] []} | 8,[.d d]=>some {ι:=Nat,pre:=fun s q=>q<=(d.el (slotN s 4) 18).len/\True,μ:=fun q=>1000001-q,st:=fun s q=>famR s [(7,.one (.sc (.int .i64 (.sym ((q:Nat))))))] [0,3,4,5,6] [(idOf s 6,.own 95 ([.c (.int .i64 (.sym ((d.el (slotN s 4) 0).toI))),.c (.raw (.string ((d.el (slotN s 4) 1).toS))),.c (.raw (.string ((d.el (slotN s 4) 2).toS))),.c (.int .i64 (.sym ((d.el (slotN s 4) 3).toI))),.c (.int .i64 (.sym ((d.el (slotN s 4) 4).toI))),.c (.raw (.string ((d.el (slotN s 4) 5).toS))),.c (.rows 90 (cpE (d.el (slotN s 4) 6))),.c (.int .i64 (.sym ((d.el (slotN s 4) 7).toI))),.c (.int .i64 (.sym ((d.el (slotN s 4) 8).toI))),.c (.int .i64 (.sym ((d.el (slotN s 4) 9).toI))),.c (.raw (.string ((d.el (slotN s 4) 10).toS))),.c (.rows 90 (cpE (d.el (slotN s 4) 11))),.c (.int .i64 (.sym ((d.el (slotN s 4) 12).toI))),.c (.int .i64 (.sym ((d.el (slotN s 4) 13).toI))),.c (.raw (.string ((d.el (slotN s 4) 14).toS))),.c (.rows 90 (cpE (d.el (slotN s 4) 15))),.c (.rows 95 (cpB (d.el (slotN s 4) 16))),.c (.rows 95 (cpB (d.el (slotN s 4) 17))),.c (.osl 135 (s.nx-1) (.lit 0) (.sym q))])),(s.nx-1,.orow 135 (cpTo q (arR (d.el (slotN s 4) 18))))] [3,5]} |_,_=>none,fun _=>none⟩) (fun _ _=>(cons_cons xcp_ok (cons_cons ccp_ok (cons_cons ih cons_nil)))) (by kernel_rfl) ?_
 intro ds fr
 unfold scpSu
 split
 ·rename_i d
  refine kmp (q:=SizeOf.sizeOf d<m+1->bS d->(∃ (i:Nat),i.le d.len/\(0:Int)=(↑i:Int)/\i=0/\d.rows=d.rows/\List.map (rSt d) (List.range i)=[])/\∀ (i:Nat),i.le d.len->(decide ((↑i:Int)<(↑d.len:Int))=true->((0:Int)<=(↑i:Int)/\(↑i:Int)<(↑d.len:Int))/\kS (d.el (↑i:Int).toNat 6)/\kS (d.el (↑i:Int).toNat 11)/\kS (d.el (↑i:Int).toNat 15)/\SizeOf.sizeOf (d.el (↑i:Int).toNat 16)<m/\bS (d.el (↑i:Int).toNat 16)/\SizeOf.sizeOf (d.el (↑i:Int).toNat 17)<m/\bS (d.el (↑i:Int).toNat 17)/\(∃ (i_1:Nat),(i_1<=(d.el i (18:Nat)).len/\True)/\(0:Int)=(↑i_1:Int)/\d.rows=d.rows/\i=i/\(↑i:Int)=(↑i:Int)/\(d.el (↑i:Int).toNat (0:Nat)).toI=(d.el i (0:Nat)).toI/\Value.string (d.el (↑i:Int).toNat 1).toS=Value.string (d.el i (1:Nat)).toS/\Value.string (d.el (↑i:Int).toNat 2).toS=Value.string (d.el i (2:Nat)).toS/\(d.el (↑i:Int).toNat 3).toI=(d.el i (3:Nat)).toI/\(d.el (↑i:Int).toNat 4).toI=(d.el i (4:Nat)).toI/\Value.string (d.el (↑i:Int).toNat 5).toS=Value.string (d.el i (5:Nat)).toS/\(cpE (d.el (↑i:Int).toNat 6)).rows=(cpE (d.el i (6:Nat))).rows/\(d.el (↑i:Int).toNat 7).toI=(d.el i (7:Nat)).toI/\(d.el (↑i:Int).toNat 8).toI=(d.el i (8:Nat)).toI/\(d.el (↑i:Int).toNat 9).toI=(d.el i (9:Nat)).toI/\Value.string (d.el (↑i:Int).toNat 10).toS=Value.string (d.el i (10:Nat)).toS/\(cpE (d.el (↑i:Int).toNat 11)).rows=(cpE (d.el i (11:Nat))).rows/\(d.el (↑i:Int).toNat 12).toI=(d.el i (12:Nat)).toI/\(d.el (↑i:Int).toNat 13).toI=(d.el i (13:Nat)).toI/\Value.string (d.el (↑i:Int).toNat 14).toS=Value.string (d.el i (14:Nat)).toS/\(cpE (d.el (↑i:Int).toNat 15)).rows=(cpE (d.el i (15:Nat))).rows/\(cpB (d.el (↑i:Int).toNat 16)).rows=(cpB (d.el i (16:Nat))).rows/\(cpB (d.el (↑i:Int).toNat 17)).rows=(cpB (d.el i (17:Nat))).rows/\i_1=0/\List.map (arR (d.el i (18:Nat))) (List.range i_1)=[]/\List.map (rSt d) (List.range i)=List.map (rSt d) (List.range i)/\(d.el (↑i:Int).toNat (0:Nat)).toI=(d.el (↑i:Int).toNat (0:Nat)).toI/\Value.string (d.el (↑i:Int).toNat 1).toS=Value.string (d.el (↑i:Int).toNat 1).toS/\Value.string (d.el (↑i:Int).toNat 2).toS=Value.string (d.el (↑i:Int).toNat 2).toS/\(d.el (↑i:Int).toNat 3).toI=(d.el (↑i:Int).toNat 3).toI/\(d.el (↑i:Int).toNat 4).toI=(d.el (↑i:Int).toNat 4).toI/\Value.string (d.el (↑i:Int).toNat 5).toS=Value.string (d.el (↑i:Int).toNat 5).toS/\(d.el (↑i:Int).toNat 6).rows=(d.el (↑i:Int).toNat 6).rows/\(d.el (↑i:Int).toNat 7).toI=(d.el (↑i:Int).toNat 7).toI/\(d.el (↑i:Int).toNat 8).toI=(d.el (↑i:Int).toNat 8).toI/\(d.el (↑i:Int).toNat 9).toI=(d.el (↑i:Int).toNat 9).toI/\Value.string (d.el (↑i:Int).toNat 10).toS=Value.string (d.el (↑i:Int).toNat 10).toS/\(d.el (↑i:Int).toNat 11).rows=(d.el (↑i:Int).toNat 11).rows/\(d.el (↑i:Int).toNat 12).toI=(d.el (↑i:Int).toNat 12).toI/\(d.el (↑i:Int).toNat 13).toI=(d.el (↑i:Int).toNat 13).toI/\Value.string (d.el (↑i:Int).toNat 14).toS=Value.string (d.el (↑i:Int).toNat 14).toS/\(d.el (↑i:Int).toNat 15).rows=(d.el (↑i:Int).toNat 15).rows/\(d.el (↑i:Int).toNat 16).rows=(d.el (↑i:Int).toNat 16).rows/\(d.el (↑i:Int).toNat 17).rows=(d.el (↑i:Int).toNat 17).rows/\(d.el (↑i:Int).toNat 18).rows=(d.el (↑i:Int).toNat 18).rows)/\∀ (i_1:Nat),i_1<=(d.el i (18:Nat)).len/\True->(decide ((↑i_1:Int)<(↑(d.el (↑i:Int).toNat 18).len:Int))=true->((0:Int)<=(↑i_1:Int)/\(↑i_1:Int)<(↑(d.el (↑i:Int).toNat 18).len:Int))/\((0:Int)<=(↑i_1:Int)/\(↑i_1:Int)<(↑(d.el (↑i:Int).toNat 18).len:Int))/\((0:Int)<=(↑i_1:Int)/\(↑i_1:Int)<(↑(d.el (↑i:Int).toNat 18).len:Int))/\SizeOf.sizeOf ((d.el (↑i:Int).toNat 18).el (↑i_1:Int).toNat ((0:Nat)+(2:Nat)))<m/\bS ((d.el (↑i:Int).toNat 18).el (↑i_1:Int).toNat ((0:Nat)+(2:Nat)))/\i_1=(cpTo i_1 (arR (d.el i (18:Nat)))).len/\(i_1+((D.l [[D.s ((d.el (↑i:Int).toNat 18).el (↑i_1:Int).toNat ((0:Nat)+(0:Nat))).toS,D.s ((d.el (↑i:Int).toNat 18).el (↑i_1:Int).toNat 1).toS,cpB ((d.el (↑i:Int).toNat 18).el (↑i_1:Int).toNat ((0:Nat)+(2:Nat)))]]).sub 0 1).len)*56<=140737488355328/\0+1<=(D.l [[D.s ((d.el (↑i:Int).toNat 18).el (↑i_1:Int).toNat ((0:Nat)+(0:Nat))).toS,D.s ((d.el (↑i:Int).toNat 18).el (↑i_1:Int).toNat 1).toS,cpB ((d.el (↑i:Int).toNat 18).el (↑i_1:Int).toNat ((0:Nat)+(2:Nat)))]]).len/\∃ (j:Nat),(j<=(d.el i (18:Nat)).len/\True)/\1000001-j<1000001-i_1/\IntKind.i64.wrap ((↑i_1:Int)+1)=(↑j:Int)/\d.rows=d.rows/\i=i/\(↑i:Int)=(↑i:Int)/\(d.el i (0:Nat)).toI=(d.el i (0:Nat)).toI/\Value.string (d.el i (1:Nat)).toS=Value.string (d.el i (1:Nat)).toS/\Value.string (d.el i (2:Nat)).toS=Value.string (d.el i (2:Nat)).toS/\(d.el i (3:Nat)).toI=(d.el i (3:Nat)).toI/\(d.el i (4:Nat)).toI=(d.el i (4:Nat)).toI/\Value.string (d.el i (5:Nat)).toS=Value.string (d.el i (5:Nat)).toS/\(cpE (d.el i (6:Nat))).rows=(cpE (d.el i (6:Nat))).rows/\(d.el i (7:Nat)).toI=(d.el i (7:Nat)).toI/\(d.el i (8:Nat)).toI=(d.el i (8:Nat)).toI/\(d.el i (9:Nat)).toI=(d.el i (9:Nat)).toI/\Value.string (d.el i (10:Nat)).toS=Value.string (d.el i (10:Nat)).toS/\(cpE (d.el i (11:Nat))).rows=(cpE (d.el i (11:Nat))).rows/\(d.el i (12:Nat)).toI=(d.el i (12:Nat)).toI/\(d.el i (13:Nat)).toI=(d.el i (13:Nat)).toI/\Value.string (d.el i (14:Nat)).toS=Value.string (d.el i (14:Nat)).toS/\(cpE (d.el i (15:Nat))).rows=(cpE (d.el i (15:Nat))).rows/\(cpB (d.el i (16:Nat))).rows=(cpB (d.el i (16:Nat))).rows/\(cpB (d.el i (17:Nat))).rows=(cpB (d.el i (17:Nat))).rows/\i_1+((D.l [[D.s ((d.el (↑i:Int).toNat 18).el (↑i_1:Int).toNat ((0:Nat)+(0:Nat))).toS,D.s ((d.el (↑i:Int).toNat 18).el (↑i_1:Int).toNat 1).toS,cpB ((d.el (↑i:Int).toNat 18).el (↑i_1:Int).toNat ((0:Nat)+(2:Nat)))]]).sub 0 1).len=j/\List.map (arR (d.el i (18:Nat))) (List.range i_1)++List.drop 0 (List.take 1 [[D.s ((d.el (↑i:Int).toNat 18).el (↑i_1:Int).toNat ((0:Nat)+(0:Nat))).toS,D.s ((d.el (↑i:Int).toNat 18).el (↑i_1:Int).toNat 1).toS,cpB ((d.el (↑i:Int).toNat 18).el (↑i_1:Int).toNat ((0:Nat)+(2:Nat)))]])=List.map (arR (d.el i (18:Nat))) (List.range j)/\List.map (rSt d) (List.range i)=List.map (rSt d) (List.range i)/\(d.el (↑i:Int).toNat (0:Nat)).toI=(d.el (↑i:Int).toNat (0:Nat)).toI/\Value.string (d.el (↑i:Int).toNat 1).toS=Value.string (d.el (↑i:Int).toNat 1).toS/\Value.string (d.el (↑i:Int).toNat 2).toS=Value.string (d.el (↑i:Int).toNat 2).toS/\(d.el (↑i:Int).toNat 3).toI=(d.el (↑i:Int).toNat 3).toI/\(d.el (↑i:Int).toNat 4).toI=(d.el (↑i:Int).toNat 4).toI/\Value.string (d.el (↑i:Int).toNat 5).toS=Value.string (d.el (↑i:Int).toNat 5).toS/\(d.el (↑i:Int).toNat 6).rows=(d.el (↑i:Int).toNat 6).rows/\(d.el (↑i:Int).toNat 7).toI=(d.el (↑i:Int).toNat 7).toI/\(d.el (↑i:Int).toNat 8).toI=(d.el (↑i:Int).toNat 8).toI/\(d.el (↑i:Int).toNat 9).toI=(d.el (↑i:Int).toNat 9).toI/\Value.string (d.el (↑i:Int).toNat 10).toS=Value.string (d.el (↑i:Int).toNat 10).toS/\(d.el (↑i:Int).toNat 11).rows=(d.el (↑i:Int).toNat 11).rows/\(d.el (↑i:Int).toNat 12).toI=(d.el (↑i:Int).toNat 12).toI/\(d.el (↑i:Int).toNat 13).toI=(d.el (↑i:Int).toNat 13).toI/\Value.string (d.el (↑i:Int).toNat 14).toS=Value.string (d.el (↑i:Int).toNat 14).toS/\(d.el (↑i:Int).toNat 15).rows=(d.el (↑i:Int).toNat 15).rows/\(d.el (↑i:Int).toNat 16).rows=(d.el (↑i:Int).toNat 16).rows/\(d.el (↑i:Int).toNat 17).rows=(d.el (↑i:Int).toNat 17).rows/\(d.el (↑i:Int).toNat 18).rows=(d.el (↑i:Int).toNat 18).rows)/\(decide ((↑i_1:Int)<(↑(d.el (↑i:Int).toNat 18).len:Int))=false->0+i_1<=(cpTo i_1 (arR (d.el i (18:Nat)))).len/\i=(cpTo i (rSt d)).len/\(i+((D.l [[D.i (d.el i (0:Nat)).toI,D.s (d.el i (1:Nat)).toS,D.s (d.el i (2:Nat)).toS,D.i (d.el i (3:Nat)).toI,D.i (d.el i (4:Nat)).toI,D.s (d.el i (5:Nat)).toS,cpE (d.el i (6:Nat)),D.i (d.el i (7:Nat)).toI,D.i (d.el i (8:Nat)).toI,D.i (d.el i (9:Nat)).toI,D.s (d.el i (10:Nat)).toS,cpE (d.el i (11:Nat)),D.i (d.el i (12:Nat)).toI,D.i (d.el i (13:Nat)).toI,D.s (d.el i (14:Nat)).toS,cpE (d.el i (15:Nat)),cpB (d.el i (16:Nat)),cpB (d.el i (17:Nat)),(cpTo i_1 (arR (d.el i (18:Nat)))).sub 0 ((0:Nat)+i_1)]]).sub 0 1).len)*288<=140737488355328/\0+1<=(D.l [[D.i (d.el i (0:Nat)).toI,D.s (d.el i (1:Nat)).toS,D.s (d.el i (2:Nat)).toS,D.i (d.el i (3:Nat)).toI,D.i (d.el i (4:Nat)).toI,D.s (d.el i (5:Nat)).toS,cpE (d.el i (6:Nat)),D.i (d.el i (7:Nat)).toI,D.i (d.el i (8:Nat)).toI,D.i (d.el i (9:Nat)).toI,D.s (d.el i (10:Nat)).toS,cpE (d.el i (11:Nat)),D.i (d.el i (12:Nat)).toI,D.i (d.el i (13:Nat)).toI,D.s (d.el i (14:Nat)).toS,cpE (d.el i (15:Nat)),cpB (d.el i (16:Nat)),cpB (d.el i (17:Nat)),(cpTo i_1 (arR (d.el i (18:Nat)))).sub 0 ((0:Nat)+i_1)]]).len/\∃ (j:Nat),j.le d.len/\d.len+1-j<d.len+1-i/\IntKind.i64.wrap ((↑i:Int)+1)=(↑j:Int)/\i+((D.l [[D.i (d.el i (0:Nat)).toI,D.s (d.el i (1:Nat)).toS,D.s (d.el i (2:Nat)).toS,D.i (d.el i (3:Nat)).toI,D.i (d.el i (4:Nat)).toI,D.s (d.el i (5:Nat)).toS,cpE (d.el i (6:Nat)),D.i (d.el i (7:Nat)).toI,D.i (d.el i (8:Nat)).toI,D.i (d.el i (9:Nat)).toI,D.s (d.el i (10:Nat)).toS,cpE (d.el i (11:Nat)),D.i (d.el i (12:Nat)).toI,D.i (d.el i (13:Nat)).toI,D.s (d.el i (14:Nat)).toS,cpE (d.el i (15:Nat)),cpB (d.el i (16:Nat)),cpB (d.el i (17:Nat)),(cpTo i_1 (arR (d.el i (18:Nat)))).sub 0 ((0:Nat)+i_1)]]).sub 0 1).len=j/\d.rows=d.rows/\List.map (rSt d) (List.range i)++List.drop 0 (List.take 1 [[D.i (d.el i (0:Nat)).toI,D.s (d.el i (1:Nat)).toS,D.s (d.el i (2:Nat)).toS,D.i (d.el i (3:Nat)).toI,D.i (d.el i (4:Nat)).toI,D.s (d.el i (5:Nat)).toS,cpE (d.el i (6:Nat)),D.i (d.el i (7:Nat)).toI,D.i (d.el i (8:Nat)).toI,D.i (d.el i (9:Nat)).toI,D.s (d.el i (10:Nat)).toS,cpE (d.el i (11:Nat)),D.i (d.el i (12:Nat)).toI,D.i (d.el i (13:Nat)).toI,D.s (d.el i (14:Nat)).toS,cpE (d.el i (15:Nat)),cpB (d.el i (16:Nat)),cpB (d.el i (17:Nat)),(cpTo i_1 (arR (d.el i (18:Nat)))).sub 0 ((0:Nat)+i_1)]])=List.map (rSt d) (List.range j)))/\(decide ((↑i:Int)<(↑d.len:Int))=false->0+i<=(cpTo i (rSt d)).len/\List.drop 0 (List.take ((0:Nat)+i) (List.map (rSt d) (List.range i)))=(cpB d).rows)) (by kernel_rfl) ?_
  intro hm hs
  rw [bS_iff] at hs
  obtain ⟨hl,hk⟩:=hs
  refine ⟨⟨0,Nat.zero_le _,rfl,rfl,rfl,rfl⟩,fun i hi=>⟨fun hc=>?_,fun hc=>?_⟩⟩
  ·have hc:=of_decide_eq_true hc
   have hi2:i<d.len:=by omega
   have hw2:IntKind.i64.wrap ((i:Int)+1)=((i+1:Nat):Int):=by rw [IntWalk.i64_in _ (by omega)];omega
   obtain ⟨a1,a2,a3,b1,b2,am,ab⟩:=hk i hi2
   have z1:=lel_lt (j:=16) hi2
   have z2:=lel_lt (j:=17) hi2
   have z3:=lel_lt (j:=18) hi2
   refine ⟨⟨by omega,by omega⟩,a1,a2,a3,(show SizeOf.sizeOf (d.el i 16)<m by omega),b1,(show SizeOf.sizeOf (d.el i 17)<m by omega),b2,⟨0,⟨Nat.zero_le _,trivial⟩,?_⟩,fun q hq=>⟨fun hd=>?_,fun hd=>?_⟩⟩
   ·(repeat' apply And.intro)<;>rfl
   ·have hd:=of_decide_eq_true hd
    have hq2:q<(d.el i 18).len:=by have:(q:Int)<((d.el i 18).len:Int):=hd;omega
    have hwq:IntKind.i64.wrap ((q:Int)+1)=((q+1:Nat):Int):=by rw [IntWalk.i64_in _ (by omega)];omega
    have zq:=lel_lt (j:=2) hq2
    refine ⟨⟨by omega,hd⟩,⟨by omega,hd⟩,⟨by omega,hd⟩,(show SizeOf.sizeOf ((d.el i 18).el q 2)<m by omega),ab q hq2,(cpTo_len _ _).symm,(show (q+1)*56<=140737488355328 by omega),Nat.le_refl _,q+1,⟨hq2,trivial⟩,by omega,hwq,?_⟩
    (repeat' apply And.intro)<;>first |exact (cpTo_succ q (arR (d.el i 18))).symm |rfl
   ·have hd:=of_decide_eq_false hd
    have hq3:q=(d.el i 18).len:=by have:¬ (q:Int)<((d.el i 18).len:Int):=hd;have:=hq.1;omega
    subst hq3
    rw [cpTo_all]
    exact ⟨by rw [cpTo_len];omega,(cpTo_len _ _).symm,(show (i+1)*288<=140737488355328 by omega),Nat.le_refl _,i+1,hi2,by omega,hw2,rfl,rfl,(cpTo_succ i (rSt d)).symm⟩
  ·have hc:=of_decide_eq_false hc
   have hi3:i=d.len:=by have:i<=d.len:=hi;omega
   subst hi3
   refine ⟨by rw [cpTo_len];omega,?_⟩
   rw [cpB_eq,Nat.zero_add,List.drop_zero,List.take_of_length_le (by simp)];rfl
 ·trivial
theorem scp_ok:ConOK Try.prog 29 scpC:=
 con_rec scpM (fun _ _=>by kernel_rfl) fun m ih=>by
  rw [scp_under] at ih ⊢
  exact scp_step m ih
end Go.Proofs.Ytbhbjhejkamlnaa.Sx.Z
namespace Go.Proofs.Ytbhbjhejkamlnaa.Sx
def cellId (s:St) (t j:Nat):Nat:=match look s.hp (idOf s t) with |some (.own _ l)=>(match l[j]? with |some (.c (.osl _ id _ _))=>id |_=>0) |_=>0
end Go.Proofs.Ytbhbjhejkamlnaa.Sx
namespace Go.Proofs.Ytbhbjhejkamlnaa.Sx.Z
open Go.RowKit
def lSyr:AP:=.agg [.c (.rows 73),.c (.rows 78),.c (.rows 54)]
def nD (d:D):D:=.l d.rows
theorem nD_app (d:D):((D.l []).app d).sub 0 (0+(0+d.len))=nD d:=by
 rw [Nat.zero_add,Nat.zero_add]
 show D.l (List.drop 0 (List.take d.rows.length ([]++d.rows)))=D.l d.rows
 rw [List.nil_append,List.take_length];rfl
theorem app_le (d:D):0+(0+d.len)<=((D.l []).app d).len:=by
 rw [D.app_len]
 show 0+(0+d.len)<=0+d.len
 omega
theorem takeAll (n:Nat) (f:Nat->List D):List.drop 0 (List.take (0+n) ((List.range n).map f))=(List.range n).map f:=by
 rw [Nat.zero_add,List.drop_zero,List.take_of_length_le (by simp)]
def chRq (ch:D) (i:Nat):List D:=[D.s (ch.el i 0).toS,D.i (ch.el i 1).toI,D.i (ch.el i 2).toI,D.s (ch.el i 3).toS,D.s (ch.el i 4).toS,nD (ch.el i 5)]
def mvR (mv:D) (i:Nat):List D:=[D.i (mv.el i 0).toI,D.s (mv.el i 1).toS,D.i (mv.el i 2).toI]
def ruRq (ru:D) (i:Nat):List D:=[D.s (ru.el i 0).toS,cpTo (ru.el i 1).len (mvR (ru.el i 1))]
def prR (pr:D) (i:Nat):List D:=[D.s (pr.el i 0).toS,nD (pr.el i 1),cpB (pr.el i 2)]
def cpC (ch:D):D:=cpTo ch.len (chRq ch)
def cpU (ru:D):D:=cpTo ru.len (ruRq ru)
def cpP (pr:D):D:=cpTo pr.len (prR pr)
structure SyS (ch ru pr:D):Prop where
 c:ch.len<=1000000
 ct:∀ i,i<ch.len->(ch.el i 5).len<=1000000
 r:ru.len<=1000000
 rm:∀ i,i<ru.len->(ru.el i 1).len<=1000000
 p:pr.len<=1000000
 pv:∀ i,i<pr.len->(pr.el i 1).len<=1000000
 pb:∀ i,i<pr.len->bS (pr.el i 2)
noncomputable def ycpS:FSpec:=fun ds _=>match ds with
 | [.d ch,.d ru,.d pr]=>some {val:=.one (.agg [.c (.rows 97 (cpC ch)),.c (.rows 102 (cpU ru)),.c (.rows 87 (cpP pr))]),vc:=[SyS ch ru pr]}
 |_=>none
noncomputable def ycpC:Con:=con [lSyr] ycpS
theorem ycp_ok:ConOK Try.prog 11 ycpC:=by
 refine fn_ob tt_ok mixed Try.func11 rfl (fun _ _=>by kernel_rfl) (A:=fun ds=>⟨fun _=>Cons.of [(29,scpC)],fun k=>match k,ds with | 3,[.d ch,.d ru,.d pr]=>some {ι:=Nat,pre:=fun _ i=>i<=ch.len,μ:=fun i=>ch.len+1-i,st:=fun s i=>famR s [(4,.one (.sc (.int .i64 (.sym ((i:Nat))))))] [1,2,3] [(idOf s 3,.own 26 ([.c (.osl 97 (s.nx-1) (.lit 0) (.sym (i))),.c .nils,.c .nils])),(s.nx-1,.orow 97 (cpTo (i) (chRq ch)))] [1,2]} | 8,[.d ch,.d ru,.d pr]=>some {ι:=Nat,pre:=fun _ i=>i<=ru.len,μ:=fun i=>ru.len+1-i,st:=fun s i=>famR s [(6,.one (.sc (.int .i64 (.sym ((i:Nat))))))] [1,2,3] [(idOf s 3,.own 26 ([.c (.osl 97 (cellId s 3 0) (.lit 0) (.sym (ch.len))),.c (.osl 102 (s.nx-1) (.lit 0) (.sym (i))),.c .nils])),(cellId s 3 0,.orow 97 (cpTo (ch.len) (chRq ch))),(s.nx-1,.orow 102 (cpTo (i) (ruRq ru)))] [1,2]} | 12,[.d ch,.d ru,.d pr]=>some {ι:=Nat,pre:=fun s q=>q<=(ru.el (slotN s 6) 1).len/\True,μ:=fun q=>1000001-q,st:=fun s q=>famR s [(8,.one (.sc (.int .i64 (.sym ((q:Nat))))))] [1,2,3,6,7] [(idOf s 7,.own 102 ([.c (.raw (.string ((ru.el (slotN s 6) 0).toS))),.c (.osl 106 (s.nx-1) (.lit 0) (.sym (q)))])),(s.nx-1,.orow 106 (cpTo q (mvR (ru.el (slotN s 6) 1)))),(cellId s 3 0,.orow 97 (cpTo (ch.len) (chRq ch))),(cellId s 3 1,.orow 102 (cpTo (slotN s 6) (ruRq ru)))] [1,2,3]} | 18,[.d ch,.d ru,.d pr]=>some {ι:=Nat,pre:=fun _ i=>i<=pr.len,μ:=fun i=>pr.len+1-i,st:=fun s i=>famR s [(10,.one (.sc (.int .i64 (.sym ((i:Nat))))))] [1,2,3] [(idOf s 3,.own 26 ([.c (.osl 97 (cellId s 3 0) (.lit 0) (.sym (ch.len))),.c (.osl 102 (cellId s 3 1) (.lit 0) (.sym (ru.len))),.c (.osl 87 (s.nx-1) (.lit 0) (.sym (i)))])),(cellId s 3 0,.orow 97 (cpTo (ch.len) (chRq ch))),(cellId s 3 1,.orow 102 (cpTo (ru.len) (ruRq ru))),(s.nx-1,.orow 87 (cpTo (i) (prR pr)))] [1,2]} |_,_=>none,fun _=>none⟩) (fun _ _=>(cons_cons scp_ok cons_nil)) (by kernel_rfl) ?_
 intro ds fr
 unfold ycpS
 split
 ·rename_i ch ru pr
  refine kmp (q:=SyS ch ru pr->(∃ (i:Nat),i.le ch.len/\(0:Int)=(↑i:Int)/\i=0/\List.map (chRq ch) (List.range i)=[]/\ch.rows=ch.rows/\ru.rows=ru.rows/\pr.rows=pr.rows)/\∀ (i:Nat),i.le ch.len->(decide ((↑i:Int)<(↑ch.len:Int))=true->((0:Int)<=(↑i:Int)/\(↑i:Int)<(↑ch.len:Int))/\0=(D.l []).len/\((0:Nat)+(ch.el (↑i:Int).toNat 5).len)*16<=140737488355328/\0+((0:Nat)+(ch.el (↑i:Int).toNat 5).len)<=((D.l []).app (ch.el (↑i:Int).toNat 5)).len/\i=(cpTo i (chRq ch)).len/\(i+((D.l [[D.s (ch.el (↑i:Int).toNat (0:Nat)).toS,D.i (ch.el (↑i:Int).toNat 1).toI,D.i (ch.el (↑i:Int).toNat 2).toI,D.s (ch.el (↑i:Int).toNat 3).toS,D.s (ch.el (↑i:Int).toNat 4).toS,((D.l []).app (ch.el (↑i:Int).toNat 5)).sub 0 ((0:Nat)+((0:Nat)+(ch.el (↑i:Int).toNat 5).len))]]).sub 0 1).len)*88<=140737488355328/\0+1<=(D.l [[D.s (ch.el (↑i:Int).toNat (0:Nat)).toS,D.i (ch.el (↑i:Int).toNat 1).toI,D.i (ch.el (↑i:Int).toNat 2).toI,D.s (ch.el (↑i:Int).toNat 3).toS,D.s (ch.el (↑i:Int).toNat 4).toS,((D.l []).app (ch.el (↑i:Int).toNat 5)).sub 0 ((0:Nat)+((0:Nat)+(ch.el (↑i:Int).toNat 5).len))]]).len/\∃ (j:Nat),j.le ch.len/\ch.len+1-j<ch.len+1-i/\IntKind.i64.wrap ((↑i:Int)+1)=(↑j:Int)/\i+((D.l [[D.s (ch.el (↑i:Int).toNat (0:Nat)).toS,D.i (ch.el (↑i:Int).toNat 1).toI,D.i (ch.el (↑i:Int).toNat 2).toI,D.s (ch.el (↑i:Int).toNat 3).toS,D.s (ch.el (↑i:Int).toNat 4).toS,((D.l []).app (ch.el (↑i:Int).toNat 5)).sub 0 ((0:Nat)+((0:Nat)+(ch.el (↑i:Int).toNat 5).len))]]).sub 0 1).len=j/\List.map (chRq ch) (List.range i)++List.drop 0 (List.take 1 [[D.s (ch.el (↑i:Int).toNat (0:Nat)).toS,D.i (ch.el (↑i:Int).toNat 1).toI,D.i (ch.el (↑i:Int).toNat 2).toI,D.s (ch.el (↑i:Int).toNat 3).toS,D.s (ch.el (↑i:Int).toNat 4).toS,((D.l []).app (ch.el (↑i:Int).toNat 5)).sub 0 ((0:Nat)+((0:Nat)+(ch.el (↑i:Int).toNat 5).len))]])=List.map (chRq ch) (List.range j)/\ch.rows=ch.rows/\ru.rows=ru.rows/\pr.rows=pr.rows)/\(decide ((↑i:Int)<(↑ch.len:Int))=false->(∃ (i_1:Nat),i_1.le ru.len/\(0:Int)=(↑i_1:Int)/\i=ch.len/\i_1=0/\List.map (chRq ch) (List.range i)=List.map (chRq ch) (List.range ch.len)/\List.map (ruRq ru) (List.range i_1)=[]/\ch.rows=ch.rows/\ru.rows=ru.rows/\pr.rows=pr.rows)/\∀ (i:Nat),i.le ru.len->(decide ((↑i:Int)<(↑ru.len:Int))=true->((0:Int)<=(↑i:Int)/\(↑i:Int)<(↑ru.len:Int))/\(∃ (i_1:Nat),(i_1<=(ru.el i (1:Nat)).len/\True)/\(0:Int)=(↑i_1:Int)/\(↑i:Int)=(↑i:Int)/\Value.string (ru.el (↑i:Int).toNat ((0:Nat)+(0:Nat))).toS=Value.string (ru.el i (0:Nat)).toS/\i_1=0/\List.map (mvR (ru.el i (1:Nat))) (List.range i_1)=[]/\List.map (chRq ch) (List.range ch.len)=List.map (chRq ch) (List.range ch.len)/\List.map (ruRq ru) (List.range i)=List.map (ruRq ru) (List.range i)/\ch.rows=ch.rows/\ru.rows=ru.rows/\pr.rows=pr.rows/\ch.len=ch.len/\i=i)/\∀ (i_1:Nat),i_1<=(ru.el i (1:Nat)).len/\True->((0:Int)<=(↑i:Int)/\(↑i:Int)<(↑ru.len:Int))/\(decide ((↑i_1:Int)<(↑(ru.el (↑i:Int).toNat 1).len:Int))=true->((0:Int)<=(↑i:Int)/\(↑i:Int)<(↑ru.len:Int))/\((0:Int)<=(↑i_1:Int)/\(↑i_1:Int)<(↑(ru.el (↑i:Int).toNat 1).len:Int))/\i_1=(cpTo i_1 (mvR (ru.el i (1:Nat)))).len/\(i_1+((D.l [[D.i ((ru.el (↑i:Int).toNat 1).el (↑i_1:Int).toNat (0:Nat)).toI,D.s ((ru.el (↑i:Int).toNat 1).el (↑i_1:Int).toNat 1).toS,D.i ((ru.el (↑i:Int).toNat 1).el (↑i_1:Int).toNat 2).toI]]).sub 0 1).len)*32<=140737488355328/\0+1<=(D.l [[D.i ((ru.el (↑i:Int).toNat 1).el (↑i_1:Int).toNat (0:Nat)).toI,D.s ((ru.el (↑i:Int).toNat 1).el (↑i_1:Int).toNat 1).toS,D.i ((ru.el (↑i:Int).toNat 1).el (↑i_1:Int).toNat 2).toI]]).len/\∃ (j:Nat),(j<=(ru.el i (1:Nat)).len/\True)/\1000001-j<1000001-i_1/\IntKind.i64.wrap ((↑i_1:Int)+1)=(↑j:Int)/\(↑i:Int)=(↑i:Int)/\Value.string (ru.el i (0:Nat)).toS=Value.string (ru.el i (0:Nat)).toS/\i_1+((D.l [[D.i ((ru.el (↑i:Int).toNat 1).el (↑i_1:Int).toNat (0:Nat)).toI,D.s ((ru.el (↑i:Int).toNat 1).el (↑i_1:Int).toNat 1).toS,D.i ((ru.el (↑i:Int).toNat 1).el (↑i_1:Int).toNat 2).toI]]).sub 0 1).len=j/\List.map (mvR (ru.el i (1:Nat))) (List.range i_1)++List.drop 0 (List.take 1 [[D.i ((ru.el (↑i:Int).toNat 1).el (↑i_1:Int).toNat (0:Nat)).toI,D.s ((ru.el (↑i:Int).toNat 1).el (↑i_1:Int).toNat 1).toS,D.i ((ru.el (↑i:Int).toNat 1).el (↑i_1:Int).toNat 2).toI]])=List.map (mvR (ru.el i (1:Nat))) (List.range j)/\List.map (chRq ch) (List.range ch.len)=List.map (chRq ch) (List.range ch.len)/\List.map (ruRq ru) (List.range i)=List.map (ruRq ru) (List.range i)/\ch.rows=ch.rows/\ru.rows=ru.rows/\pr.rows=pr.rows/\ch.len=ch.len/\i=i)/\(decide ((↑i_1:Int)<(↑(ru.el (↑i:Int).toNat 1).len:Int))=false->0+i_1<=(cpTo i_1 (mvR (ru.el i (1:Nat)))).len/\i=(cpTo i (ruRq ru)).len/\(i+((D.l [[D.s (ru.el i (0:Nat)).toS,(cpTo i_1 (mvR (ru.el i (1:Nat)))).sub 0 ((0:Nat)+i_1)]]).sub 0 1).len)*40<=140737488355328/\0+1<=(D.l [[D.s (ru.el i (0:Nat)).toS,(cpTo i_1 (mvR (ru.el i (1:Nat)))).sub 0 ((0:Nat)+i_1)]]).len/\∃ (j:Nat),j.le ru.len/\ru.len+1-j<ru.len+1-i/\IntKind.i64.wrap ((↑i:Int)+1)=(↑j:Int)/\ch.len=ch.len/\i+((D.l [[D.s (ru.el i (0:Nat)).toS,(cpTo i_1 (mvR (ru.el i (1:Nat)))).sub 0 ((0:Nat)+i_1)]]).sub 0 1).len=j/\List.map (chRq ch) (List.range ch.len)=List.map (chRq ch) (List.range ch.len)/\List.map (ruRq ru) (List.range i)++List.drop 0 (List.take 1 [[D.s (ru.el i (0:Nat)).toS,(cpTo i_1 (mvR (ru.el i (1:Nat)))).sub 0 ((0:Nat)+i_1)]])=List.map (ruRq ru) (List.range j)/\ch.rows=ch.rows/\ru.rows=ru.rows/\pr.rows=pr.rows))/\(decide ((↑i:Int)<(↑ru.len:Int))=false->(∃ (i_1:Nat),i_1.le pr.len/\(0:Int)=(↑i_1:Int)/\ch.len=ch.len/\i=ru.len/\i_1=0/\List.map (chRq ch) (List.range ch.len)=List.map (chRq ch) (List.range ch.len)/\List.map (ruRq ru) (List.range i)=List.map (ruRq ru) (List.range ru.len)/\List.map (prR pr) (List.range i_1)=[]/\ch.rows=ch.rows/\ru.rows=ru.rows/\pr.rows=pr.rows)/\∀ (i:Nat),i.le pr.len->(decide ((↑i:Int)<(↑pr.len:Int))=true->((0:Int)<=(↑i:Int)/\(↑i:Int)<(↑pr.len:Int))/\0=(D.l []).len/\((0:Nat)+(pr.el (↑i:Int).toNat 1).len)*16<=140737488355328/\bS (pr.el (↑i:Int).toNat 2)/\0+((0:Nat)+(pr.el (↑i:Int).toNat 1).len)<=((D.l []).app (pr.el (↑i:Int).toNat 1)).len/\i=(cpTo i (prR pr)).len/\(i+((D.l [[D.s (pr.el (↑i:Int).toNat (0:Nat)).toS,((D.l []).app (pr.el (↑i:Int).toNat 1)).sub 0 ((0:Nat)+((0:Nat)+(pr.el (↑i:Int).toNat 1).len)),cpB (pr.el (↑i:Int).toNat 2)]]).sub 0 1).len)*64<=140737488355328/\0+1<=(D.l [[D.s (pr.el (↑i:Int).toNat (0:Nat)).toS,((D.l []).app (pr.el (↑i:Int).toNat 1)).sub 0 ((0:Nat)+((0:Nat)+(pr.el (↑i:Int).toNat 1).len)),cpB (pr.el (↑i:Int).toNat 2)]]).len/\∃ (j:Nat),j.le pr.len/\pr.len+1-j<pr.len+1-i/\IntKind.i64.wrap ((↑i:Int)+1)=(↑j:Int)/\ch.len=ch.len/\ru.len=ru.len/\i+((D.l [[D.s (pr.el (↑i:Int).toNat (0:Nat)).toS,((D.l []).app (pr.el (↑i:Int).toNat 1)).sub 0 ((0:Nat)+((0:Nat)+(pr.el (↑i:Int).toNat 1).len)),cpB (pr.el (↑i:Int).toNat 2)]]).sub 0 1).len=j/\List.map (chRq ch) (List.range ch.len)=List.map (chRq ch) (List.range ch.len)/\List.map (ruRq ru) (List.range ru.len)=List.map (ruRq ru) (List.range ru.len)/\List.map (prR pr) (List.range i)++List.drop 0 (List.take 1 [[D.s (pr.el (↑i:Int).toNat (0:Nat)).toS,((D.l []).app (pr.el (↑i:Int).toNat 1)).sub 0 ((0:Nat)+((0:Nat)+(pr.el (↑i:Int).toNat 1).len)),cpB (pr.el (↑i:Int).toNat 2)]])=List.map (prR pr) (List.range j)/\ch.rows=ch.rows/\ru.rows=ru.rows/\pr.rows=pr.rows)/\(decide ((↑i:Int)<(↑pr.len:Int))=false->0+ch.len<=(cpTo ch.len (chRq ch)).len/\0+ru.len<=(cpTo ru.len (ruRq ru)).len/\0+i<=(cpTo i (prR pr)).len/\List.drop 0 (List.take ((0:Nat)+ch.len) (List.map (chRq ch) (List.range ch.len)))=List.map (chRq ch) (List.range ch.len)/\List.drop 0 (List.take ((0:Nat)+ru.len) (List.map (ruRq ru) (List.range ru.len)))=List.map (ruRq ru) (List.range ru.len)/\List.drop 0 (List.take ((0:Nat)+i) (List.map (prR pr) (List.range i)))=List.map (prR pr) (List.range pr.len))))) (by kernel_rfl) ?_
  intro hs
  refine ⟨⟨0,Nat.zero_le _,by (repeat' apply And.intro)<;>rfl⟩,fun i hi=>⟨fun hc=>?_,fun hc=>?_⟩⟩
  ·have hc:=of_decide_eq_true hc
   have hi2:i<ch.len:=by omega
   have b1:=hs.c
   have b2:=hs.ct i hi2
   have hw2:IntKind.i64.wrap ((i:Int)+1)=((i+1:Nat):Int):=by rw [IntWalk.i64_in _ (by omega)];omega
   rw [nD_app]
   refine ⟨⟨by omega,by omega⟩,rfl,(show (0+(ch.el i 5).len)*16<=140737488355328 by omega),app_le _,(cpTo_len _ _).symm,(show (i+1)*88<=140737488355328 by omega),Nat.le_refl _,i+1,hi2,by omega,hw2,?_⟩
   (repeat' apply And.intro)<;>first |exact (cpTo_succ i (chRq ch)).symm |rfl
  ·have hc:=of_decide_eq_false hc
   have hi3:i=ch.len:=by have:i<=ch.len:=hi;omega
   subst hi3
   refine ⟨⟨0,Nat.zero_le _,by (repeat' apply And.intro)<;>rfl⟩,fun i hi=>⟨fun hc=>?_,fun hc=>?_⟩⟩
   ·have hc:=of_decide_eq_true hc
    have hi2:i<ru.len:=by omega
    have b1:=hs.r
    have b2:=hs.rm i hi2
    have hw2:IntKind.i64.wrap ((i:Int)+1)=((i+1:Nat):Int):=by rw [IntWalk.i64_in _ (by omega)];omega
    refine ⟨⟨by omega,by omega⟩,⟨0,⟨Nat.zero_le _,trivial⟩,by (repeat' apply And.intro)<;>rfl⟩,fun q hq=>⟨⟨by omega,by omega⟩,fun hd=>?_,fun hd=>?_⟩⟩
    ·have hd:=of_decide_eq_true hd
     have hq2:q<(ru.el i 1).len:=by have:(q:Int)<((ru.el i 1).len:Int):=hd;omega
     have hwq:IntKind.i64.wrap ((q:Int)+1)=((q+1:Nat):Int):=by rw [IntWalk.i64_in _ (by omega)];omega
     refine ⟨⟨by omega,by omega⟩,⟨by omega,hd⟩,(cpTo_len _ _).symm,(show (q+1)*32<=140737488355328 by omega),Nat.le_refl _,q+1,⟨hq2,trivial⟩,by omega,hwq,?_⟩
     (repeat' apply And.intro)<;>first |exact (cpTo_succ q (mvR (ru.el i 1))).symm |rfl
    ·have hd:=of_decide_eq_false hd
     have hq3:q=(ru.el i 1).len:=by have:¬ (q:Int)<((ru.el i 1).len:Int):=hd;have:=hq.1;omega
     subst hq3
     rw [cpTo_all]
     refine ⟨by rw [cpTo_len];omega,(cpTo_len _ _).symm,(show (i+1)*40<=140737488355328 by omega),Nat.le_refl _,i+1,hi2,by omega,hw2,?_⟩
     (repeat' apply And.intro)<;>first |exact (cpTo_succ i (ruRq ru)).symm |rfl
   ·have hc:=of_decide_eq_false hc
    have hi3:i=ru.len:=by have:i<=ru.len:=hi;omega
    subst hi3
    refine ⟨⟨0,Nat.zero_le _,by (repeat' apply And.intro)<;>rfl⟩,fun i hi=>⟨fun hc=>?_,fun hc=>?_⟩⟩
    ·have hc:=of_decide_eq_true hc
     have hi2:i<pr.len:=by omega
     have b1:=hs.p
     have b2:=hs.pv i hi2
     have hw2:IntKind.i64.wrap ((i:Int)+1)=((i+1:Nat):Int):=by rw [IntWalk.i64_in _ (by omega)];omega
     rw [nD_app]
     refine ⟨⟨by omega,by omega⟩,rfl,(show (0+(pr.el i 1).len)*16<=140737488355328 by omega),hs.pb i hi2,app_le _,(cpTo_len _ _).symm,(show (i+1)*64<=140737488355328 by omega),Nat.le_refl _,i+1,hi2,by omega,hw2,?_⟩
     (repeat' apply And.intro)<;>first |exact (cpTo_succ i (prR pr)).symm |rfl
    ·have hc:=of_decide_eq_false hc
     have hi3:i=pr.len:=by have:i<=pr.len:=hi;omega
     subst hi3
     exact ⟨by rw [cpTo_len];omega,by rw [cpTo_len];omega,by rw [cpTo_len];omega,takeAll _ _,takeAll _ _,takeAll _ _⟩
 ·trivial
end Go.Proofs.Ytbhbjhejkamlnaa.Sx.Z
