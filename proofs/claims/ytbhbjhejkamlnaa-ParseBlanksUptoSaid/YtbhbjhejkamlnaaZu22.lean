import Derived.Test.YtbhbjhejkamlnaaZu21
set_option linter.unusedVariables false
set_option linter.unusedSimpArgs false
namespace Go.Proofs.Ytbhbjhejkamlnaa.Sx.Z
open Go.RowKit
def txP:ByteArray:=⟨#[112,114,111,99,32,112,32,123,32,120,32,61,32,49,32,43,32,50,32,42,32,51,32,59,32,125]⟩
def txQ:ByteArray:=⟨#[112,114,111,99,32,112]⟩
def tpD:D:=.l [[.s ⟨#[112]⟩,.l [],.l [[.i 1,.s ⟨#[120]⟩,.s ByteArray.empty,.i 4,.i 0,.s ByteArray.empty,.l [[.i 1,.i 1,.s ByteArray.empty,.l []],[.i 6,.i 0,.s ByteArray.empty,.l [[.i 1,.i 2,.s ByteArray.empty,.l []],[.i 1,.i 3,.s ByteArray.empty,.l []]]]],.i 0,.i 0,.i 0,.s ByteArray.empty,.l [],.i 0,.i 0,.s ByteArray.empty,.l [],.l [],.l [],.l []]]]]
theorem conS_sub {P:Program} {f:FuncId} {aps:List AP} {S S':List Dat->Option Eff} (h:ConOK P f (conS aps S)) (hS:∀ ds e,S' ds=some e->S ds=some e):ConOK P f (conS aps S'):=by
 refine ⟨h.enters,fun hp fr args e he=>h.calls hp fr args e ?_,fun hp fr caps e he=>?_⟩
 ·unfold conS con at he ⊢
  split at he
  ·rename_i ds ps hds
   cases hq:S' ds with
   |none=>simp only [hq] at he;cases he
   |some x=>
    simp only [hq] at he
    simp only [hds,hS _ _ hq]
    exact he
  ·cases he
 ·unfold conS at he;rw [con_jf] at he;cases he
theorem ba_eq {a b:ByteArray} (h:(a.toList==b.toList)=true):a=b:=by
 have h:=eq_of_beq h
 rw [ByteArray.toList_eq,ByteArray.toList_eq] at h
 exact ByteArray.ext (Array.toList_inj.1 h)
noncomputable def prtS:List Dat->Option Eff:=fun ds=>match ds with
 | [.s s]=>(match s.toList==txP.toList with
   |true=>some {val:=.tup [.agg [.c (.osl 97 0 (.lit 0) (.sym (D.len (.l [])))),.c (.osl 102 1 (.lit 0) (.sym (D.len (.l [])))),.c (.osl 87 2 (.lit 0) (.sym (D.len (.l [[.s ⟨#[112]⟩,.l [],.l [[.i 1,.s ⟨#[120]⟩,.s ByteArray.empty,.i 4,.i 0,.s ByteArray.empty,.l [[.i 1,.i 1,.s ByteArray.empty,.l []],[.i 6,.i 0,.s ByteArray.empty,.l [[.i 1,.i 2,.s ByteArray.empty,.l []],[.i 1,.i 3,.s ByteArray.empty,.l []]]]],.i 0,.i 0,.i 0,.s ByteArray.empty,.l [],.i 0,.i 0,.s ByteArray.empty,.l [],.l [],.l [],.l []]]]]))))],.sc (.int .i64 (.sym 0)),.sc (.int .i64 (.sym 0))],vc:=[s.size<=140737488351232],nw:=[(0,.orow 97 (.l [])),(1,.orow 102 (.l [])),(2,.orow 87 (.l [[.s ⟨#[112]⟩,.l [],.l [[.i 1,.s ⟨#[120]⟩,.s ByteArray.empty,.i 4,.i 0,.s ByteArray.empty,.l [[.i 1,.i 1,.s ByteArray.empty,.l []],[.i 6,.i 0,.s ByteArray.empty,.l [[.i 1,.i 2,.s ByteArray.empty,.l []],[.i 1,.i 3,.s ByteArray.empty,.l []]]]],.i 0,.i 0,.i 0,.s ByteArray.empty,.l [],.i 0,.i 0,.s ByteArray.empty,.l [],.l [],.l [],.l []]]]]))]}
   |false=>match s.toList==txQ.toList with
    |true=>some {val:=.tup [.agg [.c (.osl 97 0 (.lit 0) (.sym (D.len (.l [])))),.c (.osl 102 1 (.lit 0) (.sym (D.len (.l [])))),.c (.osl 87 2 (.lit 0) (.sym (D.len (.l []))))],.sc (.int .i64 (.sym 6)),.sc (.int .i64 (.sym 5))],vc:=[s.size<=140737488351232],nw:=[(0,.orow 97 (.l [])),(1,.orow 102 (.l [])),(2,.orow 87 (.l []))]}
    |false=>none)
 |_=>none
set_option maxRecDepth 100000 in
theorem tp_facts:paC txP = .l []/\paU txP = .l []/\paP txP=tpD/\paA txP=0/\paE txP=0:=⟨by kernel_rfl,by kernel_rfl,by kernel_rfl,by decide +kernel,by decide +kernel⟩
set_option maxRecDepth 100000 in
theorem tq_facts:paC txQ = .l []/\paU txQ = .l []/\paP txQ = .l []/\paA txQ=6/\paE txQ=5:=⟨by kernel_rfl,by kernel_rfl,by kernel_rfl,by decide +kernel,by decide +kernel⟩
theorem prt_ok:ConOK Try.prog 7 (conS [.sc .str] prtS):=conS_sub par_ok fun ds e h=>by
 unfold prtS at h
 split at h
 ·rename_i s
  split at h
  ·rename_i hs
   obtain rfl:=ba_eq hs
   obtain ⟨a,b,c,d,e⟩:=tp_facts
   rw [<- h]
   unfold parS
   simp only [a,b,c,d,e]
   rfl
  ·split at h
   ·rename_i hs
    obtain rfl:=ba_eq hs
    obtain ⟨a,b,c,d,e⟩:=tq_facts
    rw [<- h]
    unfold parS
    simp only [a,b,c,d,e]
   ·cases h
 ·cases h
noncomputable def prsS:FSpec:=fun ds _=>match ds with
 | []=>some {val:=.one (.sc (.bool (.sym (true)))),vc:=[]}
 |_=>none
noncomputable def prsC:Con:=con [] prsS
theorem prs_ok:ConOK Try.prog 9 prsC:=by
 refine fn_ob tt_ok mixed Try.func9 rfl (fun _ _=>by kernel_rfl) (A:=fun ds=>⟨fun _=>Cons.of [(7,(conS [.sc .str] prtS))],fun _=>none,fun _=>none⟩) (fun _ _=>(cons_cons prt_ok cons_nil)) (by kernel_rfl) ?_
 intro ds fr
 unfold prsS
 split
 ·skip
  refine kmp (q:=txP.size<=140737488351232/\txQ.size<=140737488351232/\(((0:Int)==(0:Int)&&(↑1:Int)==(1:Int))=true/\True->0<(1:Nat))/\(((0:Int)==(0:Int)&&(↑1:Int)==(1:Int))=true/\True->0<tpD.len)/\(((0:Int)==(0:Int)&&(↑1:Int)==(1:Int)&&(↑(tpD.el 0 ((0:Nat)+(2:Nat))).len:Int)==(1:Int))=true/\True->0<(1:Nat))/\(((0:Int)==(0:Int)&&(↑1:Int)==(1:Int)&&(↑(tpD.el 0 ((0:Nat)+(2:Nat))).len:Int)==(1:Int))=true/\True->0<tpD.len)/\(((0:Int)==(0:Int)&&(↑1:Int)==(1:Int)&&(↑(tpD.el 0 ((0:Nat)+(2:Nat))).len:Int)==(1:Int))=true/\True->0<(tpD.el 0 ((0:Nat)+(2:Nat))).len)/\(((0:Int)==(0:Int)&&(↑1:Int)==(1:Int)&&(↑(tpD.el 0 ((0:Nat)+(2:Nat))).len:Int)==(1:Int)&&(4:Int)==(4:Int))=true/\True->0<(1:Nat))/\(((0:Int)==(0:Int)&&(↑1:Int)==(1:Int)&&(↑(tpD.el 0 ((0:Nat)+(2:Nat))).len:Int)==(1:Int)&&(4:Int)==(4:Int))=true/\True->0<tpD.len)/\(((0:Int)==(0:Int)&&(↑1:Int)==(1:Int)&&(↑(tpD.el 0 ((0:Nat)+(2:Nat))).len:Int)==(1:Int)&&(4:Int)==(4:Int))=true/\True->0<(tpD.el 0 ((0:Nat)+(2:Nat))).len)/\(((0:Int)==(0:Int)&&(↑1:Int)==(1:Int)&&(↑(tpD.el 0 ((0:Nat)+(2:Nat))).len:Int)==(1:Int)&&(4:Int)==(4:Int)&&(↑((tpD.el 0 ((0:Nat)+(2:Nat))).el 0 ((0:Nat)+3+(3:Nat))).len:Int)==(2:Int))=true/\True->0<(1:Nat))/\(((0:Int)==(0:Int)&&(↑1:Int)==(1:Int)&&(↑(tpD.el 0 ((0:Nat)+(2:Nat))).len:Int)==(1:Int)&&(4:Int)==(4:Int)&&(↑((tpD.el 0 ((0:Nat)+(2:Nat))).el 0 ((0:Nat)+3+(3:Nat))).len:Int)==(2:Int))=true/\True->0<tpD.len)/\(((0:Int)==(0:Int)&&(↑1:Int)==(1:Int)&&(↑(tpD.el 0 ((0:Nat)+(2:Nat))).len:Int)==(1:Int)&&(4:Int)==(4:Int)&&(↑((tpD.el 0 ((0:Nat)+(2:Nat))).el 0 ((0:Nat)+3+(3:Nat))).len:Int)==(2:Int))=true/\True->0<(tpD.el 0 ((0:Nat)+(2:Nat))).len)/\(((0:Int)==(0:Int)&&(↑1:Int)==(1:Int)&&(↑(tpD.el 0 ((0:Nat)+(2:Nat))).len:Int)==(1:Int)&&(4:Int)==(4:Int)&&(↑((tpD.el 0 ((0:Nat)+(2:Nat))).el 0 ((0:Nat)+3+(3:Nat))).len:Int)==(2:Int))=true/\True->1<((tpD.el 0 ((0:Nat)+(2:Nat))).el 0 ((0:Nat)+3+(3:Nat))).len)/\((0:Int)==(0:Int)&&(↑1:Int)==(1:Int)&&(↑(tpD.el 0 ((0:Nat)+(2:Nat))).len:Int)==(1:Int)&&(4:Int)==(4:Int)&&(↑((tpD.el 0 ((0:Nat)+(2:Nat))).el 0 ((0:Nat)+3+(3:Nat))).len:Int)==(2:Int)&&(6:Int)==(6:Int)&&(5:Int)==(5:Int)&&(6:Int)==(6:Int))=true) (by kernel_rfl) ?_
  (repeat' (with_reducible apply And.intro))<;>first |decide |(intro _;decide) |rfl
 ·trivial
end Go.Proofs.Ytbhbjhejkamlnaa.Sx.Z
