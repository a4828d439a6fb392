import Derived.Test.YtbhbjhejkamlnaaGreatProg
import Derived.Test.YtbhbjhejkamlnaaGreatZx14
import Derived.Test.YtbhbjhejkamlnaaGreatZx13
namespace Go.Proofs.YtbhbjhejkamlnaaGreat.Sx.Z
def tt:TT:=[(2,⟨.int .i64,1,none,[.c (.int .i64 (.lit 0))],none,none,8⟩),
 (3,⟨.int .i64,1,none,[.c (.int .i64 (.lit 0))],none,none,8⟩),
 (4,⟨.bool,1,none,[.c (.bool (.lit false))],none,none,1⟩),
 (5,⟨.int .u8,1,none,[.c (.int .u8 (.lit 0))],none,some ([.int .u8]),1⟩),
 (9,⟨.string,1,none,[.c (.raw (.string ByteArray.empty))],none,some ([.str]),16⟩),
 (21,⟨.int .i32,1,none,[.c (.int .i32 (.lit 0))],none,none,4⟩),
 (22,⟨.slice 24,1,none,[.c .nils],none,none,24⟩),
 (24,⟨.struct [(3,0),(3,1),(9,2),(22,3)],4,some [.c,.c,.c,.c],[.c (.int .i64 (.lit 0)),.c (.int .i64 (.lit 0)),.c (.raw (.string ByteArray.empty)),.c .nils],none,some ([.int .i64,.int .i64,.str,.slice 24]),56⟩),
 (25,⟨.int .u64,1,none,[.c (.int .u64 (.lit 0))],none,none,8⟩),
 (27,⟨.struct [(3,0),(24,1),(24,5)],9,some [.c,.c,.c,.c,.c,.c,.c,.c,.c],[.c (.int .i64 (.lit 0)),.c (.int .i64 (.lit 0)),.c (.int .i64 (.lit 0)),.c (.raw (.string ByteArray.empty)),.c .nils,.c (.int .i64 (.lit 0)),.c (.int .i64 (.lit 0)),.c (.raw (.string ByteArray.empty)),.c .nils],none,none,120⟩),
 (28,⟨.slice 31,1,none,[.c .nils],none,some ([.slice 31]),24⟩),
 (29,⟨.slice 119,1,none,[.c .nils],none,none,24⟩),
 (31,⟨.struct [(3,0),(9,1),(9,2),(24,3),(27,7),(28,16),(28,17),(29,18)],19,some [.c,.c,.c,.c,.c,.c,.c,.c,.c,.c,.c,.c,.c,.c,.c,.c,.c,.c,.c],[.c (.int .i64 (.lit 0)),.c (.raw (.string ByteArray.empty)),.c (.raw (.string ByteArray.empty)),.c (.int .i64 (.lit 0)),.c (.int .i64 (.lit 0)),.c (.raw (.string ByteArray.empty)),.c .nils,.c (.int .i64 (.lit 0)),.c (.int .i64 (.lit 0)),.c (.int .i64 (.lit 0)),.c (.raw (.string ByteArray.empty)),.c .nils,.c (.int .i64 (.lit 0)),.c (.int .i64 (.lit 0)),.c (.raw (.string ByteArray.empty)),.c .nils,.c .nils,.c .nils,.c .nils],none,some ([.int .i64,.str,.str,.int .i64,.int .i64,.str,.slice 24,.int .i64,.int .i64,.int .i64,.str,.slice 24,.int .i64,.int .i64,.str,.slice 24,.slice 31,.slice 31,.slice 119]),288⟩),
 (32,⟨.slice 9,1,none,[.c .nils],none,none,24⟩),
 (34,⟨.struct [(9,0),(32,1),(28,2)],3,some [.c,.c,.c],[.c (.raw (.string ByteArray.empty)),.c .nils,.c .nils],none,some ([.str,.slice 9,.slice 31]),64⟩),
 (35,⟨.slice 34,1,none,[.c .nils],none,none,24⟩),
 (36,⟨.slice 62,1,none,[.c .nils],none,none,24⟩),
 (37,⟨.slice 66,1,none,[.c .nils],none,none,24⟩),
 (39,⟨.struct [(36,0),(37,1),(35,2)],3,some [.c,.c,.c],[.c .nils,.c .nils,.c .nils],none,none,72⟩),
 (40,⟨.int .i64,1,none,[.c (.int .i64 (.lit 0))],none,none,8⟩),
 (44,⟨.slice 101,1,none,[.c .nils],none,none,24⟩),
 (45,⟨.slice 106,1,none,[.c .nils],none,none,24⟩),
 (46,⟨.slice 72,1,none,[.c .nils],none,none,24⟩),
 (48,⟨.struct [(44,0),(45,1),(46,2)],3,some [.c,.c,.c],[.c .nils,.c .nils,.c .nils],none,none,72⟩),
 (62,⟨.struct [(9,0),(3,1),(3,2),(9,3),(9,4),(32,5)],6,some [.c,.c,.c,.c,.c,.c],[.c (.raw (.string ByteArray.empty)),.c (.int .i64 (.lit 0)),.c (.int .i64 (.lit 0)),.c (.raw (.string ByteArray.empty)),.c (.raw (.string ByteArray.empty)),.c .nils],none,some ([.str,.int .i64,.int .i64,.str,.str,.slice 9]),88⟩),
 (64,⟨.slice 68,1,none,[.c .nils],none,none,24⟩),
 (66,⟨.struct [(9,0),(64,1)],2,some [.c,.c],[.c (.raw (.string ByteArray.empty)),.c .nils],none,some ([.str,.slice 68]),40⟩),
 (68,⟨.struct [(3,0),(9,1),(3,2)],3,some [.c,.c,.c],[.c (.int .i64 (.lit 0)),.c (.raw (.string ByteArray.empty)),.c (.int .i64 (.lit 0))],some [(.i .i64,1),(.s,1),(.i .i64,1)],some ([.int .i64,.str,.int .i64]),32⟩),
 (70,⟨.slice 80,1,none,[.c .nils],none,none,24⟩),
 (72,⟨.struct [(9,0),(32,1),(70,2)],3,some [.c,.c,.c],[.c (.raw (.string ByteArray.empty)),.c .nils,.c .nils],none,some ([.str,.slice 9,.slice 80]),64⟩),
 (73,⟨.slice 75,1,none,[.c .nils],none,none,24⟩),
 (75,⟨.struct [(3,0),(3,1),(9,2),(73,3)],4,some [.c,.c,.c,.c],[.c (.int .i64 (.lit 0)),.c (.int .i64 (.lit 0)),.c (.raw (.string ByteArray.empty)),.c .nils],none,some ([.int .i64,.int .i64,.str,.slice 75]),56⟩),
 (77,⟨.struct [(3,0),(75,1),(75,5)],9,some [.c,.c,.c,.c,.c,.c,.c,.c,.c],[.c (.int .i64 (.lit 0)),.c (.int .i64 (.lit 0)),.c (.int .i64 (.lit 0)),.c (.raw (.string ByteArray.empty)),.c .nils,.c (.int .i64 (.lit 0)),.c (.int .i64 (.lit 0)),.c (.raw (.string ByteArray.empty)),.c .nils],none,none,120⟩),
 (78,⟨.slice 141,1,none,[.c .nils],none,none,24⟩),
 (80,⟨.struct [(3,0),(9,1),(9,2),(75,3),(77,7),(70,16),(70,17),(78,18)],19,some [.c,.c,.c,.c,.c,.c,.c,.c,.c,.c,.c,.c,.c,.c,.c,.c,.c,.c,.c],[.c (.int .i64 (.lit 0)),.c (.raw (.string ByteArray.empty)),.c (.raw (.string ByteArray.empty)),.c (.int .i64 (.lit 0)),.c (.int .i64 (.lit 0)),.c (.raw (.string ByteArray.empty)),.c .nils,.c (.int .i64 (.lit 0)),.c (.int .i64 (.lit 0)),.c (.int .i64 (.lit 0)),.c (.raw (.string ByteArray.empty)),.c .nils,.c (.int .i64 (.lit 0)),.c (.int .i64 (.lit 0)),.c (.raw (.string ByteArray.empty)),.c .nils,.c .nils,.c .nils,.c .nils],none,some ([.int .i64,.str,.str,.int .i64,.int .i64,.str,.slice 75,.int .i64,.int .i64,.int .i64,.str,.slice 75,.int .i64,.int .i64,.str,.slice 75,.slice 80,.slice 80,.slice 141]),288⟩),
 (81,⟨.slice 124,1,none,[.c .nils],none,none,24⟩),
 (85,⟨.struct [(81,0),(3,1),(3,2),(3,3),(40,4)],5,some [.c,.c,.c,.c,.c],[.c .nils,.c (.int .i64 (.lit 0)),.c (.int .i64 (.lit 0)),.c (.int .i64 (.lit 0)),.c (.int .i64 (.lit 0))],none,none,56⟩),
 (87,⟨.slice 132,1,none,[.c .nils],none,none,24⟩),
 (92,⟨.struct [(87,0),(3,1),(3,2),(40,3),(3,4)],5,some [.c,.c,.c,.c,.c],[.c .nils,.c (.int .i64 (.lit 0)),.c (.int .i64 (.lit 0)),.c (.int .i64 (.lit 0)),.c (.int .i64 (.lit 0))],none,none,56⟩),
 (101,⟨.struct [(9,0),(3,1),(3,2),(9,3),(9,4),(32,5)],6,some [.c,.c,.c,.c,.c,.c],[.c (.raw (.string ByteArray.empty)),.c (.int .i64 (.lit 0)),.c (.int .i64 (.lit 0)),.c (.raw (.string ByteArray.empty)),.c (.raw (.string ByteArray.empty)),.c .nils],none,some ([.str,.int .i64,.int .i64,.str,.str,.slice 9]),88⟩),
 (104,⟨.slice 110,1,none,[.c .nils],none,none,24⟩),
 (106,⟨.struct [(9,0),(104,1)],2,some [.c,.c],[.c (.raw (.string ByteArray.empty)),.c .nils],none,some ([.str,.slice 110]),40⟩),
 (110,⟨.struct [(3,0),(9,1),(3,2)],3,some [.c,.c,.c],[.c (.int .i64 (.lit 0)),.c (.raw (.string ByteArray.empty)),.c (.int .i64 (.lit 0))],some [(.i .i64,1),(.s,1),(.i .i64,1)],some ([.int .i64,.str,.int .i64]),32⟩),
 (116,⟨.slice 28,1,none,[.c .nils],none,none,24⟩),
 (119,⟨.struct [(9,0),(9,1),(28,2)],3,some [.c,.c,.c],[.c (.raw (.string ByteArray.empty)),.c (.raw (.string ByteArray.empty)),.c .nils],none,some ([.str,.str,.slice 31]),56⟩),
 (124,⟨.struct [(3,0),(9,1),(3,2),(3,3)],4,some [.c,.c,.c,.c],[.c (.int .i64 (.lit 0)),.c (.raw (.string ByteArray.empty)),.c (.int .i64 (.lit 0)),.c (.int .i64 (.lit 0))],some [(.i .i64,1),(.s,1),(.i .i64,1),(.i .i64,1)],some ([.int .i64,.str,.int .i64,.int .i64]),40⟩),
 (132,⟨.struct [(3,0),(9,1),(3,2),(3,3)],4,some [.c,.c,.c,.c],[.c (.int .i64 (.lit 0)),.c (.raw (.string ByteArray.empty)),.c (.int .i64 (.lit 0)),.c (.int .i64 (.lit 0))],some [(.i .i64,1),(.s,1),(.i .i64,1),(.i .i64,1)],some ([.int .i64,.str,.int .i64,.int .i64]),40⟩),
 (141,⟨.struct [(9,0),(9,1),(70,2)],3,some [.c,.c,.c],[.c (.raw (.string ByteArray.empty)),.c (.raw (.string ByteArray.empty)),.c .nils],none,some ([.str,.str,.slice 80]),56⟩),
 (146,⟨.slice 5,1,none,[.c .nils],none,none,24⟩),
 (173,⟨.int .u32,1,none,[.c (.int .u32 (.lit 0))],none,none,4⟩)]
theorem tt_ok:aP Tryz.prog tt:=E5 rfl ⟨by kernel_rfl,trivial,by kernel_rfl,trivial,by kernel_rfl,trivial,by kernel_rfl,⟨by kernel_rfl,by kernel_rfl,by kernel_rfl⟩,by kernel_rfl,⟨by kernel_rfl,by kernel_rfl,by kernel_rfl⟩,by kernel_rfl,trivial,by kernel_rfl,trivial,by kernel_rfl,⟨by kernel_rfl,by kernel_rfl,by kernel_rfl⟩,by kernel_rfl,trivial,by kernel_rfl,trivial,by kernel_rfl,⟨by kernel_rfl,by kernel_rfl,by kernel_rfl⟩,by kernel_rfl,trivial,by kernel_rfl,⟨by kernel_rfl,by kernel_rfl,by kernel_rfl⟩,by kernel_rfl,trivial,by kernel_rfl,⟨by kernel_rfl,by kernel_rfl,by kernel_rfl⟩,by kernel_rfl,trivial,by kernel_rfl,trivial,by kernel_rfl,trivial,by kernel_rfl,trivial,by kernel_rfl,trivial,by kernel_rfl,trivial,by kernel_rfl,trivial,by kernel_rfl,trivial,by kernel_rfl,trivial,by kernel_rfl,⟨by kernel_rfl,by kernel_rfl,by kernel_rfl⟩,by kernel_rfl,trivial,by kernel_rfl,⟨by kernel_rfl,by kernel_rfl,by kernel_rfl⟩,by kernel_rfl,⟨by kernel_rfl,by kernel_rfl,by kernel_rfl⟩,by kernel_rfl,trivial,by kernel_rfl,⟨by kernel_rfl,by kernel_rfl,by kernel_rfl⟩,by kernel_rfl,trivial,by kernel_rfl,⟨by kernel_rfl,by kernel_rfl,by kernel_rfl⟩,by kernel_rfl,trivial,by kernel_rfl,trivial,by kernel_rfl,⟨by kernel_rfl,by kernel_rfl,by kernel_rfl⟩,by kernel_rfl,trivial,by kernel_rfl,trivial,by kernel_rfl,trivial,by kernel_rfl,trivial,by kernel_rfl,⟨by kernel_rfl,by kernel_rfl,by kernel_rfl⟩,by kernel_rfl,trivial,by kernel_rfl,⟨by kernel_rfl,by kernel_rfl,by kernel_rfl⟩,by kernel_rfl,⟨by kernel_rfl,by kernel_rfl,by kernel_rfl⟩,by kernel_rfl,trivial,by kernel_rfl,⟨by kernel_rfl,by kernel_rfl,by kernel_rfl⟩,by kernel_rfl,⟨by kernel_rfl,by kernel_rfl,by kernel_rfl⟩,by kernel_rfl,⟨by kernel_rfl,by kernel_rfl,by kernel_rfl⟩,by kernel_rfl,⟨by kernel_rfl,by kernel_rfl,by kernel_rfl⟩,by kernel_rfl,trivial,by kernel_rfl,trivial,trivial⟩
theorem kall:kt tt=true:=by kernel_rfl
theorem au:Tryz.prog.follows .mixedOrders=true:=by kernel_rfl
end Go.Proofs.YtbhbjhejkamlnaaGreat.Sx.Z
namespace Go.Proofs.YtbhbjhejkamlnaaGreat.Sx
open Go.RowKit
def FSpec.under (spec:FSpec) (μ:List Dat->Nat) (m:Nat):FSpec:=fun ds fr=>match spec ds fr with
 |some e=>some {e with vc:=(μ ds<m)::e.vc}
 |none=>none
theorem fY {P:Program} {f:FuncId} {aps:List AP} {spec:FSpec} (μ:List Dat->Nat) (hen:∀ (args:Array Value) (w:World),(callFunc f args).run P w = .ok (.enter f args) w) (H:∀ m,ConOK P f (con aps (spec.under μ m))->ConOK P f (con aps (spec.under μ (m+1)))):ConOK P f (con aps spec):=by
 have all:∀ m,ConOK P f (con aps (spec.under μ m)):=fun m=>by
  induction m with
  |zero=>
   refine ⟨hen,fun hp fr args e he hv=>?_,fun hp fr caps e h=>by rw[jj] at h;cases h⟩;exfalso;unfold con at he
   split at he
   ·rename_i ds ps hfl
    split at he
    ·rename_i e' hs;unfold FSpec.under at hs
     split at hs
     ·rename_i e2 h2;simp only[Option.some.injEq] at hs he;subst hs;subst he;exact Nat.not_lt_zero _ (all_append.1 hv).2.1
     ·cases hs
    ·cases he
   ·cases he
  |succ m ih=>exact H m ih
 refine ⟨hen,fun hp fr args e he hv=>?_,fun hp fr caps e h=>by rw[jj] at h;cases h⟩;have he0:=he;unfold con at he
 split at he
 ·rename_i ds ps hfl
  split at he
  ·rename_i e' hs;simp only[Option.some.injEq] at he;subst he;have hu:con aps (spec.under μ (μ ds+1)) hp fr args=some {e' with vc:=ps++(μ ds < μ ds+1)::e'.vc,st:=if bJ e' then [] else aL (aw hp (be hp args))}:=by
    unfold con;rw[hfl];show (match spec.under μ (μ ds+1) ds fr with |some e=>some {e with vc:=ps++e.vc,st:=if bJ e then [] else aL (aw hp (be hp args))} |none=>none)=_;unfold FSpec.under;rw[hs];rfl
   intro w0 w ρ vs hw hn ha;have ha2:=all_append.1 hv;exact ((all (μ ds+1)).calls hp fr args _ hu (all_append.2 ⟨ha2.1,Nat.lt_succ_self _,ha2.2⟩) w0 w ρ vs hw hn ha).mono fun en w' h=>by
    obtain ⟨ρ',v,h1,h2,h3⟩:=h;exact ⟨ρ',v,h1,h2,⟨h3.ext,h3.only,h3.below,h3.keep,h3.st,h3.nw,h3.apart,h3.fz⟩⟩
  ·cases he
 ·cases he
def SC.sh (n:Nat):SC->SC
 | .ptr id o=>.ptr (n+id) o
 | .slice id o l=>.slice (n+id) o l
 | .osl e id lo k=>.osl e (n+id) lo k
 | .optr e id i j=>.optr e (n+id) i j
 | .bm g id=>.bm g (n+id)
 |x=>x
def Seg.sh (n:Nat):Seg->Seg | .c x=>.c (x.sh n) | .ints k m f=>.ints k m f
def shS (n:Nat):List Seg->List Seg
 | []=>[]
 |s::r=>s.sh n::shS n r
def V1.sh (n:Nat):V1->V1 | .sc c=>.sc (c.sh n) | .agg l=>.agg (shS n l)
def shT (n:Nat):List V1->List V1
 | []=>[]
 |x::r=>x.sh n::shT n r
def SV.sh (n:Nat):SV->SV | .one x=>.one (x.sh n) | .tup l=>.tup (shT n l) |x=>x
def Ent.sh (n:Nat):Ent->Ent | .own T l=>.own T (shS n l) | .row T l=>.row T (shS n l) | .ro l=>.ro (shS n l) |x=>x
def shH (n:Nat):ah->ah
 | []=>[]
 |(i,x)::r=>(n+i,x.sh n)::shH n r
def Eff.sh (n:Nat) (e:Eff):Eff:={e with val:=e.val.sh n,nw:=shH n e.nw}
def Map.sh (ρ:Map) (n:Nat):Map:={ρ with m:=fun i=>if n<=i then ρ (i-n) else none,cap:=fun i=>ρ.cap (i-n)}
theorem dU (ρ:Map) (n i:Nat):(ρ.sh n) (n+i)=ρ i:=by
 show (if n<=n+i then ρ (n+i-n) else none)=ρ i;rw[if_pos (Nat.le_add_right n i),Nat.add_sub_cancel_left]
theorem eR (ρ:Map) (n i:Nat):(ρ.sh n).blk (n+i)=ρ.blk i:=by unfold Map.blk;rw[dU]
theorem mF (ρ:Map) (n i:Nat):(ρ.sh n).off (n+i)=ρ.off i:=by unfold Map.off;rw[dU]
theorem r9 (ρ:Map) (n i o:Nat):(ρ.sh n).at (n+i) o=ρ.at i o:=by unfold Map.at;rw[eR,mF]
theorem xU (ρ:Map) (n i:Nat):(ρ.sh n).cap (n+i)=ρ.cap i:=by show ρ.cap (n+i-n)=_;rw[Nat.add_sub_cancel_left]
theorem xV {ρ:Map} {n:Nat} {x:SC} {v:Value} (h:aJ ρ x v):aJ (ρ.sh n) (x.sh n) v:=by
 cases x with
 |ptr id o=>exact ⟨by rw[dU];exact h.1,by rw[r9];exact h.2⟩
 |slice id o l=>
  obtain ⟨A,c,h1,h2,h3⟩:=h;exact ⟨A,c,h1,h2,h3.imp (fun ⟨a,b⟩=>⟨by rw[dU];exact a,by rw[r9];exact b⟩) fun q=>q⟩
 |osl e id lo k=>
  obtain ⟨A,c,h1,h2,h3⟩:=h;exact ⟨A,c,h1,h2,h3.imp (fun q=>q) fun ⟨a,b,d⟩=>⟨by rw[eR];exact a,by rw[xU];exact b,by rw[dU];exact d⟩⟩
 |optr e id i j=>exact ⟨by rw[dU];exact h.1,by rw[eR];exact h.2⟩
 |bm g id=>exact ⟨by rw[dU];exact h.1,by rw[r9];exact h.2⟩
 |_=>exact h
theorem sa (n:Nat):∀ l:List Seg,cellsOf (shS n l)=(cellsOf l).map (SC.sh n)
 | []=>rfl
 | .c x::r=>by
   have e1:cellsOf (shS n (.c x::r))=(Seg.c (x.sh n)).cells++cellsOf (shS n r):=aM _ _;rw[e1,aM,sa n r,List.map_append];rfl
 | .ints k m f::r=>by
   have e1:cellsOf (shS n (.ints k m f::r))=(Seg.ints k m f).cells++cellsOf (shS n r):=aM _ _;rw[e1,aM,sa n r,List.map_append]
   congr 1
   simp [Seg.cells,SC.sh]
theorem oV {ρ:Map} {n:Nat} {l:List Seg} {vs:List Value} (h:ax ρ (cellsOf l) vs):ax (ρ.sh n) (cellsOf (shS n l)) vs:=by
 rw[sa];refine ⟨by rw[List.length_map];exact h.1,fun i x v hx hv=>?_⟩;rw[List.getElem?_map] at hx
 cases hl:(cellsOf l)[i]? with
 |none=>rw[hl] at hx;cases hx
 |some y=>
  rw[hl] at hx;obtain rfl:y.sh n=x:=by simpa using hx
  exact xV (h.2 i y v hl hv)
theorem xX {ρ:Map} {n:Nat} {x:V1} {v:Value} (h:bL ρ x v):bL (ρ.sh n) (x.sh n) v:=by
 cases x with
 |sc c=>exact xV h
 |agg l=>obtain ⟨cs,h1,h2⟩:=h;exact ⟨cs,h1,oV h2⟩
theorem xY {ρ:Map} {n:Nat}:∀ {l:List V1} {vs:List Value},dg ρ l vs->dg (ρ.sh n) (shT n l) vs
 | [],[],_=>trivial
 | [],_::_,h=>h.elim
 |_::_,[],h=>h.elim
 |_::_,_::_,h=>⟨xX h.1,xY h.2⟩
theorem sd {ρ:Map} {n:Nat} {x:SV} {v:Value} (h:UR ρ x v):UR (ρ.sh n) (x.sh n) v:=by
 cases x with
 |one x=>exact xX h
 |tup l=>obtain ⟨vs,h1,h2⟩:=h;exact ⟨vs,h1,xY h2⟩
 |cond g x=>exact h
 |junk=>exact h
theorem GW (n:Nat) (x:Ent):(x.sh n).isOwn=x.isOwn:=by cases x<;>rfl
theorem GX {B n id:Nat} {ρ:Map} {w:World} {x:Ent} (h:c8 B ρ w id x):c8 B (ρ.sh n) w (n+id) (x.sh n):=by
 cases x with
 |own T l=>
  obtain ⟨h1,h2,h3,vs,h4,h5⟩:=h;exact ⟨by rw[dU];exact h1,by rw[mF];exact h2,by rw[eR];exact h3,vs,oV h4,by rw[eR];exact h5⟩
 |row T l=>
  obtain ⟨h1,h2,h3,vs,rest,h4,h5⟩:=h;exact ⟨by rw[dU];exact h1,by rw[mF];exact h2,by rw[eR];exact h3,vs,rest,oV h4,by rw[eR];exact h5⟩
 |orow e d=>
  rcases h with ⟨h1,h2⟩ |⟨h1,h2,h3,h4⟩
  ·exact .inl ⟨by rw[dU];exact h1,h2⟩
  ·exact .inr ⟨by rw[dU];exact h1,by rw[mF];exact h2,by rw[eR];exact h3,by rw[eR,xU];exact h4⟩
 |ro l=>
  obtain ⟨h1,vs,h2,h3⟩:=h;exact ⟨by rw[dU];exact h1,vs,oV h2,by rw[eR,mF];exact h3⟩
 |gone=>trivial
theorem se (n:Nat):∀ (h:ah) (k:Nat),ad (shH n h) (n+k)=(ad h k).map (Ent.sh n)
 | [],_=>rfl
 |(i,x)::r,k=>by
  simp only[shH,ad]
  by_cases hk:i=k
  ·subst hk;simp
  ·have h1:¬ ((i==k)=true):=by simpa using hk
   have h2:¬ ((n+i==n+k)=true):=by simp;omega
   rw[if_neg h1,if_neg h2,se n r k]
theorem xZ (n:Nat):∀ (h:ah) (k:Nat),k<n->ad (shH n h) k=none
 | [],_,_=>rfl
 |(i,x)::r,k,hk=>by
  simp only[shH,ad];have h2:¬ ((n+i==k)=true):=by simp;omega
  rw[if_neg h2,xZ n r k hk]
theorem sf {n:Nat} {h:ah} {k:Nat} {x:Ent} (hx:ad (shH n h) k=some x):∃ j y,k=n+j/\ad h j=some y/\x=y.sh n:=by
 by_cases hk:k<n
 ·rw[xZ n h k hk] at hx;cases hx
 ·have e:k=n+(k-n):=by omega
  rw[e,se] at hx
  cases hl:ad h (k-n) with
  |none=>rw[hl] at hx;cases hx
  |some y=>rw[hl] at hx;exact ⟨k-n,y,e,hl,by simpa using hx.symm⟩
theorem si {w0:W0} {ρ:Map} {h:ah} {w:World} (n:Nat) (h0:w0.anc=none) (hw:WH w0 ρ h w):WH w0 (ρ.sh n) (shH n h) w:=by
 refine ⟨hw.below,fun id e he=>?_,fun i j e f he hf h1 h2 hne hi hj=>?_,hw.froz,hw.sub,hw.mu0,hw.f00,hw.old,fun p hp=>(by rw[h0] at hp;cases hp),hw.tab⟩
 ·obtain ⟨j,y,rfl,hl,rfl⟩:=sf he;exact GX (hw.ents j y hl)
 ·obtain ⟨i',y,rfl,hl,rfl⟩:=sf he;obtain ⟨j',z,rfl,hm,rfl⟩:=sf hf;rw[GW] at h1 h2;rw[dU] at hi hj;rw[eR,eR];exact hw.apart i' j' y z hl hm h1 h2 (by omega) hi hj
theorem GY {n:Nat} {h:ah} {id:Nat} (hi:nin id (aB h)=true):nin (n+id) (aB (shH n h))=true:=by
 rw[ce] at hi ⊢;rw[se]
 simpa using hi
theorem x9 {n:Nat} {h:ah} {x:SC} (hx:jk (aB h) x=true):jk (aB (shH n h)) (x.sh n)=true:=by
 cases x<;>first |exact GY hx |exact hx
theorem jp {n:Nat} {h:ah}:∀ {l:List Seg},dH (aB h) l=true->dH (aB (shH n h)) (shS n l)=true
 | [],_=>rfl
 | .c x::r,hx=>by
   simp only[dH,Bool.and_eq_true] at hx;show (jk (aB (shH n h)) (x.sh n)&&dH (aB (shH n h)) (shS n r))=true;rw[x9 hx.1,jp hx.2];rfl
 | .ints k m f::r,hx=>by
   simp only[dH] at hx;exact jp (l:=r) hx
theorem ya {n:Nat} {h:ah} {x:V1} (hx:ie (aB h) x=true):ie (aB (shH n h)) (x.sh n)=true:=by
 cases x with
 |sc c=>exact x9 hx
 |agg l=>exact jp hx
theorem yb {n:Nat} {h:ah}:∀ {l:List V1},l.all (ie (aB h))=true->(shT n l).all (ie (aB (shH n h)))=true
 | [],_=>rfl
 |x::r,hx=>by
  simp only[List.all_cons,Bool.and_eq_true] at hx;show ((x.sh n::shT n r).all _)=true;simp only[List.all_cons,Bool.and_eq_true];exact ⟨ya hx.1,yb hx.2⟩
theorem sj {n:Nat} {h:ah} {x:SV} (hx:mw (aB h) x=true):mw (aB (shH n h)) (x.sh n)=true:=by
 cases x with
 |one x=>exact ya hx
 |tup l=>exact yb hx
 |cond g x=>cases hx
 |junk=>cases hx
theorem ky {n:Nat} {g:ah}:∀ {h:ah},cR (aB g) 0 h=true->cR (aB (shH n g)) n (shH n h)=true
 | [],_=>rfl
 |(i,.own T l)::r,hx=>by
  simp only[cR,Bool.and_eq_true,Nat.ble_eq,Nat.blt_eq] at hx;show cR (aB (shH n g)) n ((n+i,.own T (shS n l))::shH n r)=true;simp only[cR,Bool.and_eq_true,Nat.ble_eq,Nat.blt_eq];exact ⟨⟨⟨by omega,by omega⟩,jp hx.1.2⟩,ky hx.2⟩
 |(i,.row T l)::r,hx=>by
  simp only[cR,Bool.and_eq_true,Nat.ble_eq,Nat.blt_eq] at hx;show cR (aB (shH n g)) n ((n+i,.row T (shS n l))::shH n r)=true;simp only[cR,Bool.and_eq_true,Nat.ble_eq,Nat.blt_eq];exact ⟨⟨⟨by omega,by omega⟩,jp hx.1.2⟩,ky hx.2⟩
 |(i,.orow e d)::r,hx=>by
  simp only[cR,Bool.and_eq_true,Nat.ble_eq,Nat.blt_eq] at hx;show cR (aB (shH n g)) n ((n+i,.orow e d)::shH n r)=true;simp only[cR,Bool.and_eq_true,Nat.ble_eq,Nat.blt_eq];exact ⟨⟨by omega,by omega⟩,ky hx.2⟩
 |(i,.ro l)::r,hx=>by cases hx
 |(i,.gone)::r,hx=>by cases hx
def bM (aps:List AP) (spec:List Dat->Option Eff):Con:=con aps fun ds fr=>match spec ds with
 |some e=>some (e.sh fr)
 |none=>none
theorem GZ {P:Program} {tt:TT} (htt:aP P tt) (hm:P.follows .mixedOrders=true) {f:FuncId} {fn:Func} {c:Code} (hf:P.funcs[f]? = some fn) (hb:fn.body=some c) (hen:∀ (args:Array Value) (w:World),(callFunc f args).run P w = .ok (.enter f args) w)
 {A:List Dat->Ann} (hC:∀ ds id,cZ P ((A ds).C id)) {aps:List AP} {spec:List Dat->Option Eff} (hn:Nat.ble aps.length fn.ntmps=true)
 (H:∀ ds e svs h id,spec ds=some e->All e.vc->unP aps ds 0=some (svs,h,id)->sx tt fn.ntmps (A ds) LF c (jl tt fn.results.toList e 0) {tm:=fo svs 0,hp:=h,nx:=id}):ConOK P f (bM aps spec):=by
 refine ⟨hen,?_,fun hp fr caps e h=>by unfold bM at h;rw[jj] at h;cases h⟩;intro hp fr args e0 h0 hvc w0 w ρ vs hw hfr hargs;unfold bM con at h0
 split at h0
 ·rename_i ds ps hds
  split at h0
  ·rename_i e he0;have hes:∃ e1,spec ds=some e1/\e=e1.sh fr:=by
    dsimp only at he0
    split at he0
    ·rename_i e1 h1;exact ⟨e1,h1,by simpa using he0.symm⟩
    ·cases he0
   obtain ⟨e1,he,rfl⟩:=hes;obtain rfl:=by simpa using h0
   obtain ⟨hp1,hp2⟩:=all_append.1 hvc;have hidsAll:∀ i∈be hp args,bE hp i=true->i∈aw hp (be hp args):=fun i hi ho=>cE.2 ⟨hi,ho⟩
   obtain ⟨svs,h,ρ1,id,hun,_,hin,hrel⟩:=gC hw aps args ds ps hds hp1 vs hargs hidsAll 0;have hsx:=H ds e1 svs h id he hp2 hun;have hlen:vs.length<=fn.ntmps:=by
    have h1:=jm aps ds 0 svs h id hun;have h2:=mC hrel;have:=Nat.le_of_ble_eq_true hn;omega
   have hsz:(vs.toArray++Array.replicate (fn.ntmps-vs.toArray.size) undef).size=fn.ntmps:=by simp;omega
   have hwh:WH ⟨w,bp ρ w (aw hp (be hp args)),fun _=>false,none⟩ ρ1 h w:=by
    refine ⟨BelowM.refl _ _ _,fun i x hx=>(hin.ents i x hx).1 _ _,fun i j x y hx _ ho=>?_,fun b cs hb=>?_,fun b cs hb=>?_,hin.hmu,hin.hf0,fun b cs hb=>.inl ?_,fun _ h=>(by cases h),hw.tabP _⟩
    ·have:=(hin.ents i x hx).2.1;rw[this] at ho;cases ho
    ·rw[hin.hfz] at hb;exact qY hw.froz hb
    ·rw[hin.hf0] at hb;rw[hin.hfz];exact hb
    ·rw[hin.hfz] at hb;rw[hin.hf0];exact hb
   refine calls_of_wp hf hb ?_
   refine oF htt hm (hC ds) (w0:=⟨w,bp ρ w (aw hp (be hp args)),fun _=>false,none⟩) (xK rfl) c _ _ hsx _ ?_ ρ1 _ w ⟨⟨hsz,rfl,?_⟩,hwh,fun i hi=>hin.out i (.inr hi)⟩
   ·intro ex xx s' ρ' a w' hex hk hs';have done:jl tt fn.results.toList e1 0 .ret s'->a.defers=[]/\∃ v,(results fn a.tmps).run P w' = .ok v w'/\∃ ρ'' u,Ending.returned v = .returned u/\UR ρ'' (e1.sh fr).val u/\Fr w0.heap.size ρ ρ'' w w' {e1.sh fr with vc:=ps++(e1.sh fr).vc,st:=if bJ (e1.sh fr) then [] else aL (aw hp (be hp args))}:=by
     intro hk;simp only[jl] at hk
     split at hk
     ·rename_i v qs hres;rw[ey] at hk;obtain ⟨hq,hk⟩:=hk;generalize hfrz:dv s'.hp v e1.val=fz3 at hk;obtain ⟨v',fs,ids⟩:=fz3;dsimp only at hk;rw[ey] at hk;obtain ⟨hfs,hk⟩:=hk
      split at hk
      rename_i la lb hla hlb
      split at hk
      rename_i hok;obtain ⟨hk1,hk2⟩:=all_append.1 (kj hk);obtain ⟨u,hu1,hu2⟩:=oS htt hs' hres hq;have hu2':=mz hs'.mem hfrz hfs (fun i hi ho=>cE.2 ⟨hi,ho⟩) hu2;have hfr0:=cF (B:=w.heap.size) hs'.mem.froz (aw s'.hp ids) .junk [];have hmem':WH ⟨w,bp ρ w (aw hp (be hp args)),fun _=>false,none⟩ (ρ'.frz w' (aw s'.hp ids)) (aL (aw s'.hp ids)++s'.hp) w':=by
       have:=gZ hs'.mem hfr0 (fun i x hx=>lX i x hx) (fun _ _ h=>by simp [ad] at h);exact this
      have hs2:SH ⟨w,bp ρ w (aw hp (be hp args)),fun _=>false,none⟩ 0 {tm:=[],hp:=aL (aw s'.hp ids)++s'.hp,nx:=s'.nx} (ρ'.frz w' (aw s'.hp ids)) {a with tmps:=#[]} w':=⟨⟨rfl,hs'.slots.defers,fun t x hx=>by simp [ad] at hx⟩,hmem',hs'.fresh⟩;generalize hρ3:ρ'.frz w' (aw s'.hp ids)=ρ3 at hu2' hmem' hs2;have hle:=mq hla hk1;have hhe:=jg hlb hk2;generalize eQ (aL (aw s'.hp ids)++s'.hp) e1.nw (mSV v' e1.val)=δ at *;unfold rR at hok;simp only[Bool.and_eq_true] at hok;obtain ⟨⟨hinj,hnew⟩,hsv⟩:=hok;have hnj:e1.val ≠ .junk:=fun hj=>by rw[hj] at hsv;cases hsv
      have hu3:=ov hle hu2' hnj;have hw2:=(ki (δ:=δ) (t:={tm:=[],hp:=e1.nw,nx:=0+8}) ⟨trivial,hhe,hinj⟩ (fun h=>by cases h) hs2).mem;have hB:w0.heap.size<=w.heap.size:=hw.below.size;generalize hρr:ρ3.ren δ (0+8)=ρr at hu3 hw2;have hmu:ρr.mu=fun _=>false:=by rw[<- hρr,<- hρ3];exact hs'.mem.mu0
      have hf0:ρr.f0=bp ρ w (aw hp (be hp args)):=by rw[<- hρr,<- hρ3];exact hs'.mem.f00
      replace hu3:=sd (n:=fr) hu3
      replace hw2:=si fr rfl hw2
      replace hnew:=ky (n:=fr) hnew
      replace hsv:=sj (n:=fr) hsv
      replace hmu:(ρr.sh fr).mu=fun _=>false:=hmu
      replace hf0:(ρr.sh fr).f0=bp ρ w (aw hp (be hp args)):=hf0
      clear hρr hinj hnj hle hhe;generalize ρr.sh fr=ρr at *;generalize hE:e1.sh fr=e at *;have hEn:shH fr e1.nw=e.nw:=by rw[<- hE];rfl
      have hEv:e1.val.sh fr=e.val:=by rw[<- hE];rfl
      dsimp only at hw2;rw[hEn] at hw2 hnew hsv;rw[hEv] at hu3 hsv
      let ρ2:Map:={m:=fun i=>if nin i (aB e.nw) then ρr i else ρ i,cap:=fun i=>if nin i (aB e.nw) then ρr.cap i else ρ.cap i,fz:=if bJ e then ρ.fz else ρr.fz,f0:=ρ.f0,mu:=ρ.mu}
      have ag:∀ i,nin i (aB e.nw)=true -> ρ2 i=ρr i /\ ρ2.cap i=ρr.cap i:=fun i hi=>⟨by simp only[ρ2];rw[if_pos hi],by simp only[ρ2];rw[if_pos hi]⟩
      have off:∀ i,nin i (aB e.nw)=false -> ρ2 i=ρ i:=fun i hi=>by simp only[ρ2];rw[if_neg (by rw[hi];simp)]
      have oldKey:∀ i,(ρ i).isSome=true->nin i (aB e.nw)=false:=fun i hi=>by
       cases hn:nin i (aB e.nw) with
       |false=>rfl
       |true=>
        obtain ⟨x,hx⟩:=Option.isSome_iff_exists.1 (ce.1 hn);rw[hfr i x hx] at hi;cases hi
      have fzle:FzLe ρ.fz ρr.fz:=fun b cs hb=>hw2.sub b cs (by rw[hf0];exact eI _ _ _ b cs hb)
      have ownNew:∀ i x,ad e.nw i=some x->(ρr i).isSome=true->w.heap.size<=ρr.blk i /\ ρr.fz (ρr.blk i)=none:=fun i x hx hi=>by
       obtain ⟨ho,_⟩:=cJ hnew i x hx;obtain ⟨hM,_⟩:=fh (hw2.ents i x hx) ho hi;refine ⟨?_,hM.2⟩
       rcases hM.1 with h |h
       ·exact h
       ·rw[hmu] at h;cases h
      have blk2:∀ i,nin i (aB e.nw)=true -> ρ2.blk i=ρr.blk i:=fun i hi=>by simp [Map.blk,(ag i hi).1]
      have hzz:ρ2.fz=ρr.fz ∨ bJ e=true:=by
       cases hpl:bJ e with
       |true=>exact .inr rfl
       |false=>left;simp only[ρ2,hpl];rfl
      refine ⟨hs'.slots.defers,u,hu1,ρ2,u,rfl,oO ag (hzz.imp (fun h=>h) fun h=>by unfold bJ at h;exact (Bool.and_eq_true _ _ ▸ h).1) hsv hu3,?_⟩;refine ⟨⟨fun i p hi=>?_,fun i hi=>?_,?_,rfl,rfl⟩,fun i hi=>?_,⟨hs'.mem.below.os,hs'.mem.below.tape,hs'.mem.below.output,hs'.mem.below.size,fun k hk=>absurd hk (Nat.not_lt_zero k)⟩,fun b hb' _=>hs'.mem.below.block b hb' (by rw[hs'.mem.mu0]),fun i x hx=>?_,fun i x hx=>?_,fun i j x y hx hy hne hii hjj=>?_,fun b cs hb=>?_⟩
      ·rw[off i (oldKey i (by rw[hi];rfl))];exact hi
      ·have:=oldKey i hi;simp only[ρ2];rw[if_neg (by rw[this];simp)]
      ·simp only[ρ2];split
       ·exact fun _ _ h=>h
       ·exact fzle
      ·have hi':ad e.nw i=none:=hi;refine off i ?_
       cases hn:nin i (aB e.nw) with
       |false=>rfl
       |true=>rw[ce,hi'] at hn;cases hn
      ·have hx':ad (if bJ e then [] else aL (aw hp (be hp args))) i=some x:=hx
       split at hx'
       ·simp [ad] at hx'
       ·rw[(c7 hx').1];trivial
      ·have hx':ad e.nw i=some x:=hx;obtain ⟨ho,_,_,hni⟩:=cJ hnew i x hx';have hki:nin i (aB e.nw)=true:=ce.2 (by rw[hx'];rfl);refine ⟨oP ag hki (hzz.imp (fun h=>h) fun h=>by unfold bJ at h;exact my (Bool.and_eq_true _ _ ▸ h).2 i x hx') hni (fun hi=>?_) (hw2.ents i x hx'),fun hi=>.inl ?_,ho⟩
       ·obtain ⟨g1,g2⟩:=ownNew i x hx' hi;refine ⟨.inl (by omega),?_⟩;simp only[ρ2];split
        ·exact hw.froz.new g1
        ·exact g2
       ·rw[blk2 i hki];exact (ownNew i x hx' (by rw[<- (ag i hki).1];exact hi)).1
      ·have hx':ad e.nw i=some x:=hx;have hy':ad e.nw j=some y:=hy;have hki:nin i (aB e.nw)=true:=ce.2 (by rw[hx'];rfl);have hkj:nin j (aB e.nw)=true:=ce.2 (by rw[hy'];rfl);rw[blk2 i hki,blk2 j hkj];exact hw2.apart i j x y hx' hy' (cJ hnew i x hx').1 (cJ hnew j y hy').1 hne (by rw[<- (ag i hki).1];exact hii) (by rw[<- (ag j hkj).1];exact hjj)
      ·cases hpl:bJ e with
       |true=>
        left
        have:ρ2.fz b=some cs:=hb;simp only[ρ2,hpl] at this;exact this
       |false=>
        have hb2:ρr.fz b=some cs:=by
         have:ρ2.fz b=some cs:=hb;simp only[ρ2,hpl] at this;exact this
        have hnw:∀ i x,ad e.nw i=some x->(ρ2 i).isSome=true -> ρ2.blk i≠b:=fun i x hx hi hbb=>by
         have hki:nin i (aB e.nw)=true:=ce.2 (by rw[hx];rfl);obtain ⟨_,g2⟩:=ownNew i x hx (by rw[<- (ag i hki).1];exact hi);rw[<- blk2 i hki,hbb,hb2] at g2;cases g2
        rcases hw2.old b cs hb2 with h1 |h1 |h1
        ·rw[hf0] at h1
         rcases g8 h1 with h2 |⟨⟨i,hi,hsi,hbi⟩,_⟩
         ·exact .inl h2
         ·exact .inr ⟨.inr ⟨i,by simp only[Bool.false_eq_true,↓reduceIte];exact g9 hi,hsi,hbi.symm⟩,hw2.froz b cs hb2,hnw⟩
        ·exact .inr ⟨.inl h1,hw2.froz b cs hb2,hnw⟩
        ·rw[hmu] at h1;cases h1
      ·exact hk.elim
      ·exact hk.elim
     ·exact hk.elim
    cases ex with
    |normal=>simp only[cd,Option.some.injEq] at hex;subst hex;exact done hk
    |ret=>simp only[cd,Option.some.injEq] at hex;subst hex;exact done hk
    |exit i=>simp only[cd,Option.some.injEq] at hex;subst hex;exact hk.elim
    |goto l=>cases hex
    |panic ch=>cases hex
    |outgrown=>cases hex
   ·intro t x hx;obtain ⟨_,h2⟩:=mA svs 0 t x hx;obtain ⟨v,hv,hr⟩:=mB hrel (by simpa using h2);have hlt:=br hv;have:(vs.toArray++Array.replicate (fn.ntmps-vs.toArray.size) undef).getD t undef=v:=by
     simp only[Array.getD_eq_getD_getElem?];rw[Array.getElem?_append_left (by simpa using hlt)];simp [hv]
    rw[this];exact lZ hr
  ·cases h0
 ·cases h0
theorem jq {P:Program} {tt:TT} (htt:aP P tt) (hm:P.follows .mixedOrders=true) {f:FuncId} {fn:Func} {c:Code} (hf:P.funcs[f]? = some fn) (hb:fn.body=some c) (hen:∀ (args:Array Value) (w:World),(callFunc f args).run P w = .ok (.enter f args) w)
 {A:List Dat->Ann} (hC:∀ ds id,cZ P ((A ds).C id)) {aps:List AP} {spec:List Dat->Option Eff} (hn:Nat.ble aps.length fn.ntmps=true)
 (H:∀ ds,Ob tt fn.ntmps (A ds) c fn.results.toList 0 (spec ds) (unP aps ds 0)):ConOK P f (bM aps spec):=
 GZ htt hm hf hb hen hC hn fun ds e svs h id he hvc hun=>by
  have:=H ds;rw[he,hun] at this;exact mo.1 this hvc
end Go.Proofs.YtbhbjhejkamlnaaGreat.Sx
