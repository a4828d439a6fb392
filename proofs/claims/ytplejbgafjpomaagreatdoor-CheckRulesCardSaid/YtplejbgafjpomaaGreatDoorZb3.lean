import Derived.Laws.StructEq
import Derived.Test.YtplejbgafjpomaaGreatDoorZb2
set_option linter.unusedVariables false
set_option linter.unusedSimpArgs false
namespace Go.Proofs.YtplejbgafjpomaaGreatDoor.Sx
open Go.RowKit
def UR (ρ:Map):SV->Value->Prop
 | .one x,v=>V1Rel ρ x v
 | .tup l,v=>∃ vs:Array Value,v = .tuple vs/\TupRel ρ l vs.toList
 | .cond _ _,_=>False
 | .junk,_=>False
def EvOK (ρ:Map) (E:Operand->Value) (ev:Operand->Option SV):Prop:=∀ x sv,ev x=some sv->UR ρ sv (E x)
def kEq:IntKind->IntKind->Bool
 | .i8,.i8 | .i16,.i16 | .i32,.i32 | .i64,.i64 | .u8,.u8 | .u16,.u16 | .u32,.u32 | .u64,.u64=>true
 |_,_=>false
theorem kEq_eq {a b:IntKind} (h:kEq a b=true):a=b:=by cases a<;>cases b<;>first |rfl |cases h
def mk2 (x y:SI) (r:Int):SI:=match x,y with | .lit _,.lit _=>.lit r |_,_=>.sym r
theorem mk2_v (x y:SI) (r:Int):(mk2 x y r).v=r:=by cases x<;>cases y<;>rfl
def mkb (x y:SI) (r:Bool):SB:=match x,y with | .lit _,.lit _=>.lit r |_,_=>.sym r
theorem mkb_v (x y:SI) (r:Bool):(mkb x y r).v=r:=by cases x<;>cases y<;>rfl
def nz (y:SI):Option (List Prop):=match y with | .lit m=>if decide (m=0) then none else some [] | .sym m=>some [m≠0]
theorem nz_spec {y:SI} {ps:List Prop} (h:nz y=some ps) (hp:All ps):y.v≠0:=by
 cases y with
 |lit m=>
  simp only [nz] at h
  split at h
  ·cases h
  ·rename_i hm;simpa [SI.v] using hm
 |sym m=>
  simp only [nz,Option.some.injEq] at h;subst h;exact hp.1
def bits2 (f:(k:IntKind)->BitVec k.bits->BitVec k.bits->BitVec k.bits) (k:IntKind) (x y:Int):Int:=k.wrap (f k (BitVec.ofInt k.bits x) (BitVec.ofInt k.bits y)).toNat
def nneg (y:SI):Option (List Prop):=match y with | .lit m=>if decide (m<0) then none else some [] | .sym m=>some [¬ m<0]
theorem nneg_spec {y:SI} {ps:List Prop} (h:nneg y=some ps) (hp:All ps):¬ y.v<0:=by
 cases y with
 |lit m=>
  simp only [nneg] at h
  split at h
  ·cases h
  ·rename_i hm;simpa [SI.v] using hm
 |sym m=>
  simp only [nneg,Option.some.injEq] at h;subst h;exact hp.1
def bin (op:BinOp) (k:IntKind) (x:SI) (k':IntKind) (y:SI):Option (SC × List Prop):=
 match op with
 | .shl=>match nneg y with |some ps=>some (.int k (mk2 x y (k.wrap (x.v*2 ^ (min y.v.toNat k.bits)))),ps) |none=>none
 | .shr=>match nneg y with |some ps=>some (.int k (mk2 x y (x.v.fdiv (2 ^ (min y.v.toNat k.bits)))),ps) |none=>none
 |op=>if kEq k k' then match op with
  | .add=>some (.int k (mk2 x y (k.wrap (x.v+y.v))),[])
  | .sub=>some (.int k (mk2 x y (k.wrap (x.v-y.v))),[])
  | .mul=>some (.int k (mk2 x y (k.wrap (x.v*y.v))),[])
  | .quo=>match nz y with |some ps=>some (.int k (mk2 x y (k.wrap (x.v.tdiv y.v))),ps) |none=>none
  | .rem=>match nz y with |some ps=>some (.int k (mk2 x y (x.v.tmod y.v)),ps) |none=>none
  | .and=>some (.int k (mk2 x y (bits2 (fun _ a b=>a &&& b) k x.v y.v)),[])
  | .or=>some (.int k (mk2 x y (bits2 (fun _ a b=>a |||b) k x.v y.v)),[])
  | .xor=>some (.int k (mk2 x y (bits2 (fun _ a b=>a ^^^ b) k x.v y.v)),[])
  | .andNot=>some (.int k (mk2 x y (bits2 (fun _ a b=>a &&& ~~~b) k x.v y.v)),[])
  | .eql=>some (.bool (mkb x y (x.v==y.v)),[])
  | .neq=>some (.bool (mkb x y (x.v != y.v)),[])
  | .lss=>some (.bool (mkb x y (decide (x.v<y.v))),[])
  | .leq=>some (.bool (mkb x y (decide (x.v<=y.v))),[])
  | .gtr=>some (.bool (mkb x y (decide (x.v>y.v))),[])
  | .geq=>some (.bool (mkb x y (decide (x.v>=y.v))),[])
  |_=>none
  else none
theorem bin_spec {P:Program} {op:BinOp} {k k':IntKind} {x y:SI} {r:SC} {ps:List Prop} (h:bin op k x k' y=some (r,ps)) (hp:All ps) (T:TypeId) (w:World) (ρ:Map) :
 ∃ v,(binOp op T (.int k x.v) (.int k' y.v)).run P w = .ok v w/\CRel ρ r v:=by
 cases op<;>simp only [bin] at h<;>first
  |cases h
  |(split at h
    ·rename_i qs hq;obtain ⟨rfl,rfl⟩:=by simpa using h
     have:=nneg_spec hq hp;refine ⟨_,?_,rfl⟩;simp [binOp,Op.shift,this,mk2_v]
    ·cases h)
  |(by_cases hh:kEq k k'=true
    ·rw [if_pos hh] at h;have:=kEq_eq hh;subst this
     first
     |(obtain ⟨rfl,rfl⟩:=by simpa using h
       refine ⟨_,?_,rfl⟩;simp [binOp,Op.intArith,Op.intCmp,Op.intBits,bits2,mk2_v,mkb_v]
       done)
     |(split at h
       ·rename_i qs hq;obtain ⟨rfl,rfl⟩:=by simpa using h
        have:=nz_spec hq hp;refine ⟨_,?_,rfl⟩;simp [binOp,Op.intDiv,this,mk2_v]
       ·cases h)
    ·rw [if_neg hh] at h
     cases h)
def binB (op:BinOp) (x y:SB):Option SC:=match op with
 | .eql=>some (.bool (match x,y with | .lit a,.lit b=>.lit (a==b) |_,_=>.sym (x.v==y.v)))
 | .neq=>some (.bool (match x,y with | .lit a,.lit b=>.lit (!(a==b)) |_,_=>.sym (!(x.v==y.v))))
 |_=>none
theorem equalIn_bool {P:Program} {T:TypeId} (hT:P.underlying T=some .bool) (d:Nat) (a b:Bool) (w:World):(Op.equalIn (d+1) T (.bool a) (.bool b)).run P w = .ok (a==b) w:=by
 simp only [Op.equalIn,Sem.run_bind,run_underlying hT,Result.andThen_ok,Sem.run_pure]
theorem binB_spec {P:Program} {op:BinOp} {x y:SB} {r:SC} (h:binB op x y=some r) {T:TypeId} (hT:P.underlying T=some .bool) (w:World) (ρ:Map) :
 ∃ v,(binOp op T (.bool x.v) (.bool y.v)).run P w = .ok v w/\CRel ρ r v:=by
 cases op<;>simp only [binB,Option.some.injEq] at h<;>first |(cases h;done) |skip
 all_goals
  subst h;refine ⟨_,?_,rfl⟩;simp only [binOp,Sem.run_bind,Op.equal];rw [show Op.maxDepth=9999+1 from rfl,equalIn_bool hT];simp only [Result.andThen_ok,Sem.run_pure]
  congr 2
  cases x<;>cases y<;>rfl
def binS (op:BinOp) (x y:ByteArray):Option (SC × List Prop):=match op with
 | .eql=>some (.bool (.sym (x.toList==y.toList)),[])
 | .neq=>some (.bool (.sym (!(x.toList==y.toList))),[])
 | .add=>some (.raw (.string (x++y)),[((x.size+y.size:Nat):Int)<=IntKind.i64.max])
 |_=>none
theorem binS_spec {P:Program} {op:BinOp} {x y:ByteArray} {r:SC} {ps:List Prop} (h:binS op x y=some (r,ps)) (hp:All ps) (T:TypeId) (w:World) (ρ:Map) :
 ∃ v,(binOp op T (.string x) (.string y)).run P w = .ok v w/\CRel ρ r v:=by
 cases op<;>simp only [binS,Option.some.injEq,Prod.mk.injEq] at h<;>first |(cases h;done) |skip
 all_goals
  obtain ⟨rfl,rfl⟩:=h;refine ⟨_,?_,rfl⟩
  first
  |rfl
  |(simp only [binOp,Op.stringOp]
    rw [Sem.run_ite,if_neg (by have:=hp.1;omega)]
    rfl)
theorem eqGuard_none {P:Program} {op:BinOp} {T:TypeId} {x y:Operand} {a b:Value} (w:World) (ha:∀ l,a ≠ .agg l) (hn:a ≠ .nilIface):(eqGuard op T x y a b).run P w = .ok () w:=by
 unfold eqGuard
 cases a<;>first |exact absurd rfl hn |exact absurd rfl (ha _) |(split<;>rfl) |(cases b<;>(split<;>rfl))
def pvD:SC->Value | .int k n=>.int k n.v | .bool b=>.bool b.v | .raw (.string x)=>.string x |_=>undef
def pureC:SC->Bool | .int ..=>true | .bool _=>true | .raw (.string _)=>true |_=>false
theorem csrel_pure {ρ:Map} {l:List SC} {vs:List Value} (hp:∀ x∈l,pureC x=true) (h:CsRel ρ l vs):vs=l.map pvD:=by
 apply List.ext_getElem?
 intro i;rw [List.getElem?_map]
 cases hx:l[i]? with
 |none=>
  have:=h.1;rw [List.getElem?_eq_none_iff] at hx;simp only [Option.map_none];exact List.getElem?_eq_none_iff.2 (by omega)
 |some x=>
  have hi:i<l.length:=(List.getElem?_eq_some_iff.1 hx).1;have hv:vs[i]? = some (vs[i]'(by have:=h.1;omega)):=List.getElem?_eq_getElem _;have hr:=h.2 i x _ hx hv;rw [hv];have hpx:=hp x (List.mem_of_getElem? hx)
  cases x with
  |int k n=>simpa [CRel,pvD] using hr
  |bool b=>simpa [CRel,pvD] using hr
  |raw v=>
   cases v with
   |string x=>simpa [CRel,pvD] using hr
   |_=>cases hpx
  |_=>cases hpx
def fitL:List CK->List SC->Bool
 | [],[]=>true
 | .b::r,.bool _::s=>fitL r s
 | .i k::r,.int k' _::s=>kEq k k'&&fitL r s
 | .s::r,.raw (.string _)::s=>fitL r s
 |_,_=>false
theorem fitL_spec:∀ {ks:List CK} {l:List SC},fitL ks l=true->(∀ x∈l,pureC x=true)/\Fit ks (l.map pvD):=by
 intro ks
 induction ks with
 |nil=>
  intro l h
  cases l with
  |nil=>exact ⟨by simp,trivial⟩
  |cons x l=>simp [fitL] at h
 |cons c ks ih=>
  intro l h;unfold fitL at h
  split at h
  ·rename_i he;cases he
  ·rename_i r b s he
   cases he;obtain ⟨h1,h2⟩:=ih h
   exact ⟨fun x hx=>by rcases List.mem_cons.1 hx with rfl |hx;exact rfl;exact h1 x hx,⟨_,rfl⟩,h2⟩
  ·rename_i k r k' n s he
   cases he;rw [Bool.and_eq_true] at h
   obtain ⟨h1,h2⟩:=ih h.2;obtain rfl:=kEq_eq h.1;exact ⟨fun x hx=>by rcases List.mem_cons.1 hx with rfl |hx;exact rfl;exact h1 x hx,⟨_,rfl⟩,h2⟩
  ·rename_i r b s he
   cases he;obtain ⟨h1,h2⟩:=ih h
   exact ⟨fun x hx=>by rcases List.mem_cons.1 hx with rfl |hx;exact rfl;exact h1 x hx,⟨_,rfl⟩,h2⟩
  ·cases h
def eqF (n:Nat) (f g:Nat->Int):Bool:=decide (∀ o,o<n->f o=g o)
def seqB:List Seg->List Seg->Option Bool
 | [],[]=>some true
 | .c (.int _ n)::r,.c (.int _ m)::s=>(match seqB r s with |some b=>some ((n.v==m.v)&&b) |none=>none)
 | .c (.bool x)::r,.c (.bool y)::s=>(match seqB r s with |some b=>some ((x.v==y.v)&&b) |none=>none)
 | .c (.raw (.string x))::r,.c (.raw (.string y))::s=>(match seqB r s with |some b=>some ((x.toList==y.toList)&&b) |none=>none)
 | .ints _ (.lit n) f::r,.ints _ (.lit m) g::s=>if Nat.beq n m then (match seqB r s with |some b=>some (eqF n f g&&b) |none=>none) else none
 |_,_=>none
theorem fit_app {ks:List CK} {a b:List Value} (h:Fit ks (a++b)):Fit (ks.take a.length) a/\Fit (ks.drop a.length) b:=by
 induction a generalizing ks with
 |nil=>exact ⟨by simp [Fit],by simpa using h⟩
 |cons v a ih=>
  cases ks with
  |nil=>exact h.elim
  |cons c ks=>
   obtain ⟨h1,h2⟩:=ih (ks:=ks) h.2;exact ⟨⟨h.1,h1⟩,h2⟩
theorem ints_eq {ks:List CK} {k k':IntKind} {n:Nat} {f g:Nat->Int} (h1:Fit ks (((Seg.ints k (.lit n) f).cells).map pvD)) (h2:Fit ks (((Seg.ints k' (.lit n) g).cells).map pvD)):(∀ o,o<n->f o=g o)↔((Seg.ints k (.lit n) f).cells).map pvD=((Seg.ints k' (.lit n) g).cells).map pvD:=by
 simp only [Seg.cells,SN.lv,List.map_map] at h1 h2 ⊢;constructor
 ·intro h
  apply List.map_congr_left
  intro o ho;have ho:=List.mem_range.1 ho
  cases ks with
  |nil=>
   have:=h1.len;simp at this;omega
  |cons c ks=>
   cases n with
   |zero=>omega
   |succ n=>
    have e1:=h1;have e2:=h2;rw [List.range_succ_eq_map,List.map_cons] at e1 e2;have hc1:=e1.1;have hc2:=e2.1;have hk:k=k':=by
     cases c with
     |b=>obtain ⟨_,hh⟩:=hc1;cases hh
     |s=>obtain ⟨_,hh⟩:=hc1;cases hh
     |i q=>
      obtain ⟨_,hh⟩:=hc1;obtain ⟨_,hh2⟩:=hc2;simp only [Function.comp,pvD,Value.int.injEq] at hh hh2;rw [hh.1,hh2.1]
    simp [pvD,hk,h o ho,SI.sv]
 ·intro h o ho;have:=congrArg (fun l=>l[o]?) h;simp only [List.getElem?_map,List.getElem?_range ho,Option.map_some,Function.comp,pvD,Option.some.injEq,Value.int.injEq,SI.sv] at this;exact this.2
theorem seqB_spec:∀ {a b:List Seg} {r:Bool} {ks:List CK},seqB a b=some r->Fit ks ((cellsOf a).map pvD)->Fit ks ((cellsOf b).map pvD)->(r=true↔(cellsOf a).map pvD=(cellsOf b).map pvD):=by
 intro a
 induction a with
 |nil=>
  intro b r ks h f1 f2
  cases b with
  |nil=>simp only [seqB,Option.some.injEq] at h;subst h;simp
  |cons y b=>simp [seqB] at h
 |cons x a ih=>
  intro b r ks h f1 f2;unfold seqB at h
  split at h
  ·exact absurd (by assumption:x::a=[]) (by simp)
  ·rename_i ka n ra kb m sb he;obtain ⟨rfl,rfl⟩:=by simpa using he
   split at h
   ·rename_i q hq;obtain rfl:=by simpa using h
    cases ks with
    |nil=>exact (show False from f1).elim
    |cons c ks=>
     have:=ih hq f1.2 f2.2;have hk:ka=kb:=by
      cases c with
      |b=>obtain ⟨_,hh⟩:=f1.1;cases hh
      |s=>obtain ⟨_,hh⟩:=f1.1;cases hh
      |i q=>
       obtain ⟨_,hh⟩:=f1.1;obtain ⟨_,hh2⟩:=f2.1;simp only [pvD,Value.int.injEq] at hh hh2;rw [hh.1,hh2.1]
     subst hk;simp only [Bool.and_eq_true,beq_iff_eq,this];show _↔_::(cellsOf _).map pvD=_::(cellsOf _).map pvD;rw [List.cons.injEq];simp [pvD]
   ·cases h
  ·rename_i n ra m sb he;obtain ⟨rfl,rfl⟩:=by simpa using he
   split at h
   ·rename_i q hq;obtain rfl:=by simpa using h
    cases ks with
    |nil=>exact (show False from f1).elim
    |cons c ks=>
     have:=ih hq f1.2 f2.2;simp only [Bool.and_eq_true,beq_iff_eq,this];show _↔_::(cellsOf _).map pvD=_::(cellsOf _).map pvD;rw [List.cons.injEq];simp [pvD]
   ·cases h
  ·rename_i n ra m sb he;obtain ⟨rfl,rfl⟩:=by simpa using he
   split at h
   ·rename_i q hq;obtain rfl:=by simpa using h
    cases ks with
    |nil=>exact (show False from f1).elim
    |cons c ks=>
     have:=ih hq f1.2 f2.2;have hb:(n.toList==m.toList)=true↔n=m:=by
      rw [beq_iff_eq];refine ⟨fun h=>?_,fun h=>by rw [h]⟩;rw [ByteArray.toList_eq,ByteArray.toList_eq] at h;exact ByteArray.ext (Array.toList_inj.1 h)
     rw [Bool.and_eq_true,hb,this];show _↔_::(cellsOf _).map pvD=_::(cellsOf _).map pvD;rw [List.cons.injEq];simp [pvD]
   ·cases h
  ·rename_i ka n f ra kb m g sb he;obtain ⟨rfl,rfl⟩:=by simpa using he
   split at h
   ·rename_i hn;obtain rfl:=Nat.eq_of_beq_eq_true hn
    split at h
    ·rename_i q hq;obtain rfl:=by simpa using h
     rw [cellsOf_cons,List.map_append] at f1 f2;obtain ⟨p1,p2⟩:=fit_app f1;obtain ⟨p3,p4⟩:=fit_app f2;have hl:(((Seg.ints kb (.lit n) g).cells).map pvD).length=(((Seg.ints ka (.lit n) f).cells).map pvD).length:=by simp [Seg.cells,SN.lv]
     rw [hl] at p3 p4;have i1:=ints_eq p1 p3;have i2:=ih hq p2 p4;rw [cellsOf_cons,cellsOf_cons,List.map_append,List.map_append,Bool.and_eq_true,i2,eqF,decide_eq_true_eq,i1];exact ⟨fun h=>by rw [h.1,h.2],fun h=>List.append_inj h hl.symm⟩
    ·cases h
   ·cases h
  ·cases h
def eqOp (op:BinOp) (b:Bool):Option Bool:=match op with | .eql=>some b | .neq=>some (!b) |_=>none
def sEqA (tt:TT) (op:BinOp) (T:TypeId) (a b:List Seg):Option SC:=match ckT tt T with
 |some ks=>if fitL (expand ks) (cellsOf a)&&fitL (expand ks) (cellsOf b) then (match seqB a b with |some r=>(match eqOp op r with |some q=>some (.bool (.sym q)) |none=>none) |none=>none) else none
 |none=>none
theorem sEqA_spec {P:Program} {tt:TT} (htt:TTOK P tt) {op:BinOp} {T:TypeId} {a b:List Seg} {r:SC} (h:sEqA tt op T a b=some r) {ρ:Map} {xs ys:Array Value} (hx:CsRel ρ (cellsOf a) xs.toList) (hy:CsRel ρ (cellsOf b) ys.toList) (ox oy:Operand) (w:World) :
 ∃ v,((do eqGuard op T ox oy (.agg xs) (.agg ys);binOp op T (.agg xs) (.agg ys):Sem Value)).run P w = .ok v w/\CRel ρ r v:=by
 unfold sEqA at h
 split at h
 ·rename_i ks hks;obtain ⟨hg,hk,d,hd,hda⟩:=tt_ck htt hks
  split at h
  ·rename_i hf;rw [Bool.and_eq_true] at hf;obtain ⟨p1,f1⟩:=fitL_spec hf.1;obtain ⟨p2,f2⟩:=fitL_spec hf.2;have e1:=csrel_pure p1 hx;have e2:=csrel_pure p2 hy
   split at h
   ·rename_i q hq;have hs:=seqB_spec hq f1 f2;have hval:∀ zs:Array Value,ValOf P T zs.toList (.agg zs):=fun zs=>by
     unfold ValOf;rw [hd]
     cases d<;>first |rfl |cases hda
    obtain ⟨z,hz,hz2⟩:=eqAt (P:=P) 9 9991 T ks hk xs.toList ys.toList _ _ (hval xs) (hval ys) (by rw [e1];exact f1) (by rw [e2];exact f2) w;rw [e1,e2,<- hs] at hz2;have hzq:z=q:=by cases z<;>cases q<;>simp_all
    subst hzq;have hz':(Op.equalIn 10000 T (.agg xs) (.agg ys)).run P w = .ok z w:=hz
    split at h
    ·rename_i q2 hq2;obtain rfl:=by simpa using h
     rw [Sem.run_bind,run_eqGuard_agg w op T ox oy xs ys hg];simp only [Result.andThen_ok];unfold eqOp at hq2
     split at hq2
     ·obtain rfl:=by simpa using hq2
      rw [run_eql_struct,hz'];exact ⟨_,rfl,rfl⟩
     ·have hq3:q2 = !z:=(Option.some.inj hq2).symm;rw [run_neq_struct,hz',hq3];exact ⟨_,rfl,rfl⟩
     ·cases hq2
    ·cases h
   ·cases h
  ·cases h
 ·cases h
def sbin (tt:TT) (op:BinOp) (T:TypeId):SV->SV->Option (SC × List Prop)
 | .one (.sc (.int k x)),.one (.sc (.int k' y))=>bin op k x k' y
 | .one (.sc (.bool x)),.one (.sc (.bool y))=>match uD tt T with |some .bool=>(match binB op x y with |some r=>some (r,[]) |none=>none) |_=>none
 | .one (.sc (.raw (.string x))),.one (.sc (.raw (.string y)))=>binS op x y
 | .one (.agg a),.one (.agg b)=>(match sEqA tt op T a b with |some r=>some (r,[]) |none=>none)
 | .one (.sc (.rows _ d)),.one (.sc .nils)=>(match uD tt T,op with |some (.slice _),.eql=>some (.bool (.lit false),[0<d.len]) |some (.slice _),.neq=>some (.bool (.lit true),[0<d.len]) |_,_=>none)
 |_,_=>none
theorem trel_pos {fz:Fz} {e:TypeId} {d:D} {v:Value} (h:TRel fz (.slice e) d v) (hd:0<d.len):∃ a n c,v = .slice (some a) n c:=by
 generalize hk:K.slice e=k at h
 cases h with
 |int k d=>cases hk
 |bool d=>cases hk
 |str d=>cases hk
 |nil e d h0=>omega
 |empty e d a c h0=>omega
 |slice e d b o c u _ _ _=>exact ⟨_,_,_,rfl⟩
theorem eq_nil_slice {P:Program} {T e:TypeId} (hT:P.underlying T=some (.slice e)) (a:Addr) (n c:Nat) (d:Nat) (w:World):(Op.equalIn (d+1) T (.slice (some a) n c) (.slice none 0 0)).run P w = .ok false w:=by
 simp only [Op.equalIn,Sem.run_bind,run_underlying hT,Result.andThen_ok];rfl
theorem sbin_spec {P:Program} {tt:TT} (htt:TTOK P tt) {op:BinOp} {T:TypeId} {a b:SV} {r:SC} {ps:List Prop} (h:sbin tt op T a b=some (r,ps)) (hp:All ps) {ρ:Map} {x y:Value} (hx:UR ρ a x) (hy:UR ρ b y) (ox oy:Operand) (w:World) :
 ∃ v,((do eqGuard op T ox oy x y;binOp op T x y:Sem Value)).run P w = .ok v w/\CRel ρ r v:=by
 unfold sbin at h
 split at h
 ·obtain rfl:x=_:=hx;obtain rfl:y=_:=hy;obtain ⟨v,h1,h2⟩:=bin_spec h hp T w ρ;exact ⟨v,by rw [Sem.run_bind,eqGuard_none w (by simp) (by simp)];exact h1,h2⟩
 ·obtain rfl:x=_:=hx;obtain rfl:y=_:=hy
  split at h
  ·rename_i hT;obtain ⟨d,hT,hd⟩:=tt_u htt hT;obtain rfl:=u_bool hd
   split at h
   ·rename_i r' hr;obtain ⟨rfl,rfl⟩:=by simpa using h
    obtain ⟨v,h1,h2⟩:=binB_spec hr hT w ρ;exact ⟨v,by rw [Sem.run_bind,eqGuard_none w (by simp) (by simp)];exact h1,h2⟩
   ·cases h
  ·cases h
 ·obtain rfl:x=_:=hx;obtain rfl:y=_:=hy;obtain ⟨v,h1,h2⟩:=binS_spec h hp T w ρ;exact ⟨v,by rw [Sem.run_bind,eqGuard_none w (by simp) (by simp)];exact h1,h2⟩
 ·rename_i la lb;obtain ⟨xs,rfl,hxs⟩:=hx;obtain ⟨ys,rfl,hys⟩:=hy
  split at h
  ·rename_i r' hr;obtain ⟨rfl,rfl⟩:=by simpa using h
   exact sEqA_spec htt hr hxs hys ox oy w
  ·cases h
 ·rename_i e0 d0;obtain rfl:y=_:=hy
  split at h
  ·rename_i e1 hT;obtain ⟨t,hT,hd⟩:=tt_u htt hT;obtain rfl:=u_slice hd;obtain ⟨rfl,rfl⟩:=by simpa using h
   obtain ⟨a,n,c,rfl⟩:=trel_pos hx hp.1;refine ⟨.bool false,?_,rfl⟩;rw [Sem.run_bind,eqGuard_none w (by simp) (by simp)];simp only [binOp,Sem.run_bind,Op.equal,Result.andThen_ok];rw [show Op.maxDepth=9999+1 from rfl,eq_nil_slice hT];rfl
  ·rename_i e1 hT;obtain ⟨t,hT,hd⟩:=tt_u htt hT;obtain rfl:=u_slice hd;obtain ⟨rfl,rfl⟩:=by simpa using h
   obtain ⟨a,n,c,rfl⟩:=trel_pos hx hp.1;refine ⟨.bool true,?_,rfl⟩;rw [Sem.run_bind,eqGuard_none w (by simp) (by simp)];simp only [binOp,Sem.run_bind,Op.equal,Result.andThen_ok];rw [show Op.maxDepth=9999+1 from rfl,eq_nil_slice hT];rfl
  ·cases h
 ·cases h
def idx (o:SO) (i:SI) (n:SN) (es:Nat):Option (SO × List Prop):=
 match i with
 | .lit (.ofNat m)=>(match n with | .lit n=>if Nat.blt m n then some (o.add (m*es),[]) else none | .sym n=>some (o.add (m*es),[m<n]))
 | .lit (.negSucc _)=>none
 | .sym i=>some (o.addS (i.toNat*es),[0<=i/\i<n.v])
theorem idx_spec {o o':SO} {i:SI} {n:SN} {es:Nat} {ps:List Prop} (h:idx o i n es=some (o',ps)) (hp:All ps):0<=i.v/\i.v<n.v/\o'.v=o.v+i.v.toNat*es:=by
 unfold idx at h
 split at h
 ·rename_i m
  split at h
  ·rename_i n
   split at h
   ·rename_i hb;obtain ⟨rfl,rfl⟩:=by simpa using h
    have:m<n:=by simpa [Nat.blt_eq] using hb
    refine ⟨by simp [SI.v],by simp [SI.v,SN.v];omega,by simp [SO.add_v,SI.v]⟩
   ·cases h
  ·obtain ⟨rfl,rfl⟩:=by simpa using h
   refine ⟨by simp [SI.v],by have:=hp.1;simp [SI.v,SN.v];omega,by simp [SO.add_v,SI.v]⟩
 ·cases h
 ·rename_i i;obtain ⟨rfl,rfl⟩:=by simpa using h
  exact ⟨hp.1.1,hp.1.2,by simp [SO.addS_v,SI.v]⟩
def sField (tt:TT) (s:TypeId) (f:Nat):Option Nat:=
 match uD tt s with
 |some (.struct fs)=>(match fs[f]? with
  |some x=>(match szT tt x.1 with |some i=>if Nat.beq i 0 then none else some x.2 |none=>none)
  |none=>none)
 |_=>none
def idxN (i:SI) (n:SN):Option (Nat × List Prop):=
 match i with
 | .lit (.ofNat m)=>(match n with | .lit n=>if Nat.blt m n then some (m,[]) else none | .sym n=>some (m,[m<n]))
 | .lit (.negSucc _)=>none
 | .sym i=>some (i.toNat,[0<=i/\i<n.v])
theorem idxN_spec {i:SI} {n:SN} {m:Nat} {ps:List Prop} (h:idxN i n=some (m,ps)) (hp:All ps):0<=i.v/\i.v<n.v/\i.v.toNat=m:=by
 unfold idxN at h
 split at h
 ·rename_i m'
  split at h
  ·rename_i n'
   split at h
   ·rename_i hb;obtain ⟨rfl,rfl⟩:=by simpa using h
    have:m'<n':=by simpa [Nat.blt_eq] using hb
    exact ⟨Int.natCast_nonneg _,by simp only [SI.v,SN.v];exact Int.ofNat_lt.2 this,rfl⟩
   ·cases h
  ·rename_i n';obtain ⟨rfl,rfl⟩:=by simpa using h
   have:m'<n':=hp.1;exact ⟨Int.natCast_nonneg _,by simp only [SI.v,SN.v];exact Int.ofNat_lt.2 this,rfl⟩
 ·cases h
 ·rename_i j;obtain ⟨rfl,rfl⟩:=by simpa using h
  exact ⟨hp.1.1,hp.1.2,rfl⟩
theorem addr_add (b o n:Nat):(⟨b,o,none⟩:Addr).add n=⟨b,o+n,none⟩:=by
 unfold Addr.add;split
 ·rename_i h;subst h;rfl
 ·rfl
def addN:SN->Nat->Nat
 | .lit 0,i=>i
 |a,i=>a.v+i
theorem addN_v (a:SN) (i:Nat):addN a i=a.v+i:=by
 unfold addN;split
 ·simp [SN.v]
 ·rfl
def sIndexAddr (tt:TT) (t:TypeId):SV->SV->Option (SC × List Prop)
 | .one (.sc (.ptr id o)),.one (.sc (.int _ i))=>(match uD tt t with
   |some (.array n e)=>(match szT tt e with |some x=>(match idx o i (.lit n) x with |some (o',ps)=>some (.ptr id o',ps) |none=>none) |none=>none)
   |_=>none)
 | .one (.sc (.slice id o len)),.one (.sc (.int _ i))=>(match uD tt t with
   |some (.slice e)=>(match szT tt e with |some x=>(match idx o i len x with |some (o',ps)=>some (.ptr id o',ps) |none=>none) |none=>none)
   |_=>none)
 | .one (.sc (.rows e d)),.one (.sc (.int _ i))=>(match uD tt t with
   |some (.slice e')=>if Nat.beq e e' then (match ksT tt e,idxN i (.sym d.len) with |some _,some (m,ps)=>some (.fp e d m 0,ps) |_,_=>none) else none
   |_=>none)
 | .one (.sc (.osl e id lo n)),.one (.sc (.int _ i))=>(match uD tt t with
   |some (.slice e')=>if Nat.beq e e' then (match ksT tt e,idxN i n with |some _,some (m,ps)=>some (.optr e id (addN lo m) 0,ps) |_,_=>none) else none
   |_=>none)
 |_,_=>none
theorem sIndexAddr_spec {P:Program} {tt:TT} (htt:TTOK P tt) {t:TypeId} {a b:SV} {r:SC} {ps:List Prop} (h:sIndexAddr tt t a b=some (r,ps)) (hp:All ps) {ρ:Map} {x y:Value} (hx:UR ρ a x) (hy:UR ρ b y) (w:World) :
 ∃ v,(Instr.indexAt t x y).run P w = .ok v w/\CRel ρ r v:=by
 unfold sIndexAddr at h
 split at h
 ·obtain ⟨hid,rfl⟩:=hx;obtain rfl:y=_:=hy
  split at h
  ·rename_i n e hu;obtain ⟨d,hu,hd⟩:=tt_u htt hu;obtain rfl:=u_array hd
   split at h
   ·rename_i i hi;obtain ⟨i,hq,rfl⟩:=tt_sz htt hi
    split at h
    ·rename_i o' ps' hix;obtain ⟨rfl,rfl⟩:=by simpa using h
     obtain ⟨h1,h2,h3⟩:=idx_spec hix hp;refine ⟨_,?_,hid,rfl⟩;have h2':(_:Int)<(n:Int):=h2;simp [Instr.indexAt,asIntOf,run_underlying hu,Instr.sureAddr,sizeOf,typeInfo,hq,h1,h2',at_add,h3]
    ·cases h
   ·cases h
  ·cases h
 ·obtain ⟨A,c,rfl,hc,hA⟩:=hx;obtain rfl:y=_:=hy
  split at h
  ·rename_i e hu;obtain ⟨d,hu,hd⟩:=tt_u htt hu;obtain rfl:=u_slice hd
   split at h
   ·rename_i i hi;obtain ⟨i,hq,rfl⟩:=tt_sz htt hi
    split at h
    ·rename_i o' ps' hix;obtain ⟨rfl,rfl⟩:=by simpa using h
     obtain ⟨h1,h2,h3⟩:=idx_spec hix hp
     rcases hA with ⟨hid,rfl⟩ |⟨h0,_⟩
     ·refine ⟨_,?_,hid,rfl⟩;simp [Instr.indexAt,asIntOf,run_underlying hu,sizeOf,typeInfo,hq,h1,h2,at_add,h3]
     ·exfalso;rw [h0] at h2;omega
    ·cases h
   ·cases h
  ·cases h
 ·rename_i e dd _ i;obtain rfl:y=_:=hy
  split at h
  ·rename_i e' hu;obtain ⟨d,hu,hd⟩:=tt_u htt hu;obtain rfl:=u_slice hd
   split at h
   ·rename_i hee;obtain rfl:=Nat.eq_of_beq_eq_true hee
    split at h
    ·rename_i ks m ps' hks hix;obtain ⟨rfl,rfl⟩:=by simpa using h
     obtain ⟨hl,_,q,z,hq,hqs,_⟩:=tt_ks htt hks;obtain ⟨h1,h2,h3⟩:=idxN_spec hix hp;have hx':TRel ρ.fz (.slice e) dd x:=hx
     cases hx' with
     |nil _ _ h0=>exfalso;simp only [SN.v,h0] at h2;omega
     |empty _ _ a c h0=>exfalso;simp only [SN.v,h0] at h2;omega
     |slice _ _ b o c u hc hcell hrel=>
      have hm:m<dd.len:=by simp only [SN.v] at h2;omega
      refine ⟨.pointer (some ⟨b,o+m*(eks e).length+0,none⟩),?_,b,o+m*(eks e).length,rfl,fun j' k hk=>?_⟩
      ·have h2':i.v<(dd.len:Int):=h2;simp [Instr.indexAt,asIntOf,run_underlying hu,sizeOf,typeInfo,hq,h1,h2',hqs,hl,h3,addr_add]
      ·have hlt:j'<(eks e).length:=by
        rcases Nat.lt_or_ge j' (eks e).length with h' |h'
        ·exact h'
        ·rw [List.getElem?_eq_none h'] at hk;cases hk
       exact ⟨u m j',hcell m j' hm hlt,hrel m j' k hm hk⟩
    ·cases h
   ·cases h
  ·cases h
 ·rename_i e id lo n _ i;obtain rfl:y=_:=hy
  split at h
  ·rename_i e' hu;obtain ⟨d,hu,hd⟩:=tt_u htt hu;obtain rfl:=u_slice hd
   split at h
   ·rename_i hee;obtain rfl:=Nat.eq_of_beq_eq_true hee
    split at h
    ·rename_i ks m ps' hks hix;obtain ⟨rfl,rfl⟩:=by simpa using h
     obtain ⟨hl,_,q,z,hq,hqs,_⟩:=tt_ks htt hks;obtain ⟨h1,h2,h3⟩:=idxN_spec hix hp;obtain ⟨A,c,rfl,hc,⟨hc0,_⟩ |⟨rfl,hcap,hid⟩⟩:=hx
     ·exfalso;omega
     ·refine ⟨.pointer (some ⟨ρ.blk id,lo.v*(eks e).length+m*(eks e).length,none⟩),?_,hid,?_⟩
      ·simp [Instr.indexAt,asIntOf,run_underlying hu,sizeOf,typeInfo,hq,h1,h2,hqs,hl,h3,addr_add]
      ·rw [addN_v,Nat.add_mul,Nat.add_zero]
    ·cases h
   ·cases h
  ·cases h
 ·cases h
def argKind:SV->Option (IntKind × SI) | .one (.sc (.int k n))=>some (k,n) |_=>none
def mm (mn:Bool) (k:IntKind):SI->List SV->Option SI
 |x,[]=>some x
 |x,y::r=>match argKind y with
  |some (_,y)=>mm mn k (mk2 x y (if mn then (if y.v<x.v then y.v else x.v) else (if y.v>x.v then y.v else x.v))) r
  |none=>none
def evs (ev:Operand->Option SV):List Operand->Option (List SV)
 | []=>some []
 |x::r=>match ev x,evs ev r with |some a,some l=>some (a::l) |_,_=>none
theorem mm_spec {P:Program} {ρ:Map} {k:IntKind} (w:World):∀ (l:List Operand) (ev:Operand->Option SV) (E:Operand->Value) (x r:SI) (svs:List SV),EvOK ρ E ev->evs ev l=some svs->∀ mn,mm mn k x svs=some r ->
 ((l.map E).foldlM (if mn then Builtin.min2 else Builtin.max2) (.int k x.v)).run P w = .ok (.int k r.v) w
 | [],ev,E,x,r,svs,_,hs,mn,h=>by
   simp only [evs,Option.some.injEq] at hs;subst hs;simp only [mm,Option.some.injEq] at h;subst h;rfl
 |y::l,ev,E,x,r,svs,hE,hs,mn,h=>by
  simp only [evs] at hs
  split at hs
  ·rename_i a l' ha hl;obtain rfl:=by simpa using hs
   simp only [mm] at h
   split at h
   ·rename_i k' y' hk;have hy:=hE y a ha;unfold argKind at hk
    split at hk
    ·obtain ⟨rfl,rfl⟩:=by simpa using hk
     have hy':E y=_:=hy;simp only [List.map_cons,List.foldlM_cons,Sem.run_bind,hy'];have:=mm_spec (P:=P) w l ev E _ r l' hE hl mn h
     cases mn
     ·simp only [Bool.false_eq_true,↓reduceIte,Builtin.max2,Sem.run_pure,Result.andThen_ok] at this ⊢;rw [mk2_v] at this;exact this
     ·simp only [↓reduceIte,Builtin.min2,Sem.run_pure,Result.andThen_ok] at this ⊢;rw [mk2_v] at this;exact this
    ·cases hk
   ·cases h
  ·cases hs
def sBuiltin (tt:TT) (b:Builtin) (ats:List TypeId) (args:List SV):Option SC:=
 match b with
 | .len=>match ats,args with
   |t::_,x::_=>(match uD tt t,x with
    |some (.array n _),_=>some (.int .i64 (.lit n))
    |some (.slice _),.one (.sc (.slice _ _ n))=>some (.int .i64 (match n with | .lit n=>.lit n | .sym n=>.sym n))
    |some (.slice _),.one (.sc .nils)=>some (.int .i64 (.lit 0))
    |some (.slice _),.one (.sc (.rows _ d))=>some (.int .i64 (.sym d.len))
    |some (.slice _),.one (.sc (.osl _ _ _ n))=>some (.int .i64 (match n with | .lit n=>.lit n | .sym n=>.sym n))
    |some .string,.one (.sc (.raw (.string s)))=>some (.int .i64 (.sym s.size))
    |_,_=>none)
   |_,_=>none
 | .min=>match args with
   | .one (.sc (.int k x))::r=>(match mm true k x r with |some n=>some (.int k n) |none=>none)
   |_=>none
 | .max=>match args with
   | .one (.sc (.int k x))::r=>(match mm false k x r with |some n=>some (.int k n) |none=>none)
   |_=>none
 |_=>none
theorem sBuiltin_spec {P:Program} {tt:TT} (htt:TTOK P tt) {b:Builtin} {ats:Array TypeId} {l:List Operand} {ev:Operand->Option SV} {E:Operand->Value} {ρ:Map} {svs:List SV} {r:SC} (hE:EvOK ρ E ev) (hs:evs ev l=some svs) (h:sBuiltin tt b ats.toList svs=some r) (ty:TypeId) (cs:Array Bool) (w:World) :
 ∃ v,(builtin b ats ty cs (l.map E).toArray).run P w = .ok (.value v) w/\CRel ρ r v:=by
 cases b<;>simp only [sBuiltin] at h<;>first |(cases h;done) |skip
 ·
  split at h
  ·rename_i t rt x rx hat
   cases l with
   |nil=>simp [evs] at hs
   |cons y l=>
    simp only [evs] at hs
    split at hs
    ·rename_i a l' ha hl;obtain ⟨rfl,rfl⟩:=by simpa using hs
     have hy:=hE y _ ha;have hat0:ats[0]? = some t:=by rw [<- Array.getElem?_toList,hat];rfl
     have key:∀ v,(Builtin.len_ ats ty ((y::l).map E).toArray).run P w = .ok v w->CRel ρ r v->∃ v,(builtin .len ats ty cs ((y::l).map E).toArray).run P w = .ok (.value v) w/\CRel ρ r v:=fun v h1 h2=>⟨v,by
      show ((do pure (.value (<- Builtin.len_ ats ty ((y::l).map E).toArray)):Sem Next)).run P w=_;rw [Sem.run_bind,h1];rfl,h2⟩
     have hargs0:((y::l).map E).toArray[0]? = some (E y):=by simp
     split at h
     ·rename_i n _ hu;obtain ⟨d,hu,hd⟩:=tt_u htt hu;obtain rfl:=u_array hd;obtain rfl:=by simpa using h
      exact key _ (by simp [Builtin.len_,hat0,run_underlying hu,goInt,SI.v]) rfl
     ·rename_i n hu;obtain ⟨d,hu,hd⟩:=tt_u htt hu;obtain rfl:=u_slice hd;obtain rfl:=by simpa using h
      obtain ⟨A,c,he,_,_⟩:=hy;refine key (.int .i64 n.v) ?_ ?_
      ·simp only [Builtin.len_,hat0,hargs0,he,Sem.run_bind,run_underlying hu,Result.andThen_ok,Sem.run_pure,goInt]
      ·cases n<;>rfl
     ·rename_i hu;obtain ⟨d,hu,hd⟩:=tt_u htt hu;obtain rfl:=u_slice hd;obtain rfl:=by simpa using h
      have he:E y=_:=hy;exact key _ (by simp [Builtin.len_,hat0,he,run_underlying hu,goInt,SI.v]) rfl
     ·rename_i e0 d0 hu;obtain ⟨d,hu,hd⟩:=tt_u htt hu;obtain rfl:=u_slice hd;obtain rfl:=by simpa using h
      have he:TRel ρ.fz (.slice e0) d0 (E y):=hy;refine key (.int .i64 d0.len) ?_ rfl;generalize E y=vy at he hargs0
      cases he with
      |nil _ _ h0=>simp only [Builtin.len_,hat0,hargs0,Sem.run_bind,run_underlying hu,Result.andThen_ok,Sem.run_pure,goInt,h0]
      |empty _ _ a c h0=>simp only [Builtin.len_,hat0,hargs0,Sem.run_bind,run_underlying hu,Result.andThen_ok,Sem.run_pure,goInt,h0]
      |slice _ _ b o c u hc hcell hrel=>simp only [Builtin.len_,hat0,hargs0,Sem.run_bind,run_underlying hu,Result.andThen_ok,Sem.run_pure,goInt]
     ·rename_i n hu;obtain ⟨d,hu,hd⟩:=tt_u htt hu;obtain rfl:=u_slice hd;obtain rfl:=by simpa using h
      refine key (.int .i64 n.v) ?_ ?_
      ·obtain ⟨A,c,he,_⟩:=hy;simp only [Builtin.len_,hat0,hargs0,he,Sem.run_bind,run_underlying hu,Result.andThen_ok,Sem.run_pure,goInt]
      ·cases n<;>rfl
     ·rename_i s hu;obtain ⟨d,hu,hd⟩:=tt_u htt hu;obtain rfl:=u_string hd;obtain rfl:=by simpa using h
      have he:E y=_:=hy;exact key _ (by simp [Builtin.len_,hat0,he,run_underlying hu,goInt,SI.v]) rfl
     ·cases h
    ·cases hs
  ·cases h
 all_goals
  split at h
  ·rename_i k x rr
   split at h
   ·rename_i n hn;obtain rfl:=by simpa using h
    cases l with
    |nil=>simp [evs] at hs
    |cons y l=>
     simp only [evs] at hs
     split at hs
     ·rename_i a l' ha hl;obtain ⟨rfl,rfl⟩:=by simpa using hs
      have hy:E y=_:=hE y _ ha;have:=mm_spec (P:=P) w l ev E x n _ hE hl _ hn;refine ⟨_,?_,rfl⟩;show ((do pure (.value (<- _)):Sem Next)).run P w=_;rw [Sem.run_bind];simp only [Builtin.max_,Builtin.min_,List.map_cons,hy];simp only [↓reduceIte,Bool.false_eq_true] at this;rw [this];rfl
     ·cases hs
   ·cases h
  ·cases h
end Go.Proofs.YtplejbgafjpomaaGreatDoor.Sx
