import Derived.Laws.IdiomStrings
import Derived.Test.YtplejbgafjpomaaGreatDoorZb4
set_option linter.unusedVariables false
set_option linter.unusedSimpArgs false
namespace Go.Proofs.YtplejbgafjpomaaGreatDoor.Sx
open Go.RowKit
def bnd (i:SI) (n:SN):Option (SN × List Prop):=
 match i with
 | .lit (.ofNat m)=>(match n with | .lit n=>if Nat.ble m n then some (.lit m,[]) else none | .sym n=>some (.lit m,[m<=n]))
 | .lit (.negSucc _)=>none
 | .sym i=>some (.sym i.toNat,[0<=i/\i<=n.v])
theorem bnd_spec {i:SI} {n m:SN} {ps:List Prop} (h:bnd i n=some (m,ps)) (hp:All ps):0<=i.v/\i.v<=n.v/\m.v=i.v.toNat:=by
 unfold bnd at h
 split at h
 ·split at h
  ·split at h
   ·rename_i hb;obtain ⟨rfl,rfl⟩:=by simpa using h
    have:=Nat.le_of_ble_eq_true hb;exact ⟨by simp [SI.v],by simp [SI.v,SN.v];omega,by simp [SN.v,SI.v]⟩
   ·cases h
  ·obtain ⟨rfl,rfl⟩:=by simpa using h
   have:=hp.1;exact ⟨by simp [SI.v],by simp [SI.v,SN.v];omega,by simp [SN.v,SI.v]⟩
 ·cases h
 ·obtain ⟨rfl,rfl⟩:=by simpa using h
  exact ⟨hp.1.1,hp.1.2,by simp [SN.v,SI.v]⟩
def SN.sub:SN->SN->SN
 | .lit a,.lit b=>.lit (a-b)
 |a,.lit 0=>a
 |a,b=>.sym (a.v-b.v)
theorem SN.sub_v (a b:SN):(a.sub b).v=a.v-b.v:=by
 unfold SN.sub;split
 ·rfl
 ·simp [SN.v]
 ·rfl
def SO.at (o:SO) (l:SN) (es:Nat):SO:=match l with | .lit m=>o.add (m*es) | .sym m=>o.addS (m*es)
theorem SO.at_v (o:SO) (l:SN) (es:Nat):(o.at l es).v=o.v+l.v*es:=by cases l<;>simp [SO.at,SO.add_v,SO.addS_v,SN.v]
def bnds (lo hi:Option SI) (n:SN):Option (SN × SN × List Prop):=
 match hi with
 |none=>(match lo with
  |none=>some (.lit 0,n,[])
  |some i=>(match bnd i n with |some (l,ps)=>some (l,n,ps) |none=>none))
 |some j=>(match bnd j n with
  |some (h,ps)=>(match lo with
   |none=>some (.lit 0,h,ps)
   |some i=>(match bnd i h with |some (l,qs)=>some (l,h,ps++qs) |none=>none))
  |none=>none)
theorem sliceBound_run {P:Program} {x:Value} {k:IntKind} {i:Int} (hx:x = .int k i) {y:Nat} (h:0<=i/\i<=y) (c:BoundsCode) (w:World):(Instr.sliceBound x y c).run P w = .ok i.toNat w:=by
 subst hx;simp [Instr.sliceBound,asIntOf,h]
theorem bnds_spec {P:Program} {lo hi:Option SI} {n l h:SN} {ps:List Prop} (hb:bnds lo hi n=some (l,h,ps)) (hp:All ps) {low high:Option Value} (hlo:∀ i,lo=some i->∃ k,low=some (.int k i.v)) (hlo0:lo=none->low=none)
 (hhi:∀ i,hi=some i->∃ k,high=some (.int k i.v)) (hhi0:hi=none->high=none) (s:Bool) (cap:Nat) (hcap:n.v<=cap) (w:World) :
 (Instr.sliceBounds s n.v cap low high none).run P w = .ok (l.v,h.v,cap) w/\l.v<=h.v/\h.v<=n.v:=by
 unfold bnds at hb
 split at hb
 ·rw [hhi0 rfl]
  split at hb
  ·rw [hlo0 rfl];obtain ⟨rfl,rfl,rfl⟩:=by simpa using hb
   exact ⟨rfl,by simp [SN.v],Nat.le_refl _⟩
  ·rename_i i;obtain ⟨k,hk⟩:=hlo i rfl;rw [hk]
   split at hb
   ·rename_i l' ps' hbn;obtain ⟨rfl,rfl,rfl⟩:=by simpa using hb
    obtain ⟨h1,h2,h3⟩:=bnd_spec hbn hp;refine ⟨?_,by omega,Nat.le_refl _⟩;simp only [Instr.sliceBounds,Sem.run_bind,Sem.run_pure,Result.andThen_ok];rw [sliceBound_run rfl ⟨h1,h2⟩];simp [h3]
   ·cases hb
 ·rename_i j;obtain ⟨k,hk⟩:=hhi j rfl;rw [hk]
  split at hb
  ·rename_i h' ps' hbn
   split at hb
   ·rw [hlo0 rfl];obtain ⟨rfl,rfl,rfl⟩:=by simpa using hb
    obtain ⟨h1,h2,h3⟩:=bnd_spec hbn hp;refine ⟨?_,by simp [SN.lv],by omega⟩;simp only [Instr.sliceBounds,Sem.run_bind,Sem.run_pure,Result.andThen_ok];rw [sliceBound_run rfl ⟨h1,by omega⟩];simp [h3,SN.lv]
   ·rename_i i;obtain ⟨k',hk'⟩:=hlo i rfl;rw [hk']
    split at hb
    ·rename_i l' qs hbl;simp only [Option.some.injEq,Prod.mk.injEq] at hb;obtain ⟨rfl,rfl,rfl⟩:=hb;obtain ⟨hp1,hp2⟩:=all_append.1 hp;obtain ⟨h1,h2,h3⟩:=bnd_spec hbn hp1;obtain ⟨g1,g2,g3⟩:=bnd_spec hbl hp2;refine ⟨?_,by omega,by omega⟩;simp only [Instr.sliceBounds,Sem.run_bind,Sem.run_pure,Result.andThen_ok];rw [sliceBound_run rfl ⟨h1,by omega⟩];simp only [Result.andThen_ok];rw [sliceBound_run rfl ⟨g1,by omega⟩];simp [h3,g3]
    ·cases hb
  ·cases hb
def evi (ev:Operand->Option SV):Option Operand->Option (Option SI)
 |none=>some none
 |some x=>match ev x with |some (.one (.sc (.int _ i)))=>some (some i) |_=>none
theorem evi_spec {ρ:Map} {E:Operand->Value} {ev:Operand->Option SV} (hE:EvOK ρ E ev) {x:Option Operand} {r:Option SI} (h:evi ev x=some r):(∀ i,r=some i->∃ k,x.map E=some (.int k i.v))/\(r=none->x.map E=none):=by
 cases x with
 |none=>
  simp only [evi,Option.some.injEq] at h;subst h;exact ⟨fun i hi=>(nomatch hi),fun _=>rfl⟩
 |some x=>
  simp only [evi] at h
  split at h
  ·rename_i k i hx;obtain rfl:=by simpa using h
   refine ⟨fun j hj=>?_,fun hj=>nomatch hj⟩;obtain rfl:=by simpa using hj
   exact ⟨k,by rw [Option.map_some];exact congrArg some (hE x _ hx)⟩
  ·cases h
def SN.plus:SN->SN->SN
 | .lit a,.lit b=>.lit (a+b)
 | .lit 0,b=>b
 |a,.lit 0=>a
 |a,b=>.sym (a.v+b.v)
theorem SN.plus_v (a b:SN):(a.plus b).v=a.v+b.v:=by
 unfold SN.plus
 split<;>simp [SN.v]
def sSlice (tt:TT) (t:TypeId) (x:SV) (lo hi:Option SI):Option (SC × List Prop):=
 match uD tt t,x with
 |some (.slice e),.one (.sc (.slice id o n))=>(match szT tt e,bnds lo hi n with |some i,some (l,h,ps)=>some (.slice id (o.at l i) (h.sub l),ps) |_,_=>none)
 |some (.array n e),.one (.sc (.ptr id o))=>(match szT tt e,bnds lo hi (.lit n) with |some i,some (l,h,ps)=>some (.slice id (o.at l i) (h.sub l),ps) |_,_=>none)
 |some (.slice e),.one (.sc (.rows e' d))=>if Nat.beq e' e then (match ksT tt e,bnds lo hi (.sym d.len) with |some _,some (l,h,ps)=>some (.rows e (d.sub l.v h.v),ps) |_,_=>none) else none
 |some (.slice e),.one (.sc (.osl e' id o n))=>if Nat.beq e' e then (match ksT tt e,bnds lo hi n with |some _,some (l,h,ps)=>some (.osl e id (o.plus l) (h.sub l),ps) |_,_=>none) else none
 |some .string,.one (.sc (.raw (.string s)))=>(match bnds lo hi (.sym s.size) with |some (l,h,ps)=>some (.raw (.string (s.extract l.v h.v)),ps) |none=>none)
 |_,_=>none
theorem sSlice_spec {P:Program} {tt:TT} (htt:TTOK P tt) {t:TypeId} {a:SV} {lo hi:Option SI} {r:SC} {ps:List Prop} (h:sSlice tt t a lo hi=some (r,ps)) (hp:All ps) {ρ:Map} {x:Value} (hx:UR ρ a x) {low high:Option Value} (hlo:∀ i,lo=some i->∃ k,low=some (.int k i.v)) (hlo0:lo=none->low=none)
 (hhi:∀ i,hi=some i->∃ k,high=some (.int k i.v)) (hhi0:hi=none->high=none) (w:World):∃ v,(Instr.sliceAt t x low high none).run P w = .ok v w/\CRel ρ r v:=by
 unfold sSlice at h
 split at h
 ·rename_i e id o n hu;obtain ⟨d,hu,hd⟩:=tt_u htt hu;obtain rfl:=u_slice hd;obtain ⟨A,c,rfl,hc,hA⟩:=hx
  split at h
  ·rename_i i l hh ps' hi0 hb;obtain ⟨i,hi',rfl⟩:=tt_sz htt hi0;obtain ⟨rfl,rfl⟩:=by simpa using h
   obtain ⟨h1,h2,h3⟩:=bnds_spec (P:=P) hb hp hlo hlo0 hhi hhi0 true c hc w;refine ⟨.slice (if c=l.v then A else A.map (·.add (l.v*i.size))) (hh.v-l.v) (c-l.v),?_,?_⟩
   ·simp [Instr.sliceAt,run_underlying hu,Instr.slice,h1,run_sizeOf hi']
   ·refine ⟨_,_,by rw [SN.sub_v],by rw [SN.sub_v];omega,?_⟩;rw [SN.sub_v,SO.at_v]
    rcases hA with ⟨hid,rfl⟩ |⟨g1,g2⟩
    ·by_cases hcl:c=l.v
     ·right;omega
     ·left;rw [if_neg hcl];exact ⟨hid,by simp [at_add]⟩
    ·right;omega
  ·cases h
 ·rename_i n e id o hu;obtain ⟨d,hu,hd⟩:=tt_u htt hu;obtain rfl:=u_array hd;obtain ⟨hid,rfl⟩:=hx
  split at h
  ·rename_i i l hh ps' hi0 hb;obtain ⟨i,hi',rfl⟩:=tt_sz htt hi0;obtain ⟨rfl,rfl⟩:=by simpa using h
   obtain ⟨h1,h2,h3⟩:=bnds_spec (P:=P) hb hp hlo hlo0 hhi hhi0 false n (Nat.le_refl _) w;simp only [SN.lv] at h1 h3;refine ⟨.slice (some (if n=l.v then ρ.at id o.v else (ρ.at id o.v).add (l.v*i.size))) (hh.v-l.v) (n-l.v),?_,?_⟩
   ·simp only [Instr.sliceAt,Sem.run_bind,run_underlying hu,Result.andThen_ok,Instr.sureAddr,Sem.run_pure];rw [h1];simp only [Result.andThen_ok,run_sizeOf hi']
   ·refine ⟨_,_,by rw [SN.sub_v],by rw [SN.sub_v];omega,?_⟩;rw [SN.sub_v,SO.at_v]
    by_cases hcl:n=l.v
    ·right;omega
    ·left;rw [if_neg hcl];exact ⟨hid,by simp [at_add]⟩
  ·cases h
 ·rename_i e e' dd hu;obtain ⟨d,hu,hd⟩:=tt_u htt hu;obtain rfl:=u_slice hd
  split at h
  ·rename_i hee;obtain rfl:=Nat.eq_of_beq_eq_true hee
   split at h
   ·rename_i ks l hh ps' hks hb;obtain ⟨rfl,rfl⟩:=by simpa using h
    obtain ⟨hl,_,q,z,hq,hqs,_⟩:=tt_ks htt hks;have hx':TRel ρ.fz (.slice e') dd x:=hx
    cases hx' with
    |nil _ _ h0=>
     obtain ⟨h1,h2,h3⟩:=bnds_spec (P:=P) hb hp hlo hlo0 hhi hhi0 true 0 (by rw [SN.sv];omega) w;rw [SN.sv,h0] at h1 h3;have e1:hh.v=0:=by omega
     have e2:l.v=0:=by omega
     rw [e1,e2] at h1;refine ⟨.slice none 0 0,?_,?_⟩
     ·simp [Instr.sliceAt,run_underlying hu,Instr.slice,h1,run_sizeOf hq]
     ·show TRel ρ.fz (.slice e') (dd.sub l.v hh.v) _;rw [e1,e2];exact .nil _ _ (by rw [D.sub_len _ (Nat.zero_le _)])
    |empty _ _ a c h0=>
     obtain ⟨h1,h2,h3⟩:=bnds_spec (P:=P) hb hp hlo hlo0 hhi hhi0 true c (by rw [SN.sv];omega) w;rw [SN.sv,h0] at h1 h3;have e1:hh.v=0:=by omega
     have e2:l.v=0:=by omega
     rw [e1,e2] at h1;refine ⟨.slice (some a) 0 c,?_,?_⟩
     ·simp only [Instr.sliceAt,Sem.run_bind,run_underlying hu,Result.andThen_ok,Instr.slice,Sem.run_pure];rw [h1];simp only [Result.andThen_ok,run_sizeOf hq]
      by_cases hcl:c=0
      ·simp [hcl]
      ·simp [hcl,Addr.add]
     ·show TRel ρ.fz (.slice e') (dd.sub l.v hh.v) _;rw [e1,e2];exact .empty _ _ _ _ (by rw [D.sub_len _ (Nat.zero_le _)])
    |slice _ _ b o c u hc hcell hrel=>
     obtain ⟨h1,h2,h3⟩:=bnds_spec (P:=P) hb hp hlo hlo0 hhi hhi0 true c hc w;have h3':hh.v<=dd.len:=h3;rw [SN.sv] at h1;have hsz:q.size=(eks e').length:=by rw [hl];exact hqs
     have hlen:=D.sub_len dd (l:=l.v) h3';refine ⟨.slice (some (if c=l.v then ⟨b,o,none⟩ else ⟨b,o+l.v*(eks e').length,none⟩)) (hh.v-l.v) (c-l.v),?_,?_⟩
     ·simp only [Instr.sliceAt,Sem.run_bind,run_underlying hu,Result.andThen_ok,Instr.slice,Sem.run_pure];rw [h1];simp only [Result.andThen_ok,run_sizeOf hq]
      by_cases hcl:c=l.v
      ·simp [hcl]
      ·simp [hcl,hsz,addr_add]
     ·show TRel ρ.fz (.slice e') (dd.sub l.v hh.v) _
      by_cases hcl:c=l.v
      ·rw [if_pos hcl,<- hlen];exact .slice _ _ b o _ u (by omega) (fun i j hi _=>by omega) (fun i j k hi _=>by omega)
      ·rw [if_neg hcl,<- hlen];refine .slice _ _ b (o+l.v*(eks e').length) _ (fun i j=>u (l.v+i) j) (by omega) (fun i j hi hj=>?_) (fun i j k hi hk=>?_)
       ·rw [<- hcell (l.v+i) j (by omega) hj]
        congr 1
        rw [Nat.add_mul];omega
       ·rw [D.sub_el dd (by omega)];exact hrel (l.v+i) j k (by omega) hk
   ·cases h
  ·cases h
 ·rename_i e e' id o n hu;obtain ⟨d,hu,hd⟩:=tt_u htt hu;obtain rfl:=u_slice hd
  split at h
  ·rename_i hee;obtain rfl:=Nat.eq_of_beq_eq_true hee
   split at h
   ·rename_i ks l hh ps' hks hb;obtain ⟨rfl,rfl⟩:=by simpa using h
    obtain ⟨hl,_,q,z,hq,hqs,_⟩:=tt_ks htt hks;obtain ⟨A,c,rfl,hc,hA⟩:=hx;obtain ⟨h1,h2,h3⟩:=bnds_spec (P:=P) hb hp hlo hlo0 hhi hhi0 true c hc w;have hsz:q.size=(eks e').length:=by rw [hl];exact hqs
    refine ⟨.slice (if c=l.v then A else A.map (·.add (l.v*(eks e').length))) (hh.v-l.v) (c-l.v),?_,?_⟩
    ·simp only [Instr.sliceAt,Sem.run_bind,run_underlying hu,Result.andThen_ok,Instr.slice,Sem.run_pure];rw [h1];simp only [Result.andThen_ok];simp only [hsz.symm,run_sizeOf hq,Result.andThen_ok]
    ·refine ⟨_,_,by rw [SN.sub_v],by rw [SN.sub_v];omega,?_⟩
     by_cases hcl:c=l.v
     ·left
      refine ⟨by omega,fun a ha=>?_⟩;rw [if_pos hcl] at ha
      rcases hA with ⟨_,h0⟩ |⟨rfl,_,_⟩
      ·exact h0 a ha
      ·obtain rfl:=by simpa using ha
       rfl
     ·rcases hA with h0 |⟨rfl,hcap,hid⟩
      ·omega
      ·right
       rw [if_neg hcl];refine ⟨?_,by rw [SN.plus_v];omega,hid⟩;simp only [Option.map_some,addr_add,SN.plus_v,Nat.add_mul]
   ·cases h
  ·cases h
 ·rename_i s hu;obtain ⟨d,hu,hd⟩:=tt_u htt hu;obtain rfl:=u_string hd;obtain rfl:x=_:=hx
  split at h
  ·rename_i l hh ps' hb;obtain ⟨rfl,rfl⟩:=by simpa using h
   obtain ⟨h1,h2,h3⟩:=bnds_spec (P:=P) hb hp hlo hlo0 hhi hhi0 false s.size (Nat.le_refl _) w;simp only [SN.sv] at h1 h3;refine ⟨_,?_,rfl⟩;simp only [Instr.sliceAt,Sem.run_bind,run_underlying hu,Result.andThen_ok,Instr.slice];simp [h1]
  ·cases h
 ·cases h
def sIndex (tt:TT) (t:TypeId) (x i:SV):Option (V1 × List Prop):=
 match x,i with
 | .one (.agg l),.one (.sc (.int _ i))=>(match uD tt t with
   |some (.array n e)=>(match szT tt e with
    |some q=>(match idx (.lit 0) i (.lit n) q with
     |some (o,ps)=>(match partV tt l e o with |some (v,qs)=>some (v,ps++qs) |none=>none)
     |none=>none)
    |none=>none)
   |_=>none)
 | .one (.sc (.raw (.string s))),.one (.sc (.int _ i))=>(match uD tt t with
   |some .string=>some (.sc (.int .u8 (.sym ((s[i.v.toNat]?).getD 0).toNat)),[0<=i.v/\i.v<s.size])
   |_=>none)
 |_,_=>none
theorem sIndex_spec {P:Program} {tt:TT} (htt:TTOK P tt) {t:TypeId} {a b:SV} {r:V1} {ps:List Prop} (h:sIndex tt t a b=some (r,ps)) (hp:All ps) {ρ:Map} {x y:Value} (hx:UR ρ a x) (hy:UR ρ b y) (w:World):∃ v,(Instr.index t x y).run P w = .ok v w/\V1Rel ρ r v:=by
 unfold sIndex at h
 split at h
 ·obtain ⟨cs,rfl,hc⟩:=hx;obtain rfl:y=_:=hy
  split at h
  ·rename_i n e hu;obtain ⟨d,hu,hd⟩:=tt_u htt hu;obtain rfl:=u_array hd
   split at h
   ·rename_i q hq0;obtain ⟨q,hq,rfl⟩:=tt_sz htt hq0
    split at h
    ·rename_i o ps' hix
     split at h
     ·rename_i v qs hv;simp only [Option.some.injEq,Prod.mk.injEq] at h;obtain ⟨rfl,rfl⟩:=h;obtain ⟨hp1,hp2⟩:=all_append.1 hp;obtain ⟨h1,h2,h3⟩:=idx_spec hix hp1;obtain ⟨u,hu1,hu2⟩:=partV_spec htt hv hp2 hc w;refine ⟨u,?_,hu2⟩;have h2':(_:Int)<(n:Int):=h2;simp only [SO.lv,Nat.zero_add] at h3;rw [h3] at hu1;simp [Instr.index,asIntOf,run_underlying hu,h1,h2',run_sizeOf hq,hu1]
     ·cases h
    ·cases h
   ·cases h
  ·cases h
 ·rename_i s k i;obtain rfl:x=_:=hx;obtain rfl:y=_:=hy
  split at h
  ·rename_i hu;obtain ⟨d,hu,hd⟩:=tt_u htt hu;obtain rfl:=u_string hd;obtain ⟨rfl,rfl⟩:=by simpa using h
   obtain ⟨h1,h2⟩:=hp.1;have hlt:i.v.toNat<s.size:=by omega
   refine ⟨_,?_,rfl⟩;have hg:s[i.v.toNat]? = some s[i.v.toNat]:=getElem?_pos s _ hlt;simp [Instr.index,asIntOf,run_underlying hu,h1,hg,SI.sv]
  ·cases h
 ·cases h
def sUn (op:UnOp):SV->Option SC
 | .one (.sc (.bool b))=>(match op with | .not=>some (.bool (match b with | .lit b=>.lit (!b) | .sym b=>.sym (!b))) |_=>none)
 | .one (.sc (.int k n))=>(match op with | .neg=>some (.int k (mk2 n n (k.wrap (0-n.v)))) |_=>none)
 |_=>none
theorem sUn_spec {P:Program} {op:UnOp} {a:SV} {r:SC} (h:sUn op a=some r) {ρ:Map} {x:Value} (hx:UR ρ a x) (w:World):∃ v,(Op.unary op x).run P w = .ok v w/\CRel ρ r v:=by
 unfold sUn at h
 split at h
 ·obtain rfl:x=_:=hx
  split at h
  ·obtain rfl:=by simpa using h
   refine ⟨_,rfl,?_⟩
   cases ‹SB›<;>rfl
  ·cases h
 ·obtain rfl:x=_:=hx
  split at h
  ·obtain rfl:=by simpa using h
   exact ⟨_,rfl,by simp [CRel,mk2_v]⟩
  ·cases h
 ·cases h
def sConv (tt:TT) (s d:TypeId):SV->Option SC
 | .one (.sc (.int _ n))=>(match uD tt s,uD tt d with |some _,some (.int k)=>some (.int k (mk2 n n (k.wrap n.v))) |_,_=>none)
 |_=>none
theorem sConv_spec {P:Program} {tt:TT} (htt:TTOK P tt) {s d:TypeId} {a:SV} {r:SC} (h:sConv tt s d a=some r) {ρ:Map} {x:Value} (hx:UR ρ a x) (w:World):∃ v,(convert s d x).run P w = .ok v w/\CRel ρ r v:=by
 unfold sConv at h
 split at h
 ·obtain rfl:x=_:=hx
  split at h
  ·rename_i u0 k hs hd;obtain ⟨u,hs,_⟩:=tt_u htt hs;obtain ⟨v,hd,hv⟩:=tt_u htt hd;obtain rfl:=u_int hv;obtain rfl:=by simpa using h
   refine ⟨_,?_,by rw [CRel,mk2_v]⟩;simp only [convert,Sem.run_bind,run_underlying hs,run_underlying hd,Result.andThen_ok]
   cases u<;>rfl
  ·cases h
 ·cases h
def bytesOf (d:D) (lo n:Nat):ByteArray:=⟨((List.range n).map fun i=>UInt8.ofNat (d.el (lo+i) 0).toI.toNat).toArray⟩
def isU8:List K->Bool | [.int .u8]=>true |_=>false
def sConvB (tt:TT) (hp:Heap) (s d:TypeId):SV->Option (SC × List Prop)
 | .one (.sc (.osl e id lo n))=>(match uD tt s,uD tt d,uD tt e,look hp id with
   |some (.slice e'),some .string,some (.int .u8),some (.orow e'' dd)=>
    if Nat.beq e e'&&Nat.beq e e''&&isU8 (eks e) then some (.raw (.string (bytesOf dd lo.v n.v)),[0<n.v,lo.v+n.v<=dd.len,∀ i,i<n.v->0<=(dd.el (lo.v+i) 0).toI/\(dd.el (lo.v+i) 0).toI<256]) else none
   |_,_,_,_=>none)
 |_=>none
theorem isU8_eq {l:List K} (h:isU8 l=true):l=[.int .u8]:=by
 unfold isU8 at h
 split at h
 ·rfl
 ·cases h
theorem sConvB_spec {P:Program} {tt:TT} (htt:TTOK P tt) {hp:Heap} {s d:TypeId} {a:SV} {r:SC} {ps:List Prop} (h:sConvB tt hp s d a=some (r,ps)) (hps:All ps) {w0:W0} {w:World} {ρ:Map} (hw:WH w0 ρ hp w) {x:Value} (hx:UR ρ a x):∃ v,(convert s d x).run P w = .ok v w/\CRel ρ r v:=by
 unfold sConvB at h
 split at h
 ·rename_i e id lo n
  split at h
  ·rename_i e' e'' dd hs hd he hl
   split at h
   ·rename_i hb;simp only [Bool.and_eq_true] at hb;obtain ⟨⟨hb1,hb2⟩,hb3⟩:=hb;obtain rfl:=Nat.eq_of_beq_eq_true hb1;obtain rfl:=Nat.eq_of_beq_eq_true hb2;have hek:=isU8_eq hb3;simp only [Option.some.injEq,Prod.mk.injEq] at h;obtain ⟨rfl,rfl⟩:=h;obtain ⟨hn,hle,hby,_⟩:=hps;obtain ⟨u1,hs,q1⟩:=tt_u htt hs;obtain rfl:=u_slice q1;obtain ⟨u2,hd,q2⟩:=tt_u htt hd;obtain rfl:=u_string q2;obtain ⟨u3,he,q3⟩:=tt_u htt he;obtain rfl:=u_int q3;obtain ⟨A,c,rfl,hc,hA⟩:=hx;have hek1:(eks e).length=1:=by rw [hek];rfl
    rcases hA with ⟨hc0,_⟩ |⟨rfl,hcap,hid⟩
    ·omega
    ·rcases hw.ents id _ hl with ⟨g0,_⟩ |⟨_,_,_,cs,hh,hsz,hdl,hcs⟩
     ·rw [g0] at hid;cases hid
     ·have hlen:(((List.range n.v).map fun i=>UInt8.ofNat (dd.el (lo.v+i) 0).toI.toNat)).length=n.v:=by simp
      refine ⟨_,?_,rfl⟩;have:=run_convert_bytes_back (P:=P) w s d e ⟨ρ.blk id,lo.v*(eks e).length,none⟩ c ((List.range n.v).map fun i=>UInt8.ofNat (dd.el (lo.v+i) 0).toI.toNat) hs he hd (fun j hj=>by
       rw [hlen] at hj;obtain ⟨u,hu,ht⟩:=hcs (lo.v+j) 0 (.int .u8) (by omega) (by rw [hek];rfl);have hu2:u = .int .u8 (dd.el (lo.v+j) 0).toI:=by cases ht;rfl
       have ea:(⟨ρ.blk id,lo.v*(eks e).length,none⟩:Addr).add j=⟨ρ.blk id,lo.v+j,none⟩:=by
        rw [hek1,Nat.mul_one];unfold Addr.add;split
        ·rename_i h0;subst h0;rfl
        ·rfl
       rw [ea];simp only [World.cell?,hh];rw [hek1] at hu;have hu3:cs[lo.v+j]? = some u:=by rw [<- hu];congr 1;omega
       obtain ⟨b1,b2⟩:=hby j hj;have e2:((((List.range n.v).map fun i=>UInt8.ofNat (dd.el (lo.v+i) 0).toI.toNat)[j]'(by rw [hlen];exact hj)).toNat:Int)=(dd.el (lo.v+j) 0).toI:=by
        rw [List.getElem_map,List.getElem_range,UInt8.toNat_ofNat'];omega
       rw [e2,<- hu2]
       simpa using hu3)
      rw [hlen] at this;exact this
   ·cases h
  ·cases h
 ·cases h
def oSC (x:Option SC):Option (SV × List Prop):=match x with |some c=>some (.one (.sc c),[]) |none=>none
def oSP (x:Option (SC × List Prop)):Option (SV × List Prop):=match x with |some (c,ps)=>some (.one (.sc c),ps) |none=>none
def oVP (x:Option (V1 × List Prop)):Option (SV × List Prop):=match x with |some (c,ps)=>some (.one c,ps) |none=>none
theorem oSC_some {x:Option SC} {v:SV} {ps:List Prop} (h:oSC x=some (v,ps)):∃ c,x=some c/\v = .one (.sc c):=by
 unfold oSC at h
 split at h
 ·simp only [Option.some.injEq,Prod.mk.injEq] at h;exact ⟨_,rfl,h.1.symm⟩
 ·cases h
theorem oSP_some {x:Option (SC × List Prop)} {v:SV} {ps:List Prop} (h:oSP x=some (v,ps)):∃ c,x=some (c,ps)/\v = .one (.sc c):=by
 unfold oSP at h
 split at h
 ·simp only [Option.some.injEq,Prod.mk.injEq] at h;obtain ⟨rfl,rfl⟩:=h;exact ⟨_,rfl,rfl⟩
 ·cases h
theorem oVP_some {x:Option (V1 × List Prop)} {v:SV} {ps:List Prop} (h:oVP x=some (v,ps)):∃ c,x=some (c,ps)/\v = .one c:=by
 unfold oVP at h
 split at h
 ·simp only [Option.some.injEq,Prod.mk.injEq] at h;obtain ⟨rfl,rfl⟩:=h;exact ⟨_,rfl,rfl⟩
 ·cases h
def spure (tt:TT) (hp:Heap) (ev:Operand->Option SV):Op->Option (SV × List Prop)
 | .move x | .assign x=>(match ev x with |some a=>some (a,[]) |none=>none)
 | .nilCheck x=>(match ev x with
   |some (.one (.sc (.ptr id o)))=>some (.one (.sc (.ptr id o)),[])
   |some (.one (.sc (.fp e d i j)))=>some (.one (.sc (.fp e d i j)),[])
   |some (.one (.sc (.optr e id i j)))=>some (.one (.sc (.optr e id i j)),[])
   |_=>none)
 | .extract x i=>(match ev x with |some (.tup l)=>(match l[i]? with |some v=>some (.one v,[]) |none=>none) |_=>none)
 | .fieldAddr s x f=>(match ev x,sField tt s f with
   |some (.one (.sc (.ptr id o))),some k=>some (.one (.sc (.ptr id (o.add k))),[])
   |some (.one (.sc (.fp e d i j))),some k=>some (.one (.sc (.fp e d i (j+k))),[])
   |some (.one (.sc (.optr e id i j))),some k=>some (.one (.sc (.optr e id i (j+k))),[])
   |_,_=>none)
 | .field t x f=>(match ev x with
   |some (.one (.agg l))=>(match uD tt t with
    |some (.struct fs)=>(match fs[f]? with |some q=>oVP (partV tt l q.1 (.lit q.2)) |none=>none)
    |_=>none)
   |_=>none)
 | .indexAddr t x i=>(match ev x,ev i with |some a,some b=>oSP (sIndexAddr tt t a b) |_,_=>none)
 | .index t x i=>(match ev x,ev i with |some a,some b=>oVP (sIndex tt t a b) |_,_=>none)
 | .load t x=>(match ev x with |some (.one (.sc c))=>oVP (ldV tt hp t c) |_=>none)
 | .binOp op t x y _=>(match ev x,ev y with |some a,some b=>oSP (sbin tt op t a b) |_,_=>none)
 | .unOp op _ x=>(match ev x with |some a=>oSC (sUn op a) |none=>none)
 | .convert s d x=>(match ev x with |some a=>(match oSC (sConv tt s d a) with |some r=>some r |none=>oSP (sConvB tt hp s d a)) |none=>none)
 | .makeFunc fn first captured=>if Nat.beq first.size 0&&Nat.beq captured.size 0 then some (.one (.sc (.raw (.func fn #[] #[]))),[]) else (match fn,first.toList,captured.toList with | .func g,[x],[]=>(match ev x with |some (.one (.sc (.ptr id (.lit 0))))=>some (.one (.sc (.bm g id)),[]) |_=>none) |_,_,_=>none)
 | .slice t x lo hi none=>(match ev x,evi ev lo,evi ev hi with |some a,some l,some h=>oSP (sSlice tt t a l h) |_,_,_=>none)
 | .build t parts=>(match evp ev parts.toList with |some pv=>oVP (sBuild tt t pv) |none=>none)
 | .call {callee:=.builtin b,args,argTypes}=>(match evs ev args.toList with |some l=>oSC (sBuiltin tt b argTypes.toList l) |none=>none)
 |_=>none
theorem tup_get {ρ:Map}:∀ (l:List V1) (vs:List Value) (i:Nat) x,TupRel ρ l vs->l[i]? = some x->∃ v,vs[i]? = some v/\V1Rel ρ x v
 | [],vs,i,x,_,h=>by simp at h
 |a::l,[],i,x,h,_=>h.elim
 |a::l,v::vs,i,x,h,hi=>by
  cases i with
  |zero=>simp at hi;subst hi;exact ⟨v,rfl,h.1⟩
  |succ i=>simpa using tup_get l vs i x h.2 (by simpa using hi)
theorem spure_spec {P:Program} {tt:TT} (htt:TTOK P tt) {hp:Heap} {ev:Operand->Option SV} {o:Oper} {sv:SV} {ps:List Prop} (h:spure tt hp ev o.op=some (sv,ps)) (hps:All ps) {ρ:Map} {E:Operand->Value} (hE:EvOK ρ E ev) {w0:W0} {w:World} (hw:WH w0 ρ hp w) :
 ∃ v,(execOp E o).run P w = .ok (.value v) w/\UR ρ sv v:=by
 have hv:∀ {s:Sem Value} {v:Value},s.run P w = .ok v w->((do pure (.value (<- s)):Sem Next)).run P w = .ok (.value v) w:=fun h=>by rw [Sem.run_bind,h];rfl
 obtain ⟨dst,op,ty,pos,after,guard⟩:=o;dsimp only at h;unfold spure at h
 split at h
 ·split at h
  ·rename_i a ha;obtain ⟨rfl,rfl⟩:=by simpa using h
   exact ⟨_,rfl,hE _ _ ha⟩
  ·cases h
 ·split at h
  ·rename_i a ha;obtain ⟨rfl,rfl⟩:=by simpa using h
   exact ⟨_,rfl,hE _ _ ha⟩
  ·cases h
 ·rename_i x
  split at h
  ·rename_i id o ha;obtain ⟨rfl,rfl⟩:=by simpa using h
   obtain ⟨hid,hx⟩:=hE _ _ ha;refine ⟨_,?_,hid,rfl⟩;simp only [execOp,hx];rfl
  ·rename_i e d i j ha;obtain ⟨rfl,rfl⟩:=by simpa using h
   obtain ⟨b,o,hx,hr⟩:=hE _ _ ha;refine ⟨_,?_,b,o,rfl,hr⟩;simp only [execOp,hx];rfl
  ·rename_i e id i j ha;obtain ⟨rfl,rfl⟩:=by simpa using h
   obtain ⟨hid,hx⟩:=hE _ _ ha;refine ⟨_,?_,hid,rfl⟩;simp only [execOp,hx];rfl
  ·cases h
 ·rename_i x i
  split at h
  ·rename_i l ha
   split at h
   ·rename_i v hl;obtain ⟨rfl,rfl⟩:=by simpa using h
    obtain ⟨vs,hvs,ht⟩:=hE _ _ ha;obtain ⟨u,hu,hr⟩:=tup_get l vs.toList i v ht hl;have hu':vs[i]? = some u:=by rw [<- Array.getElem?_toList];exact hu
    refine ⟨u,hv ?_,hr⟩;simp only [Instr.extract,hvs,hu'];rfl
   ·cases h
  ·cases h
 ·rename_i s x f;have key:∀ {k:Nat} {A:Addr},sField tt s f=some k->E x = .pointer (some A)->(Instr.fieldAt s (E x) f).run P w = .ok (.pointer (some (A.add k))) w:=by
   intro k A hk hx;unfold sField at hk
   split at hk
   ·rename_i fs0 hu;obtain ⟨d,hu,hd⟩:=tt_u htt hu;obtain ⟨fs,rfl,hfs⟩:=u_struct hd
    split at hk
    ·rename_i q0 hq;rw [<- hfs,List.getElem?_map] at hq
     cases hq':fs.toList[f]? with
     |none=>rw [hq'] at hq;cases hq
     |some q=>
     rw [hq'] at hq;obtain rfl:=by simpa using hq
     have hqa:fs[f]? = some q:=by rw [<- Array.getElem?_toList];exact hq'
     split at hk
     ·rename_i i0 hi0;obtain ⟨i,hi,rfl⟩:=tt_sz htt hi0
      split at hk
      ·cases hk
      ·rename_i hz;obtain rfl:=by simpa using hk
       have hz':i.size≠0:=by
        intro h0;rw [h0] at hz;exact hz rfl
       simp [Instr.fieldAt,run_underlying hu,hqa,hx,Instr.sureAddr,fieldPlace,run_sizeOf hi,hz']
     ·cases hk
    ·cases hk
   ·cases hk
  split at h
  ·rename_i id o k ha hk;obtain ⟨rfl,rfl⟩:=by simpa using h
   obtain ⟨hid,hx⟩:=hE _ _ ha;exact ⟨_,hv (key hk hx),hid,by rw [at_add,SO.add_v]⟩
  ·rename_i e d i j k ha hk;obtain ⟨rfl,rfl⟩:=by simpa using h
   obtain ⟨b,o,hx,hr⟩:=hE _ _ ha;exact ⟨_,hv (key hk hx),b,o,by rw [addr_add,Nat.add_assoc],hr⟩
  ·rename_i e id i j k ha hk;obtain ⟨rfl,rfl⟩:=by simpa using h
   obtain ⟨hid,hx⟩:=hE _ _ ha;exact ⟨_,hv (key hk hx),hid,by rw [addr_add,Nat.add_assoc]⟩
  ·cases h
 ·rename_i t x f
  split at h
  ·rename_i l ha
   split at h
   ·rename_i fs0 hu;obtain ⟨d,hu,hd⟩:=tt_u htt hu;obtain ⟨fs,rfl,hfs⟩:=u_struct hd
    split at h
    ·rename_i q0 hq0;rw [<- hfs,List.getElem?_map] at hq0
     cases hq':fs.toList[f]? with
     |none=>rw [hq'] at hq0;cases hq0
     |some q=>
     rw [hq'] at hq0;obtain rfl:=by simpa using hq0
     have hq:fs[f]? = some q:=by rw [<- Array.getElem?_toList];exact hq'
     obtain ⟨c,hc,rfl⟩:=oVP_some h;obtain ⟨cs,hcs,hrel⟩:=hE _ _ ha;obtain ⟨v,h1,h2⟩:=partV_spec htt hc hps hrel w;refine ⟨v,hv ?_,h2⟩;simp only [SO.lv] at h1;simp [Instr.field,run_underlying hu,hq,hcs,asAgg,h1]
    ·cases h
   ·cases h
  ·cases h
 ·rename_i t x i
  split at h
  ·rename_i a b ha hb;obtain ⟨c,hc,rfl⟩:=oSP_some h;obtain ⟨v,h1,h2⟩:=sIndexAddr_spec htt hc hps (hE _ _ ha) (hE _ _ hb) w;exact ⟨v,hv h1,h2⟩
  ·cases h
 ·rename_i t x i
  split at h
  ·rename_i a b ha hb;obtain ⟨c,hc,rfl⟩:=oVP_some h;obtain ⟨v,h1,h2⟩:=sIndex_spec htt hc hps (hE _ _ ha) (hE _ _ hb) w;exact ⟨v,hv h1,h2⟩
  ·cases h
 ·rename_i t x
  split at h
  ·rename_i pc ha;obtain ⟨c,hc,rfl⟩:=oVP_some h;obtain ⟨A,v,hx,h1,h2⟩:=ldV_spec htt hc hps hw (hE _ _ ha);refine ⟨v,hv ?_,h2⟩;simp [Instr.loadAt,hx,Instr.sureAddr,h1]
  ·cases h
 ·rename_i bop t x y yt
  split at h
  ·rename_i a b ha hb;obtain ⟨c,hc,rfl⟩:=oSP_some h;obtain ⟨v,h1,h2⟩:=sbin_spec htt hc hps (hE _ _ ha) (hE _ _ hb) x y w;exact ⟨v,hv h1,h2⟩
  ·cases h
 ·rename_i uop t x
  split at h
  ·rename_i a ha;obtain ⟨c,hc,rfl⟩:=oSC_some h;obtain ⟨v,h1,h2⟩:=sUn_spec (P:=P) hc (hE _ _ ha) w;exact ⟨v,hv h1,h2⟩
  ·cases h
 ·rename_i s d x
  split at h
  ·rename_i a ha
   split at h
   ·rename_i r hr;obtain rfl:=Option.some.inj h;obtain ⟨c,hc,rfl⟩:=oSC_some hr;obtain ⟨v,h1,h2⟩:=sConv_spec htt hc (hE _ _ ha) w;exact ⟨v,hv h1,h2⟩
   ·obtain ⟨c,hc,rfl⟩:=oSP_some h;obtain ⟨v,h1,h2⟩:=sConvB_spec htt hc hps hw (hE _ _ ha);exact ⟨v,hv h1,h2⟩
  ·cases h
 ·rename_i fn first captured
  split at h
  ·rename_i hb;simp only [Bool.and_eq_true] at hb;obtain ⟨rfl,rfl⟩:=by simpa using h
   have h1:first=#[]:=Array.eq_empty_of_size_eq_zero (Nat.eq_of_beq_eq_true hb.1);have h2:captured=#[]:=Array.eq_empty_of_size_eq_zero (Nat.eq_of_beq_eq_true hb.2);subst h1 h2;exact ⟨.func fn #[] #[],by simp [execOp,Instr.makeFunc],rfl⟩
  ·split at h
   ·rename_i g x hfi hca
    split at h
    ·rename_i id hx;obtain ⟨rfl,rfl⟩:=by simpa using h
     obtain ⟨hid,hv⟩:=hE _ _ hx;have h1:first=#[x]:=by apply Array.toList_inj.1;rw [hfi]
     have h2:captured=#[]:=by apply Array.toList_inj.1;rw [hca]
     subst h1 h2;exact ⟨.func (.func g) #[.pointer (some (ρ.at id 0))] #[],by simp [execOp,Instr.makeFunc,hv,SO.v],hid,rfl⟩
    ·cases h
   ·cases h
 ·rename_i t x lo hi
  split at h
  ·rename_i a l hh ha hl hhh;obtain ⟨c,hc,rfl⟩:=oSP_some h;obtain ⟨g1,g2⟩:=evi_spec hE hl;obtain ⟨g3,g4⟩:=evi_spec hE hhh;obtain ⟨v,h1,h2⟩:=sSlice_spec htt hc hps (hE _ _ ha) g1 g2 g3 g4 w;exact ⟨v,hv h1,h2⟩
  ·cases h
 ·rename_i t parts
  split at h
  ·rename_i pv hpv;obtain ⟨c,hc,rfl⟩:=oVP_some h;obtain ⟨g1,g2⟩:=evp_spec hE _ _ hpv;obtain ⟨v,h1,h2⟩:=sBuild_spec htt hc hps (parts:=parts.map fun (i,x)=>(i,E x)) (by simpa using g1) (by simpa using g2) w;exact ⟨v,hv h1,h2⟩
  ·cases h
 ·rename_i b args ats
  split at h
  ·rename_i l hl;obtain ⟨c,hc,rfl⟩:=oSC_some h;obtain ⟨v,h1,h2⟩:=sBuiltin_spec htt hE hl hc ty (args.map fun | .const _=>true |_=>false) w;refine ⟨v,?_,h2⟩;have e:args.map E=(args.toList.map E).toArray:=by apply Array.toList_inj.1;simp
   rw [<- e] at h1;exact h1
  ·cases h
 ·cases h
end Go.Proofs.YtplejbgafjpomaaGreatDoor.Sx
