import Derived.Test.YtcfkhnlkfgmoiaaGreatDoorZc24
import Derived.Test.YtcfkhnlkfgmoiaaGreatDoorZc19
import Derived.Test.YtcfkhnlkfgmoiaaGreatDoorZc20
import Derived.Test.YtcfkhnlkfgmoiaaGreatDoorZc21
import Derived.HandedShaped
import Derived.Test.YtcfkhnlkfgmoiaaGreatDoorZc14
import Derived.Test.YtcfkhnlkfgmoiaaGreatDoorRows
import Derived.LaidMore
import Derived.Stop.LaidErr
import Derived.MakeChecks
import Derived.Test.YtcfkhnlkfgmoiaaGreatDoorZc15
set_option linter.unusedVariables false
set_option linter.unusedSimpArgs false
namespace Go.Proofs.YtcfkhnlkfgmoiaaGreatDoor.Sx.Z
open Go.RowKit
theorem allB_get {n:Nat} {f:Nat->Bool} (h:allB n f=true) {i:Nat} (hi:i<n):f i=true:=by
 unfold allB at h;exact List.all_eq_true.1 h i (List.mem_range.2 hi)
theorem nm_sz {s:ByteArray} (h:nmB s=true):sz s:=by
 unfold nmB at h;simp only [Bool.and_eq_true,Bool.not_eq_true',decide_eq_false_iff_not] at h;have:=h.1;unfold sz;omega
theorem nu_nI {n:Int} (h:nuB n=true):nI n:=by
 unfold nuB at h;simp only [Bool.and_eq_true,decide_eq_true_eq] at h;exact ⟨by omega,by omega⟩
theorem xF_ofs {k n:Int} {s:ByteArray} {d:D} (ih:∀ j,j<d.len->aE d j=true->kF d j) (h:aX k n s d=true):xF k n s d:=by
 refine ⟨fun e=>?_,fun e=>?_,fun e=>?_,fun e=>?_⟩
 ·subst e;exact nu_nI h
 ·subst e;exact nm_sz h
 ·have:=(aX_kids h).1 e;exact ⟨this.1,ih 0 (by omega) this.2⟩
 ·have:=(aX_kids h).2 e;exact ⟨this.1,ih 0 (by omega) this.2.1,ih 1 (by omega) this.2.2⟩
theorem kF_all:∀ (m:Nat) (d:D),SizeOf.sizeOf d<=m->∀ i,i<d.len->aE d i=true->kF d i:=by
 intro m
 induction m with
 |zero=>
  intro d h i hi;have:=lel_lt (j:=3) hi;omega
 |succ m ih=>
  intro d h i hi ha;have:=lel_lt (j:=3) hi;rw [kF_eq hi];rw [aE_eq hi] at ha;exact xF_ofs (fun j hj h2=>ih _ (by omega) j hj h2) ha
theorem xF_of {k n:Int} {s:ByteArray} {d:D} (h:aX k n s d=true):xF k n s d:=xF_ofs (fun j hj h2=>kF_all _ d (Nat.le_refl _) j hj h2) h
theorem cF_of {op lk ln rk rn:Int} {ls rs:ByteArray} {ld rd:D} (h:aC op lk ln ls ld rk rn rs rd=true):cF lk ln ls ld rk rn rs rd:=⟨xF_of (aC_two h).1,xF_of (aC_two h).2⟩
theorem and3 {a b c:Bool} (h:(a&&b&&c)=true):a=true/\b=true/\c=true:=by
 simp only [Bool.and_eq_true] at h;exact ⟨h.1.1,h.1.2,h.2⟩
theorem stFF_of {k:Int} {nm tg:ByteArray} {e c b el a:Bool} {al:Int} {E C B EL A:Prop} (h:aStF k nm tg e c b el al a=true) (he:e=true->E) (hc:c=true->C) (hb:b=true->B) (hl:el=true->EL) (ha:a=true->A):stFF k nm tg E C B EL A:=by
 refine ⟨fun q=>?_,fun q=>?_,fun q=>?_,fun q=>?_,fun q=>?_,fun q=>?_,fun q=>?_⟩<;>subst q
 ·have h:(nmB nm&&e)=true:=h;simp only [Bool.and_eq_true] at h;exact ⟨nm_sz h.1,he h.2⟩
 ·obtain ⟨x,y,z⟩:=and3 (show (c&&b&&el)=true from h);exact ⟨hc x,hb y,hl z⟩
 ·have h:(c&&b)=true:=h;simp only [Bool.and_eq_true] at h;exact ⟨hc h.1,hb h.2⟩
 ·obtain ⟨x,y,z⟩:=and3 (show (nmB nm&&nmB tg&&e)=true from h);exact ⟨nm_sz x,nm_sz y,he z⟩
 ·obtain ⟨x,_,z⟩:=and3 (show (nmB nm&&decide (al>0)&&a)=true from h);exact ⟨nm_sz x,ha z⟩
 ·exact hc h
 ·exact nm_sz h
theorem bF_all:∀ (m:Nat) (d:D),SizeOf.sizeOf d<=m->bA d=true->sOK d->bF d:=by
 intro m
 induction m with
 |zero=>
  intro d h ha hs;rw [bF_iff];refine ⟨((sOK_iff d).1 hs).1,fun i hi=>?_⟩;have:=lel_lt (j:=3) hi;omega
 |succ m ih=>
  intro d h ha hs;rw [bF_iff];obtain ⟨h1,h2⟩:=(sOK_iff d).1 hs;refine ⟨h1,fun i hi=>?_⟩;obtain ⟨s1,s2,s3,s4⟩:=h2 i hi;have l1:=lel_lt (j:=16) hi;have l2:=lel_lt (j:=17) hi;have l3:=lel_lt (j:=18) hi;rw [bA_eq] at ha;have hE:stE d i=true:=allB_get ha hi;refine stFF_of hE (fun h=>xF_of h) (fun h=>cF_of h) (fun h=>ih _ (by omega) h s1) (fun h=>ih _ (by omega) h s2) (fun h=>⟨s3,fun j hj=>?_⟩);have hj2:arE (d.el i 18) j=true:=allB_get h hj;obtain ⟨x,y,z⟩:=and3 hj2;have l4:=lel_lt (j:=2) hj;exact ⟨nm_sz x,nm_sz y,ih _ (by omega) z (s4 j hj)⟩
theorem bF_of {d:D} (h:bA d=true) (hs:sOK d):bF d:=bF_all _ d (Nat.le_refl _) h hs
theorem SyF_of {c u p:D} (h:SyOK c u p) (hA:syB c u p=true):SyF c u p:=by
 unfold syB at hA;simp only [Bool.and_eq_true] at hA;have h1:=allB_iff.1 hA.1;have h2:=allB_iff.1 hA.2.1;have h3:=allB_iff.1 hA.2.2;refine ⟨fun i hi=>?_,fun i hi=>?_,fun i hi=>?_⟩
 ·have hx:=h1 i hi;unfold chE chB at hx;simp only [Bool.and_eq_true,decide_eq_true_eq] at hx;obtain ⟨⟨⟨⟨⟨⟨⟨x1,x2⟩,x3⟩,x4⟩,x5⟩,x6⟩,x7⟩,x8⟩:=hx;exact ⟨nm_sz x1,nu_nI x4,nm_sz x5,nm_sz x6,h.ct i hi,fun j hj=>nm_sz (allB_get x8 hj)⟩
 ·have hx:=h2 i hi;unfold ruE ruB at hx;simp only [Bool.and_eq_true] at hx;refine ⟨nm_sz hx.2,h.rm i hi,fun j hj=>?_⟩;have hy:=allB_get hx.1 hj;unfold mvE at hy;simp only [Bool.and_eq_true] at hy;exact ⟨nu_nI hy.1.1,nm_sz hy.1.2,nu_nI hy.2⟩
 ·have hx:=h3 i hi;unfold prE at hx;simp only [Bool.and_eq_true] at hx;exact ⟨nm_sz hx.1.1,h.pv i hi,fun j hj=>nm_sz (allB_get hx.1.2 hj),bF_of hx.2 (h.pb i hi)⟩
def txK:ByteArray:=⟨#[99,104,97,110,32,99,32,98,108,111,99,107,32,49,32,102,114,111,109,32,112,32,116,111,32,113,32,123,32,97,32,125,32,59,32,112,114,111,99,32,112,32,123,32,115,101,110,100,32,99,32,46,32,97,32,40,32,49,32,41,32,59,32,125,32,112,114,111,99,32,113,32,123,32,125]⟩
def tcC:D:=.l [[.s ⟨#[99]⟩,.i 0,.i 1,.s ⟨#[112]⟩,.s ⟨#[113]⟩,.l [[.s ⟨#[97]⟩]]]]
def tcP:D:=.l [[.s ⟨#[112]⟩,.l [],.l [[.i 4,.s ⟨#[99]⟩,.s ⟨#[97]⟩,.i 1,.i 1,.s ByteArray.empty,.l [],.i 0,.i 0,.i 0,.s ByteArray.empty,.l [],.i 0,.i 0,.s ByteArray.empty,.l [],.l [],.l [],.l []]]],[.s ⟨#[113]⟩,.l [],.l []]]
theorem conS_subK {P:Program} {f:FuncId} {aps:List AP} {S S':List Dat->Option Eff} (h:ConOK P f (conS aps S)) (hS:∀ ds e,S' ds=some e->S ds=some e):ConOK P f (conS aps S'):=by
 refine ⟨h.enters,fun hp fr args e he=>h.calls hp fr args e ?_,fun hp fr caps e he=>?_⟩
 ·unfold conS con at he ⊢
  split at he
  ·rename_i ds ps hds
   cases hq:S' ds with
   |none=>simp only [hq] at he;cases he
   |some x=>
    simp only [hq] at he;simp only [hds,hS _ _ hq];exact he
  ·cases he
 ·unfold conS at he;rw [con_jf] at he;cases he
theorem ba_eqK {a b:ByteArray} (h:(a.toList==b.toList)=true):a=b:=by
 have h:=eq_of_beq h;rw [ByteArray.toList_eq,ByteArray.toList_eq] at h;exact ByteArray.ext (Array.toList_inj.1 h)
noncomputable def pktS:List Dat->Option Eff:=fun ds=>match ds with
 | [.s s]=>(match s.toList==txK.toList with
   |true=>some {val:=.tup [.agg [.c (.osl 118 0 (.lit 0) (.sym (D.len (.l [[.s ⟨#[99]⟩,.i 0,.i 1,.s ⟨#[112]⟩,.s ⟨#[113]⟩,.l [[.s ⟨#[97]⟩]]]])))),.c (.osl 121 1 (.lit 0) (.sym (D.len (.l [])))),.c (.osl 126 2 (.lit 0) (.sym (D.len (.l [[.s ⟨#[112]⟩,.l [],.l [[.i 4,.s ⟨#[99]⟩,.s ⟨#[97]⟩,.i 1,.i 1,.s ByteArray.empty,.l [],.i 0,.i 0,.i 0,.s ByteArray.empty,.l [],.i 0,.i 0,.s ByteArray.empty,.l [],.l [],.l [],.l []]]],[.s ⟨#[113]⟩,.l [],.l []]]))))],.sc (.int .i64 (.sym 0)),.sc (.int .i64 (.sym 0))],vc:=[s.size<=140737488351232],nw:=[(0,.orow 118 (.l [[.s ⟨#[99]⟩,.i 0,.i 1,.s ⟨#[112]⟩,.s ⟨#[113]⟩,.l [[.s ⟨#[97]⟩]]]])),(1,.orow 121 (.l [])),(2,.orow 126 (.l [[.s ⟨#[112]⟩,.l [],.l [[.i 4,.s ⟨#[99]⟩,.s ⟨#[97]⟩,.i 1,.i 1,.s ByteArray.empty,.l [],.i 0,.i 0,.i 0,.s ByteArray.empty,.l [],.i 0,.i 0,.s ByteArray.empty,.l [],.l [],.l [],.l []]]],[.s ⟨#[113]⟩,.l [],.l []]]))]}
   |false=>none)
 |_=>none
set_option maxRecDepth 100000 in
theorem tk_facts:paC txK=tcC/\paU txK = .l []/\paP txK=tcP/\paA txK=0/\paE txK=0:=⟨by kernel_rfl,by kernel_rfl,by kernel_rfl,by decide +kernel,by decide +kernel⟩
theorem pkt_ok:ConOK Tryz.prog 17 (conS [.sc .str] pktS):=conS_subK par_ok fun ds e h=>by
 unfold pktS at h
 split at h
 ·rename_i s
  split at h
  ·rename_i hs;obtain rfl:=ba_eqK hs;obtain ⟨a,b,c,d,e⟩:=tk_facts;rw [<- h];unfold parS;simp only [a,b,c,d,e];rfl
  ·cases h
 ·cases h
theorem lt1 {P:Nat->Prop} (h:P 0):∀ i,i<1->P i:=fun i hi=>by obtain rfl:i=0:=by omega
                                                             exact h
theorem lt2 {P:Nat->Prop} (h:P 0) (h1:P 1):∀ i,i<2->P i:=fun i hi=>by
 have:i=0 ∨ i=1:=by omega
 rcases this with rfl |rfl
 ·exact h
 ·exact h1
theorem tk_al:allB tcC.len (chE tcC)=true:=by kernel_rfl
theorem tk_pr:allB tcP.len (prE tcP)=true:=by
 show allB 2 _=true;rw [allB_2];unfold prE;rw [bA_eq,bA_eq]
 kernel_rfl
theorem tk_sy:syB tcC (.l []) tcP=true:=by
 unfold syB;rw [tk_al,tk_pr];rfl
theorem tk_ok:SyOK tcC (.l []) tcP:=⟨(show (1:Nat)<=10000000000000 by decide),lt1 (show (1:Nat)<=10000000000000 by decide),Nat.zero_le _,fun i h=>absurd h (Nat.not_lt_zero i),(show (2:Nat)<=10000000000000 by decide),lt2 (Nat.zero_le _) (Nat.zero_le _),lt2 (by
 rw [sOK_iff];refine ⟨(show (1:Nat)<=10000000000000 by decide),lt1 ⟨?_,?_,?_⟩⟩
 ·rw [sOK_iff];exact ⟨Nat.zero_le _,fun i h=>absurd h (Nat.not_lt_zero i)⟩
 ·rw [sOK_iff];exact ⟨Nat.zero_le _,fun i h=>absurd h (Nat.not_lt_zero i)⟩
 ·exact ⟨Nat.zero_le _,fun i h=>absurd h (Nat.not_lt_zero i)⟩) (by
 rw [sOK_iff];exact ⟨Nat.zero_le _,fun i h=>absurd h (Nat.not_lt_zero i)⟩)⟩
theorem tk_ck:CkOK tcC (.l []) tcP where
 w1:=tk_ok
 w2:=fun h _=>SyF_of tk_ok h
 w3:=by
  unfold wdE;rw [if_pos tk_sy]
  repeat' split
  all_goals decide
 d:=by kernel_rfl
 dt:=lt1 (show (1:Nat)<=4000000000000 by decide)
 r:=rfl
 c:=⟨(show (1:Nat)<=1000000 by decide),(show (2:Nat)<=1000000 by decide),lt1 (of_decide_eq_true (by kernel_rfl)),lt1 (of_decide_eq_true (by kernel_rfl)),lt1 (of_decide_eq_true (by kernel_rfl))⟩
 p:=⟨(show (2:Nat)<=1000000 by decide),lt2 (Nat.zero_le _) (Nat.zero_le _),lt2 rfl rfl,lt2 ⟨(show (1:Nat)<=1000000 by decide),lt1 ⟨rfl,rfl,(show (1:Nat)<=4000000000000 by decide),(of_decide_eq_true (by kernel_rfl)),by kernel_rfl,(of_decide_eq_true (by kernel_rfl)),(of_decide_eq_true (by kernel_rfl))⟩⟩ ⟨Nat.zero_le _,fun i h=>absurd h (Nat.not_lt_zero i)⟩⟩
theorem tk_ri:riK (cpTo tcC.len (bcR tcC tcP)) (cpTo tcP.len (bpR tcC tcP))=true:=by
 have h1:allB (cpTo tcC.len (bcR tcC tcP)).len (chK (cpTo tcP.len (bpR tcC tcP)).len (cpTo tcC.len (bcR tcC tcP)))=true:=by kernel_rfl
 have h2:allB (cpTo tcP.len (bpR tcC tcP)).len (prK (cpTo tcC.len (bcR tcC tcP)) (cpTo tcP.len (bpR tcC tcP)))=true:=by
  show allB 2 _=true;rw [allB_2];unfold prK;rw [bkR_eq,bkR_eq]
  kernel_rfl
 have h0:(decide (((cpTo tcC.len (bcR tcC tcP)).len:Int)>4) ||decide (((cpTo tcP.len (bpR tcC tcP)).len:Int)<1) ||decide (((cpTo tcP.len (bpR tcC tcP)).len:Int)>4))=false:=by kernel_rfl
 unfold riK;rw [h0,h1,h2];rfl
theorem tk_ri0:riK (.l []) (.l [])=false:=by kernel_rfl
theorem tk_kb:∀ i,i<(cpTo tcP.len (bpR tcC tcP)).len->kOK ((cpTo tcP.len (bpR tcC tcP)).el i 1):=lt2 (by
 rw [kOK_iff];refine ⟨(show (1:Nat)<=4000000000000 by decide),lt1 ⟨?_,?_,?_⟩⟩
 ·rw [kOK_iff];exact ⟨Nat.zero_le _,fun i h=>absurd h (Nat.not_lt_zero i)⟩
 ·rw [kOK_iff];exact ⟨Nat.zero_le _,fun i h=>absurd h (Nat.not_lt_zero i)⟩
 ·exact ⟨Nat.zero_le _,fun i h=>absurd h (Nat.not_lt_zero i)⟩) (by
 rw [kOK_iff];exact ⟨Nat.zero_le _,fun i h=>absurd h (Nat.not_lt_zero i)⟩)
noncomputable def cksS:FSpec:=fun ds _=>match ds with
 | []=>some {val:=.one (.sc (.bool (.sym (true)))),vc:=[]}
 |_=>none
noncomputable def cksC:Con:=con [] cksS
set_option maxRecDepth 100000 in
theorem cks_ok:ConOK Tryz.prog 8 cksC:=by
 refine fn_ob tt_ok mixed Tryz.func8 rfl (fun _ _=>by kernel_rfl) (A:=fun ds=>⟨fun _=>Cons.of [(17,(conS [.sc .str] pktS)),(13,kchkC),(9,kriC)],fun _=>none,fun _=>none⟩) (fun _ _=>(cons_cons pkt_ok (cons_cons kchk_ok (cons_cons kri_ok cons_nil)))) (by kernel_rfl) ?_
 intro ds fr;unfold cksS;split
 ·skip
  refine kmp (q:=withv ((D.l [[D.s (ByteArray.mk #[112]),D.l [],D.l [[D.i 4,D.s (ByteArray.mk #[99]),D.s (ByteArray.mk #[97]),D.i 1,D.i 1,D.s ByteArray.empty,D.l [],D.i 0,D.i 0,D.i 0,D.s ByteArray.empty,D.l [],D.i 0,D.i 0,D.s ByteArray.empty,D.l [],D.l [],D.l [],D.l []]]],[D.s (ByteArray.mk #[113]),D.l [],D.l []]]).sub ((0:Nat)) ((0:Nat)+(2:Nat))) fun E246=>withv ((D.l [[D.s (ByteArray.mk #[99]),D.i 0,D.i 1,D.s (ByteArray.mk #[112]),D.s (ByteArray.mk #[113]),D.l [[D.s (ByteArray.mk #[97])]]]]).sub ((0:Nat)) 1) fun E247=>withv (cpTo E247.len (bcR E247 E246)) fun E248=>withv (cpTo E246.len (bpR E247 E246)) fun E249=>(ByteArray.mk (([(99:UInt8),(104:UInt8),(97:UInt8),(110:UInt8),(32:UInt8),(99:UInt8),(32:UInt8),(98:UInt8),(108:UInt8),(111:UInt8),(99:UInt8),(107:UInt8),(32:UInt8),(49:UInt8),(32:UInt8),(102:UInt8),(114:UInt8),(111:UInt8),(109:UInt8),(32:UInt8),(112:UInt8),(32:UInt8),(116:UInt8),(111:UInt8),(32:UInt8),(113:UInt8),(32:UInt8),(123:UInt8),(32:UInt8),(97:UInt8),(32:UInt8),(125:UInt8),(32:UInt8),(59:UInt8),(32:UInt8),(112:UInt8),(114:UInt8)].append [(111:UInt8),(99:UInt8),(32:UInt8),(112:UInt8),(32:UInt8),(123:UInt8),(32:UInt8),(115:UInt8),(101:UInt8),(110:UInt8),(100:UInt8),(32:UInt8),(99:UInt8),(32:UInt8),(46:UInt8),(32:UInt8),(97:UInt8),(32:UInt8),(40:UInt8),(32:UInt8),(49:UInt8),(32:UInt8),(41:UInt8),(32:UInt8),(59:UInt8),(32:UInt8),(125:UInt8),(32:UInt8),(112:UInt8),(114:UInt8),(111:UInt8),(99:UInt8),(32:UInt8),(113:UInt8),(32:UInt8),(123:UInt8),(32:UInt8),(125:UInt8)]).toArray)).size<=140737488351232/\(0:Nat)+(1:Nat)<=(D.l [[D.s (ByteArray.mk #[99]),D.i 0,D.i 1,D.s (ByteArray.mk #[112]),D.s (ByteArray.mk #[113]),D.l [[D.s (ByteArray.mk #[97])]]]]).len/\(0:Nat)+(0:Nat)<=(D.l []).len/\(0:Nat)+(2:Nat)<=(D.l [[D.s (ByteArray.mk #[112]),D.l [],D.l [[D.i 4,D.s (ByteArray.mk #[99]),D.s (ByteArray.mk #[97]),D.i 1,D.i 1,D.s ByteArray.empty,D.l [],D.i 0,D.i 0,D.i 0,D.s ByteArray.empty,D.l [],D.i 0,D.i 0,D.s ByteArray.empty,D.l [],D.l [],D.l [],D.l []]]],[D.s (ByteArray.mk #[113]),D.l [],D.l []]]).len/\CkOK E247 ((D.l []).sub ((0:Nat)) ((0:Nat)+(0:Nat))) E246/\((((0:Int)==(0:Int) ||false)&&(E248.len:Int)==(1:Int))=true/\True->(0:Nat)<E248.len)/\((((0:Int)==(0:Int) ||false)&&(E248.len:Int)==(1:Int)&&ixC E246 (ByteArray.mk #[112])==(0:Int))=true/\True->(0:Nat)<E248.len)/\((((0:Int)==(0:Int) ||false)&&(E248.len:Int)==(1:Int)&&ixC E246 (ByteArray.mk #[112])==(0:Int)&&ixC E246 (ByteArray.mk #[113])==(1:Int)&&(E249.len:Int)==(2:Int))=true/\True->∀ (i:Nat),i<E249.len->kOK (E249.el i 1))/\((((0:Int)==(0:Int) ||false)&&(E248.len:Int)==(1:Int)&&ixC E246 (ByteArray.mk #[112])==(0:Int)&&ixC E246 (ByteArray.mk #[113])==(1:Int)&&(E249.len:Int)==(2:Int)&&riK E248 E249)=true/\True->∀ (i:Nat),i<(D.l []).len->kOK ((D.l []).el i 1))/\(((0:Int)==(0:Int) ||false)&&(E248.len:Int)==(1:Int)&&ixC E246 (ByteArray.mk #[112])==(0:Int)&&ixC E246 (ByteArray.mk #[113])==(1:Int)&&(E249.len:Int)==(2:Int)&&riK E248 E249 && !riK (D.l []) (D.l []))=true) (by kernel_rfl) ?_
  dsimp +instances only [withv]
  have eC:D.sub (.l [[.s ⟨#[99]⟩,.i 0,.i 1,.s ⟨#[112]⟩,.s ⟨#[113]⟩,.l [[.s ⟨#[97]⟩]]]]) 0 (0+1)=tcC:=rfl;have eP:D.sub (.l [[.s ⟨#[112]⟩,.l [],.l [[.i 4,.s ⟨#[99]⟩,.s ⟨#[97]⟩,.i 1,.i 1,.s ByteArray.empty,.l [],.i 0,.i 0,.i 0,.s ByteArray.empty,.l [],.i 0,.i 0,.s ByteArray.empty,.l [],.l [],.l [],.l []]]],[.s ⟨#[113]⟩,.l [],.l []]]) 0 (0+2)=tcP:=rfl;have eU:D.sub (.l []) 0 (0+0) = .l []:=rfl;rw [eC,eP,eU,tk_ri,tk_ri0];exact ⟨of_decide_eq_true (by kernel_rfl),Nat.le_refl _,Nat.le_refl _,Nat.le_refl _,tk_ck,fun _=>of_decide_eq_true (by kernel_rfl),fun _=>of_decide_eq_true (by kernel_rfl),fun _=>tk_kb,fun _ i h=>absurd h (Nat.not_lt_zero i),by kernel_rfl⟩
 ·trivial
end Go.Proofs.YtcfkhnlkfgmoiaaGreatDoor.Sx.Z
namespace Go.Proofs.YtcfkhnlkfgmoiaaGreatDoor.Sx.Z
open Go.RowKit
theorem el4 {n i j:Nat} {f:Nat->List D} (h:i<n):(cpTo n f).el i j=(f i).getD j (.i 0):=by
 show (((List.range n).map f).getD i []).getD j (.i 0)=_;rw [List.getD_eq_getElem?_getD (l:=(List.range n).map f),List.getElem?_map,List.getElem?_range h];rfl
theorem allB_cong {n:Nat} {f g:Nat->Bool} (h:∀ i,i<n->f i=g i):allB n f=allB n g:=by
 rw [Bool.eq_iff_iff,allB_iff,allB_iff];exact ⟨fun q i hi=>(h i hi).symm.trans (q i hi),fun q i hi=>(h i hi).trans (q i hi)⟩
theorem c4E_len (d:D):(c4E d).len=d.len:=by rw [c4E_eq,cpTo_len]
theorem c4B_len (d:D):(c4B d).len=d.len:=by rw [c4B_eq,cpTo_len]
theorem c4C_len (d:D):(c4C d).len=d.len:=by rw [c4C,cpTo_len]
theorem c4P_len (d:D):(c4P d).len=d.len:=by rw [c4P,cpTo_len]
theorem c4E_el {d:D} {i:Nat} (h:i<d.len) (j:Nat):(c4E d).el i j=(x4R d i).getD j (.i 0):=by rw [c4E_eq,el4 h]
theorem c4B_el {d:D} {i:Nat} (h:i<d.len) (j:Nat):(c4B d).el i j=(s4R d i).getD j (.i 0):=by rw [c4B_eq,el4 h]
theorem c4C_el {d:D} {i:Nat} (h:i<d.len) (j:Nat):(c4C d).el i j=(ch4 d i).getD j (.i 0):=by rw [c4C,el4 h]
theorem c4P_el {d:D} {i:Nat} (h:i<d.len) (j:Nat):(c4P d).el i j=(pr4 d i).getD j (.i 0):=by rw [c4P,el4 h]
theorem xkX_cps {vs k n v:Int} {e:D} (ih:∀ i,i<e.len->xkE vs (c4E e) i=xkE vs e i):xkX vs k n v (c4E e)=xkX vs k n v e:=by
 unfold xkX xkB;rw [c4E_len];split
 ·rfl
 ·split
  ·rfl
  ·split
   ·by_cases hl:e.len=1
    ·rw [ih 0 (by omega)]
    ·have q:((e.len:Int)==1)=false:=by simpa using (by omega:¬ (e.len:Int)=1)
     rw [q];rfl
   ·split
    ·by_cases hl:e.len=2
     ·rw [ih 0 (by omega),ih 1 (by omega)]
     ·have q:((e.len:Int)==2)=false:=by simpa using (by omega:¬ (e.len:Int)=2)
      rw [q];rfl
    ·rfl
theorem xkE_cpA (vs:Int):∀ (m:Nat) (d:D),SizeOf.sizeOf d<=m->∀ i,i<d.len->xkE vs (c4E d) i=xkE vs d i:=by
 intro m
 induction m with
 |zero=>
  intro d hm i hi;have:=lel_lt (j:=0) hi;omega
 |succ m ih=>
  intro d hm i hi;have z:=lel_lt (j:=3) hi;rw [xkE_eq (by rw [c4E_len];exact hi),xkE_eq hi,c4E_el hi,c4E_el hi,c4E_el hi,c4E_el hi];exact xkX_cps fun j hj=>ih _ (by omega) j hj
theorem xkX_cp {vs k n v:Int} {e:D}:xkX vs k n v (c4E e)=xkX vs k n v e:=xkX_cps fun i hi=>xkE_cpA vs _ e (Nat.le_refl _) i hi
theorem xkC_cp {vs op lk ln lv:Int} {ld:D} {rk rn rv:Int} {rd:D}:xkC vs op lk ln lv (c4E ld) rk rn rv (c4E rd)=xkC vs op lk ln lv ld rk rn rv rd:=by
 unfold xkC;rw [xkX_cp,xkX_cp]
theorem pl_lt {c:Int} {n:Nat} (h:plK c n=true):c.toNat<n:=by
 have:=plK_iff.1 h;omega
theorem skD_cp {ch:D} {pc c t:Int}:skD (c4C ch) pc c t=skD ch pc c t:=by
 unfold skD;rw [c4C_len]
 cases hp:plK c ch.len with
 |false=>rfl
 |true=>rw [c4C_el (pl_lt hp),c4C_el (pl_lt hp)];rfl
theorem tgU_cp {am:D} {f:Nat->List D} (hf:∀ j,((f j).getD 0 (.i 0)).toI=(am.el j 0).toI) {n:Nat} (h:n<=am.len) (t:Int):tgU (cpTo am.len f) n t=tgU am n t:=by
 rw [Bool.eq_iff_iff,tgU_iff,tgU_iff];constructor
 ·rintro ⟨j,h1,h2⟩;rw [el4 (by omega),hf] at h2;exact ⟨j,h1,h2⟩
 ·rintro ⟨j,h1,h2⟩;refine ⟨j,h1,?_⟩;rw [el4 (by omega),hf];exact h2
theorem rvK_cps {ch:D} {pc vs c:Int} {am:D} (ih:∀ j,j<am.len->bkR (c4C ch) pc vs (c4B (am.el j 2))=bkR ch pc vs (am.el j 2)):rvK (c4C ch) pc vs c (cpTo am.len (a4R am))=rvK ch pc vs c am:=by
 unfold rvK;rw [c4C_len,cpTo_len]
 cases hp:plK c ch.len with
 |false=>rfl
 |true=>
  rw [c4C_el (pl_lt hp),c4C_el (pl_lt hp)]
  congr 1
  refine allB_cong fun j hj=>?_
  unfold arK;rw [tgU_cp (f:=a4R am) (fun _=>rfl) (by omega),el4 hj,el4 hj,el4 hj];show (_&&bkR (c4C ch) pc vs (c4B (am.el j 2)))=_;rw [ih j hj];rfl
theorem bkR_cpA (ch:D) (pc vs:Int):∀ (m:Nat) (d:D),SizeOf.sizeOf d<=m->bkR (c4C ch) pc vs (c4B d)=bkR ch pc vs d:=by
 intro m
 induction m with
 |zero=>
  intro d hm;rw [bkR_eq,bkR_eq,c4B_len];refine allB_cong fun i hi=>?_
  have:=lel_lt (j:=0) hi;omega
 |succ m ih=>
  intro d hm;rw [bkR_eq,bkR_eq,c4B_len];refine allB_cong fun i hi=>?_
  have z1:=lel_lt (j:=17) hi;have z2:=lel_lt (j:=18) hi;have z3:=lel_lt (j:=19) hi;unfold skE;simp only [c4B_el hi];show skS (c4C ch) pc vs (d.el i 0).toI (d.el i 1).toI (d.el i 2).toI (d.el i 3).toI (d.el i 4).toI (d.el i 5).toI (d.el i 6).toI (c4E (d.el i 7)) (d.el i 8).toI (d.el i 9).toI (d.el i 10).toI (d.el i 11).toI (c4E (d.el i 12)) (d.el i 13).toI (d.el i 14).toI (d.el i 15).toI (c4E (d.el i 16)) (c4B (d.el i 17)) (c4B (d.el i 18)) (cpTo (d.el i 19).len (a4R (d.el i 19)))=_;unfold skS;rw [xkX_cp,xkC_cp,skD_cp,ih (d.el i 17) (by omega),ih (d.el i 18) (by omega),rvK_cps fun j hj=>ih _ (by have:=lel_lt (j:=2) hj;omega),c4E_len,c4E_len,c4E_len,c4B_len,c4B_len,cpTo_len]
theorem bkR_cp {ch:D} {pc vs:Int} {d:D}:bkR (c4C ch) pc vs (c4B d)=bkR ch pc vs d:=bkR_cpA ch pc vs _ d (Nat.le_refl _)
theorem tpA_nD {d:D} {n k a:Int}:∀ t,tpA (nD d) n k a t=tpA d n k a t
 | 0=>rfl
 |t+1=>by
  rw [tpA,tpA,tpA_nD t];rfl
theorem tpR_cp {ru:D}:∀ k,k<=ru.len->tpR (cpTo ru.len (rl4 ru)) k=tpR ru k
 | 0,_=>rfl
 |k+1,h=>by
  rw [tpR,tpR,tpR_cp k (by omega),cpTo_len,el4 (by omega)];exact tpA_nD _
theorem rwK_cp {ru:D} {ts:Int} {k:Nat} (h:k<ru.len):rwK (cpTo ru.len (rl4 ru)) ts k=rwK ru ts k:=by
 unfold rwK;rw [el4 h,cpTo_len];rfl
theorem ruK_cp {ts:Int} {ru:D}:ruK ts (cpTo ru.len (rl4 ru))=ruK ts ru:=by
 unfold ruK;rw [cpTo_len,tpR_cp _ (Nat.le_refl _),allB_cong (g:=rwK ru ts) fun i hi=>rwK_cp hi]
theorem chK_cp {n:Int} {ch:D} {i:Nat} (h:i<ch.len):chK n (c4C ch) i=chK n ch i:=by
 unfold chK;simp only [c4C_el h];show chKb n (ch.el i 0).toI (ch.el i 1).toI (ch.el i 2).toI (ch.el i 3).toI (ch.el i 4).toI (cpTo (ch.el i 5).len (rl4 (ch.el i 5)))=_;unfold chKb;rw [ruK_cp]
theorem riK_cp {ch pr:D}:riK (c4C ch) (c4P pr)=riK ch pr:=by
 have h2:allB pr.len (prK (c4C ch) (c4P pr))=allB pr.len (prK ch pr):=allB_cong fun i hi=>by
  unfold prK;simp only [c4P_el hi];show (_&&bkR (c4C ch) i (pr.el i 0).toI (c4B (pr.el i 1)))=_;rw [bkR_cp];rfl
 unfold riK;rw [c4C_len,c4P_len,allB_cong (g:=chK pr.len ch) fun i hi=>chK_cp hi,h2]
theorem kOK_of:∀ (m:Nat) (d:D),SizeOf.sizeOf d<=m->b4S d->kOK d/\kOK (c4B d):=by
 intro m
 induction m with
 |zero=>
  intro d hm h;have h0:d.len=0:=by
   rcases Nat.eq_zero_or_pos d.len with h |h
   ·exact h
   ·have:=lel_lt (j:=0) h;omega
  rw [kOK_iff,kOK_iff,c4B_len];exact ⟨⟨by omega,fun i hi=>by omega⟩,by omega,fun i hi=>by omega⟩
 |succ m ih=>
  intro d hm h;rw [b4S_iff] at h;rw [kOK_iff,kOK_iff,c4B_len];have hl:=h.1;have key:∀ i,i<d.len->(kOK (d.el i 17)/\kOK (c4B (d.el i 17)))/\(kOK (d.el i 18)/\kOK (c4B (d.el i 18)))/\amK (d.el i 19)/\amK (cpTo (d.el i 19).len (a4R (d.el i 19))):=fun i hi=>by
   obtain ⟨_,_,_,h1,h2,h3,h4⟩:=h.2 i hi;have z1:=lel_lt (j:=17) hi;have z2:=lel_lt (j:=18) hi;have z3:=lel_lt (j:=19) hi;have hj:∀ j,j<(d.el i 19).len->kOK ((d.el i 19).el j 2)/\kOK (c4B ((d.el i 19).el j 2)):=fun j hj=>ih _ (by have:=lel_lt (j:=2) hj;omega) (h4 j hj)
   refine ⟨ih _ (by omega) h1,ih _ (by omega) h2,⟨by omega,fun j hj'=>(hj j hj').1⟩,by rw [cpTo_len];omega,fun j hj'=>?_⟩;rw [cpTo_len] at hj';rw [el4 hj'];exact (hj j hj').2
  refine ⟨⟨by omega,fun i hi=>?_⟩,by omega,fun i hi=>?_⟩
  ·obtain ⟨a,b,c,_⟩:=key i hi;exact ⟨a.1,b.1,c⟩
  ·obtain ⟨a,b,_,c⟩:=key i hi;rw [c4B_el hi,c4B_el hi,c4B_el hi];exact ⟨a.2,b.2,c⟩
noncomputable def ckrS:FSpec:=fun ds _=>match ds with
 | [.d ch,.d pr]=>some {val:=.one (.sc (.bool (.lit true))),vc:=[Sy4 ch pr]}
 |_=>none
noncomputable def ckrC:Con:=con [qPr] ckrS
theorem ckr_ok:ConOK Tryz.prog 3 ckrC:=by
 refine fn_ob tt_ok mixed Tryz.func3 rfl (fun _ _=>by kernel_rfl) (A:=fun ds=>⟨fun _=>Cons.of [(8,cksC),(9,kriC),(10,p4cC),(11,qriC)],fun _=>none,fun _=>none⟩) (fun _ _=>(cons_cons cks_ok (cons_cons kri_ok (cons_cons p4c_ok (cons_cons qri_ok cons_nil))))) (by kernel_rfl) ?_
 intro ds fr;unfold ckrS;split
 ·rename_i ch pr;refine kmp (q:=Sy4 ch pr->(true=true/\True->Sy4 ch pr)/\(true=true/\True->∀ (i:Nat),i<(c4P pr).len->kOK ((c4P pr).el i 1))/\(true=true/\True->∀ (i:Nat),i<pr.len->kOK (pr.el i 1))/\(true&&riK (c4C ch) (c4P pr)==riK ch pr)=true) (by kernel_rfl) ?_
  intro hs;have hk:=fun i (hi:i<pr.len)=>kOK_of _ _ (Nat.le_refl _) (hs.b i hi)
  refine ⟨fun _=>hs,fun _ i hi=>?_,fun _ i hi=>(hk i hi).1,?_⟩
  ·rw [c4P_len] at hi;rw [c4P_el hi];exact (hk i hi).2
  ·rw [riK_cp,Bool.true_and,beq_self_eq_true]
 ·trivial
end Go.Proofs.YtcfkhnlkfgmoiaaGreatDoor.Sx.Z
namespace Go.Proofs.YtcfkhnlkfgmoiaaGreatDoor.Sx
open Go.RowKit Go.WideShapes
inductive DOkB (P:Program):K->D->Prop
 |int (k:IntKind) (d:D):DOkB P (.int k) d
 |bool (d:D):DOkB P .bool d
 |str (d:D):DOkB P .str d
 |slice (e:TypeId) (d:D):d.len*P.bytesOf e<=reachBytes->(∀ i j k,i<d.len->(eks e)[j]? = some k->DOkB P k (d.el i j))->DOkB P (.slice e) d
def CellsInB (P:Program) (fz:Fz) (ks:List K) (cs:List Value):Prop:=cs.length=ks.length/\∀ (j:Nat) k,ks[j]? = some k->∃ u d,cs[j]? = some u/\TRel fz k d u/\DOkB P k d
theorem cellsInB_one {P:Program} {fz:Fz} {k:K} {v:Value} {d:D} (h:TRel fz k d v) (hd:DOkB P k d):CellsInB P fz [k] [v]:=⟨rfl,fun j k' hk=>by
 cases j with
 |zero=>simp only [List.getElem?_cons_zero,Option.some.injEq] at hk;subst hk;exact ⟨v,d,rfl,h,hd⟩
 |succ j=>simp at hk⟩
section
variable {P:Program} {tt:TT} {H:Type} {enc:TypeId × Value->H} {w:World} {base:Nat} {spare:Nat->Bool} {held:Bool}
theorem zero_b {b:Nat}:(D.l []).len*b<=reachBytes:=by show 0*b<=_;rw [Nat.zero_mul];exact Nat.zero_le _
theorem weightsAll_mem {e:TypeId} {l:List (DataW H)} {d:DataW H} {y:Nat} (hd:d∈l) (hy:y∈DataW.weights P e d):y∈DataW.weightsAll P e l:=by
 induction l with
 |nil=>cases hd
 |cons a r ih=>
  rw [DataW.weightsAll]
  rcases List.mem_cons.1 hd with rfl |hd
  ·exact List.mem_append_left _ hy
  ·exact List.mem_append_right _ (ih hd)
theorem weightsEach_mem:∀ {ts:List TypeId} {l:List (DataW H)} {i:Nat} {t:TypeId} {d:DataW H} {y:Nat},ts[i]? = some t->l[i]? = some d->y∈DataW.weights P t d->y∈DataW.weightsEach P ts l
 | [],l,i,t,d,y,ht,_,_=>by cases ht
 |_::_,[],i,t,d,y,_,hl,_=>by cases hl
 |t0::ts,d0::l,0,t,d,y,ht,hl,hy=>by
  cases ht;cases hl
  rw [DataW.weightsEach];exact List.mem_append_left _ hy
 |t0::ts,d0::l,i+1,t,d,y,ht,hl,hy=>by
  rw [DataW.weightsEach];exact List.mem_append_right _ (weightsEach_mem (i:=i) ht hl hy)
theorem kF_inB {n:Nat} {f:Nat} (ih:∀ (t:TypeId) (ks:List K) (cs:List Value) x,kT tt f t=some ks->DataW.trod enc P w base spare held n t cs=some x->(∀ y∈DataW.weights P t x.1,y<=reachBytes)->CellsInB P (cellsAt w) ks cs) {cs:List Value} :
 ∀ (fs:List (TypeId × Nat)) (q:Nat) (ks:List K),kF (kT tt f) fs q=some ks->(∀ p∈fs,∃ x,DataW.trod enc P w base spare held n p.1 ((cs.drop p.2).take (P.cellsOf p.1))=some x/\∀ y∈DataW.weights P p.1 x.1,y<=reachBytes) ->
   ∀ (j:Nat) k,ks[j]? = some k->∃ u d,cs[q+j]? = some u/\TRel (cellsAt w) k d u/\DOkB P k d
 | [],q,ks,h,_,j,k,hk=>by
   simp only [kF,Option.some.injEq] at h;subst h;simp at hk
 |(T,o)::r,q,ks,h,hf,j,k,hk=>by
  simp only [kF] at h
  split at h
  ·rename_i ho;obtain rfl:=Nat.eq_of_beq_eq_true ho
   split at h
   ·rename_i a ha
    split at h
    ·rename_i b hb;obtain rfl:=by simpa using h
     obtain ⟨x,hx,hw⟩:=hf (T,o) (List.mem_cons_self ..);obtain ⟨h1,h2⟩:=ih T a _ x ha hx hw
     by_cases hj:j<a.length
     ·rw [List.getElem?_append_left hj] at hk;obtain ⟨u,d,hu,hr,hd⟩:=h2 j k hk;refine ⟨u,d,?_,hr,hd⟩;have hlt:=lt_of_get hu;rw [List.length_take] at hlt;rw [List.getElem?_take_of_lt (by omega),List.getElem?_drop] at hu;exact hu
     ·rw [List.getElem?_append_right (by omega)] at hk;obtain ⟨u,d,hu,hr,hd⟩:=kF_inB ih r (o+a.length) b hb (fun p hp=>hf p (List.mem_cons_of_mem _ hp)) (j-a.length) k hk;exact ⟨u,d,by rw [<- hu];congr 1;omega,hr,hd⟩
    ·cases h
   ·cases h
  ·cases h
theorem in_cellsB (htt:TTOK P tt) (hka:kAll tt=true):∀ (n f:Nat) (t:TypeId) (ks:List K) (cs:List Value) x,kT tt f t=some ks->DataW.trod enc P w base spare held n t cs=some x->(∀ y∈DataW.weights P t x.1,y<=reachBytes)->CellsInB P (cellsAt w) ks cs
 | 0,f,t,ks,cs,x,_,h,_=>by simp [DataW.trod] at h
 |n+1,0,t,ks,cs,x,hk,h,_=>by simp [kT] at hk
 |n+1,f+1,t,ks,cs,x,hk,h,hz=>by
  unfold kT at hk
  split at hk
  ·rename_i hu;obtain ⟨d,hd,hq⟩:=tt_u htt hu;obtain rfl:d = .bool:=by cases d<;>simp [uOf] at hq<;>rfl
   obtain ⟨b,rfl,_⟩:=DataW.trod_bool hd h;obtain rfl:=by simpa using hk
   exact cellsInB_one (.bool (.b b)) (.bool _)
  ·rename_i k hu;obtain ⟨d,hd,hq⟩:=tt_u htt hu;obtain rfl:d = .int k:=by cases d<;>simp [uOf] at hq<;>rw [hq]
   obtain ⟨b,rfl,_,hw⟩:=DataW.trod_int hd h;obtain rfl:=by simpa using hk
   exact cellsInB_one (.int k (.i b)) (.int _ _)
  ·rename_i hu;obtain ⟨d,hd,hq⟩:=tt_u htt hu;obtain rfl:d = .string:=by cases d<;>simp [uOf] at hq<;>rfl
   obtain ⟨b,rfl,_,hw⟩:=DataW.trod_string hd h;obtain rfl:=by simpa using hk
   exact cellsInB_one (.str (.s b)) (.str _)
  ·rename_i e hu;obtain ⟨d,hd,hq⟩:=tt_u htt hu;obtain rfl:d = .slice e:=by cases d<;>simp [uOf] at hq<;>rw [hq]
   split at hk
   ·rename_i kse hkse;obtain rfl:=by simpa using hk
    obtain ⟨hek,hpos,q,z,hq1,hq2,_⟩:=tt_ks htt hkse;have hce:P.cellsOf e=(eks e).length:=by simp [Program.cellsOf,hq1,hq2,hek]
    rcases DataW.trod_slice hd h with ⟨rfl,_⟩ |⟨a,len,cap,elems,rest,m,hm,rfl,rfl,_,hlc,hcm,hel,hget,_⟩
    ·exact cellsInB_one (.nil e (.l []) rfl) (.slice _ _ zero_b (fun i j k hi=>absurd hi (Nat.not_lt_zero i)))
    ·obtain rfl:n=m:=by omega
     have hb:len*P.bytesOf e<=reachBytes:=by
      have:=hz (((elems.map (·.1)).length+(rest.map (·.1)).length)*P.bytesOf e) (by simp only [DataW.weights,hd];exact List.mem_cons_self ..);rw [List.length_map,hel] at this;exact Nat.le_trans (Nat.mul_le_mul_right _ (Nat.le_add_right _ _)) this
     by_cases h0:len=0
     ·subst h0;exact cellsInB_one (.empty e (.l []) a cap rfl) (.slice _ _ zero_b (fun i j k hi=>absurd hi (Nat.not_lt_zero i)))
     ·have hcell:∀ i,i<len->∀ (j:Nat) k,(eks e)[j]? = some k->∃ u d,w.cell? (a.add (i*(eks e).length+j))=some u/\TRel (cellsAt w) k d u/\DOkB P k d:=fun i hi j k hj=>by
       have h1:=hget i hi;rw [List.getElem?_eq_getElem (by omega)] at h1;obtain ⟨cs',g1,g2⟩:=Option.bind_eq_some_iff.1 h1;obtain ⟨g3,g4⟩:=in_cellsB htt hka n 9 e kse cs' _ (kAll_ks hka hkse) g2 (fun y hy=>hz y (by simp only [DataW.weights,hd];exact List.mem_cons_of_mem _ (List.mem_append_left _ (weightsAll_mem (List.mem_map_of_mem (List.getElem_mem _)) hy))));obtain ⟨u,d,hu,hr⟩:=g4 j k (by rw [<- hek];exact hj);obtain ⟨_,_,hc⟩:=World.cells?_some g1;have:=hc j (by rw [hce];exact lt_of_get hj);rw [hu,hce,addr_add2] at this;exact ⟨u,d,this,hr⟩
      have hsp:a.spot=none:=by
       obtain ⟨k0,hk0⟩:∃ k0,(eks e)[0]? = some k0:=⟨_,List.getElem?_eq_getElem (by rw [hek];exact hpos)⟩;obtain ⟨u,d,hu,_⟩:=hcell 0 (by omega) 0 k0 hk0;have:=(cellsAt_cell hu).1
       simpa [Addr.add] using this
      obtain ⟨ab,ao,asx⟩:=a;obtain rfl:asx=none:=hsp;have each:∀ p:Nat × Nat,∃ q:Value × D,p.1<len->∀ k,(eks e)[p.2]? = some k->w.cell? ((⟨ab,ao,none⟩:Addr).add (p.1*(eks e).length+p.2))=some q.1/\TRel (cellsAt w) k q.2 q.1/\DOkB P k q.2:=fun p=>by
       by_cases hp:p.1<len
       ·cases hk:(eks e)[p.2]? with
        |none=>exact ⟨(undef,.i 0),fun _ k hk'=>by cases hk'⟩
        |some k=>
         obtain ⟨u,d,hh⟩:=hcell p.1 hp p.2 k hk;exact ⟨(u,d),fun _ k' hk'=>by cases hk';exact hh⟩
       ·exact ⟨(undef,.i 0),fun hp'=>absurd hp' hp⟩
      obtain ⟨F,hF⟩:=Classical.skolem.1 each;have hdl:(D.l ((List.range len).map fun i=>(List.range (eks e).length).map fun j=>(F (i,j)).2)).len=len:=by
       show ((List.range len).map _).length=len
       simp
      have hde:∀ i j,i<len->j<(eks e).length->(D.l ((List.range len).map fun i=>(List.range (eks e).length).map fun j=>(F (i,j)).2)).el i j=(F (i,j)).2:=fun i j hi hj=>by
       show (((List.range len).map fun i=>(List.range (eks e).length).map fun j=>(F (i,j)).2).getD i []).getD j (.i 0)=_;rw [List.getD_eq_getElem?_getD,List.getD_eq_getElem?_getD,List.getElem?_map,List.getElem?_range hi];simp only [Option.map_some,Option.getD_some];rw [List.getElem?_map,List.getElem?_range hj];rfl
      generalize hdd:D.l ((List.range len).map fun i=>(List.range (eks e).length).map fun j=>(F (i,j)).2)=dd at hdl hde;refine cellsInB_one (d:=dd) ?_ (.slice _ _ (by rw [hdl];exact hb) fun i j k hi hk=>?_)
      ·rw [<- hdl];refine .slice e dd ab ao cap (fun i j=>(F (i,j)).1) (by omega) (fun i j hi hj=>?_) (fun i j k hi hk=>?_)
       ·obtain ⟨g1,_⟩:=hF (i,j) (by rw [<- hdl];exact hi) _ (List.getElem?_eq_getElem hj);have:=(cellsAt_cell g1).2;rw [Sx.addr_add] at this;rw [Nat.add_assoc];exact this
       ·rw [hde i j (by rw [<- hdl];exact hi) (lt_of_get hk)];exact (hF (i,j) (by rw [<- hdl];exact hi) k hk).2.1
      ·rw [hde i j (by rw [<- hdl];exact hi) (lt_of_get hk)];exact (hF (i,j) (by rw [<- hdl];exact hi) k hk).2.2
   ·cases hk
  ·rename_i m e hu;obtain ⟨d,hd,hq⟩:=tt_u htt hu;obtain rfl:d = .array m e:=by cases d<;>simp [uOf] at hq<;>rw [hq.1,hq.2]
   split at hk
   ·rename_i kse hkse
    split at hk
    ·rename_i kse' hse;obtain ⟨_,hsze⟩:=szOK_some hse;obtain ⟨rfl,hsz⟩:=szOK_some hk;obtain ⟨xs,m',hm,rfl,hl,hxl,hel⟩:=DataW.trod_array hd h;obtain rfl:n=m':=by omega
     have hl':cs.length=(List.replicate m kse).flatten.length:=by rw [hl,szT_cells htt hsz]
     have hce:P.cellsOf e=kse.length:=szT_cells htt hsze;refine ⟨hl',fun j k hj=>?_⟩;rw [flat_get] at hj
     split at hj
     ·rename_i hjl;have hpos:0<kse.length:=by
       rcases Nat.eq_zero_or_pos kse.length with h0 |h0
       ·rw [h0] at hjl;simp at hjl
       ·exact h0
      have hi:j/kse.length<m:=by rw [Nat.div_lt_iff_lt_mul hpos];exact hjl
      have h1:=hel (j/kse.length) hi;rw [List.getElem?_eq_getElem (by rw [hxl];exact hi)] at h1;obtain ⟨g1,g2⟩:=in_cellsB htt hka n f e kse _ _ hkse h1 (fun y hy=>hz y (by simp only [DataW.weights,hd];exact weightsAll_mem (List.mem_map_of_mem (List.getElem_mem _)) hy));obtain ⟨u,d,hu',hr,hd'⟩:=g2 _ k hj;refine ⟨u,d,?_,hr,hd'⟩;rw [hce,List.getElem?_take_of_lt (Nat.mod_lt _ hpos),List.getElem?_drop,Nat.div_add_mod'] at hu';exact hu'
     ·cases hj
    ·cases hk
   ·cases hk
  ·rename_i fs hu;obtain ⟨d,hd,hq⟩:=tt_u htt hu
   split at hk
   ·rename_i kse hkse;obtain ⟨rfl,hsz⟩:=szOK_some hk;obtain ⟨fa,rfl⟩:∃ fa,d = .struct fa:=by cases d<;>simp [uOf] at hq<;>exact ⟨_,rfl⟩
    obtain ⟨xs,m',hm,rfl,hl,hxl,hel⟩:=DataW.trod_struct hd h;obtain rfl:n=m':=by omega
    refine ⟨by rw [hl,szT_cells htt hsz],fun j k hj=>?_⟩;have:=kF_inB (cs:=cs) (fun t ks cs x=>in_cellsB htt hka n f t ks cs x) fs 0 _ hkse (fun p hp=>?_) j k hj
    ·rw [Nat.zero_add] at this;exact this
    ·simp only [uOf,UD.struct.injEq] at hq;rw [<- hq] at hp;obtain ⟨fl,hfl,rfl⟩:=List.mem_map.1 hp;obtain ⟨i,hi,hg⟩:=List.getElem_of_mem hfl;have h1:=hel i fl (by rw [<- Array.getElem?_toList,List.getElem?_eq_getElem hi,hg]);rw [List.getElem?_eq_getElem (by rw [hxl];simpa using hi)] at h1;exact ⟨_,h1,fun y hy=>hz y (by simp only [DataW.weights,hd];exact weightsEach_mem (i:=i) (by rw [List.getElem?_map,List.getElem?_eq_getElem hi,hg];rfl) (by rw [List.getElem?_map,List.getElem?_eq_getElem (by rw [hxl];simpa using hi)];rfl) hy)⟩
   ·cases hk
  ·cases hk
theorem val_in3 (htt:TTOK P tt) (hka:kAll tt=true) {T:TypeId} {v:Value} {dw:DataW H} {ps:List MemPlace} (h:DataW.Trod enc P w base spare held T v dw ps) (hz:∀ y∈DataW.weights P T dw,y<=reachBytes) {ks:List K} (hk:kT tt 9 T=some ks) {w1:World} {r:Reach} {b0:Nat} (hok:Value.okWide P w1 r b0 T v) :
 ∃ d:D,(∀ (j:Nat) k,ks[j]? = some k->DOkB P k (d.el 0 j))/\∀ sv,inV tt T d=some sv->UR (Map.at0 (cellsAt w)) sv v:=by
 obtain ⟨fuel,hf⟩:=h;obtain ⟨h1,h2⟩:=in_cellsB htt hka fuel 9 T ks _ _ hk hf hz;have each:∀ j:Nat,∃ d:D,∀ k,ks[j]? = some k->∃ u,v.cells.toList[j]? = some u/\TRel (cellsAt w) k d u/\DOkB P k d:=fun j=>by
  cases hj:ks[j]? with
  |none=>exact ⟨.i 0,fun k hk'=>by cases hk'⟩
  |some k=>
   obtain ⟨u,d,g1,g2,g3⟩:=h2 j k hj;exact ⟨d,fun k' hk'=>by cases hk';exact ⟨u,g1,g2,g3⟩⟩
 obtain ⟨F,hF⟩:=Classical.skolem.1 each;have hde:∀ j,j<ks.length->(D.l [(List.range ks.length).map F]).el 0 j=F j:=fun j hj=>by
  show ((List.range ks.length).map F).getD j (.i 0)=F j;rw [List.getD_eq_getElem?_getD,List.getElem?_map,List.getElem?_range hj];rfl
 have hE:∀ (j:Nat) k,ks[j]? = some k->∃ u,v.cells.toList[j]? = some u/\TRel (cellsAt w) k ((D.l [(List.range ks.length).map F]).el 0 j) u:=fun j k hj=>by
  obtain ⟨u,g1,g2,_⟩:=hF j k hj;rw [hde j (lt_of_get hj)];exact ⟨u,g1,g2⟩
 refine ⟨.l [(List.range ks.length).map F],?_,fun sv hs=>?_⟩
 ·intro j k hj;obtain ⟨u,_,_,g3⟩:=hF j k hj;rw [hde j (lt_of_get hj)];exact g3
 ·have hE:∀ (j:Nat) k,ks[j]? = some k->∃ u,v.cells.toList[j]? = some u/\TRel (Map.at0 (cellsAt w)).fz k ((D.l [(List.range ks.length).map F]).el 0 j) u:=hE;unfold inV at hs;rw [hk] at hs
  split at hs
  ·rename_i k hks hsh;obtain rfl:=by simpa using hks
   obtain ⟨dd,hd,hda⟩:=shapeOf_none (tt_shape htt hsh);have hc:=not_agg hd hda hok
   split at hs
   ·rename_i c hcc;obtain rfl:=by simpa using hs
    obtain ⟨u,g1,g2⟩:=hE 0 k rfl;rw [hc] at g1;obtain rfl:v=u:=by simpa using g1
    exact cellSC_spec hcc g2
   ·cases hs
  ·rename_i ks' L hks hsh;obtain rfl:=by simpa using hks
   obtain ⟨dd,i,hd,hda,_,_⟩:=shapeOf_some (tt_shape htt hsh);obtain ⟨cs,rfl⟩:=is_agg hd hda hok
   split at hs
   ·rename_i hsz
    split at hs
    ·rename_i s hss;obtain rfl:=by simpa using hs
     obtain ⟨e1,e2⟩:=elSegs_val hE L 0 s hss;refine ⟨cs,rfl,?_,fun i x u hx hu=>?_⟩
     ·rw [e1,Nat.eq_of_beq_eq_true hsz,<- h1];rfl
     ·obtain ⟨u',g1,g2⟩:=e2 i x hx;rw [Nat.zero_add] at g1;have:u=u':=by
       have h3:cs.toList[i]? = some u':=g1;rw [hu] at h3;exact Option.some.inj h3
      rw [this];exact g2
    ·cases hs
   ·cases hs
  ·cases hs
theorem law_in3 (htt:TTOK P tt) (hka:kAll tt=true) {f:FuncId} {c:Con} (hc:ConOK P f c) {T:TypeId} {Ts:List TypeId} {params:Array TypeId} {args:Array Value} {v0:Value} {vs0:List Value} {d0:DataW H} {ds0:List (DataW H)} {p0 q0:List MemPlace} (hp:params.toList=T::Ts) (ha:args.toList=v0::vs0)
 (h0:DataW.Trod enc P w base spare held T v0 d0 p0) (h1:DataW.TrodAll enc P w base spare held Ts vs0 ds0 q0) (hz:∀ y∈DataW.weights P T d0,y<=reachBytes) {ks:List K} (hk:kT tt 9 T=some ks)
 {w1:World} {r:Reach} {b0:Nat} (hok:∀ (j:Nat) t v,params[j]? = some t->args[j]? = some v->Value.okWide P w1 r b0 t v) (hl:∀ d Ds,(∀ (j:Nat) k,ks[j]? = some k->DOkB P k (d.el 0 j))->DsOk tt Ts Ds->lawOb tt c (T::Ts) (d::Ds)) (ht:TabF (cellsAt w)) :
 Calls P f args w fun e w'=>e = .returned (.bool true)/\Below w.heap.size w w':=by
 have ok:∀ (j:Nat) t v,(T::Ts)[j]? = some t->(v0::vs0)[j]? = some v->Value.okWide P w1 r b0 t v:=fun j t v ht hv=>hok j t v (by rw [<- Array.getElem?_toList,hp];exact ht) (by rw [<- Array.getElem?_toList,ha];exact hv)
 obtain ⟨d,a1,a2⟩:=val_in3 htt hka h0 hz hk (ok 0 T v0 rfl rfl);obtain ⟨D0,b1,b2⟩:=args_in htt hka Ts vs0 ds0 q0 h1 (fun j t v ht hv=>ok (j+1) t v (by simpa using ht) (by simpa using hv));have h3:=hl d D0 a1 b1;have h2:∀ svs,inVs tt (T::Ts) (d::D0)=some svs->ArgsRel (Map.at0 (cellsAt w)) svs args.toList:=fun svs hs=>by
  rw [ha];simp only [inVs] at hs
  split at hs
  ·rename_i x r hx hr;obtain rfl:=by simpa using hs
   exact ⟨a2 _ hx,b2 _ hr⟩
  ·cases hs
 unfold lawOb at h3
 split at h3
 ·rename_i svs hs
  split at h3
  ·rename_i e he
   split at h3
   ·rename_i b hv hst;have:=hc.calls [] 0 svs e he h3.2 _ w _ args.toList (wh_nil w ht) (fun _ _ _=>rfl) (h2 svs hs);rw [Array.toArray_toList] at this;refine this.mono ?_
    rintro en w' ⟨ρ',v,rfl,g1,g2⟩;refine ⟨?_,g2.below.1,g2.below.2,g2.below.3,g2.below.size,fun k hk=>g2.keep k hk fun _ _ h=>by rw [hst] at h;simp [look] at h⟩;rw [hv] at g1;have:v = .bool b.v:=g1;rw [this,h3.1]
   ·exact h3.elim
  ·exact h3.elim
 ·exact h3.elim
end
end Go.Proofs.YtcfkhnlkfgmoiaaGreatDoor.Sx
namespace Go.Proofs.YtcfkhnlkfgmoiaaGreatDoor.Sx.Z
theorem tab_laid {W : World} (h : laidMetH Tryz.prog [("math/bits.deBruijn32tab", Rows.laid_math_bits_deBruijn32tab), ("math/bits.deBruijn64tab", Rows.laid_math_bits_deBruijn64tab), ("internal/strconv.uint64pow10", Rows.laid_internal_strconv_uint64pow10)] W) : TabF (cellsAt W) := by
 rw [MakeChecks.laidMetH_plain _ _ _ (by kernel_rfl)] at h;have h3 : laidMet Tryz.prog (("internal/strconv.uint64pow10", Lib.tabData .u64 Lib.pow10Tab) :: []) W := h.tail.tail;have ht:=Lib.tabIs_of_head (g:=0) (t:=297) (e:=42) (n:=20) (by kernel_rfl) (by kernel_rfl) Tryz.underlying297 Tryz.underlying42 (by kernel_rfl) (by kernel_rfl) h3;rintro g cs ⟨hg,rfl⟩;obtain rfl := Option.some.inj ((show PG.globalNamed "internal/strconv.uint64pow10" = some 0 by kernel_rfl).symm.trans hg);unfold Lib.TabIs World.var? at ht;rw [show Tryz.prog.globalNamed "internal/strconv.uint64pow10" = some 0 by kernel_rfl] at ht
 change (match W.heap[0]? with |some (.cells cs _ _)=>some cs |_=>none)=_ at ht
 unfold cellsAt;exact ht
end Go.Proofs.YtcfkhnlkfgmoiaaGreatDoor.Sx.Z
