import Derived.Test.YtplejbgafjpomaaGreatDoorZb20
import Derived.Test.YtplejbgafjpomaaGreatDoorZb17
import Derived.Test.YtplejbgafjpomaaGreatDoorZb18
import Derived.Test.YtplejbgafjpomaaGreatDoorZb19
import Derived.Test.YtplejbgafjpomaaGreatDoorRows
import Derived.LaidMore
import Derived.Stop.LaidErr
import Derived.MakeChecks
import Derived.Test.YtplejbgafjpomaaGreatDoorZb16
set_option linter.unusedVariables false
set_option linter.unusedSimpArgs false
namespace Go.Proofs.YtplejbgafjpomaaGreatDoor.Sx.Z
open Go.RowKit
theorem allB_get {n:Nat} {f:Nat->Bool} (h:allB n f=true) {i:Nat} (hi:i<n):f i=true:=by
 unfold allB at h;exact List.all_eq_true.1 h i (List.mem_range.2 hi)
theorem nm_sz {s:ByteArray} (h:nmB s=true):sz s:=by
 unfold nmB at h;simp only [Bool.and_eq_true,Bool.not_eq_true',decide_eq_false_iff_not] at h;have:=h.1;unfold sz;omega
theorem nu_nI {n:Int} (h:nuB n=true):nI n:=by
 unfold nuB at h;simp only [Bool.and_eq_true,decide_eq_true_eq] at h;exact ⟨by omega,by omega⟩
theorem xF_ofs {k n:Int} {s:ByteArray} {d:D} (ih:∀ j,j<d.len->aE d j=true->kF d j) (h:aX k n s d=true):xF k n s d:=by
 refine ⟨fun e=>?_,fun e=>?_,fun e=>?_,fun e=>?_⟩
 ·subst e;exact nu_nI h
 ·subst e;exact nm_sz h
 ·have:=(aX_kids h).1 e;exact ⟨this.1,ih 0 (by omega) this.2⟩
 ·have:=(aX_kids h).2 e;exact ⟨this.1,ih 0 (by omega) this.2.1,ih 1 (by omega) this.2.2⟩
theorem kF_all:∀ (m:Nat) (d:D),SizeOf.sizeOf d<=m->∀ i,i<d.len->aE d i=true->kF d i:=by
 intro m
 induction m with
 |zero=>
  intro d h i hi;have:=lel_lt (j:=3) hi;omega
 |succ m ih=>
  intro d h i hi ha;have:=lel_lt (j:=3) hi;rw [kF_eq hi];rw [aE_eq hi] at ha;exact xF_ofs (fun j hj h2=>ih _ (by omega) j hj h2) ha
theorem xF_of {k n:Int} {s:ByteArray} {d:D} (h:aX k n s d=true):xF k n s d:=xF_ofs (fun j hj h2=>kF_all _ d (Nat.le_refl _) j hj h2) h
theorem cF_of {op lk ln rk rn:Int} {ls rs:ByteArray} {ld rd:D} (h:aC op lk ln ls ld rk rn rs rd=true):cF lk ln ls ld rk rn rs rd:=⟨xF_of (aC_two h).1,xF_of (aC_two h).2⟩
theorem and3 {a b c:Bool} (h:(a&&b&&c)=true):a=true/\b=true/\c=true:=by
 simp only [Bool.and_eq_true] at h;exact ⟨h.1.1,h.1.2,h.2⟩
theorem stFF_of {k:Int} {nm tg:ByteArray} {e c b el a:Bool} {al:Int} {E C B EL A:Prop} (h:aStF k nm tg e c b el al a=true) (he:e=true->E) (hc:c=true->C) (hb:b=true->B) (hl:el=true->EL) (ha:a=true->A):stFF k nm tg E C B EL A:=by
 refine ⟨fun q=>?_,fun q=>?_,fun q=>?_,fun q=>?_,fun q=>?_,fun q=>?_,fun q=>?_⟩<;>subst q
 ·have h:(nmB nm&&e)=true:=h;simp only [Bool.and_eq_true] at h;exact ⟨nm_sz h.1,he h.2⟩
 ·obtain ⟨x,y,z⟩:=and3 (show (c&&b&&el)=true from h);exact ⟨hc x,hb y,hl z⟩
 ·have h:(c&&b)=true:=h;simp only [Bool.and_eq_true] at h;exact ⟨hc h.1,hb h.2⟩
 ·obtain ⟨x,y,z⟩:=and3 (show (nmB nm&&nmB tg&&e)=true from h);exact ⟨nm_sz x,nm_sz y,he z⟩
 ·obtain ⟨x,_,z⟩:=and3 (show (nmB nm&&decide (al>0)&&a)=true from h);exact ⟨nm_sz x,ha z⟩
 ·exact hc h
 ·exact nm_sz h
theorem bF_all:∀ (m:Nat) (d:D),SizeOf.sizeOf d<=m->bA d=true->sOK d->bF d:=by
 intro m
 induction m with
 |zero=>
  intro d h ha hs;rw [bF_iff];refine ⟨((sOK_iff d).1 hs).1,fun i hi=>?_⟩;have:=lel_lt (j:=3) hi;omega
 |succ m ih=>
  intro d h ha hs;rw [bF_iff];obtain ⟨h1,h2⟩:=(sOK_iff d).1 hs;refine ⟨h1,fun i hi=>?_⟩;obtain ⟨s1,s2,s3,s4⟩:=h2 i hi;have l1:=lel_lt (j:=16) hi;have l2:=lel_lt (j:=17) hi;have l3:=lel_lt (j:=18) hi;rw [bA_eq] at ha;have hE:stE d i=true:=allB_get ha hi;refine stFF_of hE (fun h=>xF_of h) (fun h=>cF_of h) (fun h=>ih _ (by omega) h s1) (fun h=>ih _ (by omega) h s2) (fun h=>⟨s3,fun j hj=>?_⟩);have hj2:arE (d.el i 18) j=true:=allB_get h hj;obtain ⟨x,y,z⟩:=and3 hj2;have l4:=lel_lt (j:=2) hj;exact ⟨nm_sz x,nm_sz y,ih _ (by omega) z (s4 j hj)⟩
theorem bF_of {d:D} (h:bA d=true) (hs:sOK d):bF d:=bF_all _ d (Nat.le_refl _) h hs
theorem cpTo_elJ {n i j:Nat} {f:Nat->List D} (h:i<n):(cpTo n f).el i j=(f i).getD j (.i 0):=by
 show (((List.range n).map f).getD i []).getD j (.i 0)=_;rw [List.getD_eq_getElem?_getD (l:=(List.range n).map f),List.getElem?_map,List.getElem?_range h];rfl
theorem kS_cpA:∀ (m:Nat) (d:D),SizeOf.sizeOf d<=m->kS d->kS (cpE d):=by
 intro m
 induction m with
 |zero=>intro d hz;cases d<;>simp at hz
 |succ m ih=>
  intro d h hs;obtain ⟨h1,h2⟩:=(kS_iff d).1 hs;rw [kS_iff,cpE_eq,cpTo_len];refine ⟨h1,fun i hi=>?_⟩;have l:=lel_lt (j:=3) hi;rw [cpTo_elJ hi];exact ih (d.el i 3) (by omega) (h2 i hi)
theorem kS_cp {d:D} (h:kS d):kS (cpE d):=kS_cpA _ d (Nat.le_refl _) h
theorem bS_cpA:∀ (m:Nat) (d:D),SizeOf.sizeOf d<=m->bS d->bS (cpB d):=by
 intro m
 induction m with
 |zero=>intro d hz;cases d<;>simp at hz
 |succ m ih=>
  intro d h hs;obtain ⟨h1,h2⟩:=(bS_iff d).1 hs;rw [bS_iff,cpB_eq,cpTo_len];refine ⟨h1,fun i hi=>?_⟩;obtain ⟨k1,k2,k3,b1,b2,am,ab⟩:=h2 i hi;have l1:=lel_lt (j:=16) hi;have l2:=lel_lt (j:=17) hi;have l3:=lel_lt (j:=18) hi;simp only [cpTo_elJ hi];refine ⟨kS_cp k1,kS_cp k2,kS_cp k3,ih (d.el i 16) (by omega) b1,ih (d.el i 17) (by omega) b2,?_⟩;show (cpTo (d.el i 18).len (arR (d.el i 18))).len*56<=140737488355328/\∀ j,j<(cpTo (d.el i 18).len (arR (d.el i 18))).len->bS ((cpTo (d.el i 18).len (arR (d.el i 18))).el j 2);rw [cpTo_len];refine ⟨am,fun j hj=>?_⟩;have l4:=lel_lt (j:=2) hj;rw [cpTo_elJ hj];exact ih ((d.el i 18).el j 2) (by omega) (ab j hj)
theorem bS_cp {d:D} (h:bS d):bS (cpB d):=bS_cpA _ d (Nat.le_refl _) h
theorem SyS_cp {c u p:D} (h:SyS c u p):SyS (cpC c) (cpU u) (cpP p):=by
 refine ⟨?_,fun i hi=>?_,?_,fun i hi=>?_,?_,fun i hi=>?_,fun i hi=>?_⟩
 ·show (cpTo c.len (chRq c)).len*88<=_;rw [cpTo_len];exact h.c
 ·have hi:i<c.len:=by rw [<- cpTo_len c.len (chRq c)];exact hi
  show ((cpTo c.len (chRq c)).el i 5).len*16<=_;rw [cpTo_elJ hi];exact h.ct i hi
 ·show (cpTo u.len (ruRq u)).len*40<=_;rw [cpTo_len];exact h.r
 ·have hi:i<u.len:=by rw [<- cpTo_len u.len (ruRq u)];exact hi
  show ((cpTo u.len (ruRq u)).el i 1).len*32<=_;rw [cpTo_elJ hi];show (cpTo (u.el i 1).len (mvR (u.el i 1))).len*32<=_;rw [cpTo_len];exact h.rm i hi
 ·show (cpTo p.len (prR p)).len*64<=_;rw [cpTo_len];exact h.p
 ·have hi:i<p.len:=by rw [<- cpTo_len p.len (prR p)];exact hi
  show ((cpTo p.len (prR p)).el i 1).len*16<=_;rw [cpTo_elJ hi];exact h.pv i hi
 ·have hi:i<p.len:=by rw [<- cpTo_len p.len (prR p)];exact hi
  show bS ((cpTo p.len (prR p)).el i 2);rw [cpTo_elJ hi];exact bS_cp (h.pb i hi)
theorem sOK_ofA:∀ (m:Nat) (d:D),SizeOf.sizeOf d<=m->bS d->sOK d:=by
 intro m
 induction m with
 |zero=>intro d hz;cases d<;>simp at hz
 |succ m ih=>
  intro d h hs;obtain ⟨h1,h2⟩:=(bS_iff d).1 hs;rw [sOK_iff];refine ⟨by omega,fun i hi=>?_⟩;obtain ⟨_,_,_,b1,b2,am,ab⟩:=h2 i hi;have l1:=lel_lt (j:=16) hi;have l2:=lel_lt (j:=17) hi;have l3:=lel_lt (j:=18) hi;refine ⟨ih (d.el i 16) (by omega) b1,ih (d.el i 17) (by omega) b2,by omega,fun j hj=>?_⟩;have l4:=lel_lt (j:=2) hj;exact ih ((d.el i 18).el j 2) (by omega) (ab j hj)
theorem SyOK_of {c u p:D} (h:SyS c u p):SyOK c u p:=
 ⟨by have:=h.c;omega,fun i hi=>by have:=h.ct i hi;omega,by have:=h.r;omega,fun i hi=>by have:=h.rm i hi;omega,by have:=h.p;omega,fun i hi=>by have:=h.pv i hi;omega,fun i hi=>sOK_ofA _ _ (Nat.le_refl _) (h.pb i hi)⟩
theorem SyF_of {c u p:D} (h:SyOK c u p) (hA:syB c u p=true):SyF c u p:=by
 unfold syB at hA;simp only [Bool.and_eq_true] at hA;have h1:=allB_iff.1 hA.1;have h2:=allB_iff.1 hA.2.1;have h3:=allB_iff.1 hA.2.2;refine ⟨fun i hi=>?_,fun i hi=>?_,fun i hi=>?_⟩
 ·have hx:=h1 i hi;unfold chE chB at hx;simp only [Bool.and_eq_true,decide_eq_true_eq] at hx;obtain ⟨⟨⟨⟨⟨⟨⟨x1,x2⟩,x3⟩,x4⟩,x5⟩,x6⟩,x7⟩,x8⟩:=hx;exact ⟨nm_sz x1,nu_nI x4,nm_sz x5,nm_sz x6,h.ct i hi,fun j hj=>nm_sz (allB_get x8 hj)⟩
 ·have hx:=h2 i hi;unfold ruE ruB at hx;simp only [Bool.and_eq_true] at hx;refine ⟨nm_sz hx.2,h.rm i hi,fun j hj=>?_⟩;have hy:=allB_get hx.1 hj;unfold mvE at hy;simp only [Bool.and_eq_true] at hy;exact ⟨nu_nI hy.1.1,nm_sz hy.1.2,nu_nI hy.2⟩
 ·have hx:=h3 i hi;unfold prE at hx;simp only [Bool.and_eq_true] at hx;exact ⟨nm_sz hx.1.1,h.pv i hi,fun j hj=>nm_sz (allB_get hx.1.2 hj),bF_of hx.2 (h.pb i hi)⟩
theorem mv_in {d:D} (h:DOkB Tryz.prog (.slice 84) d):d.len*32<=140737488355328:=by
 cases h with
 |slice e d h1 h2=>
  have hb:Tryz.prog.bytesOf 84=32:=by kernel_rfl
  rw [hb] at h1;exact Nat.le_trans h1 (by decide)
theorem k4_of:∀ (m:Nat) (d:D),SizeOf.sizeOf d<=m->kS d->k4S d:=by
 intro m
 induction m with
 |zero=>
  intro d h hk;obtain ⟨h1,h2⟩:=(kS_iff d).1 hk;refine (k4S_iff d).2 ⟨by omega,fun i hi=>?_⟩;have:=lel_lt (j:=3) hi;omega
 |succ m ih=>
  intro d h hk;obtain ⟨h1,h2⟩:=(kS_iff d).1 hk;refine (k4S_iff d).2 ⟨by omega,fun i hi=>?_⟩;have:=lel_lt (j:=3) hi;exact ih _ (by omega) (h2 i hi)
theorem bG_ofA:∀ (m:Nat) (d:D),SizeOf.sizeOf d<=m->bS d->bG d:=by
 intro m
 induction m with
 |zero=>
  intro d h hb;obtain ⟨h1,h2⟩:=(bS_iff d).1 hb;refine (bG_iff d).2 ⟨Nat.le_trans (Nat.mul_le_mul_left _ (by decide)) h1,fun i hi=>?_⟩;have:=lel_lt (j:=3) hi;omega
 |succ m ih=>
  intro d h hb;obtain ⟨h1,h2⟩:=(bS_iff d).1 hb;refine (bG_iff d).2 ⟨Nat.le_trans (Nat.mul_le_mul_left _ (by decide)) h1,fun i hi=>?_⟩;obtain ⟨a,b,c,e,f,g,k⟩:=h2 i hi;have l1:=lel_lt (j:=16) hi;have l2:=lel_lt (j:=17) hi;have l3:=lel_lt (j:=18) hi;refine ⟨k4_of _ _ (Nat.le_refl _) a,k4_of _ _ (Nat.le_refl _) b,k4_of _ _ (Nat.le_refl _) c,ih _ (by omega) e,ih _ (by omega) f,by omega,fun j hj=>?_⟩;have l4:=lel_lt (j:=2) hj;exact ih _ (by omega) (k j hj)
theorem bG_of {d:D} (h:bS d):bG d:=bG_ofA _ d (Nat.le_refl _) h
theorem fnz_all {f:Nat->Int}:∀ {n:Nat},fnz f n=0->∀ i,i<n->f i=0
 | 0,_,i,hi=>absurd hi (Nat.not_lt_zero i)
 |n+1,h,i,hi=>by
  rw [fnz] at h
  split at h
  ·rename_i h0
   rcases Nat.lt_or_ge i n with h1 |h1
   ·exact fnz_all h0 i h1
   ·obtain rfl:i=n:=by omega
    exact h
  ·rename_i h0;exact absurd h h0
theorem dc_small {ch pr:D} (h:dcE ch pr=0):ch.len<=4/\pr.len<=4/\∀ i,i<ch.len->(ch.el i 5).len<=4:=by
 unfold dcE at h
 split at h
 ·cases h
 ·rename_i h4;simp only [decide_eq_true_eq] at h4
  split at h
  ·rename_i hf
   split at h
   ·cases h
   ·rename_i hp;simp only [Bool.or_eq_true,decide_eq_true_eq] at hp;refine ⟨by omega,by omega,fun i hi=>?_⟩;have hc:=fnz_all hf i hi;unfold cdI cdE at hc
    split at hc
    ·cases hc
    ·split at hc
     ·cases hc
     ·rename_i ht;simp only [Bool.or_eq_true,decide_eq_true_eq] at ht;omega
  ·rename_i hf;exact absurd h hf
theorem nu_0 {n:Int} (h:nuB n=true):0<=n:=by
 unfold nuB at h;simp only [Bool.and_eq_true,decide_eq_true_eq] at h;omega
theorem ckS_of {c u p:D} (h:SyS c u p):CkS c u p:=by
 have hO:=SyOK_of h;refine ⟨hO,fun hA _=>SyF_of hO hA,hO.ct,hO.r,fun h5 hd=>?_,fun hd=>?_⟩
 ·obtain ⟨d1,d2,d3⟩:=dc_small hd;have hA:syB c u p=true:=by
   cases hq:syB c u p with
   |true=>rfl
   |false=>exact absurd (wd5 hq) h5
  unfold syB at hA;simp only [Bool.and_eq_true] at hA;refine ⟨by omega,by omega,fun k hk i hi=>⟨?_,?_,fun j hj=>?_⟩⟩
  ·exact hO.rm k hk
  ·have:=d3 i hi;omega
  ·have h1:ruE u k=true:=allB_get hA.2.1 hk;unfold ruE ruB at h1;simp only [Bool.and_eq_true] at h1;have h2:mvE (u.el k 1) j=true:=allB_get h1.1 hj;unfold mvE at h2;simp only [Bool.and_eq_true] at h2;exact nu_0 h2.1.1
 ·obtain ⟨d1,d2,d3⟩:=dc_small hd;refine ⟨by omega,fun i hi=>⟨⟨by omega,?_,fun j hj=>?_⟩,bG_of (h.pb i hi)⟩⟩
  ·have:=h.pv i hi;omega
  ·have:=d3 j hj;omega
def kBo:AP:=.sc (.rows 166)
theorem rvK_eq (ch:D) (pc vs c:Int) (am:D):rvK ch pc vs c am=(!(!plK c ch.len ||(ch.el c.toNat 3).toI != pc ||(am.len:Int)==0)&&allB am.len (arK ch pc vs (ch.el c.toNat 4).toI am)):=by
 unfold rvK bne
 cases plK c ch.len<;>cases ((ch.el c.toNat 3).toI==pc)<;>cases ((am.len:Int)==0)<;>rfl
theorem arK_eq (ch:D) (pc vs ts:Int) (am:D) (j:Nat):arK ch pc vs ts am j = !(!plK (am.el j 0).toI ts ||tgU am j (am.el j 0).toI || !plK (am.el j 1).toI vs || !bkR ch pc vs (am.el j 2)):=by
 unfold arK
 cases plK (am.el j 0).toI ts<;>cases tgU am j (am.el j 0).toI<;>cases plK (am.el j 1).toI vs<;>cases bkR ch pc vs (am.el j 2)<;>rfl
section
variable {vs v c t:Int} {e ne cr nc sd b el ar:Bool} {bl ell al:Int}
theorem skF_1:skF vs 1 v c t e ne cr nc sd b el ar bl ell al=(plK v vs&&e&&c==0&&t==0&&nc&&bl==0&&ell==0&&al==0):=rfl
theorem skF_2:skF vs 2 v c t e ne cr nc sd b el ar bl ell al=(cr&&b&&el&&v==0&&c==0&&t==0&&ne&&al==0):=rfl
theorem skF_3:skF vs 3 v c t e ne cr nc sd b el ar bl ell al=(cr&&b&&v==0&&c==0&&t==0&&ne&&ell==0&&al==0):=rfl
theorem skF_4:skF vs 4 v c t e ne cr nc sd b el ar bl ell al=(sd&&e&&v==0&&nc&&bl==0&&ell==0&&al==0):=rfl
theorem skF_5:skF vs 5 v c t e ne cr nc sd b el ar bl ell al=(ar&&v==0&&t==0&&ne&&nc&&bl==0&&ell==0):=rfl
theorem skF_6:skF vs 6 v c t e ne cr nc sd b el ar bl ell al=(cr&&v==0&&c==0&&t==0&&ne&&bl==0&&ell==0&&al==0):=rfl
theorem skF_7:skF vs 7 v c t e ne cr nc sd b el ar bl ell al=(plK v vs&&c==0&&t==0&&ne&&nc&&bl==0&&ell==0&&al==0):=rfl
theorem skF_no {k:Int} (h1:k≠1) (h2:k≠2) (h3:k≠3) (h4:k≠4) (h5:k≠5) (h6:k≠6) (h7:k≠7):skF vs k v c t e ne cr nc sd b el ar bl ell al=false:=by
 unfold skF;rw [if_neg h1,if_neg h2,if_neg h3,if_neg h4,if_neg h5,if_neg h6,if_neg h7]
end
theorem k_z0:((0:Int)==0)=true:=rfl
theorem k_zN:xkN 0 0 0 ((D.l []).len:Int)=true:=rfl
theorem k_zL:(((D.l []).len:Int)==0)=true:=rfl
noncomputable def ksdS:FSpec:=fun ds _=>match ds with
 | [.d ch,.i pc,.i vs,.i k,.i v,.i c,.i t,.i ek,.i en,.i ev,.d ed,.i op,.i lk,.i ln,.i lv,.d ld,.i rk,.i rn,.i rv,.d rd,.d bd,.d eb,.d am]=>some {val:=.one (.sc (.bool (.sym (skD ch pc c t)))),vc:=[]}
 |_=>none
noncomputable def ksdC:Con:=con [kIn,kSt] ksdS
theorem ksd_ok:ConOK Tryz.prog 85 ksdC:=by
 refine fn_ob tt_ok mixed Tryz.func85 rfl (fun _ _=>by kernel_rfl) (A:=fun ds=>⟨fun _=>Cons.of [(47,kplC)],fun _=>none,fun _=>none⟩) (fun _ _=>(cons_cons kpl_ok cons_nil)) (by kernel_rfl) ?_
 intro ds fr;unfold ksdS;split
 ·rename_i ch pc vs k v c t ek en ev ed op lk ln lv ld rk rn rv rd bd eb am;refine @kmp _ ((plK c (ch.len:Int)=true/\True->(0:Int)<=c/\c<(ch.len:Int))/\((plK c (ch.len:Int)&&(ch.el c.toNat ((0:Nat)+(2:Nat))).toI==pc)=true/\True->(0:Int)<=c/\c<(ch.len:Int))/\(plK c (ch.len:Int)&&(ch.el c.toNat ((0:Nat)+(2:Nat))).toI==pc&&plK t (ch.el c.toNat ((0:Nat)+(4:Nat))).toI)=skD ch pc c t) (by kernel_rfl) ?_
  (try simp only [Nat.reduceAdd,Nat.zero_add])
  refine ⟨fun h=>plK_iff.1 h.1,fun h=>plK_iff.1 ?_,rfl⟩;have:=h.1;simp only [Bool.and_eq_true] at this;exact this.1
 ·trivial
noncomputable def kbdS:FSpec:=fun ds _=>match ds with
 | [.d ch,.i pc,.i vs,.d d]=>some {val:=.one (.sc (.bool (.sym (bkR ch pc vs d)))),vc:=[kOK d]}
 |_=>none
noncomputable def kbdC:Con:=con [kIn,kBo] kbdS
noncomputable def kbdM:List Dat->Nat:=fun ds=>match ds with
 | [.d ch,.i pc,.i vs,.d d]=>SizeOf.sizeOf d
 |_=>0
noncomputable def kbdSu (m:Nat):FSpec:=fun ds _=>match ds with
 | [.d ch,.i pc,.i vs,.d d]=>some {val:=.one (.sc (.bool (.sym (bkR ch pc vs d)))),vc:=[SizeOf.sizeOf d<m,kOK d]}
 |_=>none
theorem kbd_under (m:Nat):kbdS.under kbdM m=kbdSu m:=by
 funext ds fr
 unfold FSpec.under kbdS kbdM kbdSu;split
 ·rename_i e h
  split at h
  ·obtain rfl:=Option.some.inj h;rfl
  ·cases h
 ·rename_i h
  split at h
  ·cases h
  ·rfl
noncomputable def krvS (m:Nat):FSpec:=fun ds _=>match ds with
 | [.d ch,.i pc,.i vs,.i k,.i v,.i c,.i t,.i ek,.i en,.i ev,.d ed,.i op,.i lk,.i ln,.i lv,.d ld,.i rk,.i rn,.i rv,.d rd,.d bd,.d eb,.d am]=>some {val:=.one (.sc (.bool (.sym (rvK ch pc vs c am)))),vc:=[SizeOf.sizeOf am<m,amK am]}
 |_=>none
noncomputable def krvC (m:Nat):Con:=con [kIn,kSt] (krvS m)
theorem krv_ok {m:Nat} (ih:ConOK Tryz.prog 26 (con [kIn,kBo] (kbdSu m))):ConOK Tryz.prog 86 (krvC m):=by
 refine fn_ob tt_ok mixed Tryz.func86 rfl (fun _ _=>by kernel_rfl) (A:=fun ds=>⟨fun _=>Cons.of [(47,kplC),(131,ktuC),(81,kvrC),(26,con [kIn,kBo] (kbdSu m))],fun k=>match k,ds with | 4,[.d ch,.i pc,.i vs,.i k,.i v,.i c,.i t,.i ek,.i en,.i ev,.d ed,.i op,.i lk,.i ln,.i lv,.d ld,.i rk,.i rn,.i rv,.d rd,.d bd,.d eb,.d am]=>some {ι:=Nat,pre:=fun _ i=>i<=am.len/\(plK c ch.len=true/\(ch.el c.toNat 3).toI=pc/\∀ j,j<i->arK ch pc vs (ch.el c.toNat 4).toI am j=true),μ:=fun i=>am.len+1-i,st:=fun s i=>famR s [(35,.one (.sc (.int .i64 (.sym ((i:Nat))))))] [2,3,33,34] [] [2,3]} |_,_=>none,fun _=>none⟩) (fun _ _=>(cons_cons kpl_ok (cons_cons ktu_ok (cons_cons kvr_ok (cons_cons ih cons_nil))))) (by kernel_rfl) ?_
 intro ds fr;unfold krvS;split
 ·rename_i ch pc vs k v c t ek en ev ed op lk ln lv ld rk rn rv rd bd eb am;refine @kmp _ (SizeOf.sizeOf am<m->amK am->((!plK c (ch.len:Int))=false/\True->(0:Int)<=c/\c<(ch.len:Int))/\((!plK c (ch.len:Int) ||(ch.el c.toNat ((0:Nat)+(3:Nat))).toI != pc ||(am.len:Int)==(0:Int))=true->false=rvK ch pc vs c am)/\((!plK c (ch.len:Int) ||(ch.el c.toNat ((0:Nat)+(3:Nat))).toI != pc ||(am.len:Int)==(0:Int))=false->(∃ (i:Nat),(i<=am.len/\plK c (ch.len:Int)=true/\(ch.el c.toNat 3).toI=pc/\∀ (j:Nat),j<i->arK ch pc vs (ch.el c.toNat 4).toI am j=true)/\(0:Int)=(i:Int)/\am.rows=am.rows/\(am.len:Int)=(am.len:Int)/\ch.rows=ch.rows/\pc=pc/\vs=vs/\k=k/\v=v/\c=c/\t=t/\ek=ek/\en=en/\ev=ev/\ed.rows=ed.rows/\op=op/\lk=lk/\ln=ln/\lv=lv/\ld.rows=ld.rows/\rk=rk/\rn=rn/\rv=rv/\rd.rows=rd.rows/\bd.rows=bd.rows/\eb.rows=eb.rows/\am.rows=am.rows)/\∀ (i:Nat),(i<=am.len/\plK c (ch.len:Int)=true/\(ch.el c.toNat 3).toI=pc/\∀ (j:Nat),j<i->arK ch pc vs (ch.el c.toNat 4).toI am j=true)->(decide ((i:Int)<(am.len:Int))=true->((0:Int)<=(i:Int)/\(i:Int)<(am.len:Int))/\((0:Int)<=c/\c<(ch.len:Int))/\((!plK (am.el (i:Int).toNat 0).toI (ch.el c.toNat ((0:Nat)+(4:Nat))).toI)=false/\True->(0:Int)<=(i:Int)/\(i:Int)<=(am.len:Int))/\((!plK (am.el (i:Int).toNat 0).toI (ch.el c.toNat ((0:Nat)+(4:Nat))).toI)=false/\True->(am.sub (0:Nat) (i:Int).toNat).len<=10000000000000)/\((!plK (am.el (i:Int).toNat 0).toI (ch.el c.toNat ((0:Nat)+(4:Nat))).toI ||tgU (am.sub (0:Nat) (i:Int).toNat) (am.sub (0:Nat) (i:Int).toNat).len (am.el (i:Int).toNat 0).toI || !plK (am.el (i:Int).toNat 1).toI vs)=false/\True->SizeOf.sizeOf (am.el (i:Int).toNat 2)<m)/\((!plK (am.el (i:Int).toNat 0).toI (ch.el c.toNat ((0:Nat)+(4:Nat))).toI ||tgU (am.sub (0:Nat) (i:Int).toNat) (am.sub (0:Nat) (i:Int).toNat).len (am.el (i:Int).toNat 0).toI || !plK (am.el (i:Int).toNat 1).toI vs)=false/\True->kOK (am.el (i:Int).toNat 2))/\((!plK (am.el (i:Int).toNat 0).toI (ch.el c.toNat ((0:Nat)+(4:Nat))).toI ||tgU (am.sub (0:Nat) (i:Int).toNat) (am.sub (0:Nat) (i:Int).toNat).len (am.el (i:Int).toNat 0).toI || !plK (am.el (i:Int).toNat 1).toI vs || !bkR ch pc vs (am.el (i:Int).toNat 2))=true->false=rvK ch pc vs c am)/\((!plK (am.el (i:Int).toNat 0).toI (ch.el c.toNat ((0:Nat)+(4:Nat))).toI ||tgU (am.sub (0:Nat) (i:Int).toNat) (am.sub (0:Nat) (i:Int).toNat).len (am.el (i:Int).toNat 0).toI || !plK (am.el (i:Int).toNat 1).toI vs || !bkR ch pc vs (am.el (i:Int).toNat 2))=false->∃ (j:Nat),(j<=am.len/\plK c (ch.len:Int)=true/\(ch.el c.toNat 3).toI=pc/\∀ (j_1:Nat),j_1<j->arK ch pc vs (ch.el c.toNat 4).toI am j_1=true)/\am.len+(1:Nat)-j<am.len+(1:Nat)-i/\IntKind.i64.wrap ((i:Int)+(1:Int))=(j:Int)/\am.rows=am.rows/\(am.len:Int)=(am.len:Int)/\ch.rows=ch.rows/\pc=pc/\vs=vs/\k=k/\v=v/\c=c/\t=t/\ek=ek/\en=en/\ev=ev/\ed.rows=ed.rows/\op=op/\lk=lk/\ln=ln/\lv=lv/\ld.rows=ld.rows/\rk=rk/\rn=rn/\rv=rv/\rd.rows=rd.rows/\bd.rows=bd.rows/\eb.rows=eb.rows/\am.rows=am.rows))/\(decide ((i:Int)<(am.len:Int))=false->true=rvK ch pc vs c am))) (by kernel_rfl) ?_
  intro hm hs;simp only [Nat.reduceAdd,Nat.zero_add,k_n];have hl:=hs.1;refine ⟨fun h=>plK_iff.1 (by simpa using h.1),fun h=>?_,fun h=>?_⟩
  ·rw [rvK_eq,h];rfl
  have h0:=h;simp only [Bool.or_eq_false_iff,Bool.not_eq_false',bne_eq_false_iff_eq] at h;obtain ⟨⟨p1,p2⟩,p3⟩:=h;refine ⟨⟨0,⟨Nat.zero_le _,p1,p2,fun j hj=>absurd hj (Nat.not_lt_zero j)⟩,rfl,(by (repeat' (with_reducible apply And.intro))<;>first |exact True.intro |rfl)⟩,fun i hp=>⟨fun hc=>?_,fun hc=>?_⟩⟩
  ·have hc:=of_decide_eq_true hc;have hi:i<am.len:=by omega
   have z:=lel_lt (j:=2) hi;have z1:SizeOf.sizeOf (am.el i 2)<m:=by omega
   have er:=arK_eq ch pc vs (ch.el c.toNat 4).toI am i;rw [tgU_sub (by omega),D.sub_len am (by omega)];refine ⟨⟨by omega,by omega⟩,plK_iff.1 p1,fun _=>⟨by omega,by omega⟩,fun _=>by omega,fun _=>z1,fun _=>hs.2 i hi,fun hq=>?_,fun hq=>?_⟩
   ·rw [rvK_eq,h0];rw [hq] at er;exact (allB_no hi er).symm
   ·rw [hq] at er;exact ⟨i+1,⟨hi,p1,p2,k_ext hp.2.2.2 er⟩,by omega,k_nx (by omega),(by (repeat' (with_reducible apply And.intro))<;>first |exact True.intro |rfl)⟩
  ·have hc:=of_decide_eq_false hc;rw [rvK_eq,h0];exact (allB_yes fun j hj=>hp.2.2.2 j (by omega)).symm
 ·trivial
noncomputable def kstS (m:Nat):FSpec:=fun ds _=>match ds with
 | [.d ch,.i pc,.i vs,.i k,.i v,.i c,.i t,.i ek,.i en,.i ev,.d ed,.i op,.i lk,.i ln,.i lv,.d ld,.i rk,.i rn,.i rv,.d rd,.d bd,.d eb,.d am]=>some {val:=.one (.sc (.bool (.sym (skS ch pc vs k v c t ek en ev ed op lk ln lv ld rk rn rv rd bd eb am)))),vc:=[SizeOf.sizeOf bd<m,SizeOf.sizeOf eb<m,SizeOf.sizeOf am<m,kOK bd,kOK eb,amK am]}
 |_=>none
noncomputable def kstC (m:Nat):Con:=con [kIn,kSt] (kstS m)
set_option maxHeartbeats 4000000 in
theorem kst_ok {m:Nat} (ih:ConOK Tryz.prog 26 (con [kIn,kBo] (kbdSu m))):ConOK Tryz.prog 49 (kstC m):=by
 refine fn_ob tt_ok mixed Tryz.func49 rfl (fun _ _=>by kernel_rfl) (A:=fun ds=>⟨fun _=>Cons.of [(81,kvrC),(82,kxrC),(84,kcrC),(83,ksnC),(85,ksdC),(86,(krvC m)),(26,con [kIn,kBo] (kbdSu m))],fun _=>none,fun _=>none⟩) (fun _ _=>(cons_cons kvr_ok (cons_cons kxr_ok (cons_cons kcr_ok (cons_cons ksn_ok (cons_cons ksd_ok (cons_cons (krv_ok ih) (cons_cons ih cons_nil)))))))) (by kernel_rfl) ?_
 intro ds fr;unfold kstS;split
 ·rename_i ch pc vs k v c t ek en ev ed op lk ln lv ld rk rn rv rd bd eb am;refine @kmp _ (SizeOf.sizeOf bd<m->SizeOf.sizeOf eb<m->SizeOf.sizeOf am<m->kOK bd->kOK eb->amK am->((k==(1:Int))=true->(plK v vs&&xkX vs ek en ev ed&&nkS (0:Int) (0:Int) c t (0:Int) (0:Int) (0:Int) (↑(D.l []).len:Int) op lk ln lv (ld.len:Int) rk rn rv (rd.len:Int) (bd.len:Int) (eb.len:Int) (am.len:Int))=skS ch pc vs k v c t ek en ev ed op lk ln lv ld rk rn rv rd bd eb am)/\((k==(1:Int))=false->((k==(2:Int))=true->(xkC vs op lk ln lv ld rk rn rv rd=true/\True->SizeOf.sizeOf bd<m)/\(xkC vs op lk ln lv ld rk rn rv rd=true/\True->kOK bd)/\((xkC vs op lk ln lv ld rk rn rv rd&&bkR ch pc vs bd)=true/\True->SizeOf.sizeOf eb<m)/\((xkC vs op lk ln lv ld rk rn rv rd&&bkR ch pc vs bd)=true/\True->kOK eb)/\(xkC vs op lk ln lv ld rk rn rv rd&&bkR ch pc vs bd&&bkR ch pc vs eb&&nkS (0:Int) v c t ek en ev (ed.len:Int) (0:Int) (0:Int) (0:Int) (0:Int) (↑(D.l []).len:Int) (0:Int) (0:Int) (0:Int) (↑(D.l []).len:Int) (↑(D.l []).len:Int) (↑(D.l []).len:Int) (am.len:Int))=skS ch pc vs k v c t ek en ev ed op lk ln lv ld rk rn rv rd bd eb am)/\((k==(2:Int))=false->((k==(3:Int))=true->(xkC vs op lk ln lv ld rk rn rv rd=true/\True->SizeOf.sizeOf bd<m)/\(xkC vs op lk ln lv ld rk rn rv rd=true/\True->kOK bd)/\(xkC vs op lk ln lv ld rk rn rv rd&&bkR ch pc vs bd&&nkS (0:Int) v c t ek en ev (ed.len:Int) (0:Int) (0:Int) (0:Int) (0:Int) (↑(D.l []).len:Int) (0:Int) (0:Int) (0:Int) (↑(D.l []).len:Int) (↑(D.l []).len:Int) (eb.len:Int) (am.len:Int))=skS ch pc vs k v c t ek en ev ed op lk ln lv ld rk rn rv rd bd eb am)/\((k==(3:Int))=false->((k==(4:Int))=true->(skD ch pc c t&&xkX vs ek en ev ed&&nkS (0:Int) v (0:Int) (0:Int) (0:Int) (0:Int) (0:Int) (↑(D.l []).len:Int) op lk ln lv (ld.len:Int) rk rn rv (rd.len:Int) (bd.len:Int) (eb.len:Int) (am.len:Int))=skS ch pc vs k v c t ek en ev ed op lk ln lv ld rk rn rv rd bd eb am)/\((k==(4:Int))=false->((k==(5:Int))=true->SizeOf.sizeOf am<m/\amK am/\(rvK ch pc vs c am&&nkS (0:Int) v (0:Int) t ek en ev (ed.len:Int) op lk ln lv (ld.len:Int) rk rn rv (rd.len:Int) (bd.len:Int) (eb.len:Int) (↑(D.l []).len:Int))=skS ch pc vs k v c t ek en ev ed op lk ln lv ld rk rn rv rd bd eb am)/\((k==(5:Int))=false->((k==(6:Int))=true->(xkC vs op lk ln lv ld rk rn rv rd&&nkS (0:Int) v c t ek en ev (ed.len:Int) (0:Int) (0:Int) (0:Int) (0:Int) (↑(D.l []).len:Int) (0:Int) (0:Int) (0:Int) (↑(D.l []).len:Int) (bd.len:Int) (eb.len:Int) (am.len:Int))=skS ch pc vs k v c t ek en ev ed op lk ln lv ld rk rn rv rd bd eb am)/\((k==(6:Int))=false->((k==(7:Int))=true->(plK v vs&&nkS (0:Int) (0:Int) c t ek en ev (ed.len:Int) op lk ln lv (ld.len:Int) rk rn rv (rd.len:Int) (bd.len:Int) (eb.len:Int) (am.len:Int))=skS ch pc vs k v c t ek en ev ed op lk ln lv ld rk rn rv rd bd eb am)/\((k==(7:Int))=false->false=skS ch pc vs k v c t ek en ev ed op lk ln lv ld rk rn rv rd bd eb am)))))))) (by kernel_rfl) ?_
  intro h1 h2 h3 h4 h5 h6;simp only [nkS,k_z0,k_zN,k_zL,Bool.true_and,Bool.and_true];unfold skS;refine ⟨fun h=>?_,fun n1=>⟨fun h=>⟨fun _=>h1,fun _=>h4,fun _=>h2,fun _=>h5,?_⟩,fun n2=>⟨fun h=>⟨fun _=>h1,fun _=>h4,?_⟩,fun n3=>⟨fun h=>?_,fun n4=>⟨fun h=>⟨h3,h6,?_⟩,fun n5=>⟨fun h=>?_,fun n6=>⟨fun h=>?_,fun n7=>?_⟩⟩⟩⟩⟩⟩⟩
  ·obtain rfl:=eq_of_beq h;rw [skF_1];ac_rfl
  ·obtain rfl:=eq_of_beq h;rw [skF_2];ac_rfl
  ·obtain rfl:=eq_of_beq h;rw [skF_3];ac_rfl
  ·obtain rfl:=eq_of_beq h;rw [skF_4];ac_rfl
  ·obtain rfl:=eq_of_beq h;rw [skF_5];ac_rfl
  ·obtain rfl:=eq_of_beq h;rw [skF_6];ac_rfl
  ·obtain rfl:=eq_of_beq h;rw [skF_7];ac_rfl
  ·exact (skF_no (ne_of_beq_false n1) (ne_of_beq_false n2) (ne_of_beq_false n3) (ne_of_beq_false n4) (ne_of_beq_false n5) (ne_of_beq_false n6) (ne_of_beq_false n7)).symm
 ·trivial
theorem kbd_step (m:Nat) (ih:ConOK Tryz.prog 26 (con [kIn,kBo] (kbdSu m))):ConOK Tryz.prog 26 (con [kIn,kBo] (kbdSu (m+1))):=by
 refine fn_ob tt_ok mixed Tryz.func26 rfl (fun _ _=>by kernel_rfl) (A:=fun ds=>⟨fun _=>Cons.of [(49,(kstC m))],fun k=>match k,ds with | 2,[.d ch,.i pc,.i vs,.d d]=>some {ι:=Nat,pre:=fun _ i=>i<=d.len/\∀ j,j<i->skE ch pc vs d j=true,μ:=fun i=>d.len+1-i,st:=fun s i=>famR s [(9,.one (.sc (.int .i64 (.sym ((i:Int))))))] [2,7,8] [] [2]} |_,_=>none,fun _=>none⟩) (fun _ _=>(cons_cons (kst_ok ih) cons_nil)) (by kernel_rfl) ?_
 intro ds fr;unfold kbdSu;split
 ·rename_i ch pc vs d;refine @kmp _ (SizeOf.sizeOf d<m+(1:Nat)->kOK d->(∃ (i:Nat),(i<=d.len/\∀ (j:Nat),j<i->skE ch pc vs d j=true)/\(0:Int)=(i:Int)/\d.rows=d.rows/\(d.len:Int)=(d.len:Int)/\ch.rows=ch.rows/\pc=pc/\vs=vs)/\∀ (i:Nat),(i<=d.len/\∀ (j:Nat),j<i->skE ch pc vs d j=true)->(decide ((i:Int)<(d.len:Int))=true->((0:Int)<=(i:Int)/\(i:Int)<(d.len:Int))/\SizeOf.sizeOf (d.el (i:Int).toNat 17)<m/\SizeOf.sizeOf (d.el (i:Int).toNat 18)<m/\SizeOf.sizeOf (d.el (i:Int).toNat 19)<m/\kOK (d.el (i:Int).toNat 17)/\kOK (d.el (i:Int).toNat 18)/\amK (d.el (i:Int).toNat 19)/\((!skS ch pc vs (d.el (i:Int).toNat 0).toI (d.el (i:Int).toNat 1).toI (d.el (i:Int).toNat 2).toI (d.el (i:Int).toNat 3).toI (d.el (i:Int).toNat 4).toI (d.el (i:Int).toNat 5).toI (d.el (i:Int).toNat 6).toI (d.el (i:Int).toNat 7) (d.el (i:Int).toNat 8).toI (d.el (i:Int).toNat 9).toI (d.el (i:Int).toNat 10).toI (d.el (i:Int).toNat 11).toI (d.el (i:Int).toNat 12) (d.el (i:Int).toNat 13).toI (d.el (i:Int).toNat 14).toI (d.el (i:Int).toNat 15).toI (d.el (i:Int).toNat 16) (d.el (i:Int).toNat 17) (d.el (i:Int).toNat 18) (d.el (i:Int).toNat 19))=true->false=bkR ch pc vs d)/\((!skS ch pc vs (d.el (i:Int).toNat 0).toI (d.el (i:Int).toNat 1).toI (d.el (i:Int).toNat 2).toI (d.el (i:Int).toNat 3).toI (d.el (i:Int).toNat 4).toI (d.el (i:Int).toNat 5).toI (d.el (i:Int).toNat 6).toI (d.el (i:Int).toNat 7) (d.el (i:Int).toNat 8).toI (d.el (i:Int).toNat 9).toI (d.el (i:Int).toNat 10).toI (d.el (i:Int).toNat 11).toI (d.el (i:Int).toNat 12) (d.el (i:Int).toNat 13).toI (d.el (i:Int).toNat 14).toI (d.el (i:Int).toNat 15).toI (d.el (i:Int).toNat 16) (d.el (i:Int).toNat 17) (d.el (i:Int).toNat 18) (d.el (i:Int).toNat 19))=false->∃ (j:Nat),(j<=d.len/\∀ (j_1:Nat),j_1<j->skE ch pc vs d j_1=true)/\d.len+(1:Nat)-j<d.len+(1:Nat)-i/\IntKind.i64.wrap ((i:Int)+(1:Int))=(j:Int)/\d.rows=d.rows/\(d.len:Int)=(d.len:Int)/\ch.rows=ch.rows/\pc=pc/\vs=vs))/\(decide ((i:Int)<(d.len:Int))=false->true=bkR ch pc vs d)) (by kernel_rfl) ?_
  intro hm hs;simp only [Nat.reduceAdd,Nat.zero_add,k_n];have hl:=((kOK_iff d).1 hs).1;refine ⟨⟨0,⟨Nat.zero_le _,fun j hj=>absurd hj (Nat.not_lt_zero j)⟩,rfl,(by (repeat' (with_reducible apply And.intro))<;>first |exact True.intro |rfl)⟩,fun i hp=>⟨fun hc=>?_,fun hc=>?_⟩⟩
  ·have hc:=of_decide_eq_true hc;have hi:i<d.len:=by omega
   have z1:=lel_lt (j:=17) hi;have z2:=lel_lt (j:=18) hi;have z3:=lel_lt (j:=19) hi;obtain ⟨s1,s2,s3⟩:=((kOK_iff d).1 hs).2 i hi;refine ⟨⟨by omega,by omega⟩,by omega,by omega,by omega,s1,s2,s3,fun hq=>?_,fun hq=>?_⟩
   ·rw [Bool.not_eq_true'] at hq;rw [bkR_eq];exact (allB_no hi hq).symm
   ·rw [Bool.not_eq_false'] at hq;exact ⟨i+1,⟨hi,k_ext hp.2 hq⟩,by omega,k_nx (by omega),(by (repeat' (with_reducible apply And.intro))<;>first |exact True.intro |rfl)⟩
  ·have hc:=of_decide_eq_false hc;rw [bkR_eq];exact (allB_yes fun j hj=>hp.2 j (by omega)).symm
 ·trivial
theorem kbd_ok:ConOK Tryz.prog 26 kbdC:=
 con_rec kbdM (fun _ _=>by kernel_rfl) fun m ih=>by
  rw [kbd_under] at ih ⊢;exact kbd_step m ih
def kCh:AP:=.agg [.c (.int .i64),.c (.int .i64),.c (.int .i64),.c (.int .i64),.c (.int .i64),.c (.rows 40)]
def kPr:AP:=.agg [.c (.rows 69),.c (.rows 78)]
def mxK (x y:Int):Int:=if y>x then y else x
def tpA (row:D) (n k:Int) (a:Int):Nat->Int
 | 0=>a
 |t+1=>if plK (row.el t 0).toI n=true then mxK (mxK (tpA row n k a t) k) (row.el t 0).toI else tpA row n k a t
def tpR (ru:D):Nat->Int
 | 0=>0
 |k+1=>tpA (ru.el k 0) ru.len k (tpR ru k) (ru.el k 0).len
def enB (row:D) (n:Int) (t:Nat):Bool:=plK (row.el t 0).toI n ||(row.el t 0).toI == -1
def rwK (ru:D) (ts:Int) (k:Nat):Bool:=((ru.el k 0).len:Int)==ts&&allB (ru.el k 0).len (enB (ru.el k 0) ru.len)
def ruK (ts:Int) (ru:D):Bool:=!decide ((ru.len:Int)>8)&&allB ru.len (rwK ru ts)&&((ru.len:Int)==0 ||tpR ru ru.len==(ru.len:Int)-1)
def chKb (n ck cz cf ct cg:Int) (ru:D):Bool:=decide (ck>=0)&&decide (ck<=2)&&decide (cz>=1)&&decide (cz<=16)&&plK cf n&&plK ct n&&cf != ct&&decide (cg>=1)&&decide (cg<=4)&&ruK cg ru
def chK (n:Int) (ch:D) (i:Nat):Bool:=chKb n (ch.el i 0).toI (ch.el i 1).toI (ch.el i 2).toI (ch.el i 3).toI (ch.el i 4).toI (ch.el i 5)
def prK (ch pr:D) (i:Nat):Bool:=!(decide ((pr.el i 0).toI<0) ||decide ((pr.el i 0).toI>6))&&bkR ch i (pr.el i 0).toI (pr.el i 1)
def riK (ch pr:D):Bool:=!(decide ((ch.len:Int)>4) ||decide ((pr.len:Int)<1) ||decide ((pr.len:Int)>4))&&allB ch.len (chK pr.len ch)&&allB pr.len (prK ch pr)
noncomputable def kruS:FSpec:=fun ds _=>match ds with
 | [.i ck,.i cz,.i cf,.i ct,.i cg,.d ru]=>some {val:=.one (.sc (.bool (.sym (ruK cg ru)))),vc:=[cg<=4]}
 |_=>none
noncomputable def kruC:Con:=con [kCh] kruS
theorem kru_ok:ConOK Tryz.prog 48 kruC:=by
 refine fn_ob tt_ok mixed Tryz.func48 rfl (fun _ _=>by kernel_rfl) (A:=fun ds=>⟨fun _=>Cons.of [(47,kplC)],fun k=>match k,ds with | 5,[.i ck,.i cz,.i cf,.i ct,.i cg,.d ru]=>some {ι:=Nat,pre:=fun _ k=>k<=ru.len/\(ru.len<=8/\∀ j,j<k->rwK ru cg j=true),μ:=fun k=>ru.len+1-k,st:=fun s k=>famR s [(15,.one (.sc (.int .i64 (.sym ((k:Nat)))))),(3,.one (.sc (.int .i64 (.sym (tpR ru k)))))] [1,13,14] [] [1]} | 10,[.i ck,.i cz,.i cf,.i ct,.i cg,.d ru]=>some {ι:=Nat,pre:=fun s t=>t<=(ru.el (slotN s 15) 0).len/\((ru.el (slotN s 15) 0).len=cg.toNat/\∀ j,j<t->enB (ru.el (slotN s 15) 0) ru.len j=true),μ:=fun t=>9-t,st:=fun s t=>famR s [(27,.one (.sc (.int .i64 (.sym ((t:Nat)))))),(3,.one (.sc (.int .i64 (.sym (tpA (ru.el (slotN s 15) 0) ru.len (slotN s 15) (tpR ru (slotN s 15)) t)))))] [1,13,14,15,4,5,25,26] [] [1]} |_,_=>none,fun _=>none⟩) (fun _ _=>(cons_cons kpl_ok cons_nil)) (by kernel_rfl) ?_
 intro ds fr;unfold kruS;split
 ·rename_i ck cz cf ct cg ru
  refine kmp (q:=cg<=(4:Int)->(decide ((ru.len:Int)>(8:Int))=true->false=ruK cg ru)/\(decide ((ru.len:Int)>(8:Int))=false->(∃ (i:Nat),(i<=ru.len/\ru.len<=8/\∀ (j:Nat),j<i->rwK ru cg j=true)/\(0:Int)=(i:Int)/\(0:Int)=tpR ru i/\ru.rows=ru.rows/\(ru.len:Int)=(ru.len:Int)/\ck=ck/\cz=cz/\cf=cf/\ct=ct/\cg=cg/\ru.rows=ru.rows)/\∀ (i:Nat),(i<=ru.len/\ru.len<=8/\∀ (j:Nat),j<i->rwK ru cg j=true)->(decide ((i:Int)<(ru.len:Int))=true->((0:Int)<=(i:Int)/\(i:Int)<(ru.len:Int))/\(((↑(ru.el (i:Int).toNat 0).len:Int) != cg)=true->false=ruK cg ru)/\(((↑(ru.el (i:Int).toNat 0).len:Int) != cg)=false->(∃ (i_1:Nat),(i_1<=(ru.el i 0).len/\(ru.el i 0).len=cg.toNat/\∀ (j:Nat),j<i_1->enB (ru.el i 0) (ru.len:Int) j=true)/\(0:Int)=(i_1:Int)/\tpR ru i=tpA (ru.el i 0) (ru.len:Int) (i:Int) (tpR ru i) i_1/\ru.rows=ru.rows/\(ru.len:Int)=(ru.len:Int)/\(i:Int)=(i:Int)/\(i:Int)=(i:Int)/\(ru.el (i:Int).toNat 0).rows=(ru.el (i:Int).toNat 0).rows/\(ru.el (i:Int).toNat 0).rows=(ru.el (i:Int).toNat 0).rows/\(↑(ru.el (i:Int).toNat 0).len:Int)=(↑(ru.el (i:Int).toNat 0).len:Int)/\ck=ck/\cz=cz/\cf=cf/\ct=ct/\cg=cg/\ru.rows=ru.rows)/\∀ (i_1:Nat),(i_1<=(ru.el i 0).len/\(ru.el i 0).len=cg.toNat/\∀ (j:Nat),j<i_1->enB (ru.el i 0) (ru.len:Int) j=true)->(decide ((i_1:Int)<(↑(ru.el (i:Int).toNat 0).len:Int))=true->((0:Int)<=(i_1:Int)/\(i_1:Int)<(↑(ru.el (i:Int).toNat 0).len:Int))/\(plK ((ru.el (i:Int).toNat 0).el (i_1:Int).toNat 0).toI (ru.len:Int)=true->∃ (j:Nat),(j<=(ru.el i 0).len/\(ru.el i 0).len=cg.toNat/\∀ (j_1:Nat),j_1<j->enB (ru.el i 0) (ru.len:Int) j_1=true)/\(9:Nat)-j<(9:Nat)-i_1/\IntKind.i64.wrap ((i_1:Int)+(1:Int))=(j:Int)/\(if ((ru.el (i:Int).toNat 0).el (i_1:Int).toNat 0).toI>if (i:Int)>tpA (ru.el i 0) (ru.len:Int) (i:Int) (tpR ru i) i_1 then (i:Int) else tpA (ru.el i 0) (ru.len:Int) (i:Int) (tpR ru i) i_1 then ((ru.el (i:Int).toNat 0).el (i_1:Int).toNat 0).toI else if (i:Int)>tpA (ru.el i 0) (ru.len:Int) (i:Int) (tpR ru i) i_1 then (i:Int) else tpA (ru.el i 0) (ru.len:Int) (i:Int) (tpR ru i) i_1)=tpA (ru.el i 0) (ru.len:Int) (i:Int) (tpR ru i) j/\ru.rows=ru.rows/\(ru.len:Int)=(ru.len:Int)/\(i:Int)=(i:Int)/\(i:Int)=(i:Int)/\(ru.el (i:Int).toNat 0).rows=(ru.el (i:Int).toNat 0).rows/\(ru.el (i:Int).toNat 0).rows=(ru.el (i:Int).toNat 0).rows/\(↑(ru.el (i:Int).toNat 0).len:Int)=(↑(ru.el (i:Int).toNat 0).len:Int)/\ck=ck/\cz=cz/\cf=cf/\ct=ct/\cg=cg/\ru.rows=ru.rows)/\(plK ((ru.el (i:Int).toNat 0).el (i_1:Int).toNat 0).toI (ru.len:Int)=false->((((ru.el (i:Int).toNat 0).el (i_1:Int).toNat 0).toI != (-1:Int))=true->false=ruK cg ru)/\((((ru.el (i:Int).toNat 0).el (i_1:Int).toNat 0).toI != (-1:Int))=false->∃ (j:Nat),(j<=(ru.el i 0).len/\(ru.el i 0).len=cg.toNat/\∀ (j_1:Nat),j_1<j->enB (ru.el i 0) (ru.len:Int) j_1=true)/\(9:Nat)-j<(9:Nat)-i_1/\IntKind.i64.wrap ((i_1:Int)+(1:Int))=(j:Int)/\tpA (ru.el i 0) (ru.len:Int) (i:Int) (tpR ru i) i_1=tpA (ru.el i 0) (ru.len:Int) (i:Int) (tpR ru i) j/\ru.rows=ru.rows/\(ru.len:Int)=(ru.len:Int)/\(i:Int)=(i:Int)/\(i:Int)=(i:Int)/\(ru.el (i:Int).toNat 0).rows=(ru.el (i:Int).toNat 0).rows/\(ru.el (i:Int).toNat 0).rows=(ru.el (i:Int).toNat 0).rows/\(↑(ru.el (i:Int).toNat 0).len:Int)=(↑(ru.el (i:Int).toNat 0).len:Int)/\ck=ck/\cz=cz/\cf=cf/\ct=ct/\cg=cg/\ru.rows=ru.rows)))/\(decide ((i_1:Int)<(↑(ru.el (i:Int).toNat 0).len:Int))=false->∃ (j:Nat),(j<=ru.len/\ru.len<=8/\∀ (j_1:Nat),j_1<j->rwK ru cg j_1=true)/\ru.len+(1:Nat)-j<ru.len+(1:Nat)-i/\IntKind.i64.wrap ((i:Int)+(1:Int))=(j:Int)/\tpA (ru.el i 0) (ru.len:Int) (i:Int) (tpR ru i) i_1=tpR ru j/\ru.rows=ru.rows/\(ru.len:Int)=(ru.len:Int)/\ck=ck/\cz=cz/\cf=cf/\ct=ct/\cg=cg/\ru.rows=ru.rows)))/\(decide ((i:Int)<(ru.len:Int))=false->((ru.len:Int)==(0:Int) ||tpR ru i==IntKind.i64.wrap ((ru.len:Int)-(1:Int)))=ruK cg ru))) (by kernel_rfl) ?_
  intro hg;simp only [Nat.reduceAdd,Nat.zero_add,k_n];refine ⟨fun h=>?_,fun h=>?_⟩
  ·unfold ruK;rw [h];rfl
  have h0:=h;have h:=of_decide_eq_false h;have l8:ru.len<=8:=by omega
  have bad:∀ {i},i<ru.len->rwK ru cg i=false->false=ruK cg ru:=fun hi hq=>by unfold ruK;rw [allB_no hi hq,Bool.and_false];rfl
  refine ⟨⟨0,⟨Nat.zero_le _,l8,fun j hj=>absurd hj (Nat.not_lt_zero j)⟩,rfl,(by (repeat' (with_reducible apply And.intro))<;>first |exact True.intro |rfl)⟩,fun i hp=>⟨fun hc=>?_,fun hc=>?_⟩⟩
  ·have hc:=of_decide_eq_true hc;have hi:i<ru.len:=by omega
   refine ⟨⟨by omega,by omega⟩,fun hq=>bad hi ?_,fun hq=>?_⟩
   ·unfold rwK;rw [show (((ru.el i 0).len:Int)==cg)=false by simpa using hq];rfl
   have hw:((ru.el i 0).len:Int)=cg:=by simpa using hq
   have hl:(ru.el i 0).len=cg.toNat:=by omega
   refine ⟨⟨0,⟨Nat.zero_le _,hl,fun j hj=>absurd hj (Nat.not_lt_zero j)⟩,rfl,(by (repeat' (with_reducible apply And.intro))<;>first |exact True.intro |rfl)⟩,fun t ht=>⟨fun hd=>?_,fun hd=>?_⟩⟩
   ·have hd:=of_decide_eq_true hd;have hti:t<(ru.el i 0).len:=by omega
    refine ⟨⟨by omega,by omega⟩,fun hx=>?_,fun hx=>⟨fun hy=>?_,fun hy=>?_⟩⟩
    ·refine ⟨t+1,⟨hti,hl,k_ext ht.2.2 (by unfold enB;rw [hx];rfl)⟩,by omega,k_nx (by omega),?_,(by (repeat' (with_reducible apply And.intro))<;>first |exact True.intro |rfl)⟩;rw [tpA,if_pos hx];rfl
    ·refine bad hi ?_
     unfold rwK;rw [allB_no hti (by unfold enB;rw [hx,show (((ru.el i 0).el t 0).toI == -1)=false by simpa using hy];rfl),Bool.and_false]
    ·refine ⟨t+1,⟨hti,hl,k_ext ht.2.2 (by unfold enB;rw [show (((ru.el i 0).el t 0).toI == -1)=true by simpa using hy,Bool.or_true])⟩,by omega,k_nx (by omega),?_,(by (repeat' (with_reducible apply And.intro))<;>first |exact True.intro |rfl)⟩;rw [tpA,if_neg (by rw [hx];decide)]
   ·have hd:=of_decide_eq_false hd;have ht':t=(ru.el i 0).len:=by have:=ht.1;omega
    subst ht';refine ⟨i+1,⟨hi,l8,k_ext hp.2.2 ?_⟩,by omega,k_nx (by omega),rfl,(by (repeat' (with_reducible apply And.intro))<;>first |exact True.intro |rfl)⟩;unfold rwK;rw [show (((ru.el i 0).len:Int)==cg)=true by simpa using hw,allB_yes fun j hj=>ht.2.2 j hj];rfl
  ·have hc:=of_decide_eq_false hc;obtain rfl:i=ru.len:=by have:=hp.1;omega
   have hw:IntKind.i64.wrap ((ru.len:Int)-1)=(ru.len:Int)-1:=IntWalk.i64_in _ (by omega);rw [hw];unfold ruK;rw [h0,allB_yes fun j hj=>hp.2.2 j hj];rfl
 ·trivial
noncomputable def kchS:FSpec:=fun ds _=>match ds with
 | [.i ck,.i cz,.i cf,.i ct,.i cg,.d ru,.i n]=>some {val:=.one (.sc (.bool (.sym (chKb n ck cz cf ct cg ru)))),vc:=[]}
 |_=>none
noncomputable def kchC:Con:=con [kCh,lI] kchS
set_option maxRecDepth 100000 in
theorem kch_ok:ConOK Tryz.prog 25 kchC:=by
 refine fn_ob tt_ok mixed Tryz.func25 rfl (fun _ _=>by kernel_rfl) (A:=fun ds=>⟨fun _=>Cons.of [(47,kplC),(48,kruC)],fun _=>none,fun _=>none⟩) (fun _ _=>(cons_cons kpl_ok (cons_cons kru_ok cons_nil))) (by kernel_rfl) ?_
 intro ds fr;unfold kchS;split
 ·rename_i ck cz cf ct cg ru n;refine kmp (q:=((decide (ck>=(0:Int))&&decide (ck<=(2:Int))&&decide (cz>=(1:Int))&&decide (cz<=(16:Int))&&plK cf n&&plK ct n&&cf != ct&&decide (cg>=(1:Int))&&decide (cg<=(4:Int)))=true/\True->cg<=(4:Int))/\(decide (ck>=(0:Int))&&decide (ck<=(2:Int))&&decide (cz>=(1:Int))&&decide (cz<=(16:Int))&&plK cf n&&plK ct n&&cf != ct&&decide (cg>=(1:Int))&&decide (cg<=(4:Int))&&ruK cg ru)=chKb n ck cz cf ct cg ru) (by kernel_rfl) ?_
  exact ⟨fun h=>(by have:=h.1;simp only [Bool.and_eq_true,decide_eq_true_eq] at this;exact this.2),rfl⟩
 ·trivial
noncomputable def kriS:FSpec:=fun ds _=>match ds with
 | [.d ch,.d pr]=>some {val:=.one (.sc (.bool (.sym (riK ch pr)))),vc:=[∀ i,i<pr.len->kOK (pr.el i 1)]}
 |_=>none
noncomputable def kriC:Con:=con [kPr] kriS
theorem kri_ok:ConOK Tryz.prog 9 kriC:=by
 refine fn_ob tt_ok mixed Tryz.func9 rfl (fun _ _=>by kernel_rfl) (A:=fun ds=>⟨fun _=>Cons.of [(25,kchC),(26,kbdC)],fun k=>match k,ds with | 4,[.d ch,.d pr]=>some {ι:=Nat,pre:=fun _ i=>i<=ch.len/\∀ j,j<i->chK pr.len ch j=true,μ:=fun i=>ch.len+1-i,st:=fun s i=>famR s [(27,.one (.sc (.int .i64 (.sym ((i:Nat))))))] [1,25,26] [] [1]} | 10,[.d ch,.d pr]=>some {ι:=Nat,pre:=fun _ i=>i<=pr.len/\∀ j,j<i->prK ch pr j=true,μ:=fun i=>pr.len+1-i,st:=fun s i=>famR s [(41,.one (.sc (.int .i64 (.sym ((i:Nat))))))] [1,39,40] [] [1]} |_,_=>none,fun _=>none⟩) (fun _ _=>(cons_cons kch_ok (cons_cons kbd_ok cons_nil))) (by kernel_rfl) ?_
 intro ds fr;unfold kriS;split
 ·rename_i ch pr;refine kmp (q:=(∀ (i:Nat),i<pr.len->kOK (pr.el i 1))->((decide ((ch.len:Int)>(4:Int)) ||decide ((pr.len:Int)<(1:Int)) ||decide ((pr.len:Int)>(4:Int)))=true->false=riK ch pr)/\((decide ((ch.len:Int)>(4:Int)) ||decide ((pr.len:Int)<(1:Int)) ||decide ((pr.len:Int)>(4:Int)))=false->(∃ (i:Nat),(i<=ch.len/\∀ (j:Nat),j<i->chK (pr.len:Int) ch j=true)/\(0:Int)=(i:Int)/\ch.rows=ch.rows/\(ch.len:Int)=(ch.len:Int)/\ch.rows=ch.rows/\pr.rows=pr.rows)/\∀ (i:Nat),(i<=ch.len/\∀ (j:Nat),j<i->chK (pr.len:Int) ch j=true)->(decide ((i:Int)<(ch.len:Int))=true->((0:Int)<=(i:Int)/\(i:Int)<(ch.len:Int))/\((!chKb (pr.len:Int) (ch.el (i:Int).toNat 0).toI (ch.el (i:Int).toNat 1).toI (ch.el (i:Int).toNat 2).toI (ch.el (i:Int).toNat 3).toI (ch.el (i:Int).toNat 4).toI (ch.el (i:Int).toNat 5))=true->false=riK ch pr)/\((!chKb (pr.len:Int) (ch.el (i:Int).toNat 0).toI (ch.el (i:Int).toNat 1).toI (ch.el (i:Int).toNat 2).toI (ch.el (i:Int).toNat 3).toI (ch.el (i:Int).toNat 4).toI (ch.el (i:Int).toNat 5))=false->∃ (j:Nat),(j<=ch.len/\∀ (j_1:Nat),j_1<j->chK (pr.len:Int) ch j_1=true)/\ch.len+(1:Nat)-j<ch.len+(1:Nat)-i/\IntKind.i64.wrap ((i:Int)+(1:Int))=(j:Int)/\ch.rows=ch.rows/\(ch.len:Int)=(ch.len:Int)/\ch.rows=ch.rows/\pr.rows=pr.rows))/\(decide ((i:Int)<(ch.len:Int))=false->(∃ (i:Nat),(i<=pr.len/\∀ (j:Nat),j<i->prK ch pr j=true)/\(0:Int)=(i:Int)/\pr.rows=pr.rows/\(pr.len:Int)=(pr.len:Int)/\ch.rows=ch.rows/\pr.rows=pr.rows)/\∀ (i:Nat),(i<=pr.len/\∀ (j:Nat),j<i->prK ch pr j=true)->(decide ((i:Int)<(pr.len:Int))=true->((0:Int)<=(i:Int)/\(i:Int)<(pr.len:Int))/\((decide ((pr.el (i:Int).toNat 0).toI<(0:Int)) ||decide ((pr.el (i:Int).toNat 0).toI>(6:Int)))=false/\True->kOK (pr.el (i:Int).toNat 1))/\((decide ((pr.el (i:Int).toNat 0).toI<(0:Int)) ||decide ((pr.el (i:Int).toNat 0).toI>(6:Int)) || !bkR ch (i:Int) (pr.el (i:Int).toNat 0).toI (pr.el (i:Int).toNat 1))=true->false=riK ch pr)/\((decide ((pr.el (i:Int).toNat 0).toI<(0:Int)) ||decide ((pr.el (i:Int).toNat 0).toI>(6:Int)) || !bkR ch (i:Int) (pr.el (i:Int).toNat 0).toI (pr.el (i:Int).toNat 1))=false->∃ (j:Nat),(j<=pr.len/\∀ (j_1:Nat),j_1<j->prK ch pr j_1=true)/\pr.len+(1:Nat)-j<pr.len+(1:Nat)-i/\IntKind.i64.wrap ((i:Int)+(1:Int))=(j:Int)/\pr.rows=pr.rows/\(pr.len:Int)=(pr.len:Int)/\ch.rows=ch.rows/\pr.rows=pr.rows))/\(decide ((i:Int)<(pr.len:Int))=false->true=riK ch pr)))) (by kernel_rfl) ?_
  intro ho;simp only [Nat.reduceAdd,Nat.zero_add,k_n];refine ⟨fun h=>?_,fun h=>?_⟩
  ·unfold riK;rw [h];rfl
  have h0:=h;simp only [Bool.or_eq_false_iff,decide_eq_false_iff_not] at h;refine ⟨⟨0,⟨Nat.zero_le _,fun j hj=>absurd hj (Nat.not_lt_zero j)⟩,rfl,(by (repeat' (with_reducible apply And.intro))<;>first |exact True.intro |rfl)⟩,fun i hp=>⟨fun hc=>?_,fun hc=>?_⟩⟩
  ·have hc:=of_decide_eq_true hc;have hi:i<ch.len:=by omega
   refine ⟨⟨by omega,by omega⟩,fun hq=>?_,fun hq=>?_⟩
   ·rw [Bool.not_eq_true'] at hq;unfold riK;rw [allB_no hi hq,Bool.and_false];rfl
   ·rw [Bool.not_eq_false'] at hq;exact ⟨i+1,⟨hi,k_ext hp.2 hq⟩,by omega,k_nx (by omega),(by (repeat' (with_reducible apply And.intro))<;>first |exact True.intro |rfl)⟩
  have hc:=of_decide_eq_false hc;have hch:allB ch.len (chK pr.len ch)=true:=allB_yes fun j hj=>hp.2 j (by omega)
  refine ⟨⟨0,⟨Nat.zero_le _,fun j hj=>absurd hj (Nat.not_lt_zero j)⟩,rfl,(by (repeat' (with_reducible apply And.intro))<;>first |exact True.intro |rfl)⟩,fun i hp=>⟨fun hc=>?_,fun hc=>?_⟩⟩
  ·have hc:=of_decide_eq_true hc;have hi:i<pr.len:=by omega
   have er:prK ch pr i = !(decide ((pr.el i 0).toI<0) ||decide ((pr.el i 0).toI>6) || !bkR ch i (pr.el i 0).toI (pr.el i 1)):=by
    unfold prK;simp only [Bool.not_or,Bool.not_not]
   refine ⟨⟨by omega,by omega⟩,fun _=>ho i hi,fun hq=>?_,fun hq=>?_⟩
   ·rw [hq] at er;unfold riK;rw [allB_no hi er,Bool.and_false]
   ·rw [hq] at er;exact ⟨i+1,⟨hi,k_ext hp.2 er⟩,by omega,k_nx (by omega),(by (repeat' (with_reducible apply And.intro))<;>first |exact True.intro |rfl)⟩
  ·have hc:=of_decide_eq_false hc;unfold riK;rw [h0,hch,allB_yes fun j hj=>hp.2 j (by omega)];rfl
 ·trivial
def txK:ByteArray:=⟨#[99,104,97,110,32,99,32,98,108,111,99,107,32,49,32,102,114,111,109,32,112,32,116,111,32,113,32,123,32,97,32,125,32,59,32,112,114,111,99,32,112,32,123,32,115,101,110,100,32,99,32,46,32,97,32,40,32,49,32,41,32,59,32,125,32,112,114,111,99,32,113,32,123,32,125]⟩
def tcC:D:=.l [[.s ⟨#[99]⟩,.i 0,.i 1,.s ⟨#[112]⟩,.s ⟨#[113]⟩,.l [[.s ⟨#[97]⟩]]]]
def tcP:D:=.l [[.s ⟨#[112]⟩,.l [],.l [[.i 4,.s ⟨#[99]⟩,.s ⟨#[97]⟩,.i 1,.i 1,.s ByteArray.empty,.l [],.i 0,.i 0,.i 0,.s ByteArray.empty,.l [],.i 0,.i 0,.s ByteArray.empty,.l [],.l [],.l [],.l []]]],[.s ⟨#[113]⟩,.l [],.l []]]
theorem conS_subK {P:Program} {f:FuncId} {aps:List AP} {S S':List Dat->Option Eff} (h:ConOK P f (conS aps S)) (hS:∀ ds e,S' ds=some e->S ds=some e):ConOK P f (conS aps S'):=by
 refine ⟨h.enters,fun hp fr args e he=>h.calls hp fr args e ?_,fun hp fr caps e he=>?_⟩
 ·unfold conS con at he ⊢
  split at he
  ·rename_i ds ps hds
   cases hq:S' ds with
   |none=>simp only [hq] at he;cases he
   |some x=>
    simp only [hq] at he;simp only [hds,hS _ _ hq];exact he
  ·cases he
 ·unfold conS at he;rw [con_jf] at he;cases he
theorem ba_eqK {a b:ByteArray} (h:(a.toList==b.toList)=true):a=b:=by
 have h:=eq_of_beq h;rw [ByteArray.toList_eq,ByteArray.toList_eq] at h;exact ByteArray.ext (Array.toList_inj.1 h)
noncomputable def pktS:List Dat->Option Eff:=fun ds=>match ds with
 | [.s s]=>(match s.toList==txK.toList with
   |true=>some {val:=.tup [.agg [.c (.osl 118 0 (.lit 0) (.sym (D.len (.l [[.s ⟨#[99]⟩,.i 0,.i 1,.s ⟨#[112]⟩,.s ⟨#[113]⟩,.l [[.s ⟨#[97]⟩]]]])))),.c (.osl 121 1 (.lit 0) (.sym (D.len (.l [])))),.c (.osl 126 2 (.lit 0) (.sym (D.len (.l [[.s ⟨#[112]⟩,.l [],.l [[.i 4,.s ⟨#[99]⟩,.s ⟨#[97]⟩,.i 1,.i 1,.s ByteArray.empty,.l [],.i 0,.i 0,.i 0,.s ByteArray.empty,.l [],.i 0,.i 0,.s ByteArray.empty,.l [],.l [],.l [],.l []]]],[.s ⟨#[113]⟩,.l [],.l []]]))))],.sc (.int .i64 (.sym 0)),.sc (.int .i64 (.sym 0))],vc:=[s.size<=140737488351232],nw:=[(0,.orow 118 (.l [[.s ⟨#[99]⟩,.i 0,.i 1,.s ⟨#[112]⟩,.s ⟨#[113]⟩,.l [[.s ⟨#[97]⟩]]]])),(1,.orow 121 (.l [])),(2,.orow 126 (.l [[.s ⟨#[112]⟩,.l [],.l [[.i 4,.s ⟨#[99]⟩,.s ⟨#[97]⟩,.i 1,.i 1,.s ByteArray.empty,.l [],.i 0,.i 0,.i 0,.s ByteArray.empty,.l [],.i 0,.i 0,.s ByteArray.empty,.l [],.l [],.l [],.l []]]],[.s ⟨#[113]⟩,.l [],.l []]]))]}
   |false=>none)
 |_=>none
set_option maxRecDepth 100000 in
theorem tk_facts:paC txK=tcC/\paU txK = .l []/\paP txK=tcP/\paA txK=0/\paE txK=0:=⟨by kernel_rfl,by kernel_rfl,by kernel_rfl,by decide +kernel,by decide +kernel⟩
theorem pkt_ok:ConOK Tryz.prog 16 (conS [.sc .str] pktS):=conS_subK par_ok fun ds e h=>by
 unfold pktS at h
 split at h
 ·rename_i s
  split at h
  ·rename_i hs;obtain rfl:=ba_eqK hs;obtain ⟨a,b,c,d,e⟩:=tk_facts;rw [<- h];unfold parS;simp only [a,b,c,d,e];rfl
  ·cases h
 ·cases h
theorem lt1 {P:Nat->Prop} (h:P 0):∀ i,i<1->P i:=fun i hi=>by obtain rfl:i=0:=by omega
                                                             exact h
theorem lt2 {P:Nat->Prop} (h:P 0) (h1:P 1):∀ i,i<2->P i:=fun i hi=>by
 have:i=0 ∨ i=1:=by omega
 rcases this with rfl |rfl
 ·exact h
 ·exact h1
theorem tk_al:allB tcC.len (chE tcC)=true:=by kernel_rfl
theorem tk_pr:allB tcP.len (prE tcP)=true:=by
 show allB 2 _=true;rw [allB_2];unfold prE;rw [bA_eq,bA_eq]
 kernel_rfl
theorem tk_sy:syB tcC (.l []) tcP=true:=by
 unfold syB;rw [tk_al,tk_pr];rfl
theorem tk_ok:SyOK tcC (.l []) tcP:=⟨(show (1:Nat)<=10000000000000 by decide),lt1 (show (1:Nat)<=10000000000000 by decide),Nat.zero_le _,fun i h=>absurd h (Nat.not_lt_zero i),(show (2:Nat)<=10000000000000 by decide),lt2 (Nat.zero_le _) (Nat.zero_le _),lt2 (by
 rw [sOK_iff];refine ⟨(show (1:Nat)<=10000000000000 by decide),lt1 ⟨?_,?_,?_⟩⟩
 ·rw [sOK_iff];exact ⟨Nat.zero_le _,fun i h=>absurd h (Nat.not_lt_zero i)⟩
 ·rw [sOK_iff];exact ⟨Nat.zero_le _,fun i h=>absurd h (Nat.not_lt_zero i)⟩
 ·exact ⟨Nat.zero_le _,fun i h=>absurd h (Nat.not_lt_zero i)⟩) (by
 rw [sOK_iff];exact ⟨Nat.zero_le _,fun i h=>absurd h (Nat.not_lt_zero i)⟩)⟩
theorem tk_ck:CkOK tcC (.l []) tcP where
 w1:=tk_ok
 w2:=fun h _=>SyF_of tk_ok h
 w3:=by
  unfold wdE;rw [if_pos tk_sy]
  repeat' split
  all_goals decide
 d:=by kernel_rfl
 dt:=lt1 (show (1:Nat)<=10000000000000 by decide)
 r:=rfl
 c:=⟨(show (1:Nat)<=1000000 by decide),(show (2:Nat)<=1000000 by decide),lt1 (of_decide_eq_true (by kernel_rfl)),lt1 (of_decide_eq_true (by kernel_rfl)),lt1 (of_decide_eq_true (by kernel_rfl))⟩
 p:=⟨(show (2:Nat)<=1000000 by decide),lt2 (Nat.zero_le _) (Nat.zero_le _),lt2 rfl rfl,lt2 ⟨(show (1:Nat)<=1000000 by decide),lt1 ⟨rfl,rfl,(show (1:Nat)<=10000000000000 by decide),(of_decide_eq_true (by kernel_rfl)),by kernel_rfl,(of_decide_eq_true (by kernel_rfl)),(of_decide_eq_true (by kernel_rfl))⟩⟩ ⟨Nat.zero_le _,fun i h=>absurd h (Nat.not_lt_zero i)⟩⟩
theorem tk_ri:riK (cpTo tcC.len (bcR tcC tcP)) (cpTo tcP.len (bpR tcC tcP))=true:=by
 have h1:allB (cpTo tcC.len (bcR tcC tcP)).len (chK (cpTo tcP.len (bpR tcC tcP)).len (cpTo tcC.len (bcR tcC tcP)))=true:=by kernel_rfl
 have h2:allB (cpTo tcP.len (bpR tcC tcP)).len (prK (cpTo tcC.len (bcR tcC tcP)) (cpTo tcP.len (bpR tcC tcP)))=true:=by
  show allB 2 _=true;rw [allB_2];unfold prK;rw [bkR_eq,bkR_eq]
  kernel_rfl
 have h0:(decide (((cpTo tcC.len (bcR tcC tcP)).len:Int)>4) ||decide (((cpTo tcP.len (bpR tcC tcP)).len:Int)<1) ||decide (((cpTo tcP.len (bpR tcC tcP)).len:Int)>4))=false:=by kernel_rfl
 unfold riK;rw [h0,h1,h2];rfl
theorem tk_ri0:riK (.l []) (.l [])=false:=by kernel_rfl
theorem tk_kb:∀ i,i<(cpTo tcP.len (bpR tcC tcP)).len->kOK ((cpTo tcP.len (bpR tcC tcP)).el i 1):=lt2 (by
 rw [kOK_iff];refine ⟨(show (1:Nat)<=10000000000000 by decide),lt1 ⟨?_,?_,?_⟩⟩
 ·rw [kOK_iff];exact ⟨Nat.zero_le _,fun i h=>absurd h (Nat.not_lt_zero i)⟩
 ·rw [kOK_iff];exact ⟨Nat.zero_le _,fun i h=>absurd h (Nat.not_lt_zero i)⟩
 ·exact ⟨Nat.zero_le _,fun i h=>absurd h (Nat.not_lt_zero i)⟩) (by
 rw [kOK_iff];exact ⟨Nat.zero_le _,fun i h=>absurd h (Nat.not_lt_zero i)⟩)
noncomputable def cksS:FSpec:=fun ds _=>match ds with
 | []=>some {val:=.one (.sc (.bool (.sym (true)))),vc:=[]}
 |_=>none
noncomputable def cksC:Con:=con [] cksS
set_option maxRecDepth 100000 in
theorem cks_ok:ConOK Tryz.prog 8 cksC:=by
 refine fn_ob tt_ok mixed Tryz.func8 rfl (fun _ _=>by kernel_rfl) (A:=fun ds=>⟨fun _=>Cons.of [(16,(conS [.sc .str] pktS)),(12,kchkC),(9,kriC)],fun _=>none,fun _=>none⟩) (fun _ _=>(cons_cons pkt_ok (cons_cons kchk_ok (cons_cons kri_ok cons_nil)))) (by kernel_rfl) ?_
 intro ds fr;unfold cksS;split
 ·skip
  refine kmp (q:=withv ((D.l [[D.s (ByteArray.mk #[112]),D.l [],D.l [[D.i 4,D.s (ByteArray.mk #[99]),D.s (ByteArray.mk #[97]),D.i 1,D.i 1,D.s ByteArray.empty,D.l [],D.i 0,D.i 0,D.i 0,D.s ByteArray.empty,D.l [],D.i 0,D.i 0,D.s ByteArray.empty,D.l [],D.l [],D.l [],D.l []]]],[D.s (ByteArray.mk #[113]),D.l [],D.l []]]).sub ((0:Nat)) ((0:Nat)+(2:Nat))) fun E296=>withv ((D.l [[D.s (ByteArray.mk #[99]),D.i 0,D.i 1,D.s (ByteArray.mk #[112]),D.s (ByteArray.mk #[113]),D.l [[D.s (ByteArray.mk #[97])]]]]).sub ((0:Nat)) 1) fun E297=>withv (cpTo E297.len (bcR E297 E296)) fun E298=>withv (cpTo E296.len (bpR E297 E296)) fun E299=>(ByteArray.mk (([(99:UInt8),(104:UInt8),(97:UInt8),(110:UInt8),(32:UInt8),(99:UInt8),(32:UInt8),(98:UInt8),(108:UInt8),(111:UInt8),(99:UInt8),(107:UInt8),(32:UInt8),(49:UInt8),(32:UInt8),(102:UInt8),(114:UInt8),(111:UInt8),(109:UInt8),(32:UInt8),(112:UInt8),(32:UInt8),(116:UInt8),(111:UInt8),(32:UInt8),(113:UInt8),(32:UInt8),(123:UInt8),(32:UInt8),(97:UInt8),(32:UInt8),(125:UInt8),(32:UInt8),(59:UInt8),(32:UInt8),(112:UInt8),(114:UInt8)].append [(111:UInt8),(99:UInt8),(32:UInt8),(112:UInt8),(32:UInt8),(123:UInt8),(32:UInt8),(115:UInt8),(101:UInt8),(110:UInt8),(100:UInt8),(32:UInt8),(99:UInt8),(32:UInt8),(46:UInt8),(32:UInt8),(97:UInt8),(32:UInt8),(40:UInt8),(32:UInt8),(49:UInt8),(32:UInt8),(41:UInt8),(32:UInt8),(59:UInt8),(32:UInt8),(125:UInt8),(32:UInt8),(112:UInt8),(114:UInt8),(111:UInt8),(99:UInt8),(32:UInt8),(113:UInt8),(32:UInt8),(123:UInt8),(32:UInt8),(125:UInt8)]).toArray)).size<=140737488351232/\(0:Nat)+(1:Nat)<=(D.l [[D.s (ByteArray.mk #[99]),D.i 0,D.i 1,D.s (ByteArray.mk #[112]),D.s (ByteArray.mk #[113]),D.l [[D.s (ByteArray.mk #[97])]]]]).len/\(0:Nat)+(0:Nat)<=(D.l []).len/\(0:Nat)+(2:Nat)<=(D.l [[D.s (ByteArray.mk #[112]),D.l [],D.l [[D.i 4,D.s (ByteArray.mk #[99]),D.s (ByteArray.mk #[97]),D.i 1,D.i 1,D.s ByteArray.empty,D.l [],D.i 0,D.i 0,D.i 0,D.s ByteArray.empty,D.l [],D.i 0,D.i 0,D.s ByteArray.empty,D.l [],D.l [],D.l [],D.l []]]],[D.s (ByteArray.mk #[113]),D.l [],D.l []]]).len/\CkOK E297 ((D.l []).sub ((0:Nat)) ((0:Nat)+(0:Nat))) E296/\((((0:Int)==(0:Int) ||false)&&(E298.len:Int)==(1:Int))=true/\True->(0:Nat)<E298.len)/\((((0:Int)==(0:Int) ||false)&&(E298.len:Int)==(1:Int)&&ixC E296 (ByteArray.mk #[112])==(0:Int))=true/\True->(0:Nat)<E298.len)/\((((0:Int)==(0:Int) ||false)&&(E298.len:Int)==(1:Int)&&ixC E296 (ByteArray.mk #[112])==(0:Int)&&ixC E296 (ByteArray.mk #[113])==(1:Int)&&(E299.len:Int)==(2:Int))=true/\True->∀ (i:Nat),i<E299.len->kOK (E299.el i 1))/\((((0:Int)==(0:Int) ||false)&&(E298.len:Int)==(1:Int)&&ixC E296 (ByteArray.mk #[112])==(0:Int)&&ixC E296 (ByteArray.mk #[113])==(1:Int)&&(E299.len:Int)==(2:Int)&&riK E298 E299)=true/\True->∀ (i:Nat),i<(D.l []).len->kOK ((D.l []).el i 1))/\(((0:Int)==(0:Int) ||false)&&(E298.len:Int)==(1:Int)&&ixC E296 (ByteArray.mk #[112])==(0:Int)&&ixC E296 (ByteArray.mk #[113])==(1:Int)&&(E299.len:Int)==(2:Int)&&riK E298 E299 && !riK (D.l []) (D.l []))=true) (by kernel_rfl) ?_
  dsimp +instances only [withv]
  have eC:D.sub (.l [[.s ⟨#[99]⟩,.i 0,.i 1,.s ⟨#[112]⟩,.s ⟨#[113]⟩,.l [[.s ⟨#[97]⟩]]]]) 0 (0+1)=tcC:=rfl;have eP:D.sub (.l [[.s ⟨#[112]⟩,.l [],.l [[.i 4,.s ⟨#[99]⟩,.s ⟨#[97]⟩,.i 1,.i 1,.s ByteArray.empty,.l [],.i 0,.i 0,.i 0,.s ByteArray.empty,.l [],.i 0,.i 0,.s ByteArray.empty,.l [],.l [],.l [],.l []]]],[.s ⟨#[113]⟩,.l [],.l []]]) 0 (0+2)=tcP:=rfl;have eU:D.sub (.l []) 0 (0+0) = .l []:=rfl;rw [eC,eP,eU,tk_ri,tk_ri0];exact ⟨of_decide_eq_true (by kernel_rfl),Nat.le_refl _,Nat.le_refl _,Nat.le_refl _,tk_ck,fun _=>of_decide_eq_true (by kernel_rfl),fun _=>of_decide_eq_true (by kernel_rfl),fun _=>tk_kb,fun _ i h=>absurd h (Nat.not_lt_zero i),by kernel_rfl⟩
 ·trivial
def sB (n:UInt8):D:=.s ⟨#[n]⟩
def crC:D:=.l [[sB 99,D.i 0,D.i 1,sB 112,sB 113,.l [[sB 97],[sB 98]]]]
def crP:D:=.l [[sB 112,.l [],.l []],[sB 113,.l [],.l []]]
def crU (l:D):D:=.l [[sB 99,l]]
def crT:D:=.l [[sB 97],[sB 98]]
def rqI (n:Int):Int:=IntKind.i64.wrap ((IntKind.u64.wrap n).tmod 8)
def rqT (n:Int):Int:=bits2 (fun _ a b=>a &&& b) .i64 n 1
theorem rqI_b (n:Int):0<=rqI n/\rqI n<8:=by
 have h:0<=IntKind.u64.wrap n/\IntKind.u64.wrap n<18446744073709551616:=by
  have hm:IntKind.u64.wrap n=n%18446744073709551616:=by rfl
  rw [hm];omega
 have h2:(IntKind.u64.wrap n).tmod 8=IntKind.u64.wrap n%8:=Int.tmod_eq_emod_of_nonneg h.1;unfold rqI;rw [h2,IntWalk.i64_in _ (by omega)];omega
theorem rqT_b (n:Int):0<=rqT n/\rqT n<2:=by
 have h:(BitVec.ofInt 64 n &&& BitVec.ofInt 64 1).toNat<2:=by
  rw [BitVec.toNat_and,show (BitVec.ofInt 64 1).toNat=1 from rfl,Nat.and_one_is_mod];omega
 show 0<=IntKind.i64.wrap ((BitVec.ofInt 64 n &&& BitVec.ofInt 64 1).toNat:Int)/\IntKind.i64.wrap ((BitVec.ofInt 64 n &&& BitVec.ofInt 64 1).toNat:Int)<2;rw [IntWalk.i64_in _ (by omega)];omega
structure RQ where
 w:Nat->Int
 t:Int
 l:D
def rqA (mv:D) (j:Nat):Int:=rqI (mv.el j 0).toI
def rqB (mv:D) (j:Nat):Int:=rqT (mv.el j 2).toI
def rqC (mv:D) (j:Nat):Int:=rqI (mv.el j 2).toI
def rqR (mv:D) (j:Nat):List D:=[D.i (rqA mv j),D.s (crT.el (rqB mv j).toNat 0).toS,D.i (rqC mv j)]
def rqJ (mv:D) (j:Nat) (q:RQ):RQ:=
 if q.w ((rqA mv j).toNat*2+(rqB mv j).toNat)>0 then q
 else ⟨putF q.w ((rqA mv j).toNat*2+(rqB mv j).toNat) 1 (fun _=>rqC mv j+1),max (max q.t (rqA mv j)) (rqC mv j),.l (q.l.rows++[rqR mv j])⟩
def rq (mv:D) (k:Nat):RQ:=goN (rqJ mv) k ⟨fun _=>0,0,.l []⟩
theorem rq_s (mv:D) (k:Nat):rq mv (k+1)=rqJ mv k (rq mv k):=goN_s _ _ _
theorem apR_len (d:D) (r:List D):(D.l (d.rows++[r])).len=d.len+1:=by
 show (d.rows++[r]).length=_;rw [List.length_append];rfl
theorem apR_lt {d:D} {r:List D} {j c:Nat} (h:j<d.len):(D.l (d.rows++[r])).el j c=d.el j c:=by
 show ((d.rows++[r]).getD j []).getD c (.i 0)=_;rw [List.getD_eq_getElem?_getD (l:=_++_),List.getElem?_append_left h,<- List.getD_eq_getElem?_getD];rfl
theorem apR_at (d:D) (r:List D) (c:Nat):(D.l (d.rows++[r])).el d.len c=r.getD c (.i 0):=by
 show ((d.rows++[r]).getD d.len []).getD c (.i 0)=_;rw [List.getD_eq_getElem?_getD (l:=_++_),show d.len=d.rows.length from rfl,List.getElem?_append_right (Nat.le_refl _),Nat.sub_self];rfl
theorem bruK_c {m n t:D}:∀ {k:Nat},(∀ j,j<k->(m.el j 0).toI=(n.el j 0).toI/\(m.el j 1).toS=(n.el j 1).toS/\(m.el j 2).toI=(n.el j 2).toI)->bruK m t k=bruK n t k
 | 0,_=>rfl
 |k+1,h=>by
  rw [bruK_s,bruK_s,bruK_c (k:=k) (fun j hj=>h j (by omega))];obtain ⟨a,b,c⟩:=h k (by omega);unfold ruJ;rw [a,b,c]
theorem cp_mv {l:D} {j:Nat} (h:j<l.len):((cpTo l.len (mvR l)).el j 0).toI=(l.el j 0).toI/\((cpTo l.len (mvR l)).el j 1).toS=(l.el j 1).toS/\((cpTo l.len (mvR l)).el j 2).toI=(l.el j 2).toI:=by
 rw [cpTo_elJ h,cpTo_elJ h,cpTo_elJ h];exact ⟨rfl,rfl,rfl⟩
theorem crT_ix {x:Nat} (h:x<2):ixN crT (crT.el x 0).toS=(x:Int)/\((crT.el x 0).toS=⟨#[97]⟩ ∨ (crT.el x 0).toS=⟨#[98]⟩):=by
 have:x=0 ∨ x=1:=by omega
 rcases this with rfl |rfl
 ·exact ⟨by kernel_rfl,.inl rfl⟩
 ·exact ⟨by kernel_rfl,.inr rfl⟩
theorem ruW_at {r:D} {f t:Nat} {x:Int} {a y:Nat} (hf:f<r.len) (ht:t<(r.el f 0).len):((ruW r f t x).el a 0).el y 0=if a=f/\y=t then D.i x else (r.el a 0).el y 0:=by
 have hf':f<r.rows.length:=hf;have ht':t<(r.el f 0).rows.length:=ht;show ((((r.rows.set f [D.l ((r.el f 0).rows.set t [D.i x])]).getD a []).getD 0 (.i 0)).rows.getD y []).getD 0 (.i 0)=_;rw [List.getD_eq_getElem?_getD (l:=List.set _ f _),List.getElem?_set]
 by_cases h:f=a
 ·subst h;rw [if_pos rfl,if_pos hf'];show (((r.el f 0).rows.set t [D.i x]).getD y []).getD 0 (.i 0)=_;rw [List.getD_eq_getElem?_getD (l:=List.set _ t _),List.getElem?_set]
  by_cases h2:t=y
  ·subst h2;rw [if_pos rfl,if_pos ht',if_pos ⟨rfl,rfl⟩];rfl
  ·rw [if_neg h2,if_neg (fun h=>h2 h.2.symm),<- List.getD_eq_getElem?_getD];rfl
 ·rw [if_neg h,if_neg (fun g=>h g.1.symm),<- List.getD_eq_getElem?_getD];rfl
theorem noM_el {t y:Nat} (h:y<t):(noM t).el y 0=D.i (-1):=by
 show ((List.replicate t [D.i (-1)]).getD y []).getD 0 (.i 0)=_;rw [List.getD_eq_getElem?_getD (l:=List.replicate _ _),List.getElem?_replicate,if_pos h];rfl
structure RqK (w:Nat->Int) (t:Int) (r:D):Prop where
 n:(r.len:Int)=t+1
 e:∀ a,a<r.len->(r.el a 0).len=2/\∀ x,x<2->((r.el a 0).el x 0).toI=w (a*2+x)-1
 z:∀ o,2*r.len<=o->w o=0
theorem RqK.step {w:Nat->Int} {t:Int} {r:D} (h:RqK w t r) {f g:Int} {x:Nat} (ht:0<=t) (hf:0<=f) (hg:0<=g) (hx:x<2) :
 RqK (putF w (f.toNat*2+x) 1 (fun _=>g+1)) (max (max t f) g) (ruW (ruT r f g 2) f.toNat x g)/\(((ruT r f g 2).el f.toNat 0).el x 0).toI=w (f.toNat*2+x)-1:=by
 have hn:=h.n;have hl:(ruT r f g 2).len=r.len+((max f g+1).toNat-r.len):=by
  show (ruG r _ 2).len=_;rw [ruG_I,ruI_len]
 have he:∀ a,a<(ruT r f g 2).len->((ruT r f g 2).el a 0).len=2/\∀ y,y<2->(((ruT r f g 2).el a 0).el y 0).toI=w (a*2+y)-1:=fun a ha=>by
  rw [hl] at ha;have e:(ruT r f g 2).el a 0=if a<r.len then r.el a 0 else noM 2:=by
   show (ruG r _ 2).el a 0=_;rw [ruG_I,ruI_el r ha]
  rw [e];split
  ·rename_i hq;exact h.e a hq
  ·rename_i hq;refine ⟨noM_len 2,fun y hy=>?_⟩;rw [noM_el hy,h.z _ (by omega)];rfl
 have hfl:f.toNat<(ruT r f g 2).len:=by rw [hl];omega
 obtain ⟨h1,h2⟩:=he _ hfl;refine ⟨⟨?_,fun a ha=>?_,fun o ho=>?_⟩,h2 x hx⟩
 ·rw [ruW_len,hl];omega
 ·rw [ruW_len] at ha;obtain ⟨a1,a2⟩:=he a ha;refine ⟨by rw [ruW_el _ hfl];exact a1,fun y hy=>?_⟩;rw [ruW_at hfl (by omega)];unfold putF
  by_cases hc:a=f.toNat/\y=x
  ·rw [if_pos hc,if_pos (by simp only [Bool.and_eq_true,Nat.ble_eq,Nat.blt_eq];omega)];show g=g+1-1;omega
  ·rw [if_neg hc,if_neg (by simp only [Bool.and_eq_true,Nat.ble_eq,Nat.blt_eq];omega)];exact a2 y hy
 ·rw [ruW_len,hl] at ho;unfold putF;rw [if_neg (by simp only [Bool.and_eq_true,Nat.ble_eq,Nat.blt_eq];omega)];exact h.z o (by omega)
structure RqI (q:RQ) (k:Nat):Prop where
 d:q.l = .l q.l.rows
 t0:0<=q.t
 t8:q.t<8
 w:∀ o,0<=q.w o/\q.w o<=8
 c:q.l.len<=k
 m:∀ j,j<q.l.len->(0<=(q.l.el j 0).toI/\(q.l.el j 0).toI<8)/\((q.l.el j 1).toS=⟨#[97]⟩ ∨ (q.l.el j 1).toS=⟨#[98]⟩)/\0<=(q.l.el j 2).toI/\(q.l.el j 2).toI<8
 e:(bruK q.l crT q.l.len).1=0
 k:RqK q.w q.t (bruK q.l crT q.l.len).2
theorem rq_inv (mv:D):∀ k,RqI (rq mv k) k
 | 0=>⟨rfl,(show (0:Int)<=0 by decide),(show (0:Int)<8 by decide),fun _=>⟨(show (0:Int)<=0 by decide),(show (0:Int)<=8 by decide)⟩,Nat.le_refl _,fun j hj=>absurd hj (Nat.not_lt_zero j),rfl,rfl,fun a ha=>by
    have ha:a<1:=ha;obtain rfl:a=0:=by omega
    refine ⟨rfl,fun x hx=>?_⟩;show ((noM 2).el x 0).toI=_;rw [noM_el hx];rfl,fun _ _=>rfl⟩
 |k+1=>by
  have ih:=rq_inv mv k;rw [rq_s];generalize rq mv k=q at ih ⊢;have hA:0<=rqA mv k/\rqA mv k<8:=rqI_b _;have hB:0<=rqB mv k/\rqB mv k<2:=rqT_b _;have hC:0<=rqC mv k/\rqC mv k<8:=rqI_b _;unfold rqJ;split
  ·exact ⟨ih.d,ih.t0,ih.t8,ih.w,Nat.le_succ_of_le ih.c,ih.m,ih.e,ih.k⟩
  ·rename_i h0;have hR0:(rqR mv k).getD 0 (.i 0)=D.i (rqA mv k):=rfl;have hR1:(rqR mv k).getD 1 (.i 0)=D.s (crT.el (rqB mv k).toNat 0).toS:=rfl;have hR2:(rqR mv k).getD 2 (.i 0)=D.i (rqC mv k):=rfl;generalize rqR mv k=rr at hR0 hR1 hR2 ⊢;generalize rqA mv k=f at *;generalize rqC mv k=g at *;generalize hb:(rqB mv k).toNat=b at *;obtain ⟨hx,hs⟩:=crT_ix (x:=b) (by omega);obtain ⟨s1,s2⟩:=ih.k.step (f:=f) (g:=g) (x:=b) ih.t0 hA.1 hC.1 (by omega);have e1:bruK (.l (q.l.rows++[rr])) crT q.l.len=bruK q.l crT q.l.len:=bruK_c fun j hj=>by rw [apR_lt hj,apR_lt hj,apR_lt hj];exact ⟨rfl,rfl,rfl⟩
   have e2:bruK (.l (q.l.rows++[rr])) crT (q.l.len+1)=(0,ruW (ruT (bruK q.l crT q.l.len).2 f g 2) f.toNat b g):=by
    rw [bruK_s,e1];have x0:((D.l (q.l.rows++[rr])).el q.l.len 0).toI=f:=by rw [apR_at,hR0];rfl
    have x1:ixN crT ((D.l (q.l.rows++[rr])).el q.l.len 1).toS=(b:Int):=by rw [apR_at,hR1];exact hx
    have x2:((D.l (q.l.rows++[rr])).el q.l.len 2).toI=g:=by rw [apR_at,hR2];rfl
    have:=ruJ_0 (mv:=.l (q.l.rows++[rr])) (tags:=crT) (j:=q.l.len) (q:=bruK q.l crT q.l.len) ih.e (by rw [x1];omega) (by rw [x0,x2];omega) (by
     rw [x0,x1,x2];have:=ih.w (f.toNat*2+b);have s2:(((ruT (bruK q.l crT q.l.len).2 f g crT.len).el f.toNat 0).el ((b:Int)).toNat 0).toI=q.w (f.toNat*2+b)-1:=s2;rw [s2]
     omega)
    rw [this,x0,x1,x2];rfl
   refine ⟨rfl,?_,?_,fun o=>?_,?_,?_,?_,?_⟩
   ·show 0<=max (max q.t f) g;have:=ih.t0;omega
   ·show max (max q.t f) g<8;have:=ih.t8;omega
   ·show 0<=putF q.w (f.toNat*2+b) 1 (fun _=>g+1) o/\putF q.w (f.toNat*2+b) 1 (fun _=>g+1) o<=8;unfold putF;split
    ·show 0<=g+1/\g+1<=8;omega
    ·exact ih.w o
   ·show (D.l (q.l.rows++[rr])).len<=k+1;rw [apR_len];have:=ih.c;omega
   ·intro j hj;have hj:j<(D.l (q.l.rows++[rr])).len:=hj;rw [apR_len] at hj;show (0<=((D.l (q.l.rows++[rr])).el j 0).toI/\((D.l (q.l.rows++[rr])).el j 0).toI<8)/\(((D.l (q.l.rows++[rr])).el j 1).toS=⟨#[97]⟩ ∨ ((D.l (q.l.rows++[rr])).el j 1).toS=⟨#[98]⟩)/\0<=((D.l (q.l.rows++[rr])).el j 2).toI/\((D.l (q.l.rows++[rr])).el j 2).toI<8
    rcases Nat.lt_or_ge j q.l.len with h |h
    ·rw [apR_lt h,apR_lt h,apR_lt h];exact ih.m j h
    ·obtain rfl:j=q.l.len:=by omega
     rw [apR_at,apR_at,apR_at,hR0,hR1,hR2];exact ⟨hA,hs,hC⟩
   ·show (bruK (.l (q.l.rows++[rr])) crT (D.l (q.l.rows++[rr])).len).1=0;rw [apR_len,e2]
   ·show RqK _ _ (bruK (.l (q.l.rows++[rr])) crT (D.l (q.l.rows++[rr])).len).2;rw [apR_len,e2];exact s1
theorem cr_c:cpC crC=crC:=by kernel_rfl
theorem cr_b:cpB (.l []) = .l []:=by rw [cpB_eq];rfl
theorem cr_p:cpP crP=crP:=by
 have h:cpP crP = .l [[sB 112,.l [],cpB (.l [])],[sB 113,.l [],cpB (.l [])]]:=rfl;rw [h,cr_b];rfl
theorem cr_u (l:D):cpU (crU l)=crU (cpTo l.len (mvR l)):=rfl
theorem cr_z:bS (.l []):=(bS_iff _).2 ⟨Nat.zero_le _,fun i h=>absurd h (Nat.not_lt_zero i)⟩
theorem cr_s {l:D} (h:l.len<=20):SyS crC (crU l) crP:=
 ⟨(show 1*88<=140737488355328 by decide),lt1 (show 2*16<=140737488355328 by decide),(show 1*40<=140737488355328 by decide),lt1 (show l.len*32<=140737488355328 by omega),(show 2*64<=140737488355328 by decide),lt2 (Nat.zero_le _) (Nat.zero_le _),lt2 cr_z cr_z⟩
def crMv (l:D):Prop:=∀ j,j<l.len->(0<=(l.el j 0).toI/\(l.el j 0).toI<8)/\((l.el j 1).toS=⟨#[97]⟩ ∨ (l.el j 1).toS=⟨#[98]⟩)/\0<=(l.el j 2).toI/\(l.el j 2).toI<8
theorem cr_pr:allB crP.len (prE crP)=true:=by
 show allB 2 _=true;rw [allB_2];unfold prE;rw [bA_eq,bA_eq]
 kernel_rfl
theorem cr_sy {m:D} (h:crMv m):syB crC (crU m) crP=true:=by
 have h1:allB crC.len (chE crC)=true:=by kernel_rfl
 have h2:allB (crU m).len (ruE (crU m))=true:=allB_iff.2 (lt1 (by
  show (allB m.len (mvE m)&&nmB ⟨#[99]⟩)=true;rw [show nmB ⟨#[99]⟩=true by kernel_rfl,Bool.and_true,allB_iff];intro j hj;obtain ⟨a,b,c⟩:=h j hj;have hb:nmB (m.el j 1).toS=true:=by
   rcases b with b |b
   ·rw [b];kernel_rfl
   ·rw [b];kernel_rfl
  unfold mvE nuB;rw [hb];simp only [Bool.and_eq_true,decide_eq_true_eq];exact ⟨⟨⟨by omega,by omega⟩,trivial⟩,by omega,by omega⟩))
 unfold syB;rw [h1,h2,cr_pr];rfl
theorem cr_bp:∀ j,j<crP.len->(bpE crC crP j != 0)=false:=lt2 (by unfold bpE;rw [grB_eq];kernel_rfl) (by unfold bpE;rw [grB_eq];kernel_rfl)
theorem cr_ck0 {m:D} (h:crMv m) (he:bruE m crT=0):ckE crC (crU m) crP=0/\(ckC crC (crU m) crP).len=1/\(ckC crC (crU m) crP).el 0 5=bruD m crT:=by
 have hw:wdE crC (crU m) crP≠5:=by
  unfold wdE;rw [if_pos (cr_sy h)]
  repeat' split
  all_goals decide
 have hd:dcE crC crP=0:=by kernel_rfl
 have hq:bcQ crC (crU m) crP 1=(0,seR (cpTo crC.len (bcR crC crP)) 0 (bruD m crT)):=by
  have hx:ixC crC ((crU m).el 0 0).toS=0:=by
   show ixC crC ⟨#[99]⟩=0
   kernel_rfl
  have e0:decide (((((0,cpTo crC.len (bcR crC crP)):Int × D).snd.el (0:Int).toNat 5).len:Int)>0)=false:=by kernel_rfl
  show goN (bcJ crC (crU m)) 1 (0,cpTo crC.len (bcR crC crP))=_;rw [goN_s,goN_0];unfold bcJ;rw [hx,if_pos rfl,if_neg (by decide),if_neg (by rw [e0];decide)];have e1:(crU m).el 0 1=m:=rfl;have e2:crC.el (0:Int).toNat 5=crT:=rfl;rw [e1,e2,if_pos he];rfl
 obtain ⟨b1,b2⟩:=bc_no (pr:=crP) (ch:=crC) (crU m) (lt1 (by kernel_rfl));have hb:bcX crC (crU m) crP=0:=by
  rw [b1];show (bcQ crC (crU m) crP 1).1=0;rw [hq]
 have hp:bpX crC crP=0:=(bp_no cr_bp).1;have hE:ckE crC (crU m) crP=0:=by
  unfold ckE;rw [if_neg hw,if_neg (by rw [hd];decide),if_neg (by rw [hb];decide),hp]
 have hC:ckC crC (crU m) crP=seR (cpTo crC.len (bcR crC crP)) 0 (bruD m crT):=by
  unfold ckC;rw [if_pos hE,b2];show (if (bcQ crC (crU m) crP 1).1=0 then (bcQ crC (crU m) crP 1).2 else .l [])=_;rw [hq];rfl
 rw [hC];exact ⟨hE,rfl,rfl⟩
theorem cr_ck {l:D} (h:crMv l) (he:(bruK l crT l.len).1=0):ckE (cpC crC) (cpU (crU l)) (cpP crP)=0/\(ckC (cpC crC) (cpU (crU l)) (cpP crP)).len=1/\(ckC (cpC crC) (cpU (crU l)) (cpP crP)).el 0 5=(bruK l crT l.len).2:=by
 rw [cr_c,cr_p,cr_u];have hl:(cpTo l.len (mvR l)).len=l.len:=cpTo_len _ _;have hm:crMv (cpTo l.len (mvR l)):=fun j hj=>by
  rw [hl] at hj;obtain ⟨a,b,c⟩:=cp_mv hj;rw [a,b,c];exact h j hj
 have hk:bruQ (cpTo l.len (mvR l)) crT=bruK l crT l.len:=by
  have:=bruK_c (t:=crT) (k:=l.len) (fun j hj=>cp_mv hj);rw [<- this];unfold bruQ bruK;rw [hl]
 have hE:bruE (cpTo l.len (mvR l)) crT=0:=by
  unfold bruE;rw [hk,he]
 have hD:bruD (cpTo l.len (mvR l)) crT=(bruK l crT l.len).2:=by
  unfold bruD;rw [if_pos hE,hk]
 rw [<- hD];exact cr_ck0 hm hE
def tt2:TT:=(82,⟨.array 8 81,16,some [.ints .i64 16],[.ints .i64 (.lit 16) (fun _=>0)],some [(.i .i64,16)],none,128⟩)::tt
theorem tt2_ok:TTOK Tryz.prog tt2:=fun t i h=>by
 unfold tt2 at h;simp only [look] at h
 split at h
 ·rename_i hj;obtain rfl:=eq_of_beq hj;obtain rfl:=Option.some.inj h;exact mkTI_ok (ks0:=none) rfl (by kernel_rfl) trivial
 ·exact tt_ok t i h
noncomputable def crsS:FSpec:=fun ds _=>match ds with
 | [.d mv]=>some {val:=.one (.sc (.bool (.lit true))),vc:=[mv.len<=1000000000000000]}
 |_=>none
noncomputable def crsC:Con:=con [.sc (.rows 84)] crsS
theorem crs_ok:ConOK Tryz.prog 5 crsC:=by
 refine fn_ob tt2_ok mixed Tryz.func5 rfl (fun _ _=>by kernel_rfl) (A:=fun ds=>⟨fun _=>Cons.of [(13,ycpC),(12,kchgC),(8,cksC)],fun k=>match k,ds with | 6,[.d mv]=>some {ι:=Nat,pre:=fun _ k=>k<=mv.len/\k<=20,μ:=fun k=>21-k,st:=fun s k=>famR s [(7,.one (.sc (.int .i64 (.sym ((k:Nat)))))),(5,.one (.sc (.int .i64 (.sym ((rq mv k).t))))),(6,.one (.sc (.osl 84 (s.nx-1) (.lit 0) (.sym ((rq mv k).l.len)))))] [0,2,3,4] [(idOf s 4,.own 82 ([.ints .i64 (.lit 16) (rq mv k).w])),(s.nx-1,.orow 84 ((rq mv k).l))] [3]} | 19,[.d mv]=>some {ι:=Nat,pre:=fun _ k=>k<=(rq mv (Nat.min mv.len 20)).t.toNat+1/\True,μ:=fun k=>100-k,st:=fun s k=>famR s [(12,.one (.sc (.int .i64 (.sym ((k:Nat))))))] [2,4,5,10] [] [4,10]} |_,_=>none,fun k=>match k,ds with | 2,[.d mv]=>some {ι:=Bool,pre:=fun _ _=>True,μ:=fun _=>0,st:=fun s _=>famR s [(3,.one (.sc (.ptr (s.nx-1) (.lit 0))))] [0,2] [(s.nx-1,.own 26 ([.c (.rows 72 crC),.c .nils,.c (.rows 75 crP)])),(s.nx+16,.gone),(s.nx+40,.gone)] []} | 15,[.d mv]=>some {ι:=Bool,pre:=fun _ _=>True,μ:=fun _=>0,st:=fun s _=>famR s [] [2,3,4,5] [(idOf s 3,.own 26 ([.c (.rows 72 crC),.c (.rows 86 (crU (rq mv (Nat.min mv.len 20)).l)),.c (.rows 75 crP)])),(s.nx+16,.gone)] [4]} |_,_=>none⟩) (fun _ _=>(cons_cons ycp_ok (cons_cons (kchg_ok bru_ok) (cons_cons cks_ok cons_nil)))) (by kernel_rfl) ?_
 intro ds fr;unfold crsS;split
 ·rename_i mv
  refine kmp (q:=withv (fun (i_2:Nat)=>((ckC (cpC crC) (cpU (crU (rq mv (mv.len.min (20:Nat))).l)) (cpP crP)).el (nat_lit 0) ((0:Nat)+(5:Nat))).el (i_2:Int).toNat 0) fun E300=>withv (cpU (crU (rq mv (mv.len.min (20:Nat))).l)) fun E301=>withv (D.l [[D.s {data:=#[(97:UInt8)]}],[D.s {data:=#[(98:UInt8)]}]]) fun E302=>withv (D.l [[D.s {data:=#[(99:UInt8)]},D.i 0,D.i 1,D.s {data:=#[(112:UInt8)]},D.s {data:=#[(113:UInt8)]},E302.sub (0:Nat) ((0:Nat)+(2:Nat))]]) fun E303=>withv (ckC (cpC crC) E301 (cpP crP)) fun E304=>withv (fun (i_2:Nat)=>nat_lit 0+nat_lit 0*(1:Nat)+(i_2:Int).toNat*(2:Nat)) fun E305=>withv (D.l [[D.s {data:=#[(112:UInt8)]},D.l [],D.l []],[D.s {data:=#[(113:UInt8)]},D.l [],D.l []]]) fun E306=>withv (rq mv (mv.len.min (20:Nat))) fun E307=>withv (fun (i_2:Nat)=>(E300 i_2).el (nat_lit 0) 0) fun E308=>mv.len<=1000000000000000->((0:Nat)+(2:Nat)<=E302.len/\∃ (i:Bool),True/\nat_lit 0+nat_lit 1<=E303.len/\nat_lit 0+nat_lit 2<=E306.len/\nat_lit 0+nat_lit 2<=E306.len/\nat_lit 0+nat_lit 1<=E303.len/\nat_lit 0+nat_lit 1<=E303.len/\nat_lit 0+nat_lit 2<=E306.len/\mv.rows=mv.rows/\false=false/\List.drop (nat_lit 0) (List.take (nat_lit 0+nat_lit 1) [[D.s {data:=#[(99:UInt8)]},D.i 0,D.i 1,D.s {data:=#[(112:UInt8)]},D.s {data:=#[(113:UInt8)]},E302.sub (0:Nat) ((0:Nat)+(2:Nat))]])=[[sB (99:UInt8),D.i 0,D.i 1,sB (112:UInt8),sB (113:UInt8),D.l [[sB (97:UInt8)],[sB (98:UInt8)]]]]/\List.drop (nat_lit 0) (List.take (nat_lit 0+nat_lit 2) [[D.s {data:=#[(112:UInt8)]},D.l [],D.l []],[D.s {data:=#[(113:UInt8)]},D.l [],D.l []]])=[[sB (112:UInt8),D.l [],D.l []],[sB (113:UInt8),D.l [],D.l []]])/\∀ (i:Bool),True->(∃ (i:Nat),(i<=mv.len/\i<=(20:Nat))/\(0:Int)=(i:Int)/\(0:Int)=(rq mv i).t/\(rq mv i).l.len=(0:Nat)/\mv.rows=mv.rows/\false=false/\(∀ (o:Nat),o<nat_lit 16->(0:Int)=(rq mv i).w o)/\(rq mv i).l.rows=[] /\ [[sB (99:UInt8),D.i 0,D.i 1,sB (112:UInt8),sB (113:UInt8),D.l [[sB (97:UInt8)],[sB (98:UInt8)]]]]=[[sB (99:UInt8),D.i 0,D.i 1,sB (112:UInt8),sB (113:UInt8),D.l [[sB (97:UInt8)],[sB (98:UInt8)]]]] /\ [[sB (112:UInt8),D.l [],D.l []],[sB (113:UInt8),D.l [],D.l []]]=[[sB (112:UInt8),D.l [],D.l []],[sB (113:UInt8),D.l [],D.l []]])/\∀ (i:Nat),i<=mv.len/\i<=(20:Nat)->((decide ((i:Int)<(mv.len:Int))&&decide ((i:Int)<(20:Int)))=true->((0:Int)<=(i:Int)/\(i:Int)<(mv.len:Int))/\((0:Int)<=(i:Int)/\(i:Int)<(mv.len:Int))/\((0:Int)<=IntKind.i64.wrap (↑(BitVec.ofInt IntKind.i64.bits (mv.el (i:Int).toNat ((0:Nat)+(2:Nat))).toI &&& BitVec.ofInt IntKind.i64.bits (1:Int)).toNat:Int)/\IntKind.i64.wrap (↑(BitVec.ofInt IntKind.i64.bits (mv.el (i:Int).toNat ((0:Nat)+(2:Nat))).toI &&& BitVec.ofInt IntKind.i64.bits (1:Int)).toNat:Int)<(↑(2:Nat):Int))/\(IntKind.i64.wrap (↑(BitVec.ofInt IntKind.i64.bits (mv.el (i:Int).toNat ((0:Nat)+(2:Nat))).toI &&& BitVec.ofInt IntKind.i64.bits (1:Int)).toNat:Int)).toNat<E302.len/\((0:Int)<=(i:Int)/\(i:Int)<(mv.len:Int))/\((0:Int)<=IntKind.i64.wrap ((IntKind.u64.wrap (mv.el (i:Int).toNat ((0:Nat)+(0:Nat))).toI).tmod (8:Int))/\IntKind.i64.wrap ((IntKind.u64.wrap (mv.el (i:Int).toNat ((0:Nat)+(0:Nat))).toI).tmod (8:Int))<(↑(8:Nat):Int))/\((0:Int)<=IntKind.i64.wrap (↑(BitVec.ofInt IntKind.i64.bits (mv.el (i:Int).toNat ((0:Nat)+(2:Nat))).toI &&& BitVec.ofInt IntKind.i64.bits (1:Int)).toNat:Int)/\IntKind.i64.wrap (↑(BitVec.ofInt IntKind.i64.bits (mv.el (i:Int).toNat ((0:Nat)+(2:Nat))).toI &&& BitVec.ofInt IntKind.i64.bits (1:Int)).toNat:Int)<(↑(2:Nat):Int))/\nat_lit 0+((IntKind.i64.wrap ((IntKind.u64.wrap (mv.el (i:Int).toNat ((0:Nat)+(0:Nat))).toI).tmod (8:Int))).toNat*(2:Nat)+(IntKind.i64.wrap (↑(BitVec.ofInt IntKind.i64.bits (mv.el (i:Int).toNat ((0:Nat)+(2:Nat))).toI &&& BitVec.ofInt IntKind.i64.bits (1:Int)).toNat:Int)).toNat*(1:Nat))<nat_lit 16/\(decide ((rq mv i).w (nat_lit 0+((IntKind.i64.wrap ((IntKind.u64.wrap (mv.el (i:Int).toNat ((0:Nat)+(0:Nat))).toI).tmod (8:Int))).toNat*(2:Nat)+(IntKind.i64.wrap (↑(BitVec.ofInt IntKind.i64.bits (mv.el (i:Int).toNat ((0:Nat)+(2:Nat))).toI &&& BitVec.ofInt IntKind.i64.bits (1:Int)).toNat:Int)).toNat*(1:Nat)))>(0:Int))=true->∃ (j:Nat),(j<=mv.len/\j<=(20:Nat))/\(21:Nat)-j<(21:Nat)-i/\IntKind.i64.wrap ((i:Int)+(1:Int))=(j:Int)/\(rq mv i).t=(rq mv j).t/\(rq mv i).l.len=(rq mv j).l.len/\mv.rows=mv.rows/\false=false/\(∀ (o:Nat),o<nat_lit 16->(rq mv i).w o=(rq mv j).w o)/\(rq mv i).l.rows=(rq mv j).l.rows /\ [[sB (99:UInt8),D.i 0,D.i 1,sB (112:UInt8),sB (113:UInt8),D.l [[sB (97:UInt8)],[sB (98:UInt8)]]]]=[[sB (99:UInt8),D.i 0,D.i 1,sB (112:UInt8),sB (113:UInt8),D.l [[sB (97:UInt8)],[sB (98:UInt8)]]]] /\ [[sB (112:UInt8),D.l [],D.l []],[sB (113:UInt8),D.l [],D.l []]]=[[sB (112:UInt8),D.l [],D.l []],[sB (113:UInt8),D.l [],D.l []]])/\(decide ((rq mv i).w (nat_lit 0+((IntKind.i64.wrap ((IntKind.u64.wrap (mv.el (i:Int).toNat ((0:Nat)+(0:Nat))).toI).tmod (8:Int))).toNat*(2:Nat)+(IntKind.i64.wrap (↑(BitVec.ofInt IntKind.i64.bits (mv.el (i:Int).toNat ((0:Nat)+(2:Nat))).toI &&& BitVec.ofInt IntKind.i64.bits (1:Int)).toNat:Int)).toNat*(1:Nat)))>(0:Int))=false->((0:Int)<=IntKind.i64.wrap ((IntKind.u64.wrap (mv.el (i:Int).toNat ((0:Nat)+(0:Nat))).toI).tmod (8:Int))/\IntKind.i64.wrap ((IntKind.u64.wrap (mv.el (i:Int).toNat ((0:Nat)+(0:Nat))).toI).tmod (8:Int))<(↑(8:Nat):Int))/\((0:Int)<=IntKind.i64.wrap (↑(BitVec.ofInt IntKind.i64.bits (mv.el (i:Int).toNat ((0:Nat)+(2:Nat))).toI &&& BitVec.ofInt IntKind.i64.bits (1:Int)).toNat:Int)/\IntKind.i64.wrap (↑(BitVec.ofInt IntKind.i64.bits (mv.el (i:Int).toNat ((0:Nat)+(2:Nat))).toI &&& BitVec.ofInt IntKind.i64.bits (1:Int)).toNat:Int)<(↑(2:Nat):Int))/\nat_lit 0+((IntKind.i64.wrap ((IntKind.u64.wrap (mv.el (i:Int).toNat ((0:Nat)+(0:Nat))).toI).tmod (8:Int))).toNat*(2:Nat)+(IntKind.i64.wrap (↑(BitVec.ofInt IntKind.i64.bits (mv.el (i:Int).toNat ((0:Nat)+(2:Nat))).toI &&& BitVec.ofInt IntKind.i64.bits (1:Int)).toNat:Int)).toNat*(1:Nat))+(1:Nat)<=nat_lit 16/\(rq mv i).l.len=(rq mv i).l.len/\((rq mv i).l.len+((D.l [[D.i (IntKind.i64.wrap ((IntKind.u64.wrap (mv.el (i:Int).toNat ((0:Nat)+(0:Nat))).toI).tmod (8:Int))),D.s (E302.el (IntKind.i64.wrap (↑(BitVec.ofInt IntKind.i64.bits (mv.el (i:Int).toNat ((0:Nat)+(2:Nat))).toI &&& BitVec.ofInt IntKind.i64.bits (1:Int)).toNat:Int)).toNat (0:Nat)).toS,D.i (IntKind.i64.wrap ((IntKind.u64.wrap (mv.el (i:Int).toNat ((0:Nat)+(2:Nat))).toI).tmod (8:Int)))]]).sub (0:Nat) 1).len)*(32:Nat)<=(140737488355328:Nat)/\(0:Nat)+(1:Nat)<=(D.l [[D.i (IntKind.i64.wrap ((IntKind.u64.wrap (mv.el (i:Int).toNat ((0:Nat)+(0:Nat))).toI).tmod (8:Int))),D.s (E302.el (IntKind.i64.wrap (↑(BitVec.ofInt IntKind.i64.bits (mv.el (i:Int).toNat ((0:Nat)+(2:Nat))).toI &&& BitVec.ofInt IntKind.i64.bits (1:Int)).toNat:Int)).toNat (0:Nat)).toS,D.i (IntKind.i64.wrap ((IntKind.u64.wrap (mv.el (i:Int).toNat ((0:Nat)+(2:Nat))).toI).tmod (8:Int)))]]).len/\∃ (j:Nat),(j<=mv.len/\j<=(20:Nat))/\(21:Nat)-j<(21:Nat)-i/\IntKind.i64.wrap ((i:Int)+(1:Int))=(j:Int)/\(if IntKind.i64.wrap ((IntKind.u64.wrap (mv.el (i:Int).toNat ((0:Nat)+(2:Nat))).toI).tmod (8:Int))>if IntKind.i64.wrap ((IntKind.u64.wrap (mv.el (i:Int).toNat ((0:Nat)+(0:Nat))).toI).tmod (8:Int))>(rq mv i).t then IntKind.i64.wrap ((IntKind.u64.wrap (mv.el (i:Int).toNat ((0:Nat)+(0:Nat))).toI).tmod (8:Int)) else (rq mv i).t then IntKind.i64.wrap ((IntKind.u64.wrap (mv.el (i:Int).toNat ((0:Nat)+(2:Nat))).toI).tmod (8:Int)) else if IntKind.i64.wrap ((IntKind.u64.wrap (mv.el (i:Int).toNat ((0:Nat)+(0:Nat))).toI).tmod (8:Int))>(rq mv i).t then IntKind.i64.wrap ((IntKind.u64.wrap (mv.el (i:Int).toNat ((0:Nat)+(0:Nat))).toI).tmod (8:Int)) else (rq mv i).t)=(rq mv j).t/\(rq mv i).l.len+((D.l [[D.i (IntKind.i64.wrap ((IntKind.u64.wrap (mv.el (i:Int).toNat ((0:Nat)+(0:Nat))).toI).tmod (8:Int))),D.s (E302.el (IntKind.i64.wrap (↑(BitVec.ofInt IntKind.i64.bits (mv.el (i:Int).toNat ((0:Nat)+(2:Nat))).toI &&& BitVec.ofInt IntKind.i64.bits (1:Int)).toNat:Int)).toNat (0:Nat)).toS,D.i (IntKind.i64.wrap ((IntKind.u64.wrap (mv.el (i:Int).toNat ((0:Nat)+(2:Nat))).toI).tmod (8:Int)))]]).sub (0:Nat) 1).len=(rq mv j).l.len/\mv.rows=mv.rows/\false=false/\(∀ (o:Nat),o<nat_lit 16->(if ((nat_lit 0+((IntKind.i64.wrap ((IntKind.u64.wrap (mv.el (i:Int).toNat ((0:Nat)+(0:Nat))).toI).tmod (8:Int))).toNat*(2:Nat)+(IntKind.i64.wrap (↑(BitVec.ofInt IntKind.i64.bits (mv.el (i:Int).toNat ((0:Nat)+(2:Nat))).toI &&& BitVec.ofInt IntKind.i64.bits (1:Int)).toNat:Int)).toNat*(1:Nat))).ble o&&o.blt (nat_lit 0+((IntKind.i64.wrap ((IntKind.u64.wrap (mv.el (i:Int).toNat ((0:Nat)+(0:Nat))).toI).tmod (8:Int))).toNat*(2:Nat)+(IntKind.i64.wrap (↑(BitVec.ofInt IntKind.i64.bits (mv.el (i:Int).toNat ((0:Nat)+(2:Nat))).toI &&& BitVec.ofInt IntKind.i64.bits (1:Int)).toNat:Int)).toNat*(1:Nat))+(1:Nat)))=true then IntKind.i64.wrap (IntKind.i64.wrap ((IntKind.u64.wrap (mv.el (i:Int).toNat ((0:Nat)+(2:Nat))).toI).tmod (8:Int))+(1:Int)) else (rq mv i).w o)=(rq mv j).w o)/\(rq mv i).l.rows++List.drop (0:Nat) (List.take 1 [[D.i (IntKind.i64.wrap ((IntKind.u64.wrap (mv.el (i:Int).toNat ((0:Nat)+(0:Nat))).toI).tmod (8:Int))),D.s (E302.el (IntKind.i64.wrap (↑(BitVec.ofInt IntKind.i64.bits (mv.el (i:Int).toNat ((0:Nat)+(2:Nat))).toI &&& BitVec.ofInt IntKind.i64.bits (1:Int)).toNat:Int)).toNat (0:Nat)).toS,D.i (IntKind.i64.wrap ((IntKind.u64.wrap (mv.el (i:Int).toNat ((0:Nat)+(2:Nat))).toI).tmod (8:Int)))]])=(rq mv j).l.rows /\ [[sB (99:UInt8),D.i 0,D.i 1,sB (112:UInt8),sB (113:UInt8),D.l [[sB (97:UInt8)],[sB (98:UInt8)]]]]=[[sB (99:UInt8),D.i 0,D.i 1,sB (112:UInt8),sB (113:UInt8),D.l [[sB (97:UInt8)],[sB (98:UInt8)]]]] /\ [[sB (112:UInt8),D.l [],D.l []],[sB (113:UInt8),D.l [],D.l []]]=[[sB (112:UInt8),D.l [],D.l []],[sB (113:UInt8),D.l [],D.l []]]))/\((decide ((i:Int)<(mv.len:Int))&&decide ((i:Int)<(20:Int)))=false->(nat_lit 0+(rq mv i).l.len<=(rq mv i).l.len/\∃ (i_1:Bool),True/\nat_lit 0+nat_lit 1<=(D.l [[D.s {data:=#[(99:UInt8)]},(rq mv i).l.sub (nat_lit 0) (nat_lit 0+(rq mv i).l.len)]]).len/\nat_lit 0+nat_lit 1<=(D.l [[D.s {data:=#[(99:UInt8)]},(rq mv i).l.sub (nat_lit 0) (nat_lit 0+(rq mv i).l.len)]]).len/\false=false/\(rq mv i).t=(rq mv i).t /\ [[sB (99:UInt8),D.i 0,D.i 1,sB (112:UInt8),sB (113:UInt8),D.l [[sB (97:UInt8)],[sB (98:UInt8)]]]]=[[sB (99:UInt8),D.i 0,D.i 1,sB (112:UInt8),sB (113:UInt8),D.l [[sB (97:UInt8)],[sB (98:UInt8)]]]]/\List.drop (nat_lit 0) (List.take (nat_lit 0+nat_lit 1) [[D.s {data:=#[(99:UInt8)]},(rq mv i).l.sub (nat_lit 0) (nat_lit 0+(rq mv i).l.len)]])=[[sB (99:UInt8),E307.l]] /\ [[sB (112:UInt8),D.l [],D.l []],[sB (113:UInt8),D.l [],D.l []]]=[[sB (112:UInt8),D.l [],D.l []],[sB (113:UInt8),D.l [],D.l []]]/\∀ (o:Nat),o<nat_lit 16->(rq mv i).w o=(rq mv i).w o)/\∀ (i_1:Bool),True->SyS crC (crU E307.l) crP/\CkS (cpC crC) E301 (cpP crP)/\((!true ||ckE (cpC crC) E301 (cpP crP) != (0:Int) ||(E304.len:Int) != (1:Int))=false/\True->nat_lit 0<E304.len)/\((!true ||ckE (cpC crC) E301 (cpP crP) != (0:Int) ||(E304.len:Int) != (1:Int) ||(↑(E304.el (nat_lit 0) ((0:Nat)+(5:Nat))).len:Int) != IntKind.i64.wrap ((rq mv i).t+(1:Int)))=true->false=true)/\((!true ||ckE (cpC crC) E301 (cpP crP) != (0:Int) ||(E304.len:Int) != (1:Int) ||(↑(E304.el (nat_lit 0) ((0:Nat)+(5:Nat))).len:Int) != IntKind.i64.wrap ((rq mv i).t+(1:Int)))=false->(∃ (i_2:Nat),(i_2<=E307.t.toNat+(1:Nat)/\True)/\(0:Int)=(i_2:Int)/\false=false/\(rq mv i).t=(rq mv i).t/\(∀ (o:Nat),o<nat_lit 16->(rq mv i).w o=(rq mv i).w o)/\E304.rows=E304.rows/\(ckP (cpC crC) E301 (cpP crP)).rows=(ckP (cpC crC) E301 (cpP crP)).rows)/\∀ (i_2:Nat),i_2<=E307.t.toNat+(1:Nat)/\True->(decide ((i_2:Int)<=(rq mv i).t)=true->nat_lit 0<E304.len/\((0:Int)<=(i_2:Int)/\(i_2:Int)<(↑(E304.el (nat_lit 0) ((0:Nat)+(5:Nat))).len:Int))/\(((↑(E300 i_2).len:Int) != (2:Int))=false/\True->nat_lit 0<(E300 i_2).len)/\(((↑(E300 i_2).len:Int) != (2:Int))=false/\True->(0:Int)<=(i_2:Int)/\(i_2:Int)<(↑(8:Nat):Int))/\(((↑(E300 i_2).len:Int) != (2:Int))=false/\True->nat_lit 0+nat_lit 0*(1:Nat)+(i_2:Int).toNat*(2:Nat)<nat_lit 16)/\(((↑(E300 i_2).len:Int) != (2:Int) ||(E308 i_2).toI != IntKind.i64.wrap ((rq mv i).w (E305 i_2)-(1:Int)))=false/\True->nat_lit 1<(E300 i_2).len)/\(((↑(E300 i_2).len:Int) != (2:Int) ||(E308 i_2).toI != IntKind.i64.wrap ((rq mv i).w (E305 i_2)-(1:Int)))=false/\True->(0:Int)<=(i_2:Int)/\(i_2:Int)<(↑(8:Nat):Int))/\(((↑(E300 i_2).len:Int) != (2:Int) ||(E308 i_2).toI != IntKind.i64.wrap ((rq mv i).w (E305 i_2)-(1:Int)))=false/\True->nat_lit 0+nat_lit 1*(1:Nat)+(i_2:Int).toNat*(2:Nat)<nat_lit 16)/\(((↑(E300 i_2).len:Int) != (2:Int) ||(E308 i_2).toI != IntKind.i64.wrap ((rq mv i).w (E305 i_2)-(1:Int)) ||((E300 i_2).el (nat_lit 1) 0).toI != IntKind.i64.wrap ((rq mv i).w (nat_lit 0+nat_lit 1*(1:Nat)+(i_2:Int).toNat*(2:Nat))-(1:Int)))=true->false=true)/\(((↑(E300 i_2).len:Int) != (2:Int) ||(E308 i_2).toI != IntKind.i64.wrap ((rq mv i).w (E305 i_2)-(1:Int)) ||((E300 i_2).el (nat_lit 1) 0).toI != IntKind.i64.wrap ((rq mv i).w (nat_lit 0+nat_lit 1*(1:Nat)+(i_2:Int).toNat*(2:Nat))-(1:Int)))=false->∃ (j:Nat),(j<=E307.t.toNat+(1:Nat)/\True)/\(100:Nat)-j<(100:Nat)-i_2/\IntKind.i64.wrap ((i_2:Int)+(1:Int))=(j:Int)/\false=false/\(rq mv i).t=(rq mv i).t/\(∀ (o:Nat),o<nat_lit 16->(rq mv i).w o=(rq mv i).w o)/\E304.rows=E304.rows/\(ckP (cpC crC) E301 (cpP crP)).rows=(ckP (cpC crC) E301 (cpP crP)).rows))/\(decide ((i_2:Int)<=(rq mv i).t)=false->true=true)))) (by kernel_rfl) ?_
  dsimp +instances only [withv]
  intro hm;have hI:=rq_inv mv;refine ⟨⟨Nat.le_refl _,true,trivial,Nat.le_refl _,Nat.le_refl _,Nat.le_refl _,Nat.le_refl _,Nat.le_refl _,Nat.le_refl _,rfl,rfl,rfl,rfl⟩,fun _ _=>⟨⟨0,⟨Nat.zero_le _,Nat.zero_le _⟩,rfl,rfl,rfl,rfl,rfl,fun _ _=>rfl,rfl,rfl,rfl⟩,fun i hi=>⟨fun h=>?_,fun h=>?_⟩⟩⟩
  ·simp only [Bool.and_eq_true,decide_eq_true_eq] at h;have hA:0<=rqA mv i/\rqA mv i<8:=rqI_b _;have hB:0<=rqB mv i/\rqB mv i<2:=rqT_b _;have hC:0<=rqC mv i/\rqC mv i<8:=rqI_b _;have hq:=hI i;have hs:rq mv (i+1)=rqJ mv i (rq mv i):=rq_s _ _;have hi2:(0:Int)<=i/\(i:Int)<mv.len:=⟨by omega,h.1⟩;have hP:0+((rqA mv i).toNat*2+(rqB mv i).toNat*1)=(rqA mv i).toNat*2+(rqB mv i).toNat:=by omega
   have hW:IntKind.i64.wrap ((i:Int)+1)=((i+1:Nat):Int):=k_nx (by omega);refine ⟨hi2,hi2,hB,?_,hi2,hA,hB,?_,fun g=>?_,fun g=>?_⟩
   ·show (rqB mv i).toNat<2;omega
   ·show 0+((rqA mv i).toNat*2+(rqB mv i).toNat*1)<16;omega
   ·have g1:(rq mv i).w (0+((rqA mv i).toNat*2+(rqB mv i).toNat*1))>0:=of_decide_eq_true g;rw [hP] at g1;have hs':rq mv (i+1)=rq mv i:=by
     rw [hs];unfold rqJ;rw [if_pos g1]
    exact ⟨i+1,⟨by omega,by omega⟩,by omega,hW,by rw [hs'],by rw [hs'],rfl,rfl,fun o _=>by rw [hs'],by rw [hs'],rfl,rfl⟩
   ·have g1:¬ (rq mv i).w (0+((rqA mv i).toNat*2+(rqB mv i).toNat*1))>0:=of_decide_eq_false g;rw [hP] at g1;have hs':rq mv (i+1)=⟨putF (rq mv i).w ((rqA mv i).toNat*2+(rqB mv i).toNat) 1 (fun _=>rqC mv i+1),max (max (rq mv i).t (rqA mv i)) (rqC mv i),.l ((rq mv i).l.rows++[rqR mv i])⟩:=by
     rw [hs];unfold rqJ;rw [if_neg g1]
    have hw:IntKind.i64.wrap (rqC mv i+1)=rqC mv i+1:=IntWalk.i64_in _ (by omega);refine ⟨hA,hB,?_,rfl,?_,Nat.le_refl _,i+1,⟨by omega,by omega⟩,by omega,hW,?_,?_,rfl,rfl,fun o _=>?_,?_,rfl,rfl⟩
    ·show 0+((rqA mv i).toNat*2+(rqB mv i).toNat*1)+1<=16;omega
    ·show ((rq mv i).l.len+1)*32<=140737488355328;have:=hq.c;omega
    ·rw [hs'];show _=max (max (rq mv i).t (rqA mv i)) (rqC mv i);rw [ifm,ifm];rfl
    ·rw [hs'];show (rq mv i).l.len+1=(D.l ((rq mv i).l.rows++[rqR mv i])).len;rw [apR_len]
    ·rw [hs'];show putF (rq mv i).w (0+((rqA mv i).toNat*2+(rqB mv i).toNat*1)) 1 (fun _=>IntKind.i64.wrap (rqC mv i+1)) o=putF (rq mv i).w ((rqA mv i).toNat*2+(rqB mv i).toNat) 1 (fun _=>rqC mv i+1) o;rw [hP,hw]
    ·rw [hs'];rfl
  ·simp only [Bool.and_eq_false_iff,decide_eq_false_iff_not] at h;have hk:i=Nat.min mv.len 20:=by
    show i=min mv.len 20;omega
   subst hk;have hq:=hI (Nat.min mv.len 20);have hl:(Nat.min mv.len 20)<=20:=Nat.min_le_right _ _;generalize rq mv (Nat.min mv.len 20)=q at hq ⊢;have hc:=hq.c;obtain ⟨k1,k2,k3⟩:=cr_ck hq.m hq.e;have hS:=cr_s (l:=q.l) (by omega);have hK:=ckS_of (SyS_cp hS);have hk:=hq.k;have ht0:=hq.t0;have ht8:=hq.t8;have hw:=hq.w;refine ⟨⟨Nat.le_of_eq (Nat.zero_add _),true,trivial,Nat.le_refl _,Nat.le_refl _,rfl,rfl,rfl,?_,rfl,fun _ _=>rfl⟩,fun _ _=>⟨hS,hK,?_⟩⟩
   ·show [[sB 99,D.l (List.drop 0 (List.take (0+q.l.len) q.l.rows))]]=[[sB 99,q.l]];rw [Nat.zero_add,tl_r,<- hq.d]
   ·generalize ckC (cpC crC) (cpU (crU q.l)) (cpP crP)=C at k2 k3 ⊢;generalize ckP (cpC crC) (cpU (crU q.l)) (cpP crP)=P;generalize ckE (cpC crC) (cpU (crU q.l)) (cpP crP)=E at k1 ⊢;subst k1;generalize (bruK q.l crT q.l.len).2=B at k3 hk;have hn:=hk.n;have hcond:(!true ||(0:Int) != 0 ||(C.len:Int) != 1 ||((C.el 0 5).len:Int) != IntKind.i64.wrap (q.t+1))=false:=by
     rw [k2,k3,IntWalk.i64_in _ (by omega),hn]
     simp
    have kl:0<C.len:=by rw [k2];decide
    refine ⟨fun _=>kl,fun h=>hcond.symm.trans h,fun _=>⟨⟨0,⟨Nat.zero_le _,trivial⟩,rfl,rfl,rfl,fun _ _=>rfl,rfl,rfl⟩,fun a ha=>⟨fun h=>?_,fun _=>rfl⟩⟩⟩;have h:=of_decide_eq_true h;obtain ⟨r1,r2⟩:=hk.e a (by omega);have e0:=r2 0 (by omega);have e1:=r2 1 (by omega);have hR:(C.el 0 5).el a 0=B.el a 0:=by rw [k3]
    have ha8:(0:Int)<=a/\(a:Int)<8:=⟨by omega,by omega⟩;have hcnd:((((C.el 0 5).el a 0).len:Int) != 2 ||(((C.el 0 5).el a 0).el 0 0).toI != IntKind.i64.wrap (q.w (0+0*1+a*2)-1) ||(((C.el 0 5).el a 0).el 1 0).toI != IntKind.i64.wrap (q.w (0+1*1+a*2)-1))=false:=by
     have w0:=hw (a*2);have w1:=hw (a*2+1);have p0:0+0*1+a*2=a*2:=by omega
     have p1:0+1*1+a*2=a*2+1:=by omega
     rw [hR,r1,p0,p1,IntWalk.i64_in _ (by omega),IntWalk.i64_in _ (by omega),e1];have e0':((B.el a 0).el 0 0).toI=q.w (a*2)-1:=e0;rw [e0']
     simp
    have l2:0<((C.el 0 5).el a 0).len:=by rw [hR,r1];decide
    have l3:1<((C.el 0 5).el a 0).len:=by rw [hR,r1];decide
    refine ⟨kl,⟨ha8.1,?_⟩,fun _=>l2,fun _=>ha8,fun _=>?_,fun _=>l3,fun _=>ha8,fun _=>?_,fun h=>hcnd.symm.trans h,fun _=>⟨a+1,⟨by omega,trivial⟩,by omega,k_nx (by omega),rfl,rfl,fun _ _=>rfl,rfl,rfl⟩⟩
    ·show (a:Int)<((C.el 0 5).len:Int);rw [k3];omega
    ·show 0+0*1+a*2<16;omega
    ·show 0+1*1+a*2<16;omega
 ·trivial
end Go.Proofs.YtplejbgafjpomaaGreatDoor.Sx.Z
namespace Go.Proofs.YtplejbgafjpomaaGreatDoor.Sx.Z
theorem tab_laid {W : World} (h : laidMetH Tryz.prog [("math/bits.deBruijn32tab", Rows.laid_math_bits_deBruijn32tab), ("math/bits.deBruijn64tab", Rows.laid_math_bits_deBruijn64tab), ("internal/strconv.uint64pow10", Rows.laid_internal_strconv_uint64pow10)] W) : TabF (cellsAt W) := by
 rw [MakeChecks.laidMetH_plain _ _ _ (by kernel_rfl)] at h;have h3 : laidMet Tryz.prog (("internal/strconv.uint64pow10", Lib.tabData .u64 Lib.pow10Tab) :: []) W := h.tail.tail;have ht:=Lib.tabIs_of_head (g:=0) (t:=297) (e:=35) (n:=20) (by kernel_rfl) (by kernel_rfl) Tryz.underlying297 Tryz.underlying35 (by kernel_rfl) (by kernel_rfl) h3;rintro g cs ⟨hg,rfl⟩;obtain rfl := Option.some.inj ((show PG.globalNamed "internal/strconv.uint64pow10" = some 0 by kernel_rfl).symm.trans hg);unfold Lib.TabIs World.var? at ht;rw [show Tryz.prog.globalNamed "internal/strconv.uint64pow10" = some 0 by kernel_rfl] at ht
 change (match W.heap[0]? with |some (.cells cs _ _)=>some cs |_=>none)=_ at ht
 unfold cellsAt;exact ht
end Go.Proofs.YtplejbgafjpomaaGreatDoor.Sx.Z
