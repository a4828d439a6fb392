import Derived.Test.YtplejbgafjpomaaGreatDoorZa21
import Derived.Test.YtplejbgafjpomaaGreatDoorZa24
import Derived.Test.YtplejbgafjpomaaGreatDoorZa27
import Derived.Test.YtplejbgafjpomaaGreatDoorRows
import Derived.LaidMore
import Derived.Stop.LaidErr
import Derived.MakeChecks
import Derived.Test.YtplejbgafjpomaaGreatDoorZa17
set_option linter.unusedVariables false
set_option linter.unusedSimpArgs false
namespace Go.Proofs.YtplejbgafjpomaaGreatDoor.Sx.Z
open Go.RowKit
def kBo:AP:=.sc (.rows 166)
theorem rvK_eq (ch:D) (pc vs c:Int) (am:D):rvK ch pc vs c am=(!(!plK c ch.len ||(ch.el c.toNat 3).toI != pc ||(am.len:Int)==0)&&allB am.len (arK ch pc vs (ch.el c.toNat 4).toI am)):=by
 unfold rvK bne
 cases plK c ch.len<;>cases ((ch.el c.toNat 3).toI==pc)<;>cases ((am.len:Int)==0)<;>rfl
theorem arK_eq (ch:D) (pc vs ts:Int) (am:D) (j:Nat):arK ch pc vs ts am j = !(!plK (am.el j 0).toI ts ||tgU am j (am.el j 0).toI || !plK (am.el j 1).toI vs || !bkR ch pc vs (am.el j 2)):=by
 unfold arK
 cases plK (am.el j 0).toI ts<;>cases tgU am j (am.el j 0).toI<;>cases plK (am.el j 1).toI vs<;>cases bkR ch pc vs (am.el j 2)<;>rfl
section
variable {vs v c t:Int} {e ne cr nc sd b el ar:Bool} {bl ell al:Int}
theorem skF_1:skF vs 1 v c t e ne cr nc sd b el ar bl ell al=(plK v vs&&e&&c==0&&t==0&&nc&&bl==0&&ell==0&&al==0):=rfl
theorem skF_2:skF vs 2 v c t e ne cr nc sd b el ar bl ell al=(cr&&b&&el&&v==0&&c==0&&t==0&&ne&&al==0):=rfl
theorem skF_3:skF vs 3 v c t e ne cr nc sd b el ar bl ell al=(cr&&b&&v==0&&c==0&&t==0&&ne&&ell==0&&al==0):=rfl
theorem skF_4:skF vs 4 v c t e ne cr nc sd b el ar bl ell al=(sd&&e&&v==0&&nc&&bl==0&&ell==0&&al==0):=rfl
theorem skF_5:skF vs 5 v c t e ne cr nc sd b el ar bl ell al=(ar&&v==0&&t==0&&ne&&nc&&bl==0&&ell==0):=rfl
theorem skF_6:skF vs 6 v c t e ne cr nc sd b el ar bl ell al=(cr&&v==0&&c==0&&t==0&&ne&&bl==0&&ell==0&&al==0):=rfl
theorem skF_7:skF vs 7 v c t e ne cr nc sd b el ar bl ell al=(plK v vs&&c==0&&t==0&&ne&&nc&&bl==0&&ell==0&&al==0):=rfl
theorem skF_no {k:Int} (h1:k≠1) (h2:k≠2) (h3:k≠3) (h4:k≠4) (h5:k≠5) (h6:k≠6) (h7:k≠7):skF vs k v c t e ne cr nc sd b el ar bl ell al=false:=by
 unfold skF;rw [if_neg h1,if_neg h2,if_neg h3,if_neg h4,if_neg h5,if_neg h6,if_neg h7]
end
theorem k_z0:((0:Int)==0)=true:=rfl
theorem k_zN:xkN 0 0 0 ((D.l []).len:Int)=true:=rfl
theorem k_zL:(((D.l []).len:Int)==0)=true:=rfl
noncomputable def ksdS:FSpec:=fun ds _=>match ds with
 | [.d ch,.i pc,.i vs,.i k,.i v,.i c,.i t,.i ek,.i en,.i ev,.d ed,.i op,.i lk,.i ln,.i lv,.d ld,.i rk,.i rn,.i rv,.d rd,.d bd,.d eb,.d am]=>some {val:=.one (.sc (.bool (.sym (skD ch pc c t)))),vc:=[]}
 |_=>none
noncomputable def ksdC:Con:=con [kIn,kSt] ksdS
theorem ksd_ok:ConOK Tryz.prog 85 ksdC:=by
 refine fn_ob tt_ok mixed Tryz.func85 rfl (fun _ _=>by kernel_rfl) (A:=fun ds=>⟨fun _=>Cons.of [(47,kplC)],fun _=>none,fun _=>none⟩) (fun _ _=>(cons_cons kpl_ok cons_nil)) (by kernel_rfl) ?_
 intro ds fr;unfold ksdS;split
 ·rename_i ch pc vs k v c t ek en ev ed op lk ln lv ld rk rn rv rd bd eb am;refine @kmp _ ((plK c (ch.len:Int)=true/\True->(0:Int)<=c/\c<(ch.len:Int))/\((plK c (ch.len:Int)&&(ch.el c.toNat ((0:Nat)+(2:Nat))).toI==pc)=true/\True->(0:Int)<=c/\c<(ch.len:Int))/\(plK c (ch.len:Int)&&(ch.el c.toNat ((0:Nat)+(2:Nat))).toI==pc&&plK t (ch.el c.toNat ((0:Nat)+(4:Nat))).toI)=skD ch pc c t) (by kernel_rfl) ?_
  (try simp only [Nat.reduceAdd,Nat.zero_add])
  refine ⟨fun h=>plK_iff.1 h.1,fun h=>plK_iff.1 ?_,rfl⟩;have:=h.1;simp only [Bool.and_eq_true] at this;exact this.1
 ·trivial
noncomputable def kbdS:FSpec:=fun ds _=>match ds with
 | [.d ch,.i pc,.i vs,.d d]=>some {val:=.one (.sc (.bool (.sym (bkR ch pc vs d)))),vc:=[kOK d]}
 |_=>none
noncomputable def kbdC:Con:=con [kIn,kBo] kbdS
noncomputable def kbdM:List Dat->Nat:=fun ds=>match ds with
 | [.d ch,.i pc,.i vs,.d d]=>SizeOf.sizeOf d
 |_=>0
noncomputable def kbdSu (m:Nat):FSpec:=fun ds _=>match ds with
 | [.d ch,.i pc,.i vs,.d d]=>some {val:=.one (.sc (.bool (.sym (bkR ch pc vs d)))),vc:=[SizeOf.sizeOf d<m,kOK d]}
 |_=>none
theorem kbd_under (m:Nat):kbdS.under kbdM m=kbdSu m:=by
 funext ds fr
 unfold FSpec.under kbdS kbdM kbdSu;split
 ·rename_i e h
  split at h
  ·obtain rfl:=Option.some.inj h;rfl
  ·cases h
 ·rename_i h
  split at h
  ·cases h
  ·rfl
noncomputable def krvS (m:Nat):FSpec:=fun ds _=>match ds with
 | [.d ch,.i pc,.i vs,.i k,.i v,.i c,.i t,.i ek,.i en,.i ev,.d ed,.i op,.i lk,.i ln,.i lv,.d ld,.i rk,.i rn,.i rv,.d rd,.d bd,.d eb,.d am]=>some {val:=.one (.sc (.bool (.sym (rvK ch pc vs c am)))),vc:=[SizeOf.sizeOf am<m,amK am]}
 |_=>none
noncomputable def krvC (m:Nat):Con:=con [kIn,kSt] (krvS m)
theorem krv_ok {m:Nat} (ih:ConOK Tryz.prog 26 (con [kIn,kBo] (kbdSu m))):ConOK Tryz.prog 86 (krvC m):=by
 refine fn_ob tt_ok mixed Tryz.func86 rfl (fun _ _=>by kernel_rfl) (A:=fun ds=>⟨fun _=>Cons.of [(47,kplC),(131,ktuC),(81,kvrC),(26,con [kIn,kBo] (kbdSu m))],fun k=>match k,ds with | 4,[.d ch,.i pc,.i vs,.i k,.i v,.i c,.i t,.i ek,.i en,.i ev,.d ed,.i op,.i lk,.i ln,.i lv,.d ld,.i rk,.i rn,.i rv,.d rd,.d bd,.d eb,.d am]=>some {ι:=Nat,pre:=fun _ i=>i<=am.len/\(plK c ch.len=true/\(ch.el c.toNat 3).toI=pc/\∀ j,j<i->arK ch pc vs (ch.el c.toNat 4).toI am j=true),μ:=fun i=>am.len+1-i,st:=fun s i=>famR s [(35,.one (.sc (.int .i64 (.sym ((i:Nat))))))] [2,3,33,34] [] [2,3]} |_,_=>none,fun _=>none⟩) (fun _ _=>(cons_cons kpl_ok (cons_cons ktu_ok (cons_cons kvr_ok (cons_cons ih cons_nil))))) (by kernel_rfl) ?_
 intro ds fr;unfold krvS;split
 ·rename_i ch pc vs k v c t ek en ev ed op lk ln lv ld rk rn rv rd bd eb am;refine @kmp _ (SizeOf.sizeOf am<m->amK am->((!plK c (ch.len:Int))=false/\True->(0:Int)<=c/\c<(ch.len:Int))/\((!plK c (ch.len:Int) ||(ch.el c.toNat ((0:Nat)+(3:Nat))).toI != pc ||(am.len:Int)==(0:Int))=true->false=rvK ch pc vs c am)/\((!plK c (ch.len:Int) ||(ch.el c.toNat ((0:Nat)+(3:Nat))).toI != pc ||(am.len:Int)==(0:Int))=false->(∃ (i:Nat),(i<=am.len/\plK c (ch.len:Int)=true/\(ch.el c.toNat 3).toI=pc/\∀ (j:Nat),j<i->arK ch pc vs (ch.el c.toNat 4).toI am j=true)/\(0:Int)=(i:Int)/\am.rows=am.rows/\(am.len:Int)=(am.len:Int)/\ch.rows=ch.rows/\pc=pc/\vs=vs/\k=k/\v=v/\c=c/\t=t/\ek=ek/\en=en/\ev=ev/\ed.rows=ed.rows/\op=op/\lk=lk/\ln=ln/\lv=lv/\ld.rows=ld.rows/\rk=rk/\rn=rn/\rv=rv/\rd.rows=rd.rows/\bd.rows=bd.rows/\eb.rows=eb.rows/\am.rows=am.rows)/\∀ (i:Nat),(i<=am.len/\plK c (ch.len:Int)=true/\(ch.el c.toNat 3).toI=pc/\∀ (j:Nat),j<i->arK ch pc vs (ch.el c.toNat 4).toI am j=true)->(decide ((i:Int)<(am.len:Int))=true->((0:Int)<=(i:Int)/\(i:Int)<(am.len:Int))/\((0:Int)<=c/\c<(ch.len:Int))/\((!plK (am.el (i:Int).toNat 0).toI (ch.el c.toNat ((0:Nat)+(4:Nat))).toI)=false/\True->(0:Int)<=(i:Int)/\(i:Int)<=(am.len:Int))/\((!plK (am.el (i:Int).toNat 0).toI (ch.el c.toNat ((0:Nat)+(4:Nat))).toI)=false/\True->(am.sub (0:Nat) (i:Int).toNat).len<=10000000000000)/\((!plK (am.el (i:Int).toNat 0).toI (ch.el c.toNat ((0:Nat)+(4:Nat))).toI ||tgU (am.sub (0:Nat) (i:Int).toNat) (am.sub (0:Nat) (i:Int).toNat).len (am.el (i:Int).toNat 0).toI || !plK (am.el (i:Int).toNat 1).toI vs)=false/\True->SizeOf.sizeOf (am.el (i:Int).toNat 2)<m)/\((!plK (am.el (i:Int).toNat 0).toI (ch.el c.toNat ((0:Nat)+(4:Nat))).toI ||tgU (am.sub (0:Nat) (i:Int).toNat) (am.sub (0:Nat) (i:Int).toNat).len (am.el (i:Int).toNat 0).toI || !plK (am.el (i:Int).toNat 1).toI vs)=false/\True->kOK (am.el (i:Int).toNat 2))/\((!plK (am.el (i:Int).toNat 0).toI (ch.el c.toNat ((0:Nat)+(4:Nat))).toI ||tgU (am.sub (0:Nat) (i:Int).toNat) (am.sub (0:Nat) (i:Int).toNat).len (am.el (i:Int).toNat 0).toI || !plK (am.el (i:Int).toNat 1).toI vs || !bkR ch pc vs (am.el (i:Int).toNat 2))=true->false=rvK ch pc vs c am)/\((!plK (am.el (i:Int).toNat 0).toI (ch.el c.toNat ((0:Nat)+(4:Nat))).toI ||tgU (am.sub (0:Nat) (i:Int).toNat) (am.sub (0:Nat) (i:Int).toNat).len (am.el (i:Int).toNat 0).toI || !plK (am.el (i:Int).toNat 1).toI vs || !bkR ch pc vs (am.el (i:Int).toNat 2))=false->∃ (j:Nat),(j<=am.len/\plK c (ch.len:Int)=true/\(ch.el c.toNat 3).toI=pc/\∀ (j_1:Nat),j_1<j->arK ch pc vs (ch.el c.toNat 4).toI am j_1=true)/\am.len+(1:Nat)-j<am.len+(1:Nat)-i/\IntKind.i64.wrap ((i:Int)+(1:Int))=(j:Int)/\am.rows=am.rows/\(am.len:Int)=(am.len:Int)/\ch.rows=ch.rows/\pc=pc/\vs=vs/\k=k/\v=v/\c=c/\t=t/\ek=ek/\en=en/\ev=ev/\ed.rows=ed.rows/\op=op/\lk=lk/\ln=ln/\lv=lv/\ld.rows=ld.rows/\rk=rk/\rn=rn/\rv=rv/\rd.rows=rd.rows/\bd.rows=bd.rows/\eb.rows=eb.rows/\am.rows=am.rows))/\(decide ((i:Int)<(am.len:Int))=false->true=rvK ch pc vs c am))) (by kernel_rfl) ?_
  intro hm hs;simp only [Nat.reduceAdd,Nat.zero_add,k_n];have hl:=hs.1;refine ⟨fun h=>plK_iff.1 (by simpa using h.1),fun h=>?_,fun h=>?_⟩
  ·rw [rvK_eq,h];rfl
  have h0:=h;simp only [Bool.or_eq_false_iff,Bool.not_eq_false',bne_eq_false_iff_eq] at h;obtain ⟨⟨p1,p2⟩,p3⟩:=h;refine ⟨⟨0,⟨Nat.zero_le _,p1,p2,fun j hj=>absurd hj (Nat.not_lt_zero j)⟩,rfl,(by (repeat' (with_reducible apply And.intro))<;>first |exact True.intro |rfl)⟩,fun i hp=>⟨fun hc=>?_,fun hc=>?_⟩⟩
  ·have hc:=of_decide_eq_true hc;have hi:i<am.len:=by omega
   have z:=lel_lt (j:=2) hi;have z1:SizeOf.sizeOf (am.el i 2)<m:=by omega
   have er:=arK_eq ch pc vs (ch.el c.toNat 4).toI am i;rw [tgU_sub (by omega),D.sub_len am (by omega)];refine ⟨⟨by omega,by omega⟩,plK_iff.1 p1,fun _=>⟨by omega,by omega⟩,fun _=>by omega,fun _=>z1,fun _=>hs.2 i hi,fun hq=>?_,fun hq=>?_⟩
   ·rw [rvK_eq,h0];rw [hq] at er;exact (allB_no hi er).symm
   ·rw [hq] at er;exact ⟨i+1,⟨hi,p1,p2,k_ext hp.2.2.2 er⟩,by omega,k_nx (by omega),(by (repeat' (with_reducible apply And.intro))<;>first |exact True.intro |rfl)⟩
  ·have hc:=of_decide_eq_false hc;rw [rvK_eq,h0];exact (allB_yes fun j hj=>hp.2.2.2 j (by omega)).symm
 ·trivial
noncomputable def kstS (m:Nat):FSpec:=fun ds _=>match ds with
 | [.d ch,.i pc,.i vs,.i k,.i v,.i c,.i t,.i ek,.i en,.i ev,.d ed,.i op,.i lk,.i ln,.i lv,.d ld,.i rk,.i rn,.i rv,.d rd,.d bd,.d eb,.d am]=>some {val:=.one (.sc (.bool (.sym (skS ch pc vs k v c t ek en ev ed op lk ln lv ld rk rn rv rd bd eb am)))),vc:=[SizeOf.sizeOf bd<m,SizeOf.sizeOf eb<m,SizeOf.sizeOf am<m,kOK bd,kOK eb,amK am]}
 |_=>none
noncomputable def kstC (m:Nat):Con:=con [kIn,kSt] (kstS m)
set_option maxHeartbeats 4000000 in
theorem kst_ok {m:Nat} (ih:ConOK Tryz.prog 26 (con [kIn,kBo] (kbdSu m))):ConOK Tryz.prog 49 (kstC m):=by
 refine fn_ob tt_ok mixed Tryz.func49 rfl (fun _ _=>by kernel_rfl) (A:=fun ds=>⟨fun _=>Cons.of [(81,kvrC),(82,kxrC),(84,kcrC),(83,ksnC),(85,ksdC),(86,(krvC m)),(26,con [kIn,kBo] (kbdSu m))],fun _=>none,fun _=>none⟩) (fun _ _=>(cons_cons kvr_ok (cons_cons kxr_ok (cons_cons kcr_ok (cons_cons ksn_ok (cons_cons ksd_ok (cons_cons (krv_ok ih) (cons_cons ih cons_nil)))))))) (by kernel_rfl) ?_
 intro ds fr;unfold kstS;split
 ·rename_i ch pc vs k v c t ek en ev ed op lk ln lv ld rk rn rv rd bd eb am;refine @kmp _ (SizeOf.sizeOf bd<m->SizeOf.sizeOf eb<m->SizeOf.sizeOf am<m->kOK bd->kOK eb->amK am->((k==(1:Int))=true->(plK v vs&&xkX vs ek en ev ed&&nkS (0:Int) (0:Int) c t (0:Int) (0:Int) (0:Int) (↑(D.l []).len:Int) op lk ln lv (ld.len:Int) rk rn rv (rd.len:Int) (bd.len:Int) (eb.len:Int) (am.len:Int))=skS ch pc vs k v c t ek en ev ed op lk ln lv ld rk rn rv rd bd eb am)/\((k==(1:Int))=false->((k==(2:Int))=true->(xkC vs op lk ln lv ld rk rn rv rd=true/\True->SizeOf.sizeOf bd<m)/\(xkC vs op lk ln lv ld rk rn rv rd=true/\True->kOK bd)/\((xkC vs op lk ln lv ld rk rn rv rd&&bkR ch pc vs bd)=true/\True->SizeOf.sizeOf eb<m)/\((xkC vs op lk ln lv ld rk rn rv rd&&bkR ch pc vs bd)=true/\True->kOK eb)/\(xkC vs op lk ln lv ld rk rn rv rd&&bkR ch pc vs bd&&bkR ch pc vs eb&&nkS (0:Int) v c t ek en ev (ed.len:Int) (0:Int) (0:Int) (0:Int) (0:Int) (↑(D.l []).len:Int) (0:Int) (0:Int) (0:Int) (↑(D.l []).len:Int) (↑(D.l []).len:Int) (↑(D.l []).len:Int) (am.len:Int))=skS ch pc vs k v c t ek en ev ed op lk ln lv ld rk rn rv rd bd eb am)/\((k==(2:Int))=false->((k==(3:Int))=true->(xkC vs op lk ln lv ld rk rn rv rd=true/\True->SizeOf.sizeOf bd<m)/\(xkC vs op lk ln lv ld rk rn rv rd=true/\True->kOK bd)/\(xkC vs op lk ln lv ld rk rn rv rd&&bkR ch pc vs bd&&nkS (0:Int) v c t ek en ev (ed.len:Int) (0:Int) (0:Int) (0:Int) (0:Int) (↑(D.l []).len:Int) (0:Int) (0:Int) (0:Int) (↑(D.l []).len:Int) (↑(D.l []).len:Int) (eb.len:Int) (am.len:Int))=skS ch pc vs k v c t ek en ev ed op lk ln lv ld rk rn rv rd bd eb am)/\((k==(3:Int))=false->((k==(4:Int))=true->(skD ch pc c t&&xkX vs ek en ev ed&&nkS (0:Int) v (0:Int) (0:Int) (0:Int) (0:Int) (0:Int) (↑(D.l []).len:Int) op lk ln lv (ld.len:Int) rk rn rv (rd.len:Int) (bd.len:Int) (eb.len:Int) (am.len:Int))=skS ch pc vs k v c t ek en ev ed op lk ln lv ld rk rn rv rd bd eb am)/\((k==(4:Int))=false->((k==(5:Int))=true->SizeOf.sizeOf am<m/\amK am/\(rvK ch pc vs c am&&nkS (0:Int) v (0:Int) t ek en ev (ed.len:Int) op lk ln lv (ld.len:Int) rk rn rv (rd.len:Int) (bd.len:Int) (eb.len:Int) (↑(D.l []).len:Int))=skS ch pc vs k v c t ek en ev ed op lk ln lv ld rk rn rv rd bd eb am)/\((k==(5:Int))=false->((k==(6:Int))=true->(xkC vs op lk ln lv ld rk rn rv rd&&nkS (0:Int) v c t ek en ev (ed.len:Int) (0:Int) (0:Int) (0:Int) (0:Int) (↑(D.l []).len:Int) (0:Int) (0:Int) (0:Int) (↑(D.l []).len:Int) (bd.len:Int) (eb.len:Int) (am.len:Int))=skS ch pc vs k v c t ek en ev ed op lk ln lv ld rk rn rv rd bd eb am)/\((k==(6:Int))=false->((k==(7:Int))=true->(plK v vs&&nkS (0:Int) (0:Int) c t ek en ev (ed.len:Int) op lk ln lv (ld.len:Int) rk rn rv (rd.len:Int) (bd.len:Int) (eb.len:Int) (am.len:Int))=skS ch pc vs k v c t ek en ev ed op lk ln lv ld rk rn rv rd bd eb am)/\((k==(7:Int))=false->false=skS ch pc vs k v c t ek en ev ed op lk ln lv ld rk rn rv rd bd eb am)))))))) (by kernel_rfl) ?_
  intro h1 h2 h3 h4 h5 h6;simp only [nkS,k_z0,k_zN,k_zL,Bool.true_and,Bool.and_true];unfold skS;refine ⟨fun h=>?_,fun n1=>⟨fun h=>⟨fun _=>h1,fun _=>h4,fun _=>h2,fun _=>h5,?_⟩,fun n2=>⟨fun h=>⟨fun _=>h1,fun _=>h4,?_⟩,fun n3=>⟨fun h=>?_,fun n4=>⟨fun h=>⟨h3,h6,?_⟩,fun n5=>⟨fun h=>?_,fun n6=>⟨fun h=>?_,fun n7=>?_⟩⟩⟩⟩⟩⟩⟩
  ·obtain rfl:=eq_of_beq h;rw [skF_1];ac_rfl
  ·obtain rfl:=eq_of_beq h;rw [skF_2];ac_rfl
  ·obtain rfl:=eq_of_beq h;rw [skF_3];ac_rfl
  ·obtain rfl:=eq_of_beq h;rw [skF_4];ac_rfl
  ·obtain rfl:=eq_of_beq h;rw [skF_5];ac_rfl
  ·obtain rfl:=eq_of_beq h;rw [skF_6];ac_rfl
  ·obtain rfl:=eq_of_beq h;rw [skF_7];ac_rfl
  ·exact (skF_no (ne_of_beq_false n1) (ne_of_beq_false n2) (ne_of_beq_false n3) (ne_of_beq_false n4) (ne_of_beq_false n5) (ne_of_beq_false n6) (ne_of_beq_false n7)).symm
 ·trivial
theorem kbd_step (m:Nat) (ih:ConOK Tryz.prog 26 (con [kIn,kBo] (kbdSu m))):ConOK Tryz.prog 26 (con [kIn,kBo] (kbdSu (m+1))):=by
 refine fn_ob tt_ok mixed Tryz.func26 rfl (fun _ _=>by kernel_rfl) (A:=fun ds=>⟨fun _=>Cons.of [(49,(kstC m))],fun k=>match k,ds with | 2,[.d ch,.i pc,.i vs,.d d]=>some {ι:=Nat,pre:=fun _ i=>i<=d.len/\∀ j,j<i->skE ch pc vs d j=true,μ:=fun i=>d.len+1-i,st:=fun s i=>famR s [(9,.one (.sc (.int .i64 (.sym ((i:Int))))))] [2,7,8] [] [2]} |_,_=>none,fun _=>none⟩) (fun _ _=>(cons_cons (kst_ok ih) cons_nil)) (by kernel_rfl) ?_
 intro ds fr;unfold kbdSu;split
 ·rename_i ch pc vs d;refine @kmp _ (SizeOf.sizeOf d<m+(1:Nat)->kOK d->(∃ (i:Nat),(i<=d.len/\∀ (j:Nat),j<i->skE ch pc vs d j=true)/\(0:Int)=(i:Int)/\d.rows=d.rows/\(d.len:Int)=(d.len:Int)/\ch.rows=ch.rows/\pc=pc/\vs=vs)/\∀ (i:Nat),(i<=d.len/\∀ (j:Nat),j<i->skE ch pc vs d j=true)->(decide ((i:Int)<(d.len:Int))=true->((0:Int)<=(i:Int)/\(i:Int)<(d.len:Int))/\SizeOf.sizeOf (d.el (i:Int).toNat 17)<m/\SizeOf.sizeOf (d.el (i:Int).toNat 18)<m/\SizeOf.sizeOf (d.el (i:Int).toNat 19)<m/\kOK (d.el (i:Int).toNat 17)/\kOK (d.el (i:Int).toNat 18)/\amK (d.el (i:Int).toNat 19)/\((!skS ch pc vs (d.el (i:Int).toNat 0).toI (d.el (i:Int).toNat 1).toI (d.el (i:Int).toNat 2).toI (d.el (i:Int).toNat 3).toI (d.el (i:Int).toNat 4).toI (d.el (i:Int).toNat 5).toI (d.el (i:Int).toNat 6).toI (d.el (i:Int).toNat 7) (d.el (i:Int).toNat 8).toI (d.el (i:Int).toNat 9).toI (d.el (i:Int).toNat 10).toI (d.el (i:Int).toNat 11).toI (d.el (i:Int).toNat 12) (d.el (i:Int).toNat 13).toI (d.el (i:Int).toNat 14).toI (d.el (i:Int).toNat 15).toI (d.el (i:Int).toNat 16) (d.el (i:Int).toNat 17) (d.el (i:Int).toNat 18) (d.el (i:Int).toNat 19))=true->false=bkR ch pc vs d)/\((!skS ch pc vs (d.el (i:Int).toNat 0).toI (d.el (i:Int).toNat 1).toI (d.el (i:Int).toNat 2).toI (d.el (i:Int).toNat 3).toI (d.el (i:Int).toNat 4).toI (d.el (i:Int).toNat 5).toI (d.el (i:Int).toNat 6).toI (d.el (i:Int).toNat 7) (d.el (i:Int).toNat 8).toI (d.el (i:Int).toNat 9).toI (d.el (i:Int).toNat 10).toI (d.el (i:Int).toNat 11).toI (d.el (i:Int).toNat 12) (d.el (i:Int).toNat 13).toI (d.el (i:Int).toNat 14).toI (d.el (i:Int).toNat 15).toI (d.el (i:Int).toNat 16) (d.el (i:Int).toNat 17) (d.el (i:Int).toNat 18) (d.el (i:Int).toNat 19))=false->∃ (j:Nat),(j<=d.len/\∀ (j_1:Nat),j_1<j->skE ch pc vs d j_1=true)/\d.len+(1:Nat)-j<d.len+(1:Nat)-i/\IntKind.i64.wrap ((i:Int)+(1:Int))=(j:Int)/\d.rows=d.rows/\(d.len:Int)=(d.len:Int)/\ch.rows=ch.rows/\pc=pc/\vs=vs))/\(decide ((i:Int)<(d.len:Int))=false->true=bkR ch pc vs d)) (by kernel_rfl) ?_
  intro hm hs;simp only [Nat.reduceAdd,Nat.zero_add,k_n];have hl:=((kOK_iff d).1 hs).1;refine ⟨⟨0,⟨Nat.zero_le _,fun j hj=>absurd hj (Nat.not_lt_zero j)⟩,rfl,(by (repeat' (with_reducible apply And.intro))<;>first |exact True.intro |rfl)⟩,fun i hp=>⟨fun hc=>?_,fun hc=>?_⟩⟩
  ·have hc:=of_decide_eq_true hc;have hi:i<d.len:=by omega
   have z1:=lel_lt (j:=17) hi;have z2:=lel_lt (j:=18) hi;have z3:=lel_lt (j:=19) hi;obtain ⟨s1,s2,s3⟩:=((kOK_iff d).1 hs).2 i hi;refine ⟨⟨by omega,by omega⟩,by omega,by omega,by omega,s1,s2,s3,fun hq=>?_,fun hq=>?_⟩
   ·rw [Bool.not_eq_true'] at hq;rw [bkR_eq];exact (allB_no hi hq).symm
   ·rw [Bool.not_eq_false'] at hq;exact ⟨i+1,⟨hi,k_ext hp.2 hq⟩,by omega,k_nx (by omega),(by (repeat' (with_reducible apply And.intro))<;>first |exact True.intro |rfl)⟩
  ·have hc:=of_decide_eq_false hc;rw [bkR_eq];exact (allB_yes fun j hj=>hp.2 j (by omega)).symm
 ·trivial
theorem kbd_ok:ConOK Tryz.prog 26 kbdC:=
 con_rec kbdM (fun _ _=>by kernel_rfl) fun m ih=>by
  rw [kbd_under] at ih ⊢;exact kbd_step m ih
end Go.Proofs.YtplejbgafjpomaaGreatDoor.Sx.Z
namespace Go.Proofs.YtplejbgafjpomaaGreatDoor.Sx.Z
open Go.RowKit
def kCh:AP:=.agg [.c (.int .i64),.c (.int .i64),.c (.int .i64),.c (.int .i64),.c (.int .i64),.c (.rows 40)]
def kPr:AP:=.agg [.c (.rows 69),.c (.rows 78)]
def mxK (x y:Int):Int:=if y>x then y else x
def tpA (row:D) (n k:Int) (a:Int):Nat->Int
 | 0=>a
 |t+1=>if plK (row.el t 0).toI n=true then mxK (mxK (tpA row n k a t) k) (row.el t 0).toI else tpA row n k a t
def tpR (ru:D):Nat->Int
 | 0=>0
 |k+1=>tpA (ru.el k 0) ru.len k (tpR ru k) (ru.el k 0).len
def enB (row:D) (n:Int) (t:Nat):Bool:=plK (row.el t 0).toI n ||(row.el t 0).toI == -1
def rwK (ru:D) (ts:Int) (k:Nat):Bool:=((ru.el k 0).len:Int)==ts&&allB (ru.el k 0).len (enB (ru.el k 0) ru.len)
def ruK (ts:Int) (ru:D):Bool:=!decide ((ru.len:Int)>8)&&allB ru.len (rwK ru ts)&&((ru.len:Int)==0 ||tpR ru ru.len==(ru.len:Int)-1)
def chKb (n ck cz cf ct cg:Int) (ru:D):Bool:=decide (ck>=0)&&decide (ck<=2)&&decide (cz>=1)&&decide (cz<=16)&&plK cf n&&plK ct n&&cf != ct&&decide (cg>=1)&&decide (cg<=4)&&ruK cg ru
def chK (n:Int) (ch:D) (i:Nat):Bool:=chKb n (ch.el i 0).toI (ch.el i 1).toI (ch.el i 2).toI (ch.el i 3).toI (ch.el i 4).toI (ch.el i 5)
def prK (ch pr:D) (i:Nat):Bool:=!(decide ((pr.el i 0).toI<0) ||decide ((pr.el i 0).toI>6))&&bkR ch i (pr.el i 0).toI (pr.el i 1)
def riK (ch pr:D):Bool:=!(decide ((ch.len:Int)>4) ||decide ((pr.len:Int)<1) ||decide ((pr.len:Int)>4))&&allB ch.len (chK pr.len ch)&&allB pr.len (prK ch pr)
noncomputable def kruS:FSpec:=fun ds _=>match ds with
 | [.i ck,.i cz,.i cf,.i ct,.i cg,.d ru]=>some {val:=.one (.sc (.bool (.sym (ruK cg ru)))),vc:=[cg<=4]}
 |_=>none
noncomputable def kruC:Con:=con [kCh] kruS
theorem kru_ok:ConOK Tryz.prog 48 kruC:=by
 refine fn_ob tt_ok mixed Tryz.func48 rfl (fun _ _=>by kernel_rfl) (A:=fun ds=>⟨fun _=>Cons.of [(47,kplC)],fun k=>match k,ds with | 5,[.i ck,.i cz,.i cf,.i ct,.i cg,.d ru]=>some {ι:=Nat,pre:=fun _ k=>k<=ru.len/\(ru.len<=8/\∀ j,j<k->rwK ru cg j=true),μ:=fun k=>ru.len+1-k,st:=fun s k=>famR s [(15,.one (.sc (.int .i64 (.sym ((k:Nat)))))),(3,.one (.sc (.int .i64 (.sym (tpR ru k)))))] [1,13,14] [] [1]} | 10,[.i ck,.i cz,.i cf,.i ct,.i cg,.d ru]=>some {ι:=Nat,pre:=fun s t=>t<=(ru.el (slotN s 15) 0).len/\((ru.el (slotN s 15) 0).len=cg.toNat/\∀ j,j<t->enB (ru.el (slotN s 15) 0) ru.len j=true),μ:=fun t=>9-t,st:=fun s t=>famR s [(27,.one (.sc (.int .i64 (.sym ((t:Nat)))))),(3,.one (.sc (.int .i64 (.sym (tpA (ru.el (slotN s 15) 0) ru.len (slotN s 15) (tpR ru (slotN s 15)) t)))))] [1,13,14,15,4,5,25,26] [] [1]} |_,_=>none,fun _=>none⟩) (fun _ _=>(cons_cons kpl_ok cons_nil)) (by kernel_rfl) ?_
 intro ds fr;unfold kruS;split
 ·rename_i ck cz cf ct cg ru
  refine kmp (q:=cg<=(4:Int)->(decide ((ru.len:Int)>(8:Int))=true->false=ruK cg ru)/\(decide ((ru.len:Int)>(8:Int))=false->(∃ (i:Nat),(i<=ru.len/\ru.len<=8/\∀ (j:Nat),j<i->rwK ru cg j=true)/\(0:Int)=(i:Int)/\(0:Int)=tpR ru i/\ru.rows=ru.rows/\(ru.len:Int)=(ru.len:Int)/\ck=ck/\cz=cz/\cf=cf/\ct=ct/\cg=cg/\ru.rows=ru.rows)/\∀ (i:Nat),(i<=ru.len/\ru.len<=8/\∀ (j:Nat),j<i->rwK ru cg j=true)->(decide ((i:Int)<(ru.len:Int))=true->((0:Int)<=(i:Int)/\(i:Int)<(ru.len:Int))/\(((↑(ru.el (i:Int).toNat 0).len:Int) != cg)=true->false=ruK cg ru)/\(((↑(ru.el (i:Int).toNat 0).len:Int) != cg)=false->(∃ (i_1:Nat),(i_1<=(ru.el i 0).len/\(ru.el i 0).len=cg.toNat/\∀ (j:Nat),j<i_1->enB (ru.el i 0) (ru.len:Int) j=true)/\(0:Int)=(i_1:Int)/\tpR ru i=tpA (ru.el i 0) (ru.len:Int) (i:Int) (tpR ru i) i_1/\ru.rows=ru.rows/\(ru.len:Int)=(ru.len:Int)/\(i:Int)=(i:Int)/\(i:Int)=(i:Int)/\(ru.el (i:Int).toNat 0).rows=(ru.el (i:Int).toNat 0).rows/\(ru.el (i:Int).toNat 0).rows=(ru.el (i:Int).toNat 0).rows/\(↑(ru.el (i:Int).toNat 0).len:Int)=(↑(ru.el (i:Int).toNat 0).len:Int)/\ck=ck/\cz=cz/\cf=cf/\ct=ct/\cg=cg/\ru.rows=ru.rows)/\∀ (i_1:Nat),(i_1<=(ru.el i 0).len/\(ru.el i 0).len=cg.toNat/\∀ (j:Nat),j<i_1->enB (ru.el i 0) (ru.len:Int) j=true)->(decide ((i_1:Int)<(↑(ru.el (i:Int).toNat 0).len:Int))=true->((0:Int)<=(i_1:Int)/\(i_1:Int)<(↑(ru.el (i:Int).toNat 0).len:Int))/\(plK ((ru.el (i:Int).toNat 0).el (i_1:Int).toNat 0).toI (ru.len:Int)=true->∃ (j:Nat),(j<=(ru.el i 0).len/\(ru.el i 0).len=cg.toNat/\∀ (j_1:Nat),j_1<j->enB (ru.el i 0) (ru.len:Int) j_1=true)/\(9:Nat)-j<(9:Nat)-i_1/\IntKind.i64.wrap ((i_1:Int)+(1:Int))=(j:Int)/\(if ((ru.el (i:Int).toNat 0).el (i_1:Int).toNat 0).toI>if (i:Int)>tpA (ru.el i 0) (ru.len:Int) (i:Int) (tpR ru i) i_1 then (i:Int) else tpA (ru.el i 0) (ru.len:Int) (i:Int) (tpR ru i) i_1 then ((ru.el (i:Int).toNat 0).el (i_1:Int).toNat 0).toI else if (i:Int)>tpA (ru.el i 0) (ru.len:Int) (i:Int) (tpR ru i) i_1 then (i:Int) else tpA (ru.el i 0) (ru.len:Int) (i:Int) (tpR ru i) i_1)=tpA (ru.el i 0) (ru.len:Int) (i:Int) (tpR ru i) j/\ru.rows=ru.rows/\(ru.len:Int)=(ru.len:Int)/\(i:Int)=(i:Int)/\(i:Int)=(i:Int)/\(ru.el (i:Int).toNat 0).rows=(ru.el (i:Int).toNat 0).rows/\(ru.el (i:Int).toNat 0).rows=(ru.el (i:Int).toNat 0).rows/\(↑(ru.el (i:Int).toNat 0).len:Int)=(↑(ru.el (i:Int).toNat 0).len:Int)/\ck=ck/\cz=cz/\cf=cf/\ct=ct/\cg=cg/\ru.rows=ru.rows)/\(plK ((ru.el (i:Int).toNat 0).el (i_1:Int).toNat 0).toI (ru.len:Int)=false->((((ru.el (i:Int).toNat 0).el (i_1:Int).toNat 0).toI != (-1:Int))=true->false=ruK cg ru)/\((((ru.el (i:Int).toNat 0).el (i_1:Int).toNat 0).toI != (-1:Int))=false->∃ (j:Nat),(j<=(ru.el i 0).len/\(ru.el i 0).len=cg.toNat/\∀ (j_1:Nat),j_1<j->enB (ru.el i 0) (ru.len:Int) j_1=true)/\(9:Nat)-j<(9:Nat)-i_1/\IntKind.i64.wrap ((i_1:Int)+(1:Int))=(j:Int)/\tpA (ru.el i 0) (ru.len:Int) (i:Int) (tpR ru i) i_1=tpA (ru.el i 0) (ru.len:Int) (i:Int) (tpR ru i) j/\ru.rows=ru.rows/\(ru.len:Int)=(ru.len:Int)/\(i:Int)=(i:Int)/\(i:Int)=(i:Int)/\(ru.el (i:Int).toNat 0).rows=(ru.el (i:Int).toNat 0).rows/\(ru.el (i:Int).toNat 0).rows=(ru.el (i:Int).toNat 0).rows/\(↑(ru.el (i:Int).toNat 0).len:Int)=(↑(ru.el (i:Int).toNat 0).len:Int)/\ck=ck/\cz=cz/\cf=cf/\ct=ct/\cg=cg/\ru.rows=ru.rows)))/\(decide ((i_1:Int)<(↑(ru.el (i:Int).toNat 0).len:Int))=false->∃ (j:Nat),(j<=ru.len/\ru.len<=8/\∀ (j_1:Nat),j_1<j->rwK ru cg j_1=true)/\ru.len+(1:Nat)-j<ru.len+(1:Nat)-i/\IntKind.i64.wrap ((i:Int)+(1:Int))=(j:Int)/\tpA (ru.el i 0) (ru.len:Int) (i:Int) (tpR ru i) i_1=tpR ru j/\ru.rows=ru.rows/\(ru.len:Int)=(ru.len:Int)/\ck=ck/\cz=cz/\cf=cf/\ct=ct/\cg=cg/\ru.rows=ru.rows)))/\(decide ((i:Int)<(ru.len:Int))=false->((ru.len:Int)==(0:Int) ||tpR ru i==IntKind.i64.wrap ((ru.len:Int)-(1:Int)))=ruK cg ru))) (by kernel_rfl) ?_
  intro hg;simp only [Nat.reduceAdd,Nat.zero_add,k_n];refine ⟨fun h=>?_,fun h=>?_⟩
  ·unfold ruK;rw [h];rfl
  have h0:=h;have h:=of_decide_eq_false h;have l8:ru.len<=8:=by omega
  have bad:∀ {i},i<ru.len->rwK ru cg i=false->false=ruK cg ru:=fun hi hq=>by unfold ruK;rw [allB_no hi hq,Bool.and_false];rfl
  refine ⟨⟨0,⟨Nat.zero_le _,l8,fun j hj=>absurd hj (Nat.not_lt_zero j)⟩,rfl,(by (repeat' (with_reducible apply And.intro))<;>first |exact True.intro |rfl)⟩,fun i hp=>⟨fun hc=>?_,fun hc=>?_⟩⟩
  ·have hc:=of_decide_eq_true hc;have hi:i<ru.len:=by omega
   refine ⟨⟨by omega,by omega⟩,fun hq=>bad hi ?_,fun hq=>?_⟩
   ·unfold rwK;rw [show (((ru.el i 0).len:Int)==cg)=false by simpa using hq];rfl
   have hw:((ru.el i 0).len:Int)=cg:=by simpa using hq
   have hl:(ru.el i 0).len=cg.toNat:=by omega
   refine ⟨⟨0,⟨Nat.zero_le _,hl,fun j hj=>absurd hj (Nat.not_lt_zero j)⟩,rfl,(by (repeat' (with_reducible apply And.intro))<;>first |exact True.intro |rfl)⟩,fun t ht=>⟨fun hd=>?_,fun hd=>?_⟩⟩
   ·have hd:=of_decide_eq_true hd;have hti:t<(ru.el i 0).len:=by omega
    refine ⟨⟨by omega,by omega⟩,fun hx=>?_,fun hx=>⟨fun hy=>?_,fun hy=>?_⟩⟩
    ·refine ⟨t+1,⟨hti,hl,k_ext ht.2.2 (by unfold enB;rw [hx];rfl)⟩,by omega,k_nx (by omega),?_,(by (repeat' (with_reducible apply And.intro))<;>first |exact True.intro |rfl)⟩;rw [tpA,if_pos hx];rfl
    ·refine bad hi ?_
     unfold rwK;rw [allB_no hti (by unfold enB;rw [hx,show (((ru.el i 0).el t 0).toI == -1)=false by simpa using hy];rfl),Bool.and_false]
    ·refine ⟨t+1,⟨hti,hl,k_ext ht.2.2 (by unfold enB;rw [show (((ru.el i 0).el t 0).toI == -1)=true by simpa using hy,Bool.or_true])⟩,by omega,k_nx (by omega),?_,(by (repeat' (with_reducible apply And.intro))<;>first |exact True.intro |rfl)⟩;rw [tpA,if_neg (by rw [hx];decide)]
   ·have hd:=of_decide_eq_false hd;have ht':t=(ru.el i 0).len:=by have:=ht.1;omega
    subst ht';refine ⟨i+1,⟨hi,l8,k_ext hp.2.2 ?_⟩,by omega,k_nx (by omega),rfl,(by (repeat' (with_reducible apply And.intro))<;>first |exact True.intro |rfl)⟩;unfold rwK;rw [show (((ru.el i 0).len:Int)==cg)=true by simpa using hw,allB_yes fun j hj=>ht.2.2 j hj];rfl
  ·have hc:=of_decide_eq_false hc;obtain rfl:i=ru.len:=by have:=hp.1;omega
   have hw:IntKind.i64.wrap ((ru.len:Int)-1)=(ru.len:Int)-1:=IntWalk.i64_in _ (by omega);rw [hw];unfold ruK;rw [h0,allB_yes fun j hj=>hp.2.2 j hj];rfl
 ·trivial
noncomputable def kchS:FSpec:=fun ds _=>match ds with
 | [.i ck,.i cz,.i cf,.i ct,.i cg,.d ru,.i n]=>some {val:=.one (.sc (.bool (.sym (chKb n ck cz cf ct cg ru)))),vc:=[]}
 |_=>none
noncomputable def kchC:Con:=con [kCh,lI] kchS
set_option maxRecDepth 100000 in
theorem kch_ok:ConOK Tryz.prog 25 kchC:=by
 refine fn_ob tt_ok mixed Tryz.func25 rfl (fun _ _=>by kernel_rfl) (A:=fun ds=>⟨fun _=>Cons.of [(47,kplC),(48,kruC)],fun _=>none,fun _=>none⟩) (fun _ _=>(cons_cons kpl_ok (cons_cons kru_ok cons_nil))) (by kernel_rfl) ?_
 intro ds fr;unfold kchS;split
 ·rename_i ck cz cf ct cg ru n;refine kmp (q:=((decide (ck>=(0:Int))&&decide (ck<=(2:Int))&&decide (cz>=(1:Int))&&decide (cz<=(16:Int))&&plK cf n&&plK ct n&&cf != ct&&decide (cg>=(1:Int))&&decide (cg<=(4:Int)))=true/\True->cg<=(4:Int))/\(decide (ck>=(0:Int))&&decide (ck<=(2:Int))&&decide (cz>=(1:Int))&&decide (cz<=(16:Int))&&plK cf n&&plK ct n&&cf != ct&&decide (cg>=(1:Int))&&decide (cg<=(4:Int))&&ruK cg ru)=chKb n ck cz cf ct cg ru) (by kernel_rfl) ?_
  exact ⟨fun h=>(by have:=h.1;simp only [Bool.and_eq_true,decide_eq_true_eq] at this;exact this.2),rfl⟩
 ·trivial
noncomputable def kriS:FSpec:=fun ds _=>match ds with
 | [.d ch,.d pr]=>some {val:=.one (.sc (.bool (.sym (riK ch pr)))),vc:=[∀ i,i<pr.len->kOK (pr.el i 1)]}
 |_=>none
noncomputable def kriC:Con:=con [kPr] kriS
theorem kri_ok:ConOK Tryz.prog 9 kriC:=by
 refine fn_ob tt_ok mixed Tryz.func9 rfl (fun _ _=>by kernel_rfl) (A:=fun ds=>⟨fun _=>Cons.of [(25,kchC),(26,kbdC)],fun k=>match k,ds with | 4,[.d ch,.d pr]=>some {ι:=Nat,pre:=fun _ i=>i<=ch.len/\∀ j,j<i->chK pr.len ch j=true,μ:=fun i=>ch.len+1-i,st:=fun s i=>famR s [(27,.one (.sc (.int .i64 (.sym ((i:Nat))))))] [1,25,26] [] [1]} | 10,[.d ch,.d pr]=>some {ι:=Nat,pre:=fun _ i=>i<=pr.len/\∀ j,j<i->prK ch pr j=true,μ:=fun i=>pr.len+1-i,st:=fun s i=>famR s [(41,.one (.sc (.int .i64 (.sym ((i:Nat))))))] [1,39,40] [] [1]} |_,_=>none,fun _=>none⟩) (fun _ _=>(cons_cons kch_ok (cons_cons kbd_ok cons_nil))) (by kernel_rfl) ?_
 intro ds fr;unfold kriS;split
 ·rename_i ch pr;refine kmp (q:=(∀ (i:Nat),i<pr.len->kOK (pr.el i 1))->((decide ((ch.len:Int)>(4:Int)) ||decide ((pr.len:Int)<(1:Int)) ||decide ((pr.len:Int)>(4:Int)))=true->false=riK ch pr)/\((decide ((ch.len:Int)>(4:Int)) ||decide ((pr.len:Int)<(1:Int)) ||decide ((pr.len:Int)>(4:Int)))=false->(∃ (i:Nat),(i<=ch.len/\∀ (j:Nat),j<i->chK (pr.len:Int) ch j=true)/\(0:Int)=(i:Int)/\ch.rows=ch.rows/\(ch.len:Int)=(ch.len:Int)/\ch.rows=ch.rows/\pr.rows=pr.rows)/\∀ (i:Nat),(i<=ch.len/\∀ (j:Nat),j<i->chK (pr.len:Int) ch j=true)->(decide ((i:Int)<(ch.len:Int))=true->((0:Int)<=(i:Int)/\(i:Int)<(ch.len:Int))/\((!chKb (pr.len:Int) (ch.el (i:Int).toNat 0).toI (ch.el (i:Int).toNat 1).toI (ch.el (i:Int).toNat 2).toI (ch.el (i:Int).toNat 3).toI (ch.el (i:Int).toNat 4).toI (ch.el (i:Int).toNat 5))=true->false=riK ch pr)/\((!chKb (pr.len:Int) (ch.el (i:Int).toNat 0).toI (ch.el (i:Int).toNat 1).toI (ch.el (i:Int).toNat 2).toI (ch.el (i:Int).toNat 3).toI (ch.el (i:Int).toNat 4).toI (ch.el (i:Int).toNat 5))=false->∃ (j:Nat),(j<=ch.len/\∀ (j_1:Nat),j_1<j->chK (pr.len:Int) ch j_1=true)/\ch.len+(1:Nat)-j<ch.len+(1:Nat)-i/\IntKind.i64.wrap ((i:Int)+(1:Int))=(j:Int)/\ch.rows=ch.rows/\(ch.len:Int)=(ch.len:Int)/\ch.rows=ch.rows/\pr.rows=pr.rows))/\(decide ((i:Int)<(ch.len:Int))=false->(∃ (i:Nat),(i<=pr.len/\∀ (j:Nat),j<i->prK ch pr j=true)/\(0:Int)=(i:Int)/\pr.rows=pr.rows/\(pr.len:Int)=(pr.len:Int)/\ch.rows=ch.rows/\pr.rows=pr.rows)/\∀ (i:Nat),(i<=pr.len/\∀ (j:Nat),j<i->prK ch pr j=true)->(decide ((i:Int)<(pr.len:Int))=true->((0:Int)<=(i:Int)/\(i:Int)<(pr.len:Int))/\((decide ((pr.el (i:Int).toNat 0).toI<(0:Int)) ||decide ((pr.el (i:Int).toNat 0).toI>(6:Int)))=false/\True->kOK (pr.el (i:Int).toNat 1))/\((decide ((pr.el (i:Int).toNat 0).toI<(0:Int)) ||decide ((pr.el (i:Int).toNat 0).toI>(6:Int)) || !bkR ch (i:Int) (pr.el (i:Int).toNat 0).toI (pr.el (i:Int).toNat 1))=true->false=riK ch pr)/\((decide ((pr.el (i:Int).toNat 0).toI<(0:Int)) ||decide ((pr.el (i:Int).toNat 0).toI>(6:Int)) || !bkR ch (i:Int) (pr.el (i:Int).toNat 0).toI (pr.el (i:Int).toNat 1))=false->∃ (j:Nat),(j<=pr.len/\∀ (j_1:Nat),j_1<j->prK ch pr j_1=true)/\pr.len+(1:Nat)-j<pr.len+(1:Nat)-i/\IntKind.i64.wrap ((i:Int)+(1:Int))=(j:Int)/\pr.rows=pr.rows/\(pr.len:Int)=(pr.len:Int)/\ch.rows=ch.rows/\pr.rows=pr.rows))/\(decide ((i:Int)<(pr.len:Int))=false->true=riK ch pr)))) (by kernel_rfl) ?_
  intro ho;simp only [Nat.reduceAdd,Nat.zero_add,k_n];refine ⟨fun h=>?_,fun h=>?_⟩
  ·unfold riK;rw [h];rfl
  have h0:=h;simp only [Bool.or_eq_false_iff,decide_eq_false_iff_not] at h;refine ⟨⟨0,⟨Nat.zero_le _,fun j hj=>absurd hj (Nat.not_lt_zero j)⟩,rfl,(by (repeat' (with_reducible apply And.intro))<;>first |exact True.intro |rfl)⟩,fun i hp=>⟨fun hc=>?_,fun hc=>?_⟩⟩
  ·have hc:=of_decide_eq_true hc;have hi:i<ch.len:=by omega
   refine ⟨⟨by omega,by omega⟩,fun hq=>?_,fun hq=>?_⟩
   ·rw [Bool.not_eq_true'] at hq;unfold riK;rw [allB_no hi hq,Bool.and_false];rfl
   ·rw [Bool.not_eq_false'] at hq;exact ⟨i+1,⟨hi,k_ext hp.2 hq⟩,by omega,k_nx (by omega),(by (repeat' (with_reducible apply And.intro))<;>first |exact True.intro |rfl)⟩
  have hc:=of_decide_eq_false hc;have hch:allB ch.len (chK pr.len ch)=true:=allB_yes fun j hj=>hp.2 j (by omega)
  refine ⟨⟨0,⟨Nat.zero_le _,fun j hj=>absurd hj (Nat.not_lt_zero j)⟩,rfl,(by (repeat' (with_reducible apply And.intro))<;>first |exact True.intro |rfl)⟩,fun i hp=>⟨fun hc=>?_,fun hc=>?_⟩⟩
  ·have hc:=of_decide_eq_true hc;have hi:i<pr.len:=by omega
   have er:prK ch pr i = !(decide ((pr.el i 0).toI<0) ||decide ((pr.el i 0).toI>6) || !bkR ch i (pr.el i 0).toI (pr.el i 1)):=by
    unfold prK;simp only [Bool.not_or,Bool.not_not]
   refine ⟨⟨by omega,by omega⟩,fun _=>ho i hi,fun hq=>?_,fun hq=>?_⟩
   ·rw [hq] at er;unfold riK;rw [allB_no hi er,Bool.and_false]
   ·rw [hq] at er;exact ⟨i+1,⟨hi,k_ext hp.2 er⟩,by omega,k_nx (by omega),(by (repeat' (with_reducible apply And.intro))<;>first |exact True.intro |rfl)⟩
  ·have hc:=of_decide_eq_false hc;unfold riK;rw [h0,hch,allB_yes fun j hj=>hp.2 j (by omega)];rfl
 ·trivial
end Go.Proofs.YtplejbgafjpomaaGreatDoor.Sx.Z
namespace Go.Proofs.YtplejbgafjpomaaGreatDoor.Sx.Z
open Go.RowKit
def txK:ByteArray:=⟨#[99,104,97,110,32,99,32,98,108,111,99,107,32,49,32,102,114,111,109,32,112,32,116,111,32,113,32,123,32,97,32,125,32,59,32,112,114,111,99,32,112,32,123,32,115,101,110,100,32,99,32,46,32,97,32,40,32,49,32,41,32,59,32,125,32,112,114,111,99,32,113,32,123,32,125]⟩
def tcC:D:=.l [[.s ⟨#[99]⟩,.i 0,.i 1,.s ⟨#[112]⟩,.s ⟨#[113]⟩,.l [[.s ⟨#[97]⟩]]]]
def tcP:D:=.l [[.s ⟨#[112]⟩,.l [],.l [[.i 4,.s ⟨#[99]⟩,.s ⟨#[97]⟩,.i 1,.i 1,.s ByteArray.empty,.l [],.i 0,.i 0,.i 0,.s ByteArray.empty,.l [],.i 0,.i 0,.s ByteArray.empty,.l [],.l [],.l [],.l []]]],[.s ⟨#[113]⟩,.l [],.l []]]
theorem conS_subK {P:Program} {f:FuncId} {aps:List AP} {S S':List Dat->Option Eff} (h:ConOK P f (conS aps S)) (hS:∀ ds e,S' ds=some e->S ds=some e):ConOK P f (conS aps S'):=by
 refine ⟨h.enters,fun hp fr args e he=>h.calls hp fr args e ?_,fun hp fr caps e he=>?_⟩
 ·unfold conS con at he ⊢
  split at he
  ·rename_i ds ps hds
   cases hq:S' ds with
   |none=>simp only [hq] at he;cases he
   |some x=>
    simp only [hq] at he;simp only [hds,hS _ _ hq];exact he
  ·cases he
 ·unfold conS at he;rw [con_jf] at he;cases he
theorem ba_eqK {a b:ByteArray} (h:(a.toList==b.toList)=true):a=b:=by
 have h:=eq_of_beq h;rw [ByteArray.toList_eq,ByteArray.toList_eq] at h;exact ByteArray.ext (Array.toList_inj.1 h)
noncomputable def pktS:List Dat->Option Eff:=fun ds=>match ds with
 | [.s s]=>(match s.toList==txK.toList with
   |true=>some {val:=.tup [.agg [.c (.osl 118 0 (.lit 0) (.sym (D.len (.l [[.s ⟨#[99]⟩,.i 0,.i 1,.s ⟨#[112]⟩,.s ⟨#[113]⟩,.l [[.s ⟨#[97]⟩]]]])))),.c (.osl 121 1 (.lit 0) (.sym (D.len (.l [])))),.c (.osl 126 2 (.lit 0) (.sym (D.len (.l [[.s ⟨#[112]⟩,.l [],.l [[.i 4,.s ⟨#[99]⟩,.s ⟨#[97]⟩,.i 1,.i 1,.s ByteArray.empty,.l [],.i 0,.i 0,.i 0,.s ByteArray.empty,.l [],.i 0,.i 0,.s ByteArray.empty,.l [],.l [],.l [],.l []]]],[.s ⟨#[113]⟩,.l [],.l []]]))))],.sc (.int .i64 (.sym 0)),.sc (.int .i64 (.sym 0))],vc:=[s.size<=140737488351232],nw:=[(0,.orow 118 (.l [[.s ⟨#[99]⟩,.i 0,.i 1,.s ⟨#[112]⟩,.s ⟨#[113]⟩,.l [[.s ⟨#[97]⟩]]]])),(1,.orow 121 (.l [])),(2,.orow 126 (.l [[.s ⟨#[112]⟩,.l [],.l [[.i 4,.s ⟨#[99]⟩,.s ⟨#[97]⟩,.i 1,.i 1,.s ByteArray.empty,.l [],.i 0,.i 0,.i 0,.s ByteArray.empty,.l [],.i 0,.i 0,.s ByteArray.empty,.l [],.l [],.l [],.l []]]],[.s ⟨#[113]⟩,.l [],.l []]]))]}
   |false=>none)
 |_=>none
set_option maxRecDepth 100000 in
theorem tk_facts:paC txK=tcC/\paU txK = .l []/\paP txK=tcP/\paA txK=0/\paE txK=0:=⟨by kernel_rfl,by kernel_rfl,by kernel_rfl,by decide +kernel,by decide +kernel⟩
theorem pkt_ok:ConOK Tryz.prog 16 (conS [.sc .str] pktS):=conS_subK par_ok fun ds e h=>by
 unfold pktS at h
 split at h
 ·rename_i s
  split at h
  ·rename_i hs;obtain rfl:=ba_eqK hs;obtain ⟨a,b,c,d,e⟩:=tk_facts;rw [<- h];unfold parS;simp only [a,b,c,d,e];rfl
  ·cases h
 ·cases h
theorem lt1 {P:Nat->Prop} (h:P 0):∀ i,i<1->P i:=fun i hi=>by obtain rfl:i=0:=by omega
                                                             exact h
theorem lt2 {P:Nat->Prop} (h:P 0) (h1:P 1):∀ i,i<2->P i:=fun i hi=>by
 have:i=0 ∨ i=1:=by omega
 rcases this with rfl |rfl
 ·exact h
 ·exact h1
theorem tk_al:allB tcC.len (chE tcC)=true:=by kernel_rfl
theorem tk_pr:allB tcP.len (prE tcP)=true:=by
 show allB 2 _=true;rw [allB_2];unfold prE;rw [bA_eq,bA_eq]
 kernel_rfl
theorem tk_sy:syB tcC (.l []) tcP=true:=by
 unfold syB;rw [tk_al,tk_pr];rfl
theorem tk_ok:SyOK tcC (.l []) tcP:=⟨(show (1:Nat)<=10000000000000 by decide),lt1 (show (1:Nat)<=10000000000000 by decide),Nat.zero_le _,fun i h=>absurd h (Nat.not_lt_zero i),(show (2:Nat)<=10000000000000 by decide),lt2 (Nat.zero_le _) (Nat.zero_le _),lt2 (by
 rw [sOK_iff];refine ⟨(show (1:Nat)<=10000000000000 by decide),lt1 ⟨?_,?_,?_⟩⟩
 ·rw [sOK_iff];exact ⟨Nat.zero_le _,fun i h=>absurd h (Nat.not_lt_zero i)⟩
 ·rw [sOK_iff];exact ⟨Nat.zero_le _,fun i h=>absurd h (Nat.not_lt_zero i)⟩
 ·exact ⟨Nat.zero_le _,fun i h=>absurd h (Nat.not_lt_zero i)⟩) (by
 rw [sOK_iff];exact ⟨Nat.zero_le _,fun i h=>absurd h (Nat.not_lt_zero i)⟩)⟩
theorem tk_ck:CkOK tcC (.l []) tcP where
 w1:=tk_ok
 w2:=fun h _=>SyF_of tk_ok h
 w3:=by
  unfold wdE;rw [if_pos tk_sy]
  repeat' split
  all_goals decide
 d:=by kernel_rfl
 dt:=lt1 (show (1:Nat)<=10000000000000 by decide)
 r:=rfl
 c:=⟨(show (1:Nat)<=1000000 by decide),(show (2:Nat)<=1000000 by decide),lt1 (of_decide_eq_true (by kernel_rfl)),lt1 (of_decide_eq_true (by kernel_rfl)),lt1 (of_decide_eq_true (by kernel_rfl))⟩
 p:=⟨(show (2:Nat)<=1000000 by decide),lt2 (Nat.zero_le _) (Nat.zero_le _),lt2 rfl rfl,lt2 ⟨(show (1:Nat)<=1000000 by decide),lt1 ⟨rfl,rfl,(show (1:Nat)<=10000000000000 by decide),(of_decide_eq_true (by kernel_rfl)),by kernel_rfl,(of_decide_eq_true (by kernel_rfl)),(of_decide_eq_true (by kernel_rfl))⟩⟩ ⟨Nat.zero_le _,fun i h=>absurd h (Nat.not_lt_zero i)⟩⟩
theorem tk_ri:riK (cpTo tcC.len (bcR tcC tcP)) (cpTo tcP.len (bpR tcC tcP))=true:=by
 have h1:allB (cpTo tcC.len (bcR tcC tcP)).len (chK (cpTo tcP.len (bpR tcC tcP)).len (cpTo tcC.len (bcR tcC tcP)))=true:=by kernel_rfl
 have h2:allB (cpTo tcP.len (bpR tcC tcP)).len (prK (cpTo tcC.len (bcR tcC tcP)) (cpTo tcP.len (bpR tcC tcP)))=true:=by
  show allB 2 _=true;rw [allB_2];unfold prK;rw [bkR_eq,bkR_eq]
  kernel_rfl
 have h0:(decide (((cpTo tcC.len (bcR tcC tcP)).len:Int)>4) ||decide (((cpTo tcP.len (bpR tcC tcP)).len:Int)<1) ||decide (((cpTo tcP.len (bpR tcC tcP)).len:Int)>4))=false:=by kernel_rfl
 unfold riK;rw [h0,h1,h2];rfl
theorem tk_ri0:riK (.l []) (.l [])=false:=by kernel_rfl
theorem tk_kb:∀ i,i<(cpTo tcP.len (bpR tcC tcP)).len->kOK ((cpTo tcP.len (bpR tcC tcP)).el i 1):=lt2 (by
 rw [kOK_iff];refine ⟨(show (1:Nat)<=10000000000000 by decide),lt1 ⟨?_,?_,?_⟩⟩
 ·rw [kOK_iff];exact ⟨Nat.zero_le _,fun i h=>absurd h (Nat.not_lt_zero i)⟩
 ·rw [kOK_iff];exact ⟨Nat.zero_le _,fun i h=>absurd h (Nat.not_lt_zero i)⟩
 ·exact ⟨Nat.zero_le _,fun i h=>absurd h (Nat.not_lt_zero i)⟩) (by
 rw [kOK_iff];exact ⟨Nat.zero_le _,fun i h=>absurd h (Nat.not_lt_zero i)⟩)
noncomputable def cksS:FSpec:=fun ds _=>match ds with
 | []=>some {val:=.one (.sc (.bool (.sym (true)))),vc:=[]}
 |_=>none
noncomputable def cksC:Con:=con [] cksS
set_option maxRecDepth 100000 in
theorem cks_ok:ConOK Tryz.prog 8 cksC:=by
 refine fn_ob tt_ok mixed Tryz.func8 rfl (fun _ _=>by kernel_rfl) (A:=fun ds=>⟨fun _=>Cons.of [(16,(conS [.sc .str] pktS)),(12,kchkC),(9,kriC)],fun _=>none,fun _=>none⟩) (fun _ _=>(cons_cons pkt_ok (cons_cons kchk_ok (cons_cons kri_ok cons_nil)))) (by kernel_rfl) ?_
 intro ds fr;unfold cksS;split
 ·skip
  refine kmp (q:=withv ((D.l [[D.s (ByteArray.mk #[112]),D.l [],D.l [[D.i 4,D.s (ByteArray.mk #[99]),D.s (ByteArray.mk #[97]),D.i 1,D.i 1,D.s ByteArray.empty,D.l [],D.i 0,D.i 0,D.i 0,D.s ByteArray.empty,D.l [],D.i 0,D.i 0,D.s ByteArray.empty,D.l [],D.l [],D.l [],D.l []]]],[D.s (ByteArray.mk #[113]),D.l [],D.l []]]).sub ((0:Nat)) ((0:Nat)+(2:Nat))) fun E296=>withv ((D.l [[D.s (ByteArray.mk #[99]),D.i 0,D.i 1,D.s (ByteArray.mk #[112]),D.s (ByteArray.mk #[113]),D.l [[D.s (ByteArray.mk #[97])]]]]).sub ((0:Nat)) 1) fun E297=>withv (cpTo E297.len (bcR E297 E296)) fun E298=>withv (cpTo E296.len (bpR E297 E296)) fun E299=>(ByteArray.mk (([(99:UInt8),(104:UInt8),(97:UInt8),(110:UInt8),(32:UInt8),(99:UInt8),(32:UInt8),(98:UInt8),(108:UInt8),(111:UInt8),(99:UInt8),(107:UInt8),(32:UInt8),(49:UInt8),(32:UInt8),(102:UInt8),(114:UInt8),(111:UInt8),(109:UInt8),(32:UInt8),(112:UInt8),(32:UInt8),(116:UInt8),(111:UInt8),(32:UInt8),(113:UInt8),(32:UInt8),(123:UInt8),(32:UInt8),(97:UInt8),(32:UInt8),(125:UInt8),(32:UInt8),(59:UInt8),(32:UInt8),(112:UInt8),(114:UInt8)].append [(111:UInt8),(99:UInt8),(32:UInt8),(112:UInt8),(32:UInt8),(123:UInt8),(32:UInt8),(115:UInt8),(101:UInt8),(110:UInt8),(100:UInt8),(32:UInt8),(99:UInt8),(32:UInt8),(46:UInt8),(32:UInt8),(97:UInt8),(32:UInt8),(40:UInt8),(32:UInt8),(49:UInt8),(32:UInt8),(41:UInt8),(32:UInt8),(59:UInt8),(32:UInt8),(125:UInt8),(32:UInt8),(112:UInt8),(114:UInt8),(111:UInt8),(99:UInt8),(32:UInt8),(113:UInt8),(32:UInt8),(123:UInt8),(32:UInt8),(125:UInt8)]).toArray)).size<=140737488351232/\(0:Nat)+(1:Nat)<=(D.l [[D.s (ByteArray.mk #[99]),D.i 0,D.i 1,D.s (ByteArray.mk #[112]),D.s (ByteArray.mk #[113]),D.l [[D.s (ByteArray.mk #[97])]]]]).len/\(0:Nat)+(0:Nat)<=(D.l []).len/\(0:Nat)+(2:Nat)<=(D.l [[D.s (ByteArray.mk #[112]),D.l [],D.l [[D.i 4,D.s (ByteArray.mk #[99]),D.s (ByteArray.mk #[97]),D.i 1,D.i 1,D.s ByteArray.empty,D.l [],D.i 0,D.i 0,D.i 0,D.s ByteArray.empty,D.l [],D.i 0,D.i 0,D.s ByteArray.empty,D.l [],D.l [],D.l [],D.l []]]],[D.s (ByteArray.mk #[113]),D.l [],D.l []]]).len/\CkOK E297 ((D.l []).sub ((0:Nat)) ((0:Nat)+(0:Nat))) E296/\((((0:Int)==(0:Int) ||false)&&(E298.len:Int)==(1:Int))=true/\True->(0:Nat)<E298.len)/\((((0:Int)==(0:Int) ||false)&&(E298.len:Int)==(1:Int)&&ixC E296 (ByteArray.mk #[112])==(0:Int))=true/\True->(0:Nat)<E298.len)/\((((0:Int)==(0:Int) ||false)&&(E298.len:Int)==(1:Int)&&ixC E296 (ByteArray.mk #[112])==(0:Int)&&ixC E296 (ByteArray.mk #[113])==(1:Int)&&(E299.len:Int)==(2:Int))=true/\True->∀ (i:Nat),i<E299.len->kOK (E299.el i 1))/\((((0:Int)==(0:Int) ||false)&&(E298.len:Int)==(1:Int)&&ixC E296 (ByteArray.mk #[112])==(0:Int)&&ixC E296 (ByteArray.mk #[113])==(1:Int)&&(E299.len:Int)==(2:Int)&&riK E298 E299)=true/\True->∀ (i:Nat),i<(D.l []).len->kOK ((D.l []).el i 1))/\(((0:Int)==(0:Int) ||false)&&(E298.len:Int)==(1:Int)&&ixC E296 (ByteArray.mk #[112])==(0:Int)&&ixC E296 (ByteArray.mk #[113])==(1:Int)&&(E299.len:Int)==(2:Int)&&riK E298 E299 && !riK (D.l []) (D.l []))=true) (by kernel_rfl) ?_
  dsimp +instances only [withv]
  have eC:D.sub (.l [[.s ⟨#[99]⟩,.i 0,.i 1,.s ⟨#[112]⟩,.s ⟨#[113]⟩,.l [[.s ⟨#[97]⟩]]]]) 0 (0+1)=tcC:=rfl;have eP:D.sub (.l [[.s ⟨#[112]⟩,.l [],.l [[.i 4,.s ⟨#[99]⟩,.s ⟨#[97]⟩,.i 1,.i 1,.s ByteArray.empty,.l [],.i 0,.i 0,.i 0,.s ByteArray.empty,.l [],.i 0,.i 0,.s ByteArray.empty,.l [],.l [],.l [],.l []]]],[.s ⟨#[113]⟩,.l [],.l []]]) 0 (0+2)=tcP:=rfl;have eU:D.sub (.l []) 0 (0+0) = .l []:=rfl;rw [eC,eP,eU,tk_ri,tk_ri0];exact ⟨of_decide_eq_true (by kernel_rfl),Nat.le_refl _,Nat.le_refl _,Nat.le_refl _,tk_ck,fun _=>of_decide_eq_true (by kernel_rfl),fun _=>of_decide_eq_true (by kernel_rfl),fun _=>tk_kb,fun _ i h=>absurd h (Nat.not_lt_zero i),by kernel_rfl⟩
 ·trivial
end Go.Proofs.YtplejbgafjpomaaGreatDoor.Sx.Z
namespace Go.Proofs.YtplejbgafjpomaaGreatDoor.Sx.Z
open Go.RowKit
theorem elm {n i j:Nat} {f:Nat->List D} (h:i<n):(cpTo n f).el i j=(f i).getD j (.i 0):=by
 show (((List.range n).map f).getD i []).getD j (.i 0)=_;rw [List.getD_eq_getElem?_getD (l:=(List.range n).map f),List.getElem?_map,List.getElem?_range h];rfl
theorem ixC_at {d:D} {s:ByteArray} (h:¬ ixC d s<0):ixC d s<d.len/\eqS (d.el (ixC d s).toNat 0).toS s=true:=by
 unfold ixC at h ⊢
 rcases ixF_or (fun j=>eqS (d.el j 0).toS s) d.len with ⟨i,h1,h3,_,h2⟩ |⟨_,h2⟩
 ·rw [h2];exact ⟨by omega,h3⟩
 ·rw [h2] at h;exact absurd (by decide) h
structure PlOK (ch ru pr:D):Prop where
 lc:(ckC (cpC ch) (cpU ru) (cpP pr)).len=ch.len
 lp:(ckP (cpC ch) (cpU ru) (cpP pr)).len=pr.len
 c0:∀ i,i<ch.len->((ckC (cpC ch) (cpU ru) (cpP pr)).el i 0).toI=(ch.el i 1).toI
 c1:∀ i,i<ch.len->((ckC (cpC ch) (cpU ru) (cpP pr)).el i 1).toI=(ch.el i 2).toI
 c4:∀ i,i<ch.len->((ckC (cpC ch) (cpU ru) (cpP pr)).el i 4).toI=((ch.el i 5).len:Int)
 c2:∀ i,i<ch.len->0<=((ckC (cpC ch) (cpU ru) (cpP pr)).el i 2).toI/\((ckC (cpC ch) (cpU ru) (cpP pr)).el i 2).toI<pr.len/\((pr.el ((ckC (cpC ch) (cpU ru) (cpP pr)).el i 2).toI.toNat 0).toS.toList==(ch.el i 3).toS.toList)=true
 c3:∀ i,i<ch.len->0<=((ckC (cpC ch) (cpU ru) (cpP pr)).el i 3).toI/\((ckC (cpC ch) (cpU ru) (cpP pr)).el i 3).toI<pr.len/\((pr.el ((ckC (cpC ch) (cpU ru) (cpP pr)).el i 3).toI.toNat 0).toS.toList==(ch.el i 4).toS.toList)=true
 p0:∀ i,i<pr.len->((ckP (cpC ch) (cpU ru) (cpP pr)).el i 0).toI=((pr.el i 1).len:Int)
 p1:∀ i,i<pr.len->((ckP (cpC ch) (cpU ru) (cpP pr)).el i 1).len=(pr.el i 2).len
theorem nm_at {pr:D} {s:ByteArray} (h:¬ ixC (cpP pr) s<0):0<=ixC (cpP pr) s/\ixC (cpP pr) s<pr.len/\((pr.el (ixC (cpP pr) s).toNat 0).toS.toList==s.toList)=true:=by
 obtain ⟨h1,h2⟩:=ixC_at h;have l:(cpP pr).len=pr.len:=cpTo_len _ _;rw [l] at h1;have e:(cpP pr).el (ixC (cpP pr) s).toNat 0=D.s (pr.el (ixC (cpP pr) s).toNat 0).toS:=elm (f:=prR pr) (j:=0) (by omega);rw [e] at h2;exact ⟨by omega,h1,h2⟩
theorem pl_ok {ch ru pr:D} (h:ckE (cpC ch) (cpU ru) (cpP pr)=0):PlOK ch ru pr:=by
 obtain ⟨e1,e2,e3,e4⟩:=ck_ok h;obtain ⟨q1,q2⟩:=bcQ_el (cpC ch) (cpU ru) (cpP pr) (cpU ru).len;have lc:(cpC ch).len=ch.len:=cpTo_len _ _;have lp:(cpP pr).len=pr.len:=cpTo_len _ _;rw [lc] at q1 q2 e3;rw [lp] at e4;have cc:∀ i,i<ch.len->∀ j,(cpC ch).el i j=(chRq ch i).getD j (.i 0):=fun i hi j=>elm hi
 have cp:∀ i,i<pr.len->∀ j,(cpP pr).el i j=(prR pr i).getD j (.i 0):=fun i hi j=>elm hi
 have no:∀ i,i<ch.len->¬ ixC (cpP pr) (ch.el i 3).toS<0/\¬ ixC (cpP pr) (ch.el i 4).toS<0:=fun i hi=>by
  have z:=e3 i hi;unfold bcE at z;rw [cc i hi,cc i hi] at z;have z:(if (decide (ixC (cpP pr) (ch.el i 3).toS<0) ||decide (ixC (cpP pr) (ch.el i 4).toS<0))=true then (8:Int) else if (ixC (cpP pr) (ch.el i 3).toS==ixC (cpP pr) (ch.el i 4).toS)=true then 9 else 0)=0:=z
  split at z
  ·cases z
  ·rename_i w;simp only [Bool.or_eq_true,decide_eq_true_eq] at w;exact ⟨fun q=>w (.inl q),fun q=>w (.inr q)⟩
 have eB:∀ i,i<pr.len->(grB (cpC ch) ((cpP pr).el i 0).toS ((cpP pr).el i 1) ((cpP pr).el i 2) 0).1=0:=fun i hi=>by
  have z:=e4 i hi;unfold bpE at z
  split at z
  ·cases z
  ·split at z
   ·cases z
   ·exact z
 rw [lp] at e2;constructor
 ·rw [e1];exact q1
 ·rw [e2,cpTo_len]
 ·intro i hi;rw [e1,q2 i hi 0 (by decide)];show ((cpC ch).el i 1).toI=_;rw [cc i hi];rfl
 ·intro i hi;rw [e1,q2 i hi 1 (by decide)];show ((cpC ch).el i 2).toI=_;rw [cc i hi];rfl
 ·intro i hi;rw [e1,q2 i hi 4 (by decide)];show (((cpC ch).el i 5).len:Int)=_;rw [cc i hi];rfl
 ·intro i hi;rw [e1,q2 i hi 2 (by decide)];have e:(bcR (cpC ch) (cpP pr) i).getD 2 (.i 0)=D.i (ixC (cpP pr) (ch.el i 3).toS):=by show D.i (ixC (cpP pr) ((cpC ch).el i 3).toS)=_;rw [cc i hi];rfl
  rw [e];exact nm_at (no i hi).1
 ·intro i hi;rw [e1,q2 i hi 3 (by decide)];have e:(bcR (cpC ch) (cpP pr) i).getD 3 (.i 0)=D.i (ixC (cpP pr) (ch.el i 4).toS):=by show D.i (ixC (cpP pr) ((cpC ch).el i 4).toS)=_;rw [cc i hi];rfl
  rw [e];exact nm_at (no i hi).2
 ·intro i hi;rw [e2,elm hi];show (((cpP pr).el i 1).len:Int)=_;rw [cp i hi];rfl
 ·intro i hi;rw [e2,elm hi];show (grB (cpC ch) ((cpP pr).el i 0).toS ((cpP pr).el i 1) ((cpP pr).el i 2) 0).2.len=_;rw [grB_len (eB i hi),cp i hi];show (cpB (pr.el i 2)).len=_;rw [cpB_eq,cpTo_len]
noncomputable def kpqS:FSpec:=fun ds _=>match ds with
 | [.d ch,.d ru,.d pr]=>some {val:=.one (.sc (.bool (.lit true))),vc:=[SyS ch ru pr,CkS (cpC ch) (cpU ru) (cpP pr)]}
 |_=>none
noncomputable def kpqC:Con:=con [lSyr] kpqS
theorem kpq_ok (hru:ConOK Tryz.prog 59 bruC):ConOK Tryz.prog 4 kpqC:=by
 refine fn_ob tt_ok mixed Tryz.func4 rfl (fun _ _=>by kernel_rfl) (A:=fun ds=>⟨fun _=>Cons.of [(13,ycpC),(12,kchgC),(8,cksC)],fun k=>match k,ds with | 7,[.d ch,.d ru,.d pr]=>some {ι:=Nat,pre:=fun _ i=>i<=ch.len/\ckE (cpC ch) (cpU ru) (cpP pr)=0/\(ckC (cpC ch) (cpU ru) (cpP pr)).len=ch.len/\(ckP (cpC ch) (cpU ru) (cpP pr)).len=pr.len,μ:=fun i=>ch.len+1-i,st:=fun s i=>famR s [(5,.one (.sc (.int .i64 (.sym ((i:Nat))))))] [1,2,3] [] [1,3]} | 13,[.d ch,.d ru,.d pr]=>some {ι:=Nat,pre:=fun _ i=>i<=pr.len/\ckE (cpC ch) (cpU ru) (cpP pr)=0/\(ckC (cpC ch) (cpU ru) (cpP pr)).len=ch.len/\(ckP (cpC ch) (cpU ru) (cpP pr)).len=pr.len,μ:=fun i=>pr.len+1-i,st:=fun s i=>famR s [(8,.one (.sc (.int .i64 (.sym ((i:Nat))))))] [1,2,3] [] [1,3]} |_,_=>none,fun _=>none⟩) (fun _ _=>(cons_cons ycp_ok (cons_cons (kchg_ok hru) (cons_cons cks_ok cons_nil)))) (by kernel_rfl) ?_
 intro ds fr;unfold kpqS;split
 ·rename_i ch ru pr
  refine kmp (q:=withv (ckC (cpC ch) (cpU ru) (cpP pr)) fun E300=>withv (fun (i:Nat)=>(E300.el (i:Int).toNat 0).toI != (ch.el (i:Int).toNat 1).toI ||(E300.el (i:Int).toNat 1).toI != (ch.el (i:Int).toNat 2).toI ||(E300.el (i:Int).toNat 4).toI != (↑(ch.el (i:Int).toNat 5).len:Int) || !(pr.el (E300.el (i:Int).toNat 2).toI.toNat ((0:Nat)+(0:Nat))).toS.toList==(ch.el (i:Int).toNat 3).toS.toList || !(pr.el (E300.el (i:Int).toNat 3).toI.toNat ((0:Nat)+(0:Nat))).toS.toList==(ch.el (i:Int).toNat 4).toS.toList) fun E301=>withv (ckP (cpC ch) (cpU ru) (cpP pr)) fun E302=>withv (fun (i:Nat)=>(E302.el (i:Int).toNat ((0:Nat)+(0:Nat))).toI != (↑(pr.el (i:Int).toNat 1).len:Int) ||(↑(E302.el (i:Int).toNat 1).len:Int) != (↑(pr.el (i:Int).toNat ((0:Nat)+(2:Nat))).len:Int)) fun E303=>withv (fun (i:Nat)=>(E302.el (i:Int).toNat ((0:Nat)+(0:Nat))).toI != (↑(pr.el (i:Int).toNat 1).len:Int)) fun E304=>withv (fun (i:Nat)=>E300.el (i:Int).toNat 2) fun E305=>SyS ch ru pr->CkS (cpC ch) (cpU ru) (cpP pr)->SyS ch ru pr/\CkS (cpC ch) (cpU ru) (cpP pr)/\((!true ||ckE (cpC ch) (cpU ru) (cpP pr) != (0:Int))=true->true=true)/\((!true ||ckE (cpC ch) (cpU ru) (cpP pr) != (0:Int))=false->(((E300.len:Int) != (ch.len:Int) ||(E302.len:Int) != (pr.len:Int))=true->false=true)/\(((E300.len:Int) != (ch.len:Int) ||(E302.len:Int) != (pr.len:Int))=false->(∃ (i:Nat),(i<=ch.len/\ckE (cpC ch) (cpU ru) (cpP pr)=(0:Int)/\E300.len=ch.len/\E302.len=pr.len)/\(0:Int)=(i:Int)/\false=false/\ch.rows=ch.rows/\ru.rows=ru.rows/\pr.rows=pr.rows/\E300.rows=E300.rows/\E302.rows=E302.rows)/\∀ (i:Nat),i<=ch.len/\ckE (cpC ch) (cpU ru) (cpP pr)=(0:Int)/\E300.len=ch.len/\E302.len=pr.len->(decide ((i:Int)<(ch.len:Int))=true->((0:Int)<=(i:Int)/\(i:Int)<(E300.len:Int))/\((0:Int)<=(i:Int)/\(i:Int)<(ch.len:Int))/\(((E300.el (i:Int).toNat 0).toI != (ch.el (i:Int).toNat 1).toI ||(E300.el (i:Int).toNat 1).toI != (ch.el (i:Int).toNat 2).toI ||(E300.el (i:Int).toNat 4).toI != (↑(ch.el (i:Int).toNat 5).len:Int))=false/\True->(0:Int)<=(E305 i).toI/\(E305 i).toI<(pr.len:Int))/\(((E300.el (i:Int).toNat 0).toI != (ch.el (i:Int).toNat 1).toI ||(E300.el (i:Int).toNat 1).toI != (ch.el (i:Int).toNat 2).toI ||(E300.el (i:Int).toNat 4).toI != (↑(ch.el (i:Int).toNat 5).len:Int) || !(pr.el (E305 i).toI.toNat ((0:Nat)+(0:Nat))).toS.toList==(ch.el (i:Int).toNat 3).toS.toList)=false/\True->(0:Int)<=(E300.el (i:Int).toNat 3).toI/\(E300.el (i:Int).toNat 3).toI<(pr.len:Int))/\((E301 i)=true->false=true)/\((E301 i)=false->∃ (j:Nat),(j<=ch.len/\ckE (cpC ch) (cpU ru) (cpP pr)=(0:Int)/\E300.len=ch.len/\E302.len=pr.len)/\ch.len+(1:Nat)-j<ch.len+(1:Nat)-i/\IntKind.i64.wrap ((i:Int)+(1:Int))=(j:Int)/\false=false/\ch.rows=ch.rows/\ru.rows=ru.rows/\pr.rows=pr.rows/\E300.rows=E300.rows/\E302.rows=E302.rows))/\(decide ((i:Int)<(ch.len:Int))=false->(∃ (i:Nat),(i<=pr.len/\ckE (cpC ch) (cpU ru) (cpP pr)=(0:Int)/\E300.len=ch.len/\E302.len=pr.len)/\(0:Int)=(i:Int)/\false=false/\ch.rows=ch.rows/\ru.rows=ru.rows/\pr.rows=pr.rows/\E300.rows=E300.rows/\E302.rows=E302.rows)/\∀ (i:Nat),i<=pr.len/\ckE (cpC ch) (cpU ru) (cpP pr)=(0:Int)/\E300.len=ch.len/\E302.len=pr.len->(decide ((i:Int)<(pr.len:Int))=true->((0:Int)<=(i:Int)/\(i:Int)<(E302.len:Int))/\((0:Int)<=(i:Int)/\(i:Int)<(pr.len:Int))/\((E304 i)=false/\True->(0:Int)<=(i:Int)/\(i:Int)<(E302.len:Int))/\((E304 i)=false/\True->(0:Int)<=(i:Int)/\(i:Int)<(pr.len:Int))/\((E303 i)=true->false=true)/\((E303 i)=false->∃ (j:Nat),(j<=pr.len/\ckE (cpC ch) (cpU ru) (cpP pr)=(0:Int)/\E300.len=ch.len/\E302.len=pr.len)/\pr.len+(1:Nat)-j<pr.len+(1:Nat)-i/\IntKind.i64.wrap ((i:Int)+(1:Int))=(j:Int)/\false=false/\ch.rows=ch.rows/\ru.rows=ru.rows/\pr.rows=pr.rows/\E300.rows=E300.rows/\E302.rows=E302.rows))/\(decide ((i:Int)<(pr.len:Int))=false->true=true))))) (by kernel_rfl) ?_
  dsimp +instances only [withv]
  intro h1 h2;simp only [Nat.reduceAdd,Nat.zero_add,k_n];refine ⟨h1,h2,fun _=>trivial,fun h0=>?_⟩;have h0:ckE (cpC ch) (cpU ru) (cpP pr)=0:=by simpa using h0
  have o:=pl_ok h0;have l1:=o.lc;have l2:=o.lp;have s1:=h1.c;have s2:=h1.p;refine ⟨fun q=>?_,fun _=>⟨⟨0,⟨Nat.zero_le _,h0,l1,l2⟩,(by (repeat' (with_reducible apply And.intro))<;>first |exact True.intro |rfl)⟩,fun i hi=>?_⟩⟩
  ·rw [l1,l2] at q;simp at q
  ·obtain ⟨hi,_⟩:=hi;refine ⟨fun hc=>?_,fun _=>⟨⟨0,⟨Nat.zero_le _,h0,l1,l2⟩,(by (repeat' (with_reducible apply And.intro))<;>first |exact True.intro |rfl)⟩,fun k hk=>?_⟩⟩
   ·have hc:=of_decide_eq_true hc;have hi2:i<ch.len:=by omega
    obtain ⟨a1,a2,a3⟩:=o.c2 i hi2;obtain ⟨b1,b2,b3⟩:=o.c3 i hi2;refine ⟨⟨by omega,by omega⟩,⟨by omega,by omega⟩,fun _=>⟨a1,a2⟩,fun _=>⟨b1,b2⟩,fun q=>?_,fun _=>⟨i+1,⟨hi2,h0,l1,l2⟩,by omega,k_nx (by omega),(by (repeat' (with_reducible apply And.intro))<;>first |exact True.intro |rfl)⟩⟩;rw [o.c0 i hi2,o.c1 i hi2,o.c4 i hi2,a3,b3] at q;simp at q
   ·obtain ⟨hk,_⟩:=hk;refine ⟨fun hc=>?_,fun _=>trivial⟩;have hc:=of_decide_eq_true hc;have hk2:k<pr.len:=by omega
    refine ⟨⟨by omega,by omega⟩,⟨by omega,by omega⟩,fun _=>⟨by omega,by omega⟩,fun _=>⟨by omega,by omega⟩,fun q=>?_,fun _=>⟨k+1,⟨hk2,h0,l1,l2⟩,by omega,k_nx (by omega),(by (repeat' (with_reducible apply And.intro))<;>first |exact True.intro |rfl)⟩⟩;rw [o.p0 k hk2,o.p1 k hk2] at q;simp at q
 ·trivial
end Go.Proofs.YtplejbgafjpomaaGreatDoor.Sx.Z
namespace Go.Proofs.YtplejbgafjpomaaGreatDoor.Sx.Z
theorem tab_laid {W : World} (h : laidMetH Tryz.prog [("math/bits.deBruijn32tab", Rows.laid_math_bits_deBruijn32tab), ("math/bits.deBruijn64tab", Rows.laid_math_bits_deBruijn64tab), ("internal/strconv.uint64pow10", Rows.laid_internal_strconv_uint64pow10)] W) : TabF (cellsAt W) := by
 rw [MakeChecks.laidMetH_plain _ _ _ (by kernel_rfl)] at h;have h3 : laidMet Tryz.prog (("internal/strconv.uint64pow10", Lib.tabData .u64 Lib.pow10Tab) :: []) W := h.tail.tail;have ht:=Lib.tabIs_of_head (g:=0) (t:=297) (e:=35) (n:=20) (by kernel_rfl) (by kernel_rfl) Tryz.underlying297 Tryz.underlying35 (by kernel_rfl) (by kernel_rfl) h3;rintro g cs ⟨hg,rfl⟩;obtain rfl := Option.some.inj ((show PG.globalNamed "internal/strconv.uint64pow10" = some 0 by kernel_rfl).symm.trans hg);unfold Lib.TabIs World.var? at ht;rw [show Tryz.prog.globalNamed "internal/strconv.uint64pow10" = some 0 by kernel_rfl] at ht
 change (match W.heap[0]? with |some (.cells cs _ _)=>some cs |_=>none)=_ at ht
 unfold cellsAt;exact ht
end Go.Proofs.YtplejbgafjpomaaGreatDoor.Sx.Z
