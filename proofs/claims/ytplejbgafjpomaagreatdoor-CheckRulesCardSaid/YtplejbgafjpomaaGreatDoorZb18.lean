import Derived.Test.YtplejbgafjpomaaGreatDoorZb14
import Derived.Test.YtplejbgafjpomaaGreatDoorZb17
import Derived.Test.YtplejbgafjpomaaGreatDoorZb16
set_option linter.unusedVariables false
set_option linter.unusedSimpArgs false
namespace Go.Proofs.YtplejbgafjpomaaGreatDoor.Sx.Z
open Go.RowKit
def kX:AP:=.agg [.c (.int .i64),.c (.int .i64),.c (.int .i64),.c (.rows 161)]
def kCo:AP:=.agg [.c (.int .i64),.c (.int .i64),.c (.int .i64),.c (.int .i64),.c (.rows 161),.c (.int .i64),.c (.int .i64),.c (.int .i64),.c (.rows 161)]
def kSt:AP:=.agg [.c (.int .i64),.c (.int .i64),.c (.int .i64),.c (.int .i64),.c (.int .i64),.c (.int .i64),.c (.int .i64),.c (.rows 161),.c (.int .i64),.c (.int .i64),.c (.int .i64),.c (.int .i64),.c (.rows 161),.c (.int .i64),.c (.int .i64),.c (.int .i64),.c (.rows 161),.c (.rows 166),.c (.rows 166),.c (.rows 170)]
def kIn:AP:=.agg [.c (.rows 69),.c (.int .i64),.c (.int .i64)]
def plK (a n:Int):Bool:=decide (a>=0)&&decide (a<n)
theorem plK_iff {a n:Int}:plK a n=true↔0<=a/\a<n:=by
 unfold plK;rw [Bool.and_eq_true,decide_eq_true_iff,decide_eq_true_iff]
def xkB (vs k n v len:Int) (f:Nat->Bool):Bool:=
 if k=1 then decide (n>=0)&&decide (n<=2147483647)&&v==0&&len==0 else if k=2 then plK v vs&&n==0&&len==0 else if k=3 then len==1&&(f 0&&(n==0&&v==0)) else if biB k=true then len==2&&(f 0&&f 1&&(n==0&&v==0)) else false
def xkE (vs:Int) (d:D) (i:Nat):Bool:=if _h:i<d.len then xkB vs (d.el i 0).toI (d.el i 1).toI (d.el i 2).toI (d.el i 3).len (fun j=>xkE vs (d.el i 3) j) else false
 termination_by SizeOf.sizeOf d
 decreasing_by exact lel_lt (by assumption)
def xkX (vs k n v:Int) (d:D):Bool:=xkB vs k n v d.len (xkE vs d)
theorem xkE_eq {vs:Int} {d:D} {i:Nat} (h:i<d.len):xkE vs d i=xkX vs (d.el i 0).toI (d.el i 1).toI (d.el i 2).toI (d.el i 3):=by
 rw [xkE,dif_pos h];rfl
theorem xkX_bin {vs k n v:Int} {d:D} (h:biB k=true):xkX vs k n v d=((d.len:Int)==2&&(xkE vs d 0&&xkE vs d 1&&(n==0&&v==0))):=by
 have hb:=bi_in h;unfold xkX xkB;rw [if_neg (by omega),if_neg (by omega),if_neg (by omega),if_pos h]
theorem xkX_no {vs k n v:Int} {d:D} (h1:k≠1) (h2:k≠2) (h3:k≠3) (h:biB k=false):xkX vs k n v d=false:=by
 unfold xkX xkB;rw [if_neg h1,if_neg h2,if_neg h3,if_neg (by rw [h];decide)]
def xkC (vs op lk ln lv:Int) (ld:D) (rk rn rv:Int) (rd:D):Bool:=decide (op>=1)&&decide (op<=6)&&xkX vs lk ln lv ld&&xkX vs rk rn rv rd
def xkN (k n v len:Int):Bool:=k==0&&n==0&&v==0&&len==0
def skF (vs k v c t:Int) (e ne cr nc sd b el ar:Bool) (bl ell al:Int):Bool:=
 if k=1 then plK v vs&&e&&c==0&&t==0&&nc&&bl==0&&ell==0&&al==0
 else if k=2 then cr&&b&&el&&v==0&&c==0&&t==0&&ne&&al==0
 else if k=3 then cr&&b&&v==0&&c==0&&t==0&&ne&&ell==0&&al==0
 else if k=4 then sd&&e&&v==0&&nc&&bl==0&&ell==0&&al==0
 else if k=5 then ar&&v==0&&t==0&&ne&&nc&&bl==0&&ell==0
 else if k=6 then cr&&v==0&&c==0&&t==0&&ne&&bl==0&&ell==0&&al==0
 else if k=7 then plK v vs&&c==0&&t==0&&ne&&nc&&bl==0&&ell==0&&al==0 else false
def nkS (k v c t ek en ev el op lk ln lv ll rk rn rv rl bl ell al:Int):Bool:=k==0&&v==0&&c==0&&t==0&&xkN ek en ev el&&op==0&&xkN lk ln lv ll&&xkN rk rn rv rl&&bl==0&&ell==0&&al==0
def skD (ch:D) (pc c t:Int):Bool:=plK c ch.len&&(ch.el c.toNat 2).toI==pc&&plK t (ch.el c.toNat 4).toI
def tgU (am:D) (n:Nat) (t:Int):Bool:=(List.range n).any fun j=>(am.el j 0).toI==t
def bkR (ch:D) (pc vs:Int) (d:D):Bool:=(List.finRange d.len).all fun (i:Fin d.len)=>
 skF vs (d.el i 0).toI (d.el i 1).toI (d.el i 2).toI (d.el i 3).toI (xkX vs (d.el i 4).toI (d.el i 5).toI (d.el i 6).toI (d.el i 7)) (xkN (d.el i 4).toI (d.el i 5).toI (d.el i 6).toI (d.el i 7).len)
  (xkC vs (d.el i 8).toI (d.el i 9).toI (d.el i 10).toI (d.el i 11).toI (d.el i 12) (d.el i 13).toI (d.el i 14).toI (d.el i 15).toI (d.el i 16))
  ((d.el i 8).toI==0&&xkN (d.el i 9).toI (d.el i 10).toI (d.el i 11).toI (d.el i 12).len&&xkN (d.el i 13).toI (d.el i 14).toI (d.el i 15).toI (d.el i 16).len)
  (skD ch pc (d.el i 2).toI (d.el i 3).toI) (bkR ch pc vs (d.el i 17)) (bkR ch pc vs (d.el i 18))
  (plK (d.el i 2).toI ch.len&&(ch.el (d.el i 2).toI.toNat 3).toI==pc && !(((d.el i 19).len:Int)==0)&&(List.finRange (d.el i 19).len).all fun (j:Fin (d.el i 19).len)=>
    plK ((d.el i 19).el j 0).toI (ch.el (d.el i 2).toI.toNat 4).toI && !tgU (d.el i 19) j ((d.el i 19).el j 0).toI&&plK ((d.el i 19).el j 1).toI vs&&bkR ch pc vs ((d.el i 19).el j 2))
  (d.el i 17).len (d.el i 18).len (d.el i 19).len
 termination_by SizeOf.sizeOf d
 decreasing_by
  ·exact lel_lt i.isLt
  ·exact lel_lt i.isLt
  ·exact Nat.lt_trans (lel_lt j.isLt) (lel_lt i.isLt)
def arK (ch:D) (pc vs ts:Int) (am:D) (j:Nat):Bool:=plK (am.el j 0).toI ts && !tgU am j (am.el j 0).toI&&plK (am.el j 1).toI vs&&bkR ch pc vs (am.el j 2)
def rvK (ch:D) (pc vs c:Int) (am:D):Bool:=plK c ch.len&&(ch.el c.toNat 3).toI==pc && !((am.len:Int)==0)&&allB am.len (arK ch pc vs (ch.el c.toNat 4).toI am)
def skS (ch:D) (pc vs k v c t ek en ev:Int) (ed:D) (op lk ln lv:Int) (ld:D) (rk rn rv:Int) (rd bd eb am:D):Bool:=
 skF vs k v c t (xkX vs ek en ev ed) (xkN ek en ev ed.len) (xkC vs op lk ln lv ld rk rn rv rd) (op==0&&xkN lk ln lv ld.len&&xkN rk rn rv rd.len) (skD ch pc c t) (bkR ch pc vs bd) (bkR ch pc vs eb) (rvK ch pc vs c am) bd.len eb.len am.len
def skE (ch:D) (pc vs:Int) (d:D) (i:Nat):Bool:=skS ch pc vs (d.el i 0).toI (d.el i 1).toI (d.el i 2).toI (d.el i 3).toI (d.el i 4).toI (d.el i 5).toI (d.el i 6).toI (d.el i 7) (d.el i 8).toI (d.el i 9).toI (d.el i 10).toI (d.el i 11).toI (d.el i 12) (d.el i 13).toI (d.el i 14).toI (d.el i 15).toI (d.el i 16) (d.el i 17) (d.el i 18) (d.el i 19)
theorem bkR_eq (ch:D) (pc vs:Int) (d:D):bkR ch pc vs d=allB d.len (skE ch pc vs d):=by
 rw [bkR,<- allF_eq]
 congr 1
 funext i
 unfold skE skS rvK arK;rw [<- allF_eq]
def kOK (d:D):Prop:=d.len<=10000000000000/\∀ i:Fin d.len,kOK (d.el i 17)/\kOK (d.el i 18)/\(d.el i 19).len<=10000000000000/\∀ j:Fin (d.el i 19).len,kOK ((d.el i 19).el j 2)
 termination_by SizeOf.sizeOf d
 decreasing_by
  ·exact lel_lt i.isLt
  ·exact lel_lt i.isLt
  ·exact Nat.lt_trans (lel_lt j.isLt) (lel_lt i.isLt)
def amK (am:D):Prop:=am.len<=10000000000000/\∀ j,j<am.len->kOK (am.el j 2)
theorem kOK_iff (d:D):kOK d↔d.len<=10000000000000/\∀ i,i<d.len->kOK (d.el i 17)/\kOK (d.el i 18)/\amK (d.el i 19):=by
 rw [kOK];constructor
 ·rintro ⟨h,k⟩;refine ⟨h,fun i hi=>?_⟩;obtain ⟨a,b,c,e⟩:=k ⟨i,hi⟩;exact ⟨a,b,c,fun j hj=>e ⟨j,hj⟩⟩
 ·rintro ⟨h,k⟩;refine ⟨h,fun i=>?_⟩;obtain ⟨a,b,c,e⟩:=k i.1 i.2;exact ⟨a,b,c,fun j=>e j.1 j.2⟩
theorem k_ext {f:Nat->Bool} {i:Nat} (h:∀ j,j<i->f j=true) (g:f i=true):∀ j,j<i+1->f j=true:=fun j hj=>by
 rcases Nat.lt_or_ge j i with h1 |h1
 ·exact h j h1
 ·obtain rfl:j=i:=by omega
  exact g
theorem k_nx {i:Nat} (h:i<=1000000000000000):IntKind.i64.wrap ((i:Int)+1)=((i+1:Nat):Int):=by rw [IntWalk.i64_in _ (by omega)];omega
theorem k_n (i:Nat):(i:Int).toNat=i:=Int.toNat_natCast i
theorem allB_1 (f:Nat->Bool):allB 1 f=f 0:=by simp [allB]
theorem allB_2 (f:Nat->Bool):allB 2 f=(f 0&&f 1):=by simp [allB,List.range_succ]
theorem xk_1 {vs k n v:Int} {d:D} (h:k=3):((d.len:Int)==1&&(allB d.len (xkE vs d)&&(n==0&&v==0)))=xkX vs k n v d:=by
 subst h;show _=((d.len:Int)==1&&(xkE vs d 0&&(n==0&&v==0)))
 by_cases hl:d.len=1
 ·rw [hl,allB_1]
 ·have q:((d.len:Int)==1)=false:=by simpa using (by omega:¬ (d.len:Int)=1)
  rw [q];rfl
theorem xk_2 {vs k n v:Int} {d:D} (h:biB k=true):((d.len:Int)==2&&(allB d.len (xkE vs d)&&(n==0&&v==0)))=xkX vs k n v d:=by
 rw [xkX_bin h]
 by_cases hl:d.len=2
 ·rw [hl,allB_2]
 ·have q:((d.len:Int)==2)=false:=by simpa using (by omega:¬ (d.len:Int)=2)
  rw [q];rfl
noncomputable def kplS:FSpec:=fun ds _=>match ds with
 | [.i a,.i n]=>some {val:=.one (.sc (.bool (.sym (plK a n)))),vc:=[]}
 |_=>none
noncomputable def kplC:Con:=con [lI,lI] kplS
theorem kpl_ok:ConOK Tryz.prog 47 kplC:=by
 refine fn_ob tt_ok mixed Tryz.func47 rfl (fun _ _=>by kernel_rfl) (A:=fun ds=>⟨fun _=>Cons.of [],fun _=>none,fun _=>none⟩) (fun _ _=>cons_nil) (by kernel_rfl) ?_
 intro ds fr;unfold kplS;split
 ·rename_i a n;refine kmp (q:=(decide (a>=(0:Int))&&decide (a<n))=plK a n) (by kernel_rfl) ?_
  rfl
 ·trivial
noncomputable def kvrS:FSpec:=fun ds _=>match ds with
 | [.d ch,.i pc,.i vs,.i a]=>some {val:=.one (.sc (.bool (.sym (plK a vs)))),vc:=[]}
 |_=>none
noncomputable def kvrC:Con:=con [kIn,lI] kvrS
theorem kvr_ok:ConOK Tryz.prog 81 kvrC:=by
 refine fn_ob tt_ok mixed Tryz.func81 rfl (fun _ _=>by kernel_rfl) (A:=fun ds=>⟨fun _=>Cons.of [(47,kplC)],fun _=>none,fun _=>none⟩) (fun _ _=>(cons_cons kpl_ok cons_nil)) (by kernel_rfl) ?_
 intro ds fr;unfold kvrS;split
 ·rename_i ch pc vs a;refine kmp (q:=plK a vs=plK a vs) (by kernel_rfl) ?_
  exact rfl
 ·trivial
noncomputable def kenS:FSpec:=fun ds _=>match ds with
 | [.i k,.i n,.i v,.d d]=>some {val:=.one (.sc (.bool (.sym (xkN k n v d.len)))),vc:=[]}
 |_=>none
noncomputable def kenC:Con:=con [kX] kenS
theorem ken_ok:ConOK Tryz.prog 130 kenC:=by
 refine fn_ob tt_ok mixed Tryz.func130 rfl (fun _ _=>by kernel_rfl) (A:=fun ds=>⟨fun _=>Cons.of [],fun _=>none,fun _=>none⟩) (fun _ _=>cons_nil) (by kernel_rfl) ?_
 intro ds fr;unfold kenS;split
 ·rename_i k n v d;refine kmp (q:=(k==(0:Int)&&n==(0:Int)&&v==(0:Int)&&(d.len:Int)==(0:Int))=xkN k n v (d.len:Int)) (by kernel_rfl) ?_
  rfl
 ·trivial
noncomputable def ksnS:FSpec:=fun ds _=>match ds with
 | [.i k,.i v,.i c,.i t,.i ek,.i en,.i ev,.d ed,.i op,.i lk,.i ln,.i lv,.d ld,.i rk,.i rn,.i rv,.d rd,.d bd,.d eb,.d am]=>some {val:=.one (.sc (.bool (.sym (nkS k v c t ek en ev ed.len op lk ln lv ld.len rk rn rv rd.len bd.len eb.len am.len)))),vc:=[]}
 |_=>none
noncomputable def ksnC:Con:=con [kSt] ksnS
set_option maxRecDepth 100000 in
theorem ksn_ok:ConOK Tryz.prog 83 ksnC:=by
 refine fn_ob tt_ok mixed Tryz.func83 rfl (fun _ _=>by kernel_rfl) (A:=fun ds=>⟨fun _=>Cons.of [(130,kenC)],fun _=>none,fun _=>none⟩) (fun _ _=>(cons_cons ken_ok cons_nil)) (by kernel_rfl) ?_
 intro ds fr;unfold ksnS;split
 ·rename_i k v c t ek en ev ed op lk ln lv ld rk rn rv rd bd eb am;refine kmp (q:=(k==(0:Int)&&v==(0:Int)&&c==(0:Int)&&t==(0:Int)&&xkN ek en ev (ed.len:Int)&&op==(0:Int)&&xkN lk ln lv (ld.len:Int)&&xkN rk rn rv (rd.len:Int)&&(bd.len:Int)==(0:Int)&&(eb.len:Int)==(0:Int)&&(am.len:Int)==(0:Int))=nkS k v c t ek en ev (ed.len:Int) op lk ln lv (ld.len:Int) rk rn rv (rd.len:Int) (bd.len:Int) (eb.len:Int) (am.len:Int)) (by kernel_rfl) ?_
  rfl
 ·trivial
noncomputable def kxrS:FSpec:=fun ds _=>match ds with
 | [.d ch,.i pc,.i vs,.i k,.i n,.i v,.d d]=>some {val:=.one (.sc (.bool (.sym (xkX vs k n v d)))),vc:=[]}
 |_=>none
noncomputable def kxrC:Con:=con [kIn,kX] kxrS
noncomputable def kxrM:List Dat->Nat:=fun ds=>match ds with
 | [.d ch,.i pc,.i vs,.i k,.i n,.i v,.d d]=>SizeOf.sizeOf d
 |_=>0
noncomputable def kxrSu (m:Nat):FSpec:=fun ds _=>match ds with
 | [.d ch,.i pc,.i vs,.i k,.i n,.i v,.d d]=>some {val:=.one (.sc (.bool (.sym (xkX vs k n v d)))),vc:=[SizeOf.sizeOf d<m]}
 |_=>none
theorem kxr_under (m:Nat):kxrS.under kxrM m=kxrSu m:=by
 funext ds fr
 unfold FSpec.under kxrS kxrM kxrSu;split
 ·rename_i e h
  split at h
  ·obtain rfl:=Option.some.inj h;rfl
  ·cases h
 ·rename_i h
  split at h
  ·cases h
  ·rfl
noncomputable def kkrS (m:Nat):FSpec:=fun ds _=>match ds with
 | [.d ch,.i pc,.i vs,.i k,.i n,.i v,.d d]=>some {val:=.one (.sc (.bool (.sym (allB d.len (xkE vs d)&&(n==0&&v==0))))),vc:=[SizeOf.sizeOf d<=m,d.len<=10000000000000]}
 |_=>none
noncomputable def kkrC (m:Nat):Con:=con [kIn,kX] (kkrS m)
theorem kkr_ok {m:Nat} (ih:ConOK Tryz.prog 82 (con [kIn,kX] (kxrSu m))):ConOK Tryz.prog 129 (kkrC m):=by
 refine fn_ob tt_ok mixed Tryz.func129 rfl (fun _ _=>by kernel_rfl) (A:=fun ds=>⟨fun _=>Cons.of [(82,con [kIn,kX] (kxrSu m))],fun k=>match k,ds with | 2,[.d ch,.i pc,.i vs,.i k,.i n,.i v,.d d]=>some {ι:=Nat,pre:=fun _ i=>i<=d.len/\∀ j,j<i->xkE vs d j=true,μ:=fun i=>d.len-i,st:=fun s i=>famR s [(10,.one (.sc (.int .i64 (.sym ((i:Int))))))] [2,3,8,9] [] [2,3]} |_,_=>none,fun _=>none⟩) (fun _ _=>(cons_cons ih cons_nil)) (by kernel_rfl) ?_
 intro ds fr;unfold kkrS;split
 ·rename_i ch pc vs k n v d;refine kmp (q:=SizeOf.sizeOf d<=m->d.len<=10000000000000->(∃ (i:Nat),(i<=d.len/\∀ (j:Nat),j<i->xkE vs d j=true)/\(0:Int)=(i:Int)/\d.rows=d.rows/\(d.len:Int)=(d.len:Int)/\ch.rows=ch.rows/\pc=pc/\vs=vs/\k=k/\n=n/\v=v/\d.rows=d.rows)/\∀ (i:Nat),(i<=d.len/\∀ (j:Nat),j<i->xkE vs d j=true)->(decide ((i:Int)<(d.len:Int))=true->((0:Int)<=(i:Int)/\(i:Int)<(d.len:Int))/\SizeOf.sizeOf (d.el (i:Int).toNat 3)<m/\((!xkX vs (d.el (i:Int).toNat 0).toI (d.el (i:Int).toNat 1).toI (d.el (i:Int).toNat 2).toI (d.el (i:Int).toNat 3))=true->false=(allB d.len (xkE vs d)&&(n==(0:Int)&&v==(0:Int))))/\((!xkX vs (d.el (i:Int).toNat 0).toI (d.el (i:Int).toNat 1).toI (d.el (i:Int).toNat 2).toI (d.el (i:Int).toNat 3))=false->∃ (j:Nat),(j<=d.len/\∀ (j_1:Nat),j_1<j->xkE vs d j_1=true)/\d.len-j<d.len-i/\IntKind.i64.wrap ((i:Int)+(1:Int))=(j:Int)/\d.rows=d.rows/\(d.len:Int)=(d.len:Int)/\ch.rows=ch.rows/\pc=pc/\vs=vs/\k=k/\n=n/\v=v/\d.rows=d.rows))/\(decide ((i:Int)<(d.len:Int))=false->(n==(0:Int)&&v==(0:Int))=(allB d.len (xkE vs d)&&(n==(0:Int)&&v==(0:Int))))) (by kernel_rfl) ?_
  intro hm hl;simp only [Nat.reduceAdd,Nat.zero_add,k_n];refine ⟨⟨0,⟨Nat.zero_le _,fun j hj=>absurd hj (Nat.not_lt_zero j)⟩,rfl,(by (repeat' (with_reducible apply And.intro))<;>first |exact True.intro |rfl)⟩,fun i hp=>⟨fun hc=>?_,fun hc=>?_⟩⟩
  ·have hc:=of_decide_eq_true hc;have hi:i<d.len:=by omega
   have z:=lel_lt (j:=3) hi;rw [<- xkE_eq hi];refine ⟨⟨by omega,by omega⟩,by omega,fun hq=>?_,fun hq=>?_⟩
   ·rw [allB_no hi (by simpa using hq)];rfl
   ·exact ⟨i+1,⟨hi,k_ext hp.2 (by simpa using hq)⟩,by omega,k_nx (by omega),(by (repeat' (with_reducible apply And.intro))<;>first |exact True.intro |rfl)⟩
  ·have hc:=of_decide_eq_false hc;rw [allB_yes fun j hj=>hp.2 j (by omega)];rfl
 ·trivial
theorem kxr_step (m:Nat) (ih:ConOK Tryz.prog 82 (con [kIn,kX] (kxrSu m))):ConOK Tryz.prog 82 (con [kIn,kX] (kxrSu (m+1))):=by
 refine fn_ob tt_ok mixed Tryz.func82 rfl (fun _ _=>by kernel_rfl) (A:=fun ds=>⟨fun _=>Cons.of [(81,kvrC),(129,(kkrC m))],fun _=>none,fun _=>none⟩) (fun _ _=>(cons_cons kvr_ok (cons_cons (kkr_ok ih) cons_nil))) (by kernel_rfl) ?_
 intro ds fr;unfold kxrSu;split
 ·rename_i ch pc vs k n v d;refine kmp (q:=SizeOf.sizeOf d<m+(1:Nat)->((k==(1:Int))=true->(decide (n>=(0:Int))&&decide (n<=(2147483647:Int))&&v==(0:Int)&&(d.len:Int)==(0:Int))=xkX vs k n v d)/\((k==(1:Int))=false->((k==(2:Int))=true->(plK v vs&&n==(0:Int)&&(d.len:Int)==(0:Int))=xkX vs k n v d)/\((k==(2:Int))=false->((k==(3:Int))=true->(((d.len:Int)==(1:Int))=true/\True->SizeOf.sizeOf d<=m)/\(((d.len:Int)==(1:Int))=true/\True->d.len<=10000000000000)/\((d.len:Int)==(1:Int)&&(allB d.len (xkE vs d)&&(n==(0:Int)&&v==(0:Int))))=xkX vs k n v d)/\((k==(3:Int))=false->((k==(4:Int))=true->((k==(4:Int))=true->(((d.len:Int)==(2:Int))=true/\True->SizeOf.sizeOf d<=m)/\(((d.len:Int)==(2:Int))=true/\True->d.len<=10000000000000)/\((d.len:Int)==(2:Int)&&(allB d.len (xkE vs d)&&(n==(0:Int)&&v==(0:Int))))=xkX vs k n v d)/\((k==(4:Int))=false->false=xkX vs k n v d))/\((k==(4:Int))=false->((k==(5:Int))=true->((k==(5:Int))=true->(((d.len:Int)==(2:Int))=true/\True->SizeOf.sizeOf d<=m)/\(((d.len:Int)==(2:Int))=true/\True->d.len<=10000000000000)/\((d.len:Int)==(2:Int)&&(allB d.len (xkE vs d)&&(n==(0:Int)&&v==(0:Int))))=xkX vs k n v d)/\((k==(5:Int))=false->false=xkX vs k n v d))/\((k==(5:Int))=false->((k==(6:Int))=true->((k==(6:Int))=true->(((d.len:Int)==(2:Int))=true/\True->SizeOf.sizeOf d<=m)/\(((d.len:Int)==(2:Int))=true/\True->d.len<=10000000000000)/\((d.len:Int)==(2:Int)&&(allB d.len (xkE vs d)&&(n==(0:Int)&&v==(0:Int))))=xkX vs k n v d)/\((k==(6:Int))=false->false=xkX vs k n v d))/\((k==(6:Int))=false->((k==(7:Int))=true->((k==(7:Int))=true->(((d.len:Int)==(2:Int))=true/\True->SizeOf.sizeOf d<=m)/\(((d.len:Int)==(2:Int))=true/\True->d.len<=10000000000000)/\((d.len:Int)==(2:Int)&&(allB d.len (xkE vs d)&&(n==(0:Int)&&v==(0:Int))))=xkX vs k n v d)/\((k==(7:Int))=false->false=xkX vs k n v d))/\((k==(7:Int))=false->((k==(8:Int))=true->(((d.len:Int)==(2:Int))=true/\True->SizeOf.sizeOf d<=m)/\(((d.len:Int)==(2:Int))=true/\True->d.len<=10000000000000)/\((d.len:Int)==(2:Int)&&(allB d.len (xkE vs d)&&(n==(0:Int)&&v==(0:Int))))=xkX vs k n v d)/\((k==(8:Int))=false->false=xkX vs k n v d))))))))) (by kernel_rfl) ?_
  intro hm;have ob:((d.len:Int)==2)=true/\True->d.len<=10000000000000:=fun h=>by have:=h.1;simp only [beq_iff_eq] at this;omega
  have oa:((d.len:Int)==1)=true/\True->d.len<=10000000000000:=fun h=>by have:=h.1;simp only [beq_iff_eq] at this;omega
  have om:SizeOf.sizeOf d<=m:=by omega
  have b4:∀ {k:Int} (j:Int),4<=j->j<=8->(k==j)=true->biB k=true:=fun j h1 h2 h=>by
   rw [eq_of_beq h];unfold biB;rw [decide_eq_true h1,decide_eq_true h2];rfl
  refine ⟨fun h=>?_,fun h1=>⟨fun h=>?_,fun h2=>⟨fun h=>⟨fun _=>om,oa,xk_1 (eq_of_beq h)⟩,fun h3=>?_⟩⟩⟩
  ·obtain rfl:=eq_of_beq h;rfl
  ·obtain rfl:=eq_of_beq h;rfl
  refine ⟨fun h=>⟨fun _=>⟨fun _=>om,ob,xk_2 (b4 4 (by decide) (by decide) h)⟩,fun q=>by rw [h] at q;cases q⟩,fun h4=>?_⟩;refine ⟨fun h=>⟨fun _=>⟨fun _=>om,ob,xk_2 (b4 5 (by decide) (by decide) h)⟩,fun q=>by rw [h] at q;cases q⟩,fun h5=>?_⟩;refine ⟨fun h=>⟨fun _=>⟨fun _=>om,ob,xk_2 (b4 6 (by decide) (by decide) h)⟩,fun q=>by rw [h] at q;cases q⟩,fun h6=>?_⟩;refine ⟨fun h=>⟨fun _=>⟨fun _=>om,ob,xk_2 (b4 7 (by decide) (by decide) h)⟩,fun q=>by rw [h] at q;cases q⟩,fun h7=>?_⟩;refine ⟨fun h=>⟨fun _=>om,ob,xk_2 (b4 8 (by decide) (by decide) h)⟩,fun h8=>?_⟩;refine (xkX_no (ne_of_beq_false h1) (ne_of_beq_false h2) (ne_of_beq_false h3) ?_).symm;have n4:=ne_of_beq_false h4;have n5:=ne_of_beq_false h5;have n6:=ne_of_beq_false h6;have n7:=ne_of_beq_false h7;have n8:=ne_of_beq_false h8;unfold biB;simp only [Bool.and_eq_false_iff,decide_eq_false_iff_not];omega
 ·trivial
theorem kxr_ok:ConOK Tryz.prog 82 kxrC:=
 con_rec kxrM (fun _ _=>by kernel_rfl) fun m ih=>by
  rw [kxr_under] at ih ⊢;exact kxr_step m ih
noncomputable def kcrS:FSpec:=fun ds _=>match ds with
 | [.d ch,.i pc,.i vs,.i op,.i lk,.i ln,.i lv,.d ld,.i rk,.i rn,.i rv,.d rd]=>some {val:=.one (.sc (.bool (.sym (xkC vs op lk ln lv ld rk rn rv rd)))),vc:=[]}
 |_=>none
noncomputable def kcrC:Con:=con [kIn,kCo] kcrS
theorem kcr_ok:ConOK Tryz.prog 84 kcrC:=by
 refine fn_ob tt_ok mixed Tryz.func84 rfl (fun _ _=>by kernel_rfl) (A:=fun ds=>⟨fun _=>Cons.of [(82,kxrC)],fun _=>none,fun _=>none⟩) (fun _ _=>(cons_cons kxr_ok cons_nil)) (by kernel_rfl) ?_
 intro ds fr;unfold kcrS;split
 ·rename_i ch pc vs op lk ln lv ld rk rn rv rd;refine kmp (q:=(decide (op>=(1:Int))&&decide (op<=(6:Int))&&xkX vs lk ln lv ld&&xkX vs rk rn rv rd)=xkC vs op lk ln lv ld rk rn rv rd) (by kernel_rfl) ?_
  exact rfl
 ·trivial
def ixF (q:Nat->Bool) (n:Nat):Int:=match (List.range n).find? q with |some i=>(i:Int) |none=>-1
theorem ixF_hit {q:Nat->Bool} {n i:Nat} (hi:i<n) (hq:q i=true) (hb:∀ j,j<i->q j=false):ixF q n=(i:Int):=by
 have:(List.range n).find? q=some i:=by
  rw [List.find?_range_eq_some];exact ⟨hq,by simpa using hi,fun j hj=>by simpa using hb j hj⟩
 unfold ixF;rw [this]
theorem ixF_no {q:Nat->Bool} {n:Nat} (h:∀ j,j<n->q j=false):ixF q n = -1:=by
 have:(List.range n).find? q=none:=by
  rw [List.find?_eq_none];intro j hj
  simpa using h j (List.mem_range.1 hj)
 unfold ixF;rw [this]
theorem ixF_or (q:Nat->Bool) (n:Nat):(∃ i,i<n/\q i=true/\(∀ j,j<i->q j=false)/\ixF q n=(i:Int)) ∨ ((∀ j,j<n->q j=false)/\ixF q n = -1):=by
 unfold ixF
 cases hf:(List.range n).find? q with
 |none=>
  rw [List.find?_eq_none] at hf;exact .inr ⟨fun j hj=>by simpa using hf j (List.mem_range.2 hj),rfl⟩
 |some i=>
  rw [List.find?_range_eq_some] at hf;exact .inl ⟨i,by simpa using hf.2.1,hf.1,fun j hj=>by simpa using hf.2.2 j hj,rfl⟩
theorem ixF_any (q:Nat->Bool) (n:Nat):decide (ixF q n>=0)=(List.range n).any q:=by
 rcases ixF_or q n with ⟨i,h1,h2,_,h3⟩ |⟨h1,h2⟩
 ·rw [h3,decide_eq_true (by omega)];exact (List.any_eq_true.2 ⟨i,List.mem_range.2 h1,h2⟩).symm
 ·rw [h2,show decide ((-1:Int)>=0)=false from rfl]
  symm
  rw [List.any_eq_false];intro j hj;rw [h1 j (List.mem_range.1 hj)]
  decide
def cAr (d:D) (i:Nat):List D:=[D.i (d.el i 0).toI,D.i (d.el i 1).toI,d.el i 2]
def arA:AP:=.agg [.c (.int .i64),.c (.int .i64),.c (.rows 166)]
def tgQ (t:Int) (l:List D):Bool:=(l.getD 0 (.i 0)).toI==t
def okK0:List D->Prop:=fun _=>True
noncomputable def ixrS:FSpec:=fun ds _=>match ds with
 | [.d d,.q p ok]=>some {val:=.one (.sc (.int .i64 (.sym (ixF (fun i=>p (cAr d i)) d.len)))),vc:=[d.len<=10000000000000,∀ i,i<d.len->ok (cAr d i)]}
 |_=>none
noncomputable def ixrC:Con:=con [.sc (.rows 170),.sc (.fn true 170)] ixrS
theorem ixr_ok:ConOK Tryz.prog 172 ixrC:=by
 refine fn_ob tt_ok mixed Tryz.func172 rfl (fun _ _=>by kernel_rfl) (A:=fun ds=>⟨fun _=>Cons.of [],fun k=>match k,ds with | 2,[.d d,.q p ok]=>some {ι:=Nat,pre:=fun _ i=>i<=d.len/\∀ j,j<i->p (cAr d j)=false,μ:=fun i=>d.len-i,st:=fun s i=>famR s [(8,.one (.sc (.int .i64 (.sym ((i:Int))))))] [0,1,7] [] []} |_,_=>none,fun _=>none⟩) (fun _ _=>cons_nil) (by kernel_rfl) ?_
 intro ds fr;unfold ixrS;split
 ·rename_i d p ok;refine kmp (q:=d.len<=10000000000000->(∀ (i:Nat),i<d.len->ok (cAr d i))->(∃ (i:Nat),(i<=d.len/\∀ (j:Nat),j<i->p (cAr d j)=false)/\(0:Int)=(i:Int)/\d.rows=d.rows/\p=p/\ok=ok/\(d.len:Int)=(d.len:Int))/\∀ (i:Nat),(i<=d.len/\∀ (j:Nat),j<i->p (cAr d j)=false)->(decide ((i:Int)<(d.len:Int))=true->((0:Int)<=(i:Int)/\(i:Int)<(d.len:Int))/\ok [D.i (d.el (i:Int).toNat 0).toI,D.i (d.el (i:Int).toNat 1).toI,d.el (i:Int).toNat 2]/\(p [D.i (d.el (i:Int).toNat 0).toI,D.i (d.el (i:Int).toNat 1).toI,d.el (i:Int).toNat 2]=true->(i:Int)=ixF (fun (i:Nat)=>p (cAr d i)) d.len)/\(p [D.i (d.el (i:Int).toNat 0).toI,D.i (d.el (i:Int).toNat 1).toI,d.el (i:Int).toNat 2]=false->∃ (j:Nat),(j<=d.len/\∀ (j_1:Nat),j_1<j->p (cAr d j_1)=false)/\d.len-j<d.len-i/\IntKind.i64.wrap ((i:Int)+(1:Int))=(j:Int)/\d.rows=d.rows/\p=p/\ok=ok/\(d.len:Int)=(d.len:Int)))/\(decide ((i:Int)<(d.len:Int))=false->(-1:Int)=ixF (fun (i:Nat)=>p (cAr d i)) d.len)) (by kernel_rfl) ?_
  intro hc ho;have e0:∀ (i:Nat),((i:Int)).toNat=i:=fun i=>Int.toNat_natCast i
  refine ⟨⟨0,⟨Nat.zero_le _,fun j hj=>absurd hj (Nat.not_lt_zero j)⟩,rfl,rfl,rfl,rfl,rfl⟩,fun i hp=>⟨fun hl=>?_,fun hl=>?_⟩⟩
  ·have hi:i<d.len:=by have:=of_decide_eq_true hl;omega
   refine ⟨⟨by omega,by omega⟩,by simp only [e0];exact ho i hi,fun hq=>?_,fun hq=>?_⟩
   ·simp only [e0] at hq;exact (ixF_hit hi hq hp.2).symm
   ·simp only [e0] at hq;have hw:IntKind.i64.wrap ((i:Int)+1)=((i+1:Nat):Int):=by rw [IntWalk.i64_in _ (by omega)];omega
    refine ⟨i+1,⟨by omega,fun j hj=>?_⟩,by omega,hw,rfl,rfl,rfl,rfl⟩
    rcases Nat.lt_or_ge j i with h |h
    ·exact hp.2 j h
    ·obtain rfl:j=i:=by omega
     exact hq
  ·have hi:¬ i<d.len:=by have:=of_decide_eq_false hl;omega
   exact (ixF_no fun j hj=>hp.2 j (by omega)).symm
 ·trivial
noncomputable def cfrS:FSpec:=fun ds _=>match ds with
 | [.d d,.q p ok]=>some {val:=.one (.sc (.bool (.sym ((List.range d.len).any fun i=>p (cAr d i))))),vc:=[d.len<=10000000000000,∀ i,i<d.len->ok (cAr d i)]}
 |_=>none
noncomputable def cfrC:Con:=con [.sc (.rows 170),.sc (.fn true 170)] cfrS
theorem cfr_ok:ConOK Tryz.prog 156 cfrC:=by
 refine fn_ob tt_ok mixed Tryz.func156 rfl (fun _ _=>by kernel_rfl) (A:=fun ds=>⟨fun _=>Cons.of [(172,ixrC)],fun _=>none,fun _=>none⟩) (fun _ _=>(cons_cons ixr_ok cons_nil)) (by kernel_rfl) ?_
 intro ds fr;unfold cfrS;split
 ·rename_i d p ok;refine kmp (q:=d.len<=10000000000000->(∀ (i:Nat),i<d.len->ok (cAr d i))->d.len<=10000000000000/\(∀ (i:Nat),i<d.len->ok (cAr d i))/\decide (ixF (fun (i:Nat)=>p (cAr d i)) d.len>=(0:Int))=(List.range d.len).any fun (i:Nat)=>p (cAr d i)) (by kernel_rfl) ?_
  intro hc ho;exact ⟨hc,ho,(ixF_any _ _)⟩
 ·trivial
noncomputable def tu1S:FSpec:=fun ds _=>match ds with
 | [.i g,.i w,.d b,.i t]=>some {val:=.one (.sc (.bool (.sym (g==t)))),vc:=[]}
 |_=>none
noncomputable def tu1C:Con:=con [arA,.sc (.pt (.int .i64))] tu1S
theorem tu1_ok:ConOK Tryz.prog 157 tu1C:=by
 refine fn_ob tt_ok mixed Tryz.func157 rfl (fun _ _=>by kernel_rfl) (A:=fun ds=>⟨fun _=>Cons.of [],fun _=>none,fun _=>none⟩) (fun _ _=>cons_nil) (by kernel_rfl) ?_
 intro ds fr;unfold tu1S;split
 ·rename_i g w b t;refine kmp (q:=(g==t)=(g==t)) (by kernel_rfl) ?_
  rfl
 ·trivial
def tu1F:FC:=⟨.int .i64,true,170,fun d=>match d with | .i a=>some (tgQ a,okK0) |_=>none⟩
noncomputable def tu1K:Con:=conF tu1F tu1C
theorem tu1K_ok:ConOK Tryz.prog 157 tu1K:=
 conF_ok tu1_ok (fc_ok (ks:=eks 170) rfl rfl (fun h=>by cases h) tu1_ok rfl fun d q h l _=>by
  cases d with
  |i a=>
   obtain rfl:=Option.some.inj h;exact ⟨_,rfl,trivial⟩
  |_=>cases h)
noncomputable def ktuS:FSpec:=fun ds _=>match ds with
 | [.d d,.i t]=>some {val:=.one (.sc (.bool (.sym (tgU d d.len t)))),vc:=[d.len<=10000000000000]}
 |_=>none
noncomputable def ktuC:Con:=con [.sc (.rows 170),lI] ktuS
theorem ktu_ok:ConOK Tryz.prog 131 ktuC:=by
 refine fn_ob tt_ok mixed Tryz.func131 rfl (fun _ _=>by kernel_rfl) (A:=fun ds=>⟨fun _=>Cons.of [(157,tu1K),(156,cfrC)],fun _=>none,fun _=>none⟩) (fun _ _=>(cons_cons tu1K_ok (cons_cons cfr_ok cons_nil))) (by kernel_rfl) ?_
 intro ds fr;unfold ktuS;split
 ·rename_i d t;refine kmp (q:=d.len<=10000000000000->d.len<=10000000000000/\(∀ (i:Nat),i<d.len->okK0 (cAr d i))/\((List.range d.len).any fun (i:Nat)=>tgQ t (cAr d i))=tgU d d.len t) (by kernel_rfl) ?_
  intro h;exact ⟨h,fun _ _=>trivial,rfl⟩
 ·trivial
theorem tgU_sub {am:D} {n:Nat} (h:n<=am.len) (t:Int):tgU (am.sub 0 n) (am.sub 0 n).len t=tgU am n t:=by
 rw [D.sub_len am h,Nat.sub_zero];unfold tgU;rw [Bool.eq_iff_iff,List.any_eq_true,List.any_eq_true];constructor
 ·rintro ⟨j,h1,h2⟩;refine ⟨j,h1,?_⟩;have hj:=List.mem_range.1 h1;rw [D.sub_el am (by omega),Nat.zero_add] at h2;exact h2
 ·rintro ⟨j,h1,h2⟩;refine ⟨j,h1,?_⟩;have hj:=List.mem_range.1 h1;rw [D.sub_el am (by omega),Nat.zero_add];exact h2
def eqS (a b:ByteArray):Bool:=a.toList==b.toList
def ixN (d:D) (s:ByteArray):Int:=ixF (fun j=>eqS s (d.el j 0).toS) d.len
def twK (d:D):Bool:=(List.range d.len).any fun i=>(List.range i).any fun j=>eqS (d.el i 0).toS (d.el j 0).toS
def twI (d:D) (i:Nat):Bool:=(List.range i).any fun j=>eqS (d.el i 0).toS (d.el j 0).toS
theorem any_no {n:Nat} {f:Nat->Bool} (h:∀ j,j<n->f j=false):(List.range n).any f=false:=by
 rw [List.any_eq_false];intro j hj;rw [h j (List.mem_range.1 hj)]
 decide
theorem any_yes {n i:Nat} {f:Nat->Bool} (hi:i<n) (h:f i=true):(List.range n).any f=true:=List.any_eq_true.2 ⟨i,List.mem_range.2 hi,h⟩
theorem any_sub {d:D} {n:Nat} (h:n<=d.len) (f:D->Bool):((List.range (d.sub 0 n).len).any fun j=>f ((d.sub 0 n).el j 0))=(List.range n).any fun j=>f (d.el j 0):=by
 rw [D.sub_len d h,Nat.sub_zero,Bool.eq_iff_iff,List.any_eq_true,List.any_eq_true];constructor
 ·rintro ⟨j,h1,h2⟩;have hj:=List.mem_range.1 h1;rw [D.sub_el d (by omega),Nat.zero_add] at h2;exact ⟨j,h1,h2⟩
 ·rintro ⟨j,h1,h2⟩;have hj:=List.mem_range.1 h1;refine ⟨j,h1,?_⟩;rw [D.sub_el d (by omega),Nat.zero_add];exact h2
def ixC (d:D) (s:ByteArray):Int:=ixF (fun j=>eqS (d.el j 0).toS s) d.len
def cChn (d:D) (i:Nat):List D:=[D.s (d.el i 0).toS,D.i (d.el i 1).toI,D.i (d.el i 2).toI,D.s (d.el i 3).toS,D.s (d.el i 4).toS,d.el i 5]
def cPrn (d:D) (i:Nat):List D:=[D.s (d.el i 0).toS,d.el i 1,d.el i 2]
def nmQ (s:ByteArray) (l:List D):Bool:=eqS (l.getD 0 (.i 0)).toS s
noncomputable def ixsS:FSpec:=fun ds _=>match ds with
 | [.d d,.s s]=>some {val:=.one (.sc (.int .i64 (.sym (ixN d s)))),vc:=[d.len<=10000000000000]}
 |_=>none
noncomputable def ixsC:Con:=con [.sc (.rows 9),.sc .str] ixsS
theorem ixs_ok:ConOK Tryz.prog 105 ixsC:=by
 refine fn_ob tt_ok mixed Tryz.func105 rfl (fun _ _=>by kernel_rfl) (A:=fun ds=>⟨fun _=>Cons.of [],fun k=>match k,ds with | 2,[.d d,.s s]=>some {ι:=Nat,pre:=fun _ i=>i<=d.len/\∀ j,j<i->eqS s (d.el j 0).toS=false,μ:=fun i=>d.len+1-i,st:=fun s i=>famR s [(8,.one (.sc (.int .i64 (.sym ((i:Nat))))))] [0,1,6,7] [] []} |_,_=>none,fun _=>none⟩) (fun _ _=>cons_nil) (by kernel_rfl) ?_
 intro ds fr;unfold ixsS;split
 ·rename_i d s;refine kmp (q:=d.len<=10000000000000->(∃ (i:Nat),(i<=d.len/\∀ (j:Nat),j<i->eqS s (d.el j 0).toS=false)/\(0:Int)=(i:Int)/\d.rows=d.rows/\Value.string s=Value.string s/\d.rows=d.rows/\(d.len:Int)=(d.len:Int))/\∀ (i:Nat),(i<=d.len/\∀ (j:Nat),j<i->eqS s (d.el j 0).toS=false)->(decide ((i:Int)<(d.len:Int))=true->((0:Int)<=(i:Int)/\(i:Int)<(d.len:Int))/\((s.toList==(d.el (i:Int).toNat 0).toS.toList)=true->(i:Int)=ixN d s)/\((s.toList==(d.el (i:Int).toNat 0).toS.toList)=false->∃ (j:Nat),(j<=d.len/\∀ (j_1:Nat),j_1<j->eqS s (d.el j_1 0).toS=false)/\d.len+(1:Nat)-j<d.len+(1:Nat)-i/\IntKind.i64.wrap ((i:Int)+(1:Int))=(j:Int)/\d.rows=d.rows/\Value.string s=Value.string s/\d.rows=d.rows/\(d.len:Int)=(d.len:Int)))/\(decide ((i:Int)<(d.len:Int))=false->(-1:Int)=ixN d s)) (by kernel_rfl) ?_
  intro hl;simp only [Nat.reduceAdd,Nat.zero_add,k_n];refine ⟨⟨0,⟨Nat.zero_le _,fun j hj=>absurd hj (Nat.not_lt_zero j)⟩,rfl,(by (repeat' (with_reducible apply And.intro))<;>first |exact True.intro |rfl)⟩,fun i hp=>⟨fun hc=>?_,fun hc=>?_⟩⟩
  ·have hc:=of_decide_eq_true hc;have hi:i<d.len:=by omega
   refine ⟨⟨by omega,by omega⟩,fun hq=>(ixF_hit hi hq hp.2).symm,fun hq=>⟨i+1,⟨hi,fun j hj=>?_⟩,by omega,k_nx (by omega),(by (repeat' (with_reducible apply And.intro))<;>first |exact True.intro |rfl)⟩⟩
   rcases Nat.lt_or_ge j i with h |h
   ·exact hp.2 j h
   ·obtain rfl:j=i:=by omega
    exact hq
  ·have hc:=of_decide_eq_false hc;exact (ixF_no fun j hj=>hp.2 j (by omega)).symm
 ·trivial
noncomputable def cnsS:FSpec:=fun ds _=>match ds with
 | [.d d,.s s]=>some {val:=.one (.sc (.bool (.sym ((List.range d.len).any fun j=>eqS s (d.el j 0).toS)))),vc:=[d.len<=10000000000000]}
 |_=>none
noncomputable def cnsC:Con:=con [.sc (.rows 9),.sc .str] cnsS
theorem cns_ok:ConOK Tryz.prog 106 cnsC:=by
 refine fn_ob tt_ok mixed Tryz.func106 rfl (fun _ _=>by kernel_rfl) (A:=fun ds=>⟨fun _=>Cons.of [(105,ixsC)],fun _=>none,fun _=>none⟩) (fun _ _=>(cons_cons ixs_ok cons_nil)) (by kernel_rfl) ?_
 intro ds fr;unfold cnsS;split
 ·rename_i d s;refine kmp (q:=d.len<=10000000000000->d.len<=10000000000000/\decide (ixN d s>=(0:Int))=(List.range d.len).any fun (j:Nat)=>eqS s (d.el j 0).toS) (by kernel_rfl) ?_
  intro hl;exact ⟨hl,ixF_any _ _⟩
 ·trivial
noncomputable def atwS:FSpec:=fun ds _=>match ds with
 | [.d d]=>some {val:=.one (.sc (.bool (.sym (twK d)))),vc:=[d.len<=10000000000000]}
 |_=>none
noncomputable def atwC:Con:=con [.sc (.rows 9)] atwS
theorem atw_ok:ConOK Tryz.prog 60 atwC:=by
 refine fn_ob tt_ok mixed Tryz.func60 rfl (fun _ _=>by kernel_rfl) (A:=fun ds=>⟨fun _=>Cons.of [(106,cnsC)],fun k=>match k,ds with | 2,[.d d]=>some {ι:=Nat,pre:=fun _ i=>i<=d.len/\∀ j,j<i->twI d j=false,μ:=fun i=>d.len+1-i,st:=fun s i=>famR s [(7,.one (.sc (.int .i64 (.sym ((i:Nat))))))] [0,5,6] [] []} |_,_=>none,fun _=>none⟩) (fun _ _=>(cons_cons cns_ok cons_nil)) (by kernel_rfl) ?_
 intro ds fr;unfold atwS;split
 ·rename_i d;refine kmp (q:=d.len<=10000000000000->(∃ (i:Nat),(i<=d.len/\∀ (j:Nat),j<i->twI d j=false)/\(0:Int)=(i:Int)/\d.rows=d.rows/\d.rows=d.rows/\(d.len:Int)=(d.len:Int))/\∀ (i:Nat),(i<=d.len/\∀ (j:Nat),j<i->twI d j=false)->(decide ((i:Int)<(d.len:Int))=true->((0:Int)<=(i:Int)/\(i:Int)<(d.len:Int))/\((0:Int)<=(i:Int)/\(i:Int)<=(d.len:Int))/\(d.sub (0:Nat) (i:Int).toNat).len<=10000000000000/\(((List.range (d.sub (0:Nat) (i:Int).toNat).len).any fun (j:Nat)=>eqS (d.el (i:Int).toNat 0).toS ((d.sub (0:Nat) (i:Int).toNat).el j 0).toS)=true->true=twK d)/\(((List.range (d.sub (0:Nat) (i:Int).toNat).len).any fun (j:Nat)=>eqS (d.el (i:Int).toNat 0).toS ((d.sub (0:Nat) (i:Int).toNat).el j 0).toS)=false->∃ (j:Nat),(j<=d.len/\∀ (j_1:Nat),j_1<j->twI d j_1=false)/\d.len+(1:Nat)-j<d.len+(1:Nat)-i/\IntKind.i64.wrap ((i:Int)+(1:Int))=(j:Int)/\d.rows=d.rows/\d.rows=d.rows/\(d.len:Int)=(d.len:Int)))/\(decide ((i:Int)<(d.len:Int))=false->false=twK d)) (by kernel_rfl) ?_
  intro hl;simp only [Nat.reduceAdd,Nat.zero_add,k_n];refine ⟨⟨0,⟨Nat.zero_le _,fun j hj=>absurd hj (Nat.not_lt_zero j)⟩,rfl,(by (repeat' (with_reducible apply And.intro))<;>first |exact True.intro |rfl)⟩,fun i hp=>⟨fun hc=>?_,fun hc=>?_⟩⟩
  ·have hc:=of_decide_eq_true hc;have hi:i<d.len:=by omega
   have e:=any_sub (d:=d) (n:=i) (by omega) (fun x=>eqS (d.el i 0).toS x.toS);have l:=D.sub_len d (l:=0) (h:=i) (by omega);rw [e,l];refine ⟨⟨by omega,by omega⟩,⟨by omega,by omega⟩,by omega,fun hq=>?_,fun hq=>⟨i+1,⟨hi,fun j hj=>?_⟩,by omega,k_nx (by omega),(by (repeat' (with_reducible apply And.intro))<;>first |exact True.intro |rfl)⟩⟩
   ·exact (any_yes (f:=twI d) hi hq).symm
   ·rcases Nat.lt_or_ge j i with h |h
    ·exact hp.2 j h
    ·obtain rfl:j=i:=by omega
     exact hq
  ·have hc:=of_decide_eq_false hc;exact (any_no (f:=twI d) fun j hj=>hp.2 j (by omega)).symm
 ·trivial
noncomputable def ixcS:FSpec:=fun ds _=>match ds with
 | [.d d,.q p ok]=>some {val:=.one (.sc (.int .i64 (.sym (ixF (fun i=>p (cChn d i)) d.len)))),vc:=[d.len<=10000000000000,∀ i,i<d.len->ok (cChn d i)]}
 |_=>none
noncomputable def ixcC:Con:=con [.sc (.rows 118),.sc (.fn true 118)] ixcS
theorem ixc_ok:ConOK Tryz.prog 102 ixcC:=by
 refine fn_ob tt_ok mixed Tryz.func102 rfl (fun _ _=>by kernel_rfl) (A:=fun ds=>⟨fun _=>Cons.of [],fun k=>match k,ds with | 2,[.d d,.q p ok]=>some {ι:=Nat,pre:=fun _ i=>i<=d.len/\∀ j,j<i->p (cChn d j)=false,μ:=fun i=>d.len-i,st:=fun s i=>famR s [(8,.one (.sc (.int .i64 (.sym ((i:Int))))))] [0,1,7] [] []} |_,_=>none,fun _=>none⟩) (fun _ _=>cons_nil) (by kernel_rfl) ?_
 intro ds fr;unfold ixcS;split
 ·rename_i d p ok;refine kmp (q:=d.len<=10000000000000->(∀ (i:Nat),i<d.len->ok (cChn d i))->(∃ (i:Nat),(i<=d.len/\∀ (j:Nat),j<i->p (cChn d j)=false)/\(0:Int)=(i:Int)/\d.rows=d.rows/\p=p/\ok=ok/\(d.len:Int)=(d.len:Int))/\∀ (i:Nat),(i<=d.len/\∀ (j:Nat),j<i->p (cChn d j)=false)->(decide ((i:Int)<(d.len:Int))=true->((0:Int)<=(i:Int)/\(i:Int)<(d.len:Int))/\ok [D.s (d.el (i:Int).toNat 0).toS,D.i (d.el (i:Int).toNat 1).toI,D.i (d.el (i:Int).toNat 2).toI,D.s (d.el (i:Int).toNat 3).toS,D.s (d.el (i:Int).toNat 4).toS,d.el (i:Int).toNat 5]/\(p [D.s (d.el (i:Int).toNat 0).toS,D.i (d.el (i:Int).toNat 1).toI,D.i (d.el (i:Int).toNat 2).toI,D.s (d.el (i:Int).toNat 3).toS,D.s (d.el (i:Int).toNat 4).toS,d.el (i:Int).toNat 5]=true->(i:Int)=ixF (fun (i:Nat)=>p (cChn d i)) d.len)/\(p [D.s (d.el (i:Int).toNat 0).toS,D.i (d.el (i:Int).toNat 1).toI,D.i (d.el (i:Int).toNat 2).toI,D.s (d.el (i:Int).toNat 3).toS,D.s (d.el (i:Int).toNat 4).toS,d.el (i:Int).toNat 5]=false->∃ (j:Nat),(j<=d.len/\∀ (j_1:Nat),j_1<j->p (cChn d j_1)=false)/\d.len-j<d.len-i/\IntKind.i64.wrap ((i:Int)+(1:Int))=(j:Int)/\d.rows=d.rows/\p=p/\ok=ok/\(d.len:Int)=(d.len:Int)))/\(decide ((i:Int)<(d.len:Int))=false->(-1:Int)=ixF (fun (i:Nat)=>p (cChn d i)) d.len)) (by kernel_rfl) ?_
  intro hc ho;have e0:∀ (i:Nat),((i:Int)).toNat=i:=fun i=>Int.toNat_natCast i
  refine ⟨⟨0,⟨Nat.zero_le _,fun j hj=>absurd hj (Nat.not_lt_zero j)⟩,rfl,rfl,rfl,rfl,rfl⟩,fun i hp=>⟨fun hl=>?_,fun hl=>?_⟩⟩
  ·have hi:i<d.len:=by have:=of_decide_eq_true hl;omega
   refine ⟨⟨by omega,by omega⟩,by simp only [e0];exact ho i hi,fun hq=>?_,fun hq=>?_⟩
   ·simp only [e0] at hq;exact (ixF_hit hi hq hp.2).symm
   ·simp only [e0] at hq;have hw:IntKind.i64.wrap ((i:Int)+1)=((i+1:Nat):Int):=by rw [IntWalk.i64_in _ (by omega)];omega
    refine ⟨i+1,⟨by omega,fun j hj=>?_⟩,by omega,hw,rfl,rfl,rfl,rfl⟩
    rcases Nat.lt_or_ge j i with h |h
    ·exact hp.2 j h
    ·obtain rfl:j=i:=by omega
     exact hq
  ·have hi:¬ i<d.len:=by have:=of_decide_eq_false hl;omega
   exact (ixF_no fun j hj=>hp.2 j (by omega)).symm
 ·trivial
noncomputable def chanAt1S:FSpec:=fun ds _=>match ds with
 | [.s nm,.i ck,.i cz,.s cf,.s ct,.d tg,.s s]=>some {val:=.one (.sc (.bool (.sym (eqS nm s)))),vc:=[]}
 |_=>none
noncomputable def chanAt1C:Con:=con [.agg [.c .str,.c (.int .i64),.c (.int .i64),.c .str,.c .str,.c (.rows 9)],.sc (.pt .str)] chanAt1S
theorem chanAt1_ok:ConOK Tryz.prog 103 chanAt1C:=by
 refine fn_ob tt_ok mixed Tryz.func103 rfl (fun _ _=>by kernel_rfl) (A:=fun ds=>⟨fun _=>Cons.of [],fun _=>none,fun _=>none⟩) (fun _ _=>cons_nil) (by kernel_rfl) ?_
 intro ds fr;unfold chanAt1S;split
 ·rename_i nm ck cz cf ct tg s;refine kmp (q:=(nm.toList==s.toList)=eqS nm s) (by kernel_rfl) ?_
  rfl
 ·trivial
def chanAt1F:FC:=⟨.str,true,118,fun d=>match d with | .s a=>some (nmQ a,okK0) |_=>none⟩
noncomputable def chanAt1K:Con:=conF chanAt1F chanAt1C
theorem chanAt1K_ok:ConOK Tryz.prog 103 chanAt1K:=
 conF_ok chanAt1_ok (fc_ok (ks:=eks 118) rfl rfl (fun h=>by cases h) chanAt1_ok rfl fun d q h l _=>by
  cases d with
  |s a=>
   obtain rfl:=Option.some.inj h;exact ⟨_,rfl,trivial⟩
  |_=>cases h)
noncomputable def chanAtS:FSpec:=fun ds _=>match ds with
 | [.d d,.s s]=>some {val:=.one (.sc (.int .i64 (.sym (ixC d s)))),vc:=[d.len<=10000000000000]}
 |_=>none
noncomputable def chanAtC:Con:=con [.sc (.rows 118),.sc .str] chanAtS
theorem chanAt_ok:ConOK Tryz.prog 58 chanAtC:=by
 refine fn_ob tt_ok mixed Tryz.func58 rfl (fun _ _=>by kernel_rfl) (A:=fun ds=>⟨fun _=>Cons.of [(103,chanAt1K),(102,ixcC)],fun _=>none,fun _=>none⟩) (fun _ _=>(cons_cons chanAt1K_ok (cons_cons ixc_ok cons_nil))) (by kernel_rfl) ?_
 intro ds fr;unfold chanAtS;split
 ·rename_i d s;refine kmp (q:=d.len<=10000000000000->d.len<=10000000000000/\(∀ (i:Nat),i<d.len->okK0 (cChn d i))/\ixF (fun (i:Nat)=>nmQ s (cChn d i)) d.len=ixC d s) (by kernel_rfl) ?_
  intro h;exact ⟨h,fun _ _=>trivial,rfl⟩
 ·trivial
noncomputable def ixpS:FSpec:=fun ds _=>match ds with
 | [.d d,.q p ok]=>some {val:=.one (.sc (.int .i64 (.sym (ixF (fun i=>p (cPrn d i)) d.len)))),vc:=[d.len<=10000000000000,∀ i,i<d.len->ok (cPrn d i)]}
 |_=>none
noncomputable def ixpC:Con:=con [.sc (.rows 126),.sc (.fn true 126)] ixpS
theorem ixp_ok:ConOK Tryz.prog 100 ixpC:=by
 refine fn_ob tt_ok mixed Tryz.func100 rfl (fun _ _=>by kernel_rfl) (A:=fun ds=>⟨fun _=>Cons.of [],fun k=>match k,ds with | 2,[.d d,.q p ok]=>some {ι:=Nat,pre:=fun _ i=>i<=d.len/\∀ j,j<i->p (cPrn d j)=false,μ:=fun i=>d.len-i,st:=fun s i=>famR s [(8,.one (.sc (.int .i64 (.sym ((i:Int))))))] [0,1,7] [] []} |_,_=>none,fun _=>none⟩) (fun _ _=>cons_nil) (by kernel_rfl) ?_
 intro ds fr;unfold ixpS;split
 ·rename_i d p ok;refine kmp (q:=d.len<=10000000000000->(∀ (i:Nat),i<d.len->ok (cPrn d i))->(∃ (i:Nat),(i<=d.len/\∀ (j:Nat),j<i->p (cPrn d j)=false)/\(0:Int)=(i:Int)/\d.rows=d.rows/\p=p/\ok=ok/\(d.len:Int)=(d.len:Int))/\∀ (i:Nat),(i<=d.len/\∀ (j:Nat),j<i->p (cPrn d j)=false)->(decide ((i:Int)<(d.len:Int))=true->((0:Int)<=(i:Int)/\(i:Int)<(d.len:Int))/\ok [D.s (d.el (i:Int).toNat 0).toS,d.el (i:Int).toNat 1,d.el (i:Int).toNat 2]/\(p [D.s (d.el (i:Int).toNat 0).toS,d.el (i:Int).toNat 1,d.el (i:Int).toNat 2]=true->(i:Int)=ixF (fun (i:Nat)=>p (cPrn d i)) d.len)/\(p [D.s (d.el (i:Int).toNat 0).toS,d.el (i:Int).toNat 1,d.el (i:Int).toNat 2]=false->∃ (j:Nat),(j<=d.len/\∀ (j_1:Nat),j_1<j->p (cPrn d j_1)=false)/\d.len-j<d.len-i/\IntKind.i64.wrap ((i:Int)+(1:Int))=(j:Int)/\d.rows=d.rows/\p=p/\ok=ok/\(d.len:Int)=(d.len:Int)))/\(decide ((i:Int)<(d.len:Int))=false->(-1:Int)=ixF (fun (i:Nat)=>p (cPrn d i)) d.len)) (by kernel_rfl) ?_
  intro hc ho;have e0:∀ (i:Nat),((i:Int)).toNat=i:=fun i=>Int.toNat_natCast i
  refine ⟨⟨0,⟨Nat.zero_le _,fun j hj=>absurd hj (Nat.not_lt_zero j)⟩,rfl,rfl,rfl,rfl,rfl⟩,fun i hp=>⟨fun hl=>?_,fun hl=>?_⟩⟩
  ·have hi:i<d.len:=by have:=of_decide_eq_true hl;omega
   refine ⟨⟨by omega,by omega⟩,by simp only [e0];exact ho i hi,fun hq=>?_,fun hq=>?_⟩
   ·simp only [e0] at hq;exact (ixF_hit hi hq hp.2).symm
   ·simp only [e0] at hq;have hw:IntKind.i64.wrap ((i:Int)+1)=((i+1:Nat):Int):=by rw [IntWalk.i64_in _ (by omega)];omega
    refine ⟨i+1,⟨by omega,fun j hj=>?_⟩,by omega,hw,rfl,rfl,rfl,rfl⟩
    rcases Nat.lt_or_ge j i with h |h
    ·exact hp.2 j h
    ·obtain rfl:j=i:=by omega
     exact hq
  ·have hi:¬ i<d.len:=by have:=of_decide_eq_false hl;omega
   exact (ixF_no fun j hj=>hp.2 j (by omega)).symm
 ·trivial
noncomputable def procAt1S:FSpec:=fun ds _=>match ds with
 | [.s nm,.d vr,.d bd,.s s]=>some {val:=.one (.sc (.bool (.sym (eqS nm s)))),vc:=[]}
 |_=>none
noncomputable def procAt1C:Con:=con [.agg [.c .str,.c (.rows 9),.c (.rows 193)],.sc (.pt .str)] procAt1S
theorem procAt1_ok:ConOK Tryz.prog 101 procAt1C:=by
 refine fn_ob tt_ok mixed Tryz.func101 rfl (fun _ _=>by kernel_rfl) (A:=fun ds=>⟨fun _=>Cons.of [],fun _=>none,fun _=>none⟩) (fun _ _=>cons_nil) (by kernel_rfl) ?_
 intro ds fr;unfold procAt1S;split
 ·rename_i nm vr bd s;refine kmp (q:=(nm.toList==s.toList)=eqS nm s) (by kernel_rfl) ?_
  rfl
 ·trivial
def procAt1F:FC:=⟨.str,true,126,fun d=>match d with | .s a=>some (nmQ a,okK0) |_=>none⟩
noncomputable def procAt1K:Con:=conF procAt1F procAt1C
theorem procAt1K_ok:ConOK Tryz.prog 101 procAt1K:=
 conF_ok procAt1_ok (fc_ok (ks:=eks 126) rfl rfl (fun h=>by cases h) procAt1_ok rfl fun d q h l _=>by
  cases d with
  |s a=>
   obtain rfl:=Option.some.inj h;exact ⟨_,rfl,trivial⟩
  |_=>cases h)
noncomputable def procAtS:FSpec:=fun ds _=>match ds with
 | [.d d,.s s]=>some {val:=.one (.sc (.int .i64 (.sym (ixC d s)))),vc:=[d.len<=10000000000000]}
 |_=>none
noncomputable def procAtC:Con:=con [.sc (.rows 126),.sc .str] procAtS
theorem procAt_ok:ConOK Tryz.prog 57 procAtC:=by
 refine fn_ob tt_ok mixed Tryz.func57 rfl (fun _ _=>by kernel_rfl) (A:=fun ds=>⟨fun _=>Cons.of [(101,procAt1K),(100,ixpC)],fun _=>none,fun _=>none⟩) (fun _ _=>(cons_cons procAt1K_ok (cons_cons ixp_ok cons_nil))) (by kernel_rfl) ?_
 intro ds fr;unfold procAtS;split
 ·rename_i d s;refine kmp (q:=d.len<=10000000000000->d.len<=10000000000000/\(∀ (i:Nat),i<d.len->okK0 (cPrn d i))/\ixF (fun (i:Nat)=>nmQ s (cPrn d i)) d.len=ixC d s) (by kernel_rfl) ?_
  intro h;exact ⟨h,fun _ _=>trivial,rfl⟩
 ·trivial
def cdE (ah:D) (nm:ByteArray) (cz:Int) (tg:D):Int:=if decide (ixC ah nm>=0)=true then 7 else if (decide (cz<1) ||decide (cz>16) ||decide ((tg.len:Int)>4))=true then 10 else if twK tg=true then 7 else 0
noncomputable def cdlS:FSpec:=fun ds _=>match ds with
 | [.d ah,.s nm,.i ck,.i cz,.s cf,.s ct,.d tg]=>some {val:=.one (.sc (.int .i64 (.sym (cdE ah nm cz tg)))),vc:=[ah.len<=10000000000000,tg.len<=10000000000000]}
 |_=>none
noncomputable def cdlC:Con:=con [.sc (.rows 118),.agg [.c .str,.c (.int .i64),.c (.int .i64),.c .str,.c .str,.c (.rows 9)]] cdlS
theorem cdl_ok:ConOK Tryz.prog 56 cdlC:=by
 refine fn_ob tt_ok mixed Tryz.func56 rfl (fun _ _=>by kernel_rfl) (A:=fun ds=>⟨fun _=>Cons.of [(58,chanAtC),(60,atwC)],fun _=>none,fun _=>none⟩) (fun _ _=>(cons_cons chanAt_ok (cons_cons atw_ok cons_nil))) (by kernel_rfl) ?_
 intro ds fr;unfold cdlS;split
 ·rename_i ah nm ck cz cf ct tg;refine kmp (q:=ah.len<=10000000000000->tg.len<=10000000000000->ah.len<=10000000000000/\(decide (ixC ah nm>=(0:Int))=true->(7:Int)=cdE ah nm cz tg)/\(decide (ixC ah nm>=(0:Int))=false->((decide (cz<(1:Int)) ||decide (cz>(16:Int)) ||decide ((tg.len:Int)>(4:Int)))=true->(10:Int)=cdE ah nm cz tg)/\((decide (cz<(1:Int)) ||decide (cz>(16:Int)) ||decide ((tg.len:Int)>(4:Int)))=false->tg.len<=10000000000000/\(twK tg=true->(7:Int)=cdE ah nm cz tg)/\(twK tg=false->(0:Int)=cdE ah nm cz tg)))) (by kernel_rfl) ?_
  intro h1 h2;refine ⟨h1,fun h=>?_,fun n1=>⟨fun h=>?_,fun n2=>⟨h2,fun h=>?_,fun n3=>?_⟩⟩⟩
  ·unfold cdE;rw [if_pos h]
  ·unfold cdE;rw [if_neg (by rw [n1];decide),if_pos h]
  ·unfold cdE;rw [if_neg (by rw [n1];decide),if_neg (by rw [n2];decide),if_pos h]
  ·unfold cdE;rw [if_neg (by rw [n1];decide),if_neg (by rw [n2];decide),if_neg (by rw [n3];decide)]
 ·trivial
def cdI (ch:D) (i:Nat):Int:=cdE (ch.sub 0 i) (ch.el i 0).toS (ch.el i 2).toI (ch.el i 5)
def pdI (pr:D) (i:Nat):Bool:=decide (ixC (pr.sub 0 i) (pr.el i 0).toS>=0)
def fnz (f:Nat->Int):Nat->Int
 | 0=>0
 |n+1=>if fnz f n=0 then f n else fnz f n
theorem fnz_0 {f:Nat->Int}:∀ {n:Nat},(∀ j,j<n->f j=0)->fnz f n=0
 | 0,_=>rfl
 |n+1,h=>by rw [fnz,if_pos (fnz_0 fun j hj=>h j (by omega))];exact h n (by omega)
theorem fnz_at {f:Nat->Int} {i:Nat} (hi:f i≠0) (h:∀ j,j<i->f j=0):∀ {n:Nat},i<n->fnz f n=f i
 | 0,hn=>absurd hn (Nat.not_lt_zero i)
 |n+1,hn=>by
  rcases Nat.lt_or_ge i n with h1 |h1
  ·rw [fnz,fnz_at hi h h1,if_neg hi]
  ·obtain rfl:i=n:=by omega
   rw [fnz,if_pos (fnz_0 h)]
def dcE (ch pr:D):Int:=if decide ((ch.len:Int)>4)=true then 10 else if fnz (cdI ch) ch.len=0 then (if (decide ((pr.len:Int)<1) ||decide ((pr.len:Int)>4))=true then 10 else if (List.range pr.len).any (pdI pr)=true then 7 else 0) else fnz (cdI ch) ch.len
noncomputable def dclS:FSpec:=fun ds _=>match ds with
 | [.d ch,.d ru,.d pr]=>some {val:=.one (.sc (.int .i64 (.sym (dcE ch pr)))),vc:=[∀ i,i<ch.len->(ch.el i 5).len<=10000000000000]}
 |_=>none
noncomputable def dclC:Con:=con [lSy] dclS
theorem dcl_ok:ConOK Tryz.prog 30 dclC:=by
 refine fn_ob tt_ok mixed Tryz.func30 rfl (fun _ _=>by kernel_rfl) (A:=fun ds=>⟨fun _=>Cons.of [(56,cdlC),(57,procAtC)],fun k=>match k,ds with | 4,[.d ch,.d ru,.d pr]=>some {ι:=Nat,pre:=fun _ i=>i<=ch.len/\∀ j,j<i->cdI ch j=0,μ:=fun i=>ch.len+1-i,st:=fun s i=>famR s [(15,.one (.sc (.int .i64 (.sym ((i:Nat))))))] [1,13,14] [] [1]} | 13,[.d ch,.d ru,.d pr]=>some {ι:=Nat,pre:=fun _ i=>i<=pr.len/\∀ j,j<i->pdI pr j=false,μ:=fun i=>pr.len+1-i,st:=fun s i=>famR s [(43,.one (.sc (.int .i64 (.sym ((i:Nat))))))] [1,41,42] [] [1]} |_,_=>none,fun _=>none⟩) (fun _ _=>(cons_cons cdl_ok (cons_cons procAt_ok cons_nil))) (by kernel_rfl) ?_
 intro ds fr;unfold dclS;split
 ·rename_i ch ru pr;refine kmp (q:=(∀ (i:Nat),i<ch.len->(ch.el i 5).len<=10000000000000)->(decide ((ch.len:Int)>(4:Int))=true->(10:Int)=dcE ch pr)/\(decide ((ch.len:Int)>(4:Int))=false->(∃ (i:Nat),(i<=ch.len/\∀ (j:Nat),j<i->cdI ch j=(0:Int))/\(0:Int)=(i:Int)/\ch.rows=ch.rows/\(ch.len:Int)=(ch.len:Int)/\ch.rows=ch.rows/\ru.rows=ru.rows/\pr.rows=pr.rows)/\∀ (i:Nat),(i<=ch.len/\∀ (j:Nat),j<i->cdI ch j=(0:Int))->(decide ((i:Int)<(ch.len:Int))=true->((0:Int)<=(i:Int)/\(i:Int)<(ch.len:Int))/\((0:Int)<=(i:Int)/\(i:Int)<=(ch.len:Int))/\(ch.sub (0:Nat) (i:Int).toNat).len<=10000000000000/\(ch.el (i:Int).toNat 5).len<=10000000000000/\((cdE (ch.sub (0:Nat) (i:Int).toNat) (ch.el (i:Int).toNat 0).toS (ch.el (i:Int).toNat 2).toI (ch.el (i:Int).toNat 5) != (0:Int))=true->cdE (ch.sub (0:Nat) (i:Int).toNat) (ch.el (i:Int).toNat 0).toS (ch.el (i:Int).toNat 2).toI (ch.el (i:Int).toNat 5)=dcE ch pr)/\((cdE (ch.sub (0:Nat) (i:Int).toNat) (ch.el (i:Int).toNat 0).toS (ch.el (i:Int).toNat 2).toI (ch.el (i:Int).toNat 5) != (0:Int))=false->∃ (j:Nat),(j<=ch.len/\∀ (j_1:Nat),j_1<j->cdI ch j_1=(0:Int))/\ch.len+(1:Nat)-j<ch.len+(1:Nat)-i/\IntKind.i64.wrap ((i:Int)+(1:Int))=(j:Int)/\ch.rows=ch.rows/\(ch.len:Int)=(ch.len:Int)/\ch.rows=ch.rows/\ru.rows=ru.rows/\pr.rows=pr.rows))/\(decide ((i:Int)<(ch.len:Int))=false->((decide ((pr.len:Int)<(1:Int)) ||decide ((pr.len:Int)>(4:Int)))=true->(10:Int)=dcE ch pr)/\((decide ((pr.len:Int)<(1:Int)) ||decide ((pr.len:Int)>(4:Int)))=false->(∃ (i:Nat),(i<=pr.len/\∀ (j:Nat),j<i->pdI pr j=false)/\(0:Int)=(i:Int)/\pr.rows=pr.rows/\(pr.len:Int)=(pr.len:Int)/\ch.rows=ch.rows/\ru.rows=ru.rows/\pr.rows=pr.rows)/\∀ (i:Nat),(i<=pr.len/\∀ (j:Nat),j<i->pdI pr j=false)->(decide ((i:Int)<(pr.len:Int))=true->((0:Int)<=(i:Int)/\(i:Int)<(pr.len:Int))/\((0:Int)<=(i:Int)/\(i:Int)<=(pr.len:Int))/\(pr.sub (0:Nat) (i:Int).toNat).len<=10000000000000/\(decide (ixC (pr.sub (0:Nat) (i:Int).toNat) (pr.el (i:Int).toNat 0).toS>=(0:Int))=true->(7:Int)=dcE ch pr)/\(decide (ixC (pr.sub (0:Nat) (i:Int).toNat) (pr.el (i:Int).toNat 0).toS>=(0:Int))=false->∃ (j:Nat),(j<=pr.len/\∀ (j_1:Nat),j_1<j->pdI pr j_1=false)/\pr.len+(1:Nat)-j<pr.len+(1:Nat)-i/\IntKind.i64.wrap ((i:Int)+(1:Int))=(j:Int)/\pr.rows=pr.rows/\(pr.len:Int)=(pr.len:Int)/\ch.rows=ch.rows/\ru.rows=ru.rows/\pr.rows=pr.rows))/\(decide ((i:Int)<(pr.len:Int))=false->(0:Int)=dcE ch pr))))) (by kernel_rfl) ?_
  intro ht;simp only [Nat.reduceAdd,Nat.zero_add,k_n];refine ⟨fun h=>by unfold dcE;rw [if_pos h],fun h=>?_⟩;have h0:¬ (decide ((ch.len:Int)>4)=true):=by rw [h];decide
  have h:=of_decide_eq_false h;refine ⟨⟨0,⟨Nat.zero_le _,fun j hj=>absurd hj (Nat.not_lt_zero j)⟩,rfl,(by (repeat' (with_reducible apply And.intro))<;>first |exact True.intro |rfl)⟩,fun i hp=>⟨fun hc=>?_,fun hc=>?_⟩⟩
  ·have hc:=of_decide_eq_true hc;have hi:i<ch.len:=by omega
   refine ⟨⟨by omega,by omega⟩,⟨by omega,by omega⟩,by rw [D.sub_len ch (by omega)];omega,ht i hi,fun hq=>?_,fun hq=>?_⟩
   ·have hq:cdI ch i≠0:=by unfold cdI;simpa using hq
    have hz:=fnz_at hq hp.2 hi;unfold dcE;rw [if_neg h0,if_neg (by rw [hz];exact hq),hz];rfl
   ·have hq:cdI ch i=0:=by unfold cdI;simpa using hq
    refine ⟨i+1,⟨hi,fun j hj=>?_⟩,by omega,k_nx (by omega),(by (repeat' (with_reducible apply And.intro))<;>first |exact True.intro |rfl)⟩
    rcases Nat.lt_or_ge j i with h1 |h1
    ·exact hp.2 j h1
    ·obtain rfl:j=i:=by omega
     exact hq
  have hc:=of_decide_eq_false hc;have hz:fnz (cdI ch) ch.len=0:=fnz_0 fun j hj=>hp.2 j (by omega)
  refine ⟨fun hb=>by unfold dcE;rw [if_neg h0,if_pos hz,if_pos hb],fun hb=>?_⟩;have hb0:¬ ((decide ((pr.len:Int)<1) ||decide ((pr.len:Int)>4))=true):=by rw [hb];decide
  simp only [Bool.or_eq_false_iff,decide_eq_false_iff_not] at hb;refine ⟨⟨0,⟨Nat.zero_le _,fun j hj=>absurd hj (Nat.not_lt_zero j)⟩,rfl,(by (repeat' (with_reducible apply And.intro))<;>first |exact True.intro |rfl)⟩,fun i hp=>⟨fun hc=>?_,fun hc=>?_⟩⟩
  ·have hc:=of_decide_eq_true hc;have hi:i<pr.len:=by omega
   refine ⟨⟨by omega,by omega⟩,⟨by omega,by omega⟩,by rw [D.sub_len pr (by omega)];omega,fun hq=>?_,fun hq=>?_⟩
   ·unfold dcE;rw [if_neg h0,if_pos hz,if_neg hb0,if_pos (any_yes (f:=pdI pr) hi hq)]
   ·refine ⟨i+1,⟨hi,fun j hj=>?_⟩,by omega,k_nx (by omega),(by (repeat' (with_reducible apply And.intro))<;>first |exact True.intro |rfl)⟩
    rcases Nat.lt_or_ge j i with h1 |h1
    ·exact hp.2 j h1
    ·obtain rfl:j=i:=by omega
     exact hq
  ·have hc:=of_decide_eq_false hc;unfold dcE;rw [if_neg h0,if_pos hz,if_neg hb0,if_neg (by rw [any_no fun j hj=>hp.2 j (by omega)];decide)]
 ·trivial
end Go.Proofs.YtplejbgafjpomaaGreatDoor.Sx.Z
namespace Go.Proofs.YtplejbgafjpomaaGreatDoor.Sx
open Go.RowKit
def conB (T:TypeId) (ms:List AM) (g:FuncId) (aps:List AP) (spec:List Dat->Option (Eff × List Seg)):Con:=fun hp fr args=>match args with
 | .one (.sc (.ptr id (.lit 0))) :: .one (.sc (.bm g' id'))::rest=>if Nat.beq g g'&&Nat.beq id id' then conMb T ms aps spec hp fr id rest else none
 |_=>none
theorem fn_okB {P:Program} {tt:TT} (htt:TTOK P tt) (hm:P.follows .mixedOrders=true) {f:FuncId} {fn:Func} {c:Code} (hf:P.funcs[f]? = some fn) (hb:fn.body=some c) (hen:∀ (args:Array Value) (w:World),(callFunc f args).run P w = .ok (.enter f args) w)
 {A:List Dat->Ann} (hC:∀ ds id,CtxOK P ((A ds).C id)) {T:TypeId} {ms:List AM} {g:FuncId} {aps:List AP} {spec:List Dat->Option (Eff × List Seg)} (hn:Nat.ble (aps.length+2) fn.ntmps=true)
 (H:∀ ds e sg sM hM rest id1 svs h id,spec ds=some (e,sg)->All e.vc->unM ms ds 1=some (sM,hM,rest,id1)->unP aps rest id1=some (svs,h,id) ->
   sx tt fn.ntmps (A ds) (LFb true) c (retM tt fn.results.toList e T sg) {tm:=slots0 (.one (.sc (.ptr 0 (.lit 0))) :: .one (.sc (.bm g 0))::svs) 0,hp:=(0,.own T sM)::(hM++h),nx:=id}):ConOK P f (conB T ms g aps spec):=by
 refine ⟨hen,?_,fun hp fr caps e h=>by cases h⟩;intro hp fr args e0 h0 hvc w0 w ρ vs hw hfr hargs;unfold conB at h0
 split at h0
 ·rename_i id g' id' rest;have hgi:(Nat.beq g g'&&Nat.beq id id')=true:=by
   cases hb:(Nat.beq g g'&&Nat.beq id id') with
   |true=>rfl
   |false=>rw [hb] at h0;cases h0
  rw [if_pos hgi] at h0;simp only [Bool.and_eq_true] at hgi;obtain rfl:=Nat.eq_of_beq_eq_true hgi.1;obtain rfl:=Nat.eq_of_beq_eq_true hgi.2;unfold conMb at h0
  split at h0
  ·rename_i T' segs hlk
   split at h0
   ·rename_i hTT;obtain rfl:=Nat.eq_of_beq_eq_true hTT
    split at h0
    ·rename_i ds1 ps1 rs ds2 ps2 hflM hflP
     split at h0
     ·rename_i hck;simp only [Bool.and_eq_true,Bool.not_eq_true'] at hck;obtain ⟨⟨hdist,hnid⟩,hdis⟩:=hck
      split at h0
      ·rename_i e sg hspec;obtain rfl:=Option.some.inj h0;obtain ⟨hpM,hp2⟩:=all_append.1 hvc;obtain ⟨hpP,hpE⟩:=all_append.1 hp2
       match vs,hargs with
       | [],hargs=>exact hargs.elim
       | [_],hargs=>exact hargs.2.elim
       |v0::vb::vr,hargs=>
        obtain ⟨⟨hid,hv0⟩,⟨_,hvb⟩,hargs⟩:=hargs;obtain ⟨_,hoff,hMine,vs0,hcs0,hheap⟩:=hw.ents id _ hlk;have hnid':id ∉ someIds rs:=fun h=>by rw [nin_iff.2 h] at hnid;cases hnid
        obtain ⟨sM,hM,hunM,hMe,hMc⟩:=unM_spec hw ms segs ds1 ds2 ps1 rs hflM hpM vs0 hcs0 1;have hidsAll:∀ i∈idsX hp rest,ownId hp i=true->i∈keepOwn hp (idsX hp rest):=fun i hi ho=>keepOwn_mem.2 ⟨hi,ho⟩
        obtain ⟨svs,h,ρ1,idE,hun,hleE,hin,hrel⟩:=unP_spec hw aps rest ds2 ps2 hflP hpP vr hargs hidsAll (1+rs.length);have hsx:=H (ds1++ds2) e sg sM hM ds2 _ svs h idE hspec hpE hunM hun;have hlen:vr.length+2<=fn.ntmps:=by
         have h1:=unP_len aps ds2 _ svs h idE hun;have h2:=args_len hrel;have:=Nat.le_of_ble_eq_true hn;omega
        have hsz:((v0::vb::vr).toArray++Array.replicate (fn.ntmps-(v0::vb::vr).toArray.size) undef).size=fn.ntmps:=by simp;omega
        have own_k:∀ k∈id::someIds rs,(ρ k).isSome=true->∃ x,look hp k=some x/\x.isOwn=true:=fun k hk hks=>by
         rcases List.mem_cons.1 hk with rfl |hk
         ·exact ⟨_,hlk,rfl⟩
         ·obtain ⟨a,ha⟩:=mem_someIds.1 hk;have:∃ E d,look hp k=some (.orow E d):=flM_row hflM ha;obtain ⟨E,d,hl⟩:=this;exact ⟨_,hl,rfl⟩
        have fzNone:∀ k∈id::someIds rs,(ρ k).isSome=true->passF ρ w (keepOwn hp (idsX hp rest)) (ρ.blk k)=none:=fun k hk hks=>by
         cases hc:passF ρ w (keepOwn hp (idsX hp rest)) (ρ.blk k) with
         |none=>rfl
         |some cs=>
          exfalso;obtain ⟨x,hx,hxo⟩:=own_k k hk hks
          rcases passF_some hc with h1 |⟨⟨j,hj,hjs,hjb⟩,_⟩
          ·have:=(erel_some (hw.ents k x hx) hxo hks).1.2;rw [h1] at this;cases this
          ·obtain ⟨hj1,hj2⟩:=keepOwn_mem.1 hj;unfold ownId at hj2
           split at hj2
           ·rename_i y hy;exact hw.apart j k y x hy hx hj2 hxo (fun e=>disI_spec hdis hj1 (e ▸ hk)) hjs hks hjb
           ·cases hj2
        generalize hF:passF ρ w (keepOwn hp (idsX hp rest))=F at *
        let mu:Nat->Bool:=fun b=>inIds ρ b (id::someIds rs)
        have muK:∀ k∈id::someIds rs,(ρ k).isSome=true->mu (ρ.blk k)=true:=fun k hk hks=>inIds_iff.2 ⟨k,hk,hks,rfl⟩
        let ρc:Map:={m:=fun i=>if i=0 then some (ρ.blk id,0) else if i<1+rs.length then mapO ρ rs 1 i else ρ1 i,cap:=fun i=>if i<1+rs.length then capO ρ rs 1 i else ρ1.cap i,fz:=F,f0:=F,mu:=mu,kid:=ρ.kid}
        have c0:ρc 0=some (ρ.blk id,0):=rfl;have cM:∀ i,1<=i->i<1+rs.length -> ρc i=mapO ρ rs 1 i /\ ρc.cap i=capO ρ rs 1 i:=fun i g1 g2=>by
         refine ⟨?_,?_⟩
         ·show (if i=0 then some (ρ.blk id,0) else if i<1+rs.length then mapO ρ rs 1 i else ρ1 i)=_;rw [if_neg (by omega),if_pos g2]
         ·show (if i<1+rs.length then capO ρ rs 1 i else ρ1.cap i)=_;rw [if_pos g2]
        have cH:∀ i,1+rs.length<=i -> ρc i=ρ1 i /\ ρc.cap i=ρ1.cap i:=fun i g=>by
         refine ⟨?_,?_⟩
         ·show (if i=0 then some (ρ.blk id,0) else if i<1+rs.length then mapO ρ rs 1 i else ρ1 i)=_;rw [if_neg (by omega),if_neg (by omega)]
         ·show (if i<1+rs.length then capO ρ rs 1 i else ρ1.cap i)=_;rw [if_neg (by omega)]
        have hfzle:FzLe ρ.fz F:=by rw [<- hF];exact passF_le ρ w _
        have holds:Holds ρ ρc rs 1:=⟨hfzle,fun i g1 g2=>cM i g1 g2⟩;have ext1:Ext {ρ1 with mu:=mu} ρc:=by
         have ge:∀ i,(ρ1 i).isSome=true->1+rs.length<=i:=fun i hi=>by
          rcases Nat.lt_or_ge i (1+rs.length) with h |h
          ·rw [hin.out i (.inl h)] at hi;cases hi
          ·exact h
         refine ⟨fun i p hi=>?_,fun i hi=>?_,fun b cs hc=>?_,rfl,?_⟩
         ·have hi:ρ1 i=some p:=hi;rw [(cH i (ge i (by rw [hi];rfl))).1];exact hi
         ·exact (cH i (ge i hi)).2
         ·have hc:ρ1.fz b=some cs:=hc;rw [hin.hfz] at hc;exact hc
         ·show F=ρ1.f0;rw [hin.hf0]
        have hargsC:ArgsRel ρc (.one (.sc (.ptr 0 (.lit 0))) :: .one (.sc (.bm g 0))::svs) (v0::vb::vr):=by
         refine ⟨⟨rfl,?_⟩,⟨rfl,?_⟩,args_ext ext1 (args_mu mu hrel)⟩
         ·rw [hv0];simp only [Map.at,SO.v,hoff];rfl
         ·rw [hvb];simp only [Map.at,hoff];rfl
        have lookT:∀ i x,look ((0,Ent.own T sM)::(hM++h)) i=some x->(i=0/\x = .own T sM) ∨ (1<=i/\i<1+rs.length/\look hM i=some x) ∨ (1+rs.length<=i/\i<idE/\look h i=some x):=fun i x hx=>by
         simp only [look] at hx
         split at hx
         ·rename_i hi;exact .inl ⟨(by simpa using hi:0=i).symm,by simpa using hx.symm⟩
         ·rw [look_append] at hx
          cases hl:look hM i with
          |some y=>
           rw [hl] at hx;obtain rfl:=by simpa using hx
           obtain ⟨g1,g2,_⟩:=hMe i y hl;exact .inr (.inl ⟨g1,g2,rfl⟩)
          |none=>
           rw [hl] at hx;obtain ⟨_,_,g1,g2⟩:=hin.ents i x hx;exact .inr (.inr ⟨g1,g2,hx⟩)
        have src:∀ i x,look ((0,Ent.own T sM)::(hM++h)) i=some x->x.isOwn=true->(ρc i).isSome=true->∃ k∈id::someIds rs,(ρ k).isSome=true /\ ρc.blk i=ρ.blk k/\((i=0/\k=id) ∨ (1<=i/\rs[i-1]? = some (some k))):=fun i x hx ho hi=>by
         rcases lookT i x hx with ⟨rfl,_⟩ |⟨g1,g2,hl⟩ |⟨g1,g2,hl⟩
         ·exact ⟨id,List.mem_cons_self ..,hid,rfl,.inl ⟨rfl,rfl⟩⟩
         ·obtain ⟨_,_,E,d,rfl,h1⟩:=hMe i x hl;rw [(cM i g1 g2).1] at hi
          rcases h1 with ⟨h1,_⟩ |⟨r,h1,h2⟩
          ·rw [h1] at hi;cases hi
          ·have hm:mapO ρ rs 1 i=ρ r:=by unfold mapO;rw [if_pos g1,h1]
           refine ⟨r,List.mem_cons_of_mem _ (mem_someIds.2 ⟨_,h1⟩),by rw [<- hm];exact hi,?_,.inr ⟨g1,h1⟩⟩;unfold Map.blk;rw [(cM i g1 g2).1,hm]
         ·have:=(hin.ents i x hl).2.1;rw [this] at ho;cases ho
        have hwh:WH ⟨w,F,mu,some (ρ.blk id,0)⟩ ρc ((0,.own T sM)::(hM++h)) w:=by
         refine ⟨BelowM.refl _ _ _,fun i x hx=>?_,fun i j x y hx hy hxo hyo hne hi hj=>?_,fun b cs hb=>?_,fun _ _ h=>h,rfl,rfl,fun b cs hb=>.inl hb,fun p hp=>hp,by rw [<- hF];exact hw.tabP _,lin_no fun i c e d g hl=>?_⟩
         ·rcases lookT i x hx with ⟨rfl,rfl⟩ |⟨g1,g2,hl⟩ |⟨g1,g2,hl⟩
          ·exact ⟨rfl,rfl,⟨.inr (muK id (List.mem_cons_self ..) hid),fzNone id (List.mem_cons_self ..) hid⟩,vs0,hMc ρc holds,hheap⟩
          ·obtain ⟨_,_,E,d,rfl,h1⟩:=hMe i x hl
           rcases h1 with ⟨h1,h2⟩ |⟨r,h1,h2⟩
           ·exact .inl ⟨by rw [(cM i g1 g2).1];exact h1,h2⟩
           ·have hm:mapO ρ rs 1 i=ρ r:=by unfold mapO;rw [if_pos g1,h1]
            have hcp:capO ρ rs 1 i=ρ.cap r:=by unfold capO;rw [h1]
            have hr:r∈id::someIds rs:=List.mem_cons_of_mem _ (mem_someIds.2 ⟨_,h1⟩)
            rcases hw.ents r _ h2 with ⟨q1,q2⟩ |⟨q1,q2,q3,q4⟩
            ·exact .inl ⟨by rw [(cM i g1 g2).1,hm];exact q1,q2⟩
            ·have hbk:ρc.blk i=ρ.blk r:=by unfold Map.blk;rw [(cM i g1 g2).1,hm]
             refine .inr ⟨by rw [(cM i g1 g2).1,hm];exact q1,by unfold Map.off;rw [(cM i g1 g2).1,hm];exact q2,by rw [hbk];exact ⟨.inr (muK r hr q1),fzNone r hr q1⟩,?_⟩;rw [hbk,(cM i g1 g2).2,hcp];exact rowAt_mono hfzle rfl q4
          ·obtain ⟨he,ho,_,_⟩:=hin.ents i x hl
           cases x with
           |own=>cases ho
           |row=>cases ho
           |orow=>cases ho
           |nrow=>cases ho
           |gone=>trivial
           |ro l=>
            obtain ⟨q1,us,q2,q3⟩:=he 0 w;refine ⟨by rw [(cH i g1).1];exact q1,us,csrel_ext ext1 (csrel_mu mu q2),fun o v hv=>?_⟩;have:=q3 o v hv;rw [hin.hfz] at this;unfold Map.blk Map.off at this ⊢;rw [(cH i g1).1];exact this
         ·obtain ⟨k,hk,hks,hkb,hki⟩:=src i x hx hxo hi;obtain ⟨l,hl,hls,hlb,hlj⟩:=src j y hy hyo hj;rw [hkb,hlb];obtain ⟨x',hx',hxo'⟩:=own_k k hk hks;obtain ⟨y',hy',hyo'⟩:=own_k l hl hls;refine hw.apart k l x' y' hx' hy' hxo' hyo' (fun e=>?_) hks hls;subst e
          rcases hki with ⟨rfl,rfl⟩ |⟨a1,a2⟩<;>rcases hlj with ⟨rfl,b1⟩ |⟨b1,b2⟩
          ·exact hne rfl
          ·exact hnid' (mem_someIds.2 ⟨_,b2⟩)
          ·subst b1;exact hnid' (mem_someIds.2 ⟨_,a2⟩)
          ·have:=distO_spec hdist _ _ _ a2 b2;omega
         ·have hb:F b=some cs:=hb;rw [<- hF] at hb;exact passF_froz hw.froz hb
         ·rcases lookT i _ hl with ⟨_,h0⟩ |⟨_,_,hl'⟩ |⟨_,_,hl'⟩
          ·cases h0
          ·obtain ⟨_,_,E,d',h0,_⟩:=hMe i _ hl'
           cases h0
          ·have:=(hin.ents i _ hl').2.1
           cases this
        refine calls_of_wp hf hb ?_
        refine sx_spec htt hm (hC _) (w0:=⟨w,F,mu,some (ρ.blk id,0)⟩) (lfb_spec (fun _=>rfl)) c _ _ hsx _ ?_ ρc _ w ⟨⟨hsz,rfl,?_⟩,hwh,fun i hi=>by rw [(cH i (by show 1+rs.length<=i;have:idE<=i:=hi;omega)).1];exact hin.out i (.inr hi)⟩
        ·intro ex xx s' ρ' a w' hex hk hs';have done:retM tt fn.results.toList e T sg .ret s'->a.defers=[]/\∃ v,(results fn a.tmps).run P w' = .ok v w'/\∃ ρ'' u,Ending.returned v = .returned u/\UR ρ'' (e.val.sh fr) u/\Fr w0.heap.size ρ ρ'' w w' {val:=e.val.sh fr,nw:=shH fr e.nw,vc:=ps1++(ps2++e.vc),st:=(id,.own T (shS fr sg))::(kills (someIds rs)++(if plainE (e.sh fr)&&plainS (shS fr sg) then [] else kills (keepOwn hp (idsX hp rest))))}:=by
          intro hk;simp only [retM] at hk
          split at hk
          ·rename_i v qs hres;rw [allK_iff] at hk;obtain ⟨hq,hk⟩:=hk;generalize hfrz:frzSV s'.hp v e.val=fz3 at hk;obtain ⟨v',fs,ids⟩:=fz3;dsimp only at hk;rw [allK_iff] at hk;obtain ⟨hfs,hk⟩:=hk
           split at hk
           rename_i la lb hla hlb
           split at hk
           rename_i hok;obtain ⟨hk1,hk2⟩:=all_append.1 (conj_all hk);obtain ⟨u,hu1,hu2⟩:=resS_spec htt hs' hres hq;have hu2':=frzSV_spec hs'.mem hfrz hfs (fun i hi ho=>keepOwn_mem.2 ⟨hi,ho⟩) hu2;have hfr0:=fr_freeze (B:=w.heap.size) hs'.mem.froz (keepOwn s'.hp ids) .junk [];have hmem':WH ⟨w,F,mu,some (ρ.blk id,0)⟩ (ρ'.frz w' (keepOwn s'.hp ids)) (kills (keepOwn s'.hp ids)++s'.hp) w':=by
            have:=wh_step hs'.mem hfr0 (fun i x hx=>stOK_kills i x hx) (fun _ _ h=>by simp [look] at h);exact this
           have hanc:(ρ'.frz w' (keepOwn s'.hp ids)) 0=some (ρ.blk id,0):=hmem'.anc _ rfl;have hs2:SH ⟨w,F,mu,none⟩ 0 {tm:=[],hp:=kills (keepOwn s'.hp ids)++s'.hp,nx:=s'.nx} (ρ'.frz w' (keepOwn s'.hp ids)) {a with tmps:=#[]} w':=⟨⟨rfl,hs'.slots.defers,fun t x hx=>by simp [look] at hx⟩,wh_noanc hmem',hs'.fresh⟩;generalize hρ3:ρ'.frz w' (keepOwn s'.hp ids)=ρ3 at hu2' hmem' hs2 hanc;have hle:=svL_spec hla hk1;have hhe:=heapL_spec hlb hk2;generalize mHeap (kills (keepOwn s'.hp ids)++s'.hp) ((8,.own T sg)::e.nw) ((8,0)::mSV v' e.val)=δ at *;simp only [Bool.and_eq_true] at hok;obtain ⟨⟨⟨hinj,hnew⟩,hsv⟩,hsg,hd8⟩:=hok;have hd8:=Nat.eq_of_beq_eq_true hd8;have hnj:e.val ≠ .junk:=fun hj=>by rw [hj] at hsv;cases hsv
           have hu3:=ur_le hle hu2' hnj;have hw2:=(stLe_spec (δ:=δ) (t:={tm:=[],hp:=(8,.own T sg)::e.nw,nx:=9}) ⟨trivial,hhe,hinj⟩ (fun h=>by cases h) hs2).mem;have hB:w0.heap.size<=w.heap.size:=hw.below.size;have h8:(ρ3.ren δ 9) 8=some (ρ.blk id,0):=by
            simp only [Map.ren];rw [if_pos (by decide),hd8];exact hanc
           generalize hρr:ρ3.ren δ 9=ρr at hu3 hw2 h8;have hmu:ρr.mu=mu:=by rw [<- hρr,<- hρ3];exact hs'.mem.mu0
           have hf0:ρr.f0=F:=by rw [<- hρr,<- hρ3];exact hs'.mem.f00
           replace hu3:=ur_sh (n:=fr) hu3
           replace hw2:=wh_sh fr rfl hw2
           replace hnew:=newOK_sh (n:=fr) hnew
           replace hsv:=svIn_sh (n:=fr) hsv
           replace hsg:=segsIn_sh (n:=fr) hsg
           replace hmu:(ρr.sh fr).mu=mu:=hmu
           replace hf0:(ρr.sh fr).f0=F:=hf0
           replace h8:(ρr.sh fr) (fr+8)=some (ρ.blk id,0):=by rw [sh_at];exact h8
           clear hρr hinj hnj hle hhe;generalize ρr.sh fr=ρr at *;have hw2:WH ⟨w,F,mu,none⟩ ρr ((fr+8,.own T (shS fr sg))::shH fr e.nw) w':=hw2;generalize hNW:shH fr e.nw=nw at *;generalize hSG:shS fr sg=sg' at *;generalize hVL:e.val.sh fr=vl at *;generalize hPL:(plainE (e.sh fr)&&plainS sg')=pl at *;have plOK:pl=true->plainSV vl=true/\plainH nw=true/\plainS sg'=true:=fun hpl=>by
            rw [<- hPL] at hpl;simp only [Bool.and_eq_true] at hpl;have h1:plainE (e.sh fr)=true:=hpl.1;unfold plainE at h1;simp only [Bool.and_eq_true] at h1;exact ⟨by rw [<- hVL];exact h1.1,by rw [<- hNW];exact h1.2,hpl.2⟩
           have look2:∀ i x,look nw i=some x->look ((fr+8,Ent.own T sg')::nw) i=some x:=fun i x hx=>by
            obtain ⟨_,_,h2,_⟩:=newOK_spec hnew i x hx;simp only [look];rw [if_neg (by simp;omega)];exact hx
           have lookS:look ((fr+8,Ent.own T sg')::nw) (fr+8)=some (.own T sg'):=by simp [look]
           obtain ⟨e1s,e2s,e3s,us,e4s,e5s⟩:=hw2.ents _ _ lookS;have hb8:ρr.blk (fr+8)=ρ.blk id:=by simp [Map.blk,h8]
           have ho8:ρr.off (fr+8)=0:=by simp [Map.off,h8]
           rw [hb8] at e3s e5s
           let ST:Heap:=(id,.own T sg')::(kills (someIds rs)++(if pl then [] else kills (keepOwn hp (idsX hp rest))))
           have stRow:∀ k,k∈someIds rs->look ST k=some .gone:=fun k hk=>by
            simp only [ST,look];rw [if_neg (by simp;rintro rfl;exact hnid' hk),look_append,kills_mem hk]
           have stKeep:pl=false->∀ k,k∈keepOwn hp (idsX hp rest)->look ST k=some .gone:=fun hpl k hk=>by
            have hne:id≠k:=fun h=>disI_spec hdis (keepOwn_mem.1 hk).1 (h ▸ List.mem_cons_self ..)
            simp only [ST,look];rw [if_neg (by simpa using hne),look_append]
            cases hq:look (kills (someIds rs)) k with
            |some y=>rw [(kills_look hq).1]
            |none=>simp only [hpl];exact kills_mem hk
           let ρ2:Map:={m:=fun i=>if nin i (keys nw) then ρr i else ρ i,cap:=fun i=>if nin i (keys nw) then ρr.cap i else ρ.cap i,fz:=if pl then ρ.fz else ρr.fz,f0:=ρ.f0,mu:=ρ.mu,kid:=ρ.kid}
           have ag:∀ i,nin i (keys nw)=true -> ρ2 i=ρr i /\ ρ2.cap i=ρr.cap i:=fun i hi=>⟨by simp only [ρ2];rw [if_pos hi],by simp only [ρ2];rw [if_pos hi]⟩
           have off:∀ i,nin i (keys nw)=false -> ρ2 i=ρ i:=fun i hi=>by simp only [ρ2];rw [if_neg (by rw [hi];simp)]
           have oldKey:∀ i,(ρ i).isSome=true->nin i (keys nw)=false:=fun i hi=>by
            cases hn:nin i (keys nw) with
            |false=>rfl
            |true=>
             obtain ⟨x,hx⟩:=Option.isSome_iff_exists.1 (nin_keys.1 hn);rw [hfr i x hx] at hi;cases hi
           have fzle:FzLe ρ.fz ρr.fz:=fun b cs hb=>hw2.sub b cs (by rw [hf0];exact hfzle b cs hb)
           have ownNew:∀ i x,look nw i=some x->(ρr i).isSome=true->(w.heap.size<=ρr.blk i ∨ Killed ρ ST (ρr.blk i)) /\ ρr.fz (ρr.blk i)=none /\ ρr.blk i≠ρ.blk id:=fun i x hx hi=>by
            obtain ⟨ho,_,hlt,_⟩:=newOK_spec hnew i x hx;obtain ⟨hM,_⟩:=erel_some (hw2.ents i x (look2 i x hx)) (Ent.pl_own ho) hi;have hne:ρr.blk i≠ρ.blk id:=by
             rw [<- hb8];exact hw2.apart i (fr+8) x _ (look2 i x hx) lookS (Ent.pl_own ho) rfl (by omega) hi e1s
            refine ⟨?_,hM.2,hne⟩
            rcases hM.1 with h |h
            ·exact .inl h
            ·rw [hmu] at h;obtain ⟨k,hk,hks,hkb⟩:=inIds_iff.1 h
             rcases List.mem_cons.1 hk with rfl |hk
             ·exact absurd hkb.symm hne
             ·exact .inr ⟨k,stRow k hk,hks,hkb.symm⟩
           have blk2:∀ i,nin i (keys nw)=true -> ρ2.blk i=ρr.blk i:=fun i hi=>by simp [Map.blk,(ag i hi).1]
           have hzz:ρ2.fz=ρr.fz ∨ pl=true:=by
            cases hpl:pl with
            |true=>exact .inr rfl
            |false=>left;simp only [ρ2,hpl];rfl
           have hidB:ρ2 id=ρ id:=off id (oldKey id hid);have hbid:ρ2.blk id=ρ.blk id:=by simp [Map.blk,hidB]
           refine ⟨hs'.slots.defers,u,hu1,ρ2,u,rfl,ur_in ag (hzz.imp (fun h=>h) fun h=>(plOK h).1) hsv hu3,?_⟩;refine ⟨⟨fun i p hi=>?_,fun i hi=>?_,?_,rfl,rfl⟩,fun i hi=>?_,⟨hs'.mem.below.os,hs'.mem.below.tape,hs'.mem.below.output,hs'.mem.below.size,fun k hk=>absurd hk (Nat.not_lt_zero k)⟩,fun b hb' hno=>hs'.mem.below.block b hb' ?_,fun i x hx=>?_,fun i x hx=>?_,fun i j x y hx hy hne hii hjj=>?_,fun b cs hb=>?_,rfl⟩
           ·rw [off i (oldKey i (by rw [hi];rfl))];exact hi
           ·have:=oldKey i hi;simp only [ρ2];rw [if_neg (by rw [this];simp)]
           ·simp only [ρ2];split
            ·exact fun _ _ h=>h
            ·exact fzle
           ·have hi':look nw i=none:=hi;refine off i ?_
            cases hn:nin i (keys nw) with
            |false=>rfl
            |true=>rw [nin_keys,hi'] at hn;cases hn
           ·rw [hs'.mem.mu0];show mu b=false
            cases hmb:mu b with
            |false=>rfl
            |true=>
             exfalso;obtain ⟨k,hk,hks,hkb⟩:=inIds_iff.1 hmb
             rcases List.mem_cons.1 hk with rfl |hk
             ·exact hno k _ (by show look ST k=_;simp only [ST,look];rw [if_pos (by simp)]) hks hkb
             ·exact hno k _ (stRow k hk) hks hkb
           ·have hx':look ST i=some x:=hx;simp only [ST,look] at hx'
            split at hx'
            ·rename_i hi;obtain rfl:id=i:=by simpa using hi
             obtain rfl:=by simpa using hx'
             refine ⟨by rw [hidB];exact hid,by simp [Map.off,hidB];exact hoff,?_,us,csrel_in ag (hzz.imp (fun h=>h) fun h=>(plOK h).2.2) hsg e4s,by rw [hbid];exact e5s⟩;rw [hbid];refine ⟨hMine.1,?_⟩;simp only [ρ2];split
             ·exact hMine.2
             ·exact e3s.2
            ·rw [look_append] at hx'
             cases hq:look (kills (someIds rs)) i with
             |some y=>
              rw [hq] at hx';obtain rfl:=by simpa using hx'
              rw [(kills_look hq).1];trivial
             |none=>
              rw [hq] at hx';dsimp only at hx'
              split at hx'
              ·simp [look] at hx'
              ·rw [(kills_look hx').1];trivial
           ·have hx':look nw i=some x:=hx;obtain ⟨ho,_,_,hni⟩:=newOK_spec hnew i x hx';have hki:nin i (keys nw)=true:=nin_keys.2 (by rw [hx'];rfl);refine ⟨erel_in ag hki (hzz.imp (fun h=>h) fun h=>plainH_spec (plOK h).2.1 i x hx') hni (fun hi=>?_) (hw2.ents i x (look2 i x hx')),fun hi=>?_,ho⟩
            ·obtain ⟨g1,g2,_⟩:=ownNew i x hx' hi;refine ⟨?_,?_⟩
             ·rcases g1 with g1 |⟨k,hk,hks,hkb⟩
              ·exact .inl (by omega)
              ·have hk2:k∈id::someIds rs ∨ k∈keepOwn hp (idsX hp rest):=by
                have hk:look ST k=some .gone:=hk;simp only [ST,look] at hk
                split at hk
                ·cases hk
                ·rw [look_append] at hk
                 cases hq:look (kills (someIds rs)) k with
                 |some y=>exact .inl (List.mem_cons_of_mem _ (kills_look hq).2)
                 |none=>
                  rw [hq] at hk;dsimp only at hk
                  split at hk
                  ·simp [look] at hk
                  ·exact .inr (kills_look hk).2
               have:∃ x,look hp k=some x/\x.isOwn=true:=by
                rcases hk2 with h |h
                ·exact own_k k h hks
                ·have:=(keepOwn_mem.1 h).2;unfold ownId at this
                 split at this
                 ·rename_i y hy;exact ⟨y,hy,this⟩
                 ·cases this
               obtain ⟨y,hy,hyo⟩:=this;rw [hkb];exact (erel_some (hw.ents k y hy) hyo hks).1.1
             ·simp only [ρ2];split
              ·cases hc:ρ.fz (ρr.blk i) with
               |none=>rfl
               |some cs=>have:=fzle _ _ hc;rw [g2] at this;cases this
              ·exact g2
            ·rw [blk2 i hki];exact (ownNew i x hx' (by rw [<- (ag i hki).1];exact hi)).1
           ·have hx':look nw i=some x:=hx;have hy':look nw j=some y:=hy;have hki:nin i (keys nw)=true:=nin_keys.2 (by rw [hx'];rfl);have hkj:nin j (keys nw)=true:=nin_keys.2 (by rw [hy'];rfl);rw [blk2 i hki,blk2 j hkj];exact hw2.apart i j x y (look2 i x hx') (look2 j y hy') (Ent.pl_own (newOK_spec hnew i x hx').1) (Ent.pl_own (newOK_spec hnew j y hy').1) hne (by rw [<- (ag i hki).1];exact hii) (by rw [<- (ag j hkj).1];exact hjj)
           ·by_cases hpl':pl=true
            ·left
             have:ρ2.fz b=some cs:=hb;simp only [ρ2,hpl',if_pos] at this;exact this
            ·have hpl:pl=false:=by simpa using hpl'
             have hb2:ρr.fz b=some cs:=by
              have:ρ2.fz b=some cs:=hb;simp only [ρ2,hpl] at this;exact this
             have hnw:∀ i x,look nw i=some x->(ρ2 i).isSome=true -> ρ2.blk i≠b:=fun i x hx hi hbb=>by
              have hki:nin i (keys nw)=true:=nin_keys.2 (by rw [hx];rfl);obtain ⟨_,g2,_⟩:=ownNew i x hx (by rw [<- (ag i hki).1];exact hi);rw [<- blk2 i hki,hbb,hb2] at g2;cases g2
             rcases hw2.old b cs hb2 with h1 |h1 |h1
             ·rw [hf0,<- hF] at h1
              rcases passF_some h1 with h2 |⟨⟨i,hi,hsi,hbi⟩,_⟩
              ·exact .inl h2
              ·refine .inr ⟨.inr ⟨i,stKeep hpl i hi,hsi,hbi.symm⟩,hw2.froz b cs hb2,hnw⟩
             ·exact .inr ⟨.inl h1,hw2.froz b cs hb2,hnw⟩
             ·rw [hmu] at h1;obtain ⟨k,hk,hks,hkb⟩:=inIds_iff.1 h1
              rcases List.mem_cons.1 hk with rfl |hk
              ·have:=e3s.2;rw [hkb,hb2] at this;cases this
              ·exact .inr ⟨.inr ⟨k,stRow k hk,hks,hkb.symm⟩,hw2.froz b cs hb2,hnw⟩
           ·exact hk.elim
           ·exact hk.elim
          ·exact hk.elim
         cases ex with
         |normal=>simp only [exOf,Option.some.injEq] at hex;subst hex;exact done hk
         |ret=>simp only [exOf,Option.some.injEq] at hex;subst hex;exact done hk
         |exit i=>simp only [exOf,Option.some.injEq] at hex;subst hex;exact hk.elim
         |goto l=>cases hex
         |panic ch=>cases hex
         |outgrown=>cases hex
        ·intro t x hx;obtain ⟨_,h2⟩:=slots0_look _ 0 t x hx;obtain ⟨v,hv,hr⟩:=args_get hargsC (by simpa using h2);have hlt:=lt_of_get hv;have:((v0::vb::vr).toArray++Array.replicate (fn.ntmps-(v0::vb::vr).toArray.size) undef).getD t undef=v:=by
          simp only [Array.getD_eq_getD_getElem?];rw [Array.getElem?_append_left (by simpa using hlt),List.getElem?_toArray,hv];rfl
         rw [this];exact ur_vrel hr
      ·cases h0
     ·cases h0
    ·cases h0
   ·cases h0
  ·cases h0
 ·cases h0
def ObB (tt:TT) (nt:Nat) (A:Ann) (c:Code) (rs:List ResultVar) (T:TypeId) (ms:List AM) (g:FuncId) (aps:List AP) (ds:List Dat):Option (Eff × List Seg)->Prop
 |some (e,sg)=>(match unM ms ds 1 with
  |some (sM,hM,rest,id1)=>(match unP aps rest id1 with
   |some (svs,h,id)=>AllI e.vc (sx tt nt A (LFb true) c (retM tt rs e T sg) {tm:=slots0 (.one (.sc (.ptr 0 (.lit 0))) :: .one (.sc (.bm g 0))::svs) 0,hp:=(0,.own T sM)::(hM++h),nx:=id})
   |none=>True)
  |none=>True)
 |none=>True
theorem fn_obB {P:Program} {tt:TT} (htt:TTOK P tt) (hm:P.follows .mixedOrders=true) {f:FuncId} {fn:Func} {c:Code} (hf:P.funcs[f]? = some fn) (hb:fn.body=some c) (hen:∀ (args:Array Value) (w:World),(callFunc f args).run P w = .ok (.enter f args) w)
 {A:List Dat->Ann} (hC:∀ ds id,CtxOK P ((A ds).C id)) {T:TypeId} {ms:List AM} {g:FuncId} {aps:List AP} {spec:List Dat->Option (Eff × List Seg)} (hn:Nat.ble (aps.length+2) fn.ntmps=true)
 (H:∀ ds,ObB tt fn.ntmps (A ds) c fn.results.toList T ms g aps ds (spec ds)):ConOK P f (conB T ms g aps spec):=
 fn_okB htt hm hf hb hen hC hn fun ds e sg sM hM rest id1 svs h id he hvc h1 h2=>by
  have:=H ds;unfold ObB at this;rw [he] at this;dsimp only at this;rw [h1] at this;dsimp only at this;rw [h2] at this;exact allI_iff.1 this hvc
end Go.Proofs.YtplejbgafjpomaaGreatDoor.Sx
namespace Go.Proofs.YtplejbgafjpomaaGreatDoor.Sx.Z
open Go.RowKit
def rdOK (ws:D) (nx:Int):Prop:=0<=nx/\nx<=ws.len/\ws.len<=1000000
def pkK (ws:D) (nx:Int):Int:=if nx<ws.len then (ws.el nx.toNat 0).toI else 0
def pkS (ws:D) (nx:Int):ByteArray:=if nx<ws.len then (ws.el nx.toNat 1).toS else ByteArray.empty
def pkN (ws:D) (nx:Int):Int:=if nx<ws.len then (ws.el nx.toNat 2).toI else 0
def pkA (ws:D) (nx en:Int):Int:=if nx<ws.len then (ws.el nx.toNat 3).toI else en
def acB (ws:D) (nx:Int) (t:ByteArray):Bool:=(pkS ws nx).toList==t.toList
structure Rd where
 nx:Int
 pa:Int
 er:Int
def mR (nx pa er:Int):Rd:=⟨nx,pa,er⟩
def fl (ws:D) (en e:Int) (r:Rd):Rd:=if r.er=0 then ⟨ws.len,pkA ws r.nx en,e⟩ else ⟨ws.len,r.pa,r.er⟩
def gx (r:Rd):Rd:=⟨r.nx+1,r.pa,r.er⟩
def acR (ws:D) (t:ByteArray) (r:Rd):Rd:=if acB ws r.nx t=true then gx r else r
def exR (ws:D) (en:Int) (t:ByteArray) (r:Rd):Rd:=if acB ws r.nx t=true then gx r else fl ws en 5 r
def neR (ws:D) (en:Int) (t:ByteArray) (dp:Int) (r:Rd):Rd:=if acB ws r.nx t=true/\24<=dp then fl ws en 6 r else exR ws en t r
def nmR (ws:D) (en:Int) (r:Rd):Rd:=if pkK ws r.nx=1 then gx r else fl ws en 5 r
def nmS (ws:D) (r:Rd):ByteArray:=if pkK ws r.nx=1 then pkS ws r.nx else ByteArray.empty
def nuR (ws:D) (en:Int) (r:Rd):Rd:=if pkK ws r.nx=2 then gx r else fl ws en 5 r
def nuN (ws:D) (r:Rd):Int:=if pkK ws r.nx=2 then pkN ws r.nx else 0
def fiR (ws:D) (en:Int) (r:Rd):Rd:=if r.nx<ws.len then fl ws en 5 r else r
theorem acR_no {ws:D} {t:ByteArray} {r:Rd} (h:acB ws r.nx t=false):acR ws t r=r:=if_neg (by rw [h];decide)
theorem acR_yes {ws:D} {t:ByteArray} {r:Rd} (h:acB ws r.nx t=true):acR ws t r=gx r:=if_pos h
theorem exR_no {ws:D} {en:Int} {t:ByteArray} {r:Rd} (h:acB ws r.nx t=false):exR ws en t r=fl ws en 5 r:=if_neg (by rw [h];decide)
theorem exR_yes {ws:D} {en:Int} {t:ByteArray} {r:Rd} (h:acB ws r.nx t=true):exR ws en t r=gx r:=if_pos h
theorem pk_lt {ws:D} {nx:Int} (h:pkK ws nx≠0):nx<ws.len:=by
 apply Decidable.byContradiction
 intro hn;unfold pkK at h;rw [if_neg hn] at h;exact h rfl
theorem nx1 {ws:D} {nx:Int} (h:rdOK ws nx) (h2:nx<ws.len):IntKind.i64.wrap (nx+1)=nx+1:=by
 obtain ⟨a,b,c⟩:=h;rw [IntWalk.i64_in _ (by omega)]
theorem ac_lt {ws:D} {nx:Int} {t:ByteArray} (ht:0<t.size) (h:acB ws nx t=true):nx<ws.len:=by
 apply Decidable.byContradiction
 intro hn;unfold acB pkS at h;rw [if_neg hn] at h;have:t.toList=[]:=(eq_of_beq h).symm.trans (by rw [ByteArray.toList_eq];rfl);have h2:t.data.toList=[]:=by rw [ByteArray.toList_eq] at this;exact this
 have h3:t.data.toList.length=t.size:=Array.length_toList;rw [h2] at h3;have:(0:Nat)=t.size:=h3;omega
noncomputable def pekS:List Dat->Option (Eff × List Seg):=fun ds=>match ds with
 | [.d ws,.i nx,.i en,.i pa,.i er]=>some ({val:=.one (.agg [.c (.int .i64 (.sym (pkK ws nx))),.c (.raw (.string (pkS ws nx))),.c (.int .i64 (.sym (pkN ws nx))),.c (.int .i64 (.sym (pkA ws nx en)))]),vc:=[rdOK ws nx]},[.c (.rows 202 ws),.c (.int .i64 (.sym (nx))),.c (.int .i64 (.sym en)),.c (.int .i64 (.sym (pa))),.c (.int .i64 (.sym (er)))])
 |_=>none
noncomputable def pekC:Con:=conM 135 [.c (.rows 202),.c (.int .i64),.c (.int .i64),.c (.int .i64),.c (.int .i64)] [] pekS
theorem pek_ok:ConOK Tryz.prog 118 pekC:=by
 refine fn_obM tt_ok mixed Tryz.func118 rfl (fun _ _=>by kernel_rfl) (A:=fun ds=>⟨fun _=>Cons.of [],fun _=>none,fun _=>none⟩) (fun _ _=>cons_nil) (by kernel_rfl) ?_
 intro ds;unfold pekS;split
 ·rename_i ws nx en pa er;refine kmp (q:=rdOK ws nx->(decide (nx<(ws.len:Int))=true->((0:Int)<=nx/\nx<(ws.len:Int))/\(ws.el nx.toNat 0).toI=pkK ws nx/\Value.string (ws.el nx.toNat 1).toS=Value.string (pkS ws nx)/\(ws.el nx.toNat 2).toI=pkN ws nx/\(ws.el nx.toNat 3).toI=pkA ws nx en/\ws.rows=ws.rows/\nx=nx/\en=en/\pa=pa/\er=er)/\(decide (nx<(ws.len:Int))=false->(0:Int)=pkK ws nx/\Value.string ByteArray.empty=Value.string (pkS ws nx)/\(0:Int)=pkN ws nx/\en=pkA ws nx en/\ws.rows=ws.rows/\nx=nx/\en=en/\pa=pa/\er=er)) (by kernel_rfl) ?_
  rintro ⟨h0,h1,h2⟩;unfold pkK pkS pkN pkA;refine ⟨fun h=>?_,fun h=>?_⟩
  ·have h:=of_decide_eq_true h;simp only [if_pos h]
   (repeat' (with_reducible apply And.intro))<;>first |with_reducible rfl |exact True.intro |assumption |(symm;assumption) |rfl
  ·have h:=of_decide_eq_false h;simp only [if_neg h]
   (repeat' (with_reducible apply And.intro))<;>first |with_reducible rfl |exact True.intro |assumption |(symm;assumption) |rfl
 ·trivial
noncomputable def falS:List Dat->Option (Eff × List Seg):=fun ds=>match ds with
 | [.d ws,.i nx,.i en,.i pa,.i er,.i e]=>some ({val:=.tup [],vc:=[rdOK ws nx]},[.c (.rows 202 ws),.c (.int .i64 (.sym ((fl ws en e (mR nx pa er)).nx))),.c (.int .i64 (.sym en)),.c (.int .i64 (.sym ((fl ws en e (mR nx pa er)).pa))),.c (.int .i64 (.sym ((fl ws en e (mR nx pa er)).er)))])
 |_=>none
noncomputable def falC:Con:=conM 135 [.c (.rows 202),.c (.int .i64),.c (.int .i64),.c (.int .i64),.c (.int .i64)] [.sc (.int .i64)] falS
theorem fal_ok:ConOK Tryz.prog 124 falC:=by
 refine fn_obM tt_ok mixed Tryz.func124 rfl (fun _ _=>by kernel_rfl) (A:=fun ds=>⟨fun _=>Cons.of [(118,pekC)],fun _=>none,fun _=>none⟩) (fun _ _=>(cons_cons pek_ok cons_nil)) (by kernel_rfl) ?_
 intro ds;unfold falS;split
 ·rename_i ws nx en pa er e;refine kmp (q:=rdOK ws nx->((er==(0:Int))=true->rdOK ws nx/\ws.rows=ws.rows/\(ws.len:Int)=(fl ws en e (mR nx pa er)).nx/\en=en/\pkA ws nx en=(fl ws en e (mR nx pa er)).pa/\e=(fl ws en e (mR nx pa er)).er)/\((er==(0:Int))=false->ws.rows=ws.rows/\(ws.len:Int)=(fl ws en e (mR nx pa er)).nx/\en=en/\pa=(fl ws en e (mR nx pa er)).pa/\er=(fl ws en e (mR nx pa er)).er)) (by kernel_rfl) ?_
  intro h;unfold fl mR;refine ⟨fun h0=>?_,fun h0=>?_⟩
  ·rw [if_pos (eq_of_beq h0)]
   (repeat' (with_reducible apply And.intro))<;>first |with_reducible rfl |exact True.intro |assumption |(symm;assumption) |rfl
  ·rw [if_neg (ne_of_beq_false h0)]
   (repeat' (with_reducible apply And.intro))<;>first |with_reducible rfl |exact True.intro |assumption |(symm;assumption) |rfl
 ·trivial
noncomputable def accS:List Dat->Option (Eff × List Seg):=fun ds=>match ds with
 | [.d ws,.i nx,.i en,.i pa,.i er,.s t]=>some ({val:=.one (.sc (.bool (.sym (acB ws nx t)))),vc:=[rdOK ws nx,0<t.size]},[.c (.rows 202 ws),.c (.int .i64 (.sym ((acR ws t (mR nx pa er)).nx))),.c (.int .i64 (.sym en)),.c (.int .i64 (.sym ((acR ws t (mR nx pa er)).pa))),.c (.int .i64 (.sym ((acR ws t (mR nx pa er)).er)))])
 |_=>none
noncomputable def accC:Con:=conM 135 [.c (.rows 202),.c (.int .i64),.c (.int .i64),.c (.int .i64),.c (.int .i64)] [.sc .str] accS
theorem acc_ok:ConOK Tryz.prog 71 accC:=by
 refine fn_obM tt_ok mixed Tryz.func71 rfl (fun _ _=>by kernel_rfl) (A:=fun ds=>⟨fun _=>Cons.of [(118,pekC)],fun _=>none,fun _=>none⟩) (fun _ _=>(cons_cons pek_ok cons_nil)) (by kernel_rfl) ?_
 intro ds;unfold accS;split
 ·rename_i ws nx en pa er t;refine kmp (q:=rdOK ws nx->0<t.size->rdOK ws nx/\((!(pkS ws nx).toList==t.toList)=true->false=acB ws nx t/\ws.rows=ws.rows/\nx=(acR ws t (mR nx pa er)).nx/\en=en/\pa=(acR ws t (mR nx pa er)).pa/\er=(acR ws t (mR nx pa er)).er)/\((!(pkS ws nx).toList==t.toList)=false->true=acB ws nx t/\ws.rows=ws.rows/\IntKind.i64.wrap (nx+1)=(acR ws t (mR nx pa er)).nx/\en=en/\pa=(acR ws t (mR nx pa er)).pa/\er=(acR ws t (mR nx pa er)).er)) (by kernel_rfl) ?_
  intro h ht;refine ⟨h,fun hc=>?_,fun hc=>?_⟩
  ·have hc:acB ws nx t=false:=by simpa [acB] using hc
   unfold acR;rw [show acB ws (mR nx pa er).nx t=false from hc]
   (repeat' (with_reducible apply And.intro))<;>first |with_reducible rfl |exact True.intro |assumption |(symm;assumption) |rfl
  ·have hc:acB ws nx t=true:=by simpa [acB] using hc
   unfold acR;rw [nx1 h (ac_lt ht hc),if_pos (show acB ws (mR nx pa er).nx t=true from hc)]
   (repeat' (with_reducible apply And.intro))<;>first |with_reducible rfl |exact True.intro |assumption |(symm;assumption) |rfl
 ·trivial
noncomputable def expS:List Dat->Option (Eff × List Seg):=fun ds=>match ds with
 | [.d ws,.i nx,.i en,.i pa,.i er,.s t]=>some ({val:=.tup [],vc:=[rdOK ws nx,0<t.size]},[.c (.rows 202 ws),.c (.int .i64 (.sym ((exR ws en t (mR nx pa er)).nx))),.c (.int .i64 (.sym en)),.c (.int .i64 (.sym ((exR ws en t (mR nx pa er)).pa))),.c (.int .i64 (.sym ((exR ws en t (mR nx pa er)).er)))])
 |_=>none
noncomputable def expC:Con:=conM 135 [.c (.rows 202),.c (.int .i64),.c (.int .i64),.c (.int .i64),.c (.int .i64)] [.sc .str] expS
theorem exp_ok:ConOK Tryz.prog 122 expC:=by
 refine fn_obM tt_ok mixed Tryz.func122 rfl (fun _ _=>by kernel_rfl) (A:=fun ds=>⟨fun _=>Cons.of [(71,accC),(124,falC)],fun _=>none,fun _=>none⟩) (fun _ _=>(cons_cons acc_ok (cons_cons fal_ok cons_nil))) (by kernel_rfl) ?_
 intro ds;unfold expS;split
 ·rename_i ws nx en pa er t;refine kmp (q:=rdOK ws nx->0<t.size->rdOK ws nx/\0<t.size/\((!acB ws nx t)=true->rdOK ws (acR ws t (mR nx pa er)).nx/\ws.rows=ws.rows/\(fl ws en (5:Int) (mR (acR ws t (mR nx pa er)).nx (acR ws t (mR nx pa er)).pa (acR ws t (mR nx pa er)).er)).nx=(exR ws en t (mR nx pa er)).nx/\en=en/\(fl ws en (5:Int) (mR (acR ws t (mR nx pa er)).nx (acR ws t (mR nx pa er)).pa (acR ws t (mR nx pa er)).er)).pa=(exR ws en t (mR nx pa er)).pa/\(fl ws en (5:Int) (mR (acR ws t (mR nx pa er)).nx (acR ws t (mR nx pa er)).pa (acR ws t (mR nx pa er)).er)).er=(exR ws en t (mR nx pa er)).er)/\((!acB ws nx t)=false->ws.rows=ws.rows/\(acR ws t (mR nx pa er)).nx=(exR ws en t (mR nx pa er)).nx/\en=en/\(acR ws t (mR nx pa er)).pa=(exR ws en t (mR nx pa er)).pa/\(acR ws t (mR nx pa er)).er=(exR ws en t (mR nx pa er)).er)) (by kernel_rfl) ?_
  intro h ht;refine ⟨h,ht,fun hc=>?_,fun hc=>?_⟩
  ·have hc:acB ws nx t=false:=by simpa using hc
   rw [acR_no (r:=mR nx pa er) hc,exR_no (r:=mR nx pa er) hc]
   (repeat' (with_reducible apply And.intro))<;>first |with_reducible rfl |exact True.intro |assumption |(symm;assumption) |rfl
  ·have hc:acB ws nx t=true:=by simpa using hc
   rw [acR_yes (r:=mR nx pa er) hc,exR_yes (r:=mR nx pa er) hc]
   (repeat' (with_reducible apply And.intro))<;>first |with_reducible rfl |exact True.intro |assumption |(symm;assumption) |rfl
 ·trivial
noncomputable def nstS:List Dat->Option (Eff × List Seg):=fun ds=>match ds with
 | [.d ws,.i nx,.i en,.i pa,.i er,.s t,.i dp]=>some ({val:=.tup [],vc:=[rdOK ws nx,0<t.size]},[.c (.rows 202 ws),.c (.int .i64 (.sym ((neR ws en t dp (mR nx pa er)).nx))),.c (.int .i64 (.sym en)),.c (.int .i64 (.sym ((neR ws en t dp (mR nx pa er)).pa))),.c (.int .i64 (.sym ((neR ws en t dp (mR nx pa er)).er)))])
 |_=>none
noncomputable def nstC:Con:=conM 135 [.c (.rows 202),.c (.int .i64),.c (.int .i64),.c (.int .i64),.c (.int .i64)] [.sc .str,.sc (.int .i64)] nstS
theorem nst_ok:ConOK Tryz.prog 182 nstC:=by
 refine fn_obM tt_ok mixed Tryz.func182 rfl (fun _ _=>by kernel_rfl) (A:=fun ds=>⟨fun _=>Cons.of [(118,pekC),(122,expC),(124,falC)],fun _=>none,fun _=>none⟩) (fun _ _=>(cons_cons pek_ok (cons_cons exp_ok (cons_cons fal_ok cons_nil)))) (by kernel_rfl) ?_
 intro ds;unfold nstS;split
 ·rename_i ws nx en pa er t dp;refine kmp (q:=rdOK ws nx->0<t.size->rdOK ws nx/\(((pkS ws nx).toList==t.toList&&decide (dp>=(24:Int)))=true->rdOK ws nx/\ws.rows=ws.rows/\(fl ws en (6:Int) (mR nx pa er)).nx=(neR ws en t dp (mR nx pa er)).nx/\en=en/\(fl ws en (6:Int) (mR nx pa er)).pa=(neR ws en t dp (mR nx pa er)).pa/\(fl ws en (6:Int) (mR nx pa er)).er=(neR ws en t dp (mR nx pa er)).er)/\(((pkS ws nx).toList==t.toList&&decide (dp>=(24:Int)))=false->rdOK ws nx/\0<t.size/\ws.rows=ws.rows/\(exR ws en t (mR nx pa er)).nx=(neR ws en t dp (mR nx pa er)).nx/\en=en/\(exR ws en t (mR nx pa er)).pa=(neR ws en t dp (mR nx pa er)).pa/\(exR ws en t (mR nx pa er)).er=(neR ws en t dp (mR nx pa er)).er)) (by kernel_rfl) ?_
  intro h ht;refine ⟨h,fun hc=>?_,fun hc=>?_⟩
  ·have hc:acB ws nx t=true/\24<=dp:=by
    have:(acB ws nx t&&decide (dp>=24))=true:=hc
    simpa using this
   have e:neR ws en t dp (mR nx pa er)=fl ws en 6 (mR nx pa er):=if_pos hc;rw [e]
   (repeat' (with_reducible apply And.intro))<;>first |with_reducible rfl |exact True.intro |assumption |(symm;assumption) |rfl
  ·have hc:¬ (acB ws nx t=true/\24<=dp):=by
    have:(acB ws nx t&&decide (dp>=24))=false:=hc;intro hx;rw [hx.1,decide_eq_true (show dp>=24 from hx.2)] at this
    cases this
   have e:neR ws en t dp (mR nx pa er)=exR ws en t (mR nx pa er):=if_neg hc;rw [e]
   (repeat' (with_reducible apply And.intro))<;>first |with_reducible rfl |exact True.intro |assumption |(symm;assumption) |rfl
 ·trivial
noncomputable def namS:List Dat->Option (Eff × List Seg):=fun ds=>match ds with
 | [.d ws,.i nx,.i en,.i pa,.i er]=>some ({val:=.one (.sc (.raw (.string (nmS ws (mR nx pa er))))),vc:=[rdOK ws nx]},[.c (.rows 202 ws),.c (.int .i64 (.sym ((nmR ws en (mR nx pa er)).nx))),.c (.int .i64 (.sym en)),.c (.int .i64 (.sym ((nmR ws en (mR nx pa er)).pa))),.c (.int .i64 (.sym ((nmR ws en (mR nx pa er)).er)))])
 |_=>none
noncomputable def namC:Con:=conM 135 [.c (.rows 202),.c (.int .i64),.c (.int .i64),.c (.int .i64),.c (.int .i64)] [] namS
theorem nam_ok:ConOK Tryz.prog 119 namC:=by
 refine fn_obM tt_ok mixed Tryz.func119 rfl (fun _ _=>by kernel_rfl) (A:=fun ds=>⟨fun _=>Cons.of [(118,pekC),(124,falC)],fun _=>none,fun _=>none⟩) (fun _ _=>(cons_cons pek_ok (cons_cons fal_ok cons_nil))) (by kernel_rfl) ?_
 intro ds;unfold namS;split
 ·rename_i ws nx en pa er;refine kmp (q:=rdOK ws nx->rdOK ws nx/\((pkK ws nx != (1:Int))=true->rdOK ws nx/\Value.string (ByteArray.mk #[])=Value.string (nmS ws (mR nx pa er))/\ws.rows=ws.rows/\(fl ws en (5:Int) (mR nx pa er)).nx=(nmR ws en (mR nx pa er)).nx/\en=en/\(fl ws en (5:Int) (mR nx pa er)).pa=(nmR ws en (mR nx pa er)).pa/\(fl ws en (5:Int) (mR nx pa er)).er=(nmR ws en (mR nx pa er)).er)/\((pkK ws nx != (1:Int))=false->Value.string (pkS ws nx)=Value.string (nmS ws (mR nx pa er))/\ws.rows=ws.rows/\IntKind.i64.wrap (nx+1)=(nmR ws en (mR nx pa er)).nx/\en=en/\pa=(nmR ws en (mR nx pa er)).pa/\er=(nmR ws en (mR nx pa er)).er)) (by kernel_rfl) ?_
  intro h;refine ⟨h,fun hc=>?_,fun hc=>?_⟩
  ·have hc:pkK ws nx≠1:=by simpa using hc
   have e:nmR ws en (mR nx pa er)=fl ws en 5 (mR nx pa er):=if_neg hc;have e2:nmS ws (mR nx pa er)=ByteArray.empty:=if_neg hc;rw [e,e2]
   (repeat' (with_reducible apply And.intro))<;>first |with_reducible rfl |exact True.intro |assumption |(symm;assumption) |rfl
  ·have hc:pkK ws nx=1:=by simpa using hc
   have e:nmR ws en (mR nx pa er)=gx (mR nx pa er):=if_pos hc;have e2:nmS ws (mR nx pa er)=pkS ws nx:=if_pos hc;rw [e,e2,nx1 h (pk_lt (by rw [hc];decide))]
   (repeat' (with_reducible apply And.intro))<;>first |with_reducible rfl |exact True.intro |assumption |(symm;assumption) |rfl
 ·trivial
noncomputable def numS:List Dat->Option (Eff × List Seg):=fun ds=>match ds with
 | [.d ws,.i nx,.i en,.i pa,.i er]=>some ({val:=.one (.sc (.int .i64 (.sym (nuN ws (mR nx pa er))))),vc:=[rdOK ws nx]},[.c (.rows 202 ws),.c (.int .i64 (.sym ((nuR ws en (mR nx pa er)).nx))),.c (.int .i64 (.sym en)),.c (.int .i64 (.sym ((nuR ws en (mR nx pa er)).pa))),.c (.int .i64 (.sym ((nuR ws en (mR nx pa er)).er)))])
 |_=>none
noncomputable def numC:Con:=conM 135 [.c (.rows 202),.c (.int .i64),.c (.int .i64),.c (.int .i64),.c (.int .i64)] [] numS
theorem num_ok:ConOK Tryz.prog 121 numC:=by
 refine fn_obM tt_ok mixed Tryz.func121 rfl (fun _ _=>by kernel_rfl) (A:=fun ds=>⟨fun _=>Cons.of [(118,pekC),(124,falC)],fun _=>none,fun _=>none⟩) (fun _ _=>(cons_cons pek_ok (cons_cons fal_ok cons_nil))) (by kernel_rfl) ?_
 intro ds;unfold numS;split
 ·rename_i ws nx en pa er;refine kmp (q:=rdOK ws nx->rdOK ws nx/\((pkK ws nx != (2:Int))=true->rdOK ws nx/\(0:Int)=nuN ws (mR nx pa er)/\ws.rows=ws.rows/\(fl ws en (5:Int) (mR nx pa er)).nx=(nuR ws en (mR nx pa er)).nx/\en=en/\(fl ws en (5:Int) (mR nx pa er)).pa=(nuR ws en (mR nx pa er)).pa/\(fl ws en (5:Int) (mR nx pa er)).er=(nuR ws en (mR nx pa er)).er)/\((pkK ws nx != (2:Int))=false->pkN ws nx=nuN ws (mR nx pa er)/\ws.rows=ws.rows/\IntKind.i64.wrap (nx+1)=(nuR ws en (mR nx pa er)).nx/\en=en/\pa=(nuR ws en (mR nx pa er)).pa/\er=(nuR ws en (mR nx pa er)).er)) (by kernel_rfl) ?_
  intro h;refine ⟨h,fun hc=>?_,fun hc=>?_⟩
  ·have hc:pkK ws nx≠2:=by simpa using hc
   have e:nuR ws en (mR nx pa er)=fl ws en 5 (mR nx pa er):=if_neg hc;have e2:nuN ws (mR nx pa er)=0:=if_neg hc;rw [e,e2]
   (repeat' (with_reducible apply And.intro))<;>first |with_reducible rfl |exact True.intro |assumption |(symm;assumption) |rfl
  ·have hc:pkK ws nx=2:=by simpa using hc
   have e:nuR ws en (mR nx pa er)=gx (mR nx pa er):=if_pos hc;have e2:nuN ws (mR nx pa er)=pkN ws nx:=if_pos hc;rw [e,e2,nx1 h (pk_lt (by rw [hc];decide))]
   (repeat' (with_reducible apply And.intro))<;>first |with_reducible rfl |exact True.intro |assumption |(symm;assumption) |rfl
 ·trivial
noncomputable def finS:List Dat->Option (Eff × List Seg):=fun ds=>match ds with
 | [.d ws,.i nx,.i en,.i pa,.i er]=>some ({val:=.tup [],vc:=[rdOK ws nx]},[.c (.rows 202 ws),.c (.int .i64 (.sym ((fiR ws en (mR nx pa er)).nx))),.c (.int .i64 (.sym en)),.c (.int .i64 (.sym ((fiR ws en (mR nx pa er)).pa))),.c (.int .i64 (.sym ((fiR ws en (mR nx pa er)).er)))])
 |_=>none
noncomputable def finC:Con:=conM 135 [.c (.rows 202),.c (.int .i64),.c (.int .i64),.c (.int .i64),.c (.int .i64)] [] finS
theorem fin_ok:ConOK Tryz.prog 75 finC:=by
 refine fn_obM tt_ok mixed Tryz.func75 rfl (fun _ _=>by kernel_rfl) (A:=fun ds=>⟨fun _=>Cons.of [(124,falC)],fun _=>none,fun _=>none⟩) (fun _ _=>(cons_cons fal_ok cons_nil)) (by kernel_rfl) ?_
 intro ds;unfold finS;split
 ·rename_i ws nx en pa er;refine kmp (q:=rdOK ws nx->(decide (nx<(ws.len:Int))=true->rdOK ws nx/\ws.rows=ws.rows/\(fl ws en (5:Int) (mR nx pa er)).nx=(fiR ws en (mR nx pa er)).nx/\en=en/\(fl ws en (5:Int) (mR nx pa er)).pa=(fiR ws en (mR nx pa er)).pa/\(fl ws en (5:Int) (mR nx pa er)).er=(fiR ws en (mR nx pa er)).er)/\(decide (nx<(ws.len:Int))=false->ws.rows=ws.rows/\nx=(fiR ws en (mR nx pa er)).nx/\en=en/\pa=(fiR ws en (mR nx pa er)).pa/\er=(fiR ws en (mR nx pa er)).er)) (by kernel_rfl) ?_
  intro h;refine ⟨fun hc=>?_,fun hc=>?_⟩
  ·have e:fiR ws en (mR nx pa er)=fl ws en 5 (mR nx pa er):=if_pos (of_decide_eq_true hc);rw [e]
   (repeat' (with_reducible apply And.intro))<;>first |with_reducible rfl |exact True.intro |assumption |(symm;assumption) |rfl
  ·have e:fiR ws en (mR nx pa er)=mR nx pa er:=if_neg (of_decide_eq_false hc);rw [e]
   (repeat' (with_reducible apply And.intro))<;>first |with_reducible rfl |exact True.intro |assumption |(symm;assumption) |rfl
 ·trivial
def skK (s:ByteArray):Int:=if (s.toList==(⟨#[43]⟩:ByteArray).toList)=true then 4 else if (s.toList==(⟨#[45]⟩:ByteArray).toList)=true then 5 else 0
def pdK (s:ByteArray):Int:=if (s.toList==(⟨#[42]⟩:ByteArray).toList)=true then 6 else if (s.toList==(⟨#[47]⟩:ByteArray).toList)=true then 7 else if (s.toList==(⟨#[37]⟩:ByteArray).toList)=true then 8 else 0
def coK (s:ByteArray):Int:=if (s.toList==(⟨#[61,61]⟩:ByteArray).toList)=true then 1 else if (s.toList==(⟨#[33,61]⟩:ByteArray).toList)=true then 2 else if (s.toList==(⟨#[60]⟩:ByteArray).toList)=true then 3 else if (s.toList==(⟨#[60,61]⟩:ByteArray).toList)=true then 4 else if (s.toList==(⟨#[62]⟩:ByteArray).toList)=true then 5 else if (s.toList==(⟨#[62,61]⟩:ByteArray).toList)=true then 6 else 0
theorem sk_e:skK ByteArray.empty=0:=by decide +kernel
theorem pd_e:pdK ByteArray.empty=0:=by decide +kernel
theorem co_e:coK ByteArray.empty=0:=by decide +kernel
theorem pk_of {ws:D} {nx:Int} {f:ByteArray->Int} (he:f ByteArray.empty=0) (h:f (pkS ws nx)≠0):nx<ws.len:=by
 apply Decidable.byContradiction
 intro hn;unfold pkS at h;rw [if_neg hn] at h;exact h he
theorem if_no {b:Bool} (h:b=false) {x y:Int}:(if b=true then x else y)=y:=if_neg (by rw [h];decide)
noncomputable def skdS:FSpec:=fun ds _=>match ds with
 | [.s s]=>some {val:=.one (.sc (.int .i64 (.sym (skK s)))),vc:=[]}
 |_=>none
noncomputable def skdC:Con:=con [.sc .str] skdS
theorem skd_ok:ConOK Tryz.prog 185 skdC:=by
 refine fn_ob tt_ok mixed Tryz.func185 rfl (fun _ _=>by kernel_rfl) (A:=fun ds=>⟨fun _=>Cons.of [],fun _=>none,fun _=>none⟩) (fun _ _=>cons_nil) (by kernel_rfl) ?_
 intro ds fr;unfold skdS;split
 ·rename_i s;refine kmp (q:=((s.toList==(ByteArray.mk #[43]).toList)=true->(4:Int)=skK s)/\((s.toList==(ByteArray.mk #[43]).toList)=false->((s.toList==(ByteArray.mk #[45]).toList)=true->(5:Int)=skK s)/\((s.toList==(ByteArray.mk #[45]).toList)=false->(0:Int)=skK s))) (by kernel_rfl) ?_
  unfold skK;refine ⟨fun h=>?_,fun h0=>?_⟩
  ·rw [if_pos h]
  refine ⟨fun h=>?_,fun h1=>?_⟩
  ·rw [if_no h0,if_pos h]
  rw [if_no h0,if_no h1]
 ·trivial
noncomputable def pkdS:FSpec:=fun ds _=>match ds with
 | [.s s]=>some {val:=.one (.sc (.int .i64 (.sym (pdK s)))),vc:=[]}
 |_=>none
noncomputable def pkdC:Con:=con [.sc .str] pkdS
theorem pkd_ok:ConOK Tryz.prog 196 pkdC:=by
 refine fn_ob tt_ok mixed Tryz.func196 rfl (fun _ _=>by kernel_rfl) (A:=fun ds=>⟨fun _=>Cons.of [],fun _=>none,fun _=>none⟩) (fun _ _=>cons_nil) (by kernel_rfl) ?_
 intro ds fr;unfold pkdS;split
 ·rename_i s;refine kmp (q:=((s.toList==(ByteArray.mk #[42]).toList)=true->(6:Int)=pdK s)/\((s.toList==(ByteArray.mk #[42]).toList)=false->((s.toList==(ByteArray.mk #[47]).toList)=true->(7:Int)=pdK s)/\((s.toList==(ByteArray.mk #[47]).toList)=false->((s.toList==(ByteArray.mk #[37]).toList)=true->(8:Int)=pdK s)/\((s.toList==(ByteArray.mk #[37]).toList)=false->(0:Int)=pdK s)))) (by kernel_rfl) ?_
  unfold pdK;refine ⟨fun h=>?_,fun h0=>?_⟩
  ·rw [if_pos h]
  refine ⟨fun h=>?_,fun h1=>?_⟩
  ·rw [if_no h0,if_pos h]
  refine ⟨fun h=>?_,fun h2=>?_⟩
  ·rw [if_no h0,if_no h1,if_pos h]
  rw [if_no h0,if_no h1,if_no h2]
 ·trivial
noncomputable def copS:FSpec:=fun ds _=>match ds with
 | [.s s]=>some {val:=.one (.sc (.int .i64 (.sym (coK s)))),vc:=[]}
 |_=>none
noncomputable def copC:Con:=con [.sc .str] copS
theorem cop_ok:ConOK Tryz.prog 194 copC:=by
 refine fn_ob tt_ok mixed Tryz.func194 rfl (fun _ _=>by kernel_rfl) (A:=fun ds=>⟨fun _=>Cons.of [],fun _=>none,fun _=>none⟩) (fun _ _=>cons_nil) (by kernel_rfl) ?_
 intro ds fr;unfold copS;split
 ·rename_i s;refine kmp (q:=((s.toList==(ByteArray.mk #[61,61]).toList)=true->(1:Int)=coK s)/\((s.toList==(ByteArray.mk #[61,61]).toList)=false->((s.toList==(ByteArray.mk #[33,61]).toList)=true->(2:Int)=coK s)/\((s.toList==(ByteArray.mk #[33,61]).toList)=false->((s.toList==(ByteArray.mk #[60]).toList)=true->(3:Int)=coK s)/\((s.toList==(ByteArray.mk #[60]).toList)=false->((s.toList==(ByteArray.mk #[60,61]).toList)=true->(4:Int)=coK s)/\((s.toList==(ByteArray.mk #[60,61]).toList)=false->((s.toList==(ByteArray.mk #[62]).toList)=true->(5:Int)=coK s)/\((s.toList==(ByteArray.mk #[62]).toList)=false->((s.toList==(ByteArray.mk #[62,61]).toList)=true->(6:Int)=coK s)/\((s.toList==(ByteArray.mk #[62,61]).toList)=false->(0:Int)=coK s))))))) (by kernel_rfl) ?_
  unfold coK;refine ⟨fun h=>?_,fun h0=>?_⟩
  ·rw [if_pos h]
  refine ⟨fun h=>?_,fun h1=>?_⟩
  ·rw [if_no h0,if_pos h]
  refine ⟨fun h=>?_,fun h2=>?_⟩
  ·rw [if_no h0,if_no h1,if_pos h]
  refine ⟨fun h=>?_,fun h3=>?_⟩
  ·rw [if_no h0,if_no h1,if_no h2,if_pos h]
  refine ⟨fun h=>?_,fun h4=>?_⟩
  ·rw [if_no h0,if_no h1,if_no h2,if_no h3,if_pos h]
  refine ⟨fun h=>?_,fun h5=>?_⟩
  ·rw [if_no h0,if_no h1,if_no h2,if_no h3,if_no h4,if_pos h]
  rw [if_no h0,if_no h1,if_no h2,if_no h3,if_no h4,if_no h5]
 ·trivial
def cmR (ws:D) (en:Int) (r:Rd):Rd:=if coK (pkS ws r.nx)=0 then fl ws en 5 r else gx r
noncomputable def cmpS:List Dat->Option (Eff × List Seg):=fun ds=>match ds with
 | [.d ws,.i nx,.i en,.i pa,.i er]=>some ({val:=.one (.sc (.int .i64 (.sym (coK (pkS ws nx))))),vc:=[rdOK ws nx]},[.c (.rows 202 ws),.c (.int .i64 (.sym ((cmR ws en (mR nx pa er)).nx))),.c (.int .i64 (.sym en)),.c (.int .i64 (.sym ((cmR ws en (mR nx pa er)).pa))),.c (.int .i64 (.sym ((cmR ws en (mR nx pa er)).er)))])
 |_=>none
noncomputable def cmpC:Con:=conM 135 [.c (.rows 202),.c (.int .i64),.c (.int .i64),.c (.int .i64),.c (.int .i64)] [] cmpS
theorem cmp_ok:ConOK Tryz.prog 181 cmpC:=by
 refine fn_obM tt_ok mixed Tryz.func181 rfl (fun _ _=>by kernel_rfl) (A:=fun ds=>⟨fun _=>Cons.of [(118,pekC),(124,falC),(194,copC)],fun _=>none,fun _=>none⟩) (fun _ _=>(cons_cons pek_ok (cons_cons fal_ok (cons_cons cop_ok cons_nil)))) (by kernel_rfl) ?_
 intro ds;unfold cmpS;split
 ·rename_i ws nx en pa er;refine kmp (q:=rdOK ws nx->rdOK ws nx/\((coK (pkS ws nx)==(0:Int))=true->rdOK ws nx/\(0:Int)=coK (pkS ws nx)/\ws.rows=ws.rows/\(fl ws en (5:Int) (mR nx pa er)).nx=(cmR ws en (mR nx pa er)).nx/\en=en/\(fl ws en (5:Int) (mR nx pa er)).pa=(cmR ws en (mR nx pa er)).pa/\(fl ws en (5:Int) (mR nx pa er)).er=(cmR ws en (mR nx pa er)).er)/\((coK (pkS ws nx)==(0:Int))=false->coK (pkS ws nx)=coK (pkS ws nx)/\ws.rows=ws.rows/\IntKind.i64.wrap (nx+1)=(cmR ws en (mR nx pa er)).nx/\en=en/\pa=(cmR ws en (mR nx pa er)).pa/\er=(cmR ws en (mR nx pa er)).er)) (by kernel_rfl) ?_
  intro h;refine ⟨h,fun hc=>?_,fun hc=>?_⟩
  ·have hc:coK (pkS ws nx)=0:=by simpa using hc
   have e:cmR ws en (mR nx pa er)=fl ws en 5 (mR nx pa er):=if_pos hc;rw [e,hc]
   (repeat' (with_reducible apply And.intro))<;>first |with_reducible rfl |exact True.intro |assumption |(symm;assumption) |rfl
  ·have hc:coK (pkS ws nx)≠0:=by simpa using hc
   have e:cmR ws en (mR nx pa er)=gx (mR nx pa er):=if_neg hc;rw [e,nx1 h (pk_of co_e hc)]
   (repeat' (with_reducible apply And.intro))<;>first |with_reducible rfl |exact True.intro |assumption |(symm;assumption) |rfl
 ·trivial
def isFn (n:Nat) (v:Value):Bool:=match v with
 | .func (.func m) a b=>Nat.beq m n&&Nat.beq a.size 0&&Nat.beq b.size 0
 |_=>false
theorem isFn_eq {n:Nat} {v:Value} (h:isFn n v=true):v = .func (.func n) #[] #[]:=by
 unfold isFn at h
 split at h
 ·rename_i m a b;simp only [Bool.and_eq_true] at h;obtain ⟨⟨h1,h2⟩,h3⟩:=h;rw [Nat.eq_of_beq_eq_true h1,Array.eq_empty_of_size_eq_zero (Nat.eq_of_beq_eq_true h2),Array.eq_empty_of_size_eq_zero (Nat.eq_of_beq_eq_true h3)]
 ·cases h
structure Xp where
 k:Int
 n:Int
 s:ByteArray
 d:D
def Xp.row (x:Xp):List D:=[.i x.k,.i x.n,.s x.s,.l x.d.rows]
def X2 (k:Int) (a b:Xp):Xp:=⟨k,0,ByteArray.empty,.l [a.row,b.row]⟩
def left (ws:D) (r:Rd):Nat:=ws.len-r.nx.toNat
def chL (P:Rd->Xp × Rd) (K:ByteArray->Int) (ws:D):Nat->Xp->Rd->Xp × Rd
 | 0,x,r=>(x,r)
 |m+1,x,r=>if K (pkS ws r.nx)=0 then (x,r) else chL P K ws m (X2 (K (pkS ws r.nx)) x (P (gx r)).1) (P (gx r)).2
def chA (P:Rd->Xp × Rd) (K:ByteArray->Int) (ws:D) (r:Rd):Xp × Rd:=chL P K ws (left ws (P r).2) (P r).1 (P r).2
def dpOK (ws:D) (r:Rd) (dp:Int):Prop:=0<=dp/\dp+(left ws r:Int)<=2000000
structure PaOK (ws:D) (P:Rd->Xp × Rd):Prop where
 up:∀ r,rdOK ws r.nx->r.nx<=(P r).2.nx/\rdOK ws (P r).2.nx/\(P r).1.d.len<=2
theorem subAll (d:D):d.sub 0 (0+d.len) = .l d.rows:=by
 show D.l ((d.rows.take (0+d.rows.length)).drop 0)=_;rw [Nat.zero_add,List.take_length,List.drop_zero]
theorem chL_end {P:Rd->Xp × Rd} {K:ByteArray->Int} {ws:D} {x:Xp} {r:Rd} (h:K (pkS ws r.nx)=0):∀ m,chL P K ws m x r=(x,r)
 | 0=>rfl
 |m+1=>if_pos h
theorem gx_ok {ws:D} {r:Rd} (h:rdOK ws r.nx) (hl:r.nx<ws.len):rdOK ws (gx r).nx/\left ws r=left ws (gx r)+1:=by
 obtain ⟨a,b,c⟩:=h;have e:(gx r).nx=r.nx+1:=rfl;unfold left rdOK;rw [e];exact ⟨⟨by omega,by omega,c⟩,by omega⟩
theorem left_le {ws:D} {r q:Rd} (h:r.nx<=q.nx):left ws q<=left ws r:=by unfold left;omega
theorem chL_fuel {P:Rd->Xp × Rd} {K:ByteArray->Int} {ws:D} (hP:PaOK ws P) (he:K ByteArray.empty=0):∀ (n:Nat) (r:Rd) (x:Xp),rdOK ws r.nx->left ws r<=n->chL P K ws n x r=chL P K ws (left ws r) x r:=by
 intro n
 induction n using Nat.strongRecOn with
 |ind n ih=>
  intro r x h hl
  by_cases hk:K (pkS ws r.nx)=0
  ·rw [chL_end hk,chL_end hk]
  ·obtain ⟨g1,g2⟩:=gx_ok h (pk_of he hk);obtain ⟨u1,u2,_⟩:=hP.up (gx r) g1;have u3:=left_le (ws:=ws) u1
   cases n with
   |zero=>omega
   |succ k=>
    rw [g2,chL,if_neg hk,chL,if_neg hk,ih k (by omega) _ _ u2 (by omega),ih (left ws (gx r)) (by omega) _ _ u2 u3]
theorem chL_step {P:Rd->Xp × Rd} {K:ByteArray->Int} {ws:D} (hP:PaOK ws P) (he:K ByteArray.empty=0) {r:Rd} (x:Xp) (h:rdOK ws r.nx) (hk:K (pkS ws r.nx)≠0):chL P K ws (left ws (P (gx r)).2) (X2 (K (pkS ws r.nx)) x (P (gx r)).1) (P (gx r)).2=chL P K ws (left ws r) x r:=by
 obtain ⟨g1,g2⟩:=gx_ok h (pk_of he hk);obtain ⟨u1,u2,_⟩:=hP.up (gx r) g1;rw [g2,chL,if_neg hk,chL_fuel hP he (left ws (gx r)) _ _ u2 (left_le u1)]
theorem chL_up {P:Rd->Xp × Rd} {K:ByteArray->Int} {ws:D} (hP:PaOK ws P) (he:K ByteArray.empty=0):∀ (m:Nat) (x:Xp) (r:Rd),rdOK ws r.nx->x.d.len<=2->r.nx<=(chL P K ws m x r).2.nx/\rdOK ws (chL P K ws m x r).2.nx/\(chL P K ws m x r).1.d.len<=2
 | 0,x,r,h,hx=>⟨Int.le_refl _,h,hx⟩
 |m+1,x,r,h,hx=>by
  by_cases hk:K (pkS ws r.nx)=0
  ·rw [chL_end hk];exact ⟨Int.le_refl _,h,hx⟩
  ·obtain ⟨g1,g2⟩:=gx_ok h (pk_of he hk);obtain ⟨u1,u2,u3⟩:=hP.up (gx r) g1;rw [chL,if_neg hk];obtain ⟨w1,w2,w3⟩:=chL_up hP he m (X2 (K (pkS ws r.nx)) x (P (gx r)).1) (P (gx r)).2 u2 (Nat.le_refl _);have e5:(gx r).nx=r.nx+1:=rfl;exact ⟨by omega,w2,w3⟩
theorem chA_up {P:Rd->Xp × Rd} {K:ByteArray->Int} {ws:D} (hP:PaOK ws P) (he:K ByteArray.empty=0):PaOK ws (chA P K ws):=⟨fun r h=>by
 obtain ⟨u1,u2,u3⟩:=hP.up r h;obtain ⟨w1,w2,w3⟩:=chL_up hP he (left ws (P r).2) (P r).1 (P r).2 u2 u3;exact ⟨Int.le_trans u1 w1,w2,w3⟩⟩
noncomputable def partS (P:Int->D->Int->Rd->Xp × Rd) (m:Nat):List Dat->Option (Eff × List Seg):=fun ds=>match ds with
 | [.d ws,.i nx,.i en,.i pa,.i er,.i dp]=>some ({val:=.one (.agg [.c (.int .i64 (.sym ((P en ws dp (mR nx pa er)).1).k)),.c (.int .i64 (.sym ((P en ws dp (mR nx pa er)).1).n)),.c (.raw (.string ((P en ws dp (mR nx pa er)).1).s)),.c (.osl 186 0 (.lit 0) (.sym ((P en ws dp (mR nx pa er)).1).d.len))]),vc:=[rdOK ws nx,dpOK ws (mR nx pa er) dp,left ws (mR nx pa er)<m],nw:=[(0,.orow 186 (P en ws dp (mR nx pa er)).1.d)]},[.c (.rows 202 ws),.c (.int .i64 (.sym ((((P en ws dp (mR nx pa er)).2)).nx))),.c (.int .i64 (.sym en)),.c (.int .i64 (.sym ((((P en ws dp (mR nx pa er)).2)).pa))),.c (.int .i64 (.sym ((((P en ws dp (mR nx pa er)).2)).er)))])
 |_=>none
noncomputable def partC (P:Int->D->Int->Rd->Xp × Rd) (m:Nat):Con:=conM 135 [.c (.rows 202),.c (.int .i64),.c (.int .i64),.c (.int .i64),.c (.int .i64)] [.sc (.int .i64)] (partS P m)
noncomputable def chSS (P:Int->D->Int->Rd->Xp × Rd) (m:Nat):List Dat->Option (Eff × List Seg):=fun ds=>match ds with
 | [.d ws,.i nx,.i en,.i pa,.i er,.v kf,.i dp]=>(match isFn 185 kf with |true=>some ({val:=.one (.agg [.c (.int .i64 (.sym ((chA (P en ws dp) skK ws (mR nx pa er)).1).k)),.c (.int .i64 (.sym ((chA (P en ws dp) skK ws (mR nx pa er)).1).n)),.c (.raw (.string ((chA (P en ws dp) skK ws (mR nx pa er)).1).s)),.c (.osl 186 0 (.lit 0) (.sym ((chA (P en ws dp) skK ws (mR nx pa er)).1).d.len))]),vc:=[rdOK ws nx,dpOK ws (mR nx pa er) dp,left ws (mR nx pa er)<m,PaOK ws (P en ws dp)],nw:=[(0,.orow 186 (chA (P en ws dp) skK ws (mR nx pa er)).1.d)]},[.c (.rows 202 ws),.c (.int .i64 (.sym (((chA (P en ws dp) skK ws (mR nx pa er)).2).nx))),.c (.int .i64 (.sym en)),.c (.int .i64 (.sym (((chA (P en ws dp) skK ws (mR nx pa er)).2).pa))),.c (.int .i64 (.sym (((chA (P en ws dp) skK ws (mR nx pa er)).2).er)))]) |false=>none)
 |_=>none
noncomputable def chSC (P:Int->D->Int->Rd->Xp × Rd) (m:Nat):Con:=conB 135 [.c (.rows 202),.c (.int .i64),.c (.int .i64),.c (.int .i64),.c (.int .i64)] 184 [.sc .any,.sc (.int .i64)] (chSS P m)
theorem chS_ok {P:Int->D->Int->Rd->Xp × Rd} {m:Nat} (hP:ConOK Tryz.prog 184 (partC P m)):ConOK Tryz.prog 183 (chSC P m):=by
 refine fn_obB tt_ok mixed Tryz.func183 rfl (fun _ _=>by kernel_rfl) (A:=fun ds=>⟨fun _=>Cons.of [(118,pekC),(185,skdC),(184,(partC P m))],fun k=>match k,ds with | 2,[.d ws,.i nx,.i en,.i pa,.i er,.v _,.i dp]=>some {ι:=Xp × Rd,pre:=fun _ q=>rdOK ws q.2.nx/\(chL (P en ws dp) skK ws (left ws q.2) q.1 q.2=chA (P en ws dp) skK ws (mR nx pa er))/\q.1.d.len<=2/\nx<=q.2.nx,μ:=fun q=>left ws q.2,st:=fun s q=>famR s [] [0,1,2,3,8,9] [(0,.own 135 ([.c (.rows 202 ws),.c (.int .i64 (.sym ((q.2).nx))),.c (.int .i64 (.sym en)),.c (.int .i64 (.sym ((q.2).pa))),.c (.int .i64 (.sym ((q.2).er)))])),(idOf s 9,.own 186 ([.c (.int .i64 (.sym q.1.k)),.c (.int .i64 (.sym q.1.n)),.c (.raw (.string q.1.s)),.c (.osl 186 (s.nx-1) (.lit 0) (.sym q.1.d.len))])),(s.nx-1,.orow 186 (q.1.d))] [8]} |_,_=>none,fun _=>none⟩) (fun _ _=>(cons_cons pek_ok (cons_cons skd_ok (cons_cons hP cons_nil)))) (by kernel_rfl) ?_
 intro ds;unfold chSS;split
 ·rename_i ws nx en pa er kf dp;split
  ·rename_i hg;obtain rfl:=isFn_eq hg
   refine kmp (q:=rdOK ws nx->dpOK ws (mR nx pa er) dp->left ws (mR nx pa er)<m->PaOK ws (P en ws dp)->rdOK ws nx/\dpOK ws (mR nx pa er) dp/\left ws (mR nx pa er)<m/\(∃ (i:Xp × Rd),(rdOK ws i.snd.nx/\chL (P en ws dp) skK ws (left ws i.snd) i.fst i.snd=chA (P en ws dp) skK ws (mR nx pa er)/\i.fst.d.len<=2/\nx<=i.snd.nx)/\Value.func (Fn.func (185:Nat)) #[] #[]=Value.func (Fn.func (185:Nat)) #[] #[]/\dp=dp/\ws.rows=ws.rows/\(P en ws dp (mR nx pa er)).snd.nx=i.snd.nx/\en=en/\(P en ws dp (mR nx pa er)).snd.pa=i.snd.pa/\(P en ws dp (mR nx pa er)).snd.er=i.snd.er/\(P en ws dp (mR nx pa er)).fst.k=i.fst.k/\(P en ws dp (mR nx pa er)).fst.n=i.fst.n/\Value.string (P en ws dp (mR nx pa er)).fst.s=Value.string i.fst.s/\(P en ws dp (mR nx pa er)).fst.d.len=i.fst.d.len/\(P en ws dp (mR nx pa er)).fst.d.rows=i.fst.d.rows/\(0:Int)=(0:Int)/\(0:Int)=(0:Int)/\Value.string ByteArray.empty=Value.string ByteArray.empty)/\∀ (i:Xp × Rd),rdOK ws i.snd.nx/\chL (P en ws dp) skK ws (left ws i.snd) i.fst i.snd=chA (P en ws dp) skK ws (mR nx pa er)/\i.fst.d.len<=2/\nx<=i.snd.nx->rdOK ws i.snd.nx/\((skK (pkS ws i.snd.nx)==(0:Int))=true->i.fst.k=(chA (P en ws dp) skK ws (mR nx pa er)).fst.k/\i.fst.n=(chA (P en ws dp) skK ws (mR nx pa er)).fst.n/\Value.string i.fst.s=Value.string (chA (P en ws dp) skK ws (mR nx pa er)).fst.s/\i.fst.d.len=(chA (P en ws dp) skK ws (mR nx pa er)).fst.d.len/\ws.rows=ws.rows/\i.snd.nx=(chA (P en ws dp) skK ws (mR nx pa er)).snd.nx/\en=en/\i.snd.pa=(chA (P en ws dp) skK ws (mR nx pa er)).snd.pa/\i.snd.er=(chA (P en ws dp) skK ws (mR nx pa er)).snd.er/\i.fst.d.rows=(chA (P en ws dp) skK ws (mR nx pa er)).fst.d.rows)/\((skK (pkS ws i.snd.nx)==(0:Int))=false->rdOK ws (IntKind.i64.wrap (i.snd.nx+1))/\dpOK ws (mR (IntKind.i64.wrap (i.snd.nx+1)) i.snd.pa i.snd.er) dp/\left ws (mR (IntKind.i64.wrap (i.snd.nx+1)) i.snd.pa i.snd.er)<m/\0+i.fst.d.len<=i.fst.d.len/\0+(P en ws dp (mR (IntKind.i64.wrap (i.snd.nx+1)) i.snd.pa i.snd.er)).fst.d.len<=(P en ws dp (mR (IntKind.i64.wrap (i.snd.nx+1)) i.snd.pa i.snd.er)).fst.d.len/\∃ (j:Xp × Rd),(rdOK ws j.snd.nx/\chL (P en ws dp) skK ws (left ws j.snd) j.fst j.snd=chA (P en ws dp) skK ws (mR nx pa er)/\j.fst.d.len<=2/\nx<=j.snd.nx)/\left ws j.snd<left ws i.snd/\Value.func (Fn.func (185:Nat)) #[] #[]=Value.func (Fn.func (185:Nat)) #[] #[]/\dp=dp/\ws.rows=ws.rows/\(P en ws dp (mR (IntKind.i64.wrap (i.snd.nx+1)) i.snd.pa i.snd.er)).snd.nx=j.snd.nx/\en=en/\(P en ws dp (mR (IntKind.i64.wrap (i.snd.nx+1)) i.snd.pa i.snd.er)).snd.pa=j.snd.pa/\(P en ws dp (mR (IntKind.i64.wrap (i.snd.nx+1)) i.snd.pa i.snd.er)).snd.er=j.snd.er/\skK (pkS ws i.snd.nx)=j.fst.k/\(0:Int)=j.fst.n/\Value.string ByteArray.empty=Value.string j.fst.s/\2=j.fst.d.len /\ [[D.i i.fst.k,D.i i.fst.n,D.s i.fst.s,i.fst.d.sub 0 ((0:Nat)+i.fst.d.len)],[D.i (P en ws dp (mR (IntKind.i64.wrap (i.snd.nx+1)) i.snd.pa i.snd.er)).fst.k,D.i (P en ws dp (mR (IntKind.i64.wrap (i.snd.nx+1)) i.snd.pa i.snd.er)).fst.n,D.s (P en ws dp (mR (IntKind.i64.wrap (i.snd.nx+1)) i.snd.pa i.snd.er)).fst.s,(P en ws dp (mR (IntKind.i64.wrap (i.snd.nx+1)) i.snd.pa i.snd.er)).fst.d.sub 0 ((0:Nat)+(P en ws dp (mR (IntKind.i64.wrap (i.snd.nx+1)) i.snd.pa i.snd.er)).fst.d.len)]]=j.fst.d.rows/\(0:Int)=(0:Int)/\(0:Int)=(0:Int)/\Value.string ByteArray.empty=Value.string ByteArray.empty)) (by kernel_rfl) ?_
   intro h hd hl hP;obtain ⟨v1,v2,v3⟩:=hP.up (mR nx pa er) h;refine ⟨h,hd,hl,⟨P en ws dp (mR nx pa er),⟨v2,rfl,v3,v1⟩,(by (repeat' (with_reducible apply And.intro))<;>first |with_reducible rfl |exact True.intro |assumption |(symm;assumption) |rfl)⟩,?_⟩;rintro q ⟨h1,h2,h3,h4⟩;refine ⟨h1,fun hc=>?_,fun hc=>?_⟩
   ·have hc:skK (pkS ws q.2.nx)=0:=by simpa using hc
    rw [chL_end hc] at h2;rw [<- h2]
    (repeat' (with_reducible apply And.intro))<;>first |with_reducible rfl |exact True.intro |assumption |(symm;assumption) |rfl
   ·have hc:skK (pkS ws q.2.nx)≠0:=by simpa using hc
    have hlt:=pk_of sk_e hc;obtain ⟨g1,g2⟩:=gx_ok h1 hlt;obtain ⟨u1,u2,u3⟩:=hP.up (gx q.2) g1;rw [nx1 h1 hlt,subAll,subAll];have e3:mR (q.2.nx+1) q.2.pa q.2.er=gx q.2:=rfl;rw [e3];have l0:left ws q.2<=left ws (mR nx pa er):=left_le h4;have l1:=left_le (ws:=ws) u1;have e5:(gx q.2).nx=q.2.nx+1:=rfl;have hd2:dpOK ws (gx q.2) dp:=⟨hd.1,by have:=hd.2;omega⟩;refine ⟨g1,hd2,by omega,by omega,by omega,⟨(X2 (skK (pkS ws q.2.nx)) q.1 (P en ws dp (gx q.2)).1,(P en ws dp (gx q.2)).2),⟨u2,(chL_step hP sk_e q.1 h1 hc).trans h2,Nat.le_refl _,(by show nx<=(P en ws dp (gx q.2)).2.nx;omega)⟩,(by show left ws (P en ws dp (gx q.2)).2<left ws q.2;omega),(by (repeat' (with_reducible apply And.intro))<;>first |with_reducible rfl |exact True.intro |assumption |(symm;assumption) |rfl)⟩⟩
  ·trivial
 ·trivial
noncomputable def chPS (P:Int->D->Int->Rd->Xp × Rd) (m:Nat):List Dat->Option (Eff × List Seg):=fun ds=>match ds with
 | [.d ws,.i nx,.i en,.i pa,.i er,.v kf,.i dp]=>(match isFn 196 kf with |true=>some ({val:=.one (.agg [.c (.int .i64 (.sym ((chA (P en ws dp) pdK ws (mR nx pa er)).1).k)),.c (.int .i64 (.sym ((chA (P en ws dp) pdK ws (mR nx pa er)).1).n)),.c (.raw (.string ((chA (P en ws dp) pdK ws (mR nx pa er)).1).s)),.c (.osl 186 0 (.lit 0) (.sym ((chA (P en ws dp) pdK ws (mR nx pa er)).1).d.len))]),vc:=[rdOK ws nx,dpOK ws (mR nx pa er) dp,left ws (mR nx pa er)<m,PaOK ws (P en ws dp)],nw:=[(0,.orow 186 (chA (P en ws dp) pdK ws (mR nx pa er)).1.d)]},[.c (.rows 202 ws),.c (.int .i64 (.sym (((chA (P en ws dp) pdK ws (mR nx pa er)).2).nx))),.c (.int .i64 (.sym en)),.c (.int .i64 (.sym (((chA (P en ws dp) pdK ws (mR nx pa er)).2).pa))),.c (.int .i64 (.sym (((chA (P en ws dp) pdK ws (mR nx pa er)).2).er)))]) |false=>none)
 |_=>none
noncomputable def chPC (P:Int->D->Int->Rd->Xp × Rd) (m:Nat):Con:=conB 135 [.c (.rows 202),.c (.int .i64),.c (.int .i64),.c (.int .i64),.c (.int .i64)] 195 [.sc .any,.sc (.int .i64)] (chPS P m)
theorem chP_ok {P:Int->D->Int->Rd->Xp × Rd} {m:Nat} (hP:ConOK Tryz.prog 195 (partC P m)):ConOK Tryz.prog 183 (chPC P m):=by
 refine fn_obB tt_ok mixed Tryz.func183 rfl (fun _ _=>by kernel_rfl) (A:=fun ds=>⟨fun _=>Cons.of [(118,pekC),(196,pkdC),(195,(partC P m))],fun k=>match k,ds with | 2,[.d ws,.i nx,.i en,.i pa,.i er,.v _,.i dp]=>some {ι:=Xp × Rd,pre:=fun _ q=>rdOK ws q.2.nx/\(chL (P en ws dp) pdK ws (left ws q.2) q.1 q.2=chA (P en ws dp) pdK ws (mR nx pa er))/\q.1.d.len<=2/\nx<=q.2.nx,μ:=fun q=>left ws q.2,st:=fun s q=>famR s [] [0,1,2,3,8,9] [(0,.own 135 ([.c (.rows 202 ws),.c (.int .i64 (.sym ((q.2).nx))),.c (.int .i64 (.sym en)),.c (.int .i64 (.sym ((q.2).pa))),.c (.int .i64 (.sym ((q.2).er)))])),(idOf s 9,.own 186 ([.c (.int .i64 (.sym q.1.k)),.c (.int .i64 (.sym q.1.n)),.c (.raw (.string q.1.s)),.c (.osl 186 (s.nx-1) (.lit 0) (.sym q.1.d.len))])),(s.nx-1,.orow 186 (q.1.d))] [8]} |_,_=>none,fun _=>none⟩) (fun _ _=>(cons_cons pek_ok (cons_cons pkd_ok (cons_cons hP cons_nil)))) (by kernel_rfl) ?_
 intro ds;unfold chPS;split
 ·rename_i ws nx en pa er kf dp;split
  ·rename_i hg;obtain rfl:=isFn_eq hg
   refine kmp (q:=rdOK ws nx->dpOK ws (mR nx pa er) dp->left ws (mR nx pa er)<m->PaOK ws (P en ws dp)->rdOK ws nx/\dpOK ws (mR nx pa er) dp/\left ws (mR nx pa er)<m/\(∃ (i:Xp × Rd),(rdOK ws i.snd.nx/\chL (P en ws dp) pdK ws (left ws i.snd) i.fst i.snd=chA (P en ws dp) pdK ws (mR nx pa er)/\i.fst.d.len<=2/\nx<=i.snd.nx)/\Value.func (Fn.func (196:Nat)) #[] #[]=Value.func (Fn.func (196:Nat)) #[] #[]/\dp=dp/\ws.rows=ws.rows/\(P en ws dp (mR nx pa er)).snd.nx=i.snd.nx/\en=en/\(P en ws dp (mR nx pa er)).snd.pa=i.snd.pa/\(P en ws dp (mR nx pa er)).snd.er=i.snd.er/\(P en ws dp (mR nx pa er)).fst.k=i.fst.k/\(P en ws dp (mR nx pa er)).fst.n=i.fst.n/\Value.string (P en ws dp (mR nx pa er)).fst.s=Value.string i.fst.s/\(P en ws dp (mR nx pa er)).fst.d.len=i.fst.d.len/\(P en ws dp (mR nx pa er)).fst.d.rows=i.fst.d.rows/\(0:Int)=(0:Int)/\(0:Int)=(0:Int)/\Value.string ByteArray.empty=Value.string ByteArray.empty)/\∀ (i:Xp × Rd),rdOK ws i.snd.nx/\chL (P en ws dp) pdK ws (left ws i.snd) i.fst i.snd=chA (P en ws dp) pdK ws (mR nx pa er)/\i.fst.d.len<=2/\nx<=i.snd.nx->rdOK ws i.snd.nx/\((pdK (pkS ws i.snd.nx)==(0:Int))=true->i.fst.k=(chA (P en ws dp) pdK ws (mR nx pa er)).fst.k/\i.fst.n=(chA (P en ws dp) pdK ws (mR nx pa er)).fst.n/\Value.string i.fst.s=Value.string (chA (P en ws dp) pdK ws (mR nx pa er)).fst.s/\i.fst.d.len=(chA (P en ws dp) pdK ws (mR nx pa er)).fst.d.len/\ws.rows=ws.rows/\i.snd.nx=(chA (P en ws dp) pdK ws (mR nx pa er)).snd.nx/\en=en/\i.snd.pa=(chA (P en ws dp) pdK ws (mR nx pa er)).snd.pa/\i.snd.er=(chA (P en ws dp) pdK ws (mR nx pa er)).snd.er/\i.fst.d.rows=(chA (P en ws dp) pdK ws (mR nx pa er)).fst.d.rows)/\((pdK (pkS ws i.snd.nx)==(0:Int))=false->rdOK ws (IntKind.i64.wrap (i.snd.nx+1))/\dpOK ws (mR (IntKind.i64.wrap (i.snd.nx+1)) i.snd.pa i.snd.er) dp/\left ws (mR (IntKind.i64.wrap (i.snd.nx+1)) i.snd.pa i.snd.er)<m/\0+i.fst.d.len<=i.fst.d.len/\0+(P en ws dp (mR (IntKind.i64.wrap (i.snd.nx+1)) i.snd.pa i.snd.er)).fst.d.len<=(P en ws dp (mR (IntKind.i64.wrap (i.snd.nx+1)) i.snd.pa i.snd.er)).fst.d.len/\∃ (j:Xp × Rd),(rdOK ws j.snd.nx/\chL (P en ws dp) pdK ws (left ws j.snd) j.fst j.snd=chA (P en ws dp) pdK ws (mR nx pa er)/\j.fst.d.len<=2/\nx<=j.snd.nx)/\left ws j.snd<left ws i.snd/\Value.func (Fn.func (196:Nat)) #[] #[]=Value.func (Fn.func (196:Nat)) #[] #[]/\dp=dp/\ws.rows=ws.rows/\(P en ws dp (mR (IntKind.i64.wrap (i.snd.nx+1)) i.snd.pa i.snd.er)).snd.nx=j.snd.nx/\en=en/\(P en ws dp (mR (IntKind.i64.wrap (i.snd.nx+1)) i.snd.pa i.snd.er)).snd.pa=j.snd.pa/\(P en ws dp (mR (IntKind.i64.wrap (i.snd.nx+1)) i.snd.pa i.snd.er)).snd.er=j.snd.er/\pdK (pkS ws i.snd.nx)=j.fst.k/\(0:Int)=j.fst.n/\Value.string ByteArray.empty=Value.string j.fst.s/\2=j.fst.d.len /\ [[D.i i.fst.k,D.i i.fst.n,D.s i.fst.s,i.fst.d.sub 0 ((0:Nat)+i.fst.d.len)],[D.i (P en ws dp (mR (IntKind.i64.wrap (i.snd.nx+1)) i.snd.pa i.snd.er)).fst.k,D.i (P en ws dp (mR (IntKind.i64.wrap (i.snd.nx+1)) i.snd.pa i.snd.er)).fst.n,D.s (P en ws dp (mR (IntKind.i64.wrap (i.snd.nx+1)) i.snd.pa i.snd.er)).fst.s,(P en ws dp (mR (IntKind.i64.wrap (i.snd.nx+1)) i.snd.pa i.snd.er)).fst.d.sub 0 ((0:Nat)+(P en ws dp (mR (IntKind.i64.wrap (i.snd.nx+1)) i.snd.pa i.snd.er)).fst.d.len)]]=j.fst.d.rows/\(0:Int)=(0:Int)/\(0:Int)=(0:Int)/\Value.string ByteArray.empty=Value.string ByteArray.empty)) (by kernel_rfl) ?_
   intro h hd hl hP;obtain ⟨v1,v2,v3⟩:=hP.up (mR nx pa er) h;refine ⟨h,hd,hl,⟨P en ws dp (mR nx pa er),⟨v2,rfl,v3,v1⟩,(by (repeat' (with_reducible apply And.intro))<;>first |with_reducible rfl |exact True.intro |assumption |(symm;assumption) |rfl)⟩,?_⟩;rintro q ⟨h1,h2,h3,h4⟩;refine ⟨h1,fun hc=>?_,fun hc=>?_⟩
   ·have hc:pdK (pkS ws q.2.nx)=0:=by simpa using hc
    rw [chL_end hc] at h2;rw [<- h2]
    (repeat' (with_reducible apply And.intro))<;>first |with_reducible rfl |exact True.intro |assumption |(symm;assumption) |rfl
   ·have hc:pdK (pkS ws q.2.nx)≠0:=by simpa using hc
    have hlt:=pk_of pd_e hc;obtain ⟨g1,g2⟩:=gx_ok h1 hlt;obtain ⟨u1,u2,u3⟩:=hP.up (gx q.2) g1;rw [nx1 h1 hlt,subAll,subAll];have e3:mR (q.2.nx+1) q.2.pa q.2.er=gx q.2:=rfl;rw [e3];have l0:left ws q.2<=left ws (mR nx pa er):=left_le h4;have l1:=left_le (ws:=ws) u1;have e5:(gx q.2).nx=q.2.nx+1:=rfl;have hd2:dpOK ws (gx q.2) dp:=⟨hd.1,by have:=hd.2;omega⟩;refine ⟨g1,hd2,by omega,by omega,by omega,⟨(X2 (pdK (pkS ws q.2.nx)) q.1 (P en ws dp (gx q.2)).1,(P en ws dp (gx q.2)).2),⟨u2,(chL_step hP pd_e q.1 h1 hc).trans h2,Nat.le_refl _,(by show nx<=(P en ws dp (gx q.2)).2.nx;omega)⟩,(by show left ws (P en ws dp (gx q.2)).2<left ws q.2;omega),(by (repeat' (with_reducible apply And.intro))<;>first |with_reducible rfl |exact True.intro |assumption |(symm;assumption) |rfl)⟩⟩
  ·trivial
 ·trivial
noncomputable def sumS (P:Int->D->Int->Rd->Xp × Rd) (m:Nat):List Dat->Option (Eff × List Seg):=fun ds=>match ds with
 | [.d ws,.i nx,.i en,.i pa,.i er,.i dp]=>some ({val:=.one (.agg [.c (.int .i64 (.sym ((chA (P en ws dp) skK ws (mR nx pa er)).1).k)),.c (.int .i64 (.sym ((chA (P en ws dp) skK ws (mR nx pa er)).1).n)),.c (.raw (.string ((chA (P en ws dp) skK ws (mR nx pa er)).1).s)),.c (.osl 186 0 (.lit 0) (.sym ((chA (P en ws dp) skK ws (mR nx pa er)).1).d.len))]),vc:=[rdOK ws nx,dpOK ws (mR nx pa er) dp,left ws (mR nx pa er)<m],nw:=[(0,.orow 186 (chA (P en ws dp) skK ws (mR nx pa er)).1.d)]},[.c (.rows 202 ws),.c (.int .i64 (.sym (((chA (P en ws dp) skK ws (mR nx pa er)).2).nx))),.c (.int .i64 (.sym en)),.c (.int .i64 (.sym (((chA (P en ws dp) skK ws (mR nx pa er)).2).pa))),.c (.int .i64 (.sym (((chA (P en ws dp) skK ws (mR nx pa er)).2).er)))])
 |_=>none
noncomputable def sumC (P:Int->D->Int->Rd->Xp × Rd) (m:Nat):Con:=conM 135 [.c (.rows 202),.c (.int .i64),.c (.int .i64),.c (.int .i64),.c (.int .i64)] [.sc (.int .i64)] (sumS P m)
theorem sum_ok {P:Int->D->Int->Rd->Xp × Rd} {m:Nat} (hP:ConOK Tryz.prog 184 (partC P m)) (hPa:∀ en ws dp,PaOK ws (P en ws dp)):ConOK Tryz.prog 170 (sumC P m):=by
 refine fn_obM tt_ok mixed Tryz.func170 rfl (fun _ _=>by kernel_rfl) (A:=fun ds=>⟨fun _=>Cons.of [(183,(chSC P m))],fun _=>none,fun _=>none⟩) (fun _ _=>(cons_cons (chS_ok hP) cons_nil)) (by kernel_rfl) ?_
 intro ds;unfold sumS;split
 ·rename_i ws nx en pa er dp;refine kmp (q:=rdOK ws nx->dpOK ws (mR nx pa er) dp->left ws (mR nx pa er)<m->rdOK ws nx/\dpOK ws (mR nx pa er) dp/\left ws (mR nx pa er)<m/\PaOK ws (P en ws dp)/\(chA (P en ws dp) skK ws (mR nx pa er)).fst.k=(chA (P en ws dp) skK ws (mR nx pa er)).fst.k/\(chA (P en ws dp) skK ws (mR nx pa er)).fst.n=(chA (P en ws dp) skK ws (mR nx pa er)).fst.n/\Value.string (chA (P en ws dp) skK ws (mR nx pa er)).fst.s=Value.string (chA (P en ws dp) skK ws (mR nx pa er)).fst.s/\(chA (P en ws dp) skK ws (mR nx pa er)).fst.d.len=(chA (P en ws dp) skK ws (mR nx pa er)).fst.d.len/\ws.rows=ws.rows/\(chA (P en ws dp) skK ws (mR nx pa er)).snd.nx=(chA (P en ws dp) skK ws (mR nx pa er)).snd.nx/\en=en/\(chA (P en ws dp) skK ws (mR nx pa er)).snd.pa=(chA (P en ws dp) skK ws (mR nx pa er)).snd.pa/\(chA (P en ws dp) skK ws (mR nx pa er)).snd.er=(chA (P en ws dp) skK ws (mR nx pa er)).snd.er/\(chA (P en ws dp) skK ws (mR nx pa er)).fst.d.rows=(chA (P en ws dp) skK ws (mR nx pa er)).fst.d.rows) (by kernel_rfl) ?_
  intro h hd hl;have hQ:=hPa en ws dp;refine ⟨h,hd,hl,hQ,?_⟩
  (repeat' (with_reducible apply And.intro))<;>first |with_reducible rfl |exact True.intro |assumption |(symm;assumption) |rfl
 ·trivial
noncomputable def prdS (P:Int->D->Int->Rd->Xp × Rd) (m:Nat):List Dat->Option (Eff × List Seg):=fun ds=>match ds with
 | [.d ws,.i nx,.i en,.i pa,.i er,.i dp]=>some ({val:=.one (.agg [.c (.int .i64 (.sym ((chA (P en ws dp) pdK ws (mR nx pa er)).1).k)),.c (.int .i64 (.sym ((chA (P en ws dp) pdK ws (mR nx pa er)).1).n)),.c (.raw (.string ((chA (P en ws dp) pdK ws (mR nx pa er)).1).s)),.c (.osl 186 0 (.lit 0) (.sym ((chA (P en ws dp) pdK ws (mR nx pa er)).1).d.len))]),vc:=[rdOK ws nx,dpOK ws (mR nx pa er) dp,left ws (mR nx pa er)<m],nw:=[(0,.orow 186 (chA (P en ws dp) pdK ws (mR nx pa er)).1.d)]},[.c (.rows 202 ws),.c (.int .i64 (.sym (((chA (P en ws dp) pdK ws (mR nx pa er)).2).nx))),.c (.int .i64 (.sym en)),.c (.int .i64 (.sym (((chA (P en ws dp) pdK ws (mR nx pa er)).2).pa))),.c (.int .i64 (.sym (((chA (P en ws dp) pdK ws (mR nx pa er)).2).er)))])
 |_=>none
noncomputable def prdC (P:Int->D->Int->Rd->Xp × Rd) (m:Nat):Con:=conM 135 [.c (.rows 202),.c (.int .i64),.c (.int .i64),.c (.int .i64),.c (.int .i64)] [.sc (.int .i64)] (prdS P m)
theorem prd_ok {P:Int->D->Int->Rd->Xp × Rd} {m:Nat} (hP:ConOK Tryz.prog 195 (partC P m)) (hPa:∀ en ws dp,PaOK ws (P en ws dp)):ConOK Tryz.prog 184 (prdC P m):=by
 refine fn_obM tt_ok mixed Tryz.func184 rfl (fun _ _=>by kernel_rfl) (A:=fun ds=>⟨fun _=>Cons.of [(183,(chPC P m))],fun _=>none,fun _=>none⟩) (fun _ _=>(cons_cons (chP_ok hP) cons_nil)) (by kernel_rfl) ?_
 intro ds;unfold prdS;split
 ·rename_i ws nx en pa er dp;refine kmp (q:=rdOK ws nx->dpOK ws (mR nx pa er) dp->left ws (mR nx pa er)<m->rdOK ws nx/\dpOK ws (mR nx pa er) dp/\left ws (mR nx pa er)<m/\PaOK ws (P en ws dp)/\(chA (P en ws dp) pdK ws (mR nx pa er)).fst.k=(chA (P en ws dp) pdK ws (mR nx pa er)).fst.k/\(chA (P en ws dp) pdK ws (mR nx pa er)).fst.n=(chA (P en ws dp) pdK ws (mR nx pa er)).fst.n/\Value.string (chA (P en ws dp) pdK ws (mR nx pa er)).fst.s=Value.string (chA (P en ws dp) pdK ws (mR nx pa er)).fst.s/\(chA (P en ws dp) pdK ws (mR nx pa er)).fst.d.len=(chA (P en ws dp) pdK ws (mR nx pa er)).fst.d.len/\ws.rows=ws.rows/\(chA (P en ws dp) pdK ws (mR nx pa er)).snd.nx=(chA (P en ws dp) pdK ws (mR nx pa er)).snd.nx/\en=en/\(chA (P en ws dp) pdK ws (mR nx pa er)).snd.pa=(chA (P en ws dp) pdK ws (mR nx pa er)).snd.pa/\(chA (P en ws dp) pdK ws (mR nx pa er)).snd.er=(chA (P en ws dp) pdK ws (mR nx pa er)).snd.er/\(chA (P en ws dp) pdK ws (mR nx pa er)).fst.d.rows=(chA (P en ws dp) pdK ws (mR nx pa er)).fst.d.rows) (by kernel_rfl) ?_
  intro h hd hl;have hQ:=hPa en ws dp;refine ⟨h,hd,hl,hQ,?_⟩
  (repeat' (with_reducible apply And.intro))<;>first |with_reducible rfl |exact True.intro |assumption |(symm;assumption) |rfl
 ·trivial
abbrev PF:=Int->D->Int->Rd->Xp × Rd
def prF (P:PF):PF:=fun en ws dp r=>chA (P en ws dp) pdK ws r
def smF (P:PF):PF:=fun en ws dp r=>chA (prF P en ws dp) skK ws r
def miB:ByteArray:=⟨#[45]⟩
def opB:ByteArray:=⟨#[40]⟩
def clB:ByteArray:=⟨#[41]⟩
def fcB (P:PF):PF:=fun en ws dp r=>
 if pkK ws r.nx=2 then (⟨1,nuN ws r,ByteArray.empty,.l []⟩,nuR ws en r)
 else if acB ws r.nx miB=true then (⟨3,0,ByteArray.empty,.l [(P en ws (dp+1) (neR ws en miB dp r)).1.row]⟩,(P en ws (dp+1) (neR ws en miB dp r)).2)
 else if acB ws r.nx opB=true then ((smF P en ws (dp+1) (neR ws en opB dp r)).1,exR ws en clB (smF P en ws (dp+1) (neR ws en opB dp r)).2)
 else (⟨2,0,nmS ws r,.l []⟩,nmR ws en r)
theorem ne_up {ws:D} {en dp:Int} {t:ByteArray} {r:Rd} (h:rdOK ws r.nx) (ht:0<t.size) (ha:acB ws r.nx t=true):rdOK ws (neR ws en t dp r).nx/\left ws (neR ws en t dp r)<left ws r/\r.nx<=(neR ws en t dp r).nx:=by
 have hl:=ac_lt ht ha;obtain ⟨a,b,c⟩:=h;have key:(neR ws en t dp r).nx=ws.len ∨ (neR ws en t dp r).nx=r.nx+1:=by
  unfold neR;split
  ·left
   unfold fl
   split<;>rfl
  ·right
   rw [exR_yes ha];rfl
 have hr:rdOK ws (neR ws en t dp r).nx/\r.nx<(neR ws en t dp r).nx:=by
  rcases key with k |k<;>rw [k]<;>exact ⟨⟨by omega,by omega,c⟩,by omega⟩
 refine ⟨hr.1,?_,Int.le_of_lt hr.2⟩;have:=hr.1.2.1;unfold left;omega
theorem etR (r:Rd):mR r.nx r.pa r.er=r:=rfl
theorem smF_ok {P:PF} {m:Nat} (hP:ConOK Tryz.prog 195 (partC P m)) (hPa:∀ en ws dp,PaOK ws (P en ws dp)):ConOK Tryz.prog 170 (partC (smF P) m):=
 sum_ok (P:=prF P) (m:=m) (prd_ok (P:=P) (m:=m) hP hPa) (fun en ws dp=>chA_up (hPa en ws dp) pd_e)
theorem smF_up {P:PF} (hPa:∀ en ws dp,PaOK ws (P en ws dp)) (en:Int) (ws:D) (dp:Int):PaOK ws (smF P en ws dp):=chA_up (chA_up (hPa en ws dp) pd_e) sk_e
noncomputable def facS (P:PF) (m:Nat):List Dat->Option (Eff × List Seg):=fun ds=>match ds with
 | [.d ws,.i nx,.i en,.i pa,.i er,.i dp]=>some ({val:=.one (.agg [.c (.int .i64 (.sym ((fcB P en ws dp (mR nx pa er)).1).k)),.c (.int .i64 (.sym ((fcB P en ws dp (mR nx pa er)).1).n)),.c (.raw (.string ((fcB P en ws dp (mR nx pa er)).1).s)),.c (.osl 186 0 (.lit 0) (.sym ((fcB P en ws dp (mR nx pa er)).1).d.len))]),vc:=[rdOK ws nx,dpOK ws (mR nx pa er) dp,left ws (mR nx pa er)<m+1],nw:=[(0,.orow 186 (fcB P en ws dp (mR nx pa er)).1.d)]},[.c (.rows 202 ws),.c (.int .i64 (.sym (((fcB P en ws dp (mR nx pa er)).2).nx))),.c (.int .i64 (.sym en)),.c (.int .i64 (.sym (((fcB P en ws dp (mR nx pa er)).2).pa))),.c (.int .i64 (.sym (((fcB P en ws dp (mR nx pa er)).2).er)))])
 |_=>none
noncomputable def facC (P:PF) (m:Nat):Con:=conM 135 [.c (.rows 202),.c (.int .i64),.c (.int .i64),.c (.int .i64),.c (.int .i64)] [.sc (.int .i64)] (facS P m)
theorem fac_ok {P:PF} {m:Nat} (hP:ConOK Tryz.prog 195 (partC P m)) (hPa:∀ en ws dp,PaOK ws (P en ws dp)):ConOK Tryz.prog 195 (facC P m):=by
 refine fn_obM tt_ok mixed Tryz.func195 rfl (fun _ _=>by kernel_rfl) (A:=fun ds=>⟨fun _=>Cons.of [(118,pekC),(121,numC),(182,nstC),(195,(partC P m)),(170,(partC (smF P) m)),(122,expC),(119,namC)],fun _=>none,fun _=>none⟩) (fun _ _=>(cons_cons pek_ok (cons_cons num_ok (cons_cons nst_ok (cons_cons hP (cons_cons (smF_ok hP hPa) (cons_cons exp_ok (cons_cons nam_ok cons_nil)))))))) (by kernel_rfl) ?_
 intro ds;unfold facS;split
 ·rename_i ws nx en pa er dp;refine kmp (q:=withv (fcB P en ws dp (mR nx pa er)) fun E168=>withv (P en ws (IntKind.i64.wrap (dp+1)) (neR ws en miB dp (mR nx pa er))) fun E169=>withv (smF P en ws (IntKind.i64.wrap (dp+1)) (neR ws en opB dp (mR nx pa er))) fun E170=>rdOK ws nx->dpOK ws (mR nx pa er) dp->left ws (mR nx pa er)<m+1->rdOK ws nx/\((pkK ws nx==(2:Int))=true->rdOK ws nx/\(1:Int)=E168.fst.k/\nuN ws (mR nx pa er)=E168.fst.n/\Value.string ByteArray.empty=Value.string E168.fst.s/\E168.fst.d.len=0/\ws.rows=ws.rows/\(nuR ws en (mR nx pa er)).nx=E168.snd.nx/\en=en/\(nuR ws en (mR nx pa er)).pa=E168.snd.pa/\(nuR ws en (mR nx pa er)).er=E168.snd.er/\E168.fst.d.rows=[])/\((pkK ws nx==(2:Int))=false->(((pkS ws nx).toList==miB.toList)=true->rdOK ws nx/\0<miB.size/\rdOK ws (neR ws en miB dp (mR nx pa er)).nx/\dpOK ws (neR ws en miB dp (mR nx pa er)) (IntKind.i64.wrap (dp+1))/\left ws (neR ws en miB dp (mR nx pa er))<m/\0+E169.fst.d.len<=E169.fst.d.len/\(3:Int)=E168.fst.k/\(0:Int)=E168.fst.n/\Value.string ByteArray.empty=Value.string E168.fst.s/\1=E168.fst.d.len/\ws.rows=ws.rows/\E169.snd.nx=E168.snd.nx/\en=en/\E169.snd.pa=E168.snd.pa/\E169.snd.er=E168.snd.er /\ [[D.i E169.fst.k,D.i E169.fst.n,D.s E169.fst.s,E169.fst.d.sub 0 ((0:Nat)+E169.fst.d.len)]]=E168.fst.d.rows)/\(((pkS ws nx).toList==miB.toList)=false->(((pkS ws nx).toList==opB.toList)=true->rdOK ws nx/\0<opB.size/\rdOK ws (neR ws en opB dp (mR nx pa er)).nx/\dpOK ws (neR ws en opB dp (mR nx pa er)) (IntKind.i64.wrap (dp+1))/\left ws (neR ws en opB dp (mR nx pa er))<m/\rdOK ws E170.snd.nx/\0<clB.size/\E170.fst.k=E168.fst.k/\E170.fst.n=E168.fst.n/\Value.string E170.fst.s=Value.string E168.fst.s/\E170.fst.d.len=E168.fst.d.len/\ws.rows=ws.rows/\(exR ws en clB E170.snd).nx=E168.snd.nx/\en=en/\(exR ws en clB E170.snd).pa=E168.snd.pa/\(exR ws en clB E170.snd).er=E168.snd.er/\E170.fst.d.rows=E168.fst.d.rows)/\(((pkS ws nx).toList==opB.toList)=false->rdOK ws nx/\(2:Int)=E168.fst.k/\(0:Int)=E168.fst.n/\Value.string (nmS ws (mR nx pa er))=Value.string E168.fst.s/\E168.fst.d.len=0/\ws.rows=ws.rows/\(nmR ws en (mR nx pa er)).nx=E168.snd.nx/\en=en/\(nmR ws en (mR nx pa er)).pa=E168.snd.pa/\(nmR ws en (mR nx pa er)).er=E168.snd.er/\E168.fst.d.rows=[])))) (by kernel_rfl) ?_
  dsimp +instances only [withv]
  intro h hd hl;have e1:IntKind.i64.wrap (dp+1)=dp+1:=by
   have:=hd.1;have:=hd.2;rw [IntWalk.i64_in _ (by omega)]
  simp only [etR,e1,subAll];refine ⟨h,fun hk=>?_,fun hk=>⟨fun hm=>?_,fun hm=>⟨fun ho=>?_,fun ho=>?_⟩⟩⟩
  ·have hk:pkK ws nx=2:=by simpa using hk
   have e:fcB P en ws dp (mR nx pa er)=(⟨1,nuN ws (mR nx pa er),ByteArray.empty,.l []⟩,nuR ws en (mR nx pa er)):=if_pos hk;rw [e]
   (repeat' (with_reducible apply And.intro))<;>first |with_reducible rfl |exact True.intro |assumption |(symm;assumption) |rfl
  ·have hk:pkK ws nx≠2:=by simpa using hk
   have hm:acB ws nx miB=true:=hm;obtain ⟨n1,n2,n3⟩:=ne_up (r:=mR nx pa er) (en:=en) (dp:=dp) h (show 0<miB.size by decide) hm;have e:fcB P en ws dp (mR nx pa er)=(⟨3,0,ByteArray.empty,.l [(P en ws (dp+1) (neR ws en miB dp (mR nx pa er))).1.row]⟩,(P en ws (dp+1) (neR ws en miB dp (mR nx pa er))).2):=(if_neg hk).trans (if_pos hm);rw [e];have d1:dpOK ws (neR ws en miB dp (mR nx pa er)) (dp+1):=⟨by have:=hd.1;omega,by have:=hd.2;omega⟩;have l1:left ws (neR ws en miB dp (mR nx pa er))<m:=by omega
   exact ⟨h,(by decide),n1,d1,l1,(by omega),(by (repeat' (with_reducible apply And.intro))<;>first |with_reducible rfl |exact True.intro |assumption |(symm;assumption) |rfl)⟩
  ·have hk:pkK ws nx≠2:=by simpa using hk
   have hm:¬ acB ws nx miB=true:=by rw [show acB ws nx miB=false from hm];decide
   have ho:acB ws nx opB=true:=ho;obtain ⟨n1,n2,n3⟩:=ne_up (r:=mR nx pa er) (en:=en) (dp:=dp) h (show 0<opB.size by decide) ho;have e:fcB P en ws dp (mR nx pa er)=((smF P en ws (dp+1) (neR ws en opB dp (mR nx pa er))).1,exR ws en clB (smF P en ws (dp+1) (neR ws en opB dp (mR nx pa er))).2):=(if_neg hk).trans ((if_neg hm).trans (if_pos ho));rw [e];have d1:dpOK ws (neR ws en opB dp (mR nx pa er)) (dp+1):=⟨by have:=hd.1;omega,by have:=hd.2;omega⟩;have l1:left ws (neR ws en opB dp (mR nx pa er))<m:=by omega
   have u:=(smF_up hPa en ws (dp+1)).up _ n1;exact ⟨h,(by decide),n1,d1,l1,u.2.1,(by decide),(by (repeat' (with_reducible apply And.intro))<;>first |with_reducible rfl |exact True.intro |assumption |(symm;assumption) |rfl)⟩
  ·have hk:pkK ws nx≠2:=by simpa using hk
   have hm:¬ acB ws nx miB=true:=by rw [show acB ws nx miB=false from hm];decide
   have ho:¬ acB ws nx opB=true:=by rw [show acB ws nx opB=false from ho];decide
   have e:fcB P en ws dp (mR nx pa er)=(⟨2,0,nmS ws (mR nx pa er),.l []⟩,nmR ws en (mR nx pa er)):=(if_neg hk).trans ((if_neg hm).trans (if_neg ho));rw [e]
   (repeat' (with_reducible apply And.intro))<;>first |with_reducible rfl |exact True.intro |assumption |(symm;assumption) |rfl
 ·trivial
theorem fl_nx (ws:D) (en e:Int) (r:Rd):(fl ws en e r).nx=ws.len:=by
 unfold fl
 split<;>rfl
theorem fl_up {ws:D} (en e:Int) {r:Rd} (h:rdOK ws r.nx):rdOK ws (fl ws en e r).nx/\r.nx<=(fl ws en e r).nx:=by
 obtain ⟨a,b,c⟩:=h;rw [fl_nx];exact ⟨⟨by omega,by omega,c⟩,b⟩
theorem gx_up {ws:D} {r:Rd} (h:rdOK ws r.nx) (hl:r.nx<ws.len):rdOK ws (gx r).nx/\r.nx<=(gx r).nx:=by
 have e5:(gx r).nx=r.nx+1:=rfl;exact ⟨(gx_ok h hl).1,by omega⟩
theorem ex_up {ws:D} (en:Int) {t:ByteArray} {r:Rd} (h:rdOK ws r.nx) (ht:0<t.size):rdOK ws (exR ws en t r).nx/\r.nx<=(exR ws en t r).nx:=by
 cases ha:acB ws r.nx t with
 |true=>
  rw [exR_yes ha];exact gx_up h (ac_lt ht ha)
 |false=>
  rw [exR_no ha];exact fl_up en 5 h
theorem nm_up {ws:D} (en:Int) {r:Rd} (h:rdOK ws r.nx):rdOK ws (nmR ws en r).nx/\r.nx<=(nmR ws en r).nx:=by
 unfold nmR;split
 ·rename_i hk;exact gx_up h (pk_lt (by rw [hk];decide))
 ·exact fl_up en 5 h
theorem nu_up {ws:D} (en:Int) {r:Rd} (h:rdOK ws r.nx):rdOK ws (nuR ws en r).nx/\r.nx<=(nuR ws en r).nx:=by
 unfold nuR;split
 ·rename_i hk;exact gx_up h (pk_lt (by rw [hk];decide))
 ·exact fl_up en 5 h
theorem fcB_up {P:PF} (hPa:∀ en ws dp,PaOK ws (P en ws dp)) (en:Int) (ws:D) (dp:Int):PaOK ws (fcB P en ws dp):=⟨fun r h=>by
 unfold fcB;split
 ·have u:=nu_up en h;exact ⟨u.2,u.1,Nat.zero_le _⟩
 ·split
  ·rename_i hm;obtain ⟨n1,n2,n3⟩:=ne_up (en:=en) (dp:=dp) h (show 0<miB.size by decide) hm;obtain ⟨u1,u2,u3⟩:=(hPa en ws (dp+1)).up _ n1;exact ⟨Int.le_trans n3 u1,u2,(show 1<=2 by decide)⟩
  ·split
   ·rename_i hm;obtain ⟨n1,n2,n3⟩:=ne_up (en:=en) (dp:=dp) h (show 0<opB.size by decide) hm;obtain ⟨u1,u2,u3⟩:=(smF_up hPa en ws (dp+1)).up _ n1;obtain ⟨w1,w2⟩:=ex_up en (t:=clB) u2 (by decide);exact ⟨Int.le_trans n3 (Int.le_trans u1 w2),w1,u3⟩
   ·have u:=nm_up en h;exact ⟨u.2,u.1,Nat.zero_le _⟩⟩
def fcR:Nat->PF
 | 0=>fun _ _ _ r=>(⟨0,0,ByteArray.empty,.l []⟩,r)
 |m+1=>fcB (fcR m)
theorem fcR_up:∀ (m:Nat) (en:Int) (ws:D) (dp:Int),PaOK ws (fcR m en ws dp)
 | 0,_,_,_=>⟨fun _ h=>⟨Int.le_refl _,h,Nat.zero_le _⟩⟩
 |m+1,en,ws,dp=>fcB_up (fcR_up m) en ws dp
theorem part_zero {F:PF}:ConOK Tryz.prog 195 (partC F 0):=by
 refine ⟨fun _ _=>by kernel_rfl,fun hp fr args e he hv=>?_,fun hp fr caps e h=>by cases h⟩;exfalso;obtain ⟨ds,e1,sg,ps1,ps2,hs,hvc,_⟩:=conM_in he;rw [hvc] at hv;obtain ⟨_,hv⟩:=all_append.1 hv;obtain ⟨_,hv⟩:=all_append.1 hv;unfold partS at hs
 split at hs
 ·simp only [Option.some.injEq,Prod.mk.injEq] at hs;obtain ⟨rfl,rfl⟩:=hs;exact Nat.not_lt_zero _ hv.2.2.1
 ·cases hs
theorem fac_all:∀ m,ConOK Tryz.prog 195 (partC (fcR m) m)
 | 0=>part_zero
 |m+1=>fac_ok (P:=fcR m) (m:=m) (fac_all m) (fcR_up m)
theorem sum_all (m:Nat):ConOK Tryz.prog 170 (partC (smF (fcR m)) m):=smF_ok (fac_all m) (fcR_up m)
def smX:PF:=smF (fcR 1000001)
theorem smX_ok:ConOK Tryz.prog 170 (partC smX 1000001):=sum_all 1000001
theorem smX_up (en:Int) (ws:D) (dp:Int):PaOK ws (smX en ws dp):=smF_up (fcR_up 1000001) en ws dp
attribute [irreducible] smX
theorem lf_lt {ws:D} {r:Rd} (h:rdOK ws r.nx):dpOK ws r 0/\left ws r<1000001:=by
 obtain ⟨a,b,c⟩:=h;unfold dpOK left;exact ⟨⟨by omega,by omega⟩,by omega⟩
theorem cm_up {ws:D} (en:Int) {r:Rd} (h:rdOK ws r.nx):rdOK ws (cmR ws en r).nx/\r.nx<=(cmR ws en r).nx:=by
 unfold cmR;split
 ·exact fl_up en 5 h
 ·rename_i hk;exact gx_up h (pk_of co_e hk)
structure Cd where
 op:Int
 l:Xp
 r:Xp
def cdA (ws:D) (en:Int) (r:Rd):Xp × Rd:=smX en ws 0 (exR ws en opB r)
def cdB (ws:D) (en:Int) (r:Rd):Xp × Rd:=smX en ws 0 (cmR ws en (cdA ws en r).2)
def cdC (ws:D) (en:Int) (r:Rd):Cd:=⟨coK (pkS ws (cdA ws en r).2.nx),(cdA ws en r).1,(cdB ws en r).1⟩
def cdR (ws:D) (en:Int) (r:Rd):Rd:=exR ws en clB (cdB ws en r).2
theorem cd_up {ws:D} (en:Int) {r:Rd} (h:rdOK ws r.nx):rdOK ws (exR ws en opB r).nx/\rdOK ws (cdA ws en r).2.nx/\rdOK ws (cmR ws en (cdA ws en r).2).nx/\rdOK ws (cdB ws en r).2.nx/\rdOK ws (cdR ws en r).nx/\r.nx<=(cdR ws en r).nx:=by
 have a:=ex_up en (t:=opB) h (by decide);have b:=(smX_up en ws 0).up _ a.1;have c:=cm_up en b.2.1;have d:=(smX_up en ws 0).up _ c.1;have e:=ex_up en (t:=clB) d.2.1 (by decide);exact ⟨a.1,b.2.1,c.1,d.2.1,e.1,Int.le_trans a.2 (Int.le_trans b.1 (Int.le_trans c.2 (Int.le_trans d.1 e.2)))⟩
noncomputable def cndS:List Dat->Option (Eff × List Seg):=fun ds=>match ds with
 | [.d ws,.i nx,.i en,.i pa,.i er]=>some ({val:=.one (.agg [.c (.int .i64 (.sym (cdC ws en (mR nx pa er)).op)),.c (.int .i64 (.sym ((cdC ws en (mR nx pa er)).l).k)),.c (.int .i64 (.sym ((cdC ws en (mR nx pa er)).l).n)),.c (.raw (.string ((cdC ws en (mR nx pa er)).l).s)),.c (.osl 186 0 (.lit 0) (.sym ((cdC ws en (mR nx pa er)).l).d.len)),.c (.int .i64 (.sym ((cdC ws en (mR nx pa er)).r).k)),.c (.int .i64 (.sym ((cdC ws en (mR nx pa er)).r).n)),.c (.raw (.string ((cdC ws en (mR nx pa er)).r).s)),.c (.osl 186 1 (.lit 0) (.sym ((cdC ws en (mR nx pa er)).r).d.len))]),vc:=[rdOK ws nx],nw:=[(0,.orow 186 (cdC ws en (mR nx pa er)).l.d),(1,.orow 186 (cdC ws en (mR nx pa er)).r.d)]},[.c (.rows 202 ws),.c (.int .i64 (.sym ((cdR ws en (mR nx pa er)).nx))),.c (.int .i64 (.sym en)),.c (.int .i64 (.sym ((cdR ws en (mR nx pa er)).pa))),.c (.int .i64 (.sym ((cdR ws en (mR nx pa er)).er)))])
 |_=>none
noncomputable def cndC:Con:=conM 135 [.c (.rows 202),.c (.int .i64),.c (.int .i64),.c (.int .i64),.c (.int .i64)] [] cndS
theorem cnd_ok:ConOK Tryz.prog 168 cndC:=by
 refine fn_obM tt_ok mixed Tryz.func168 rfl (fun _ _=>by kernel_rfl) (A:=fun ds=>⟨fun _=>Cons.of [(170,(partC smX 1000001)),(122,expC),(181,cmpC)],fun _=>none,fun _=>none⟩) (fun _ _=>(cons_cons smX_ok (cons_cons exp_ok (cons_cons cmp_ok cons_nil)))) (by kernel_rfl) ?_
 intro ds;unfold cndS;split
 ·rename_i ws nx en pa er;refine kmp (q:=withv (smX en ws (0:Int) (exR ws en opB (mR nx pa er))) fun E171=>withv (smX en ws (0:Int) (cmR ws en E171.snd)) fun E172=>withv (cdC ws en (mR nx pa er)) fun E173=>rdOK ws nx->rdOK ws nx/\0<opB.size/\rdOK ws (exR ws en opB (mR nx pa er)).nx/\dpOK ws (exR ws en opB (mR nx pa er)) (0:Int)/\left ws (exR ws en opB (mR nx pa er))<1000001/\rdOK ws E171.snd.nx/\rdOK ws (cmR ws en E171.snd).nx/\dpOK ws (cmR ws en E171.snd) (0:Int)/\left ws (cmR ws en E171.snd)<1000001/\rdOK ws E172.snd.nx/\0<clB.size/\coK (pkS ws E171.snd.nx)=E173.op/\E171.fst.k=E173.l.k/\E171.fst.n=E173.l.n/\Value.string E171.fst.s=Value.string E173.l.s/\E171.fst.d.len=E173.l.d.len/\E172.fst.k=E173.r.k/\E172.fst.n=E173.r.n/\Value.string E172.fst.s=Value.string E173.r.s/\E172.fst.d.len=E173.r.d.len/\ws.rows=ws.rows/\(exR ws en clB E172.snd).nx=(cdR ws en (mR nx pa er)).nx/\en=en/\(exR ws en clB E172.snd).pa=(cdR ws en (mR nx pa er)).pa/\(exR ws en clB E172.snd).er=(cdR ws en (mR nx pa er)).er/\E171.fst.d.rows=E173.l.d.rows/\E172.fst.d.rows=E173.r.d.rows) (by kernel_rfl) ?_
  dsimp +instances only [withv]
  intro h;obtain ⟨a,b,c,d,e,f⟩:=cd_up en (r:=mR nx pa er) h
  try simp only [etR]
  exact ⟨h,(by decide),a,(lf_lt a).1,(lf_lt a).2,b,c,(lf_lt c).1,(lf_lt c).2,d,(by decide),(by (repeat' (with_reducible apply And.intro))<;>first |with_reducible rfl |exact True.intro |assumption |(symm;assumption) |rfl)⟩
 ·trivial
end Go.Proofs.YtplejbgafjpomaaGreatDoor.Sx.Z
namespace Go.Proofs.YtplejbgafjpomaaGreatDoor.Sx.Z
open Go.RowKit
def eqB:ByteArray:=⟨#[61]⟩
def seB:ByteArray:=⟨#[59]⟩
def doB:ByteArray:=⟨#[46]⟩
def kwS:ByteArray:=⟨#[115,101,110,100]⟩
def kwA:ByteArray:=⟨#[97,115,115,101,114,116]⟩
def kwI:ByteArray:=⟨#[105,110,112,117,116]⟩
def asE (ws:D) (en:Int) (r:Rd):Xp × Rd:=smX en ws 0 (exR ws en eqB (nmR ws en r))
def asR (ws:D) (en:Int) (r:Rd):Rd:=exR ws en seB (asE ws en r).2
def snN (ws:D) (en:Int) (r:Rd):Rd:=exR ws en kwS r
def snT (ws:D) (en:Int) (r:Rd):Rd:=exR ws en doB (nmR ws en (snN ws en r))
def snE (ws:D) (en:Int) (r:Rd):Xp × Rd:=smX en ws 0 (exR ws en opB (nmR ws en (snT ws en r)))
def snR (ws:D) (en:Int) (r:Rd):Rd:=exR ws en seB (exR ws en clB (snE ws en r).2)
def atC (ws:D) (en:Int) (r:Rd):Cd:=cdC ws en (exR ws en kwA r)
def atR (ws:D) (en:Int) (r:Rd):Rd:=exR ws en seB (cdR ws en (exR ws en kwA r))
def inR (ws:D) (en:Int) (r:Rd):Rd:=exR ws en seB (nmR ws en (exR ws en kwI r))
noncomputable def asgS:List Dat->Option (Eff × List Seg):=fun ds=>match ds with
 | [.d ws,.i nx,.i en,.i pa,.i er]=>some ({val:=.one (.agg [.c (.int .i64 (.sym 1)),.c (.raw (.string (nmS ws (mR nx pa er)))),.c (.raw (.string (ByteArray.empty))),.c (.int .i64 (.sym ((asE ws en (mR nx pa er)).1).k)),.c (.int .i64 (.sym ((asE ws en (mR nx pa er)).1).n)),.c (.raw (.string ((asE ws en (mR nx pa er)).1).s)),.c (.osl 186 0 (.lit 0) (.sym ((asE ws en (mR nx pa er)).1).d.len)),.c (.int .i64 (.sym 0)),.c (.int .i64 (.sym 0)),.c (.int .i64 (.sym 0)),.c (.raw (.string ByteArray.empty)),.c .nils,.c (.int .i64 (.sym 0)),.c (.int .i64 (.sym 0)),.c (.raw (.string ByteArray.empty)),.c .nils,.c .nils,.c .nils,.c .nils]),vc:=[rdOK ws nx],nw:=[(0,.orow 186 (asE ws en (mR nx pa er)).1.d)]},[.c (.rows 202 ws),.c (.int .i64 (.sym ((asR ws en (mR nx pa er)).nx))),.c (.int .i64 (.sym en)),.c (.int .i64 (.sym ((asR ws en (mR nx pa er)).pa))),.c (.int .i64 (.sym ((asR ws en (mR nx pa er)).er)))])
 |_=>none
noncomputable def asgC:Con:=conM 135 [.c (.rows 202),.c (.int .i64),.c (.int .i64),.c (.int .i64),.c (.int .i64)] [] asgS
theorem asg_ok:ConOK Tryz.prog 154 asgC:=by
 refine fn_obM tt_ok mixed Tryz.func154 rfl (fun _ _=>by kernel_rfl) (A:=fun ds=>⟨fun _=>Cons.of [(170,(partC smX 1000001)),(122,expC),(119,namC)],fun _=>none,fun _=>none⟩) (fun _ _=>(cons_cons smX_ok (cons_cons exp_ok (cons_cons nam_ok cons_nil)))) (by kernel_rfl) ?_
 intro ds;unfold asgS;split
 ·rename_i ws nx en pa er;refine kmp (q:=rdOK ws nx->rdOK ws nx/\rdOK ws (nmR ws en (mR nx pa er)).nx/\0<eqB.size/\rdOK ws (exR ws en eqB (nmR ws en (mR nx pa er))).nx/\dpOK ws (exR ws en eqB (nmR ws en (mR nx pa er))) (0:Int)/\left ws (exR ws en eqB (nmR ws en (mR nx pa er)))<1000001/\rdOK ws (smX en ws (0:Int) (exR ws en eqB (nmR ws en (mR nx pa er)))).snd.nx/\0<seB.size/\(1:Int)=(1:Int)/\Value.string (nmS ws (mR nx pa er))=Value.string (nmS ws (mR nx pa er))/\Value.string ByteArray.empty=Value.string ByteArray.empty/\(smX en ws (0:Int) (exR ws en eqB (nmR ws en (mR nx pa er)))).fst.k=(asE ws en (mR nx pa er)).fst.k/\(smX en ws (0:Int) (exR ws en eqB (nmR ws en (mR nx pa er)))).fst.n=(asE ws en (mR nx pa er)).fst.n/\Value.string (smX en ws (0:Int) (exR ws en eqB (nmR ws en (mR nx pa er)))).fst.s=Value.string (asE ws en (mR nx pa er)).fst.s/\(smX en ws (0:Int) (exR ws en eqB (nmR ws en (mR nx pa er)))).fst.d.len=(asE ws en (mR nx pa er)).fst.d.len/\(0:Int)=(0:Int)/\(0:Int)=(0:Int)/\(0:Int)=(0:Int)/\Value.string ByteArray.empty=Value.string ByteArray.empty/\(0:Int)=(0:Int)/\(0:Int)=(0:Int)/\Value.string ByteArray.empty=Value.string ByteArray.empty/\ws.rows=ws.rows/\(exR ws en seB (smX en ws (0:Int) (exR ws en eqB (nmR ws en (mR nx pa er)))).snd).nx=(asR ws en (mR nx pa er)).nx/\en=en/\(exR ws en seB (smX en ws (0:Int) (exR ws en eqB (nmR ws en (mR nx pa er)))).snd).pa=(asR ws en (mR nx pa er)).pa/\(exR ws en seB (smX en ws (0:Int) (exR ws en eqB (nmR ws en (mR nx pa er)))).snd).er=(asR ws en (mR nx pa er)).er/\(smX en ws (0:Int) (exR ws en eqB (nmR ws en (mR nx pa er)))).fst.d.rows=(asE ws en (mR nx pa er)).fst.d.rows) (by kernel_rfl) ?_
  intro h;have a:=(nm_up en (r:=mR nx pa er) h).1;have b:=(ex_up en (t:=eqB) a (by decide)).1;have c:=((smX_up en ws 0).up _ b).2.1
  try simp only [etR]
  (repeat' (with_reducible apply And.intro))<;>first |with_reducible rfl |exact True.intro |assumption |exact (lf_lt (by assumption)).1 |exact (lf_lt (by assumption)).2 |decide |rfl
 ·trivial
noncomputable def assS:List Dat->Option (Eff × List Seg):=fun ds=>match ds with
 | [.d ws,.i nx,.i en,.i pa,.i er]=>some ({val:=.one (.agg [.c (.int .i64 (.sym 6)),.c (.raw (.string (ByteArray.empty))),.c (.raw (.string (ByteArray.empty))),.c (.int .i64 (.sym 0)),.c (.int .i64 (.sym 0)),.c (.raw (.string ByteArray.empty)),.c .nils,.c (.int .i64 (.sym (atC ws en (mR nx pa er)).op)),.c (.int .i64 (.sym ((atC ws en (mR nx pa er)).l).k)),.c (.int .i64 (.sym ((atC ws en (mR nx pa er)).l).n)),.c (.raw (.string ((atC ws en (mR nx pa er)).l).s)),.c (.osl 186 0 (.lit 0) (.sym ((atC ws en (mR nx pa er)).l).d.len)),.c (.int .i64 (.sym ((atC ws en (mR nx pa er)).r).k)),.c (.int .i64 (.sym ((atC ws en (mR nx pa er)).r).n)),.c (.raw (.string ((atC ws en (mR nx pa er)).r).s)),.c (.osl 186 1 (.lit 0) (.sym ((atC ws en (mR nx pa er)).r).d.len)),.c .nils,.c .nils,.c .nils]),vc:=[rdOK ws nx],nw:=[(0,.orow 186 (atC ws en (mR nx pa er)).l.d),(1,.orow 186 (atC ws en (mR nx pa er)).r.d)]},[.c (.rows 202 ws),.c (.int .i64 (.sym ((atR ws en (mR nx pa er)).nx))),.c (.int .i64 (.sym en)),.c (.int .i64 (.sym ((atR ws en (mR nx pa er)).pa))),.c (.int .i64 (.sym ((atR ws en (mR nx pa er)).er)))])
 |_=>none
noncomputable def assC:Con:=conM 135 [.c (.rows 202),.c (.int .i64),.c (.int .i64),.c (.int .i64),.c (.int .i64)] [] assS
theorem ass_ok:ConOK Tryz.prog 152 assC:=by
 refine fn_obM tt_ok mixed Tryz.func152 rfl (fun _ _=>by kernel_rfl) (A:=fun ds=>⟨fun _=>Cons.of [(168,cndC),(122,expC)],fun _=>none,fun _=>none⟩) (fun _ _=>(cons_cons cnd_ok (cons_cons exp_ok cons_nil))) (by kernel_rfl) ?_
 intro ds;unfold assS;split
 ·rename_i ws nx en pa er;refine kmp (q:=rdOK ws nx->rdOK ws nx/\0<kwA.size/\rdOK ws (exR ws en kwA (mR nx pa er)).nx/\rdOK ws (cdR ws en (exR ws en kwA (mR nx pa er))).nx/\0<seB.size/\(6:Int)=(6:Int)/\Value.string ByteArray.empty=Value.string ByteArray.empty/\Value.string ByteArray.empty=Value.string ByteArray.empty/\(0:Int)=(0:Int)/\(0:Int)=(0:Int)/\Value.string ByteArray.empty=Value.string ByteArray.empty/\(cdC ws en (exR ws en kwA (mR nx pa er))).op=(atC ws en (mR nx pa er)).op/\(cdC ws en (exR ws en kwA (mR nx pa er))).l.k=(atC ws en (mR nx pa er)).l.k/\(cdC ws en (exR ws en kwA (mR nx pa er))).l.n=(atC ws en (mR nx pa er)).l.n/\Value.string (cdC ws en (exR ws en kwA (mR nx pa er))).l.s=Value.string (atC ws en (mR nx pa er)).l.s/\(cdC ws en (exR ws en kwA (mR nx pa er))).l.d.len=(atC ws en (mR nx pa er)).l.d.len/\(cdC ws en (exR ws en kwA (mR nx pa er))).r.k=(atC ws en (mR nx pa er)).r.k/\(cdC ws en (exR ws en kwA (mR nx pa er))).r.n=(atC ws en (mR nx pa er)).r.n/\Value.string (cdC ws en (exR ws en kwA (mR nx pa er))).r.s=Value.string (atC ws en (mR nx pa er)).r.s/\(cdC ws en (exR ws en kwA (mR nx pa er))).r.d.len=(atC ws en (mR nx pa er)).r.d.len/\ws.rows=ws.rows/\(exR ws en seB (cdR ws en (exR ws en kwA (mR nx pa er)))).nx=(atR ws en (mR nx pa er)).nx/\en=en/\(exR ws en seB (cdR ws en (exR ws en kwA (mR nx pa er)))).pa=(atR ws en (mR nx pa er)).pa/\(exR ws en seB (cdR ws en (exR ws en kwA (mR nx pa er)))).er=(atR ws en (mR nx pa er)).er/\(cdC ws en (exR ws en kwA (mR nx pa er))).l.d.rows=(atC ws en (mR nx pa er)).l.d.rows/\(cdC ws en (exR ws en kwA (mR nx pa er))).r.d.rows=(atC ws en (mR nx pa er)).r.d.rows) (by kernel_rfl) ?_
  intro h;have a1:=(ex_up en (t:=kwA) (r:=mR nx pa er) h (by decide)).1;obtain ⟨_,_,_,_,a2,_⟩:=cd_up en a1
  try simp only [etR]
  (repeat' (with_reducible apply And.intro))<;>first |with_reducible rfl |exact True.intro |assumption |exact (lf_lt (by assumption)).1 |exact (lf_lt (by assumption)).2 |decide |rfl
 ·trivial
noncomputable def inpS:List Dat->Option (Eff × List Seg):=fun ds=>match ds with
 | [.d ws,.i nx,.i en,.i pa,.i er]=>some ({val:=.one (.agg [.c (.int .i64 (.sym 7)),.c (.raw (.string (nmS ws (exR ws en kwI (mR nx pa er))))),.c (.raw (.string (ByteArray.empty))),.c (.int .i64 (.sym 0)),.c (.int .i64 (.sym 0)),.c (.raw (.string ByteArray.empty)),.c .nils,.c (.int .i64 (.sym 0)),.c (.int .i64 (.sym 0)),.c (.int .i64 (.sym 0)),.c (.raw (.string ByteArray.empty)),.c .nils,.c (.int .i64 (.sym 0)),.c (.int .i64 (.sym 0)),.c (.raw (.string ByteArray.empty)),.c .nils,.c .nils,.c .nils,.c .nils]),vc:=[rdOK ws nx]},[.c (.rows 202 ws),.c (.int .i64 (.sym ((inR ws en (mR nx pa er)).nx))),.c (.int .i64 (.sym en)),.c (.int .i64 (.sym ((inR ws en (mR nx pa er)).pa))),.c (.int .i64 (.sym ((inR ws en (mR nx pa er)).er)))])
 |_=>none
noncomputable def inpC:Con:=conM 135 [.c (.rows 202),.c (.int .i64),.c (.int .i64),.c (.int .i64),.c (.int .i64)] [] inpS
theorem inp_ok:ConOK Tryz.prog 153 inpC:=by
 refine fn_obM tt_ok mixed Tryz.func153 rfl (fun _ _=>by kernel_rfl) (A:=fun ds=>⟨fun _=>Cons.of [(119,namC),(122,expC)],fun _=>none,fun _=>none⟩) (fun _ _=>(cons_cons nam_ok (cons_cons exp_ok cons_nil))) (by kernel_rfl) ?_
 intro ds;unfold inpS;split
 ·rename_i ws nx en pa er;refine kmp (q:=rdOK ws nx->rdOK ws nx/\0<kwI.size/\rdOK ws (exR ws en kwI (mR nx pa er)).nx/\rdOK ws (nmR ws en (exR ws en kwI (mR nx pa er))).nx/\0<seB.size/\(7:Int)=(7:Int)/\Value.string (nmS ws (exR ws en kwI (mR nx pa er)))=Value.string (nmS ws (exR ws en kwI (mR nx pa er)))/\Value.string ByteArray.empty=Value.string ByteArray.empty/\(0:Int)=(0:Int)/\(0:Int)=(0:Int)/\Value.string ByteArray.empty=Value.string ByteArray.empty/\(0:Int)=(0:Int)/\(0:Int)=(0:Int)/\(0:Int)=(0:Int)/\Value.string ByteArray.empty=Value.string ByteArray.empty/\(0:Int)=(0:Int)/\(0:Int)=(0:Int)/\Value.string ByteArray.empty=Value.string ByteArray.empty/\ws.rows=ws.rows/\(exR ws en seB (nmR ws en (exR ws en kwI (mR nx pa er)))).nx=(inR ws en (mR nx pa er)).nx/\en=en/\(exR ws en seB (nmR ws en (exR ws en kwI (mR nx pa er)))).pa=(inR ws en (mR nx pa er)).pa/\(exR ws en seB (nmR ws en (exR ws en kwI (mR nx pa er)))).er=(inR ws en (mR nx pa er)).er) (by kernel_rfl) ?_
  intro h;have a1:=(ex_up en (t:=kwI) (r:=mR nx pa er) h (by decide)).1;have a2:=(nm_up en a1).1
  try simp only [etR]
  (repeat' (with_reducible apply And.intro))<;>first |with_reducible rfl |exact True.intro |assumption |exact (lf_lt (by assumption)).1 |exact (lf_lt (by assumption)).2 |decide |rfl
 ·trivial
noncomputable def sndS:List Dat->Option (Eff × List Seg):=fun ds=>match ds with
 | [.d ws,.i nx,.i en,.i pa,.i er]=>some ({val:=.one (.agg [.c (.int .i64 (.sym 4)),.c (.raw (.string (nmS ws (snN ws en (mR nx pa er))))),.c (.raw (.string (nmS ws (snT ws en (mR nx pa er))))),.c (.int .i64 (.sym ((snE ws en (mR nx pa er)).1).k)),.c (.int .i64 (.sym ((snE ws en (mR nx pa er)).1).n)),.c (.raw (.string ((snE ws en (mR nx pa er)).1).s)),.c (.osl 186 0 (.lit 0) (.sym ((snE ws en (mR nx pa er)).1).d.len)),.c (.int .i64 (.sym 0)),.c (.int .i64 (.sym 0)),.c (.int .i64 (.sym 0)),.c (.raw (.string ByteArray.empty)),.c .nils,.c (.int .i64 (.sym 0)),.c (.int .i64 (.sym 0)),.c (.raw (.string ByteArray.empty)),.c .nils,.c .nils,.c .nils,.c .nils]),vc:=[rdOK ws nx],nw:=[(0,.orow 186 (snE ws en (mR nx pa er)).1.d)]},[.c (.rows 202 ws),.c (.int .i64 (.sym ((snR ws en (mR nx pa er)).nx))),.c (.int .i64 (.sym en)),.c (.int .i64 (.sym ((snR ws en (mR nx pa er)).pa))),.c (.int .i64 (.sym ((snR ws en (mR nx pa er)).er)))])
 |_=>none
noncomputable def sndC:Con:=conM 135 [.c (.rows 202),.c (.int .i64),.c (.int .i64),.c (.int .i64),.c (.int .i64)] [] sndS
theorem snd_ok:ConOK Tryz.prog 150 sndC:=by
 refine fn_obM tt_ok mixed Tryz.func150 rfl (fun _ _=>by kernel_rfl) (A:=fun ds=>⟨fun _=>Cons.of [(170,(partC smX 1000001)),(122,expC),(119,namC)],fun _=>none,fun _=>none⟩) (fun _ _=>(cons_cons smX_ok (cons_cons exp_ok (cons_cons nam_ok cons_nil)))) (by kernel_rfl) ?_
 intro ds;unfold sndS;split
 ·rename_i ws nx en pa er;refine kmp (q:=withv (exR ws en (ByteArray.mk #[40]) (nmR ws en (exR ws en (ByteArray.mk #[46]) (nmR ws en (exR ws en (ByteArray.mk #[115,101,110,100]) (mR nx pa er)))))) fun E178=>withv (exR ws en (ByteArray.mk #[115,101,110,100]) (mR nx pa er)) fun E179=>withv (smX en ws (0:Int) (exR ws en (ByteArray.mk #[40]) (nmR ws en (exR ws en (ByteArray.mk #[46]) (nmR ws en (exR ws en {data:=#[(115:UInt8),(101:UInt8),(110:UInt8),(100:UInt8)]} (mR nx pa er))))))) fun E180=>withv (smX en ws (0:Int) E178) fun E181=>withv (exR ws en (ByteArray.mk #[46]) (nmR ws en E179)) fun E182=>withv (exR ws en (ByteArray.mk #[59]) (exR ws en (ByteArray.mk #[41]) E180.snd)) fun E183=>rdOK ws nx->rdOK ws nx/\0<(ByteArray.mk #[115,101,110,100]).size/\rdOK ws E179.nx/\rdOK ws (nmR ws en E179).nx/\0<(ByteArray.mk #[46]).size/\rdOK ws E182.nx/\rdOK ws (nmR ws en E182).nx/\0<(ByteArray.mk #[40]).size/\rdOK ws E178.nx/\dpOK ws E178 (0:Int)/\left ws E178<1000001/\rdOK ws E181.snd.nx/\0<(ByteArray.mk #[41]).size/\rdOK ws (exR ws en (ByteArray.mk #[41]) E181.snd).nx/\0<(ByteArray.mk #[59]).size/\(4:Int)=(4:Int)/\Value.string (nmS ws E179)=Value.string (nmS ws (snN ws en (mR nx pa er)))/\Value.string (nmS ws E182)=Value.string (nmS ws (snT ws en (mR nx pa er)))/\E181.fst.k=(snE ws en (mR nx pa er)).fst.k/\E181.fst.n=(snE ws en (mR nx pa er)).fst.n/\Value.string E181.fst.s=Value.string (snE ws en (mR nx pa er)).fst.s/\E181.fst.d.len=(snE ws en (mR nx pa er)).fst.d.len/\(0:Int)=(0:Int)/\(0:Int)=(0:Int)/\(0:Int)=(0:Int)/\Value.string ByteArray.empty=Value.string ByteArray.empty/\(0:Int)=(0:Int)/\(0:Int)=(0:Int)/\Value.string ByteArray.empty=Value.string ByteArray.empty/\ws.rows=ws.rows/\(exR ws en (ByteArray.mk #[59]) (exR ws en (ByteArray.mk #[41]) E181.snd)).nx=(snR ws en (mR nx pa er)).nx/\en=en/\E183.pa=(snR ws en (mR nx pa er)).pa/\E183.er=(snR ws en (mR nx pa er)).er/\E180.fst.d.rows=(snE ws en (mR nx pa er)).fst.d.rows) (by kernel_rfl) ?_
  dsimp +instances only [withv]
  intro h;have a1:=(ex_up en (t:=kwS) (r:=mR nx pa er) h (by decide)).1;have a2:=(nm_up en a1).1;have a3:=(ex_up en (t:=doB) a2 (by decide)).1;have a4:=(nm_up en a3).1;have a5:=(ex_up en (t:=opB) a4 (by decide)).1;have a6:=((smX_up en ws 0).up _ a5).2.1;have a7:=(ex_up en (t:=clB) a6 (by decide)).1
  (repeat' (with_reducible apply And.intro))<;>first |with_reducible rfl |exact True.intro |assumption |exact (lf_lt (by assumption)).1 |exact (lf_lt (by assumption)).2 |decide |rfl
 ·trivial
end Go.Proofs.YtplejbgafjpomaaGreatDoor.Sx.Z
