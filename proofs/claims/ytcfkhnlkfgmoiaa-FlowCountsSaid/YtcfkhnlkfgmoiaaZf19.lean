import Derived.Test.YtcfkhnlkfgmoiaaZf18
set_option linter.unusedVariables false
set_option linter.unusedSimpArgs false
namespace Go.Proofs.Ytcfkhnlkfgmoiaa.Sx.Z
open Go.RowKit
def m20 (a:Int):Nat:=((IntKind.u64.wrap a)%20).toNat
theorem m20_eq (a:Int):IntKind.i64.wrap ((IntKind.u64.wrap a).tmod 20)=(m20 a:Int):=by
 have h0:0<=IntKind.u64.wrap a:=Int.emod_nonneg _ (by decide);rw [Int.tmod_eq_emod_of_nonneg h0];have:=Int.emod_nonneg (IntKind.u64.wrap a) (show (20:Int)≠0 by decide);have:=Int.emod_lt_of_pos (IntKind.u64.wrap a) (show (0:Int)<20 by decide);rw [IntWalk.i64_in _ (by omega)];unfold m20;omega
theorem m20_lt (a:Int):m20 a<=19:=by
 have:=Int.emod_lt_of_pos (IntKind.u64.wrap a) (show (0:Int)<20 by decide);unfold m20;omega
def prB (a:Nat) (r:List D):D:=.l [[D.i 1,bdy a r]]
theorem app_0 (a:Nat):(D.l []).app (cpTo a inR)=cpTo a inR:=rfl
theorem app_1 (a:Nat) (r:List D):(cpTo a inR).app ((D.l [r]).sub 0 1)=bdy a r:=rfl
theorem sub_b (a:Nat) (r:List D):(bdy a r).sub 0 (a+1)=bdy a r:=by
 have:=sub_all (bdy a r);rw [bdy_len] at this;exact this
theorem sub_p (a:Nat) (r:List D):(D.l [[D.i 1,bdy a r]]).sub 0 1=prB a r:=rfl
theorem prB_len (a:Nat) (r:List D):(prB a r).len=1:=rfl
theorem k4_nil:k4S (.l []):=(k4S_iff _).2 ⟨by decide,fun i h=>absurd h (Nat.not_lt_zero i)⟩
theorem b4_nil:b4S (.l []):=(b4S_iff _).2 ⟨by decide,fun i h=>absurd h (Nat.not_lt_zero i)⟩
theorem kO_nil:kOK (.l []):=(kOK_iff _).2 ⟨by decide,fun i h=>absurd h (Nat.not_lt_zero i)⟩
theorem aK_nil:amK (.l []):=⟨by decide,fun i h=>absurd h (Nat.not_lt_zero i)⟩
theorem b4_in {b:Nat} (hb:b<=19):b4S (cpTo b inR):=(b4S_iff _).2 ⟨by rw [cpTo_len];omega,fun i hi=>by
 rw [cpTo_len] at hi;simp only [elI hi];exact ⟨k4_nil,k4_nil,k4_nil,b4_nil,b4_nil,(show (0:Nat)*40<=140737488355328 by decide),fun j h=>absurd h (Nat.not_lt_zero j)⟩⟩
theorem kO_in {b:Nat} (hb:b<=19):kOK (cpTo b inR):=(kOK_iff _).2 ⟨by rw [cpTo_len];omega,fun i hi=>by
 rw [cpTo_len] at hi;simp only [elI hi];exact ⟨kO_nil,kO_nil,aK_nil⟩⟩
inductive TwR (a:Nat):List D->Prop
 |i (b:Nat):b<=19->TwR a (ifR a b)
 |w (b:Nat):b<=19->TwR a (whR b)
theorem b4_bdy {a:Nat} {r:List D} (ha:a<=19) (hr:TwR a r):b4S (bdy a r):=(b4S_iff _).2 ⟨by rw [bdy_len];omega,fun i hi=>by
 rw [bdy_len] at hi
 rcases Nat.lt_or_ge i a with h |h
 ·simp only [bdy_lo h];exact ⟨k4_nil,k4_nil,k4_nil,b4_nil,b4_nil,(show (0:Nat)*40<=140737488355328 by decide),fun j h=>absurd h (Nat.not_lt_zero j)⟩
 ·obtain rfl:i=a:=by omega
  simp only [bdy_at]
  cases hr with
  |i b hb=>exact ⟨k4_nil,k4_nil,k4_nil,b4_in hb,b4_in ha,(show (0:Nat)*40<=140737488355328 by decide),fun j h=>absurd h (Nat.not_lt_zero j)⟩
  |w b hb=>exact ⟨k4_nil,k4_nil,k4_nil,b4_in hb,b4_nil,(show (0:Nat)*40<=140737488355328 by decide),fun j h=>absurd h (Nat.not_lt_zero j)⟩⟩
theorem kO_bdy {a:Nat} {r:List D} (ha:a<=19) (hr:TwR a r):kOK (bdy a r):=(kOK_iff _).2 ⟨by rw [bdy_len];omega,fun i hi=>by
 rw [bdy_len] at hi
 rcases Nat.lt_or_ge i a with h |h
 ·simp only [bdy_lo h];exact ⟨kO_nil,kO_nil,aK_nil⟩
 ·obtain rfl:i=a:=by omega
  simp only [bdy_at]
  cases hr with
  |i b hb=>exact ⟨kO_in hb,kO_in ha,aK_nil⟩
  |w b hb=>exact ⟨kO_in hb,kO_nil,aK_nil⟩⟩
theorem gB_nil:gB (.l [])=1:=by rw [gB_eq];rfl
theorem gS_in:gT (.l []) (.l []) (.l [])=6:=by
 unfold gT;rw [gB_nil];rfl
theorem sm_c {f:Nat->Nat} {c:Nat}:∀ {n:Nat},(∀ i,i<n->f i=c)->smN f n=n*c
 | 0,_=>by rw [Nat.zero_mul];rfl
 |n+1,h=>by
  rw [smN,sm_c fun i hi=>h i (by omega),h n (by omega),Nat.succ_mul]
theorem gB_in (b:Nat):gB (cpTo b inR)=1+b*6:=by
 rw [gB_eq,cpTo_len,sm_c (c:=6) fun i hi=>?_];unfold gS;simp only [elI hi];exact gS_in
theorem gB_bdy {a:Nat} {r:List D} (ha:a<=19) (hr:TwR a r):gB (bdy a r)<=1000:=by
 rw [gB_eq,bdy_len,smN,sm_c (c:=6) fun i hi=>?_]
 ·unfold gS;simp only [bdy_at]
  cases hr with
  |i b hb=>
   show 1+(a*6+gT (cpTo b inR) (cpTo a inR) (.l []))<=1000;unfold gT;rw [gB_in,gB_in];show 1+(a*6+(4+(1+b*6)+(1+a*6)+0))<=1000;omega
  |w b hb=>
   show 1+(a*6+gT (cpTo b inR) (.l []) (.l []))<=1000;unfold gT;rw [gB_in,gB_nil];show 1+(a*6+(4+(1+b*6)+1+0))<=1000;omega
 ·unfold gS;simp only [bdy_lo hi];exact gS_in
theorem sk_in:skS (.l []) 0 1 7 0 0 0 0 0 0 (.l []) 0 0 0 0 (.l []) 0 0 0 (.l []) (.l []) (.l []) (.l [])=true:=rfl
theorem bk_in (b:Nat):bkR (.l []) 0 1 (cpTo b inR)=true:=by
 rw [bkR_eq,cpTo_len];refine allB_yes fun i hi=>?_
 unfold skE;simp only [elI hi];exact sk_in
theorem bk_bdy {a:Nat} {r:List D} (hr:TwR a r):bkR (.l []) 0 1 (bdy a r)=true:=by
 rw [bkR_eq,bdy_len];refine allB_yes fun i hi=>?_
 unfold skE
 rcases Nat.lt_or_ge i a with h |h
 ·simp only [bdy_lo h];exact sk_in
 ·obtain rfl:i=a:=by omega
  simp only [bdy_at]
  cases hr with
  |i b hb=>
   show skS (.l []) 0 1 2 0 0 0 0 0 0 (.l []) 1 1 1 0 (.l []) 1 1 0 (.l []) (cpTo b inR) (cpTo i inR) (.l [])=true;unfold skS;rw [skF_2,bk_in,bk_in];rfl
  |w b hb=>
   show skS (.l []) 0 1 3 0 0 0 0 0 0 (.l []) 1 1 1 0 (.l []) 1 1 0 (.l []) (cpTo b inR) (.l []) (.l [])=true;unfold skS;rw [skF_3,bk_in];rfl
theorem ri_bdy {a:Nat} {r:List D} (hr:TwR a r):riK (.l []) (prB a r)=true:=by
 have h2:prK (.l []) (prB a r) 0=true:=by
  unfold prK;show (_&&bkR (.l []) 0 1 (bdy a r))=true;rw [bk_bdy hr];rfl
 unfold riK;rw [prB_len,allB_1,h2];rfl
theorem tw_S {a:Nat} {r:List D} (ha:a<=19) (hr:TwR a r):Rn (gyS (bdy a r))/\(gyS (bdy a r)).e.len<=400/\(gyS (bdy a r)).h.len<=1:=by
 cases hr with
 |i b hb=>
  obtain ⟨h1,h2,h3⟩:=if_S ha hb;exact ⟨h1,by omega,by omega⟩
 |w b hb=>
  obtain ⟨h1,h2,h3⟩:=wh_S ha hb;exact ⟨h1,by omega,by omega⟩
theorem gy_S {a:Nat} {r:List D} (ha:a<=19) (hr:TwR a r):gyE (bdy a r)=(gyS (bdy a r)).e/\gyH (bdy a r)=(gyS (bdy a r)).h/\gyR (bdy a r)=0:=by
 have hf:¬ (gyS (bdy a r)).full=true:=by rw [not_full (tw_S ha hr).2.1];decide
 unfold gyE gyH gyR;rw [if_neg hf,if_neg hf,if_neg hf];exact ⟨rfl,rfl,rfl⟩
theorem bd_bdy {a:Nat} {r:List D} (ha:a<=19) (hr:TwR a r):BdOK (prB a r):=by
 have one:∀ {P:Nat->Prop},P 0->∀ i,i<(prB a r).len->P i:=fun h i hi=>by
  rw [prB_len] at hi;obtain rfl:i=0:=by omega
  exact h
 obtain ⟨g1,g2,g3⟩:=gy_S ha hr;refine ⟨by rw [prB_len];decide,one (kO_bdy ha hr),one (b4_bdy ha hr),one (Nat.le_trans (gB_bdy ha hr) (by decide)),one ?_,one g3⟩;show (gyH (bdy a r)).len<=1;rw [g2];exact (tw_S ha hr).2.2
theorem e_if (a b:Nat) : [D.i 2,D.i 0,D.i 0,D.i 0,D.i 0,D.i 0,D.i 0,D.l [],D.i 1,D.i 1,D.i 1,D.i 0,D.l [],D.i 1,D.i 1,D.i 0,D.l [],cpTo b inR,cpTo a inR,D.l []]=ifR a b:=rfl
theorem e_wh (b:Nat) : [D.i 3,D.i 0,D.i 0,D.i 0,D.i 0,D.i 0,D.i 0,D.l [],D.i 1,D.i 1,D.i 1,D.i 0,D.l [],D.i 1,D.i 1,D.i 0,D.l [],cpTo b inR,D.l [],D.l []]=whR b:=rfl
theorem ed_1 (a:Nat) (r:List D):(cpTo 1 (bdR (prB a r))).el 0 1=nD (gyE (bdy a r)):=by
 rw [elI Nat.one_pos];show nD (gyE ((prB a r).el 0 1))=_;rw [show (prB a r).el 0 1=bdy a r from rfl]
theorem ed_2 (a:Nat) (r:List D):(cpTo 1 (bdR (prB a r))).el 0 2=nD (gyH (bdy a r)):=by
 rw [elI Nat.one_pos];show nD (gyH ((prB a r).el 0 1))=_;rw [show (prB a r).el 0 1=bdy a r from rfl]
theorem nD_ln (d:D):(nD d).len=d.len:=rfl
theorem nD_out (d:D) (x:Int) (k:Nat):outD (nD d) x k=outD d x k:=rfl
theorem mx1 (b:Nat):(if (1:Int)>(b:Int) then 1 else (b:Int))=((max b 1:Nat):Int):=by split<;>omega
theorem nW {a b:Nat} (ha:a<=19) (hb:b<=19):IntKind.i64.wrap (IntKind.i64.wrap ((a:Int)+2)+((max b 1:Nat):Int))=((a+2+max b 1:Nat):Int):=by
 rw [IntWalk.i64_in ((a:Int)+2) (by omega),IntWalk.i64_in _ (by omega)];omega
theorem nI2 {a b:Nat} (ha:a<=19) (hb:b<=19):IntKind.i64.wrap (((a+2+max b 1:Nat):Int)+((max a 1:Nat):Int))=((a+2+max b 1+max a 1:Nat):Int):=by
 rw [IntWalk.i64_in _ (by omega)];omega
theorem d_0:(D.l []).len=0:=rfl
noncomputable def fctS:FSpec:=fun ds _=>match ds with
 | [.i n,.i m,.i k]=>some {val:=.one (.sc (.bool (.lit true))),vc:=[]}
 |_=>none
noncomputable def fctC:Con:=con [lI,lI,lI] fctS
theorem fct_ok:ConOK Try.prog 4 fctC:=by
 refine fn_ob tt_ok mixed Try.func4 rfl (fun _ _=>by kernel_rfl) (A:=fun ds=>⟨fun _=>Cons.of [(10,rowwC),(5,fbdC),(8,bldsC),(11,foutC)],fun _=>none,fun _=>none⟩) (fun _ _=>(cons_cons roww_ok (cons_cons fbd_ok (cons_cons blds_ok (cons_cons fout_ok cons_nil))))) (by kernel_rfl) ?_
 intro ds fr;unfold fctS;split
 ·rename_i n m k
  refine kmp (q:=withv ((D.l [[D.i 1,(((D.l []).app (cpTo (IntKind.i64.wrap ((IntKind.u64.wrap n).tmod (20:Int))).toNat inR)).app ((D.l [[D.i 2,D.i 0,D.i 0,D.i 0,D.i 0,D.i 0,D.i 0,D.l [],D.i 1,D.i 1,D.i 1,D.i 0,D.l [],D.i 1,D.i 1,D.i 0,D.l [],cpTo (IntKind.i64.wrap ((IntKind.u64.wrap m).tmod (20:Int))).toNat inR,cpTo (IntKind.i64.wrap ((IntKind.u64.wrap n).tmod (20:Int))).toNat inR,D.l []]]).sub (0:Nat) 1)).sub ((0:Nat)) ((0:Nat)+((0:Nat)+(cpTo (IntKind.i64.wrap ((IntKind.u64.wrap n).tmod (20:Int))).toNat inR).len+((D.l [[D.i 2,D.i 0,D.i 0,D.i 0,D.i 0,D.i 0,D.i 0,D.l [],D.i 1,D.i 1,D.i 1,D.i 0,D.l [],D.i 1,D.i 1,D.i 0,D.l [],cpTo (IntKind.i64.wrap ((IntKind.u64.wrap m).tmod (20:Int))).toNat inR,cpTo (IntKind.i64.wrap ((IntKind.u64.wrap n).tmod (20:Int))).toNat inR,D.l []]]).sub (0:Nat) 1).len))]]).sub (0:Nat) 1) fun E18=>withv ((D.l [[D.i 1,(((D.l []).app (cpTo (IntKind.i64.wrap ((IntKind.u64.wrap n).tmod (20:Int))).toNat inR)).app ((D.l [[D.i 3,D.i 0,D.i 0,D.i 0,D.i 0,D.i 0,D.i 0,D.l [],D.i 1,D.i 1,D.i 1,D.i 0,D.l [],D.i 1,D.i 1,D.i 0,D.l [],cpTo (IntKind.i64.wrap ((IntKind.u64.wrap m).tmod (20:Int))).toNat inR,D.l [],D.l []]]).sub (0:Nat) 1)).sub ((0:Nat)) ((0:Nat)+((0:Nat)+(cpTo (IntKind.i64.wrap ((IntKind.u64.wrap n).tmod (20:Int))).toNat inR).len+((D.l [[D.i 3,D.i 0,D.i 0,D.i 0,D.i 0,D.i 0,D.i 0,D.l [],D.i 1,D.i 1,D.i 1,D.i 0,D.l [],D.i 1,D.i 1,D.i 0,D.l [],cpTo (IntKind.i64.wrap ((IntKind.u64.wrap m).tmod (20:Int))).toNat inR,D.l [],D.l []]]).sub (0:Nat) 1).len))]]).sub (0:Nat) 1) fun E19=>withv (D.l [[D.i 2,D.i 0,D.i 0,D.i 0,D.i 0,D.i 0,D.i 0,D.l [],D.i 1,D.i 1,D.i 1,D.i 0,D.l [],D.i 1,D.i 1,D.i 0,D.l [],cpTo (IntKind.i64.wrap ((IntKind.u64.wrap m).tmod (20:Int))).toNat inR,cpTo (IntKind.i64.wrap ((IntKind.u64.wrap n).tmod (20:Int))).toNat inR,D.l []]]) fun E20=>withv ((IntKind.u64.wrap n).tmod (20:Int)) fun E21=>withv (D.l [[D.i 3,D.i 0,D.i 0,D.i 0,D.i 0,D.i 0,D.i 0,D.l [],D.i 1,D.i 1,D.i 1,D.i 0,D.l [],D.i 1,D.i 1,D.i 0,D.l [],cpTo (IntKind.i64.wrap ((IntKind.u64.wrap m).tmod (20:Int))).toNat inR,D.l [],D.l []]]) fun E22=>withv ((IntKind.u64.wrap m).tmod (20:Int)) fun E23=>withv ((cpTo E19.len (bdR E19)).el ((0:Nat)) 1) fun E24=>withv ((cpTo E18.len (bdR E18)).el ((0:Nat)) 1) fun E25=>withv (cpTo (IntKind.i64.wrap E21).toNat inR) fun E26=>withv (IntKind.i64.wrap E21+(2:Int)) fun E27=>withv ((cpTo E19.len (bdR E19)).el ((0:Nat)) ((0:Nat)+(2:Nat))) fun E28=>withv ((cpTo E18.len (bdR E18)).el ((0:Nat)) ((0:Nat)+(2:Nat))) fun E29=>withv (E20.sub (0:Nat) 1) fun E30=>withv (E22.sub (0:Nat) 1) fun E31=>withv (cpTo E19.len (bdR E19)) fun E32=>withv (cpTo E18.len (bdR E18)) fun E33=>withv (k.tmod (2:Int)==(0:Int)) fun E34=>(0:Int)<=IntKind.i64.wrap E21/\IntKind.i64.wrap E21<=(1000:Int)/\(0:Int)<=IntKind.i64.wrap E23/\IntKind.i64.wrap E23<=(1000:Int)/\(0:Nat)=(D.l []).len/\((0:Nat)+E26.len)*(256:Nat)<=(140737488355328:Nat)/\(0:Nat)+E26.len=((D.l []).app E26).len/\((0:Nat)+E26.len+E30.len)*(256:Nat)<=(140737488355328:Nat)/\(0:Nat)+(1:Nat)<=E20.len/\(E34=true->(0:Nat)=(D.l []).len/\((0:Nat)+E26.len)*(256:Nat)<=(140737488355328:Nat)/\(0:Nat)+E26.len=((D.l []).app E26).len/\((0:Nat)+E26.len+E31.len)*(256:Nat)<=(140737488355328:Nat)/\(0:Nat)+(1:Nat)<=E22.len/\(0:Nat)+((0:Nat)+E26.len+E31.len)<=(((D.l []).app E26).app E31).len/\(0:Nat)+(1:Nat)<=(D.l [[D.i 1,(((D.l []).app E26).app E31).sub ((0:Nat)) ((0:Nat)+((0:Nat)+E26.len+E31.len))]]).len/\(D.l []).len=(0:Nat)/\riK (D.l []) E19=true/\BdOK E19/\((!true ||(0:Int) != (0:Int) ||(E32.len:Int) != (1:Int))=true->false=true)/\((!true ||(0:Int) != (0:Int) ||(E32.len:Int) != (1:Int))=false->(E34=true->(0:Nat)<E32.len/\(((E24.len:Int)==IntKind.i64.wrap (IntKind.i64.wrap E27+if (1:Int)>IntKind.i64.wrap E23 then (1:Int) else IntKind.i64.wrap E23))=true/\True->(0:Nat)<E32.len)/\(((E24.len:Int)==IntKind.i64.wrap (IntKind.i64.wrap E27+if (1:Int)>IntKind.i64.wrap E23 then (1:Int) else IntKind.i64.wrap E23)&&(E28.len:Int)==(1:Int))=true/\True->(0:Nat)<E32.len)/\(((E24.len:Int)==IntKind.i64.wrap (IntKind.i64.wrap E27+if (1:Int)>IntKind.i64.wrap E23 then (1:Int) else IntKind.i64.wrap E23)&&(E28.len:Int)==(1:Int))=true/\True->E24.len<=1000000)/\((E24.len:Int)==IntKind.i64.wrap (IntKind.i64.wrap E27+if (1:Int)>IntKind.i64.wrap E23 then (1:Int) else IntKind.i64.wrap E23)&&(E28.len:Int)==(1:Int)&&(↑(outD E24 (1:Int) E24.len).len:Int)==(0:Int))=true)/\(E34=false->(0:Nat)<E32.len/\(((E24.len:Int)==IntKind.i64.wrap (IntKind.i64.wrap E27+if (1:Int)>IntKind.i64.wrap E23 then (1:Int) else IntKind.i64.wrap E23))=true/\True->(0:Nat)<E32.len)/\(((E24.len:Int)==IntKind.i64.wrap (IntKind.i64.wrap E27+if (1:Int)>IntKind.i64.wrap E23 then (1:Int) else IntKind.i64.wrap E23)&&(E28.len:Int)==(0:Int))=true/\True->(0:Nat)<E32.len)/\(((E24.len:Int)==IntKind.i64.wrap (IntKind.i64.wrap E27+if (1:Int)>IntKind.i64.wrap E23 then (1:Int) else IntKind.i64.wrap E23)&&(E28.len:Int)==(0:Int))=true/\True->E24.len<=1000000)/\((E24.len:Int)==IntKind.i64.wrap (IntKind.i64.wrap E27+if (1:Int)>IntKind.i64.wrap E23 then (1:Int) else IntKind.i64.wrap E23)&&(E28.len:Int)==(0:Int)&&(↑(outD E24 (1:Int) E24.len).len:Int)==(0:Int))=true)))/\(E34=false->(0:Nat)+((0:Nat)+E26.len+E30.len)<=(((D.l []).app E26).app E30).len/\(0:Nat)+(1:Nat)<=(D.l [[D.i 1,(((D.l []).app E26).app E30).sub ((0:Nat)) ((0:Nat)+((0:Nat)+E26.len+E30.len))]]).len/\(D.l []).len=(0:Nat)/\riK (D.l []) E18=true/\BdOK E18/\((!true ||(0:Int) != (0:Int) ||(E33.len:Int) != (1:Int))=true->false=true)/\((!true ||(0:Int) != (0:Int) ||(E33.len:Int) != (1:Int))=false->(E34=true->(0:Nat)<E33.len/\(((E25.len:Int)==IntKind.i64.wrap (IntKind.i64.wrap (IntKind.i64.wrap E27+if (1:Int)>IntKind.i64.wrap E23 then (1:Int) else IntKind.i64.wrap E23)+if (1:Int)>IntKind.i64.wrap E21 then (1:Int) else IntKind.i64.wrap E21))=true/\True->(0:Nat)<E33.len)/\(((E25.len:Int)==IntKind.i64.wrap (IntKind.i64.wrap (IntKind.i64.wrap E27+if (1:Int)>IntKind.i64.wrap E23 then (1:Int) else IntKind.i64.wrap E23)+if (1:Int)>IntKind.i64.wrap E21 then (1:Int) else IntKind.i64.wrap E21)&&(E29.len:Int)==(1:Int))=true/\True->(0:Nat)<E33.len)/\(((E25.len:Int)==IntKind.i64.wrap (IntKind.i64.wrap (IntKind.i64.wrap E27+if (1:Int)>IntKind.i64.wrap E23 then (1:Int) else IntKind.i64.wrap E23)+if (1:Int)>IntKind.i64.wrap E21 then (1:Int) else IntKind.i64.wrap E21)&&(E29.len:Int)==(1:Int))=true/\True->E25.len<=1000000)/\((E25.len:Int)==IntKind.i64.wrap (IntKind.i64.wrap (IntKind.i64.wrap E27+if (1:Int)>IntKind.i64.wrap E23 then (1:Int) else IntKind.i64.wrap E23)+if (1:Int)>IntKind.i64.wrap E21 then (1:Int) else IntKind.i64.wrap E21)&&(E29.len:Int)==(1:Int)&&(↑(outD E25 (1:Int) E25.len).len:Int)==(0:Int))=true)/\(E34=false->(0:Nat)<E33.len/\(((E25.len:Int)==IntKind.i64.wrap (IntKind.i64.wrap (IntKind.i64.wrap E27+if (1:Int)>IntKind.i64.wrap E23 then (1:Int) else IntKind.i64.wrap E23)+if (1:Int)>IntKind.i64.wrap E21 then (1:Int) else IntKind.i64.wrap E21))=true/\True->(0:Nat)<E33.len)/\(((E25.len:Int)==IntKind.i64.wrap (IntKind.i64.wrap (IntKind.i64.wrap E27+if (1:Int)>IntKind.i64.wrap E23 then (1:Int) else IntKind.i64.wrap E23)+if (1:Int)>IntKind.i64.wrap E21 then (1:Int) else IntKind.i64.wrap E21)&&(E29.len:Int)==(0:Int))=true/\True->(0:Nat)<E33.len)/\(((E25.len:Int)==IntKind.i64.wrap (IntKind.i64.wrap (IntKind.i64.wrap E27+if (1:Int)>IntKind.i64.wrap E23 then (1:Int) else IntKind.i64.wrap E23)+if (1:Int)>IntKind.i64.wrap E21 then (1:Int) else IntKind.i64.wrap E21)&&(E29.len:Int)==(0:Int))=true/\True->E25.len<=1000000)/\((E25.len:Int)==IntKind.i64.wrap (IntKind.i64.wrap (IntKind.i64.wrap E27+if (1:Int)>IntKind.i64.wrap E23 then (1:Int) else IntKind.i64.wrap E23)+if (1:Int)>IntKind.i64.wrap E21 then (1:Int) else IntKind.i64.wrap E21)&&(E29.len:Int)==(0:Int)&&(↑(outD E25 (1:Int) E25.len).len:Int)==(0:Int))=true)))) (by kernel_rfl) ?_
  dsimp +instances only [withv]
  obtain ha:=m20_lt n;obtain hb:=m20_lt m;rw [m20_eq,m20_eq];generalize m20 n=a at ha ⊢;generalize m20 m=b at hb ⊢;simp only [k_n,cpTo_len,Nat.zero_add,Nat.reduceAdd,app_0,app_1,ls_1,ls_2,sub_b,sub_p,e_if,e_wh,prB_len,ed_1,ed_2,d_0,bdy_len];have ew:TwR a (whR b):=.w b hb;have ei:TwR a (ifR a b):=.i b hb;obtain ⟨w1,w2,w3⟩:=wh_S ha hb;obtain ⟨i1,i2,i3⟩:=if_S ha hb;obtain ⟨gw,hw,_⟩:=gy_S ha ew;obtain ⟨gi,hi,_⟩:=gy_S ha ei;simp only [gw,hw,gi,hi,nD_ln,nD_out,out_0 w1,out_0 i1];simp only [w2,w3,i2,i3,mx1,nW ha hb,nI2 ha hb];refine ⟨by omega,by omega,by omega,by omega,trivial,by omega,trivial,by omega,Nat.le_refl _,fun h=>?_,fun h=>?_⟩
  ·refine ⟨trivial,by omega,trivial,by omega,Nat.le_refl _,Nat.le_refl _,Nat.le_refl _,trivial,ri_bdy ew,bd_bdy ha ew,fun h=>absurd h (by decide),fun _=>⟨fun _=>⟨Nat.one_pos,fun _=>Nat.one_pos,fun _=>Nat.one_pos,fun _=>by omega,?_⟩,fun h2=>(by rw [h] at h2;cases h2)⟩⟩;rw [Bool.and_eq_true,Bool.and_eq_true];exact ⟨⟨beq_self_eq_true _,rfl⟩,rfl⟩
  ·refine ⟨Nat.le_refl _,Nat.le_refl _,trivial,ri_bdy ei,bd_bdy ha ei,fun h=>absurd h (by decide),fun _=>⟨fun h2=>(by rw [h] at h2;cases h2),fun _=>⟨Nat.one_pos,fun _=>Nat.one_pos,fun _=>Nat.one_pos,fun _=>by omega,?_⟩⟩⟩;rw [Bool.and_eq_true,Bool.and_eq_true];exact ⟨⟨beq_self_eq_true _,rfl⟩,rfl⟩
 ·trivial
end Go.Proofs.Ytcfkhnlkfgmoiaa.Sx.Z
