import Derived.Test.YtbhbjhejkamlnaaGreatZu35
import Derived.Test.YtbhbjhejkamlnaaGreatZu22
import Derived.Test.YtbhbjhejkamlnaaGreatZu13
set_option linter.unusedVariables false
set_option linter.unusedSimpArgs false
namespace Go.Proofs.YtbhbjhejkamlnaaGreat.Sx.Z
open Go.RowKit
def kcC (a:Int) (n:Nat):Nat:=(IntKind.u64.wrap a).toNat%n
def v14 (v:ByteArray):ByteArray:=v.extract 0 (if (14:Int)<(v.size:Int) then (14:Int) else (v.size:Int)).toNat
def cuT (l:D) (k:Nat):Nat->ByteArray
 | 0=>ByteArray.empty
 |i+1=>if i<k then cuT l k i++(l.el i 0).toS++⟨#[32]⟩ else cuT l k i
def otT (l:D) (v:ByteArray) (k:Nat):Nat->ByteArray
 | 0=>ByteArray.empty
 |i+1=>if i=k then otT l v k i++v++⟨#[32]⟩ else otT l v k i++(l.el i 0).toS++⟨#[32]⟩
theorem kcC_lt (a:Int) {n:Nat} (h:0<n):kcC a n<n:=Nat.mod_lt _ h
theorem kcC_eq (a:Int) {n:Nat} (h:0<n) (hn:n<=2000):IntKind.i64.wrap ((IntKind.u64.wrap a).tmod (IntKind.u64.wrap (n:Int)))=(kcC a n:Int):=by
 have h0:0<=IntKind.u64.wrap a:=by rw [IntKind.wrap_u64];omega
 have e0:IntKind.u64.wrap (n:Int)=(n:Int):=by rw [IntKind.wrap_u64];omega
 have e:(IntKind.u64.wrap a).tmod (n:Int)=((IntKind.u64.wrap a).toNat%n:Nat):=by
  rw [Int.tmod_eq_emod_of_nonneg h0];have e1:IntKind.u64.wrap a=((IntKind.u64.wrap a).toNat:Int):=by omega
  rw [e1];rfl
 have:=Nat.mod_lt (IntKind.u64.wrap a).toNat h;rw [e0,e,IntWalk.i64_in _ (by omega)]
 rfl
theorem v14_sz (v:ByteArray):(v14 v).size<=14:=by
 unfold v14;rw [ByteArray.size_extract]
 split<;>omega
theorem cuT_sz {l:D} (h:∀ j,j<l.len->(l.el j 0).toS.size<=30) (k:Nat):∀ i,i<=l.len->(cuT l k i).size<=i*31
 | 0,_=>Nat.le_refl 0
 |i+1,hi=>by
  have h1:=cuT_sz h k i (by omega)
  have h2:=h i hi;rw [cuT];split
  ·rw [ByteArray.size_append,ByteArray.size_append,show (ByteArray.mk #[32]).size=1 from rfl];omega
  ·omega
theorem otT_sz {l:D} (h:∀ j,j<l.len->(l.el j 0).toS.size<=30) {v:ByteArray} (hv:v.size<=14) (k:Nat):∀ i,i<=l.len->(otT l v k i).size<=i*31
 | 0,_=>Nat.le_refl 0
 |i+1,hi=>by
  have h1:=otT_sz h hv k i (by omega)
  have h2:=h i hi;rw [otT]
  split<;>(rw [ByteArray.size_append,ByteArray.size_append,show (ByteArray.mk #[32]).size=1 from rfl];omega)
theorem rwA_30 {ch ru pr:D} (h:rwE ch ru pr=0):(rwA ch ru pr).len<=2000/\∀ j,j<(rwA ch ru pr).len->((rwA ch ru pr).el j 0).toS.size<=30:=by
 obtain ⟨h1,h2,h3⟩:=rw0_in h;have hal:=syW_al (vSy_syB h1);rw [rwA_yes h,<- wsl];refine ⟨h3,fun j hj=>?_⟩
 have:=(hal _ (List.getElem_mem hj)).len;rw [wsR_el hj];rw [Array.length_toList] at this;exact this
theorem gY_subc {c u p:D} (g:gY c u p):(c.sub 0 (0+c.len)=c/\u.sub 0 (0+u.len)=u/\p.sub 0 (0+p.len)=p)/\List.map (chRq c) (List.range c.len)=c.rows/\List.map (ruRq u) (List.range u.len)=u.rows/\List.map (prR p) (List.range p.len)=p.rows:=by
 refine ⟨⟨?_,?_,?_⟩,congrArg D.rows g.kc,congrArg D.rows g.ku,congrArg D.rows g.kp⟩
 ·rw [subAll];exact l_of g.kc ⟨_,rfl⟩
 ·rw [subAll];exact l_of g.ku ⟨_,rfl⟩
 ·rw [subAll];exact l_of g.kp ⟨_,rfl⟩
theorem XR_refl:∀ (m:Nat) (d:D),SizeOf.sizeOf d<=m->∀ (k n:Int) (s:ByteArray),XR k n s d k n s d:=by
 intro m
 induction m with
 |zero=>intro d hz;cases d<;>simp at hz
 |succ m ih=>
  intro d hz k n s;refine .mk rfl (fun _=>rfl) (fun _=>rfl) (fun _=>rfl) (fun _ i hi=>?_)
  have:=lel_lt (j:=3) hi;exact ih _ (by omega) _ _ _
theorem BR_refl:∀ (m:Nat) (d:D),SizeOf.sizeOf d<=m->BR d d:=by
 intro m
 induction m with
 |zero=>intro d hz;cases d<;>simp at hz
 |succ m ih=>
  intro d hz;have xr:∀ (d:D) (k n:Int) (s:ByteArray),XR k n s d k n s d:=fun d k n s=>XR_refl _ d (Nat.le_refl _) k n s
  have kid:∀ i j,i<d.len->BR (d.el i j) (d.el i j):=fun i j hi=>by
   have:=lel_lt (j:=j) hi;exact ih _ (by omega)
  refine .mk rfl (fun _ _=>rfl) (fun _ _ _=>rfl) (fun _ _ _=>rfl) (fun _ _ _=>xr _ _ _ _) (fun _ _ _=>⟨rfl,xr _ _ _ _,xr _ _ _ _⟩) (fun i hi _=>kid i 16 hi) (fun i hi _=>kid i 17 hi) (fun _ _ _=>rfl) (fun _ _ _ _ _=>⟨rfl,rfl⟩) (fun i hi _ j hj=>?_)
  have h1:=lel_lt (j:=18) hi;have h2:=lel_lt (j:=2) hj;exact ih _ (by omega)
theorem al_refl (c u p:D):chAls c c/\ruAls u u/\prAls p p:=
 ⟨⟨rfl,fun _ _=>⟨rfl,rfl,rfl,rfl,rfl,rfl,fun _ _=>rfl⟩⟩,⟨rfl,fun _ _=>⟨rfl,rfl,fun _ _=>⟨rfl,rfl,rfl⟩⟩⟩,⟨rfl,fun _ _=>⟨rfl,⟨rfl,fun _ _=>rfl⟩,BR_refl _ _ (Nat.le_refl _)⟩⟩⟩
theorem both_rd (X:ByteArray):(paA X==rpA X&&paE X==rpE X)=true/\SyS ((rpC X).sub 0 (0+(rpC X).len)) ((rpU X).sub 0 (0+(rpU X).len)) ((rpP X).sub 0 (0+(rpP X).len))/\(chAls ((paC X).sub 0 (0+(paC X).len)) (cpC ((rpC X).sub 0 (0+(rpC X).len)))/\ruAls ((paU X).sub 0 (0+(paU X).len)) (cpU ((rpU X).sub 0 (0+(rpU X).len)))/\prAls ((paP X).sub 0 (0+(paP X).len)) (cpP ((rpP X).sub 0 (0+(rpP X).len))))/\SyS ((paC X).sub 0 (0+(paC X).len)) ((paU X).sub 0 (0+(paU X).len)) ((paP X).sub 0 (0+(paP X).len)):=by
 obtain ⟨e1,e2,e3,e4,e5⟩:=parse_eq X;have g:=pa_good X;obtain ⟨⟨s1,s2,s3⟩,_,_,_⟩:=gY_subc g;rw [<- e1,<- e2,<- e3,<- e4,<- e5,s1,s2,s3,g.kc,g.ku,g.kp];exact ⟨by simp,g.s,al_refl _ _ _,g.s⟩
noncomputable def pctS:FSpec:=fun ds _=>match ds with
 | [.d ch,.d ru,.d pr,.i a,.s v]=>some {val:=.one (.sc (.bool (.lit true))),vc:=[sW ch,sW ru,sW pr]}
 |_=>none
noncomputable def pctC:Con:=con [gS0,.sc (.int .i64),.sc .str] pctS
theorem pct_ok:ConOK Tryz.prog 4 pctC:=by
 refine fn_ob tt_ok mixed Tryz.func4 rfl (fun _ _=>by kernel_rfl) (A:=fun ds=>⟨fun _=>Cons.of [(5,rwqC),(7,parC),(8,rpaC),(6,prsC),(9,samC),(10,ycpC)],fun k=>match k,ds with | 7,[.d ch,.d ru,.d pr,.i a,.s v]=>some {ι:=Nat,pre:=fun _ i=>i<=(rwA ch ru pr).len/\rwE ch ru pr=0,μ:=fun i=>(rwA ch ru pr).len+1-i,st:=fun s i=>famR s [(12,.one (.sc (.int .i64 (.sym (i:Nat))))),(10,.one (.sc (.raw (.string (cuT (rwA ch ru pr) (kcC a (rwA ch ru pr).len) i))))),(11,.one (.sc (.raw (.string (otT (rwA ch ru pr) (v14 v) (kcC a (rwA ch ru pr).len) i)))))] [2,3,7,8,9] [] [3]} |_,_=>none,fun _=>none⟩) (fun _ _=>(cons_cons rwq_ok (cons_cons par_ok (cons_cons rpa_ok (cons_cons prs_ok (cons_cons sam_ok (cons_cons ycp_ok cons_nil))))))) (by kernel_rfl) ?_
 intro ds fr;unfold pctS;split
 ·rename_i ch ru pr a v
  refine kmp (q:=withv (kcC a (rwA ch ru pr).len) fun E427=>withv (fun (i:Nat)=>otT (rwA ch ru pr) (v14 v) E427 i) fun E428=>withv (fun (i:Nat)=>cuT (rwA ch ru pr) E427 i) fun E429=>withv ((IntKind.u64.wrap a).tmod (IntKind.u64.wrap (↑(rwA ch ru pr).len:Int))) fun E430=>withv (fun (i:Nat)=>(paA (E429 i)==rpA (E429 i)&&paE (E429 i)==rpE (E429 i) ||false)&&paA (E428 i)==rpA (E428 i)&&paE (E428 i)==rpE (E428 i)) fun E431=>withv (fun (i:Nat)=>(rwA ch ru pr).el (i:Int).toNat 0) fun E432=>withv (fun (i:Nat)=>paA (E429 i)==rpA (E429 i)&&paE (E429 i)==rpE (E429 i)) fun E433=>withv (fun (i:Nat)=>(otT (rwA ch ru pr) (v14 v) E427 i++v.extract (0:Nat) (if (14:Int)<(v.size:Int) then (14:Int) else (v.size:Int)).toNat).size+(ByteArray.mk #[32]).size) fun E434=>withv (fun (i:Nat)=>otT (rwA ch ru pr) (v14 v) E427 i++v.extract (0:Nat) (if (14:Int)<(v.size:Int) then (14:Int) else (v.size:Int)).toNat++(ByteArray.mk #[32])) fun E435=>withv (fun (i:Nat)=>(E428 i).size+(v.extract (0:Nat) (if (14:Int)<(v.size:Int) then (14:Int) else (v.size:Int)).toNat).size) fun E436=>withv (fun (i:Nat)=>(otT (rwA ch ru pr) (v14 v) E427 i++(E432 i).toS).size+(ByteArray.mk #[32]).size) fun E437=>withv (fun (j:Nat)=>otT (rwA ch ru pr) (v14 v) E427 j) fun E438=>withv (fun (i:Nat)=>otT (rwA ch ru pr) (v14 v) E427 i++(E432 i).toS++(ByteArray.mk #[32])) fun E439=>withv (fun (i:Nat)=>cuT (rwA ch ru pr) E427 i++(E432 i).toS++(ByteArray.mk #[32])) fun E440=>sW ch->sW ru->sW pr->sW ch/\sW ru/\sW pr/\((!true ||rwE ch ru pr != (0:Int) ||(↑(rwA ch ru pr).len:Int)==(0:Int))=true->true=true)/\((!true ||rwE ch ru pr != (0:Int) ||(↑(rwA ch ru pr).len:Int)==(0:Int))=false->IntKind.u64.wrap (↑(rwA ch ru pr).len:Int)≠(0:Int)/\(∃ (i:Nat),(i<=(rwA ch ru pr).len/\rwE ch ru pr=(0:Int))/\(0:Int)=(i:Int)/\Value.string (ByteArray.mk #[])=Value.string (E429 i)/\Value.string (ByteArray.mk #[])=Value.string (E428 i)/\Value.string v=Value.string v/\(rwA ch ru pr).rows=(rwA ch ru pr).rows/\rwE ch ru pr=rwE ch ru pr/\IntKind.i64.wrap E430=IntKind.i64.wrap E430/\ch.rows=ch.rows/\ru.rows=ru.rows/\pr.rows=pr.rows)/\∀ (i:Nat),i<=(rwA ch ru pr).len/\rwE ch ru pr=(0:Int)->(decide ((i:Int)<(↑(rwA ch ru pr).len:Int))=true->(decide ((i:Int)<IntKind.i64.wrap E430)=true->((0:Int)<=(i:Int)/\(i:Int)<(↑(rwA ch ru pr).len:Int))/\(↑((E429 i).size+(E432 i).toS.size):Int)<=IntKind.i64.max/\(↑((cuT (rwA ch ru pr) E427 i++(E432 i).toS).size+(ByteArray.mk #[32]).size):Int)<=IntKind.i64.max/\(((i:Int)==IntKind.i64.wrap E430)=true->(((0:Int)<=if (14:Int)<(v.size:Int) then (14:Int) else (v.size:Int))/\(if (14:Int)<(v.size:Int) then (14:Int) else (v.size:Int))<=(v.size:Int))/\(↑(E436 i):Int)<=IntKind.i64.max/\(↑(E434 i):Int)<=IntKind.i64.max/\∃ (j:Nat),(j<=(rwA ch ru pr).len/\rwE ch ru pr=(0:Int))/\(rwA ch ru pr).len+(1:Nat)-j<(rwA ch ru pr).len+(1:Nat)-i/\IntKind.i64.wrap ((i:Int)+(1:Int))=(j:Int)/\Value.string (E440 i)=Value.string (cuT (rwA ch ru pr) E427 j)/\Value.string (E435 i)=Value.string (E438 j)/\Value.string v=Value.string v/\(rwA ch ru pr).rows=(rwA ch ru pr).rows/\rwE ch ru pr=rwE ch ru pr/\IntKind.i64.wrap E430=IntKind.i64.wrap E430/\ch.rows=ch.rows/\ru.rows=ru.rows/\pr.rows=pr.rows)/\(((i:Int)==IntKind.i64.wrap E430)=false->((0:Int)<=(i:Int)/\(i:Int)<(↑(rwA ch ru pr).len:Int))/\(↑((E428 i).size+(E432 i).toS.size):Int)<=IntKind.i64.max/\(↑(E437 i):Int)<=IntKind.i64.max/\∃ (j:Nat),(j<=(rwA ch ru pr).len/\rwE ch ru pr=(0:Int))/\(rwA ch ru pr).len+(1:Nat)-j<(rwA ch ru pr).len+(1:Nat)-i/\IntKind.i64.wrap ((i:Int)+(1:Int))=(j:Int)/\Value.string (E440 i)=Value.string (cuT (rwA ch ru pr) E427 j)/\Value.string (E439 i)=Value.string (E438 j)/\Value.string v=Value.string v/\(rwA ch ru pr).rows=(rwA ch ru pr).rows/\rwE ch ru pr=rwE ch ru pr/\IntKind.i64.wrap E430=IntKind.i64.wrap E430/\ch.rows=ch.rows/\ru.rows=ru.rows/\pr.rows=pr.rows))/\(decide ((i:Int)<IntKind.i64.wrap E430)=false->(((i:Int)==IntKind.i64.wrap E430)=true->(((0:Int)<=if (14:Int)<(v.size:Int) then (14:Int) else (v.size:Int))/\(if (14:Int)<(v.size:Int) then (14:Int) else (v.size:Int))<=(v.size:Int))/\(↑(E436 i):Int)<=IntKind.i64.max/\(↑(E434 i):Int)<=IntKind.i64.max/\∃ (j:Nat),(j<=(rwA ch ru pr).len/\rwE ch ru pr=(0:Int))/\(rwA ch ru pr).len+(1:Nat)-j<(rwA ch ru pr).len+(1:Nat)-i/\IntKind.i64.wrap ((i:Int)+(1:Int))=(j:Int)/\Value.string (E429 i)=Value.string (cuT (rwA ch ru pr) E427 j)/\Value.string (E435 i)=Value.string (E438 j)/\Value.string v=Value.string v/\(rwA ch ru pr).rows=(rwA ch ru pr).rows/\rwE ch ru pr=rwE ch ru pr/\IntKind.i64.wrap E430=IntKind.i64.wrap E430/\ch.rows=ch.rows/\ru.rows=ru.rows/\pr.rows=pr.rows)/\(((i:Int)==IntKind.i64.wrap E430)=false->((0:Int)<=(i:Int)/\(i:Int)<(↑(rwA ch ru pr).len:Int))/\(↑((E428 i).size+(E432 i).toS.size):Int)<=IntKind.i64.max/\(↑(E437 i):Int)<=IntKind.i64.max/\∃ (j:Nat),(j<=(rwA ch ru pr).len/\rwE ch ru pr=(0:Int))/\(rwA ch ru pr).len+(1:Nat)-j<(rwA ch ru pr).len+(1:Nat)-i/\IntKind.i64.wrap ((i:Int)+(1:Int))=(j:Int)/\Value.string (E429 i)=Value.string (cuT (rwA ch ru pr) E427 j)/\Value.string (E439 i)=Value.string (E438 j)/\Value.string v=Value.string v/\(rwA ch ru pr).rows=(rwA ch ru pr).rows/\rwE ch ru pr=rwE ch ru pr/\IntKind.i64.wrap E430=IntKind.i64.wrap E430/\ch.rows=ch.rows/\ru.rows=ru.rows/\pr.rows=pr.rows)))/\(decide ((i:Int)<(↑(rwA ch ru pr).len:Int))=false->(E429 i).size<=140737488351232/\(E429 i).size<=2147483647/\(E428 i).size<=140737488351232/\(E428 i).size<=2147483647/\(E433 i)=true/\(0:Nat)+(rpC (E429 i)).len<=(rpC (E429 i)).len/\(0:Nat)+(rpU (E429 i)).len<=(rpU (E429 i)).len/\(0:Nat)+(rpP (E429 i)).len<=(rpP (E429 i)).len/\SyS ((rpC (E429 i)).sub ((0:Nat)) ((0:Nat)+(rpC (E429 i)).len)) ((rpU (E429 i)).sub ((0:Nat)) ((0:Nat)+(rpU (E429 i)).len)) ((rpP (E429 i)).sub ((0:Nat)) ((0:Nat)+(rpP (E429 i)).len))/\((E433 i)=true/\True->(0:Nat)+(paC (E429 i)).len<=(paC (E429 i)).len)/\((E433 i)=true/\True->(0:Nat)+(paU (E429 i)).len<=(paU (E429 i)).len)/\((E433 i)=true/\True->(0:Nat)+(paP (E429 i)).len<=(paP (E429 i)).len)/\((E433 i)=true/\True->chAls ((paC (E429 i)).sub ((0:Nat)) ((0:Nat)+(paC (E429 i)).len)) (cpC ((rpC (E429 i)).sub ((0:Nat)) ((0:Nat)+(rpC (E429 i)).len)))/\ruAls ((paU (E429 i)).sub ((0:Nat)) ((0:Nat)+(paU (E429 i)).len)) (cpU ((rpU (E429 i)).sub ((0:Nat)) ((0:Nat)+(rpU (E429 i)).len)))/\prAls ((paP (E429 i)).sub ((0:Nat)) ((0:Nat)+(paP (E429 i)).len)) (cpP ((rpP (E429 i)).sub ((0:Nat)) ((0:Nat)+(rpP (E429 i)).len))))/\((E433 i)=true/\True->SyS ((paC (E429 i)).sub ((0:Nat)) ((0:Nat)+(paC (E429 i)).len)) ((paU (E429 i)).sub ((0:Nat)) ((0:Nat)+(paU (E429 i)).len)) ((paP (E429 i)).sub ((0:Nat)) ((0:Nat)+(paP (E429 i)).len)))/\(E431 i)=true/\(0:Nat)+(rpC (E428 i)).len<=(rpC (E428 i)).len/\(0:Nat)+(rpU (E428 i)).len<=(rpU (E428 i)).len/\(0:Nat)+(rpP (E428 i)).len<=(rpP (E428 i)).len/\SyS ((rpC (E428 i)).sub ((0:Nat)) ((0:Nat)+(rpC (E428 i)).len)) ((rpU (E428 i)).sub ((0:Nat)) ((0:Nat)+(rpU (E428 i)).len)) ((rpP (E428 i)).sub ((0:Nat)) ((0:Nat)+(rpP (E428 i)).len))/\((E431 i)=true/\True->(0:Nat)+(paC (E428 i)).len<=(paC (E428 i)).len)/\((E431 i)=true/\True->(0:Nat)+(paU (E428 i)).len<=(paU (E428 i)).len)/\((E431 i)=true/\True->(0:Nat)+(paP (E428 i)).len<=(paP (E428 i)).len)/\((E431 i)=true/\True->chAls ((paC (E428 i)).sub ((0:Nat)) ((0:Nat)+(paC (E428 i)).len)) (cpC ((rpC (E428 i)).sub ((0:Nat)) ((0:Nat)+(rpC (E428 i)).len)))/\ruAls ((paU (E428 i)).sub ((0:Nat)) ((0:Nat)+(paU (E428 i)).len)) (cpU ((rpU (E428 i)).sub ((0:Nat)) ((0:Nat)+(rpU (E428 i)).len)))/\prAls ((paP (E428 i)).sub ((0:Nat)) ((0:Nat)+(paP (E428 i)).len)) (cpP ((rpP (E428 i)).sub ((0:Nat)) ((0:Nat)+(rpP (E428 i)).len))))/\((E431 i)=true/\True->SyS ((paC (E428 i)).sub ((0:Nat)) ((0:Nat)+(paC (E428 i)).len)) ((paU (E428 i)).sub ((0:Nat)) ((0:Nat)+(paU (E428 i)).len)) ((paP (E428 i)).sub ((0:Nat)) ((0:Nat)+(paP (E428 i)).len)))/\((paA (E429 i)==rpA (E429 i)&&paE (E429 i)==rpE (E429 i) ||false)&&paA (E428 i)==rpA (E428 i)&&paE (E428 i)==rpE (E428 i) ||false)=true))) (by kernel_rfl) ?_
  dsimp +instances only [withv]
  intro h1 h2 h3;have en:∀ i:Nat,(i:Int).toNat=i:=fun i=>Int.toNat_natCast i
  simp only [Nat.reduceAdd,en];have hmx:(IntKind.i64.max:Int)=9223372036854775807:=rfl;refine ⟨h1,h2,h3,fun _=>trivial,fun he=>?_⟩
  simp only [Bool.not_true,Bool.false_or,Bool.or_eq_false_iff,bne_eq_false_iff_eq,beq_eq_false_iff_ne] at he;obtain ⟨he0,hl0⟩:=he;obtain ⟨ll,l30⟩:=rwA_30 he0;have lp:0<(rwA ch ru pr).len:=by omega
  have hk:=kcC_eq a lp ll;have hkl:=kcC_lt a lp;have hu:IntKind.u64.wrap ((rwA ch ru pr).len:Int)≠0:=by rw [IntKind.wrap_u64];omega
  rw [hk];have v0:v.extract 0 (if (14:Int)<(v.size:Int) then (14:Int) else (v.size:Int)).toNat=v14 v:=rfl
  rw [v0];have v1:=v14_sz v;have c1:=cuT_sz l30 (kcC a (rwA ch ru pr).len);have o1:=otT_sz l30 v1 (kcC a (rwA ch ru pr).len);have e32:(ByteArray.mk #[32]).size=1:=rfl;generalize hL:rwA ch ru pr=L at *;generalize hK:kcC a L.len=K at *;refine ⟨hu,⟨0,⟨Nat.zero_le _,he0⟩,rfl,rfl,rfl,(by (repeat' (with_reducible apply And.intro))<;>first |exact True.intro |rfl)⟩,fun i hi=>⟨fun hc=>?_,fun hc=>?_⟩⟩
  ·have hc:=of_decide_eq_true hc;have hi2:i<L.len:=by omega
   have b1:=c1 i hi.1;have b2:=o1 i hi.1;have b3:=l30 i hi2;have hnx:IntKind.i64.wrap ((i:Int)+1)=((i+1:Nat):Int):=by rw [IntWalk.i64_in _ (by omega)];omega
   have hm:(0:Int)<=(if (14:Int)<(v.size:Int) then (14:Int) else (v.size:Int))/\(if (14:Int)<(v.size:Int) then (14:Int) else (v.size:Int))<=(v.size:Int):=by split<;>omega
   have hin:(0:Int)<=(i:Int)/\(i:Int)<(L.len:Int):=⟨by omega,hc⟩
   have hj:i+1<=L.len/\rwE ch ru pr=0:=⟨hi2,he0⟩;have hmu:L.len+1-(i+1)<L.len+1-i:=by omega
   have z1:(((cuT L K i).size+(L.el i 0).toS.size:Nat):Int)<=IntKind.i64.max:=by rw [hmx];omega
   have z2:(((cuT L K i++(L.el i 0).toS).size+(ByteArray.mk #[32]).size:Nat):Int)<=IntKind.i64.max:=by rw [hmx,ByteArray.size_append,e32];omega
   have z3:(((otT L (v14 v) K i).size+(v14 v).size:Nat):Int)<=IntKind.i64.max:=by rw [hmx];omega
   have z4:(((otT L (v14 v) K i++v14 v).size+(ByteArray.mk #[32]).size:Nat):Int)<=IntKind.i64.max:=by rw [hmx,ByteArray.size_append,e32];omega
   have z5:(((otT L (v14 v) K i).size+(L.el i 0).toS.size:Nat):Int)<=IntKind.i64.max:=by rw [hmx];omega
   have z6:(((otT L (v14 v) K i++(L.el i 0).toS).size+(ByteArray.mk #[32]).size:Nat):Int)<=IntKind.i64.max:=by rw [hmx,ByteArray.size_append,e32];omega
   have ct:i<K->cuT L K (i+1)=cuT L K i++(L.el i 0).toS++⟨#[32]⟩:=fun h=>by rw [cuT,if_pos h]
   have cf:¬ i<K->cuT L K (i+1)=cuT L K i:=fun h=>by rw [cuT,if_neg h]
   have ot:i=K->otT L (v14 v) K (i+1)=otT L (v14 v) K i++v14 v++⟨#[32]⟩:=fun h=>by rw [otT,if_pos h]
   have of:i≠K->otT L (v14 v) K (i+1)=otT L (v14 v) K i++(L.el i 0).toS++⟨#[32]⟩:=fun h=>by rw [otT,if_neg h]
   refine ⟨fun hd=>?_,fun hd=>?_⟩
   ·have hd:i<K:=by have:=of_decide_eq_true hd;omega
    refine ⟨hin,z1,z2,fun hq=>?_,fun hq=>?_⟩
    ·have hq:i=K:=by have:=eq_of_beq hq;omega
     omega
    ·have hq:i≠K:=by omega
     exact ⟨hin,z5,z6,i+1,hj,hmu,hnx,by rw [ct hd],by rw [of hq],(by (repeat' (with_reducible apply And.intro))<;>first |exact True.intro |rfl)⟩
   ·have hd:¬ i<K:=by have:=of_decide_eq_false hd;omega
    refine ⟨fun hq=>?_,fun hq=>?_⟩
    ·have hq:i=K:=by have:=eq_of_beq hq;omega
     exact ⟨hm,z3,z4,i+1,hj,hmu,hnx,by rw [cf hd],by rw [ot hq],(by (repeat' (with_reducible apply And.intro))<;>first |exact True.intro |rfl)⟩
    ·have hq:i≠K:=fun h=>by rw [h] at hq;simp at hq
     exact ⟨hin,z5,z6,i+1,hj,hmu,hnx,by rw [cf hd],by rw [of hq],(by (repeat' (with_reducible apply And.intro))<;>first |exact True.intro |rfl)⟩
  ·have hc:=of_decide_eq_false hc;have b1:=c1 i hi.1;have b2:=o1 i hi.1;obtain ⟨x1,x2,x3,x4⟩:=both_rd (cuT L K i);obtain ⟨y1,y2,y3,y4⟩:=both_rd (otT L (v14 v) K i);have z:∀ n:Nat,0+n<=n:=fun n=>Nat.le_of_eq (Nat.zero_add n)
   have hX:i<=2000:=by omega
   have w1:((paA (cuT L K i)==rpA (cuT L K i)&&paE (cuT L K i)==rpE (cuT L K i) ||false)&&paA (otT L (v14 v) K i)==rpA (otT L (v14 v) K i)&&paE (otT L (v14 v) K i)==rpE (otT L (v14 v) K i))=true:=by
    rw [x1,Bool.and_assoc,y1];rfl
   exact ⟨by omega,by omega,by omega,by omega,x1,z _,z _,z _,x2,fun _=>z _,fun _=>z _,fun _=>z _,fun _=>x3,fun _=>x4,w1,z _,z _,z _,y2,fun _=>z _,fun _=>z _,fun _=>z _,fun _=>y3,fun _=>y4,by rw [w1];rfl⟩
 ·trivial
end Go.Proofs.YtbhbjhejkamlnaaGreat.Sx.Z
