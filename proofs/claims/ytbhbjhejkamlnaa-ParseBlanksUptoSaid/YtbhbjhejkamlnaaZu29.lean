import Derived.Test.YtbhbjhejkamlnaaZu28
set_option linter.unusedVariables false
set_option linter.unusedSimpArgs false
namespace Go.Proofs.Ytbhbjhejkamlnaa.Sx.Z
open Go.RowKit
def rcW (nm:ByteArray) (q:Nat) (am:D):List ByteArray:=⟨#[114,101,99,118]⟩::nm::⟨#[123]⟩::catTo q (arW am)
theorem ws1 (a:ByteArray):D.l [[D.s a]]=wsR [a]:=rfl
theorem ws2 (a b:ByteArray):D.l [[D.s a],[D.s b]]=wsR [a,b]:=rfl
theorem ws3 (a b c:ByteArray):D.l [[D.s a],[D.s b],[D.s c]]=wsR [a,b,c]:=rfl
theorem ws4 (a b c d:ByteArray):D.l [[D.s a],[D.s b],[D.s c],[D.s d]]=wsR [a,b,c,d]:=rfl
theorem ws5 (a b c d e:ByteArray):D.l [[D.s a],[D.s b],[D.s c],[D.s d],[D.s e]]=wsR [a,b,c,d,e]:=rfl
theorem wsR_app (l m:List ByteArray):(wsR l).app (wsR m)=wsR (l++m):=by
 show D.l (l.map _++m.map _)=D.l ((l++m).map _)
 rw [List.map_append]
theorem cm_tab {k:Int} (h:1<=k/\k<=6):0<=IntKind.i64.wrap (k-1)/\IntKind.i64.wrap (k-1)<6/\((D.l [[D.s ⟨#[61,61]⟩],[D.s ⟨#[33,61]⟩],[D.s ⟨#[60]⟩],[D.s ⟨#[60,61]⟩],[D.s ⟨#[62]⟩],[D.s ⟨#[62,61]⟩]]).el (IntKind.i64.wrap (k-1)).toNat 0).toS=cmW k:=by
 rw [IntWalk.i64_in _ (by omega)]
 have:k=1 ∨ k=2 ∨ k=3 ∨ k=4 ∨ k=5 ∨ k=6:=by omega
 rcases this with rfl |rfl |rfl |rfl |rfl |rfl<;>exact ⟨by decide,by decide,rfl⟩
theorem vC_in {op lk ln:Int} {ls:ByteArray} {ld:D} {rk rn:Int} {rs:ByteArray} {rd:D} (h:vC op lk ln ls ld rk rn rs rd=true):(1<=op/\op<=6)/\vX lk ln ls ld=true/\vX rk rn rs rd=true:=by
 unfold vC at h
 simp only [Bool.and_eq_true,decide_eq_true_eq] at h
 exact ⟨h.1.1,h.1.2,h.2⟩
theorem sb1 (a:ByteArray):(wsR [a]).sub 0 1=wsR [a]:=rfl
theorem sb2 (a b:ByteArray):(wsR [a,b]).sub 0 2=wsR [a,b]:=rfl
theorem sb3 (a b c:ByteArray):(wsR [a,b,c]).sub 0 3=wsR [a,b,c]:=rfl
theorem sb4 (a b c d:ByteArray):(wsR [a,b,c,d]).sub 0 4=wsR [a,b,c,d]:=rfl
theorem sb5 (a b c d e:ByteArray):(wsR [a,b,c,d,e]).sub 0 5=wsR [a,b,c,d,e]:=rfl
theorem cat_le {n i:Nat} {f:Nat->List ByteArray} (h:i<n):(catTo i f).length+(f i).length<=(catTo n f).length:=by
 have:=cat_mono f (show i+1<=n by omega)
 rw [catTo_succ,List.length_append] at this
 exact this
noncomputable def dgqS:FSpec:=fun ds _=>match ds with
 | [.i n]=>some {val:=.one (.sc (.raw (.string (itW n)))),vc:=[nuB n=true]}
 |_=>none
noncomputable def dgqC:Con:=con [.sc (.int .i64)] dgqS
theorem dgq_ok:ConOK Try.prog 32 dgqC:=by
 refine fn_ob tt_ok mixed Try.func32 rfl (fun _ _=>by kernel_rfl) (A:=fun ds=>⟨fun _=>Cons.of [(58,xwqC)],fun _=>none,fun _=>none⟩) (fun _ _=>(cons_cons xwq_ok cons_nil)) (by kernel_rfl) ?_
 intro ds fr
 unfold dgqS
 split
 ·rename_i n
  refine kmp (q:=nuB n=true->vX (1:Int) n ByteArray.empty (D.l [])=true/\sW (D.l [])/\(xW (1:Int) n ByteArray.empty (D.l [])).length<=(3000000000000:Nat)/\(0:Nat)<(xW (1:Int) n ByteArray.empty (D.l [])).length/\(0:Nat)<(wsR (xW (1:Int) n ByteArray.empty (D.l []))).len/\Value.string (itW n)=Value.string (itW n)) (by kernel_rfl) ?_
  intro h
  have e:xW 1 n ByteArray.empty (D.l [])=[itW n]:=rfl
  rw [e]
  have e2 : [itW n].length=1:=rfl
  refine ⟨?_,?_,by rw [e2];omega,by rw [e2];omega,by rw [wsR_len,e2];omega,rfl⟩
  ·show (nuB n&&true)=true
   rw [h];rfl
  ·show wD (D.l [])<=2097153
   show 1+0<=2097153
   omega
 ·trivial
noncomputable def cwqS:List Dat->Option Eff:=fun ds=>match ds with
 | [.i op,.i lk,.i ln,.s ls,.d ld,.i rk,.i rn,.s rs,.d rd]=>some {val:=.one (.sc (.osl 9 0 (.lit 0) (.sym (cW op lk ln ls ld rk rn rs rd).length))),vc:=[vC op lk ln ls ld rk rn rs rd=true,sW ld,sW rd,(cW op lk ln ls ld rk rn rs rd).length<=3000000000000],nw:=[(0,.orow 9 (wsR (cW op lk ln ls ld rk rn rs rd)))]}
 |_=>none
noncomputable def cwqC:Con:=conS [gC0] cwqS
theorem cwq_ok:ConOK Try.prog 59 cwqC:=by
 refine fn_obS tt_ok mixed Try.func59 rfl (fun _ _=>by kernel_rfl) (A:=fun ds=>⟨fun _=>Cons.of [(58,xwqC)],fun _=>none,fun _=>none⟩) (fun _ _=>(cons_cons xwq_ok cons_nil)) (by kernel_rfl) ?_
 intro ds
 unfold cwqS
 split
 ·rename_i op lk ln ls ld rk rn rs rd
  refine kmp (q:=withv ((D.l [[D.s (ByteArray.mk #[61,61])],[D.s (ByteArray.mk #[33,61])],[D.s (ByteArray.mk #[60])],[D.s (ByteArray.mk #[60,61])],[D.s (ByteArray.mk #[62])],[D.s (ByteArray.mk #[62,61])]]).el (IntKind.i64.wrap (op-(1:Int))).toNat (0:Nat)) fun E115=>withv ((wsR (xW lk ln ls ld)).sub (0:Nat) ((0:Nat)+(xW lk ln ls ld).length)) fun E116=>withv ((D.l [[D.s E115.toS]]).sub (0:Nat) 1) fun E117=>withv ((wsR (xW rk rn rs rd)).sub (0:Nat) ((0:Nat)+(xW rk rn rs rd).length)) fun E118=>withv (D.l [[D.s (ByteArray.mk #[40])]]) fun E119=>vC op lk ln ls ld rk rn rs rd=true->sW ld->sW rd->(cW op lk ln ls ld rk rn rs rd).length<=(3000000000000:Nat)->vX lk ln ls ld=true/\sW ld/\(xW lk ln ls ld).length<=(3000000000000:Nat)/\(1:Nat)=E119.len/\((1:Nat)+E116.len)*(16:Nat)<=(140737488355328:Nat)/\(0:Nat)+(xW lk ln ls ld).length<=(wsR (xW lk ln ls ld)).len/\((0:Int)<=IntKind.i64.wrap (op-(1:Int))/\IntKind.i64.wrap (op-(1:Int))<(↑(6:Nat):Int))/\(IntKind.i64.wrap (op-(1:Int))).toNat<(D.l [[D.s (ByteArray.mk #[61,61])],[D.s (ByteArray.mk #[33,61])],[D.s (ByteArray.mk #[60])],[D.s (ByteArray.mk #[60,61])],[D.s (ByteArray.mk #[62])],[D.s (ByteArray.mk #[62,61])]]).len/\(1:Nat)+E116.len=(E119.app E116).len/\((1:Nat)+E116.len+E117.len)*(16:Nat)<=(140737488355328:Nat)/\(0:Nat)+(1:Nat)<=(D.l [[D.s E115.toS]]).len/\vX rk rn rs rd=true/\sW rd/\(xW rk rn rs rd).length<=(3000000000000:Nat)/\(1:Nat)+E116.len+E117.len=((E119.app E116).app E117).len/\((1:Nat)+E116.len+E117.len+E118.len)*(16:Nat)<=(140737488355328:Nat)/\(0:Nat)+(xW rk rn rs rd).length<=(wsR (xW rk rn rs rd)).len/\(1:Nat)+E116.len+E117.len+E118.len=(((E119.app E116).app E117).app E118).len/\((1:Nat)+E116.len+E117.len+E118.len+((D.l [[D.s (ByteArray.mk #[41])]]).sub (0:Nat) 1).len)*(16:Nat)<=(140737488355328:Nat)/\(0:Nat)+(1:Nat)<=(D.l [[D.s (ByteArray.mk #[41])]]).len/\(1:Nat)+E116.len+E117.len+E118.len+((D.l [[D.s (ByteArray.mk #[41])]]).sub (0:Nat) 1).len=(cW op lk ln ls ld rk rn rs rd).length /\ [[D.s (ByteArray.mk #[40])]]++List.drop (0:Nat) (List.take ((0:Nat)+(xW lk ln ls ld).length) (List.map (fun (s:ByteArray)=>[D.s s]) (xW lk ln ls ld)))++List.drop (0:Nat) (List.take 1 [[D.s E115.toS]])++List.drop (0:Nat) (List.take ((0:Nat)+(xW rk rn rs rd).length) (List.map (fun (s:ByteArray)=>[D.s s]) (xW rk rn rs rd)))++List.drop (0:Nat) (List.take 1 [[D.s (ByteArray.mk #[41])]])=List.map (fun (s:ByteArray)=>[D.s s]) (cW op lk ln ls ld rk rn rs rd)) (by kernel_rfl) ?_
  dsimp only [withv]
  intro hx h1 h2 hl
  obtain ⟨ho,hL,hR⟩:=vC_in hx
  obtain ⟨t1,t2,t3⟩:=cm_tab ho
  have e:cW op lk ln ls ld rk rn rs rd=⟨#[40]⟩::(xW lk ln ls ld++(cmW op::(xW rk rn rs rd++[⟨#[41]⟩]))):=rfl
  rw [e] at hl ⊢
  have t4:(IntKind.i64.wrap (op-1)).toNat<6:=by omega
  simp only [Nat.zero_add,t3]
  generalize xW lk ln ls ld=L at hl ⊢
  generalize xW rk rn rs rd=R at hl ⊢
  have e1:∀ a:ByteArray,(wsR [a]).sub 0 1=wsR [a]:=fun _=>rfl
  simp only [ws1,wsR_sub,e1,wsR_app,wsR_len,wsR_all,List.length_cons,List.length_append,List.length_nil] at hl ⊢
  (repeat' (with_reducible apply And.intro))<;>first |assumption |exact True.intro |omega |(simp;done)
 ·trivial
noncomputable def swqS:List Dat->Option Eff:=fun ds=>match ds with
 | [.d d]=>some {val:=.one (.sc (.osl 9 0 (.lit 0) (.sym (bW d).length))),vc:=[vB d=true,sW d,(bW d).length<=3000000000000],nw:=[(0,.orow 9 (wsR (bW d)))]}
 |_=>none
noncomputable def swqC:Con:=conS [gB0] swqS
noncomputable def swqM:List Dat->Nat:=fun ds=>match ds with
 | [.d d]=>SizeOf.sizeOf d
 |_=>0
noncomputable def swqSu (m:Nat):List Dat->Option Eff:=fun ds=>match ds with
 | [.d d]=>some {val:=.one (.sc (.osl 9 0 (.lit 0) (.sym (bW d).length))),vc:=[SizeOf.sizeOf d<m,vB d=true,sW d,(bW d).length<=3000000000000],nw:=[(0,.orow 9 (wsR (bW d)))]}
 |_=>none
theorem swq_under (m:Nat):underS swqS swqM m=swqSu m:=by
 funext ds
 unfold underS swqS swqM swqSu
 split
 ·rename_i e h
  split at h
  ·obtain rfl:=Option.some.inj h;rfl
  ·cases h
 ·rename_i h
  split at h
  ·cases h
  ·rfl
noncomputable def blqS (m:Nat):List Dat->Option Eff:=fun ds=>match ds with
 | [.d d]=>some {val:=.one (.sc (.osl 9 0 (.lit 0) (.sym (blW (bW d)).length))),vc:=[SizeOf.sizeOf d<m,vB d=true,sW d,(blW (bW d)).length<=3000000000000],nw:=[(0,.orow 9 (wsR (blW (bW d))))]}
 |_=>none
noncomputable def blqC (m:Nat):Con:=conS [gB0] (blqS m)
theorem blq_ok {m:Nat} (ih:ConOK Try.prog 33 (conS [gB0] (swqSu m))):ConOK Try.prog 60 (blqC m):=by
 refine fn_obS tt_ok mixed Try.func60 rfl (fun _ _=>by kernel_rfl) (A:=fun ds=>⟨fun _=>Cons.of [(33,conS [gB0] (swqSu m))],fun _=>none,fun _=>none⟩) (fun _ _=>(cons_cons ih cons_nil)) (by kernel_rfl) ?_
 intro ds
 unfold blqS
 split
 ·rename_i d
  refine kmp (q:=SizeOf.sizeOf d<m->vB d=true->sW d->(blW (bW d)).length<=(3000000000000:Nat)->SizeOf.sizeOf d<m/\vB d=true/\sW d/\(bW d).length<=(3000000000000:Nat)/\(1:Nat)=(D.l [[D.s (ByteArray.mk #[123])]]).len/\((1:Nat)+((wsR (bW d)).sub (0:Nat) ((0:Nat)+(bW d).length)).len)*(16:Nat)<=(140737488355328:Nat)/\(0:Nat)+(bW d).length<=(wsR (bW d)).len/\(1:Nat)+((wsR (bW d)).sub (0:Nat) ((0:Nat)+(bW d).length)).len=((D.l [[D.s (ByteArray.mk #[123])]]).app ((wsR (bW d)).sub (0:Nat) ((0:Nat)+(bW d).length))).len/\((1:Nat)+((wsR (bW d)).sub (0:Nat) ((0:Nat)+(bW d).length)).len+((D.l [[D.s (ByteArray.mk #[125])]]).sub (0:Nat) 1).len)*(16:Nat)<=(140737488355328:Nat)/\(0:Nat)+(1:Nat)<=(D.l [[D.s (ByteArray.mk #[125])]]).len/\(1:Nat)+((wsR (bW d)).sub (0:Nat) ((0:Nat)+(bW d).length)).len+((D.l [[D.s (ByteArray.mk #[125])]]).sub (0:Nat) 1).len=(blW (bW d)).length /\ [[D.s (ByteArray.mk #[123])]]++List.drop (0:Nat) (List.take ((0:Nat)+(bW d).length) (List.map (fun (s:ByteArray)=>[D.s s]) (bW d)))++List.drop (0:Nat) (List.take 1 [[D.s (ByteArray.mk #[125])]])=List.map (fun (s:ByteArray)=>[D.s s]) (blW (bW d))) (by kernel_rfl) ?_
  intro hm hx hd hl
  have e:blW (bW d)=⟨#[123]⟩::(bW d++[⟨#[125]⟩]):=rfl
  rw [e] at hl ⊢
  (try simp only [Nat.zero_add])
  generalize bW d=L at hl ⊢
  have e1:∀ a:ByteArray,(wsR [a]).sub 0 1=wsR [a]:=fun _=>rfl
  simp only [ws1,wsR_sub,e1,wsR_app,wsR_len,wsR_all,List.length_cons,List.length_append,List.length_nil] at hl ⊢
  (repeat' (with_reducible apply And.intro))<;>first |assumption |exact True.intro |omega |(simp;done)
 ·trivial
theorem swq_step (m:Nat) (ih:ConOK Try.prog 33 (conS [gB0] (swqSu m))):ConOK Try.prog 33 (conS [gB0] (swqSu (m+1))):=by
 refine fn_obS tt_ok mixed Try.func33 rfl (fun _ _=>by kernel_rfl) (A:=fun ds=>⟨fun _=>Cons.of [(58,xwqC),(59,cwqC),(60,(blqC m))],fun k=>match k,ds with | 3,[.d d]=>some {ι:=Nat,pre:=fun _ i=>i<=d.len/\True,μ:=fun i=>d.len+1-i,st:=fun s i=>famR s [(4,.one (.sc (.int .i64 (.sym ((i:Nat)))))),(3,.one (.sc (.osl 9 (s.nx-1) (.lit 0) (.sym (catTo i (stWE d)).length))))] [0] [(s.nx-1,.orow 9 (wsR (catTo i (stWE d))))] []} | 20,[.d d]=>some {ι:=Nat,pre:=fun s q=>q<=(d.el (slotN s 4) 18).len/\True,μ:=fun q=>2097154-q,st:=fun s q=>famR s [(6,.one (.sc (.int .i64 (.sym ((q:Nat)))))),(3,.one (.sc (.osl 9 (s.nx-1) (.lit 0) (.sym (catTo (slotN s 4) (stWE d)++rcW (d.el (slotN s 4) 1).toS q (d.el (slotN s 4) 18)).length))))] [0,4,5] [(s.nx-1,.orow 9 (wsR (catTo (slotN s 4) (stWE d)++rcW (d.el (slotN s 4) 1).toS q (d.el (slotN s 4) 18))))] [5]} |_,_=>none,fun _=>none⟩) (fun _ _=>(cons_cons xwq_ok (cons_cons cwq_ok (cons_cons (blq_ok ih) cons_nil)))) (by kernel_rfl) ?_
 intro ds
 unfold swqSu
 split
 ·rename_i d
  refine kmp (q:=withv (fun (i:Nat)=>cW (d.el (↑i:Int).toNat 7).toI (d.el (↑i:Int).toNat 8).toI (d.el (↑i:Int).toNat 9).toI (d.el (↑i:Int).toNat 10).toS (d.el (↑i:Int).toNat 11) (d.el (↑i:Int).toNat 12).toI (d.el (↑i:Int).toNat 13).toI (d.el (↑i:Int).toNat 14).toS (d.el (↑i:Int).toNat 15)) fun E121=>withv (fun (i:Nat)=>xW (d.el (↑i:Int).toNat 3).toI (d.el (↑i:Int).toNat 4).toI (d.el (↑i:Int).toNat 5).toS (d.el (↑i:Int).toNat 6)) fun E122=>withv (fun (i:Nat)=>d.el (↑i:Int).toNat 16) fun E123=>withv (fun (i:Nat)=>d.el (↑i:Int).toNat 18) fun E124=>withv (fun (i:Nat)=>d.el (↑i:Int).toNat 17) fun E125=>withv (fun (i:Nat)=>D.l [[D.s (ByteArray.mk #[115,101,110,100])],[D.s (d.el (↑i:Int).toNat 1).toS],[D.s (ByteArray.mk #[46])],[D.s (d.el (↑i:Int).toNat 2).toS],[D.s (ByteArray.mk #[40])]]) fun E126=>withv (fun (i:Nat)=>d.el (↑i:Int).toNat 15) fun E127=>withv (fun (i:Nat)=>d.el (↑i:Int).toNat 11) fun E128=>withv ((D.l [[D.s (ByteArray.mk #[105,102])]]).sub (0:Nat) 1) fun E129=>withv (fun (i:Nat)=>d.el (↑i:Int).toNat 14) fun E130=>withv (fun (i:Nat)=>d.el (↑i:Int).toNat 13) fun E131=>withv (fun (i:Nat)=>(wsR (E121 i)).sub (0:Nat) ((0:Nat)+(E121 i).length)) fun E132=>withv ((D.l [[D.s (ByteArray.mk #[97,115,115,101,114,116])]]).sub (0:Nat) 1) fun E133=>withv (fun (i:Nat)=>d.el (↑i:Int).toNat 12) fun E134=>withv (fun (i:Nat) (i_1:Nat)=>D.l [[D.s ((E124 i).el (↑i_1:Int).toNat ((0:Nat)+(0:Nat))).toS],[D.s (ByteArray.mk #[40])],[D.s ((E124 i).el (↑i_1:Int).toNat 1).toS],[D.s (ByteArray.mk #[41])]]) fun E135=>withv ((D.l [[D.s (ByteArray.mk #[119,104,105,108,101])]]).sub (0:Nat) 1) fun E136=>withv (fun (i:Nat)=>(D.l [[D.s (d.el (↑i:Int).toNat 1).toS],[D.s (ByteArray.mk #[61])]]).sub (0:Nat) ((0:Nat)+(2:Nat))) fun E137=>withv (fun (i:Nat)=>d.el (↑i:Int).toNat 10) fun E138=>withv (fun (i:Nat) (i_1:Nat)=>catTo i (stWE d)++rcW (d.el i (1:Nat)).toS i_1 (d.el i (18:Nat))) fun E139=>withv (fun (i:Nat)=>d.el (↑i:Int).toNat 9) fun E140=>withv (fun (i:Nat)=>d.el (↑i:Int).toNat 8) fun E141=>withv (fun (i:Nat)=>(wsR (blW (bW (E123 i)))).sub (0:Nat) ((0:Nat)+(blW (bW (E123 i))).length)) fun E142=>withv (fun (i:Nat)=>d.el (↑i:Int).toNat 6) fun E143=>withv (fun (i:Nat)=>d.el (↑i:Int).toNat 7) fun E144=>withv (fun (i:Nat)=>d.el (↑i:Int).toNat 1) fun E145=>withv ((D.l [[D.s (ByteArray.mk #[101,108,115,101])]]).sub (0:Nat) 1) fun E146=>withv (fun (i:Nat) (i_1:Nat)=>(E124 i).el (↑i_1:Int).toNat ((0:Nat)+(2:Nat))) fun E147=>withv (fun (i:Nat)=>(wsR (E122 i)).sub (0:Nat) ((0:Nat)+(E122 i).length)) fun E148=>withv (fun (i:Nat)=>d.el (↑i:Int).toNat (0:Nat)) fun E149=>withv (fun (i:Nat)=>d.el (↑i:Int).toNat 5) fun E150=>withv (fun (i:Nat)=>d.el (↑i:Int).toNat 4) fun E151=>withv (fun (i:Nat)=>d.el (↑i:Int).toNat 3) fun E152=>withv (fun (i:Nat)=>D.l [[D.s (ByteArray.mk #[105,110,112,117,116])],[D.s (E145 i).toS],[D.s (ByteArray.mk #[59])]]) fun E153=>withv (fun (i:Nat)=>wsR (catTo i (stWE d))) fun E154=>withv (fun (i:Nat)=>(E126 i).sub (0:Nat) ((0:Nat)+(5:Nat))) fun E155=>withv (fun (i:Nat)=>D.l [[D.s (ByteArray.mk #[114,101,99,118])],[D.s (E145 i).toS],[D.s (ByteArray.mk #[123])]]) fun E156=>withv ((D.l [[D.s (ByteArray.mk #[59])]]).sub (0:Nat) 1) fun E157=>withv (fun (i:Nat)=>d.el (↑i:Int).toNat 2) fun E158=>withv (D.l [[D.s (ByteArray.mk #[41])],[D.s (ByteArray.mk #[59])]]) fun E159=>withv (fun (i:Nat) (i_1:Nat)=>(E135 i i_1).sub (0:Nat) ((0:Nat)+(4:Nat))) fun E160=>SizeOf.sizeOf d<m+(1:Nat)->vB d=true->sW d->(bW d).length<=(3000000000000:Nat)->(∃ (i:Nat),(i<=d.len/\True)/\(0:Int)=(↑i:Int)/\(catTo i (stWE d)).length=(0:Nat)/\d.rows=d.rows/\List.map (fun (s:ByteArray)=>[D.s s]) (catTo i (stWE d))=[])/\∀ (i:Nat),i<=d.len/\True->(decide ((↑i:Int)<(↑d.len:Int))=true->((0:Int)<=(↑i:Int)/\(↑i:Int)<(↑d.len:Int))/\(((E149 i).toI==(1:Int))=true->(catTo i (stWE d)).length=(E154 i).len/\((catTo i (stWE d)).length+(E137 i).len)*(16:Nat)<=(140737488355328:Nat)/\(0:Nat)+(2:Nat)<=(D.l [[D.s (E145 i).toS],[D.s (ByteArray.mk #[61])]]).len/\vX (E152 i).toI (E151 i).toI (E150 i).toS (E143 i)=true/\sW (E143 i)/\(E122 i).length<=(3000000000000:Nat)/\(catTo i (stWE d)).length+(E137 i).len=((E154 i).app (E137 i)).len/\((catTo i (stWE d)).length+(E137 i).len+(E148 i).len)*(16:Nat)<=(140737488355328:Nat)/\(0:Nat)+(E122 i).length<=(wsR (E122 i)).len/\(catTo i (stWE d)).length+(E137 i).len+(E148 i).len=(((E154 i).app (E137 i)).app (E148 i)).len/\((catTo i (stWE d)).length+(E137 i).len+(E148 i).len+E157.len)*(16:Nat)<=(140737488355328:Nat)/\(0:Nat)+(1:Nat)<=(D.l [[D.s (ByteArray.mk #[59])]]).len/\∃ (j:Nat),(j<=d.len/\True)/\d.len+(1:Nat)-j<d.len+(1:Nat)-i/\IntKind.i64.wrap ((↑i:Int)+(1:Int))=(↑j:Int)/\(catTo i (stWE d)).length+(E137 i).len+(E148 i).len+E157.len=(catTo j (stWE d)).length/\d.rows=d.rows/\List.map (fun (s:ByteArray)=>[D.s s]) (catTo i (stWE d))++List.drop (0:Nat) (List.take ((0:Nat)+(2:Nat)) [[D.s (E145 i).toS],[D.s (ByteArray.mk #[61])]])++List.drop (0:Nat) (List.take ((0:Nat)+(E122 i).length) (List.map (fun (s:ByteArray)=>[D.s s]) (E122 i)))++List.drop (0:Nat) (List.take 1 [[D.s (ByteArray.mk #[59])]])=List.map (fun (s:ByteArray)=>[D.s s]) (catTo j (stWE d)))/\(((E149 i).toI==(1:Int))=false->(((E149 i).toI==(2:Int))=true->(catTo i (stWE d)).length=(E154 i).len/\((catTo i (stWE d)).length+E129.len)*(16:Nat)<=(140737488355328:Nat)/\(0:Nat)+(1:Nat)<=(D.l [[D.s (ByteArray.mk #[105,102])]]).len/\vC (E144 i).toI (E141 i).toI (E140 i).toI (E138 i).toS (E128 i) (E134 i).toI (E131 i).toI (E130 i).toS (E127 i)=true/\sW (E128 i)/\sW (E127 i)/\(E121 i).length<=(3000000000000:Nat)/\(catTo i (stWE d)).length+E129.len=((E154 i).app E129).len/\((catTo i (stWE d)).length+E129.len+(E132 i).len)*(16:Nat)<=(140737488355328:Nat)/\(0:Nat)+(E121 i).length<=(wsR (E121 i)).len/\SizeOf.sizeOf (E123 i)<m/\vB (E123 i)=true/\sW (E123 i)/\(blW (bW (E123 i))).length<=(3000000000000:Nat)/\(catTo i (stWE d)).length+E129.len+(E132 i).len=(((E154 i).app E129).app (E132 i)).len/\((catTo i (stWE d)).length+E129.len+(E132 i).len+(E142 i).len)*(16:Nat)<=(140737488355328:Nat)/\(0:Nat)+(blW (bW (E123 i))).length<=(wsR (blW (bW (E123 i)))).len/\(decide ((↑(E125 i).len:Int)>(0:Int))=true->(catTo i (stWE d)).length+E129.len+(E132 i).len+(E142 i).len=((((E154 i).app E129).app (E132 i)).app (E142 i)).len/\((catTo i (stWE d)).length+E129.len+(E132 i).len+(E142 i).len+E146.len)*(16:Nat)<=(140737488355328:Nat)/\(0:Nat)+(1:Nat)<=(D.l [[D.s (ByteArray.mk #[101,108,115,101])]]).len/\SizeOf.sizeOf (E125 i)<m/\vB (E125 i)=true/\sW (E125 i)/\(blW (bW (E125 i))).length<=(3000000000000:Nat)/\(catTo i (stWE d)).length+E129.len+(E132 i).len+(E142 i).len+E146.len=(((((E154 i).app E129).app (E132 i)).app (E142 i)).app E146).len/\((catTo i (stWE d)).length+E129.len+(E132 i).len+(E142 i).len+E146.len+((wsR (blW (bW (E125 i)))).sub (0:Nat) ((0:Nat)+(blW (bW (E125 i))).length)).len)*(16:Nat)<=(140737488355328:Nat)/\(0:Nat)+(blW (bW (E125 i))).length<=(wsR (blW (bW (E125 i)))).len/\∃ (j:Nat),(j<=d.len/\True)/\d.len+(1:Nat)-j<d.len+(1:Nat)-i/\IntKind.i64.wrap ((↑i:Int)+(1:Int))=(↑j:Int)/\(catTo i (stWE d)).length+E129.len+(E132 i).len+(E142 i).len+E146.len+((wsR (blW (bW (E125 i)))).sub (0:Nat) ((0:Nat)+(blW (bW (E125 i))).length)).len=(catTo j (stWE d)).length/\d.rows=d.rows/\List.map (fun (s:ByteArray)=>[D.s s]) (catTo i (stWE d))++List.drop (0:Nat) (List.take 1 [[D.s (ByteArray.mk #[105,102])]])++List.drop (0:Nat) (List.take ((0:Nat)+(E121 i).length) (List.map (fun (s:ByteArray)=>[D.s s]) (E121 i)))++List.drop (0:Nat) (List.take ((0:Nat)+(blW (bW (E123 i))).length) (List.map (fun (s:ByteArray)=>[D.s s]) (blW (bW (E123 i)))))++List.drop (0:Nat) (List.take 1 [[D.s (ByteArray.mk #[101,108,115,101])]])++List.drop (0:Nat) (List.take ((0:Nat)+(blW (bW (E125 i))).length) (List.map (fun (s:ByteArray)=>[D.s s]) (blW (bW (E125 i)))))=List.map (fun (s:ByteArray)=>[D.s s]) (catTo j (stWE d)))/\(decide ((↑(E125 i).len:Int)>(0:Int))=false->∃ (j:Nat),(j<=d.len/\True)/\d.len+(1:Nat)-j<d.len+(1:Nat)-i/\IntKind.i64.wrap ((↑i:Int)+(1:Int))=(↑j:Int)/\(catTo i (stWE d)).length+E129.len+(E132 i).len+(E142 i).len=(catTo j (stWE d)).length/\d.rows=d.rows/\List.map (fun (s:ByteArray)=>[D.s s]) (catTo i (stWE d))++List.drop (0:Nat) (List.take 1 [[D.s (ByteArray.mk #[105,102])]])++List.drop (0:Nat) (List.take ((0:Nat)+(E121 i).length) (List.map (fun (s:ByteArray)=>[D.s s]) (E121 i)))++List.drop (0:Nat) (List.take ((0:Nat)+(blW (bW (E123 i))).length) (List.map (fun (s:ByteArray)=>[D.s s]) (blW (bW (E123 i)))))=List.map (fun (s:ByteArray)=>[D.s s]) (catTo j (stWE d))))/\(((E149 i).toI==(2:Int))=false->(((E149 i).toI==(3:Int))=true->(catTo i (stWE d)).length=(E154 i).len/\((catTo i (stWE d)).length+E136.len)*(16:Nat)<=(140737488355328:Nat)/\(0:Nat)+(1:Nat)<=(D.l [[D.s (ByteArray.mk #[119,104,105,108,101])]]).len/\vC (E144 i).toI (E141 i).toI (E140 i).toI (E138 i).toS (E128 i) (E134 i).toI (E131 i).toI (E130 i).toS (E127 i)=true/\sW (E128 i)/\sW (E127 i)/\(E121 i).length<=(3000000000000:Nat)/\(catTo i (stWE d)).length+E136.len=((E154 i).app E136).len/\((catTo i (stWE d)).length+E136.len+(E132 i).len)*(16:Nat)<=(140737488355328:Nat)/\(0:Nat)+(E121 i).length<=(wsR (E121 i)).len/\SizeOf.sizeOf (E123 i)<m/\vB (E123 i)=true/\sW (E123 i)/\(blW (bW (E123 i))).length<=(3000000000000:Nat)/\(catTo i (stWE d)).length+E136.len+(E132 i).len=(((E154 i).app E136).app (E132 i)).len/\((catTo i (stWE d)).length+E136.len+(E132 i).len+(E142 i).len)*(16:Nat)<=(140737488355328:Nat)/\(0:Nat)+(blW (bW (E123 i))).length<=(wsR (blW (bW (E123 i)))).len/\∃ (j:Nat),(j<=d.len/\True)/\d.len+(1:Nat)-j<d.len+(1:Nat)-i/\IntKind.i64.wrap ((↑i:Int)+(1:Int))=(↑j:Int)/\(catTo i (stWE d)).length+E136.len+(E132 i).len+(E142 i).len=(catTo j (stWE d)).length/\d.rows=d.rows/\List.map (fun (s:ByteArray)=>[D.s s]) (catTo i (stWE d))++List.drop (0:Nat) (List.take 1 [[D.s (ByteArray.mk #[119,104,105,108,101])]])++List.drop (0:Nat) (List.take ((0:Nat)+(E121 i).length) (List.map (fun (s:ByteArray)=>[D.s s]) (E121 i)))++List.drop (0:Nat) (List.take ((0:Nat)+(blW (bW (E123 i))).length) (List.map (fun (s:ByteArray)=>[D.s s]) (blW (bW (E123 i)))))=List.map (fun (s:ByteArray)=>[D.s s]) (catTo j (stWE d)))/\(((E149 i).toI==(3:Int))=false->(((E149 i).toI==(4:Int))=true->(catTo i (stWE d)).length=(E154 i).len/\((catTo i (stWE d)).length+(E155 i).len)*(16:Nat)<=(140737488355328:Nat)/\(0:Nat)+(5:Nat)<=(E126 i).len/\vX (E152 i).toI (E151 i).toI (E150 i).toS (E143 i)=true/\sW (E143 i)/\(E122 i).length<=(3000000000000:Nat)/\(catTo i (stWE d)).length+(E155 i).len=((E154 i).app (E155 i)).len/\((catTo i (stWE d)).length+(E155 i).len+(E148 i).len)*(16:Nat)<=(140737488355328:Nat)/\(0:Nat)+(E122 i).length<=(wsR (E122 i)).len/\(catTo i (stWE d)).length+(E155 i).len+(E148 i).len=(((E154 i).app (E155 i)).app (E148 i)).len/\((catTo i (stWE d)).length+(E155 i).len+(E148 i).len+(E159.sub (0:Nat) ((0:Nat)+(2:Nat))).len)*(16:Nat)<=(140737488355328:Nat)/\(0:Nat)+(2:Nat)<=E159.len/\∃ (j:Nat),(j<=d.len/\True)/\d.len+(1:Nat)-j<d.len+(1:Nat)-i/\IntKind.i64.wrap ((↑i:Int)+(1:Int))=(↑j:Int)/\(catTo i (stWE d)).length+(E155 i).len+(E148 i).len+(E159.sub (0:Nat) ((0:Nat)+(2:Nat))).len=(catTo j (stWE d)).length/\d.rows=d.rows/\List.map (fun (s:ByteArray)=>[D.s s]) (catTo i (stWE d))++List.drop (0:Nat) (List.take ((0:Nat)+(5:Nat)) [[D.s (ByteArray.mk #[115,101,110,100])],[D.s (E145 i).toS],[D.s (ByteArray.mk #[46])],[D.s (E158 i).toS],[D.s (ByteArray.mk #[40])]])++List.drop (0:Nat) (List.take ((0:Nat)+(E122 i).length) (List.map (fun (s:ByteArray)=>[D.s s]) (E122 i)))++List.drop (0:Nat) (List.take ((0:Nat)+(2:Nat)) [[D.s (ByteArray.mk #[41])],[D.s (ByteArray.mk #[59])]])=List.map (fun (s:ByteArray)=>[D.s s]) (catTo j (stWE d)))/\(((E149 i).toI==(4:Int))=false->(((E149 i).toI==(5:Int))=true->(catTo i (stWE d)).length=(E154 i).len/\((catTo i (stWE d)).length+((E156 i).sub (0:Nat) ((0:Nat)+(3:Nat))).len)*(16:Nat)<=(140737488355328:Nat)/\(0:Nat)+(3:Nat)<=(E156 i).len/\(∃ (i_1:Nat),(i_1<=(d.el i (18:Nat)).len/\True)/\(0:Int)=(↑i_1:Int)/\(catTo i (stWE d)).length+((E156 i).sub (0:Nat) ((0:Nat)+(3:Nat))).len=(E139 i i_1).length/\d.rows=d.rows/\(↑i:Int)=(↑i:Int)/\List.map (fun (s:ByteArray)=>[D.s s]) (catTo i (stWE d))++List.drop (0:Nat) (List.take ((0:Nat)+(3:Nat)) [[D.s (ByteArray.mk #[114,101,99,118])],[D.s (E145 i).toS],[D.s (ByteArray.mk #[123])]])=List.map (fun (s:ByteArray)=>[D.s s]) (E139 i i_1)/\(E149 i).toI=(E149 i).toI/\Value.string (E145 i).toS=Value.string (E145 i).toS/\Value.string (E158 i).toS=Value.string (E158 i).toS/\(E152 i).toI=(E152 i).toI/\(E151 i).toI=(E151 i).toI/\Value.string (E150 i).toS=Value.string (E150 i).toS/\(E143 i).rows=(E143 i).rows/\(E144 i).toI=(E144 i).toI/\(E141 i).toI=(E141 i).toI/\(E140 i).toI=(E140 i).toI/\Value.string (E138 i).toS=Value.string (E138 i).toS/\(E128 i).rows=(E128 i).rows/\(E134 i).toI=(E134 i).toI/\(E131 i).toI=(E131 i).toI/\Value.string (E130 i).toS=Value.string (E130 i).toS/\(E127 i).rows=(E127 i).rows/\(E123 i).rows=(E123 i).rows/\(E125 i).rows=(E125 i).rows/\(E124 i).rows=(E124 i).rows)/\∀ (i_1:Nat),i_1<=(d.el i (18:Nat)).len/\True->(decide ((↑i_1:Int)<(↑(E124 i).len:Int))=true->((0:Int)<=(↑i_1:Int)/\(↑i_1:Int)<(↑(E124 i).len:Int))/\((0:Int)<=(↑i_1:Int)/\(↑i_1:Int)<(↑(E124 i).len:Int))/\(E139 i i_1).length=(wsR (E139 i i_1)).len/\((E139 i i_1).length+(E160 i i_1).len)*(16:Nat)<=(140737488355328:Nat)/\(0:Nat)+(4:Nat)<=(E135 i i_1).len/\((0:Int)<=(↑i_1:Int)/\(↑i_1:Int)<(↑(E124 i).len:Int))/\SizeOf.sizeOf (E147 i i_1)<m/\vB (E147 i i_1)=true/\sW (E147 i i_1)/\(blW (bW (E147 i i_1))).length<=(3000000000000:Nat)/\(E139 i i_1).length+(E160 i i_1).len=((wsR (E139 i i_1)).app (E160 i i_1)).len/\((E139 i i_1).length+(E160 i i_1).len+((wsR (blW (bW (E147 i i_1)))).sub (0:Nat) ((0:Nat)+(blW (bW (E147 i i_1))).length)).len)*(16:Nat)<=(140737488355328:Nat)/\(0:Nat)+(blW (bW (E147 i i_1))).length<=(wsR (blW (bW (E147 i i_1)))).len/\∃ (j:Nat),(j<=(d.el i (18:Nat)).len/\True)/\(2097154:Nat)-j<(2097154:Nat)-i_1/\IntKind.i64.wrap ((↑i_1:Int)+(1:Int))=(↑j:Int)/\(E139 i i_1).length+(E160 i i_1).len+((wsR (blW (bW (E147 i i_1)))).sub (0:Nat) ((0:Nat)+(blW (bW (E147 i i_1))).length)).len=(catTo i (stWE d)++rcW (d.el i (1:Nat)).toS j (d.el i (18:Nat))).length/\d.rows=d.rows/\(↑i:Int)=(↑i:Int)/\List.map (fun (s:ByteArray)=>[D.s s]) (E139 i i_1)++List.drop (0:Nat) (List.take ((0:Nat)+(4:Nat)) [[D.s ((E124 i).el (↑i_1:Int).toNat ((0:Nat)+(0:Nat))).toS],[D.s (ByteArray.mk #[40])],[D.s ((E124 i).el (↑i_1:Int).toNat 1).toS],[D.s (ByteArray.mk #[41])]])++List.drop (0:Nat) (List.take ((0:Nat)+(blW (bW (E147 i i_1))).length) (List.map (fun (s:ByteArray)=>[D.s s]) (blW (bW (E147 i i_1)))))=List.map (fun (s:ByteArray)=>[D.s s]) (catTo i (stWE d)++rcW (d.el i (1:Nat)).toS j (d.el i (18:Nat)))/\(E149 i).toI=(E149 i).toI/\Value.string (E145 i).toS=Value.string (E145 i).toS/\Value.string (E158 i).toS=Value.string (E158 i).toS/\(E152 i).toI=(E152 i).toI/\(E151 i).toI=(E151 i).toI/\Value.string (E150 i).toS=Value.string (E150 i).toS/\(E143 i).rows=(E143 i).rows/\(E144 i).toI=(E144 i).toI/\(E141 i).toI=(E141 i).toI/\(E140 i).toI=(E140 i).toI/\Value.string (E138 i).toS=Value.string (E138 i).toS/\(E128 i).rows=(E128 i).rows/\(E134 i).toI=(E134 i).toI/\(E131 i).toI=(E131 i).toI/\Value.string (E130 i).toS=Value.string (E130 i).toS/\(E127 i).rows=(E127 i).rows/\(E123 i).rows=(E123 i).rows/\(E125 i).rows=(E125 i).rows/\(E124 i).rows=(E124 i).rows)/\(decide ((↑i_1:Int)<(↑(E124 i).len:Int))=false->(E139 i i_1).length=(wsR (E139 i i_1)).len/\((E139 i i_1).length+((D.l [[D.s (ByteArray.mk #[125])]]).sub (0:Nat) 1).len)*(16:Nat)<=(140737488355328:Nat)/\(0:Nat)+(1:Nat)<=(D.l [[D.s (ByteArray.mk #[125])]]).len/\∃ (j:Nat),(j<=d.len/\True)/\d.len+(1:Nat)-j<d.len+(1:Nat)-i/\IntKind.i64.wrap ((↑i:Int)+(1:Int))=(↑j:Int)/\(E139 i i_1).length+((D.l [[D.s (ByteArray.mk #[125])]]).sub (0:Nat) 1).len=(catTo j (stWE d)).length/\d.rows=d.rows/\List.map (fun (s:ByteArray)=>[D.s s]) (E139 i i_1)++List.drop (0:Nat) (List.take 1 [[D.s (ByteArray.mk #[125])]])=List.map (fun (s:ByteArray)=>[D.s s]) (catTo j (stWE d))))/\(((E149 i).toI==(5:Int))=false->(((E149 i).toI==(6:Int))=true->(catTo i (stWE d)).length=(E154 i).len/\((catTo i (stWE d)).length+E133.len)*(16:Nat)<=(140737488355328:Nat)/\(0:Nat)+(1:Nat)<=(D.l [[D.s (ByteArray.mk #[97,115,115,101,114,116])]]).len/\vC (E144 i).toI (E141 i).toI (E140 i).toI (E138 i).toS (E128 i) (E134 i).toI (E131 i).toI (E130 i).toS (E127 i)=true/\sW (E128 i)/\sW (E127 i)/\(E121 i).length<=(3000000000000:Nat)/\(catTo i (stWE d)).length+E133.len=((E154 i).app E133).len/\((catTo i (stWE d)).length+E133.len+(E132 i).len)*(16:Nat)<=(140737488355328:Nat)/\(0:Nat)+(E121 i).length<=(wsR (E121 i)).len/\(catTo i (stWE d)).length+E133.len+(E132 i).len=(((E154 i).app E133).app (E132 i)).len/\((catTo i (stWE d)).length+E133.len+(E132 i).len+E157.len)*(16:Nat)<=(140737488355328:Nat)/\(0:Nat)+(1:Nat)<=(D.l [[D.s (ByteArray.mk #[59])]]).len/\∃ (j:Nat),(j<=d.len/\True)/\d.len+(1:Nat)-j<d.len+(1:Nat)-i/\IntKind.i64.wrap ((↑i:Int)+(1:Int))=(↑j:Int)/\(catTo i (stWE d)).length+E133.len+(E132 i).len+E157.len=(catTo j (stWE d)).length/\d.rows=d.rows/\List.map (fun (s:ByteArray)=>[D.s s]) (catTo i (stWE d))++List.drop (0:Nat) (List.take 1 [[D.s (ByteArray.mk #[97,115,115,101,114,116])]])++List.drop (0:Nat) (List.take ((0:Nat)+(E121 i).length) (List.map (fun (s:ByteArray)=>[D.s s]) (E121 i)))++List.drop (0:Nat) (List.take 1 [[D.s (ByteArray.mk #[59])]])=List.map (fun (s:ByteArray)=>[D.s s]) (catTo j (stWE d)))/\(((E149 i).toI==(6:Int))=false->(((E149 i).toI==(7:Int))=true->(catTo i (stWE d)).length=(E154 i).len/\((catTo i (stWE d)).length+((E153 i).sub (0:Nat) ((0:Nat)+(3:Nat))).len)*(16:Nat)<=(140737488355328:Nat)/\(0:Nat)+(3:Nat)<=(E153 i).len/\∃ (j:Nat),(j<=d.len/\True)/\d.len+(1:Nat)-j<d.len+(1:Nat)-i/\IntKind.i64.wrap ((↑i:Int)+(1:Int))=(↑j:Int)/\(catTo i (stWE d)).length+((E153 i).sub (0:Nat) ((0:Nat)+(3:Nat))).len=(catTo j (stWE d)).length/\d.rows=d.rows/\List.map (fun (s:ByteArray)=>[D.s s]) (catTo i (stWE d))++List.drop (0:Nat) (List.take ((0:Nat)+(3:Nat)) [[D.s (ByteArray.mk #[105,110,112,117,116])],[D.s (E145 i).toS],[D.s (ByteArray.mk #[59])]])=List.map (fun (s:ByteArray)=>[D.s s]) (catTo j (stWE d)))/\(((E149 i).toI==(7:Int))=false->∃ (j:Nat),(j<=d.len/\True)/\d.len+(1:Nat)-j<d.len+(1:Nat)-i/\IntKind.i64.wrap ((↑i:Int)+(1:Int))=(↑j:Int)/\(catTo i (stWE d)).length=(catTo j (stWE d)).length/\d.rows=d.rows/\List.map (fun (s:ByteArray)=>[D.s s]) (catTo i (stWE d))=List.map (fun (s:ByteArray)=>[D.s s]) (catTo j (stWE d))))))))))/\(decide ((↑i:Int)<(↑d.len:Int))=false->(catTo i (stWE d)).length=(bW d).length/\List.map (fun (s:ByteArray)=>[D.s s]) (catTo i (stWE d))=List.map (fun (s:ByteArray)=>[D.s s]) (bW d))) (by kernel_rfl) ?_
  dsimp only [withv]
  intro hm hr hd hl
  have en:∀ i:Nat,(i:Int).toNat=i:=fun i=>Int.toNat_natCast i
  simp only [Nat.reduceAdd,Nat.zero_add,en]
  have hlen:=sW_len hd
  rw [vB_eq] at hr
  have hr:=allB_iff.1 hr
  rw [bW_eq] at hl ⊢
  refine ⟨⟨0,⟨Nat.zero_le _,trivial⟩,rfl,(by (repeat' (with_reducible apply And.intro))<;>first |exact True.intro |rfl)⟩,fun i hi=>⟨fun hc=>?_,fun hc=>?_⟩⟩
  ·have hc:=of_decide_eq_true hc
   have hi2:i<d.len:=by omega
   have hst:=hr i hi2
   have hb:(catTo i (stWE d)).length+(stWE d i).length<=3000000000000:=Nat.le_trans (cat_le hi2) hl
   have hs:catTo (i+1) (stWE d)=catTo i (stWE d)++stWE d i:=catTo_succ _ _
   have hnx:IntKind.i64.wrap ((i:Int)+1)=((i+1:Nat):Int):=by rw [IntWalk.i64_in _ (by omega)];omega
   have s6:=sW_el hd hi2 6
   have s11:=sW_el hd hi2 11
   have s15:=sW_el hd hi2 15
   have s16:=sW_el hd hi2 16
   have s17:=sW_el hd hi2 17
   have s18:=sW_el hd hi2 18
   have z16:SizeOf.sizeOf (d.el i 16)<m:=by have:=lel_lt (j:=16) hi2;omega
   have z17:SizeOf.sizeOf (d.el i 17)<m:=by have:=lel_lt (j:=17) hi2;omega
   have z18:=lel_lt (j:=18) hi2
   generalize catTo i (stWE d)=C at hb hs ⊢
   refine ⟨⟨by omega,hc⟩,fun k=>?_,fun k1=>⟨fun k=>?_,fun k2=>⟨fun k=>?_,fun k3=>⟨fun k=>?_,fun k4=>⟨fun k=>?_,fun k5=>⟨fun k=>?_,fun k6=>⟨fun k=>?_,fun k7=>?_⟩⟩⟩⟩⟩⟩⟩
   ·have hK:stWE d i=(d.el i 1).toS::⟨#[61]⟩::(xW (d.el i 3).toI (d.el i 4).toI (d.el i 5).toS (d.el i 6)++[⟨#[59]⟩]):=by unfold stWE stW stWF;rw [eq_of_beq k];rfl
    rw [hK] at hb hs
    unfold vSt vA aStF at hst
    rw [eq_of_beq k] at hst
    have hst:(nmB (d.el i 1).toS&&vX (d.el i 3).toI (d.el i 4).toI (d.el i 5).toS (d.el i 6))=true:=hst
    simp only [Bool.and_eq_true] at hst
    obtain ⟨q1,q2⟩:=hst
    simp only [ws1,ws2,ws3,ws4,ws5,sb1,sb2,sb3,sb4,sb5,wsR_sub,wsR_app,wsR_len,wsR_all,List.length_cons,List.length_append,List.length_nil] at hb ⊢
    (repeat' (with_reducible apply And.intro))<;>first |assumption |exact True.intro |omega |(refine ⟨i+1,⟨hi2,trivial⟩,by omega,hnx,?_⟩;rw [hs];simp only [ws1,ws2,ws3,ws4,ws5,sb1,sb2,sb3,sb4,sb5,wsR_sub,wsR_app,wsR_len,wsR_all,List.length_cons,List.length_append,List.length_nil];(repeat' (with_reducible apply And.intro))<;>first |exact True.intro |omega |(simp;done))
   ·have hK:stWE d i=⟨#[105,102]⟩::(cW (d.el i 7).toI (d.el i 8).toI (d.el i 9).toI (d.el i 10).toS (d.el i 11) (d.el i 12).toI (d.el i 13).toI (d.el i 14).toS (d.el i 15)++(blW (bW (d.el i 16))++(if decide (((d.el i 17).len:Int)>0)=true then ⟨#[101,108,115,101]⟩::blW (bW (d.el i 17)) else []))):=by unfold stWE stW stWF;rw [eq_of_beq k];rfl
    rw [hK] at hb hs
    unfold vSt vA aStF at hst
    rw [eq_of_beq k] at hst
    have hst:(vC (d.el i 7).toI (d.el i 8).toI (d.el i 9).toI (d.el i 10).toS (d.el i 11) (d.el i 12).toI (d.el i 13).toI (d.el i 14).toS (d.el i 15)&&vB (d.el i 16)&&vB (d.el i 17))=true:=hst
    simp only [Bool.and_eq_true] at hst
    obtain ⟨⟨q1,q2⟩,q3⟩:=hst
    simp only [ws1,ws2,ws3,ws4,ws5,sb1,sb2,sb3,sb4,sb5,wsR_sub,wsR_app,wsR_len,wsR_all,List.length_cons,List.length_append,List.length_nil] at hb ⊢
    have hb2:(d.el i 17).len>0->C.length+((cW (d.el i 7).toI (d.el i 8).toI (d.el i 9).toI (d.el i 10).toS (d.el i 11) (d.el i 12).toI (d.el i 13).toI (d.el i 14).toS (d.el i 15)).length+((blW (bW (d.el i 16))).length+((blW (bW (d.el i 17))).length+1))+1)<=3000000000000:=fun h=>by
     rw [if_pos (decide_eq_true (by omega))] at hb
     simpa using hb
    have hb3:C.length+((cW (d.el i 7).toI (d.el i 8).toI (d.el i 9).toI (d.el i 10).toS (d.el i 11) (d.el i 12).toI (d.el i 13).toI (d.el i 14).toS (d.el i 15)).length+(blW (bW (d.el i 16))).length+1)<=3000000000000:=by
     have:=Nat.zero_le ((if decide (((d.el i 17).len:Int)>0)=true then ⟨#[101,108,115,101]⟩::blW (bW (d.el i 17)) else []).length)
     omega
    refine ⟨(by first |trivial |omega),(by first |trivial |omega),(by first |trivial |omega),q1,s11,s15,(by first |trivial |omega),(by first |trivial |omega),(by first |trivial |omega),Nat.le_refl _,z16,q2,s16,(by first |trivial |omega),(by first |trivial |omega),(by first |trivial |omega),Nat.le_refl _,fun hc=>?_,fun hc=>?_⟩
    ·rw [if_pos hc] at hs
     have hb4:=hb2 (by have:=of_decide_eq_true hc;omega)
     (repeat' (with_reducible apply And.intro))<;>first |assumption |exact True.intro |omega |(refine ⟨i+1,⟨hi2,trivial⟩,by omega,hnx,?_⟩;rw [hs];simp only [ws1,ws2,ws3,ws4,ws5,sb1,sb2,sb3,sb4,sb5,wsR_sub,wsR_app,wsR_len,wsR_all,List.length_cons,List.length_append,List.length_nil];(repeat' (with_reducible apply And.intro))<;>first |exact True.intro |omega |(simp;done))
    ·rw [if_neg (by rw [hc];decide)] at hs
     (repeat' (with_reducible apply And.intro))<;>first |assumption |exact True.intro |omega |(refine ⟨i+1,⟨hi2,trivial⟩,by omega,hnx,?_⟩;rw [hs];simp only [ws1,ws2,ws3,ws4,ws5,sb1,sb2,sb3,sb4,sb5,wsR_sub,wsR_app,wsR_len,wsR_all,List.length_cons,List.length_append,List.length_nil];(repeat' (with_reducible apply And.intro))<;>first |exact True.intro |omega |(simp;done))
   ·have hK:stWE d i=⟨#[119,104,105,108,101]⟩::(cW (d.el i 7).toI (d.el i 8).toI (d.el i 9).toI (d.el i 10).toS (d.el i 11) (d.el i 12).toI (d.el i 13).toI (d.el i 14).toS (d.el i 15)++blW (bW (d.el i 16))):=by unfold stWE stW stWF;rw [eq_of_beq k];rfl
    rw [hK] at hb hs
    unfold vSt vA aStF at hst
    rw [eq_of_beq k] at hst
    have hst:(vC (d.el i 7).toI (d.el i 8).toI (d.el i 9).toI (d.el i 10).toS (d.el i 11) (d.el i 12).toI (d.el i 13).toI (d.el i 14).toS (d.el i 15)&&vB (d.el i 16))=true:=hst
    simp only [Bool.and_eq_true] at hst
    obtain ⟨q1,q2⟩:=hst
    simp only [ws1,ws2,ws3,ws4,ws5,sb1,sb2,sb3,sb4,sb5,wsR_sub,wsR_app,wsR_len,wsR_all,List.length_cons,List.length_append,List.length_nil] at hb ⊢
    (repeat' (with_reducible apply And.intro))<;>first |assumption |exact True.intro |omega |(refine ⟨i+1,⟨hi2,trivial⟩,by omega,hnx,?_⟩;rw [hs];simp only [ws1,ws2,ws3,ws4,ws5,sb1,sb2,sb3,sb4,sb5,wsR_sub,wsR_app,wsR_len,wsR_all,List.length_cons,List.length_append,List.length_nil];(repeat' (with_reducible apply And.intro))<;>first |exact True.intro |omega |(simp;done))
   ·have hK:stWE d i=⟨#[115,101,110,100]⟩::(d.el i 1).toS::⟨#[46]⟩::(d.el i 2).toS::⟨#[40]⟩::(xW (d.el i 3).toI (d.el i 4).toI (d.el i 5).toS (d.el i 6)++[⟨#[41]⟩,⟨#[59]⟩]):=by unfold stWE stW stWF;rw [eq_of_beq k];rfl
    rw [hK] at hb hs
    unfold vSt vA aStF at hst
    rw [eq_of_beq k] at hst
    have hst:(nmB (d.el i 1).toS&&nmB (d.el i 2).toS&&vX (d.el i 3).toI (d.el i 4).toI (d.el i 5).toS (d.el i 6))=true:=hst
    simp only [Bool.and_eq_true] at hst
    obtain ⟨⟨q1,q2⟩,q3⟩:=hst
    simp only [ws1,ws2,ws3,ws4,ws5,sb1,sb2,sb3,sb4,sb5,wsR_sub,wsR_app,wsR_len,wsR_all,List.length_cons,List.length_append,List.length_nil] at hb ⊢
    (repeat' (with_reducible apply And.intro))<;>first |assumption |exact True.intro |omega |(refine ⟨i+1,⟨hi2,trivial⟩,by omega,hnx,?_⟩;rw [hs];simp only [ws1,ws2,ws3,ws4,ws5,sb1,sb2,sb3,sb4,sb5,wsR_sub,wsR_app,wsR_len,wsR_all,List.length_cons,List.length_append,List.length_nil];(repeat' (with_reducible apply And.intro))<;>first |exact True.intro |omega |(simp;done))
   ·have hK:stWE d i=rcW (d.el i 1).toS (d.el i 18).len (d.el i 18)++[⟨#[125]⟩]:=by unfold stWE stW stWF;rw [eq_of_beq k];rfl
    rw [hK] at hb hs
    unfold vSt vA aStF at hst
    rw [eq_of_beq k] at hst
    have hst:(nmB (d.el i 1).toS&&decide (((d.el i 18).len:Int)>0)&&vAk (d.el i 18) (d.el i 18).len)=true:=hst
    simp only [Bool.and_eq_true] at hst
    obtain ⟨-,q3⟩:=hst
    have q3:=allB_iff.1 q3
    have l18:=sW_len s18
    have rl:∀ q,(rcW (d.el i 1).toS q (d.el i 18)).length=(catTo q (arW (d.el i 18))).length+3:=fun q=>rfl
    simp only [ws1,ws2,ws3,ws4,ws5,sb1,sb2,sb3,sb4,sb5,wsR_sub,wsR_app,wsR_len,wsR_all,List.length_cons,List.length_append,List.length_nil,rl] at hb ⊢
    refine ⟨(by first |trivial |omega),(by first |trivial |omega),(by first |trivial |omega),⟨0,⟨Nat.zero_le _,trivial⟩,rfl,by show C.length+3=C.length+(0+3);rfl,trivial,trivial,by show _=List.map _ (C++[_,_,_]);simp,(by (repeat' (with_reducible apply And.intro))<;>first |exact True.intro |rfl)⟩,fun q hq=>⟨fun hc=>?_,fun hc=>?_⟩⟩
    ·have hc:=of_decide_eq_true hc
     have hq2:q<(d.el i 18).len:=by omega
     have hx:(0:Int)<=(q:Int)/\(q:Int)<((d.el i 18).len:Int):=⟨by omega,hc⟩
     have q4:=q3 q hq2
     unfold vAr at q4
     simp only [Bool.and_eq_true] at q4
     have t1:=q4.2
     have t2:=sW_el s18 hq2 2
     have t3:SizeOf.sizeOf ((d.el i 18).el q 2)<m:=by have:=lel_lt (j:=2) hq2;omega
     have hb5:=cat_le (f:=arW (d.el i 18)) hq2
     have hw2:IntKind.i64.wrap ((q:Int)+1)=((q+1:Nat):Int):=by rw [IntWalk.i64_in _ (by omega)];omega
     have hs2:rcW (d.el i 1).toS (q+1) (d.el i 18)=rcW (d.el i 1).toS q (d.el i 18)++arW (d.el i 18) q:=by unfold rcW;rw [catTo_succ];rfl
     have ha:arW (d.el i 18) q=((d.el i 18).el q 0).toS::⟨#[40]⟩::((d.el i 18).el q 1).toS::⟨#[41]⟩::blW (bW ((d.el i 18).el q 2)):=rfl
     rw [ha] at hb5 hs2
     simp only [ws1,ws2,ws3,ws4,ws5,sb1,sb2,sb3,sb4,sb5,wsR_sub,wsR_app,wsR_len,wsR_all,List.length_cons,List.length_append,List.length_nil] at hb5
     refine ⟨hx,hx,(by first |trivial |omega),(by first |trivial |omega),(by first |trivial |omega),hx,t3,t1,t2,(by first |trivial |omega),(by first |trivial |omega),(by first |trivial |omega),Nat.le_refl _,q+1,⟨hq2,trivial⟩,(by first |trivial |omega),hw2,?_,trivial,trivial,?_,(by (repeat' (with_reducible apply And.intro))<;>first |exact True.intro |rfl)⟩
     ·rw [catTo_succ,ha]
      simp only [ws1,ws2,ws3,ws4,ws5,sb1,sb2,sb3,sb4,sb5,wsR_sub,wsR_app,wsR_len,wsR_all,List.length_cons,List.length_append,List.length_nil]
      omega
     ·rw [hs2]
      simp
    ·have hc:=of_decide_eq_false hc
     obtain rfl:q=(d.el i 18).len:=by have:=hq.1;omega
     refine ⟨(by first |trivial |omega),(by first |trivial |omega),(by first |trivial |omega),i+1,⟨hi2,trivial⟩,(by first |trivial |omega),hnx,?_,trivial,?_⟩
     ·rw [hs]
      simp only [ws1,ws2,ws3,ws4,ws5,sb1,sb2,sb3,sb4,sb5,wsR_sub,wsR_app,wsR_len,wsR_all,List.length_cons,List.length_append,List.length_nil,rl]
      omega
     ·rw [hs]
      simp
   ·have hK:stWE d i=⟨#[97,115,115,101,114,116]⟩::(cW (d.el i 7).toI (d.el i 8).toI (d.el i 9).toI (d.el i 10).toS (d.el i 11) (d.el i 12).toI (d.el i 13).toI (d.el i 14).toS (d.el i 15)++[⟨#[59]⟩]):=by unfold stWE stW stWF;rw [eq_of_beq k];rfl
    rw [hK] at hb hs
    unfold vSt vA aStF at hst
    rw [eq_of_beq k] at hst
    have hst:vC (d.el i 7).toI (d.el i 8).toI (d.el i 9).toI (d.el i 10).toS (d.el i 11) (d.el i 12).toI (d.el i 13).toI (d.el i 14).toS (d.el i 15)=true:=hst
    simp only [ws1,ws2,ws3,ws4,ws5,sb1,sb2,sb3,sb4,sb5,wsR_sub,wsR_app,wsR_len,wsR_all,List.length_cons,List.length_append,List.length_nil] at hb ⊢
    (repeat' (with_reducible apply And.intro))<;>first |assumption |exact True.intro |omega |(refine ⟨i+1,⟨hi2,trivial⟩,by omega,hnx,?_⟩;rw [hs];simp only [ws1,ws2,ws3,ws4,ws5,sb1,sb2,sb3,sb4,sb5,wsR_sub,wsR_app,wsR_len,wsR_all,List.length_cons,List.length_append,List.length_nil];(repeat' (with_reducible apply And.intro))<;>first |exact True.intro |omega |(simp;done))
   ·have hK:stWE d i=[⟨#[105,110,112,117,116]⟩,(d.el i 1).toS,⟨#[59]⟩]:=by unfold stWE stW stWF;rw [eq_of_beq k];rfl
    rw [hK] at hb hs
    unfold vSt vA aStF at hst
    rw [eq_of_beq k] at hst
    simp only [ws1,ws2,ws3,ws4,ws5,sb1,sb2,sb3,sb4,sb5,wsR_sub,wsR_app,wsR_len,wsR_all,List.length_cons,List.length_append,List.length_nil] at hb ⊢
    (repeat' (with_reducible apply And.intro))<;>first |assumption |exact True.intro |omega |(refine ⟨i+1,⟨hi2,trivial⟩,by omega,hnx,?_⟩;rw [hs];simp only [ws1,ws2,ws3,ws4,ws5,sb1,sb2,sb3,sb4,sb5,wsR_sub,wsR_app,wsR_len,wsR_all,List.length_cons,List.length_append,List.length_nil];(repeat' (with_reducible apply And.intro))<;>first |exact True.intro |omega |(simp;done))
   ·exfalso
    unfold vSt vA aStF at hst
    rw [if_neg (ne_of_beq_false k1),if_neg (ne_of_beq_false k2),if_neg (ne_of_beq_false k3),if_neg (ne_of_beq_false k4),if_neg (ne_of_beq_false k5),if_neg (ne_of_beq_false k6),if_neg (ne_of_beq_false k7)] at hst
    cases hst
  ·have hc:=of_decide_eq_false hc
   obtain rfl:i=d.len:=by have:=hi.1;omega
   exact ⟨rfl,rfl⟩
 ·trivial
theorem swq_ok:ConOK Try.prog 33 swqC:=
 conS_rec swqM (fun _ _=>by kernel_rfl) fun m ih=>by
  rw [swq_under] at ih ⊢
  exact swq_step m ih
end Go.Proofs.Ytbhbjhejkamlnaa.Sx.Z
