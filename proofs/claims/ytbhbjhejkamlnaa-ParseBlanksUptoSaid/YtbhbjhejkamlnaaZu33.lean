import Derived.Test.YtbhbjhejkamlnaaZu32
import Derived.Test.YtbhbjhejkamlnaaZu30
set_option linter.unusedVariables false
set_option linter.unusedSimpArgs false
namespace Go.Proofs.Ytbhbjhejkamlnaa.Sx.Z
open Go.RowKit
def chHd (ch:D) (i q:Nat):List ByteArray:=[⟨#[99,104,97,110]⟩,(ch.el i 0).toS,chW (ch.el i 1).toI,itW (ch.el i 2).toI,⟨#[102,114,111,109]⟩,(ch.el i 3).toS,⟨#[116,111]⟩,(ch.el i 4).toS,⟨#[123]⟩]++catTo q (tgW (ch.el i 5))
def ruHd (ru:D) (i q:Nat):List ByteArray:=[⟨#[114,117,108,101]⟩,(ru.el i 0).toS,⟨#[123]⟩]++catTo q (mvW (ru.el i 1))
def prHd (pr:D) (i q:Nat):List ByteArray:=[⟨#[112,114,111,99]⟩,(pr.el i 0).toS,⟨#[123]⟩]++catTo q (vaW (pr.el i 1))
theorem ch_hd (ch:D) (i:Nat):catTo (i+1) (chWE ch)=catTo i (chWE ch)++chHd ch i (ch.el i 5).len++[⟨#[125]⟩,⟨#[59]⟩]:=by
 rw [catTo_succ,List.append_assoc]
 unfold chWE chWd chHd
 rw [List.append_assoc]
theorem ru_hd (ru:D) (i:Nat):catTo (i+1) (ruWE ru)=catTo i (ruWE ru)++ruHd ru i (ru.el i 1).len++[⟨#[125]⟩]:=by
 rw [catTo_succ,List.append_assoc]
 unfold ruWE ruWd ruHd
 rw [List.append_assoc]
theorem pr_hd (pr:D) (i:Nat):catTo (i+1) (prWE pr)=catTo i (prWE pr)++prHd pr i (pr.el i 1).len++(bW (pr.el i 2)++[⟨#[125]⟩]):=by
 rw [catTo_succ,List.append_assoc]
 unfold prWE prWd prHd
 rw [List.append_assoc]
theorem chHd_s (ch:D) (i q:Nat):chHd ch i (q+1)=chHd ch i q++tgW (ch.el i 5) q:=by unfold chHd;rw [catTo_succ,List.append_assoc]
theorem ruHd_s (ru:D) (i q:Nat):ruHd ru i (q+1)=ruHd ru i q++mvW (ru.el i 1) q:=by unfold ruHd;rw [catTo_succ,List.append_assoc]
theorem prHd_s (pr:D) (i q:Nat):prHd pr i (q+1)=prHd pr i q++vaW (pr.el i 1) q:=by unfold prHd;rw [catTo_succ,List.append_assoc]
theorem chHd_le {ch:D} {i q:Nat} (hi:i<ch.len) (hq:q<=(ch.el i 5).len):(catTo i (chWE ch)++chHd ch i q).length+2<=(catTo ch.len (chWE ch)).length:=by
 have:=cat_mono (chWE ch) (show i+1<=ch.len from hi)
 have:=cat_mono (tgW (ch.el i 5)) hq
 rw [ch_hd] at *
 unfold chHd at *
 simp only [List.length_append,List.length_cons,List.length_nil] at *
 omega
theorem ruHd_le {ru:D} {i q:Nat} (hi:i<ru.len) (hq:q<=(ru.el i 1).len):(catTo i (ruWE ru)).length+(ruHd ru i q).length+1<=(catTo ru.len (ruWE ru)).length:=by
 have:=cat_mono (ruWE ru) (show i+1<=ru.len from hi)
 have:=cat_mono (mvW (ru.el i 1)) hq
 rw [ru_hd] at *
 unfold ruHd at *
 simp only [List.length_append,List.length_cons,List.length_nil] at *
 omega
theorem prHd_le {pr:D} {i q:Nat} (hi:i<pr.len) (hq:q<=(pr.el i 1).len):(catTo i (prWE pr)).length+(prHd pr i q).length+(bW (pr.el i 2)).length+1<=(catTo pr.len (prWE pr)).length:=by
 have:=cat_mono (prWE pr) (show i+1<=pr.len from hi)
 have:=cat_mono (vaW (pr.el i 1)) hq
 rw [pr_hd] at *
 unfold prHd at *
 simp only [List.length_append,List.length_cons,List.length_nil] at *
 omega
theorem ap_eq {L X M:List ByteArray} (h:M=L++X) {Y:List (List D)} (hY:Y=X.map fun s=>[D.s s]):L.map (fun s=>[D.s s])++Y=M.map fun s=>[D.s s]:=by
 rw [h,hY,List.map_append]
theorem ap_eq2 {L X1 X M:List ByteArray} (h:M=L++(X1++X)) {Y1 Y:List (List D)} (hY1:Y1=X1.map fun s=>[D.s s]) (hY:Y=X.map fun s=>[D.s s]):L.map (fun s=>[D.s s])++Y1++Y=M.map fun s=>[D.s s]:=by
 rw [h,hY,hY1,List.map_append,List.map_append,List.append_assoc]
theorem apw_len {L X M:List ByteArray} (h:M=L++X) {n:Nat} (hn:n=X.length):L.length+n=M.length:=by
 rw [h,hn,List.length_append]
theorem ap_len2 {L X1 X M:List ByteArray} (h:M=L++(X1++X)) {n1 n:Nat} (hn1:n1=X1.length) (hn:n=X.length):L.length+n1+n=M.length:=by
 rw [h,hn,hn1,List.length_append,List.length_append,Nat.add_assoc]
theorem ws_bd {n m c:Nat} (h:n<=200000000) (hm:m=c) (hc:c<=200000000):(n+m)*16<=140737488355328:=by omega
theorem wsl (l:List ByteArray):l.length=(wsR l).len:=by
 show _=(l.map _).length
 rw [List.length_map]
theorem ch_tab {k:Int} (h:0<=k/\k<3):((D.l [[D.s ⟨#[98,108,111,99,107]⟩],[D.s ⟨#[100,114,111,112]⟩],[D.s ⟨#[108,111,115,115,121]⟩]]).el k.toNat 0).toS=chW k:=by
 have:k=0 ∨ k=1 ∨ k=2:=by omega
 rcases this with rfl |rfl |rfl<;>rfl
theorem app_len {a b:D}:(a.app b).len=a.len+b.len:=by
 show (a.rows++b.rows).length=_
 rw [List.length_append];rfl
noncomputable def rwqS:FSpec:=fun ds _=>match ds with
 | [.d ch,.d ru,.d pr]=>some {val:=.tup [.sc (.rows 9 (rwA ch ru pr)),.sc (.int .i64 (.sym (rwE ch ru pr)))],vc:=[sW ch,sW ru,sW pr]}
 |_=>none
noncomputable def rwqC:Con:=con [gS0] rwqS
theorem rwq_ok:ConOK Try.prog 12 rwqC:=by
 refine fn_ob tt_ok mixed Try.func12 rfl (fun _ _=>by kernel_rfl) (A:=fun ds=>⟨fun _=>Cons.of [(30,syqC),(31,bkqC),(32,dgqC),(33,swqC)],fun k=>match k,ds with | 4,[.d ch,.d ru,.d pr]=>some {ι:=Nat,pre:=fun s q=>q<=pr.len/\∀ j,j<q->pdq pr j=true,μ:=fun q=>2097154-q,st:=fun s q=>famR s [(4,.one (.sc (.int .i64 (.sym ((q:Nat))))))] [1] [] [1]} | 11,[.d ch,.d ru,.d pr]=>some {ι:=Nat,pre:=fun _ i=>i<=ch.len/\True,μ:=fun i=>2097154-i,st:=fun s i=>famR s [(8,.one (.sc (.int .i64 (.sym ((i:Nat)))))),(7,.one (.sc (.osl 9 (s.nx-1) (.lit 0) (.sym (catTo i (chWE ch)).length))))] [1] [(s.nx-1,.orow 9 (wsR (catTo i (chWE ch))))] [1]} | 16,[.d ch,.d ru,.d pr]=>some {ι:=Nat,pre:=fun s q=>q<=(ch.el (slotN s 8) 5).len/\True,μ:=fun q=>2097154-q,st:=fun s q=>famR s [(10,.one (.sc (.int .i64 (.sym ((q:Nat)))))),(7,.one (.sc (.osl 9 (s.nx-1) (.lit 0) (.sym (catTo (slotN s 8) (chWE ch)++chHd ch (slotN s 8) q).length))))] [1,8,9] [(s.nx-1,.orow 9 (wsR (catTo (slotN s 8) (chWE ch)++chHd ch (slotN s 8) q)))] [1,9]} | 23,[.d ch,.d ru,.d pr]=>some {ι:=Nat,pre:=fun _ i=>i<=ru.len/\True,μ:=fun i=>2097154-i,st:=fun s i=>famR s [(11,.one (.sc (.int .i64 (.sym ((i:Nat)))))),(7,.one (.sc (.osl 9 (s.nx-1) (.lit 0) (.sym (catTo ch.len (chWE ch)++catTo i (ruWE ru)).length))))] [1] [(s.nx-1,.orow 9 (wsR (catTo ch.len (chWE ch)++catTo i (ruWE ru))))] [1]} | 27,[.d ch,.d ru,.d pr]=>some {ι:=Nat,pre:=fun s q=>q<=(ru.el (slotN s 11) 1).len/\True,μ:=fun q=>2097154-q,st:=fun s q=>famR s [(12,.one (.sc (.int .i64 (.sym ((q:Nat)))))),(7,.one (.sc (.osl 9 (s.nx-1) (.lit 0) (.sym (catTo ch.len (chWE ch)++catTo (slotN s 11) (ruWE ru)++ruHd ru (slotN s 11) q).length))))] [1,11] [(s.nx-1,.orow 9 (wsR (catTo ch.len (chWE ch)++catTo (slotN s 11) (ruWE ru)++ruHd ru (slotN s 11) q)))] [1]} | 33,[.d ch,.d ru,.d pr]=>some {ι:=Nat,pre:=fun _ i=>i<=pr.len/\True,μ:=fun i=>2097154-i,st:=fun s i=>famR s [(14,.one (.sc (.int .i64 (.sym ((i:Nat)))))),(7,.one (.sc (.osl 9 (s.nx-1) (.lit 0) (.sym (catTo ch.len (chWE ch)++(catTo ru.len (ruWE ru)++catTo i (prWE pr))).length))))] [1] [(s.nx-1,.orow 9 (wsR (catTo ch.len (chWE ch)++(catTo ru.len (ruWE ru)++catTo i (prWE pr)))))] [1]} | 38,[.d ch,.d ru,.d pr]=>some {ι:=Nat,pre:=fun s q=>q<=(pr.el (slotN s 14) 1).len/\True,μ:=fun q=>2097154-q,st:=fun s q=>famR s [(16,.one (.sc (.int .i64 (.sym ((q:Nat)))))),(7,.one (.sc (.osl 9 (s.nx-1) (.lit 0) (.sym (catTo ch.len (chWE ch)++(catTo ru.len (ruWE ru)++catTo (slotN s 14) (prWE pr))++prHd pr (slotN s 14) q).length))))] [1,14,15] [(s.nx-1,.orow 9 (wsR (catTo ch.len (chWE ch)++(catTo ru.len (ruWE ru)++catTo (slotN s 14) (prWE pr))++prHd pr (slotN s 14) q)))] [1,15]} |_,_=>none,fun _=>none⟩) (fun _ _=>(cons_cons syq_ok (cons_cons bkq_ok (cons_cons dgq_ok (cons_cons swq_ok cons_nil))))) (by kernel_rfl) ?_
 intro ds fr
 unfold rwqS
 split
 ·rename_i ch ru pr
  refine kmp (q:=withv (fun (i:Nat)=>D.l [[D.s (ByteArray.mk #[99,104,97,110])],[D.s (ch.el (↑i:Int).toNat (0:Nat)).toS],[D.s ((D.l [[D.s (ByteArray.mk #[98,108,111,99,107])],[D.s (ByteArray.mk #[100,114,111,112])],[D.s (ByteArray.mk #[108,111,115,115,121])]]).el (ch.el (↑i:Int).toNat 1).toI.toNat (0:Nat)).toS],[D.s (itW (ch.el (↑i:Int).toNat 2).toI)],[D.s (ByteArray.mk #[102,114,111,109])],[D.s (ch.el (↑i:Int).toNat 3).toS],[D.s (ByteArray.mk #[116,111])],[D.s (ch.el (↑i:Int).toNat 4).toS],[D.s (ByteArray.mk #[123])]]) fun E212=>withv (fun (i:Nat)=>ch.el (↑i:Int).toNat 5) fun E213=>withv (fun (i:Nat)=>pr.el (↑i:Int).toNat 2) fun E214=>withv (fun (i:Nat) (i_1:Nat)=>catTo ch.len (chWE ch)++(catTo ru.len (ruWE ru)++catTo i (prWE pr))++prHd pr i i_1) fun E215=>withv (fun (i:Nat) (i_1:Nat)=>D.l [[D.s (itW ((ru.el (↑i:Int).toNat 1).el (↑i_1:Int).toNat (0:Nat)).toI)],[D.s ((ru.el (↑i:Int).toNat 1).el (↑i_1:Int).toNat 1).toS],[D.s (itW ((ru.el (↑i:Int).toNat 1).el (↑i_1:Int).toNat 2).toI)],[D.s (ByteArray.mk #[59])]]) fun E216=>withv (fun (i:Nat)=>catTo ch.len (chWE ch)++(catTo ru.len (ruWE ru)++catTo i (prWE pr))) fun E217=>withv (fun (i:Nat) (i_1:Nat)=>catTo ch.len (chWE ch)++catTo i (ruWE ru)++ruHd ru i i_1) fun E218=>withv (fun (i:Nat)=>ch.el (↑i:Int).toNat 4) fun E219=>withv (fun (i:Nat) (i_1:Nat)=>catTo i (chWE ch)++chHd ch i i_1) fun E220=>withv (fun (i:Nat)=>pr.el (↑i:Int).toNat 1) fun E221=>withv (fun (i:Nat)=>ch.el (↑i:Int).toNat 3) fun E222=>withv (fun (i:Nat)=>ch.el (↑i:Int).toNat 1) fun E223=>withv (fun (i:Nat)=>ch.el (↑i:Int).toNat 2) fun E224=>withv (fun (i:Nat)=>D.l [[D.s (ByteArray.mk #[114,117,108,101])],[D.s (ru.el (↑i:Int).toNat ((0:Nat)+(0:Nat))).toS],[D.s (ByteArray.mk #[123])]]) fun E225=>withv ((D.l [[D.s (ByteArray.mk #[44])]]).sub (0:Nat) 1) fun E226=>withv (fun (i:Nat)=>D.l [[D.s (ByteArray.mk #[112,114,111,99])],[D.s (pr.el (↑i:Int).toNat (0:Nat)).toS],[D.s (ByteArray.mk #[123])]]) fun E227=>withv (fun (i:Nat)=>ru.el (↑i:Int).toNat 1) fun E228=>withv (fun (i:Nat) (i_1:Nat)=>D.l [[D.s (ByteArray.mk #[118,97,114])],[D.s ((E221 i).el (↑i_1:Int).toNat (0:Nat)).toS],[D.s (ByteArray.mk #[59])]]) fun E229=>withv (D.l [[D.s (ByteArray.mk #[98,108,111,99,107])],[D.s (ByteArray.mk #[100,114,111,112])],[D.s (ByteArray.mk #[108,111,115,115,121])]]) fun E230=>withv ((D.l [[D.s (ByteArray.mk #[125])]]).sub (0:Nat) 1) fun E231=>withv (fun (i:Nat) (i_1:Nat)=>(D.l [[D.s ((E213 i).el (↑i_1:Int).toNat (0:Nat)).toS]]).sub (0:Nat) 1) fun E232=>withv (fun (i:Nat)=>(wsR (bW (E214 i))).sub (0:Nat) ((0:Nat)+(bW (E214 i)).length)) fun E233=>withv (fun (i:Nat)=>catTo ch.len (chWE ch)++catTo i (ruWE ru)) fun E234=>withv (fun (i:Nat)=>pr.el (↑i:Int).toNat ((0:Nat)+(2:Nat))) fun E235=>withv (fun (i:Nat)=>ch.el (↑i:Int).toNat (0:Nat)) fun E236=>withv (D.l [[D.s (ByteArray.mk #[125])],[D.s (ByteArray.mk #[59])]]) fun E237=>withv (fun (i:Nat)=>pr.el (↑i:Int).toNat (0:Nat)) fun E238=>sW ch->sW ru->sW pr->sW ch/\sW ru/\sW pr/\((!vSy ch ru pr)=true->(rwA ch ru pr).rows=[]/\(5:Int)=rwE ch ru pr)/\((!vSy ch ru pr)=false->(∃ (i:Nat),(i<=pr.len/\∀ (j:Nat),j<i->pdq pr j=true)/\(0:Int)=(↑i:Int)/\ch.rows=ch.rows/\ru.rows=ru.rows/\pr.rows=pr.rows)/\∀ (i:Nat),(i<=pr.len/\∀ (j:Nat),j<i->pdq pr j=true)->(decide ((↑i:Int)<(↑pr.len:Int))=true->((0:Int)<=(↑i:Int)/\(↑i:Int)<(↑pr.len:Int))/\vB (E235 i)=true/\sW (E235 i)/\((decide ((↑(bD (E235 i)):Int)>(24:Int)) ||decide ((↑(bX (E235 i)):Int)>(24:Int)))=true->(rwA ch ru pr).rows=[]/\(6:Int)=rwE ch ru pr)/\((decide ((↑(bD (E235 i)):Int)>(24:Int)) ||decide ((↑(bX (E235 i)):Int)>(24:Int)))=false->∃ (j:Nat),(j<=pr.len/\∀ (j_1:Nat),j_1<j->pdq pr j_1=true)/\(2097154:Nat)-j<(2097154:Nat)-i/\IntKind.i64.wrap ((↑i:Int)+(1:Int))=(↑j:Int)/\ch.rows=ch.rows/\ru.rows=ru.rows/\pr.rows=pr.rows))/\(decide ((↑i:Int)<(↑pr.len:Int))=false->(∃ (i:Nat),(i<=ch.len/\True)/\(0:Int)=(↑i:Int)/\(catTo i (chWE ch)).length=(0:Nat)/\List.map (fun (s:ByteArray)=>[D.s s]) (catTo i (chWE ch))=[]/\ch.rows=ch.rows/\ru.rows=ru.rows/\pr.rows=pr.rows)/\∀ (i:Nat),i<=ch.len/\True->(decide ((↑i:Int)<(↑ch.len:Int))=true->((0:Int)<=(↑i:Int)/\(↑i:Int)<(↑ch.len:Int))/\((0:Int)<=(E223 i).toI/\(E223 i).toI<(↑(3:Nat):Int))/\(E223 i).toI.toNat<E230.len/\nuB (E224 i).toI=true/\(catTo i (chWE ch)).length=(wsR (catTo i (chWE ch))).len/\((catTo i (chWE ch)).length+((E212 i).sub (0:Nat) ((0:Nat)+(9:Nat))).len)*(16:Nat)<=(140737488355328:Nat)/\(0:Nat)+(9:Nat)<=(E212 i).len/\(∃ (i_1:Nat),(i_1<=(ch.el i (5:Nat)).len/\True)/\(0:Int)=(↑i_1:Int)/\(catTo i (chWE ch)).length+((E212 i).sub (0:Nat) ((0:Nat)+(9:Nat))).len=(E220 i i_1).length/\(↑i:Int)=(↑i:Int)/\List.map (fun (s:ByteArray)=>[D.s s]) (catTo i (chWE ch))++List.drop (0:Nat) (List.take ((0:Nat)+(9:Nat)) [[D.s (ByteArray.mk #[99,104,97,110])],[D.s (E236 i).toS],[D.s (E230.el (E223 i).toI.toNat (0:Nat)).toS],[D.s (itW (E224 i).toI)],[D.s (ByteArray.mk #[102,114,111,109])],[D.s (E222 i).toS],[D.s (ByteArray.mk #[116,111])],[D.s (E219 i).toS],[D.s (ByteArray.mk #[123])]])=List.map (fun (s:ByteArray)=>[D.s s]) (E220 i i_1)/\ch.rows=ch.rows/\ru.rows=ru.rows/\pr.rows=pr.rows/\Value.string (E236 i).toS=Value.string (E236 i).toS/\(E223 i).toI=(E223 i).toI/\(E224 i).toI=(E224 i).toI/\Value.string (E222 i).toS=Value.string (E222 i).toS/\Value.string (E219 i).toS=Value.string (E219 i).toS/\(E213 i).rows=(E213 i).rows)/\∀ (i_1:Nat),i_1<=(ch.el i (5:Nat)).len/\True->(decide ((↑i_1:Int)<(↑(E213 i).len:Int))=true->(decide ((↑i_1:Int)>(0:Int))=true->(E220 i i_1).length=(wsR (E220 i i_1)).len/\((E220 i i_1).length+E226.len)*(16:Nat)<=(140737488355328:Nat)/\(0:Nat)+(1:Nat)<=(D.l [[D.s (ByteArray.mk #[44])]]).len/\((0:Int)<=(↑i_1:Int)/\(↑i_1:Int)<(↑(E213 i).len:Int))/\(E220 i i_1).length+E226.len=((wsR (E220 i i_1)).app E226).len/\((E220 i i_1).length+E226.len+(E232 i i_1).len)*(16:Nat)<=(140737488355328:Nat)/\(0:Nat)+(1:Nat)<=(D.l [[D.s ((E213 i).el (↑i_1:Int).toNat (0:Nat)).toS]]).len/\∃ (j:Nat),(j<=(ch.el i (5:Nat)).len/\True)/\(2097154:Nat)-j<(2097154:Nat)-i_1/\IntKind.i64.wrap ((↑i_1:Int)+(1:Int))=(↑j:Int)/\(E220 i i_1).length+E226.len+(E232 i i_1).len=(catTo i (chWE ch)++chHd ch i j).length/\(↑i:Int)=(↑i:Int)/\List.map (fun (s:ByteArray)=>[D.s s]) (E220 i i_1)++List.drop (0:Nat) (List.take 1 [[D.s (ByteArray.mk #[44])]])++List.drop (0:Nat) (List.take 1 [[D.s ((E213 i).el (↑i_1:Int).toNat (0:Nat)).toS]])=List.map (fun (s:ByteArray)=>[D.s s]) (catTo i (chWE ch)++chHd ch i j)/\ch.rows=ch.rows/\ru.rows=ru.rows/\pr.rows=pr.rows/\Value.string (E236 i).toS=Value.string (E236 i).toS/\(E223 i).toI=(E223 i).toI/\(E224 i).toI=(E224 i).toI/\Value.string (E222 i).toS=Value.string (E222 i).toS/\Value.string (E219 i).toS=Value.string (E219 i).toS/\(E213 i).rows=(E213 i).rows)/\(decide ((↑i_1:Int)>(0:Int))=false->((0:Int)<=(↑i_1:Int)/\(↑i_1:Int)<(↑(E213 i).len:Int))/\(E220 i i_1).length=(wsR (E220 i i_1)).len/\((E220 i i_1).length+(E232 i i_1).len)*(16:Nat)<=(140737488355328:Nat)/\(0:Nat)+(1:Nat)<=(D.l [[D.s ((E213 i).el (↑i_1:Int).toNat (0:Nat)).toS]]).len/\∃ (j:Nat),(j<=(ch.el i (5:Nat)).len/\True)/\(2097154:Nat)-j<(2097154:Nat)-i_1/\IntKind.i64.wrap ((↑i_1:Int)+(1:Int))=(↑j:Int)/\(E220 i i_1).length+(E232 i i_1).len=(catTo i (chWE ch)++chHd ch i j).length/\(↑i:Int)=(↑i:Int)/\List.map (fun (s:ByteArray)=>[D.s s]) (E220 i i_1)++List.drop (0:Nat) (List.take 1 [[D.s ((E213 i).el (↑i_1:Int).toNat (0:Nat)).toS]])=List.map (fun (s:ByteArray)=>[D.s s]) (catTo i (chWE ch)++chHd ch i j)/\ch.rows=ch.rows/\ru.rows=ru.rows/\pr.rows=pr.rows/\Value.string (E236 i).toS=Value.string (E236 i).toS/\(E223 i).toI=(E223 i).toI/\(E224 i).toI=(E224 i).toI/\Value.string (E222 i).toS=Value.string (E222 i).toS/\Value.string (E219 i).toS=Value.string (E219 i).toS/\(E213 i).rows=(E213 i).rows))/\(decide ((↑i_1:Int)<(↑(E213 i).len:Int))=false->(E220 i i_1).length=(wsR (E220 i i_1)).len/\((E220 i i_1).length+(E237.sub (0:Nat) ((0:Nat)+(2:Nat))).len)*(16:Nat)<=(140737488355328:Nat)/\(0:Nat)+(2:Nat)<=E237.len/\∃ (j:Nat),(j<=ch.len/\True)/\(2097154:Nat)-j<(2097154:Nat)-i/\IntKind.i64.wrap ((↑i:Int)+(1:Int))=(↑j:Int)/\(E220 i i_1).length+(E237.sub (0:Nat) ((0:Nat)+(2:Nat))).len=(catTo j (chWE ch)).length/\List.map (fun (s:ByteArray)=>[D.s s]) (E220 i i_1)++List.drop (0:Nat) (List.take ((0:Nat)+(2:Nat)) [[D.s (ByteArray.mk #[125])],[D.s (ByteArray.mk #[59])]])=List.map (fun (s:ByteArray)=>[D.s s]) (catTo j (chWE ch))/\ch.rows=ch.rows/\ru.rows=ru.rows/\pr.rows=pr.rows))/\(decide ((↑i:Int)<(↑ch.len:Int))=false->(∃ (i_1:Nat),(i_1<=ru.len/\True)/\(0:Int)=(↑i_1:Int)/\(catTo i (chWE ch)).length=(catTo ch.len (chWE ch)++catTo i_1 (ruWE ru)).length/\List.map (fun (s:ByteArray)=>[D.s s]) (catTo i (chWE ch))=List.map (fun (s:ByteArray)=>[D.s s]) (catTo ch.len (chWE ch)++catTo i_1 (ruWE ru))/\ch.rows=ch.rows/\ru.rows=ru.rows/\pr.rows=pr.rows)/\∀ (i:Nat),i<=ru.len/\True->(decide ((↑i:Int)<(↑ru.len:Int))=true->((0:Int)<=(↑i:Int)/\(↑i:Int)<(↑ru.len:Int))/\(E234 i).length=(wsR (E234 i)).len/\((E234 i).length+((E225 i).sub (0:Nat) ((0:Nat)+(3:Nat))).len)*(16:Nat)<=(140737488355328:Nat)/\(0:Nat)+(3:Nat)<=(E225 i).len/\(∃ (i_1:Nat),(i_1<=(ru.el i (1:Nat)).len/\True)/\(0:Int)=(↑i_1:Int)/\(E234 i).length+((E225 i).sub (0:Nat) ((0:Nat)+(3:Nat))).len=(E218 i i_1).length/\(↑i:Int)=(↑i:Int)/\List.map (fun (s:ByteArray)=>[D.s s]) (E234 i)++List.drop (0:Nat) (List.take ((0:Nat)+(3:Nat)) [[D.s (ByteArray.mk #[114,117,108,101])],[D.s (ru.el (↑i:Int).toNat ((0:Nat)+(0:Nat))).toS],[D.s (ByteArray.mk #[123])]])=List.map (fun (s:ByteArray)=>[D.s s]) (E218 i i_1)/\ch.rows=ch.rows/\ru.rows=ru.rows/\pr.rows=pr.rows)/\∀ (i_1:Nat),i_1<=(ru.el i (1:Nat)).len/\True->((0:Int)<=(↑i:Int)/\(↑i:Int)<(↑ru.len:Int))/\(decide ((↑i_1:Int)<(↑(E228 i).len:Int))=true->((0:Int)<=(↑i:Int)/\(↑i:Int)<(↑ru.len:Int))/\((0:Int)<=(↑i_1:Int)/\(↑i_1:Int)<(↑(E228 i).len:Int))/\nuB ((E228 i).el (↑i_1:Int).toNat (0:Nat)).toI=true/\nuB ((E228 i).el (↑i_1:Int).toNat 2).toI=true/\(E218 i i_1).length=(wsR (E218 i i_1)).len/\((E218 i i_1).length+((E216 i i_1).sub (0:Nat) ((0:Nat)+(4:Nat))).len)*(16:Nat)<=(140737488355328:Nat)/\(0:Nat)+(4:Nat)<=(E216 i i_1).len/\∃ (j:Nat),(j<=(ru.el i (1:Nat)).len/\True)/\(2097154:Nat)-j<(2097154:Nat)-i_1/\IntKind.i64.wrap ((↑i_1:Int)+(1:Int))=(↑j:Int)/\(E218 i i_1).length+((E216 i i_1).sub (0:Nat) ((0:Nat)+(4:Nat))).len=(catTo ch.len (chWE ch)++catTo i (ruWE ru)++ruHd ru i j).length/\(↑i:Int)=(↑i:Int)/\List.map (fun (s:ByteArray)=>[D.s s]) (E218 i i_1)++List.drop (0:Nat) (List.take ((0:Nat)+(4:Nat)) [[D.s (itW ((E228 i).el (↑i_1:Int).toNat (0:Nat)).toI)],[D.s ((E228 i).el (↑i_1:Int).toNat 1).toS],[D.s (itW ((E228 i).el (↑i_1:Int).toNat 2).toI)],[D.s (ByteArray.mk #[59])]])=List.map (fun (s:ByteArray)=>[D.s s]) (catTo ch.len (chWE ch)++catTo i (ruWE ru)++ruHd ru i j)/\ch.rows=ch.rows/\ru.rows=ru.rows/\pr.rows=pr.rows)/\(decide ((↑i_1:Int)<(↑(E228 i).len:Int))=false->(E218 i i_1).length=(wsR (E218 i i_1)).len/\((E218 i i_1).length+E231.len)*(16:Nat)<=(140737488355328:Nat)/\(0:Nat)+(1:Nat)<=(D.l [[D.s (ByteArray.mk #[125])]]).len/\∃ (j:Nat),(j<=ru.len/\True)/\(2097154:Nat)-j<(2097154:Nat)-i/\IntKind.i64.wrap ((↑i:Int)+(1:Int))=(↑j:Int)/\(E218 i i_1).length+E231.len=(catTo ch.len (chWE ch)++catTo j (ruWE ru)).length/\List.map (fun (s:ByteArray)=>[D.s s]) (E218 i i_1)++List.drop (0:Nat) (List.take 1 [[D.s (ByteArray.mk #[125])]])=List.map (fun (s:ByteArray)=>[D.s s]) (catTo ch.len (chWE ch)++catTo j (ruWE ru))/\ch.rows=ch.rows/\ru.rows=ru.rows/\pr.rows=pr.rows))/\(decide ((↑i:Int)<(↑ru.len:Int))=false->(∃ (i_1:Nat),(i_1<=pr.len/\True)/\(0:Int)=(↑i_1:Int)/\(E234 i).length=(catTo ch.len (chWE ch)++(catTo ru.len (ruWE ru)++catTo i_1 (prWE pr))).length/\List.map (fun (s:ByteArray)=>[D.s s]) (E234 i)=List.map (fun (s:ByteArray)=>[D.s s]) (catTo ch.len (chWE ch)++(catTo ru.len (ruWE ru)++catTo i_1 (prWE pr)))/\ch.rows=ch.rows/\ru.rows=ru.rows/\pr.rows=pr.rows)/\∀ (i:Nat),i<=pr.len/\True->(decide ((↑i:Int)<(↑pr.len:Int))=true->((0:Int)<=(↑i:Int)/\(↑i:Int)<(↑pr.len:Int))/\(E217 i).length=(wsR (E217 i)).len/\((E217 i).length+((E227 i).sub (0:Nat) ((0:Nat)+(3:Nat))).len)*(16:Nat)<=(140737488355328:Nat)/\(0:Nat)+(3:Nat)<=(E227 i).len/\(∃ (i_1:Nat),(i_1<=(pr.el i (1:Nat)).len/\True)/\(0:Int)=(↑i_1:Int)/\(E217 i).length+((E227 i).sub (0:Nat) ((0:Nat)+(3:Nat))).len=(E215 i i_1).length/\(↑i:Int)=(↑i:Int)/\List.map (fun (s:ByteArray)=>[D.s s]) (E217 i)++List.drop (0:Nat) (List.take ((0:Nat)+(3:Nat)) [[D.s (ByteArray.mk #[112,114,111,99])],[D.s (E238 i).toS],[D.s (ByteArray.mk #[123])]])=List.map (fun (s:ByteArray)=>[D.s s]) (E215 i i_1)/\ch.rows=ch.rows/\ru.rows=ru.rows/\pr.rows=pr.rows/\Value.string (E238 i).toS=Value.string (E238 i).toS/\(E221 i).rows=(E221 i).rows/\(E214 i).rows=(E214 i).rows)/\∀ (i_1:Nat),i_1<=(pr.el i (1:Nat)).len/\True->(decide ((↑i_1:Int)<(↑(E221 i).len:Int))=true->((0:Int)<=(↑i_1:Int)/\(↑i_1:Int)<(↑(E221 i).len:Int))/\(E215 i i_1).length=(wsR (E215 i i_1)).len/\((E215 i i_1).length+((E229 i i_1).sub (0:Nat) ((0:Nat)+(3:Nat))).len)*(16:Nat)<=(140737488355328:Nat)/\(0:Nat)+(3:Nat)<=(E229 i i_1).len/\∃ (j:Nat),(j<=(pr.el i (1:Nat)).len/\True)/\(2097154:Nat)-j<(2097154:Nat)-i_1/\IntKind.i64.wrap ((↑i_1:Int)+(1:Int))=(↑j:Int)/\(E215 i i_1).length+((E229 i i_1).sub (0:Nat) ((0:Nat)+(3:Nat))).len=(catTo ch.len (chWE ch)++(catTo ru.len (ruWE ru)++catTo i (prWE pr))++prHd pr i j).length/\(↑i:Int)=(↑i:Int)/\List.map (fun (s:ByteArray)=>[D.s s]) (E215 i i_1)++List.drop (0:Nat) (List.take ((0:Nat)+(3:Nat)) [[D.s (ByteArray.mk #[118,97,114])],[D.s ((E221 i).el (↑i_1:Int).toNat (0:Nat)).toS],[D.s (ByteArray.mk #[59])]])=List.map (fun (s:ByteArray)=>[D.s s]) (catTo ch.len (chWE ch)++(catTo ru.len (ruWE ru)++catTo i (prWE pr))++prHd pr i j)/\ch.rows=ch.rows/\ru.rows=ru.rows/\pr.rows=pr.rows/\Value.string (E238 i).toS=Value.string (E238 i).toS/\(E221 i).rows=(E221 i).rows/\(E214 i).rows=(E214 i).rows)/\(decide ((↑i_1:Int)<(↑(E221 i).len:Int))=false->vB (E214 i)=true/\sW (E214 i)/\(bW (E214 i)).length<=(3000000000000:Nat)/\(E215 i i_1).length=(wsR (E215 i i_1)).len/\((E215 i i_1).length+(E233 i).len)*(16:Nat)<=(140737488355328:Nat)/\(0:Nat)+(bW (E214 i)).length<=(wsR (bW (E214 i))).len/\(E215 i i_1).length+(E233 i).len=((wsR (E215 i i_1)).app (E233 i)).len/\((E215 i i_1).length+(E233 i).len+E231.len)*(16:Nat)<=(140737488355328:Nat)/\(0:Nat)+(1:Nat)<=(D.l [[D.s (ByteArray.mk #[125])]]).len/\∃ (j:Nat),(j<=pr.len/\True)/\(2097154:Nat)-j<(2097154:Nat)-i/\IntKind.i64.wrap ((↑i:Int)+(1:Int))=(↑j:Int)/\(E215 i i_1).length+(E233 i).len+E231.len=(catTo ch.len (chWE ch)++(catTo ru.len (ruWE ru)++catTo j (prWE pr))).length/\List.map (fun (s:ByteArray)=>[D.s s]) (E215 i i_1)++List.drop (0:Nat) (List.take ((0:Nat)+(bW (E214 i)).length) (List.map (fun (s:ByteArray)=>[D.s s]) (bW (E214 i))))++List.drop (0:Nat) (List.take 1 [[D.s (ByteArray.mk #[125])]])=List.map (fun (s:ByteArray)=>[D.s s]) (catTo ch.len (chWE ch)++(catTo ru.len (ruWE ru)++catTo j (prWE pr)))/\ch.rows=ch.rows/\ru.rows=ru.rows/\pr.rows=pr.rows))/\(decide ((↑i:Int)<(↑pr.len:Int))=false->(decide ((↑(E217 i).length:Int)>(2000:Int))=true->(rwA ch ru pr).rows=[]/\(4:Int)=rwE ch ru pr)/\(decide ((↑(E217 i).length:Int)>(2000:Int))=false->(0:Nat)+(E217 i).length<=(wsR (E217 i)).len/\List.drop ((0:Nat)) (List.take ((0:Nat)+(E217 i).length) (List.map (fun (s:ByteArray)=>[D.s s]) (E217 i)))=(rwA ch ru pr).rows/\(0:Int)=rwE ch ru pr))))))) (by kernel_rfl) ?_
  dsimp +instances only [withv]
  intro h1 h2 h3
  have en:∀ i:Nat,(i:Int).toNat=i:=fun i=>Int.toNat_natCast i
  simp only [Nat.reduceAdd,Nat.zero_add,en]
  have nx:∀ i:Nat,i<=2097153->IntKind.i64.wrap ((i:Int)+1)=((i+1:Nat):Int):=fun i hi=>by rw [IntWalk.i64_in _ (by omega)];omega
  have ext:∀ {f:Nat->Bool} {i:Nat},(∀ j,j<i->f j=true)->f i=true->∀ j,j<i+1->f j=true:=fun {f i} h g j hj=>by
   rcases Nat.lt_or_ge j i with h1 |h1
   ·exact h j h1
   ·obtain rfl:j=i:=by omega
    exact g
  have l1:=sW_len h1
  have l2:=sW_len h2
  have l3:=sW_len h3
  refine ⟨h1,h2,h3,fun hv=>?_,fun hv=>?_⟩
  ·rw [Bool.not_eq_true'] at hv
   have e:=rw5 hv
   exact ⟨by rw [rwA_no (by rw [e];decide)];rfl,e.symm⟩
  rw [Bool.not_eq_false'] at hv
  have hS:=syW_wt hv h1 h2 h3
  have hv2:=hv
  unfold vSy at hv2
  simp only [Bool.and_eq_true] at hv2
  obtain ⟨vc,vr,vp⟩:=hv2
  have vp:∀ i,i<pr.len->vB (pr.el i 2)=true:=fun i hi=>by
   have:=allB_iff.1 vp i hi
   unfold rpq at this
   simp only [Bool.and_eq_true] at this
   exact this.2
  unfold syW at hS
  simp only [List.length_append] at hS
  refine ⟨⟨0,⟨Nat.zero_le _,fun j hj=>absurd hj (Nat.not_lt_zero j)⟩,rfl,(by (repeat' (with_reducible apply And.intro))<;>first |exact True.intro |rfl)⟩,fun i hp=>⟨fun hc=>?_,fun hc=>?_⟩⟩
  ·have hc:=of_decide_eq_true hc
   have hi:i<pr.len:=by omega
   refine ⟨⟨by omega,hc⟩,vp i hi,sW_el h3 hi 2,fun hg=>?_,fun hg=>⟨i+1,⟨hi,ext hp.2 ?_⟩,by omega,nx i (by omega),(by (repeat' (with_reducible apply And.intro))<;>first |exact True.intro |rfl)⟩⟩
   ·have hx:pdq pr i=false:=by
     unfold pdq
     simp only [Bool.or_eq_true,decide_eq_true_eq] at hg
     rcases hg with hg |hg
     ·rw [decide_eq_false (by omega)];rfl
     ·rw [Bool.and_eq_false_iff];exact .inr (decide_eq_false (by omega))
    have e:=rw6 hv (allB_no hi hx)
    exact ⟨by rw [rwA_no (by rw [e];decide)];rfl,e.symm⟩
   ·simp only [Bool.or_eq_false_iff,decide_eq_false_iff_not] at hg
    unfold pdq
    rw [decide_eq_true (by omega),decide_eq_true (by omega)];rfl
  have hc:=of_decide_eq_false hc
  have hpd:allB pr.len (pdq pr)=true:=allB_yes fun j hj=>hp.2 j (by omega)
  clear hc hp
  refine ⟨⟨0,⟨Nat.zero_le _,trivial⟩,rfl,rfl,rfl,(by (repeat' (with_reducible apply And.intro))<;>first |exact True.intro |rfl)⟩,fun i hp=>⟨fun hc=>?_,fun hc=>?_⟩⟩
  ·have hc:=of_decide_eq_true hc
   have hi:i<ch.len:=by omega
   have he:=allB_iff.1 vc i hi
   unfold chE chB at he
   simp only [Bool.and_eq_true,decide_eq_true_eq] at he
   have hk:0<=(ch.el i 1).toI/\(ch.el i 1).toI<3:=⟨he.1.1.1.1.1.1.2,by have:=he.1.1.1.1.1.2;omega⟩
   have s5:=sW_el h1 hi 5
   have l5:=sW_len s5
   have hl:=cat_mono (chWE ch) (Nat.le_of_lt hi)
   have e0:catTo i (chWE ch)++chHd ch i 0=catTo i (chWE ch)++[⟨#[99,104,97,110]⟩,(ch.el i 0).toS,((D.l [[D.s ⟨#[98,108,111,99,107]⟩],[D.s ⟨#[100,114,111,112]⟩],[D.s ⟨#[108,111,115,115,121]⟩]]).el (ch.el i 1).toI.toNat 0).toS,itW (ch.el i 2).toI,⟨#[102,114,111,109]⟩,(ch.el i 3).toS,⟨#[116,111]⟩,(ch.el i 4).toS,⟨#[123]⟩]:=by rw [ch_tab hk];rfl
   refine ⟨⟨by omega,hc⟩,hk,(show (ch.el i 1).toI.toNat<3 by omega),he.1.1.1.1.2,wsl _,ws_bd (c:=9) (by omega) rfl (by decide),Nat.le_refl 9,⟨0,⟨Nat.zero_le _,trivial⟩,rfl,apw_len e0 rfl,trivial,ap_eq e0 rfl,(by (repeat' (with_reducible apply And.intro))<;>first |exact True.intro |rfl)⟩,fun q hq=>⟨fun hd=>?_,fun hd=>?_⟩⟩
   ·have hd:=of_decide_eq_true hd
    have hq2:q<(ch.el i 5).len:=by omega
    have hb:=chHd_le hi (Nat.le_of_lt hq2)
    refine ⟨fun hg=>?_,fun hg=>?_⟩
    ·have e:catTo i (chWE ch)++chHd ch i (q+1)=(catTo i (chWE ch)++chHd ch i q)++([⟨#[44]⟩]++[((ch.el i 5).el q 0).toS]):=by
      rw [chHd_s,List.append_assoc]
      unfold tgW
      rw [if_pos (by have:=of_decide_eq_true hg;omega)];rfl
     refine ⟨wsl _,ws_bd (c:=1) (by omega) rfl (by decide),Nat.le_refl 1,⟨by omega,hd⟩,?_,ws_bd (n:=_+1) (c:=1) (by omega) rfl (by decide),Nat.le_refl 1,q+1,⟨hq2,trivial⟩,by omega,nx q (by omega),ap_len2 e rfl rfl,trivial,ap_eq2 e rfl rfl,(by (repeat' (with_reducible apply And.intro))<;>first |exact True.intro |rfl)⟩
     rw [app_len,<- wsl]
    ·have e:catTo i (chWE ch)++chHd ch i (q+1)=(catTo i (chWE ch)++chHd ch i q)++[((ch.el i 5).el q 0).toS]:=by
      rw [chHd_s,List.append_assoc]
      unfold tgW
      rw [if_neg (by have:=of_decide_eq_false hg;omega)]
     exact ⟨⟨by omega,hd⟩,wsl _,ws_bd (c:=1) (by omega) rfl (by decide),Nat.le_refl 1,q+1,⟨hq2,trivial⟩,by omega,nx q (by omega),apw_len e rfl,trivial,ap_eq e rfl,(by (repeat' (with_reducible apply And.intro))<;>first |exact True.intro |rfl)⟩
   ·have hd:=of_decide_eq_false hd
    obtain rfl:q=(ch.el i 5).len:=by have:=hq.1;omega
    have hb:=chHd_le hi (Nat.le_refl _)
    exact ⟨wsl _,ws_bd (c:=2) (by omega) rfl (by decide),Nat.le_refl 2,i+1,⟨hi,trivial⟩,by omega,nx i (by omega),apw_len (ch_hd ch i) rfl,ap_eq (ch_hd ch i) rfl,(by (repeat' (with_reducible apply And.intro))<;>first |exact True.intro |rfl)⟩
  have hc:=of_decide_eq_false hc
  obtain rfl:i=ch.len:=by have:=hp.1;omega
  clear hc hp
  have ez:catTo ch.len (chWE ch)++catTo 0 (ruWE ru)=catTo ch.len (chWE ch):=List.append_nil _
  refine ⟨⟨0,⟨Nat.zero_le _,trivial⟩,rfl,by rw [ez],by rw [ez],(by (repeat' (with_reducible apply And.intro))<;>first |exact True.intro |rfl)⟩,fun i hp=>⟨fun hc=>?_,fun hc=>?_⟩⟩
  ·have hc:=of_decide_eq_true hc
   have hi:i<ru.len:=by omega
   have he:=allB_iff.1 vr i hi
   unfold ruE ruB at he
   simp only [Bool.and_eq_true,decide_eq_true_eq] at he
   have hx:(0:Int)<=(i:Int)/\(i:Int)<(ru.len:Int):=⟨by omega,hc⟩
   have s5:=sW_el h2 hi 1
   have l5:=sW_len s5
   have hl:=cat_mono (ruWE ru) (Nat.le_of_lt hi)
   have la:(catTo ch.len (chWE ch)++catTo i (ruWE ru)).length=(catTo ch.len (chWE ch)).length+(catTo i (ruWE ru)).length:=List.length_append
   refine ⟨hx,wsl _,ws_bd (c:=3) (by omega) rfl (by decide),Nat.le_refl 3,⟨0,⟨Nat.zero_le _,trivial⟩,rfl,apw_len (X:=ruHd ru i 0) rfl rfl,trivial,ap_eq (X:=ruHd ru i 0) rfl rfl,(by (repeat' (with_reducible apply And.intro))<;>first |exact True.intro |rfl)⟩,fun q hq=>⟨hx,fun hd=>?_,fun hd=>?_⟩⟩
   ·have hd:=of_decide_eq_true hd
    have hq2:q<(ru.el i 1).len:=by omega
    have hb:=ruHd_le hi (Nat.le_of_lt hq2)
    have lb:(catTo ch.len (chWE ch)++catTo i (ruWE ru)++ruHd ru i q).length=(catTo ch.len (chWE ch)++catTo i (ruWE ru)).length+(ruHd ru i q).length:=List.length_append
    have e:catTo ch.len (chWE ch)++catTo i (ruWE ru)++ruHd ru i (q+1)=(catTo ch.len (chWE ch)++catTo i (ruWE ru)++ruHd ru i q)++mvW (ru.el i 1) q:=by
     rw [ruHd_s,<- List.append_assoc]
    have hm:=allB_iff.1 he.1 q hq2
    unfold mvE at hm
    simp only [Bool.and_eq_true] at hm
    exact ⟨hx,⟨by omega,hd⟩,hm.1.1,hm.2,wsl _,ws_bd (c:=4) (by omega) rfl (by decide),Nat.le_refl 4,q+1,⟨hq2,trivial⟩,by omega,nx q (by omega),apw_len e rfl,trivial,ap_eq e rfl,(by (repeat' (with_reducible apply And.intro))<;>first |exact True.intro |rfl)⟩
   ·have hd:=of_decide_eq_false hd
    obtain rfl:q=(ru.el i 1).len:=by have:=hq.1;omega
    have hb:=ruHd_le hi (Nat.le_refl _)
    have lb:(catTo ch.len (chWE ch)++catTo i (ruWE ru)++ruHd ru i (ru.el i 1).len).length=(catTo ch.len (chWE ch)++catTo i (ruWE ru)).length+(ruHd ru i (ru.el i 1).len).length:=List.length_append
    have e:catTo ch.len (chWE ch)++catTo (i+1) (ruWE ru)=(catTo ch.len (chWE ch)++catTo i (ruWE ru)++ruHd ru i (ru.el i 1).len)++[⟨#[125]⟩]:=by
     rw [ru_hd];simp only [List.append_assoc]
    exact ⟨wsl _,ws_bd (c:=1) (by omega) rfl (by decide),Nat.le_refl 1,i+1,⟨hi,trivial⟩,by omega,nx i (by omega),apw_len e rfl,ap_eq e rfl,(by (repeat' (with_reducible apply And.intro))<;>first |exact True.intro |rfl)⟩
  have hc:=of_decide_eq_false hc
  obtain rfl:i=ru.len:=by have:=hp.1;omega
  clear hc hp ez
  have ez:catTo ch.len (chWE ch)++(catTo ru.len (ruWE ru)++catTo 0 (prWE pr))=catTo ch.len (chWE ch)++catTo ru.len (ruWE ru):=by rw [show catTo 0 (prWE pr)=[] from rfl,List.append_nil]
  refine ⟨⟨0,⟨Nat.zero_le _,trivial⟩,rfl,by rw [ez],by rw [ez],(by (repeat' (with_reducible apply And.intro))<;>first |exact True.intro |rfl)⟩,fun i hp=>⟨fun hc=>?_,fun hc=>?_⟩⟩
  ·have hc:=of_decide_eq_true hc
   have hi:i<pr.len:=by omega
   have s5:=sW_el h3 hi 1
   have l5:=sW_len s5
   have hl:=cat_mono (prWE pr) (Nat.le_of_lt hi)
   have la:(catTo ch.len (chWE ch)++(catTo ru.len (ruWE ru)++catTo i (prWE pr))).length=(catTo ch.len (chWE ch)).length+((catTo ru.len (ruWE ru)).length+(catTo i (prWE pr)).length):=by rw [List.length_append,List.length_append]
   have lb:∀ q,(catTo ch.len (chWE ch)++(catTo ru.len (ruWE ru)++catTo i (prWE pr))++prHd pr i q).length=(catTo ch.len (chWE ch)++(catTo ru.len (ruWE ru)++catTo i (prWE pr))).length+(prHd pr i q).length:=fun q=>List.length_append
   refine ⟨⟨by omega,hc⟩,wsl _,ws_bd (c:=3) (by omega) rfl (by decide),Nat.le_refl 3,⟨0,⟨Nat.zero_le _,trivial⟩,rfl,apw_len (X:=prHd pr i 0) rfl rfl,trivial,ap_eq (X:=prHd pr i 0) rfl rfl,(by (repeat' (with_reducible apply And.intro))<;>first |exact True.intro |rfl)⟩,fun q hq=>⟨fun hd=>?_,fun hd=>?_⟩⟩
   ·have hd:=of_decide_eq_true hd
    have hq2:q<(pr.el i 1).len:=by omega
    have hb:=prHd_le hi (Nat.le_of_lt hq2)
    have lc:=lb q
    have e:catTo ch.len (chWE ch)++(catTo ru.len (ruWE ru)++catTo i (prWE pr))++prHd pr i (q+1)=(catTo ch.len (chWE ch)++(catTo ru.len (ruWE ru)++catTo i (prWE pr))++prHd pr i q)++vaW (pr.el i 1) q:=by
     rw [prHd_s,<- List.append_assoc]
    exact ⟨⟨by omega,hd⟩,wsl _,ws_bd (c:=3) (by omega) rfl (by decide),Nat.le_refl 3,q+1,⟨hq2,trivial⟩,by omega,nx q (by omega),apw_len e rfl,trivial,ap_eq e rfl,(by (repeat' (with_reducible apply And.intro))<;>first |exact True.intro |rfl)⟩
   ·have hd:=of_decide_eq_false hd
    obtain rfl:q=(pr.el i 1).len:=by have:=hq.1;omega
    have hb:=prHd_le hi (Nat.le_refl _)
    have lc:=lb (pr.el i 1).len
    have e:catTo ch.len (chWE ch)++(catTo ru.len (ruWE ru)++catTo (i+1) (prWE pr))=(catTo ch.len (chWE ch)++(catTo ru.len (ruWE ru)++catTo i (prWE pr))++prHd pr i (pr.el i 1).len)++(bW (pr.el i 2)++[⟨#[125]⟩]):=by
     rw [pr_hd];simp only [List.append_assoc]
    have eb:((wsR (bW (pr.el i 2))).sub 0 (bW (pr.el i 2)).length).len=(bW (pr.el i 2)).length:=by rw [wsR_sub,<- wsl]
    refine ⟨vp i hi,sW_el h3 hi 2,by omega,wsl _,ws_bd (by omega) eb (by omega),by rw [<- wsl];exact Nat.le_refl _,by rw [app_len,<- wsl],ws_bd (c:=1) (by rw [eb];omega) rfl (by decide),Nat.le_refl 1,i+1,⟨hi,trivial⟩,by omega,nx i (by omega),ap_len2 e eb rfl,ap_eq2 e (wsR_all _) rfl,(by (repeat' (with_reducible apply And.intro))<;>first |exact True.intro |rfl)⟩
  have hc:=of_decide_eq_false hc
  obtain rfl:i=pr.len:=by have:=hp.1;omega
  have es:catTo ch.len (chWE ch)++(catTo ru.len (ruWE ru)++catTo pr.len (prWE pr))=syW ch ru pr:=rfl
  rw [es]
  refine ⟨fun hd=>?_,fun hd=>?_⟩
  ·have hd:=of_decide_eq_true hd
   have e:=rw4 hv hpd (by omega)
   exact ⟨by rw [rwA_no (by rw [e];decide)];rfl,e.symm⟩
  ·have hd:=of_decide_eq_false hd
   have e:=rw0 hv hpd (by omega)
   refine ⟨by rw [<- wsl];exact Nat.le_refl _,?_,e.symm⟩
   rw [rwA_yes e]
   exact wsR_all _
 ·trivial
end Go.Proofs.Ytbhbjhejkamlnaa.Sx.Z
namespace Go.Proofs.Ytbhbjhejkamlnaa.Sx.Z
open Go.RowKit
def lBr:AP:=.sc (.rows 52)
theorem cpTo_all (n:Nat) (f:Nat->List D):(cpTo n f).sub 0 (0+n)=cpTo n f:=by
 rw [Nat.zero_add]
 show D.l (List.drop 0 (List.take n ((List.range n).map f)))=_
 rw [List.take_of_length_le (by simp)];rfl
def cpB (d:D):D:=.l ((List.finRange d.len).map fun (i:Fin d.len)=>[D.i (d.el i 0).toI,D.s (d.el i 1).toS,D.s (d.el i 2).toS,D.i (d.el i 3).toI,D.i (d.el i 4).toI,D.s (d.el i 5).toS,cpE (d.el i 6),D.i (d.el i 7).toI,D.i (d.el i 8).toI,D.i (d.el i 9).toI,D.s (d.el i 10).toS,cpE (d.el i 11),D.i (d.el i 12).toI,D.i (d.el i 13).toI,D.s (d.el i 14).toS,cpE (d.el i 15),cpB (d.el i 16),cpB (d.el i 17),.l ((List.finRange (d.el i 18).len).map fun (j:Fin (d.el i 18).len)=>[D.s ((d.el i 18).el j 0).toS,D.s ((d.el i 18).el j 1).toS,cpB ((d.el i 18).el j 2)])])
 termination_by SizeOf.sizeOf d
 decreasing_by
  ·exact lel_lt i.isLt
  ·exact lel_lt i.isLt
  ·exact Nat.lt_trans (lel_lt j.isLt) (lel_lt i.isLt)
def arR (am:D) (j:Nat):List D:=[D.s (am.el j 0).toS,D.s (am.el j 1).toS,cpB (am.el j 2)]
def rSt (d:D) (i:Nat):List D:=[D.i (d.el i 0).toI,D.s (d.el i 1).toS,D.s (d.el i 2).toS,D.i (d.el i 3).toI,D.i (d.el i 4).toI,D.s (d.el i 5).toS,cpE (d.el i 6),D.i (d.el i 7).toI,D.i (d.el i 8).toI,D.i (d.el i 9).toI,D.s (d.el i 10).toS,cpE (d.el i 11),D.i (d.el i 12).toI,D.i (d.el i 13).toI,D.s (d.el i 14).toS,cpE (d.el i 15),cpB (d.el i 16),cpB (d.el i 17),cpTo (d.el i 18).len (arR (d.el i 18))]
theorem cpB_eq (d:D):cpB d=cpTo d.len (rSt d):=by
 rw [cpB,<- cpF_eq]
 congr 2
 funext i
 unfold rSt
 rw [<- cpF_eq]
 rfl
def bS (d:D):Prop:=d.len<=3000000/\∀ i:Fin d.len,kS (d.el i 6)/\kS (d.el i 11)/\kS (d.el i 15)/\bS (d.el i 16)/\bS (d.el i 17)/\(d.el i 18).len<=3000000/\∀ j:Fin (d.el i 18).len,bS ((d.el i 18).el j 2)
 termination_by SizeOf.sizeOf d
 decreasing_by
  ·exact lel_lt i.isLt
  ·exact lel_lt i.isLt
  ·exact Nat.lt_trans (lel_lt j.isLt) (lel_lt i.isLt)
theorem bS_iff (d:D):bS d↔d.len<=3000000/\∀ i,i<d.len->kS (d.el i 6)/\kS (d.el i 11)/\kS (d.el i 15)/\bS (d.el i 16)/\bS (d.el i 17)/\(d.el i 18).len<=3000000/\∀ j,j<(d.el i 18).len->bS ((d.el i 18).el j 2):=by
 rw [bS]
 refine ⟨fun h=>⟨h.1,fun i hi=>?_⟩,fun h=>⟨h.1,fun i=>?_⟩⟩
 ·obtain ⟨a,b,c,e,f,g,k⟩:=h.2 ⟨i,hi⟩
  exact ⟨a,b,c,e,f,g,fun j hj=>k ⟨j,hj⟩⟩
 ·obtain ⟨a,b,c,e,f,g,k⟩:=h.2 i.1 i.2
  exact ⟨a,b,c,e,f,g,fun j=>k j.1 j.2⟩
noncomputable def scpS:FSpec:=fun ds _=>match ds with
 | [.d d]=>some {val:=.one (.sc (.rows 95 (cpB d))),vc:=[bS d]}
 |_=>none
noncomputable def scpC:Con:=con [lBr] scpS
noncomputable def scpM:List Dat->Nat:=fun ds=>match ds with
 | [.d d]=>SizeOf.sizeOf d
 |_=>0
noncomputable def scpSu (m:Nat):FSpec:=fun ds _=>match ds with
 | [.d d]=>some {val:=.one (.sc (.rows 95 (cpB d))),vc:=[SizeOf.sizeOf d<m,bS d]}
 |_=>none
theorem scp_under (m:Nat):scpS.under scpM m=scpSu m:=by
 funext ds fr
 unfold FSpec.under scpS scpM scpSu
 split
 ·rename_i e h
  split at h
  ·obtain rfl:=Option.some.inj h;rfl
  ·cases h
 ·rename_i h
  split at h
  ·cases h
  ·rfl
theorem scp_step (m:Nat) (ih:ConOK Try.prog 29 (con [lBr] (scpSu m))):ConOK Try.prog 29 (con [lBr] (scpSu (m+1))):=by
 refine fn_ob tt_ok mixed Try.func29 rfl (fun _ _=>by kernel_rfl) (A:=fun ds=>⟨fun _=>Cons.of [(52,xcpC),(53,ccpC),(29,con [lBr] (scpSu m))],fun k=>match k,ds with | 3,[.d d]=>some {ι:=Nat,pre:=fun _ i=>i<=d.len,μ:=fun i=>d.len+1-i,st:=fun s i=>famR s [(4,.one (.sc (.int .i64 (.sym ((i:Nat)))))),(3,.one (.sc (.osl 95 (s.nx-1) (.lit 0) (.sym (i)))))] [0] [(s.nx-1,.orow 95 (cpTo i (rSt d)))] []} | 8,[.d d]=>some {ι:=Nat,pre:=fun s q=>q<=(d.el (slotN s 4) 18).len/\True,μ:=fun q=>3000001-q,st:=fun s q=>famR s [(7,.one (.sc (.int .i64 (.sym ((q:Nat))))))] [0,3,4,5,6] [(idOf s 6,.own 95 ([.c (.int .i64 (.sym ((d.el (slotN s 4) 0).toI))),.c (.raw (.string ((d.el (slotN s 4) 1).toS))),.c (.raw (.string ((d.el (slotN s 4) 2).toS))),.c (.int .i64 (.sym ((d.el (slotN s 4) 3).toI))),.c (.int .i64 (.sym ((d.el (slotN s 4) 4).toI))),.c (.raw (.string ((d.el (slotN s 4) 5).toS))),.c (.rows 90 (cpE (d.el (slotN s 4) 6))),.c (.int .i64 (.sym ((d.el (slotN s 4) 7).toI))),.c (.int .i64 (.sym ((d.el (slotN s 4) 8).toI))),.c (.int .i64 (.sym ((d.el (slotN s 4) 9).toI))),.c (.raw (.string ((d.el (slotN s 4) 10).toS))),.c (.rows 90 (cpE (d.el (slotN s 4) 11))),.c (.int .i64 (.sym ((d.el (slotN s 4) 12).toI))),.c (.int .i64 (.sym ((d.el (slotN s 4) 13).toI))),.c (.raw (.string ((d.el (slotN s 4) 14).toS))),.c (.rows 90 (cpE (d.el (slotN s 4) 15))),.c (.rows 95 (cpB (d.el (slotN s 4) 16))),.c (.rows 95 (cpB (d.el (slotN s 4) 17))),.c (.osl 135 (s.nx-1) (.lit 0) (.sym q))])),(s.nx-1,.orow 135 (cpTo q (arR (d.el (slotN s 4) 18))))] [3,5]} |_,_=>none,fun _=>none⟩) (fun _ _=>(cons_cons xcp_ok (cons_cons ccp_ok (cons_cons ih cons_nil)))) (by kernel_rfl) ?_
 intro ds fr
 unfold scpSu
 split
 ·rename_i d
  refine kmp (q:=withv (fun (i:Nat)=>d.el (↑i:Int).toNat 18) fun E239=>withv (fun (i:Nat) (i_1:Nat)=>D.l [[D.i (d.el i (0:Nat)).toI,D.s (d.el i (1:Nat)).toS,D.s (d.el i (2:Nat)).toS,D.i (d.el i (3:Nat)).toI,D.i (d.el i (4:Nat)).toI,D.s (d.el i (5:Nat)).toS,cpE (d.el i (6:Nat)),D.i (d.el i (7:Nat)).toI,D.i (d.el i (8:Nat)).toI,D.i (d.el i (9:Nat)).toI,D.s (d.el i (10:Nat)).toS,cpE (d.el i (11:Nat)),D.i (d.el i (12:Nat)).toI,D.i (d.el i (13:Nat)).toI,D.s (d.el i (14:Nat)).toS,cpE (d.el i (15:Nat)),cpB (d.el i (16:Nat)),cpB (d.el i (17:Nat)),(cpTo i_1 (arR (d.el i (18:Nat)))).sub 0 ((0:Nat)+i_1)]]) fun E240=>withv (fun (i:Nat)=>d.el (↑i:Int).toNat 17) fun E241=>withv (fun (i:Nat)=>d.el (↑i:Int).toNat 16) fun E242=>withv (fun (i:Nat)=>d.el (↑i:Int).toNat 15) fun E243=>withv (fun (i:Nat)=>d.el (↑i:Int).toNat 11) fun E244=>withv (fun (i:Nat) (i_1:Nat)=>D.l [[D.s ((E239 i).el (↑i_1:Int).toNat ((0:Nat)+(0:Nat))).toS,D.s ((E239 i).el (↑i_1:Int).toNat 1).toS,cpB ((E239 i).el (↑i_1:Int).toNat ((0:Nat)+(2:Nat)))]]) fun E245=>withv (fun (i:Nat)=>d.el (↑i:Int).toNat 14) fun E246=>withv (fun (i:Nat)=>d.el (↑i:Int).toNat 13) fun E247=>withv (fun (i:Nat)=>d.el (↑i:Int).toNat 12) fun E248=>withv (fun (i:Nat)=>d.el (↑i:Int).toNat 10) fun E249=>withv (fun (i:Nat)=>d.el (↑i:Int).toNat 6) fun E250=>withv (fun (i:Nat)=>d.el (↑i:Int).toNat 9) fun E251=>withv (fun (i:Nat)=>d.el (↑i:Int).toNat 8) fun E252=>withv (fun (i:Nat)=>d.el (↑i:Int).toNat 7) fun E253=>withv (fun (i:Nat)=>d.el (↑i:Int).toNat 5) fun E254=>withv (fun (i:Nat)=>d.el (↑i:Int).toNat 4) fun E255=>withv (fun (i:Nat)=>d.el (↑i:Int).toNat 3) fun E256=>withv (fun (i:Nat)=>d.el (↑i:Int).toNat 2) fun E257=>withv (fun (i:Nat)=>d.el (↑i:Int).toNat 1) fun E258=>withv (fun (i:Nat)=>d.el (↑i:Int).toNat (0:Nat)) fun E259=>SizeOf.sizeOf d<m+1->bS d->(∃ (i:Nat),i.le d.len/\(0:Int)=(↑i:Int)/\i=0/\d.rows=d.rows/\List.map (rSt d) (List.range i)=[])/\∀ (i:Nat),i.le d.len->(decide ((↑i:Int)<(↑d.len:Int))=true->((0:Int)<=(↑i:Int)/\(↑i:Int)<(↑d.len:Int))/\kS (E250 i)/\kS (E244 i)/\kS (E243 i)/\SizeOf.sizeOf (E242 i)<m/\bS (E242 i)/\SizeOf.sizeOf (E241 i)<m/\bS (E241 i)/\(∃ (i_1:Nat),(i_1<=(d.el i (18:Nat)).len/\True)/\(0:Int)=(↑i_1:Int)/\d.rows=d.rows/\i=i/\(↑i:Int)=(↑i:Int)/\(E259 i).toI=(d.el i (0:Nat)).toI/\Value.string (E258 i).toS=Value.string (d.el i (1:Nat)).toS/\Value.string (E257 i).toS=Value.string (d.el i (2:Nat)).toS/\(E256 i).toI=(d.el i (3:Nat)).toI/\(E255 i).toI=(d.el i (4:Nat)).toI/\Value.string (E254 i).toS=Value.string (d.el i (5:Nat)).toS/\(cpE (E250 i)).rows=(cpE (d.el i (6:Nat))).rows/\(E253 i).toI=(d.el i (7:Nat)).toI/\(E252 i).toI=(d.el i (8:Nat)).toI/\(E251 i).toI=(d.el i (9:Nat)).toI/\Value.string (E249 i).toS=Value.string (d.el i (10:Nat)).toS/\(cpE (E244 i)).rows=(cpE (d.el i (11:Nat))).rows/\(E248 i).toI=(d.el i (12:Nat)).toI/\(E247 i).toI=(d.el i (13:Nat)).toI/\Value.string (E246 i).toS=Value.string (d.el i (14:Nat)).toS/\(cpE (E243 i)).rows=(cpE (d.el i (15:Nat))).rows/\(cpB (E242 i)).rows=(cpB (d.el i (16:Nat))).rows/\(cpB (E241 i)).rows=(cpB (d.el i (17:Nat))).rows/\i_1=0/\List.map (arR (d.el i (18:Nat))) (List.range i_1)=[]/\List.map (rSt d) (List.range i)=List.map (rSt d) (List.range i)/\(E259 i).toI=(E259 i).toI/\Value.string (E258 i).toS=Value.string (E258 i).toS/\Value.string (E257 i).toS=Value.string (E257 i).toS/\(E256 i).toI=(E256 i).toI/\(E255 i).toI=(E255 i).toI/\Value.string (E254 i).toS=Value.string (E254 i).toS/\(E250 i).rows=(E250 i).rows/\(E253 i).toI=(E253 i).toI/\(E252 i).toI=(E252 i).toI/\(E251 i).toI=(E251 i).toI/\Value.string (E249 i).toS=Value.string (E249 i).toS/\(E244 i).rows=(E244 i).rows/\(E248 i).toI=(E248 i).toI/\(E247 i).toI=(E247 i).toI/\Value.string (E246 i).toS=Value.string (E246 i).toS/\(E243 i).rows=(E243 i).rows/\(E242 i).rows=(E242 i).rows/\(E241 i).rows=(E241 i).rows/\(E239 i).rows=(E239 i).rows)/\∀ (i_1:Nat),i_1<=(d.el i (18:Nat)).len/\True->(decide ((↑i_1:Int)<(↑(E239 i).len:Int))=true->((0:Int)<=(↑i_1:Int)/\(↑i_1:Int)<(↑(E239 i).len:Int))/\((0:Int)<=(↑i_1:Int)/\(↑i_1:Int)<(↑(E239 i).len:Int))/\((0:Int)<=(↑i_1:Int)/\(↑i_1:Int)<(↑(E239 i).len:Int))/\SizeOf.sizeOf ((E239 i).el (↑i_1:Int).toNat ((0:Nat)+(2:Nat)))<m/\bS ((E239 i).el (↑i_1:Int).toNat ((0:Nat)+(2:Nat)))/\i_1=(cpTo i_1 (arR (d.el i (18:Nat)))).len/\(i_1+((E245 i i_1).sub 0 1).len)*56<=140737488355328/\0+1<=(E245 i i_1).len/\∃ (j:Nat),(j<=(d.el i (18:Nat)).len/\True)/\3000001-j<3000001-i_1/\IntKind.i64.wrap ((↑i_1:Int)+1)=(↑j:Int)/\d.rows=d.rows/\i=i/\(↑i:Int)=(↑i:Int)/\(d.el i (0:Nat)).toI=(d.el i (0:Nat)).toI/\Value.string (d.el i (1:Nat)).toS=Value.string (d.el i (1:Nat)).toS/\Value.string (d.el i (2:Nat)).toS=Value.string (d.el i (2:Nat)).toS/\(d.el i (3:Nat)).toI=(d.el i (3:Nat)).toI/\(d.el i (4:Nat)).toI=(d.el i (4:Nat)).toI/\Value.string (d.el i (5:Nat)).toS=Value.string (d.el i (5:Nat)).toS/\(cpE (d.el i (6:Nat))).rows=(cpE (d.el i (6:Nat))).rows/\(d.el i (7:Nat)).toI=(d.el i (7:Nat)).toI/\(d.el i (8:Nat)).toI=(d.el i (8:Nat)).toI/\(d.el i (9:Nat)).toI=(d.el i (9:Nat)).toI/\Value.string (d.el i (10:Nat)).toS=Value.string (d.el i (10:Nat)).toS/\(cpE (d.el i (11:Nat))).rows=(cpE (d.el i (11:Nat))).rows/\(d.el i (12:Nat)).toI=(d.el i (12:Nat)).toI/\(d.el i (13:Nat)).toI=(d.el i (13:Nat)).toI/\Value.string (d.el i (14:Nat)).toS=Value.string (d.el i (14:Nat)).toS/\(cpE (d.el i (15:Nat))).rows=(cpE (d.el i (15:Nat))).rows/\(cpB (d.el i (16:Nat))).rows=(cpB (d.el i (16:Nat))).rows/\(cpB (d.el i (17:Nat))).rows=(cpB (d.el i (17:Nat))).rows/\i_1+((E245 i i_1).sub 0 1).len=j/\List.map (arR (d.el i (18:Nat))) (List.range i_1)++List.drop 0 (List.take 1 [[D.s ((E239 i).el (↑i_1:Int).toNat ((0:Nat)+(0:Nat))).toS,D.s ((E239 i).el (↑i_1:Int).toNat 1).toS,cpB ((E239 i).el (↑i_1:Int).toNat ((0:Nat)+(2:Nat)))]])=List.map (arR (d.el i (18:Nat))) (List.range j)/\List.map (rSt d) (List.range i)=List.map (rSt d) (List.range i)/\(E259 i).toI=(E259 i).toI/\Value.string (E258 i).toS=Value.string (E258 i).toS/\Value.string (E257 i).toS=Value.string (E257 i).toS/\(E256 i).toI=(E256 i).toI/\(E255 i).toI=(E255 i).toI/\Value.string (E254 i).toS=Value.string (E254 i).toS/\(E250 i).rows=(E250 i).rows/\(E253 i).toI=(E253 i).toI/\(E252 i).toI=(E252 i).toI/\(E251 i).toI=(E251 i).toI/\Value.string (E249 i).toS=Value.string (E249 i).toS/\(E244 i).rows=(E244 i).rows/\(E248 i).toI=(E248 i).toI/\(E247 i).toI=(E247 i).toI/\Value.string (E246 i).toS=Value.string (E246 i).toS/\(E243 i).rows=(E243 i).rows/\(E242 i).rows=(E242 i).rows/\(E241 i).rows=(E241 i).rows/\(E239 i).rows=(E239 i).rows)/\(decide ((↑i_1:Int)<(↑(E239 i).len:Int))=false->0+i_1<=(cpTo i_1 (arR (d.el i (18:Nat)))).len/\i=(cpTo i (rSt d)).len/\(i+((E240 i i_1).sub 0 1).len)*288<=140737488355328/\0+1<=(E240 i i_1).len/\∃ (j:Nat),j.le d.len/\d.len+1-j<d.len+1-i/\IntKind.i64.wrap ((↑i:Int)+1)=(↑j:Int)/\i+((E240 i i_1).sub 0 1).len=j/\d.rows=d.rows/\List.map (rSt d) (List.range i)++List.drop 0 (List.take 1 [[D.i (d.el i (0:Nat)).toI,D.s (d.el i (1:Nat)).toS,D.s (d.el i (2:Nat)).toS,D.i (d.el i (3:Nat)).toI,D.i (d.el i (4:Nat)).toI,D.s (d.el i (5:Nat)).toS,cpE (d.el i (6:Nat)),D.i (d.el i (7:Nat)).toI,D.i (d.el i (8:Nat)).toI,D.i (d.el i (9:Nat)).toI,D.s (d.el i (10:Nat)).toS,cpE (d.el i (11:Nat)),D.i (d.el i (12:Nat)).toI,D.i (d.el i (13:Nat)).toI,D.s (d.el i (14:Nat)).toS,cpE (d.el i (15:Nat)),cpB (d.el i (16:Nat)),cpB (d.el i (17:Nat)),(cpTo i_1 (arR (d.el i (18:Nat)))).sub 0 ((0:Nat)+i_1)]])=List.map (rSt d) (List.range j)))/\(decide ((↑i:Int)<(↑d.len:Int))=false->0+i<=(cpTo i (rSt d)).len/\List.drop 0 (List.take ((0:Nat)+i) (List.map (rSt d) (List.range i)))=(cpB d).rows)) (by kernel_rfl) ?_
  dsimp +instances only [withv]
  intro hm hs
  rw [bS_iff] at hs
  obtain ⟨hl,hk⟩:=hs
  refine ⟨⟨0,Nat.zero_le _,rfl,rfl,rfl,rfl⟩,fun i hi=>⟨fun hc=>?_,fun hc=>?_⟩⟩
  ·have hc:=of_decide_eq_true hc
   have hi2:i<d.len:=by omega
   have hw2:IntKind.i64.wrap ((i:Int)+1)=((i+1:Nat):Int):=by rw [IntWalk.i64_in _ (by omega)];omega
   obtain ⟨a1,a2,a3,b1,b2,am,ab⟩:=hk i hi2
   have z1:=lel_lt (j:=16) hi2
   have z2:=lel_lt (j:=17) hi2
   have z3:=lel_lt (j:=18) hi2
   refine ⟨⟨by omega,by omega⟩,a1,a2,a3,(show SizeOf.sizeOf (d.el i 16)<m by omega),b1,(show SizeOf.sizeOf (d.el i 17)<m by omega),b2,⟨0,⟨Nat.zero_le _,trivial⟩,?_⟩,fun q hq=>⟨fun hd=>?_,fun hd=>?_⟩⟩
   ·(repeat' apply And.intro)<;>rfl
   ·have hd:=of_decide_eq_true hd
    have hq2:q<(d.el i 18).len:=by have:(q:Int)<((d.el i 18).len:Int):=hd;omega
    have hwq:IntKind.i64.wrap ((q:Int)+1)=((q+1:Nat):Int):=by rw [IntWalk.i64_in _ (by omega)];omega
    have zq:=lel_lt (j:=2) hq2
    refine ⟨⟨by omega,hd⟩,⟨by omega,hd⟩,⟨by omega,hd⟩,(show SizeOf.sizeOf ((d.el i 18).el q 2)<m by omega),ab q hq2,(cpTo_len _ _).symm,(show (q+1)*56<=140737488355328 by omega),Nat.le_refl _,q+1,⟨hq2,trivial⟩,by omega,hwq,?_⟩
    (repeat' apply And.intro)<;>first |exact (cpTo_succ q (arR (d.el i 18))).symm |rfl
   ·have hd:=of_decide_eq_false hd
    have hq3:q=(d.el i 18).len:=by have:¬ (q:Int)<((d.el i 18).len:Int):=hd;have:=hq.1;omega
    subst hq3
    rw [cpTo_all]
    exact ⟨by rw [cpTo_len];omega,(cpTo_len _ _).symm,(show (i+1)*288<=140737488355328 by omega),Nat.le_refl _,i+1,hi2,by omega,hw2,rfl,rfl,(cpTo_succ i (rSt d)).symm⟩
  ·have hc:=of_decide_eq_false hc
   have hi3:i=d.len:=by have:i<=d.len:=hi;omega
   subst hi3
   refine ⟨by rw [cpTo_len];omega,?_⟩
   rw [cpB_eq,Nat.zero_add,List.drop_zero,List.take_of_length_le (by simp)];rfl
 ·trivial
theorem scp_ok:ConOK Try.prog 29 scpC:=
 con_rec scpM (fun _ _=>by kernel_rfl) fun m ih=>by
  rw [scp_under] at ih ⊢
  exact scp_step m ih
end Go.Proofs.Ytbhbjhejkamlnaa.Sx.Z
