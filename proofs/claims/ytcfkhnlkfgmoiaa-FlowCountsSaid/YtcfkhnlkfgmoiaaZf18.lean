import Derived.Test.YtcfkhnlkfgmoiaaZf17
import Derived.Deep.CutBlock
import Derived.Deep.CutRange
set_option linter.unusedVariables false
set_option linter.unusedSimpArgs false
namespace Go.Proofs.Ytcfkhnlkfgmoiaa
open Go.RowKit
def BuildOut (w:World) (S:Ls) (v:Int) (e:Ending) (w':World):Prop:=
 ∃ (E H:Option Addr) (ce ch G cg V cv:Nat),e = .returned (.tuple #[.agg #[.slice none 0 0,.slice (some ⟨G,0,none⟩) 1 cg,.slice (some ⟨V,0,none⟩) 1 cv],.int .i64 0]) /\
   w'.ownsRow w.heap.size 80 19 (.slice E S.ne ce) S.ne S.es/\w'.ownsRow w.heap.size 3 1 (.slice H S.nh ch) S.nh S.hs /\
   w'.ownsRow w.heap.size 60 3 (.slice (some ⟨G,0,none⟩) 1 cg) 1 [.int .i64 S.N,.slice E S.ne ce,.slice H S.nh ch] /\
   w'.ownsRow w.heap.size 3 1 (.slice (some ⟨V,0,none⟩) 1 cv) 1 [.int .i64 v]/\Below w.heap.size w w'
theorem info_graph:(Try.prog.info? 60).map (fun i=>(i.zero,i.size,i.bytes))=some (some (.agg #[.int .i64 0,.slice none 0 0,.slice none 0 0]),3,56):=by kernel_rfl
theorem info_int:(Try.prog.info? 3).map (fun i=>(i.zero,i.size,i.bytes))=some (some (.int .i64 0),1,8):=by kernel_rfl
set_option maxRecDepth 100000 in
set_option maxHeartbeats 4000000 in
theorem build_one (v:Int) (h:Nat) (cp:Nat) (D:Option Addr) (k cap:Nat) (L:Nat->List Value) (w:World) (hv0:0<=v) (hv6:v<=6) (hk:k<=1000) (hk0:0<k) (hkc:k<=cap) (hcp:1<=cp)
 (hh:h<w.heap.size) (hp:w.rangeAt h 0 [.int .i64 v,.slice D k cap]) (hm:ElemsAt w w.heap.size D k 20 L) (hs:∀ i,i<k->StOk w none 0 0 0 v (L i))
 (f:Nat->Int->Int->Ls->Ls) (hs':∀ i,i<k->∀ W base,Below w.heap.size w W->w.heap.size<=base->StLay W base (L i) (f i)) (hf:∀ i a b s,s.N<=(f i a b s).N/\(f i a b s).N<=s.N+1000)
 (S:Ls) (hS:bodyF f 1 k 0 0 ls0=S) (hfew:S.ne<=400) (hnh:S.nh<=1) :
 Calls Try.prog 5 #[.agg #[.slice none 0 0,.slice (some ⟨h,0,none⟩) 1 cp]] w fun e w'=>BuildOut w S v e w':=by
 obtain ⟨ig,hig,gz0,gz1,gz2⟩:=info_parts info_graph;obtain ⟨ii,hii,iz0,iz1,iz2⟩:=info_parts info_int
 replace hig:=Lib.hid hig
 replace hii:=Lib.hid hii
 replace hm:=Lib.hid hm
 replace hs:=Lib.hid hs
 replace hs':=Lib.hid hs'
 replace hp:=Lib.hid hp
 replace hf:=Lib.hid hf
 replace hS:=Lib.hid hS
 go_enter Try.func5,Try.ntmps5
 go_upto_region 1 with fail
 refine wp_world (fun W=>W.heap[w.heap.size]? = some (.cells #[.slice none 0 0,.slice (some ⟨h,0,none⟩) 1 cp] 36 (0,0))/\W.heap[w.heap.size+1]? = some (.cells #[.slice none 0 0,.slice none 0 0,.slice none 0 0] 30 (0,0))/\Below w.heap.size w W/\W.heap.size=w.heap.size+2) ⟨blkUp (blkA _ _ rfl) _,blkA _ _ (by simp),((Below.refl _ _).alloc (Nat.le_refl _) _).alloc (by simp) _,by simp⟩ ?_
 rintro w0 ⟨k0,k1,hB0,hs0⟩;have r0:=row_of k0
 replace k0:=Lib.hid k0
 replace k1:=Lib.hid k1
 go_wp2_with fail
 refine (right_one v h cp D k cap L w0 hv0 hv6 (by omega) hkc hcp (by omega) (range_keep hB0 hh hp.out) (hm.out.below hB0 hB0.size) (fun i hi W hW=>hs.out i hi W (hB0.trans (hW.mono hB0.size)))).mono ?_
 rintro e w1 ⟨rfl,hb1⟩;have q0:=Lib.hid (blk_keep hb1 k0.out);have q1:=Lib.hid (blk_keep hb1 k1.out);have hB1:Below w.heap.size w w1:=hB0.trans (hb1.mono hB0.size);have hz1:w.heap.size+2<=w1.heap.size:=by have:=hb1.size;omega
 clear k0 k1 hb1 hB0 hs0 r0;have r0:=row_of q0.out;have hlt0:w.heap.size<w1.heap.size:=by omega
 go_wp2_with fail
 refine wp_loop_rounds 1 ?_
 rw [rounds_succ]
 go_wp2_with fail
 refine wp_loop_rounds 2 ?_
 rw [rounds_succ]
 go_upto_region 12 with (refine ld_mid 57 _ rfl _ _ rfl [.int .i64 v,.slice D k cap] _ (range_keep ((Below.refl _ _).alloc (Nat.le_refl _) _) (by omega) (range_keep hB1 hh hp.out)) Try.underlying57 rfl (by kernel_rfl) rfl ?_)
 refine wp_world (fun W=>W.heap[w.heap.size+1]? = some (.cells #[.slice none 0 0,.slice none 0 0,.slice none 0 0] 30 (0,0))/\W.heap[w1.heap.size]? = some (.cells #[.slice none 0 0,.slice none 0 0,.slice none 0 0] 30 (0,0))/\W.heap[w1.heap.size+1]? = some (.cells #[.int .i64 v,.slice D k cap] 57 (0,0))/\Below w.heap.size w W/\W.heap.size=w1.heap.size+2) ⟨blkUp (blkUp q1.out _) _,blkUp (blkA _ _ rfl) _,blkA _ _ (by simp),(hB1.alloc hB1.size _).alloc (by simp;omega) _,by simp⟩ ?_
 rintro w2 ⟨m1,ms,mp,hB2,hs2⟩;have rp:=row_of mp
 replace m1:=Lib.hid m1
 replace ms:=Lib.hid ms
 replace mp:=Lib.hid mp
 clear q0 q1 r0
 go_wp2_with fail
 refine (lay_ok w2 D k cap L f hk hk0 hkc (hm.out.below hB2 hB2.size) (fun i hi W base hW hb=>hs'.out i hi W base (hB2.trans (hW.mono hB2.size)) (Nat.le_trans hB2.size hb)) hf.out S hS.out hfew hnh).mono ?_
 rintro e w3 ⟨E,H,ce,ch,rfl,hE,hH,hb3⟩;rw [hs2] at hE hH
 replace hE:=Lib.hid hE
 replace hH:=Lib.hid hH
 replace m1:=Lib.hid (blk_keep hb3 m1.out)
 replace ms:=Lib.hid (blk_keep hb3 ms.out)
 replace mp:=Lib.hid (blk_keep hb3 mp.out)
 have hB3:Below w.heap.size w w3:=hB2.trans (hb3.mono hB2.size);have hz3:w1.heap.size+2<=w3.heap.size:=by have:=hb3.size;omega
 clear hb3 hB2 hs2 rp
 go_upto_region 15 with fail
 refine wp_world (fun W=>W.heap[w.heap.size+1]? = some (.cells #[.slice none 0 0,.slice none 0 0,.slice none 0 0] 30 (0,0))/\W.heap[w1.heap.size]? = some (.cells #[.slice none 0 0,.slice none 0 0,.slice none 0 0] 30 (0,0))/\W.heap[w1.heap.size+1]? = some (.cells #[.int .i64 v,.slice D k cap] 57 (0,0))/\W.heap[w3.heap.size]? = some (.cells #[.int .i64 S.N,.slice E S.ne ce,.slice H S.nh ch] 60 (0,0)) /\
  W.ownsRow (w1.heap.size+2) 80 19 (.slice E S.ne ce) S.ne S.es/\W.ownsRow (w1.heap.size+2) 3 1 (.slice H S.nh ch) S.nh S.hs/\Below w.heap.size w W/\W.heap.size=w3.heap.size+1) ⟨blkUp m1.out _,blkUp ms.out _,blkUp mp.out _,blkA _ _ rfl,hE.out.alloc _,hH.out.alloc _,hB3.alloc hB3.size _,by simp⟩ ?_
 rintro w4 ⟨n1,ns,np,ng,hE4,hH4,hB4,hs4⟩;have rs:=row_of ns;have rg:=row_of ng;have fs1:=frozen_of ns 1
 replace n1:=Lib.hid n1
 replace ns:=Lib.hid ns
 replace np:=Lib.hid np
 replace ng:=Lib.hid ng
 replace hE4:=Lib.hid hE4
 replace hH4:=Lib.hid hH4
 clear hE hH m1 ms mp hB3
 go_upto_region 16 with (refine wpList_append_lies _ rfl _ _ _ rfl (w1.heap.size+2) 60 ig _ 3 56 Try.underlying27 hig.out gz0 gz1 gz2 rfl (by omega) (.slice none 0 0) 0 [] rfl (World.ownsRow_nil _ _ _ _) ⟨w3.heap.size+1,0,none⟩ 1 1 [.int .i64 S.N,.slice E S.ne ce,.slice H S.nh ch] rfl rfl (World.news_of_block (cs:=#[.int .i64 S.N,.slice E S.ne ce,.slice H S.nh ch]) (t:=60) (fr:=(0,0)) (blkA _ _ hs4)) (by simp [Value.oneCell']) (by omega) (by decide) (by decide) (by simp;omega) (w3.heap.size+2) (by simp [hs4]) ?_)
 intro G cg w5 hG hgr5 _ hlt5;have e1:=grown_blk hgr5 (blkUp n1.out _) (by simp [Value.ownBlock]);have es:=grown_blk hgr5 (blkUp ns.out _) (by simp [Value.ownBlock]);have ep:=grown_blk hgr5 (blkUp np.out _) (by simp [Value.ownBlock]);have hE5:=Lib.hid ((hE4.out.alloc _).kept hgr5 (by cases E<;>simp [Value.ownBlock]));have hH5:=Lib.hid ((hH4.out.alloc _).kept hgr5 (by cases H<;>simp [Value.ownBlock]));have hB5:Below w.heap.size w w5:=below_grown hgr5 (hB4.alloc hB4.size _) (Nat.le_refl _) (fun b hb=>by simp [Value.ownBlock] at hb);have hz5:w3.heap.size+2<=w5.heap.size:=by have:=hgr5.size;simp at this;omega
 have rs5:=row_of es;have fs5:=frozen_of es 1
 replace hG:=Lib.hid hG
 replace e1:=Lib.hid e1
 replace es:=Lib.hid es
 replace ep:=Lib.hid ep
 clear hgr5 n1 ns np ng hE4 hH4 hB4 hs4 rs rg fs1
 go_upto_region 16 with fail
 have hset1:(w5.setCell ⟨w1.heap.size,1,none⟩ (.slice (some ⟨G,0,none⟩) 1 cg)).heap[w1.heap.size]? = some (.cells #[.slice none 0 0,.slice (some ⟨G,0,none⟩) 1 cg,.slice none 0 0] 30 (0,0)):=by simp [World.setCell,Array.getElem?_modify,es.out]
 refine wp_world (fun W=>W.heap[w.heap.size+1]? = some (.cells #[.slice none 0 0,.slice none 0 0,.slice none 0 0] 30 (0,0))/\W.heap[w1.heap.size]? = some (.cells #[.slice none 0 0,.slice (some ⟨G,0,none⟩) 1 cg,.slice none 0 0] 30 (0,0))/\W.heap[w1.heap.size+1]? = some (.cells #[.int .i64 v,.slice D k cap] 57 (0,0)) /\
  W.ownsRow (w1.heap.size+2) 80 19 (.slice E S.ne ce) S.ne S.es/\W.ownsRow (w1.heap.size+2) 3 1 (.slice H S.nh ch) S.nh S.hs/\W.ownsRow (w1.heap.size+2) 60 3 (.slice (some ⟨G,0,none⟩) 1 cg) 1 [.int .i64 S.N,.slice E S.ne ce,.slice H S.nh ch]/\Below w.heap.size w W/\W.heap.size=w5.heap.size)
  ⟨blk_set e1.out (by omega),hset1,blk_set ep.out (by omega),own_set hE5.out (by omega),own_set hH5.out (by omega),own_set hG.out (by omega),hB5.setCell hB1.size _,by simp⟩ ?_
 rintro w6 ⟨n1,ns,np,hE6,hH6,hG6,hB6,hs6⟩;have rs:=row_of ns;have rp:=row_of np;have fs2:=frozen_of ns 2
 replace n1:=Lib.hid n1
 replace ns:=Lib.hid ns
 replace np:=Lib.hid np
 replace hE6:=Lib.hid hE6
 replace hH6:=Lib.hid hH6
 replace hG6:=Lib.hid hG6
 clear hE5 hH5 hG hB5 e1 es ep rs5 fs5 hset1
 go_upto_region 17 with (refine wpList_append_lies _ rfl _ _ _ rfl (w1.heap.size+2) 3 ii _ 1 8 Try.underlying28 hii.out iz0 iz1 iz2 rfl (by omega) (.slice none 0 0) 0 [] rfl (World.ownsRow_nil _ _ _ _) ⟨w5.heap.size,0,none⟩ 1 1 [.int .i64 v] rfl rfl (World.news_of_block (cs:=#[.int .i64 v]) (t:=3) (fr:=(0,0)) (blkA _ _ hs6)) (by simp [Value.oneCell']) (by omega) (by decide) (by decide) (by simp;omega) (w5.heap.size+1) (by simp [hs6]) ?_)
 intro V cv w7 hV hgr7 _ hlt7;have e1:=grown_blk hgr7 (blkUp n1.out _) (by simp [Value.ownBlock]);have es:=grown_blk hgr7 (blkUp ns.out _) (by simp [Value.ownBlock]);have hE7:=Lib.hid ((hE6.out.alloc _).kept hgr7 (by cases E<;>simp [Value.ownBlock]));have hH7:=Lib.hid ((hH6.out.alloc _).kept hgr7 (by cases H<;>simp [Value.ownBlock]));have hG7:=Lib.hid ((hG6.out.alloc _).kept hgr7 (by simp [Value.ownBlock]));have hB7:Below w.heap.size w w7:=below_grown hgr7 (hB6.alloc hB6.size _) (Nat.le_refl _) (fun b hb=>by simp [Value.ownBlock] at hb);have hz7:w3.heap.size+2<=w7.heap.size:=by have:=hgr7.size;simp at this;omega
 have rs7:=row_of es;have fs7:=frozen_of es 2
 replace hV:=Lib.hid hV
 replace e1:=Lib.hid e1
 replace es:=Lib.hid es
 clear hgr7 n1 ns np hE6 hH6 hG6 hB6 hs6 rs rp fs2
 go_upto_region 17 with fail
 have hset2:(w7.setCell ⟨w1.heap.size,2,none⟩ (.slice (some ⟨V,0,none⟩) 1 cv)).heap[w1.heap.size]? = some (.cells #[.slice none 0 0,.slice (some ⟨G,0,none⟩) 1 cg,.slice (some ⟨V,0,none⟩) 1 cv] 30 (0,0)):=by simp [World.setCell,Array.getElem?_modify,es.out]
 refine wp_world (fun W=>W.heap[w.heap.size+1]? = some (.cells #[.slice none 0 0,.slice none 0 0,.slice none 0 0] 30 (0,0))/\W.heap[w1.heap.size]? = some (.cells #[.slice none 0 0,.slice (some ⟨G,0,none⟩) 1 cg,.slice (some ⟨V,0,none⟩) 1 cv] 30 (0,0)) /\
  W.ownsRow (w1.heap.size+2) 80 19 (.slice E S.ne ce) S.ne S.es/\W.ownsRow (w1.heap.size+2) 3 1 (.slice H S.nh ch) S.nh S.hs/\W.ownsRow (w1.heap.size+2) 60 3 (.slice (some ⟨G,0,none⟩) 1 cg) 1 [.int .i64 S.N,.slice E S.ne ce,.slice H S.nh ch]/\W.ownsRow (w1.heap.size+2) 3 1 (.slice (some ⟨V,0,none⟩) 1 cv) 1 [.int .i64 v]/\Below w.heap.size w W)
  ⟨blk_set e1.out (by omega),hset2,own_set hE7.out (by omega),own_set hH7.out (by omega),own_set hG7.out (by omega),own_set hV.out (by omega),hB7.setCell hB1.size _⟩ ?_
 rintro w8 ⟨n1,ns,hE8,hH8,hG8,hV8,hB8⟩;have rs:=row_of ns;have r1:=row_of n1;have f0:=frozen_of n1 0;have f1:=frozen_of n1 1;have f2:=frozen_of n1 2
 replace hE8:=Lib.hid hE8
 replace hH8:=Lib.hid hH8
 replace hG8:=Lib.hid hG8
 replace hV8:=Lib.hid hV8
 clear hE7 hH7 hG7 hV hB7 e1 es rs7 fs7 hset2 n1 ns
 go_wp2_with fail
 rw [rounds_succ]
 go_wp2_with fail
 have hx:w.heap.size+1<w1.heap.size+2:=by omega
 have hb0:w.heap.size<=w1.heap.size+2:=by omega
 exact bodyPost_ret (v:=.tuple #[.agg #[.slice none 0 0,.slice (some ⟨G,0,none⟩) 1 cg,.slice (some ⟨V,0,none⟩) 1 cv],.int .i64 0]) (by simp [results,Try.results5,go_sem,r1]) rfl ⟨E,H,ce,ch,G,cg,V,cv,rfl,
  own_base (own_set (own_set (own_set hE8.out (o:=0) (x:=.slice none 0 0) hx) (o:=1) (x:=.slice (some ⟨G,0,none⟩) 1 cg) hx) (o:=2) (x:=.slice (some ⟨V,0,none⟩) 1 cv) hx) hb0,
  own_base (own_set (own_set (own_set hH8.out (o:=0) (x:=.slice none 0 0) hx) (o:=1) (x:=.slice (some ⟨G,0,none⟩) 1 cg) hx) (o:=2) (x:=.slice (some ⟨V,0,none⟩) 1 cv) hx) hb0,
  own_base (own_set (own_set (own_set hG8.out (o:=0) (x:=.slice none 0 0) hx) (o:=1) (x:=.slice (some ⟨G,0,none⟩) 1 cg) hx) (o:=2) (x:=.slice (some ⟨V,0,none⟩) 1 cv) hx) hb0,
  own_base (own_set (own_set (own_set hV8.out (o:=0) (x:=.slice none 0 0) hx) (o:=1) (x:=.slice (some ⟨G,0,none⟩) 1 cg) hx) (o:=2) (x:=.slice (some ⟨V,0,none⟩) 1 cv) hx) hb0,
  ((hB8.setCell (Nat.le_succ _) _).setCell (Nat.le_succ _) _).setCell (Nat.le_succ _) _⟩
end Go.Proofs.Ytcfkhnlkfgmoiaa
namespace Go.Proofs.Ytcfkhnlkfgmoiaa
open Go.RowKit
theorem mk2_int (W:World):(Instr.makeSlice 28 (.int .i64 2) (.int .i64 2)).run Try.prog W = .ok (.slice (some ⟨W.heap.size,0,none⟩) 2 2) (W.alloc (.cells #[.int .i64 0,.int .i64 0] 3)):=by
 obtain ⟨ii,hii,iz0,iz1,iz2⟩:=info_parts info_int;have h:=run_make (P:=Try.prog) W 28 3 ii (.int .i64 0) Try.underlying28 hii iz0 .i64 .i64 2 2 (by decide) (by decide) (by rw [iz2];decide) (by decide);rw [iz1,show madeCells (Value.int .i64 0).cells (Int.toNat 2*1)=#[.int .i64 0,.int .i64 0] from by kernel_rfl] at h;exact h
theorem info_edges:(Try.prog.info? 58).map (fun i=>(i.zero,i.size,i.bytes))=some (some (.slice none 0 0),1,24):=by kernel_rfl
theorem mk2_edges (W:World):(Instr.makeSlice 122 (.int .i64 2) (.int .i64 2)).run Try.prog W = .ok (.slice (some ⟨W.heap.size,0,none⟩) 2 2) (W.alloc (.cells #[.slice none 0 0,.slice none 0 0] 58)):=by
 obtain ⟨ii,hii,iz0,iz1,iz2⟩:=info_parts info_edges;have h:=run_make (P:=Try.prog) W 122 58 ii (.slice none 0 0) Try.underlying122 hii iz0 .i64 .i64 2 2 (by decide) (by decide) (by rw [iz2];decide) (by decide);rw [iz1,show madeCells (Value.slice none 0 0).cells (Int.toNat 2*1)=#[.slice none 0 0,.slice none 0 0] from by kernel_rfl] at h;exact h
set_option maxRecDepth 100000 in
set_option maxHeartbeats 4000000 in
theorem loops_one {HH:Option Addr} {hc:Nat} (x0 l x ce cl cx:Nat) (w:World) (_hce:1<=ce) (_hcl:2<=cl) (_hcx:1<=cx) (h0:x0<w.heap.size) (hl:l<w.heap.size) (hx:x<w.heap.size) (he:w.rangeAt x0 0 [.int .i64 0,.int .i64 1,.int .i64 1,.int .i64 0,.int .i64 0,.int .i64 0,.int .i64 1,.int .i64 3,.int .i64 0,.slice none 0 0,.int .i64 0,.int .i64 0,.int .i64 0,.int .i64 0,.slice none 0 0,.int .i64 0,.int .i64 0,.int .i64 0,.slice none 0 0]) (hxr:w.rangeAt x 0 [.int .i64 0,.int .i64 1,.int .i64 1,.int .i64 0,.int .i64 0,.int .i64 0,.int .i64 1,.int .i64 3,.int .i64 0,.slice none 0 0,.int .i64 0,.int .i64 0,.int .i64 0,.int .i64 0,.slice none 0 0,.int .i64 0,.int .i64 0,.int .i64 0,.slice none 0 0])
 (c0:w.cell? ⟨l,0,none⟩=some (.slice (some ⟨x,0,none⟩) 1 cx)) (c1:w.cell? ⟨l,1,none⟩=some (.slice none 0 0)) :
 Calls Try.prog 44 #[.agg #[.int .i64 2,.slice (some ⟨x0,0,none⟩) 1 ce,.slice HH 0 hc],.slice (some ⟨l,0,none⟩) 2 cl] w fun e w'=>e = .returned (.bool true)/\Below w.heap.size w w':=by
 replace he:=Lib.hid he
 replace hxr:=Lib.hid hxr
 obtain ⟨ii,hii,iz0,iz1,iz2⟩:=info_parts info_int
 replace hii:=Lib.hid hii
 go_enter Try.func44,Try.ntmps44
 have hmk:=mk2_int
 go_upto_region 3 with fail
 clear hmk;refine wp_world (fun W=>W.heap[w.heap.size]? = some (.cells #[.int .i64 2,.slice (some ⟨x0,0,none⟩) 1 ce,.slice HH 0 hc] 60 (0,0))/\W.heap[w.heap.size+1]? = some (.cells #[.int .i64 0,.int .i64 0] 3 (0,0))/\Below w.heap.size w W/\W.heap.size=w.heap.size+2) ⟨blkUp (blkA _ _ rfl) _,blkA _ _ (by simp),((Below.refl _ _).alloc (Nat.le_refl _) _).alloc (by simp) _,by simp⟩ ?_
 rintro w0 ⟨k0,k1,hB0,hs0⟩;have r0:=row_of k0;have r1:=row_of k1;have fr1:=frozen_of k1 1;have hlt0:w.heap.size+1<w0.heap.size:=by omega
 have he0:=Lib.hid (range_keep hB0 h0 he.out);have hd0:=Lib.hid (hB0)
 replace k0:=Lib.hid k0
 replace k1:=Lib.hid k1
 refine wp_loop_rounds 2 ?_
 rw [rounds_succ]
 go_wp2_with (first |(refine ld_mid 80 _ rfl _ _ rfl [.int .i64 0,.int .i64 1,.int .i64 1,.int .i64 0,.int .i64 0,.int .i64 0,.int .i64 1,.int .i64 3,.int .i64 0,.slice none 0 0,.int .i64 0,.int .i64 0,.int .i64 0,.int .i64 0,.slice none 0 0,.int .i64 0,.int .i64 0,.int .i64 0,.slice none 0 0] _ he0.out Try.underlying80 rfl info_edge rfl ?_) |(refine wpList_store_new rfl 80 _ _ rfl rfl _ _ _ _ rfl (by first |assumption |rfl |(simp;done) |(simp;omega)) rfl rfl info_edge rfl (by kernel_rfl) ?_))
 rw [rounds_succ]
 go_upto_region 9 with fail
 have hset1:(w0.setCell ⟨w.heap.size+1,1,none⟩ (.int .i64 1)).heap[w.heap.size+1]? = some (.cells #[.int .i64 0,.int .i64 1] 3 (0,0)):=by simp [World.setCell,Array.getElem?_modify,k1.out]
 refine wp_world (fun W=>W.heap[w.heap.size]? = some (.cells #[.int .i64 2,.slice (some ⟨x0,0,none⟩) 1 ce,.slice HH 0 hc] 60 (0,0))/\W.heap[w.heap.size+1]? = some (.cells #[.int .i64 0,.int .i64 1] 3 (0,0))/\Below w.heap.size w W) ⟨blkUp (blk_set k0.out (by omega)) _,blkUp hset1 _,(hB0.setCell (Nat.le_succ _) _).alloc (by simp;omega) _⟩ ?_
 rintro w1 ⟨q0,q1,hB1⟩;clear r0 r1 fr1 he0 hd0 k0 k1 hset1 hlt0 hs0 hB0;have r0:=row_of q0;have r1:=row_of q1;have fr1:=frozen_of q1 1;have hlt1:=blk_lt q1;have hz1:=hB1.size
 replace q0:=Lib.hid q0
 replace q1:=Lib.hid q1
 refine wp_loop_rounds 3 ?_
 rw [rounds_succ]
 go_wp2_with (refine wpList_append_lies _ rfl _ _ _ rfl w1.heap.size 3 ii _ 1 8 Try.underlying28 hii.out iz0 iz1 iz2 rfl (by omega) (.slice none 0 0) 0 [] rfl (World.ownsRow_nil _ _ _ _) ⟨w1.heap.size,0,none⟩ 1 1 [.int .i64 0] rfl rfl (World.news_of_block (cs:=#[.int .i64 0]) (t:=3) (fr:=(0,0)) (blkA _ _ rfl)) (by simp [Value.oneCell']) (by omega) (by decide) (by decide) (by simp) (w1.heap.size+1) (by simp) ?_)
 intro T ct w2 hT hgr2 _ hlt2;have m0:=grown_blk hgr2 (blkUp q0.out _) (by simp [Value.ownBlock]);have m1:=grown_blk hgr2 (blkUp q1.out _) (by simp [Value.ownBlock]);have hB2:Below w.heap.size w w2:=below_grown hgr2 (hB1.alloc hB1.size _) (Nat.le_refl _) (fun b hb=>by simp [Value.ownBlock] at hb);clear hgr2 q0 q1 r0 r1 fr1 hB1;have r0:=row_of m0;have r1:=row_of m1
 replace m0:=Lib.hid m0
 replace m1:=Lib.hid m1
 replace hT:=Lib.hid hT
 go_wp2_with fail
 rw [rounds_succ]
 go_wp2_with fail
 refine (head_no 2 1 (some ⟨x0,0,none⟩) 1 ce _).mono ?_
 rintro e w3 ⟨rfl,hb3⟩;have p0:=blk_keep hb3 m0.out;have p1:=blk_keep hb3 m1.out;have hT3:=hT.out.kept (row:=none) ⟨hb3.os,hb3.tape,hb3.output,hb3.size,fun k hk _=>hb3.block k hk⟩ (by simp [Value.ownBlock]);have hB3:Below w.heap.size w w3:=hB2.trans (hb3.mono hB2.size);have ct0:w3.cell? ⟨T,0,none⟩=some (.int .i64 0):=hT3.cells rfl 0 _ rfl;clear hb3 m0 m1 r0 r1 hT hB2;have r0:=row_of p0;have r1:=row_of p1;have fr1:=frozen_of p1 1;have hxr3:=Lib.hid (range_keep hB3 hx hxr.out);have d0:=(hB3.cell (p:=⟨l,0,none⟩) hl).trans c0;have d1:=(hB3.cell (p:=⟨l,1,none⟩) hl).trans c1;have hTlt:=hT3.lt T rfl;have hlt3:=blk_lt p1
 replace p0:=Lib.hid p0
 replace p1:=Lib.hid p1
 replace hT3:=Lib.hid hT3
 go_wp2_with fail
 rw [rounds_succ]
 go_wp2_with fail
 refine wp_loop_rounds 3 ?_
 rw [rounds_succ]
 go_wp2_with fail
 refine wp_loop_rounds 2 ?_
 rw [rounds_succ]
 go_upto_region 21 with (first |(refine ld_mid 80 _ rfl _ _ rfl [.int .i64 0,.int .i64 1,.int .i64 1,.int .i64 0,.int .i64 0,.int .i64 0,.int .i64 1,.int .i64 3,.int .i64 0,.slice none 0 0,.int .i64 0,.int .i64 0,.int .i64 0,.int .i64 0,.slice none 0 0,.int .i64 0,.int .i64 0,.int .i64 0,.slice none 0 0] _ hxr3.out Try.underlying80 rfl info_edge rfl ?_) |(refine wpList_store_new rfl 80 _ _ rfl rfl _ _ _ _ rfl (by first |assumption |rfl |(simp;done) |(simp;omega)) rfl rfl info_edge rfl (by kernel_rfl) ?_))
 have hset2:(w3.setCell ⟨w.heap.size+1,1,none⟩ (.int .i64 0)).heap[w.heap.size+1]? = some (.cells #[.int .i64 0,.int .i64 0] 3 (0,0)):=by simp [World.setCell,Array.getElem?_modify,p1.out]
 refine wp_world (fun W=>W.heap[w.heap.size]? = some (.cells #[.int .i64 2,.slice (some ⟨x0,0,none⟩) 1 ce,.slice HH 0 hc] 60 (0,0))/\W.heap[w.heap.size+1]? = some (.cells #[.int .i64 0,.int .i64 0] 3 (0,0))/\W.heap[w3.heap.size]? = some (.cells #[.int .i64 0,.int .i64 1,.int .i64 1,.int .i64 0,.int .i64 0,.int .i64 0,.int .i64 1,.int .i64 3,.int .i64 0,.slice none 0 0,.int .i64 0,.int .i64 0,.int .i64 0,.int .i64 0,.slice none 0 0,.int .i64 0,.int .i64 0,.int .i64 0,.slice none 0 0] 80 (0,0))/\W.ownsRow w1.heap.size 3 1 (.slice (some ⟨T,0,none⟩) 1 ct) 1 [.int .i64 0]/\Below w.heap.size w W/\W.heap.size=w3.heap.size+1)
  ⟨blkUp (blk_set p0.out (by omega)) _,blkUp hset2 _,blkA _ _ (by simp),(own_set hT3.out (by omega)).alloc _,(hB3.setCell (Nat.le_succ _) _).alloc (by simp;omega) _,by simp⟩ ?_
 rintro w4 ⟨q0,q1,q2,hT4,hB4,hs4⟩;clear r0 r1 fr1 d0 d1 ct0 p0 p1 hT3 hset2 hB3;have r0:=row_of q0;have r1:=row_of q1;have r2:=row_of q2 1
 replace q0:=Lib.hid q0
 replace q1:=Lib.hid q1
 clear q2
 replace hT4:=Lib.hid hT4
 have hz4:w1.heap.size<=w4.heap.size:=by omega
 go_wp2_with fail
 refine (head_no 2 1 (some ⟨x0,0,none⟩) 1 ce _).mono ?_
 rintro e w5 ⟨rfl,hb5⟩;have p0:=blk_keep hb5 q0.out;have hT5:=hT4.out.kept (row:=none) ⟨hb5.os,hb5.tape,hb5.output,hb5.size,fun k hk _=>hb5.block k hk⟩ (by simp [Value.ownBlock]);have hB5:Below w.heap.size w w5:=hB4.trans (hb5.mono hB4.size);have hz5:w1.heap.size<=w5.heap.size:=Nat.le_trans hz4 hb5.size
 replace p0:=Lib.hid p0
 replace hT5:=Lib.hid hT5
 have er2:w5.cell? ⟨w3.heap.size,1,none⟩=some (.int .i64 1):=(hb5.cell (p:=⟨w3.heap.size,1,none⟩) (by rw [hs4];exact Nat.lt_succ_self _)).trans r2;have hlt5:w3.heap.size<w5.heap.size:=Nat.lt_of_lt_of_le (by rw [hs4];exact Nat.lt_succ_self _) hb5.size;clear hb5 q0 q1 r0 r1 r2 hT4 hB4 hs4
 go_upto_region 23 with (refine wpList_append_lies _ rfl _ _ _ rfl w1.heap.size 3 ii _ 1 8 Try.underlying28 hii.out iz0 iz1 iz2 rfl (by omega) (.slice (some ⟨T,0,none⟩) 1 ct) 1 [.int .i64 0] rfl (hT5.out.alloc _) ⟨w5.heap.size,0,none⟩ 1 1 [.int .i64 1] rfl rfl (World.news_of_block (cs:=#[.int .i64 1]) (t:=3) (fr:=(0,0)) (blkA _ _ rfl)) (by simp [Value.oneCell']) (by omega) (by decide) (by decide) (by simp;omega) (w5.heap.size+1) (by simp) ?_)
 intro T2 c2 w6 hT6 hgr6 _ hlt6;have m0:=grown_blk hgr6 (blkUp p0.out _) (by simp [Value.ownBlock];omega);have hB6:Below w.heap.size w w6:=below_grown hgr6 (hB5.alloc hB5.size _) (Nat.le_refl _) (fun b hb=>by simp [Value.ownBlock] at hb;omega);have ct1:w6.cell? ⟨T2,1,none⟩=some (.int .i64 1):=hT6.cells rfl 1 _ rfl;have d1:=(hB6.cell (p:=⟨l,1,none⟩) hl).trans c1;have r0:=row_of m0;clear hgr6 p0 hT5 hB5 m0 hT6
 go_wp2_with fail
 rw [rounds_succ]
 go_wp2_with fail
 rw [rounds_succ]
 go_wp2_with fail
 refine wp_loop_rounds 1 ?_
 rw [rounds_succ]
 go_wp2_with fail
 rw [rounds_succ]
 go_wp2_with fail
 go_ret
 exact ⟨rfl,hB6⟩
end Go.Proofs.Ytcfkhnlkfgmoiaa
namespace Go.Proofs.Ytcfkhnlkfgmoiaa
open Go.RowKit
section
attribute [local go_sem ↓] to_LoadS
def ShapeCut (HH:Option Addr) (hc:Nat) (w:World) (x0 ce lv:Nat) (wx:World):Prop:=∃ X cx,wx.heap[lv]? = some (.cells #[.slice (some ⟨X,0,none⟩) 1 cx,.slice none 0 0] 58 (0,0))/\wx.ownsRow (lv+2) 80 19 (.slice (some ⟨X,0,none⟩) 1 cx) 1 [.int .i64 0,.int .i64 1,.int .i64 1,.int .i64 0,.int .i64 0,.int .i64 0,.int .i64 1,.int .i64 3,.int .i64 0,.slice none 0 0,.int .i64 0,.int .i64 0,.int .i64 0,.int .i64 0,.slice none 0 0,.int .i64 0,.int .i64 0,.int .i64 0,.slice none 0 0]/\wx.heap[w.heap.size]? = some (.cells #[.int .i64 2,.slice (some ⟨x0,0,none⟩) 1 ce,.slice HH 0 hc] 60 (0,0))/\Below w.heap.size w wx
set_option maxRecDepth 100000 in
set_option maxHeartbeats 8000000 in
theorem shape_one {HH:Option Addr} {hc:Nat} (x0 ce:Nat) (w:World) (hce:1<=ce) (h0:x0<w.heap.size) (he:w.rangeAt x0 0 [.int .i64 0,.int .i64 1,.int .i64 1,.int .i64 0,.int .i64 0,.int .i64 0,.int .i64 1,.int .i64 3,.int .i64 0,.slice none 0 0,.int .i64 0,.int .i64 0,.int .i64 0,.int .i64 0,.slice none 0 0,.int .i64 0,.int .i64 0,.int .i64 0,.slice none 0 0]) :
 Calls Try.prog 29 #[.agg #[.int .i64 2,.slice (some ⟨x0,0,none⟩) 1 ce,.slice HH 0 hc]] w fun e w'=>e = .returned (.bool true)/\Below w.heap.size w w':=by
 replace he:=Lib.hid he
 obtain ⟨ii,hii,iz0,iz1,iz2⟩:=info_parts info_edge'
 replace hii:=Lib.hid hii
 go_enter Try.func29,Try.ntmps29
 go_wp2_with fail
 refine (heads_nil 2 (some ⟨x0,0,none⟩) 1 ce _).mono ?_
 rintro e w1 ⟨rfl,hb1⟩;have k0:=blk_keep hb1 (blkA _ _ rfl);have hB1:Below w.heap.size w w1:=((Below.refl _ _).alloc (Nat.le_refl _) _).trans (hb1.mono (by simp));clear hb1;have r0:=row_of k0;have hlt1:=blk_lt k0
 replace k0:=Lib.hid k0
 have hmk:=mk2_edges
 go_upto_region 5 with fail
 clear hmk;refine wp_world (fun W=>W.heap[w.heap.size]? = some (.cells #[.int .i64 2,.slice (some ⟨x0,0,none⟩) 1 ce,.slice HH 0 hc] 60 (0,0))/\W.heap[w1.heap.size]? = some (.cells #[.slice none 0 0,.slice none 0 0] 58 (0,0))/\Below w.heap.size w W/\W.heap.size=w1.heap.size+1) ⟨blkUp k0.out _,blkA _ _ rfl,hB1.alloc hB1.size _,by simp⟩ ?_
 rintro w2 ⟨q0,q1,hB2,hs2⟩;clear r0 k0;have r0:=row_of q0;have hlt2:w.heap.size<w2.heap.size:=blk_lt q0;have he2:=Lib.hid (range_keep hB2 h0 he.out)
 replace q0:=Lib.hid q0
 replace q1:=Lib.hid q1
 refine wp_loop_rounds 2 ?_
 rw [rounds_succ]
 go_upto_block 1 with fail
 go_cut [] from 34 to 60 (fun wx=>ShapeCut HH hc w x0 ce w1.heap.size wx)
 case first=>
  go_upto_region 7 with (first |(refine ld_mid 80 _ rfl _ _ rfl [.int .i64 0,.int .i64 1,.int .i64 1,.int .i64 0,.int .i64 0,.int .i64 0,.int .i64 1,.int .i64 3,.int .i64 0,.slice none 0 0,.int .i64 0,.int .i64 0,.int .i64 0,.int .i64 0,.slice none 0 0,.int .i64 0,.int .i64 0,.int .i64 0,.slice none 0 0] _ he2.out Try.underlying80 rfl info_edge rfl ?_) |(refine wpList_store_new rfl 80 _ _ rfl rfl _ _ _ _ rfl (by first |assumption |rfl |(simp;done) |(simp;omega)) rfl rfl info_edge rfl (by kernel_rfl) ?_))
  refine wp_world (fun W=>W.heap[w.heap.size]? = some (.cells #[.int .i64 2,.slice (some ⟨x0,0,none⟩) 1 ce,.slice HH 0 hc] 60 (0,0))/\W.heap[w1.heap.size]? = some (.cells #[.slice none 0 0,.slice none 0 0] 58 (0,0))/\W.heap[w1.heap.size+1]? = some (.cells #[.int .i64 0,.int .i64 1,.int .i64 1,.int .i64 0,.int .i64 0,.int .i64 0,.int .i64 1,.int .i64 3,.int .i64 0,.slice none 0 0,.int .i64 0,.int .i64 0,.int .i64 0,.int .i64 0,.slice none 0 0,.int .i64 0,.int .i64 0,.int .i64 0,.slice none 0 0] 80 (0,0))/\Below w.heap.size w W/\W.heap.size=w1.heap.size+2) ⟨blkUp q0.out _,blkUp q1.out _,blkA _ _ hs2,hB2.alloc hB2.size _,by simp;exact hs2⟩ ?_
  rintro w3 ⟨p0,p1,p2,hB3,hs3⟩;clear r0 q0 q1 he2 hB2 hs2;have r0:=row_of p0;have c0:=row_of p2 0;have c1:=row_of p2 1;have hlt3:w.heap.size<w3.heap.size:=blk_lt p0
  replace p0:=Lib.hid p0
  replace p1:=Lib.hid p1
  replace p2:=Lib.hid p2
  go_wp2_with fail
  refine (node_yes 2 0 (some ⟨x0,0,none⟩) 1 ce _ (by decide) (by decide)).mono ?_
  rintro e w4 ⟨rfl,hb4⟩;have q0:=blk_keep hb4 p0.out;have q1:=blk_keep hb4 p1.out;have q2:=blk_keep hb4 p2.out;have hB4:Below w.heap.size w w4:=hB3.trans (hb4.mono hB3.size);clear hb4 r0 c0 c1 p0 p1 p2 hB3 hs3;have r0:=row_of q0;have c1:=row_of q2 1
  replace q0:=Lib.hid q0
  replace q1:=Lib.hid q1
  replace q2:=Lib.hid q2
  go_wp2_with fail
  refine (node_yes 2 1 (some ⟨x0,0,none⟩) 1 ce _ (by decide) (by decide)).mono ?_
  rintro e w5 ⟨rfl,hb5⟩;have p0:=blk_keep hb5 q0.out;have p1:=blk_keep hb5 q1.out;have p2:=blk_keep hb5 q2.out;have hB5:Below w.heap.size w w5:=hB4.trans (hb5.mono hB4.size);clear hb5 r0 c1 q0 q1 q2 hB4;have c0:w5.cell? ⟨w1.heap.size+1,0,none⟩=some (.int .i64 0):=row_of p2 0;have v0:w5.cell? ⟨w1.heap.size,0,none⟩=some (.slice none 0 0):=row_of p1 0;have ra:w5.drew.rangeAt (w1.heap.size+1) 0 [.int .i64 0,.int .i64 1,.int .i64 1,.int .i64 0,.int .i64 0,.int .i64 0,.int .i64 1,.int .i64 3,.int .i64 0,.slice none 0 0,.int .i64 0,.int .i64 0,.int .i64 0,.int .i64 0,.slice none 0 0,.int .i64 0,.int .i64 0,.int .i64 0,.slice none 0 0]:=fun j v hv=>by rw [Nat.zero_add];exact (row_of p2 j).trans (by simpa using hv)
  have hlt5:w1.heap.size+1<w5.heap.size:=blk_lt p2;have hlt5b:w1.heap.size<w5.heap.size:=blk_lt p1;have fv:=frozen_of p1 0;have hld:(LoadS 80 (.pointer (some ⟨w1.heap.size+1,0,none⟩))).run Try.prog w5.drew = .ok (.agg #[.int .i64 0,.int .i64 1,.int .i64 1,.int .i64 0,.int .i64 0,.int .i64 0,.int .i64 1,.int .i64 3,.int .i64 0,.slice none 0 0,.int .i64 0,.int .i64 0,.int .i64 0,.int .i64 0,.slice none 0 0,.int .i64 0,.int .i64 0,.int .i64 0,.slice none 0 0]) w5.drew:=run_loadAt_mid _ _ _ _ _ _ ra Try.underlying80 rfl info_edge;clear ra
  replace p0:=Lib.hid p0
  replace p1:=Lib.hid p1
  replace p2:=Lib.hid p2
  go_upto_region 9 with fail
  go_region_law (first
   |(refine step_append_lies _ (by rfl) _ _ _ (by rfl) (w1.heap.size+2) 80 ii _ 19 200 Try.underlying58 hii.out iz0 iz1 iz2 rfl (by omega) (.slice none 0 0) 0 [] (by rfl) (World.ownsRow_nil _ _ _ _) ⟨w5.heap.size,0,none⟩ 1 1 [.int .i64 0,.int .i64 1,.int .i64 1,.int .i64 0,.int .i64 0,.int .i64 0,.int .i64 1,.int .i64 3,.int .i64 0,.slice none 0 0,.int .i64 0,.int .i64 0,.int .i64 0,.int .i64 0,.slice none 0 0,.int .i64 0,.int .i64 0,.int .i64 0,.slice none 0 0] (by rfl) (by rfl) (World.news_of_block (cs:=#[.int .i64 0,.int .i64 1,.int .i64 1,.int .i64 0,.int .i64 0,.int .i64 0,.int .i64 1,.int .i64 3,.int .i64 0,.slice none 0 0,.int .i64 0,.int .i64 0,.int .i64 0,.int .i64 0,.slice none 0 0,.int .i64 0,.int .i64 0,.int .i64 0,.slice none 0 0]) (t:=80) (fr:=(0,0)) (blkA _ _ rfl)) (by simp [Value.oneCell']) (by omega) (by decide) (by decide) (by simp;omega) (w5.heap.size+1) (by simp) ?_;intro gg cap w6 hown6 hgrow hat hlt6;have m0:=grown_blk hgrow (blkUp p0.out _) (by simp [Value.ownBlock]);have m1:=grown_blk hgrow (blkUp p1.out _) (by simp [Value.ownBlock]);have vv:=row_of m1 0;have cc:=row_of (grown_blk hgrow (blkUp p2.out _) (by simp [Value.ownBlock])) 0;have fv6:=frozen_of m1 0;have hB6:=Lib.hid (below_grown hgrow (by first |exact (hB5.alloc hB5.size _).drew |exact hB5.drew.alloc hB5.size _) (Nat.le_refl _) (fun b hb=>by simp [Value.ownBlock] at hb));replace m0:=Lib.hid m0;replace m1:=Lib.hid m1;replace hown6:=Lib.hid hown6;clear hgrow hat))
  all_goals
   go_wp2_with fail
   go_meet
   case rel=>
    have hset:=m1.out;refine ⟨gg,cap,?_,own_set hown6.out (by omega),blk_set m0.out (by omega),hB6.out.setCell hB1.size _⟩;simp [World.setCell,Array.getElem?_modify,hset]
 case rest=>
  obtain ⟨X,cx,n1,hX,n0,hBx⟩:=hcut;have r0:=row_of n0;have v0:wc.cell? ⟨w1.heap.size,0,none⟩=some (.slice (some ⟨X,0,none⟩) 1 cx):=row_of n1 0;have v1:wc.cell? ⟨w1.heap.size,1,none⟩=some (.slice none 0 0):=row_of n1 1;have hxl:=(hX.lt X rfl).2;have hll:=blk_lt n1;have c2:wc.cell? ⟨X,2,none⟩=some (.int .i64 1):=hX.cells rfl 2 _ rfl;have hrx:wc.rangeAt X 0 [.int .i64 0,.int .i64 1,.int .i64 1,.int .i64 0,.int .i64 0,.int .i64 0,.int .i64 1,.int .i64 3,.int .i64 0,.slice none 0 0,.int .i64 0,.int .i64 0,.int .i64 0,.int .i64 0,.slice none 0 0,.int .i64 0,.int .i64 0,.int .i64 0,.slice none 0 0]:=fun j v hv=>by have:=hX.cells rfl j v hv;rwa [Addr.add_mid] at this
  have hex:=range_keep hBx h0 he.out;have hcx:1<=cx:=by
   rcases hX.2 with ⟨h1,_⟩ |⟨_,_,_,h1,_,_,h2,_⟩
   ·cases h1
   ·cases h1;exact h2
  have hxw:x0<wc.heap.size:=Nat.lt_of_lt_of_le h0 hBx.size
  replace hrx:=Lib.hid hrx
  replace hex:=Lib.hid hex
  clear n1 n0 hX
  go_wp2_with fail
  rw [rounds_succ]
  go_wp2_with fail
  refine wp_loop_rounds 3 ?_
  rw [rounds_succ]
  go_wp2_with fail
  refine (leaving_one X cx _ hcx c2).mono ?_
  rintro e w7 ⟨rfl,rfl⟩
  go_wp2_with fail
  rw [rounds_succ]
  go_wp2_with fail
  refine (leaving_end _).mono ?_
  rintro e w7 ⟨rfl,rfl⟩
  go_wp2_with fail
  rw [rounds_succ]
  go_wp2_with fail
  refine (loops_one x0 w1.heap.size X ce 2 cx _ hce (by omega) hcx hxw hll hxl hex.out hrx.out v0 v1).mono ?_
  rintro e w7 ⟨rfl,hb7⟩;have hB7:=hBx.trans (hb7.mono hBx.size)
  go_wp2_with fail
  go_ret
  exact ⟨rfl,hB7⟩
end
end Go.Proofs.Ytcfkhnlkfgmoiaa
namespace Go.Proofs.Ytcfkhnlkfgmoiaa
open Go.RowKit
set_option maxRecDepth 100000 in
set_option maxHeartbeats 2000000 in
theorem stmt_asg (A:Option Addr) (n c:Nat) (p v:Int) (u x:Int) (hu:0<=u) (hu2:u<v) (hx:0<=x) (hx2:x<=2147483647) (w:World) :
 Calls Try.prog 34 #[.agg #[.slice A n c,.int .i64 p,.int .i64 v],.agg #[.int .i64 1,.int .i64 u,.int .i64 0,.int .i64 0,.int .i64 1,.int .i64 x,.int .i64 0,.slice none 0 0,.int .i64 0,.int .i64 0,.int .i64 0,.int .i64 0,.slice none 0 0,.int .i64 0,.int .i64 0,.int .i64 0,.slice none 0 0,.slice none 0 0,.slice none 0 0,.slice none 0 0]] w fun e w'=>e = .returned (.bool true)/\Below w.heap.size w w':=by
 go_enter Try.func34,Try.ntmps34
 go_upto_region 1 with fail
 refine wp_world (fun W=>W.heap[w.heap.size]? = some (.cells #[.slice A n c,.int .i64 p,.int .i64 v] 86 (0,0))/\W.heap[w.heap.size+1]? = some (.cells #[.int .i64 1,.int .i64 u,.int .i64 0,.int .i64 0,.int .i64 1,.int .i64 x,.int .i64 0,.slice none 0 0,.int .i64 0,.int .i64 0,.int .i64 0,.int .i64 0,.slice none 0 0,.int .i64 0,.int .i64 0,.int .i64 0,.slice none 0 0,.slice none 0 0,.slice none 0 0,.slice none 0 0] 55 (0,0))/\Below w.heap.size w W/\W.heap.size=w.heap.size+2) ⟨blkUp (blkA _ _ rfl) _,blkA _ _ (by simp only [World.size_alloc]),((Below.refl _ _).alloc (Nat.le_refl _) _).alloc (by simp only [World.size_alloc];omega) _,by first |(simp only [World.size_alloc];done) |(simp;done) |(simp;omega)⟩ ?_
 rintro w0 ⟨k0_0,k0_1,hB0,hs0⟩;have r0_0:=row_of k0_0
 replace k0_0:=Lib.hid k0_0
 have r0_1:=row_of k0_1
 replace k0_1:=Lib.hid k0_1
 go_upto_region 6 with (first |(refine wpList_store_new rfl 55 _ _ rfl rfl _ _ _ _ rfl (by first |assumption |(simp;done)) rfl rfl info_st rfl (by kernel_rfl) ?_) |(refine ld_row 55 _ rfl _ rfl _ _ _ _ k0_1.out Try.underlying55 rfl info_st rfl ?_))
 refine wp_world (fun W=>W.heap[w.heap.size]? = some (.cells #[.slice A n c,.int .i64 p,.int .i64 v] 86 (0,0))/\W.heap[w.heap.size+1]? = some (.cells #[.int .i64 1,.int .i64 u,.int .i64 0,.int .i64 0,.int .i64 1,.int .i64 x,.int .i64 0,.slice none 0 0,.int .i64 0,.int .i64 0,.int .i64 0,.int .i64 0,.slice none 0 0,.int .i64 0,.int .i64 0,.int .i64 0,.slice none 0 0,.slice none 0 0,.slice none 0 0,.slice none 0 0] 55 (0,0))/\W.heap[w.heap.size+2]? = some (.cells #[.int .i64 0,.int .i64 0,.int .i64 0,.int .i64 0,.int .i64 0,.int .i64 0,.int .i64 0,.slice none 0 0,.int .i64 0,.int .i64 0,.int .i64 0,.int .i64 0,.slice none 0 0,.int .i64 0,.int .i64 0,.int .i64 0,.slice none 0 0,.slice none 0 0,.slice none 0 0,.slice none 0 0] 55 (0,0))/\Below w.heap.size w W/\W.heap.size=w.heap.size+3) ⟨blkUp k0_0.out _,blkUp k0_1.out _,blkA _ _ hs0,hB0.alloc (by rw [hs0];omega) _,by first |(simp only [World.size_alloc];done) |(simp;done) |(simp;omega)⟩ ?_
 rintro w1 ⟨k1_0,k1_1,k1_2,hB1,hs1⟩;have r1_0:=row_of k1_0
 replace k1_0:=Lib.hid k1_0
 have r1_1:=row_of k1_1
 replace k1_1:=Lib.hid k1_1
 have r1_2:=row_of k1_2
 replace k1_2:=Lib.hid k1_2
 clear k0_0 k0_1 r0_0 r0_1 hB0 hs0
 go_wp2_with (first |(refine ld_row 55 _ rfl _ rfl _ _ _ _ k1_2.out Try.underlying55 rfl info_st rfl ?_) |(refine ld_row 55 _ rfl _ rfl _ _ _ _ k1_1.out Try.underlying55 rfl info_st rfl ?_))
 refine (var_yes A n c p v _ _ (by assumption) (by assumption)).mono ?_
 rintro e w2 ⟨rfl,hb2⟩;have k2_0:=Lib.hid (blk_keep hb2 k1_0.out);have k2_1:=Lib.hid (blk_keep hb2 k1_1.out);have k2_2:=Lib.hid (blk_keep hb2 k1_2.out);have hB2:Below w.heap.size w w2:=bel_up hB1 (Nat.le_refl _) hb2;clear hb2 hB1 hs1 k1_0 r1_0 k1_1 r1_1 k1_2 r1_2;have r2_0:=row_of k2_0.out;have r2_1:=row_of k2_1.out;have r2_2:=row_of k2_2.out
 go_wp2_with (first |(refine ld_row 55 _ rfl _ rfl _ _ _ _ k2_2.out Try.underlying55 rfl info_st rfl ?_) |(refine ld_row 55 _ rfl _ rfl _ _ _ _ k2_1.out Try.underlying55 rfl info_st rfl ?_))
 refine (exprNum_any A n c p v _ _ (by assumption) (by assumption)).mono ?_
 rintro e w3 ⟨rfl,hb3⟩;have k3_0:=Lib.hid (blk_keep hb3 k2_0.out);have k3_1:=Lib.hid (blk_keep hb3 k2_1.out);have k3_2:=Lib.hid (blk_keep hb3 k2_2.out);have hB3:Below w.heap.size w w3:=bel_up hB2 (Nat.le_refl _) hb3;clear hb3 hB2 k2_0 r2_0 k2_1 r2_1 k2_2 r2_2;have r3_0:=row_of k3_0.out;have r3_1:=row_of k3_1.out;have r3_2:=row_of k3_2.out
 go_wp2_with (first |(refine ld_row 55 _ rfl _ rfl _ _ _ _ k3_2.out Try.underlying55 rfl info_st rfl ?_) |(refine ld_row 55 _ rfl _ rfl _ _ _ _ k3_1.out Try.underlying55 rfl info_st rfl ?_))
 refine (nothing_any _).mono ?_
 rintro e w4 ⟨rfl,hb4⟩;have k4_0:=Lib.hid (blk_keep hb4 k3_0.out);have k4_1:=Lib.hid (blk_keep hb4 k3_1.out);have k4_2:=Lib.hid (blk_keep hb4 k3_2.out);have hB4:Below w.heap.size w w4:=bel_up hB3 (Nat.le_refl _) hb4;clear hb4 hB3 k3_0 r3_0 k3_1 r3_1 k3_2 r3_2;have r4_0:=row_of k4_0.out;have r4_1:=row_of k4_1.out;have r4_2:=row_of k4_2.out
 go_wp2_with fail
 go_ret
 exact ⟨rfl,hB4⟩
end Go.Proofs.Ytcfkhnlkfgmoiaa
namespace Go.Proofs.Ytcfkhnlkfgmoiaa
open Go.RowKit
set_option maxRecDepth 100000 in
set_option maxHeartbeats 8000000 in
theorem statement_one (w:World) :
 Calls Try.prog 45 #[.agg #[.int .i64 0,.int .i64 1,.int .i64 1,.int .i64 0,.int .i64 0,.int .i64 0,.int .i64 1,.int .i64 3,.int .i64 0,.slice none 0 0,.int .i64 0,.int .i64 0,.int .i64 0,.int .i64 0,.slice none 0 0,.int .i64 0,.int .i64 0,.int .i64 0,.slice none 0 0]] w fun e w'=>e = .returned (.agg #[.int .i64 1,.int .i64 0,.int .i64 0,.int .i64 0,.int .i64 1,.int .i64 3,.int .i64 0,.slice none 0 0,.int .i64 0,.int .i64 0,.int .i64 0,.int .i64 0,.slice none 0 0,.int .i64 0,.int .i64 0,.int .i64 0,.slice none 0 0,.slice none 0 0,.slice none 0 0,.slice none 0 0])/\Below w.heap.size w w':=by
 go_enter Try.func45,Try.ntmps45
 go_upto_region 1 with fail
 refine wp_world (fun W=>W.heap[w.heap.size]? = some (.cells #[.int .i64 0,.int .i64 1,.int .i64 1,.int .i64 0,.int .i64 0,.int .i64 0,.int .i64 1,.int .i64 3,.int .i64 0,.slice none 0 0,.int .i64 0,.int .i64 0,.int .i64 0,.int .i64 0,.slice none 0 0,.int .i64 0,.int .i64 0,.int .i64 0,.slice none 0 0] 80 (0,0))/\W.heap[w.heap.size+1]? = some (.cells #[.int .i64 0,.int .i64 0,.int .i64 0,.int .i64 0,.int .i64 0,.int .i64 0,.int .i64 0,.slice none 0 0,.int .i64 0,.int .i64 0,.int .i64 0,.int .i64 0,.slice none 0 0,.int .i64 0,.int .i64 0,.int .i64 0,.slice none 0 0,.slice none 0 0,.slice none 0 0,.slice none 0 0] 55 (0,0))/\Below w.heap.size w W/\W.heap.size=w.heap.size+2) ⟨blkUp (blkA _ _ rfl) _,blkA _ _ (by simp),((Below.refl _ _).alloc (Nat.le_refl _) _).alloc (by simp) _,by simp⟩ ?_
 rintro w0 ⟨k0,k1,hB0,hs0⟩;have r0:=row_of k0;have hlt0:=blk_lt k0
 replace k0:=Lib.hid k0
 replace k1:=Lib.hid k1
 go_upto_region 3 with (refine wpList_store_new rfl 55 _ _ rfl rfl _ _ _ _ rfl (by first |assumption |(simp;done)) rfl rfl info_st rfl (by kernel_rfl) ?_)
 refine wp_world (fun W=>W.heap[w.heap.size+1]? = some (.cells #[.int .i64 0,.int .i64 0,.int .i64 0,.int .i64 0,.int .i64 0,.int .i64 0,.int .i64 0,.slice none 0 0,.int .i64 0,.int .i64 0,.int .i64 0,.int .i64 0,.slice none 0 0,.int .i64 0,.int .i64 0,.int .i64 0,.slice none 0 0,.slice none 0 0,.slice none 0 0,.slice none 0 0] 55 (0,0))/\W.heap[w.heap.size+2]? = some (.cells #[.int .i64 0,.int .i64 0,.int .i64 0,.int .i64 0,.int .i64 1,.int .i64 3,.int .i64 0,.slice none 0 0,.int .i64 0,.int .i64 0,.int .i64 0,.int .i64 0,.slice none 0 0,.int .i64 0,.int .i64 0,.int .i64 0,.slice none 0 0,.slice none 0 0,.slice none 0 0,.slice none 0 0] 55 (0,0))/\Below w.heap.size w W/\W.heap.size=w.heap.size+3) ⟨blkUp k1.out _,blkA _ _ hs0,hB0.alloc hB0.size _,by simp;exact hs0⟩ ?_
 rintro w1 ⟨q1,q2,hB1,hs1⟩;clear r0 k0 k1 hB0 hs0;have r2:=row_of q2;have fz:=frozen_of q2 0
 replace q1:=Lib.hid q1
 replace q2:=Lib.hid q2
 go_upto_region 16 with fail
 have hset:(w1.setCell ⟨w.heap.size+2,0,none⟩ (.int .i64 1)).heap[w.heap.size+2]? = some (.cells #[.int .i64 1,.int .i64 0,.int .i64 0,.int .i64 0,.int .i64 1,.int .i64 3,.int .i64 0,.slice none 0 0,.int .i64 0,.int .i64 0,.int .i64 0,.int .i64 0,.slice none 0 0,.int .i64 0,.int .i64 0,.int .i64 0,.slice none 0 0,.slice none 0 0,.slice none 0 0,.slice none 0 0] 55 (0,0)):=by simp [World.setCell,Array.getElem?_modify,q2.out]
 refine wp_world (fun W=>W.heap[w.heap.size+1]? = some (.cells #[.int .i64 0,.int .i64 0,.int .i64 0,.int .i64 0,.int .i64 0,.int .i64 0,.int .i64 0,.slice none 0 0,.int .i64 0,.int .i64 0,.int .i64 0,.int .i64 0,.slice none 0 0,.int .i64 0,.int .i64 0,.int .i64 0,.slice none 0 0,.slice none 0 0,.slice none 0 0,.slice none 0 0] 55 (0,0))/\W.heap[w.heap.size+2]? = some (.cells #[.int .i64 1,.int .i64 0,.int .i64 0,.int .i64 0,.int .i64 1,.int .i64 3,.int .i64 0,.slice none 0 0,.int .i64 0,.int .i64 0,.int .i64 0,.int .i64 0,.slice none 0 0,.int .i64 0,.int .i64 0,.int .i64 0,.slice none 0 0,.slice none 0 0,.slice none 0 0,.slice none 0 0] 55 (0,0))/\Below w.heap.size w W) ⟨blk_set q1.out (by omega),hset,hB1.setCell (Nat.le_add_right _ _) _⟩ ?_
 rintro w2 ⟨m1,m2,hB2⟩;clear r2 fz q1 q2 hset hB1 hs1
 replace m1:=Lib.hid m1
 replace m2:=Lib.hid m2
 go_wp2_with (first
  |(refine ld_row 55 _ rfl _ rfl _ _ _ _ m2.out Try.underlying55 rfl info_st rfl ?_)
  |(refine wpList_store_row rfl 55 _ _ rfl _ _ rfl rfl _ _ m1.out info_st rfl (by kernel_rfl) ?_))
 have hbs:Below w.heap.size w2 (w2.setRow (w.heap.size+1) #[.int .i64 1,.int .i64 0,.int .i64 0,.int .i64 0,.int .i64 1,.int .i64 3,.int .i64 0,.slice none 0 0,.int .i64 0,.int .i64 0,.int .i64 0,.int .i64 0,.slice none 0 0,.int .i64 0,.int .i64 0,.int .i64 0,.slice none 0 0,.slice none 0 0,.slice none 0 0,.slice none 0 0]):=⟨rfl,rfl,rfl,by simp,fun k hk=>setRow_other _ _ _ _ (by omega)⟩;exact bodyPost_ret (results_cell_row Try.results45 _ _ (w.heap.size+1) _ _ _ _ rfl (setRow_heap w2 (w.heap.size+1) _ #[.int .i64 1,.int .i64 0,.int .i64 0,.int .i64 0,.int .i64 1,.int .i64 3,.int .i64 0,.slice none 0 0,.int .i64 0,.int .i64 0,.int .i64 0,.int .i64 0,.slice none 0 0,.int .i64 0,.int .i64 0,.int .i64 0,.slice none 0 0,.slice none 0 0,.slice none 0 0,.slice none 0 0] _ _ m1.out) Try.underlying55 rfl info_st) rfl ⟨rfl,hB2.trans hbs⟩
end Go.Proofs.Ytcfkhnlkfgmoiaa
namespace Go.Proofs.Ytcfkhnlkfgmoiaa
open Go.RowKit
theorem info_st3:(Try.prog.info? 55).map (fun i=>(i.zero,i.size,i.bytes))=some (some (.agg #[.int .i64 0,.int .i64 0,.int .i64 0,.int .i64 0,.int .i64 0,.int .i64 0,.int .i64 0,.slice none 0 0,.int .i64 0,.int .i64 0,.int .i64 0,.int .i64 0,.slice none 0 0,.int .i64 0,.int .i64 0,.int .i64 0,.slice none 0 0,.slice none 0 0,.slice none 0 0,.slice none 0 0]),20,256):=by kernel_rfl
theorem info_proc3:(Try.prog.info? 57).map (fun i=>(i.zero,i.size,i.bytes))=some (some (.agg #[.int .i64 0,.slice none 0 0]),2,32):=by kernel_rfl
theorem range_of_own {w:World} {b g n c:Nat} {e:TypeId} {size:Nat} {xs:List Value} (h:w.ownsRow b e size (.slice (some ⟨g,0,none⟩) n c) n xs):w.rangeAt g 0 xs:=fun j v hv=>by
 have:=h.cells rfl j v hv
 rwa [Addr.add_mid] at this
def EdgesCut (w:World) (wx:World):Prop:=
 ∃ D cD,wx.heap[w.heap.size+1]? = some (.cells #[.slice none 0 0,.slice none 0 0] 36 (0,0))/\wx.heap[w.heap.size+3]? = some (.cells #[.int .i64 1,.slice (some ⟨D,0,none⟩) 1 cD] 57 (0,0)) /\
   wx.ownsRow (w.heap.size+5) 55 20 (.slice (some ⟨D,0,none⟩) 1 cD) 1 [.int .i64 1,.int .i64 0,.int .i64 0,.int .i64 0,.int .i64 1,.int .i64 3,.int .i64 0,.slice none 0 0,.int .i64 0,.int .i64 0,.int .i64 0,.int .i64 0,.slice none 0 0,.int .i64 0,.int .i64 0,.int .i64 0,.slice none 0 0,.slice none 0 0,.slice none 0 0,.slice none 0 0]/\Below w.heap.size w wx
section
attribute [local go_sem ↓] to_LoadS
set_option maxRecDepth 100000 in
set_option maxHeartbeats 8000000 in
theorem edges_one {HH:Option Addr} {hc:Nat} (G cg V cv x0 ce:Nat) (w:World) (_hcg:1<=cg) (_hcv:1<=cv) (_hce:1<=ce) (hG:G<w.heap.size) (hV:V<w.heap.size) (hx:x0<w.heap.size)
 (hg:w.rangeAt G 0 [.int .i64 2,.slice (some ⟨x0,0,none⟩) 1 ce,.slice HH 0 hc]) (hv:w.cell? ⟨V,0,none⟩=some (.int .i64 1)) (he:w.rangeAt x0 0 [.int .i64 0,.int .i64 1,.int .i64 1,.int .i64 0,.int .i64 0,.int .i64 0,.int .i64 1,.int .i64 3,.int .i64 0,.slice none 0 0,.int .i64 0,.int .i64 0,.int .i64 0,.int .i64 0,.slice none 0 0,.int .i64 0,.int .i64 0,.int .i64 0,.slice none 0 0]) :
 Calls Try.prog 30 #[.agg #[.slice none 0 0,.slice (some ⟨G,0,none⟩) 1 cg,.slice (some ⟨V,0,none⟩) 1 cv]] w fun e w'=>e = .returned (.bool true)/\Below w.heap.size w w':=by
 replace he:=Lib.hid he
 replace hg:=Lib.hid hg
 obtain ⟨ii,hii,iz0,iz1,iz2⟩:=info_parts info_st3;obtain ⟨ip,hip,pz0,pz1,pz2⟩:=info_parts info_proc3
 replace hii:=Lib.hid hii
 replace hip:=Lib.hid hip
 go_enter Try.func30,Try.ntmps30
 go_upto_region 3 with fail
 refine wp_world (fun W=>W.heap[w.heap.size+1]? = some (.cells #[.slice none 0 0,.slice none 0 0] 36 (0,0))/\W.heap[w.heap.size]? = some (.cells #[.slice none 0 0,.slice (some ⟨G,0,none⟩) 1 cg,.slice (some ⟨V,0,none⟩) 1 cv] 30 (0,0))/\Below w.heap.size w W/\W.heap.size=w.heap.size+2) ⟨blkA _ _ (by simp),blkUp (blkA _ _ rfl) _,((Below.refl _ _).alloc (Nat.le_refl _) _).alloc (by simp) _,by simp⟩ ?_
 rintro w0 ⟨k1,k0,hB0,hs0⟩;have r0:=row_of k0;have hlt0:=blk_lt k0;have hg0:=Lib.hid (range_keep hB0 hG hg.out);have he0:=Lib.hid (range_keep hB0 hx he.out);have hv0:=(hB0.cell (p:=⟨V,0,none⟩) hV).trans hv;have hV0:V<w.heap.size+2:=by omega
 replace k1:=Lib.hid k1
 replace k0:=Lib.hid k0
 refine wp_loop_rounds 2 ?_
 rw [rounds_succ]
 go_upto_region 7 with (refine ld_mid 60 _ rfl _ _ rfl [.int .i64 2,.slice (some ⟨x0,0,none⟩) 1 ce,.slice HH 0 hc] _ hg0.out Try.underlying60 rfl (by kernel_rfl) rfl ?_)
 refine wp_world (fun W=>W.heap[w.heap.size+1]? = some (.cells #[.slice none 0 0,.slice none 0 0] 36 (0,0))/\W.heap[w.heap.size]? = some (.cells #[.slice none 0 0,.slice (some ⟨G,0,none⟩) 1 cg,.slice (some ⟨V,0,none⟩) 1 cv] 30 (0,0))/\W.heap[w.heap.size+3]? = some (.cells #[.int .i64 1,.slice none 0 0] 57 (0,0))/\Below w.heap.size w W/\W.heap.size=w.heap.size+4) ⟨blkUp (blkUp k1.out _) _,blkUp (blkUp k0.out _) _,blkA _ _ (by simp;exact hs0),(hB0.alloc hB0.size _).alloc (by simp;omega) _,by simp;omega⟩ ?_
 rintro w1 ⟨q1,q0,qp,hB1,hs1⟩;clear r0 k1 k0 hg0 he0 hv0 hV0 hB0 hs0;have he1:=Lib.hid (range_keep hB1 hx he.out)
 replace q1:=Lib.hid q1
 replace q0:=Lib.hid q0
 replace qp:=Lib.hid qp
 refine wp_loop_rounds 2 ?_
 rw [rounds_succ]
 go_upto_block 3 with fail
 go_cut [] from 30 to 46 (fun wx=>EdgesCut w wx)
 case first=>
  go_upto_region 9 with (first |(refine ld_mid 80 _ rfl _ _ rfl [.int .i64 0,.int .i64 1,.int .i64 1,.int .i64 0,.int .i64 0,.int .i64 0,.int .i64 1,.int .i64 3,.int .i64 0,.slice none 0 0,.int .i64 0,.int .i64 0,.int .i64 0,.int .i64 0,.slice none 0 0,.int .i64 0,.int .i64 0,.int .i64 0,.slice none 0 0] _ he1.out Try.underlying80 rfl info_edge rfl ?_) |(refine wpList_store_new rfl 80 _ _ rfl rfl _ _ _ _ rfl (by first |assumption |(simp;done)) rfl rfl info_edge rfl (by kernel_rfl) ?_))
  refine wp_world (fun W=>W.heap[w.heap.size+1]? = some (.cells #[.slice none 0 0,.slice none 0 0] 36 (0,0))/\W.heap[w.heap.size+3]? = some (.cells #[.int .i64 1,.slice none 0 0] 57 (0,0))/\W.heap[w.heap.size+4]? = some (.cells #[.int .i64 0,.int .i64 1,.int .i64 1,.int .i64 0,.int .i64 0,.int .i64 0,.int .i64 1,.int .i64 3,.int .i64 0,.slice none 0 0,.int .i64 0,.int .i64 0,.int .i64 0,.int .i64 0,.slice none 0 0,.int .i64 0,.int .i64 0,.int .i64 0,.slice none 0 0] 80 (0,0))/\Below w.heap.size w W/\W.heap.size=w.heap.size+5) ⟨blkUp q1.out _,blkUp qp.out _,blkA _ _ hs1,hB1.alloc hB1.size _,by simp;exact hs1⟩ ?_
  rintro w2 ⟨n1,np,nx,hB2,hs2⟩;clear q1 q0 qp he1 hB1 hs1;have c2:=row_of nx 2;have z1:w2.cell? ⟨w.heap.size+3,1,none⟩=some (.slice none 0 0):=row_of np 1;have ra:w2.drew.rangeAt (w.heap.size+4) 0 [.int .i64 0,.int .i64 1,.int .i64 1,.int .i64 0,.int .i64 0,.int .i64 0,.int .i64 1,.int .i64 3,.int .i64 0,.slice none 0 0,.int .i64 0,.int .i64 0,.int .i64 0,.int .i64 0,.slice none 0 0,.int .i64 0,.int .i64 0,.int .i64 0,.slice none 0 0]:=fun j v hv=>by rw [Nat.zero_add];exact (row_of nx j).trans (by simpa using hv)
  have hld:(LoadS 80 (.pointer (some ⟨w.heap.size+4,0,none⟩))).run Try.prog w2.drew = .ok (.agg #[.int .i64 0,.int .i64 1,.int .i64 1,.int .i64 0,.int .i64 0,.int .i64 0,.int .i64 1,.int .i64 3,.int .i64 0,.slice none 0 0,.int .i64 0,.int .i64 0,.int .i64 0,.int .i64 0,.slice none 0 0,.int .i64 0,.int .i64 0,.int .i64 0,.slice none 0 0]) w2.drew:=run_loadAt_mid _ _ _ _ _ _ ra Try.underlying80 rfl info_edge;clear ra
  replace n1:=Lib.hid n1
  replace np:=Lib.hid np
  replace nx:=Lib.hid nx
  go_upto_region 10 with fail
  go_region_law (first
   |(refine step_append_lies _ (by rfl) _ _ _ (by rfl) (w.heap.size+5) 55 ii _ 20 256 Try.underlying49 hii.out iz0 iz1 iz2 rfl (by omega) (.slice none 0 0) 0 [] (by rfl) (World.ownsRow_nil _ _ _ _) ⟨w3.heap.size,0,none⟩ 1 1 [.int .i64 1,.int .i64 0,.int .i64 0,.int .i64 0,.int .i64 1,.int .i64 3,.int .i64 0,.slice none 0 0,.int .i64 0,.int .i64 0,.int .i64 0,.int .i64 0,.slice none 0 0,.int .i64 0,.int .i64 0,.int .i64 0,.slice none 0 0,.slice none 0 0,.slice none 0 0,.slice none 0 0] (by rfl) (by rfl) (World.news_of_block (cs:=#[.int .i64 1,.int .i64 0,.int .i64 0,.int .i64 0,.int .i64 1,.int .i64 3,.int .i64 0,.slice none 0 0,.int .i64 0,.int .i64 0,.int .i64 0,.int .i64 0,.slice none 0 0,.int .i64 0,.int .i64 0,.int .i64 0,.slice none 0 0,.slice none 0 0,.slice none 0 0,.slice none 0 0]) (t:=55) (fr:=(0,0)) (blkA _ _ rfl)) (by simp [Value.oneCell']) (by omega) (by decide) (by decide) (by simp;omega) (w3.heap.size+1) (by simp) ?_;intro gg cap w6 hown6 hgrow hat hlt6;have m1:=Lib.hid (grown_blk hgrow (blkUp o1.out _) (by simp [Value.ownBlock]));have mp:=grown_blk hgrow (blkUp op.out _) (by simp [Value.ownBlock]);have vv:=row_of mp 1;have fv6:=frozen_of mp 1;have hB6:=Lib.hid (below_grown hgrow (by first |exact hB3.alloc hB3.size _ |exact (hB3.alloc hB3.size _).drew) (Nat.le_refl _) (fun b hb=>by simp [Value.ownBlock] at hb));replace mp:=Lib.hid mp;replace hown6:=Lib.hid hown6;clear hgrow hat o1 op hB3)
   |(go_simp;go_at_call 45;refine (statement_one _).mono ?_;rintro e w3 ⟨rfl,hb3⟩;have o1:=Lib.hid (blk_keep hb3 n1.out);have op:=blk_keep hb3 np.out;have z3:w3.cell? ⟨w.heap.size+3,1,none⟩=some (.slice none 0 0):=row_of op 1;have hl3:=blk_lt op;have hB3:=hB2.drew.trans (hb3.mono hB2.size);have hz3:w.heap.size+5<=w3.heap.size:=Nat.le_trans (Nat.le_of_eq hs2.symm) hb3.size;replace op:=Lib.hid op;clear hb3))
  all_goals
   go_wp2_with fail
   go_meet
   case rel=>
    have hset:=mp.out;refine ⟨gg,cap,blk_set m1.out (by omega),?_,own_set hown6.out (by omega),hB6.out.setCell (by show w.heap.size<=w.heap.size+3;omega) _⟩;simp [World.setCell,Array.getElem?_modify,hset]
 case rest=>
  obtain ⟨D,cD,n1,np,hD,hBx⟩:=hcut;have rp:=row_of np;have r1:=row_of n1;have fz:=frozen_of n1 1;have hpl:=blk_lt np;have hpl1:=blk_lt n1
  replace n1:=Lib.hid n1
  replace np:=Lib.hid np
  replace hD:=Lib.hid hD
  go_wp2_with fail
  rw [rounds_succ]
  go_upto_region 15 with (refine wpList_append_lies _ rfl _ _ _ rfl (w.heap.size+2) 57 ip _ 2 32 Try.underlying34 hip.out pz0 pz1 pz2 rfl (by omega) (.slice none 0 0) 0 [] rfl (World.ownsRow_nil _ _ _ _) ⟨wc.heap.size,0,none⟩ 1 1 [.int .i64 1,.slice (some ⟨D,0,none⟩) 1 cD] rfl rfl (World.news_of_block (cs:=#[.int .i64 1,.slice (some ⟨D,0,none⟩) 1 cD]) (t:=57) (fr:=(0,0)) (blkA _ _ rfl)) (by simp [Value.oneCell']) (by omega) (by decide) (by decide) (by simp;omega) (wc.heap.size+1) (by simp) ?_)
  intro Hb cH w7 hH hgr7 _ hlt7;have m1:=grown_blk hgr7 (blkUp n1.out _) (by simp [Value.ownBlock]);have hD7:=(hD.out.alloc _).kept hgr7 (by simp [Value.ownBlock]);have hB7:Below w.heap.size w w7:=below_grown hgr7 (hBx.alloc hBx.size _) (Nat.le_refl _) (fun b hb=>by simp [Value.ownBlock] at hb);have r7:=row_of m1;have f7:=frozen_of m1 1
  replace m1:=Lib.hid m1
  replace hD7:=Lib.hid hD7
  replace hH:=Lib.hid hH
  clear hgr7 rp r1 fz n1 np hD hBx
  go_upto_region 15 with fail
  have hset:=m1.out;have hset3:(w7.setCell ⟨w.heap.size+1,1,none⟩ (.slice (some ⟨Hb,0,none⟩) 1 cH)).heap[w.heap.size+1]? = some (.cells #[.slice none 0 0,.slice (some ⟨Hb,0,none⟩) 1 cH] 36 (0,0)):=by simp [World.setCell,Array.getElem?_modify,hset]
  refine wp_world (fun W=>W.heap[w.heap.size+1]? = some (.cells #[.slice none 0 0,.slice (some ⟨Hb,0,none⟩) 1 cH] 36 (0,0))/\W.ownsRow (w.heap.size+2) 55 20 (.slice (some ⟨D,0,none⟩) 1 cD) 1 [.int .i64 1,.int .i64 0,.int .i64 0,.int .i64 0,.int .i64 1,.int .i64 3,.int .i64 0,.slice none 0 0,.int .i64 0,.int .i64 0,.int .i64 0,.int .i64 0,.slice none 0 0,.int .i64 0,.int .i64 0,.int .i64 0,.slice none 0 0,.slice none 0 0,.slice none 0 0,.slice none 0 0]/\W.ownsRow (w.heap.size+2) 57 2 (.slice (some ⟨Hb,0,none⟩) 1 cH) 1 [.int .i64 1,.slice (some ⟨D,0,none⟩) 1 cD]/\Below w.heap.size w W) ⟨hset3,own_base (own_set hD7.out (by omega)) (by omega),own_set hH.out (by omega),hB7.setCell (Nat.le_succ _) _⟩ ?_
  rintro w8 ⟨q1,hD8,hH8,hB8⟩;clear hset hset3 m1 hD7 hH hB7 r7 f7;have r8:=row_of q1;have hDl:=(hD8.lt D rfl).2;have hHl:=(hH8.lt Hb rfl).2;have hrD:=range_of_own hD8;have hrH:=range_of_own hH8;have hcD:1<=cD:=by
   rcases hD8.2 with ⟨h1,_⟩ |⟨_,_,_,h1,_,_,h2,_⟩
   ·cases h1
   ·cases h1;exact h2
  have hcH:1<=cH:=by
   rcases hH8.2 with ⟨h1,_⟩ |⟨_,_,_,h1,_,_,h2,_⟩
   ·cases h1
   ·cases h1;exact h2
  replace hrD:=Lib.hid hrD
  replace hrH:=Lib.hid hrH
  have hem:ElemsAt w8 w8.heap.size (some ⟨D,0,none⟩) 1 20 (fun _=>[.int .i64 1,.int .i64 0,.int .i64 0,.int .i64 0,.int .i64 1,.int .i64 3,.int .i64 0,.slice none 0 0,.int .i64 0,.int .i64 0,.int .i64 0,.int .i64 0,.slice none 0 0,.int .i64 0,.int .i64 0,.int .i64 0,.slice none 0 0,.slice none 0 0,.slice none 0 0,.slice none 0 0]):=fun i hi=>by
   obtain rfl:i=0:=by omega
   exact ⟨D,rfl,hDl,by rw [Nat.zero_mul];exact hrD.out,rfl,List.all_eq_true.1 (show List.all ([.int .i64 1,.int .i64 0,.int .i64 0,.int .i64 0,.int .i64 1,.int .i64 3,.int .i64 0,.slice none 0 0,.int .i64 0,.int .i64 0,.int .i64 0,.int .i64 0,.slice none 0 0,.int .i64 0,.int .i64 0,.int .i64 0,.slice none 0 0,.slice none 0 0,.slice none 0 0,.slice none 0 0]:List Value) (·.oneCell')=true by kernel_rfl)⟩
  replace hem:=Lib.hid hem
  clear q1 hD8 hH8
  go_wp2_with fail
  rw [rounds_succ]
  go_wp2_with fail
  refine (right_one 1 Hb cH (some ⟨D,0,none⟩) 1 cD (fun _=>[.int .i64 1,.int .i64 0,.int .i64 0,.int .i64 0,.int .i64 1,.int .i64 3,.int .i64 0,.slice none 0 0,.int .i64 0,.int .i64 0,.int .i64 0,.int .i64 0,.slice none 0 0,.int .i64 0,.int .i64 0,.int .i64 0,.slice none 0 0,.slice none 0 0,.slice none 0 0,.slice none 0 0]) w8 (by decide) (by decide) (by decide) hcD hcH hHl hrH.out hem.out (fun i hi W hW=>stmt_asg none 0 0 0 1 0 3 (by decide) (by decide) (by decide) (by decide) W)).mono ?_
  rintro e w9 ⟨rfl,hb9⟩;have hB9:=hB8.trans (hb9.mono hB8.size)
  go_wp2_with fail
  go_ret
  exact ⟨rfl,hB9⟩
end
end Go.Proofs.Ytcfkhnlkfgmoiaa
namespace Go.Proofs.Ytcfkhnlkfgmoiaa
open Go.RowKit
set_option maxRecDepth 100000 in
set_option maxHeartbeats 8000000 in
theorem graph_right {HH:Option Addr} {hc:Nat} (G cg V cv x0 ce:Nat) (w:World) (hcg:1<=cg) (hcv:1<=cv) (hce:1<=ce) (hG:G<w.heap.size) (hV:V<w.heap.size) (hx:x0<w.heap.size)
 (hg:w.rangeAt G 0 [.int .i64 2,.slice (some ⟨x0,0,none⟩) 1 ce,.slice HH 0 hc]) (hv:w.cell? ⟨V,0,none⟩=some (.int .i64 1)) (he:w.rangeAt x0 0 [.int .i64 0,.int .i64 1,.int .i64 1,.int .i64 0,.int .i64 0,.int .i64 0,.int .i64 1,.int .i64 3,.int .i64 0,.slice none 0 0,.int .i64 0,.int .i64 0,.int .i64 0,.int .i64 0,.slice none 0 0,.int .i64 0,.int .i64 0,.int .i64 0,.slice none 0 0]) :
 Calls Try.prog 17 #[.agg #[.slice none 0 0,.slice (some ⟨G,0,none⟩) 1 cg,.slice (some ⟨V,0,none⟩) 1 cv]] w fun e w'=>e = .returned (.bool true)/\Below w.heap.size w w':=by
 replace he:=Lib.hid he
 replace hg:=Lib.hid hg
 replace hv:=Lib.hid hv
 go_enter Try.func17,Try.ntmps17
 go_upto_region 4 with fail
 refine wp_world (fun W=>W.heap[w.heap.size]? = some (.cells #[.slice none 0 0,.slice (some ⟨G,0,none⟩) 1 cg,.slice (some ⟨V,0,none⟩) 1 cv] 30 (0,0))/\Below w.heap.size w W/\W.heap.size=w.heap.size+1) ⟨blkA _ _ rfl,(Below.refl _ _).alloc (Nat.le_refl _) _,by simp⟩ ?_
 rintro w0 ⟨k0,hB0,hs0⟩;have r0:=row_of k0;have hlt0:=blk_lt k0;have hg0:=Lib.hid (range_keep hB0 hG hg.out)
 replace k0:=Lib.hid k0
 refine wp_loop_rounds 2 ?_
 rw [rounds_succ]
 go_wp2_with (refine ld_mid 60 _ rfl _ _ rfl [.int .i64 2,.slice (some ⟨x0,0,none⟩) 1 ce,.slice HH 0 hc] _ hg0.out Try.underlying60 rfl (by kernel_rfl) rfl ?_)
 refine (shape_one x0 ce _ hce (by simp;omega) (range_keep (hB0.alloc hB0.size _) hx he.out)).mono ?_
 rintro e w1 ⟨rfl,hb1⟩;have q0:=blk_keep hb1 (blkUp k0.out _);have hB1:Below w.heap.size w w1:=(hB0.alloc hB0.size _).trans (hb1.mono (by simp;omega));clear hb1 r0 k0 hg0 hB0 hs0;have r0:=row_of q0;have hlt1:=blk_lt q0;clear q0
 go_wp2_with fail
 rw [rounds_succ]
 go_wp2_with fail
 have hz1:=hB1.size;refine (edges_one G cg V cv x0 ce _ hcg hcv hce (by omega) (by omega) (by omega) (range_keep hB1 hG hg.out) ((hB1.cell (p:=⟨V,0,none⟩) hV).trans hv.out) (range_keep hB1 hx he.out)).mono ?_
 rintro e w2 ⟨rfl,hb2⟩;have hB2:=hB1.trans (hb2.mono hB1.size)
 go_wp2_with fail
 go_ret
 exact ⟨rfl,hB2⟩
theorem not_three (w:World):Calls Try.prog 18 #[.int .i64 3] w fun e w'=>e = .returned (.int .i64 6)/\w=w':=by
 go_enter Try.func18,Try.ntmps18
 go_wp2
 go_ret
 exact ⟨rfl,rfl⟩
end Go.Proofs.Ytcfkhnlkfgmoiaa
namespace Go.Proofs.Ytcfkhnlkfgmoiaa
open Go.RowKit
theorem own_form' {w:World} {b:Nat} {e:TypeId} {size n ce:Nat} {A:Option Addr} {xs:List Value} (h:w.ownsRow b e size (.slice A (n+1) ce) (n+1) xs):∃ g,A=some ⟨g,0,none⟩:=by
 rcases h.2 with ⟨_,h0⟩ |⟨g,cap,cur,hv,_⟩
 ·omega
 ·injection hv with h1 h2 h3
  exact ⟨g,h1⟩
theorem own_cap {w:World} {b g:Nat} {e:TypeId} {size n ce:Nat} {xs:List Value} (h:w.ownsRow b e size (.slice (some ⟨g,0,none⟩) n ce) n xs):n<=ce:=by
 rcases h.2 with ⟨h1,_⟩ |⟨_,_,_,h1,_,_,h2,_⟩
 ·cases h1
 ·cases h1;exact h2
def asgF (_:Nat) (a b:Int) (s:Ls):Ls:={s with ne:=s.ne+1,es:=s.es++[.int .i64 a,.int .i64 b,.int .i64 1,.int .i64 0,.int .i64 0,.int .i64 0,.int .i64 1,.int .i64 3,.int .i64 0,.slice none 0 0,.int .i64 0,.int .i64 0,.int .i64 0,.int .i64 0,.slice none 0 0,.int .i64 0,.int .i64 0,.int .i64 0,.slice none 0 0]}
theorem asg_lays (W:World) (base:Nat) (i:Nat):StLay W base [.int .i64 1,.int .i64 0,.int .i64 0,.int .i64 0,.int .i64 1,.int .i64 3,.int .i64 0,.slice none 0 0,.int .i64 0,.int .i64 0,.int .i64 0,.int .i64 0,.slice none 0 0,.int .i64 0,.int .i64 0,.int .i64 0,.slice none 0 0,.slice none 0 0,.slice none 0 0,.slice none 0 0] (asgF i):=fun W' g s a b _ hL hn h0 h1=>
 (lay_asg W' base g s.N s.ne s.es s.nh s.hs 0 3 a b hL (by omega)).mono fun e w' ⟨he,hl,hb⟩=>⟨he,hl,hb⟩
theorem asg_S:bodyF asgF 1 1 0 0 ls0=⟨2,1,[.int .i64 0,.int .i64 1,.int .i64 1,.int .i64 0,.int .i64 0,.int .i64 0,.int .i64 1,.int .i64 3,.int .i64 0,.slice none 0 0,.int .i64 0,.int .i64 0,.int .i64 0,.int .i64 0,.slice none 0 0,.int .i64 0,.int .i64 0,.int .i64 0,.slice none 0 0],0,[]⟩:=by kernel_rfl
theorem asg_N (i:Nat) (a b:Int) (s:Ls):s.N<=(asgF i a b s).N/\(asgF i a b s).N<=s.N+1000:=by unfold asgF;constructor<;>simp<;>omega
set_option maxRecDepth 100000 in
set_option maxHeartbeats 8000000 in
theorem builds_any (w:World):Calls Try.prog 8 #[] w fun e w'=>e = .returned (.bool true)/\Below w.heap.size w w':=by
 go_enter Try.func8,Try.ntmps8
 go_wp2_with fail
 have hk0:((w.alloc (.cells #[.int .i64 1,.int .i64 0,.int .i64 0,.int .i64 0,.int .i64 1,.int .i64 3,.int .i64 0,.slice none 0 0,.int .i64 0,.int .i64 0,.int .i64 0,.int .i64 0,.slice none 0 0,.int .i64 0,.int .i64 0,.int .i64 0,.slice none 0 0,.slice none 0 0,.slice none 0 0,.slice none 0 0] 55)).alloc (.cells #[.int .i64 1,.slice (some ⟨w.heap.size,0,none⟩) 1 1] 57)).heap[w.heap.size]? = some (.cells #[.int .i64 1,.int .i64 0,.int .i64 0,.int .i64 0,.int .i64 1,.int .i64 3,.int .i64 0,.slice none 0 0,.int .i64 0,.int .i64 0,.int .i64 0,.int .i64 0,.slice none 0 0,.int .i64 0,.int .i64 0,.int .i64 0,.slice none 0 0,.slice none 0 0,.slice none 0 0,.slice none 0 0] 55 (0,0)):=blkUp (blkA _ _ rfl) _;have hk1:((w.alloc (.cells #[.int .i64 1,.int .i64 0,.int .i64 0,.int .i64 0,.int .i64 1,.int .i64 3,.int .i64 0,.slice none 0 0,.int .i64 0,.int .i64 0,.int .i64 0,.int .i64 0,.slice none 0 0,.int .i64 0,.int .i64 0,.int .i64 0,.slice none 0 0,.slice none 0 0,.slice none 0 0,.slice none 0 0] 55)).alloc (.cells #[.int .i64 1,.slice (some ⟨w.heap.size,0,none⟩) 1 1] 57)).heap[w.heap.size+1]? = some (.cells #[.int .i64 1,.slice (some ⟨w.heap.size,0,none⟩) 1 1] 57 (0,0)):=blkA _ _ (by simp);have hB0:Below w.heap.size w ((w.alloc (.cells #[.int .i64 1,.int .i64 0,.int .i64 0,.int .i64 0,.int .i64 1,.int .i64 3,.int .i64 0,.slice none 0 0,.int .i64 0,.int .i64 0,.int .i64 0,.int .i64 0,.slice none 0 0,.int .i64 0,.int .i64 0,.int .i64 0,.slice none 0 0,.slice none 0 0,.slice none 0 0,.slice none 0 0] 55)).alloc (.cells #[.int .i64 1,.slice (some ⟨w.heap.size,0,none⟩) 1 1] 57)):=((Below.refl _ _).alloc (Nat.le_refl _) _).alloc (by simp) _;generalize (w.alloc (.cells #[.int .i64 1,.int .i64 0,.int .i64 0,.int .i64 0,.int .i64 1,.int .i64 3,.int .i64 0,.slice none 0 0,.int .i64 0,.int .i64 0,.int .i64 0,.int .i64 0,.slice none 0 0,.int .i64 0,.int .i64 0,.int .i64 0,.slice none 0 0,.slice none 0 0,.slice none 0 0,.slice none 0 0] 55)).alloc (.cells #[.int .i64 1,.slice (some ⟨w.heap.size,0,none⟩) 1 1] 57)=w0 at *;have hem:ElemsAt w0 w0.heap.size (some ⟨w.heap.size,0,none⟩) 1 20 (fun _=>[.int .i64 1,.int .i64 0,.int .i64 0,.int .i64 0,.int .i64 1,.int .i64 3,.int .i64 0,.slice none 0 0,.int .i64 0,.int .i64 0,.int .i64 0,.int .i64 0,.slice none 0 0,.int .i64 0,.int .i64 0,.int .i64 0,.slice none 0 0,.slice none 0 0,.slice none 0 0,.slice none 0 0]):=fun i hi=>by
  obtain rfl:i=0:=by omega
  exact ⟨w.heap.size,rfl,blk_lt hk0,fun j v hv=>by rw [Nat.zero_mul,Nat.zero_add];exact (row_of hk0 j).trans (by simpa using hv),rfl,List.all_eq_true.1 (show List.all ([.int .i64 1,.int .i64 0,.int .i64 0,.int .i64 0,.int .i64 1,.int .i64 3,.int .i64 0,.slice none 0 0,.int .i64 0,.int .i64 0,.int .i64 0,.int .i64 0,.slice none 0 0,.int .i64 0,.int .i64 0,.int .i64 0,.slice none 0 0,.slice none 0 0,.slice none 0 0,.slice none 0 0]:List Value) (·.oneCell')=true by kernel_rfl)⟩
 refine (build_one 1 (w.heap.size+1) 1 (some ⟨w.heap.size,0,none⟩) 1 1 (fun _=>[.int .i64 1,.int .i64 0,.int .i64 0,.int .i64 0,.int .i64 1,.int .i64 3,.int .i64 0,.slice none 0 0,.int .i64 0,.int .i64 0,.int .i64 0,.int .i64 0,.slice none 0 0,.int .i64 0,.int .i64 0,.int .i64 0,.slice none 0 0,.slice none 0 0,.slice none 0 0,.slice none 0 0]) w0 (by decide) (by decide) (by decide) (by decide) (by decide) (by decide) (blk_lt hk1) (fun j v hv=>by rw [Nat.zero_add];exact (row_of hk1 j).trans (by simpa using hv)) hem
  (fun i hi W hW=>stmt_asg none 0 0 0 1 0 3 (by decide) (by decide) (by decide) (by decide) W) asgF (fun i hi W base _ _=>asg_lays W base i) asg_N _ asg_S (by decide) (by decide)).mono ?_
 rintro e w1 ⟨E,H,ce,ch,G,cg,V,cv,rfl,hE,hH,hG,hV,hb1⟩;obtain ⟨x0,rfl⟩:=own_form' hE;have hB1:Below w.heap.size w w1:=hB0.trans (hb1.mono hB0.size);clear hem hk0 hk1 hb1 hB0 hH;have hEr:=range_of_own hE;have hGr:=range_of_own hG;have hEl:=(hE.lt x0 rfl).2;have hGl:=(hG.lt G rfl).2;have hVl:=(hV.lt V rfl).2;have v0:w1.cell? ⟨V,0,none⟩=some (.int .i64 1):=hV.cells rfl 0 _ rfl;have g0:w1.cell? ⟨G,0,none⟩=some (.int .i64 2):=hG.cells rfl 0 _ rfl;have g1:w1.cell? ⟨G,1,none⟩=some (.slice (some ⟨x0,0,none⟩) 1 ce):=hG.cells rfl 1 _ rfl;have e1:w1.cell? ⟨x0,1,none⟩=some (.int .i64 1):=hE.cells rfl 1 _ rfl;have hce:=own_cap hE;have hcg:=own_cap hG;have hcv:=own_cap hV
 replace hEr:=Lib.hid hEr
 replace hGr:=Lib.hid hGr
 clear hE hG hV
 go_wp2_with fail
 have hba:Below w1.heap.size w1 (w1.alloc (.cells #[.slice none 0 0,.slice (some ⟨G,0,none⟩) 1 cg,.slice (some ⟨V,0,none⟩) 1 cv] 30)):=(Below.refl _ _).alloc (Nat.le_refl _) _;refine (graph_right G cg V cv x0 ce _ hcg hcv hce (by simp;omega) (by simp;omega) (by simp;omega) (range_keep hba hGl hGr.out) ((hba.cell (p:=⟨V,0,none⟩) hVl).trans v0) (range_keep hba hEl hEr.out)).mono ?_
 rintro e w2 ⟨rfl,hb2⟩;have hB2:Below w.heap.size w w2:=(hB1.trans (hba.mono hB1.size)).trans (hb2.mono (Nat.le_trans hB1.size hba.size))
 go_wp2_with fail
 refine (not_three _).mono ?_
 rintro e w3 ⟨rfl,rfl⟩
 go_wp2_with fail
 go_ret
 exact ⟨rfl,hB2⟩
end Go.Proofs.Ytcfkhnlkfgmoiaa
namespace Go.Proofs.Ytcfkhnlkfgmoiaa.Sx.Z
open Go.RowKit
def bldsC:Con:=fun _ _ args=>match args with | []=>some {val:=.one (.sc (.bool (.sym true))),vc:=[],st:=[]} |_=>none
theorem blds_ok:ConOK Try.prog 8 bldsC:=by
 refine ⟨fun _ _=>by kernel_rfl,?_,fun hp fr l e h=>nomatch ((rfl:bldsC hp fr (.junk::l)=none).symm.trans h)⟩;intro hp fr args e he _ w0 w ρ vs _ _ ha
 cases args with
 |cons x l=>
  have:bldsC hp fr (x::l)=none:=by cases x<;>rfl
  rw [this] at he;cases he
 |nil=>
  cases vs with
  |cons v r=>exact ha.elim
  |nil=>
   have h0:bldsC hp fr []=some {val:=.one (.sc (.bool (.sym true))),vc:=[],st:=[]}:=rfl;rw [h0] at he;obtain rfl:=Option.some.inj he;refine (builds_any w).mono ?_
   rintro en w' ⟨rfl,hb⟩;exact ⟨ρ,_,rfl,rfl,⟨⟨fun _ _ h=>h,fun _ _=>rfl,fun _ _ h=>h,rfl,rfl⟩,fun _ _=>rfl,hb.mono (Nat.zero_le _),fun b hlt _=>hb.block b hlt,fun _ _ h=>by simp [look] at h,fun _ _ h=>by simp [look] at h,fun _ _ _ _ h=>by simp [look] at h,fun _ _ h=>.inl h⟩⟩
end Go.Proofs.Ytcfkhnlkfgmoiaa.Sx.Z
