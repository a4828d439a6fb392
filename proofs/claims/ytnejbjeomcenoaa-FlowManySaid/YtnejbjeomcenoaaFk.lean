/-
  flow.Build of a system without channels and of one process.
-/
import Derived.Test.YtnejbjeomcenoaaFj
import Derived.Test.YtnejbjeomcenoaaFe
namespace Go.Proofs.Ytnejbjeomcenoaa
open Go.RowKit

/-- What Build tells: one graph, and one count of variables; all is new. -/
def BuildOut (w : World) (S : Ls) (v : Int) (e : Ending) (w' : World) : Prop :=
  ∃ (E H : Option Addr) (ce ch G cg V cv : Nat), e = .returned (.tuple #[.agg #[.slice none 0 0, .slice (some ⟨G, 0, none⟩) 1 cg, .slice (some ⟨V, 0, none⟩) 1 cv], .int .i64 0]) ∧
    w'.ownsRow w.heap.size 55 19 (.slice E S.ne ce) S.ne S.es ∧ w'.ownsRow w.heap.size 3 1 (.slice H S.nh ch) S.nh S.hs ∧
    w'.ownsRow w.heap.size 50 3 (.slice (some ⟨G, 0, none⟩) 1 cg) 1 [.int .i64 S.N, .slice E S.ne ce, .slice H S.nh ch] ∧
    w'.ownsRow w.heap.size 3 1 (.slice (some ⟨V, 0, none⟩) 1 cv) 1 [.int .i64 v] ∧ Below w.heap.size w w'
theorem info_graph : (Try.prog.info? 50).map (fun i => (i.zero, i.size, i.bytes)) = some (some (.agg #[.int .i64 0, .slice none 0 0, .slice none 0 0]), 3, 56) := by kernel_rfl
theorem info_int : (Try.prog.info? 3).map (fun i => (i.zero, i.size, i.bytes)) = some (some (.int .i64 0), 1, 8) := by kernel_rfl

set_option maxRecDepth 100000 in
set_option maxHeartbeats 4000000 in
theorem build_one (v : Int) (h : Nat) (cp : Nat) (D : Option Addr) (k cap : Nat) (L : Nat → List Value) (w : World) (hv0 : 0 ≤ v) (hv6 : v ≤ 6) (hk : k ≤ 1000) (hk0 : 0 < k) (hkc : k ≤ cap) (hcp : 1 ≤ cp)
    (hh : h < w.heap.size) (hp : w.rangeAt h 0 [.int .i64 v, .slice D k cap]) (hm : ElemsAt w w.heap.size D k 20 L) (hs : ∀ i, i < k → StOk w none 0 0 0 v (L i))
    (f : Nat → Int → Int → Ls → Ls) (hs' : ∀ i, i < k → ∀ W base, Below w.heap.size w W → w.heap.size ≤ base → StLay W base (L i) (f i)) (hf : ∀ i a b s, s.N ≤ (f i a b s).N ∧ (f i a b s).N ≤ s.N + 1000)
    (S : Ls) (hS : bodyF f 1 k 0 0 ls0 = S) (hfew : S.ne ≤ 400) (hnh : S.nh ≤ 1) :
    Calls Try.prog 9 #[.agg #[.slice none 0 0, .slice (some ⟨h, 0, none⟩) 1 cp]] w fun e w' => BuildOut w S v e w' := by
  obtain ⟨ig, hig, gz0, gz1, gz2⟩ := info_parts info_graph
  obtain ⟨ii, hii, iz0, iz1, iz2⟩ := info_parts info_int
  replace hig := Lib.hid hig
  replace hii := Lib.hid hii
  replace hm := Lib.hid hm
  replace hs := Lib.hid hs
  replace hs' := Lib.hid hs'
  replace hp := Lib.hid hp
  replace hf := Lib.hid hf
  replace hS := Lib.hid hS
  go_enter Try.func9, Try.ntmps9
  go_upto_region 1 with fail
  refine wp_world (fun W => W.heap[w.heap.size]? = some (.cells #[.slice none 0 0, .slice (some ⟨h, 0, none⟩) 1 cp] 32 (0, 0)) ∧ W.heap[w.heap.size + 1]? = some (.cells #[.slice none 0 0, .slice none 0 0, .slice none 0 0] 44 (0, 0)) ∧ Below w.heap.size w W ∧ W.heap.size = w.heap.size + 2) ⟨blkUp (blkA _ _ rfl) _, blkA _ _ (by simp), ((Below.refl _ _).alloc (Nat.le_refl _) _).alloc (by simp) _, by simp⟩ ?_
  rintro w0 ⟨k0, k1, hB0, hs0⟩
  have r0 := row_of k0
  replace k0 := Lib.hid k0
  replace k1 := Lib.hid k1
  go_wp2_with fail
  refine (right_one v h cp D k cap L w0 hv0 hv6 (by omega) hkc hcp (by omega) (range_keep hB0 hh hp.out) (hm.out.below hB0 hB0.size) (fun i hi W hW => hs.out i hi W (hB0.trans (hW.mono hB0.size)))).mono ?_
  rintro e w1 ⟨rfl, hb1⟩
  have q0 := Lib.hid (blk_keep hb1 k0.out)
  have q1 := Lib.hid (blk_keep hb1 k1.out)
  have hB1 : Below w.heap.size w w1 := hB0.trans (hb1.mono hB0.size)
  have hz1 : w.heap.size + 2 ≤ w1.heap.size := by have := hb1.size; omega
  clear k0 k1 hb1 hB0 hs0 r0
  have r0 := row_of q0.out
  have hlt0 : w.heap.size < w1.heap.size := by omega
  go_wp2_with fail
  refine wp_loop_rounds 1 ?_
  rw [rounds_succ]
  go_wp2_with fail
  refine wp_loop_rounds 2 ?_
  rw [rounds_succ]
  go_upto_region 12 with (refine ld_mid 28 _ rfl _ _ rfl [.int .i64 v, .slice D k cap] _ (range_keep ((Below.refl _ _).alloc (Nat.le_refl _) _) (by omega) (range_keep hB1 hh hp.out)) Try.underlying28 rfl (by kernel_rfl) rfl ?_)
  refine wp_world (fun W => W.heap[w.heap.size + 1]? = some (.cells #[.slice none 0 0, .slice none 0 0, .slice none 0 0] 44 (0, 0)) ∧ W.heap[w1.heap.size]? = some (.cells #[.slice none 0 0, .slice none 0 0, .slice none 0 0] 44 (0, 0)) ∧ W.heap[w1.heap.size + 1]? = some (.cells #[.int .i64 v, .slice D k cap] 28 (0, 0)) ∧ Below w.heap.size w W ∧ W.heap.size = w1.heap.size + 2) ⟨blkUp (blkUp q1.out _) _, blkUp (blkA _ _ rfl) _, blkA _ _ (by simp), (hB1.alloc hB1.size _).alloc (by simp; omega) _, by simp⟩ ?_
  rintro w2 ⟨m1, ms, mp, hB2, hs2⟩
  have rp := row_of mp
  replace m1 := Lib.hid m1
  replace ms := Lib.hid ms
  replace mp := Lib.hid mp
  clear q0 q1 r0
  go_wp2_with fail
  refine (lay_ok w2 D k cap L f hk hk0 hkc (hm.out.below hB2 hB2.size) (fun i hi W base hW hb => hs'.out i hi W base (hB2.trans (hW.mono hB2.size)) (Nat.le_trans hB2.size hb)) hf.out S hS.out hfew hnh).mono ?_
  rintro e w3 ⟨E, H, ce, ch, rfl, hE, hH, hb3⟩
  rw [hs2] at hE hH
  replace hE := Lib.hid hE
  replace hH := Lib.hid hH
  replace m1 := Lib.hid (blk_keep hb3 m1.out)
  replace ms := Lib.hid (blk_keep hb3 ms.out)
  replace mp := Lib.hid (blk_keep hb3 mp.out)
  have hB3 : Below w.heap.size w w3 := hB2.trans (hb3.mono hB2.size)
  have hz3 : w1.heap.size + 2 ≤ w3.heap.size := by have := hb3.size; omega
  clear hb3 hB2 hs2 rp
  go_upto_region 15 with fail
  refine wp_world (fun W => W.heap[w.heap.size + 1]? = some (.cells #[.slice none 0 0, .slice none 0 0, .slice none 0 0] 44 (0, 0)) ∧ W.heap[w1.heap.size]? = some (.cells #[.slice none 0 0, .slice none 0 0, .slice none 0 0] 44 (0, 0)) ∧ W.heap[w1.heap.size + 1]? = some (.cells #[.int .i64 v, .slice D k cap] 28 (0, 0)) ∧ W.heap[w3.heap.size]? = some (.cells #[.int .i64 S.N, .slice E S.ne ce, .slice H S.nh ch] 50 (0, 0)) ∧
    W.ownsRow (w1.heap.size + 2) 55 19 (.slice E S.ne ce) S.ne S.es ∧ W.ownsRow (w1.heap.size + 2) 3 1 (.slice H S.nh ch) S.nh S.hs ∧ Below w.heap.size w W ∧ W.heap.size = w3.heap.size + 1) ⟨blkUp m1.out _, blkUp ms.out _, blkUp mp.out _, blkA _ _ rfl, hE.out.alloc _, hH.out.alloc _, hB3.alloc hB3.size _, by simp⟩ ?_
  rintro w4 ⟨n1, ns, np, ng, hE4, hH4, hB4, hs4⟩
  have rs := row_of ns
  have rg := row_of ng
  have fs1 := frozen_of ns 1
  replace n1 := Lib.hid n1
  replace ns := Lib.hid ns
  replace np := Lib.hid np
  replace ng := Lib.hid ng
  replace hE4 := Lib.hid hE4
  replace hH4 := Lib.hid hH4
  clear hE hH m1 ms mp hB3
  go_upto_region 16 with (refine wpList_append_lies _ rfl _ _ _ rfl (w1.heap.size + 2) 50 ig _ 3 56 Try.underlying41 hig.out gz0 gz1 gz2 rfl (by omega) (.slice none 0 0) 0 [] rfl (World.ownsRow_nil _ _ _ _) ⟨w3.heap.size + 1, 0, none⟩ 1 1 [.int .i64 S.N, .slice E S.ne ce, .slice H S.nh ch] rfl rfl (World.news_of_block (cs := #[.int .i64 S.N, .slice E S.ne ce, .slice H S.nh ch]) (t := 50) (fr := (0, 0)) (blkA _ _ hs4)) (by simp [Value.oneCell']) (by omega) (by decide) (by decide) (by simp; omega) (w3.heap.size + 2) (by simp [hs4]) ?_)
  intro G cg w5 hG hgr5 _ hlt5
  have e1 := grown_blk hgr5 (blkUp n1.out _) (by simp [Value.ownBlock])
  have es := grown_blk hgr5 (blkUp ns.out _) (by simp [Value.ownBlock])
  have ep := grown_blk hgr5 (blkUp np.out _) (by simp [Value.ownBlock])
  have hE5 := Lib.hid ((hE4.out.alloc _).kept hgr5 (by cases E <;> simp [Value.ownBlock]))
  have hH5 := Lib.hid ((hH4.out.alloc _).kept hgr5 (by cases H <;> simp [Value.ownBlock]))
  have hB5 : Below w.heap.size w w5 := below_grown hgr5 (hB4.alloc hB4.size _) (Nat.le_refl _) (fun b hb => by simp [Value.ownBlock] at hb)
  have hz5 : w3.heap.size + 2 ≤ w5.heap.size := by have := hgr5.size; simp at this; omega
  have rs5 := row_of es
  have fs5 := frozen_of es 1
  replace hG := Lib.hid hG
  replace e1 := Lib.hid e1
  replace es := Lib.hid es
  replace ep := Lib.hid ep
  clear hgr5 n1 ns np ng hE4 hH4 hB4 hs4 rs rg fs1
  go_upto_region 16 with fail
  have hset1 : (w5.setCell ⟨w1.heap.size, 1, none⟩ (.slice (some ⟨G, 0, none⟩) 1 cg)).heap[w1.heap.size]? = some (.cells #[.slice none 0 0, .slice (some ⟨G, 0, none⟩) 1 cg, .slice none 0 0] 44 (0, 0)) := by simp [World.setCell, Array.getElem?_modify, es.out]
  refine wp_world (fun W => W.heap[w.heap.size + 1]? = some (.cells #[.slice none 0 0, .slice none 0 0, .slice none 0 0] 44 (0, 0)) ∧ W.heap[w1.heap.size]? = some (.cells #[.slice none 0 0, .slice (some ⟨G, 0, none⟩) 1 cg, .slice none 0 0] 44 (0, 0)) ∧ W.heap[w1.heap.size + 1]? = some (.cells #[.int .i64 v, .slice D k cap] 28 (0, 0)) ∧
    W.ownsRow (w1.heap.size + 2) 55 19 (.slice E S.ne ce) S.ne S.es ∧ W.ownsRow (w1.heap.size + 2) 3 1 (.slice H S.nh ch) S.nh S.hs ∧ W.ownsRow (w1.heap.size + 2) 50 3 (.slice (some ⟨G, 0, none⟩) 1 cg) 1 [.int .i64 S.N, .slice E S.ne ce, .slice H S.nh ch] ∧ Below w.heap.size w W ∧ W.heap.size = w5.heap.size)
    ⟨blk_set e1.out (by omega), hset1, blk_set ep.out (by omega), own_set hE5.out (by omega), own_set hH5.out (by omega), own_set hG.out (by omega), hB5.setCell hB1.size _, by simp⟩ ?_
  rintro w6 ⟨n1, ns, np, hE6, hH6, hG6, hB6, hs6⟩
  have rs := row_of ns
  have rp := row_of np
  have fs2 := frozen_of ns 2
  replace n1 := Lib.hid n1
  replace ns := Lib.hid ns
  replace np := Lib.hid np
  replace hE6 := Lib.hid hE6
  replace hH6 := Lib.hid hH6
  replace hG6 := Lib.hid hG6
  clear hE5 hH5 hG hB5 e1 es ep rs5 fs5 hset1
  go_upto_region 17 with (refine wpList_append_lies _ rfl _ _ _ rfl (w1.heap.size + 2) 3 ii _ 1 8 Try.underlying42 hii.out iz0 iz1 iz2 rfl (by omega) (.slice none 0 0) 0 [] rfl (World.ownsRow_nil _ _ _ _) ⟨w5.heap.size, 0, none⟩ 1 1 [.int .i64 v] rfl rfl (World.news_of_block (cs := #[.int .i64 v]) (t := 3) (fr := (0, 0)) (blkA _ _ hs6)) (by simp [Value.oneCell']) (by omega) (by decide) (by decide) (by simp; omega) (w5.heap.size + 1) (by simp [hs6]) ?_)
  intro V cv w7 hV hgr7 _ hlt7
  have e1 := grown_blk hgr7 (blkUp n1.out _) (by simp [Value.ownBlock])
  have es := grown_blk hgr7 (blkUp ns.out _) (by simp [Value.ownBlock])
  have hE7 := Lib.hid ((hE6.out.alloc _).kept hgr7 (by cases E <;> simp [Value.ownBlock]))
  have hH7 := Lib.hid ((hH6.out.alloc _).kept hgr7 (by cases H <;> simp [Value.ownBlock]))
  have hG7 := Lib.hid ((hG6.out.alloc _).kept hgr7 (by simp [Value.ownBlock]))
  have hB7 : Below w.heap.size w w7 := below_grown hgr7 (hB6.alloc hB6.size _) (Nat.le_refl _) (fun b hb => by simp [Value.ownBlock] at hb)
  have hz7 : w3.heap.size + 2 ≤ w7.heap.size := by have := hgr7.size; simp at this; omega
  have rs7 := row_of es
  have fs7 := frozen_of es 2
  replace hV := Lib.hid hV
  replace e1 := Lib.hid e1
  replace es := Lib.hid es
  clear hgr7 n1 ns np hE6 hH6 hG6 hB6 hs6 rs rp fs2
  go_upto_region 17 with fail
  have hset2 : (w7.setCell ⟨w1.heap.size, 2, none⟩ (.slice (some ⟨V, 0, none⟩) 1 cv)).heap[w1.heap.size]? = some (.cells #[.slice none 0 0, .slice (some ⟨G, 0, none⟩) 1 cg, .slice (some ⟨V, 0, none⟩) 1 cv] 44 (0, 0)) := by simp [World.setCell, Array.getElem?_modify, es.out]
  refine wp_world (fun W => W.heap[w.heap.size + 1]? = some (.cells #[.slice none 0 0, .slice none 0 0, .slice none 0 0] 44 (0, 0)) ∧ W.heap[w1.heap.size]? = some (.cells #[.slice none 0 0, .slice (some ⟨G, 0, none⟩) 1 cg, .slice (some ⟨V, 0, none⟩) 1 cv] 44 (0, 0)) ∧
    W.ownsRow (w1.heap.size + 2) 55 19 (.slice E S.ne ce) S.ne S.es ∧ W.ownsRow (w1.heap.size + 2) 3 1 (.slice H S.nh ch) S.nh S.hs ∧ W.ownsRow (w1.heap.size + 2) 50 3 (.slice (some ⟨G, 0, none⟩) 1 cg) 1 [.int .i64 S.N, .slice E S.ne ce, .slice H S.nh ch] ∧ W.ownsRow (w1.heap.size + 2) 3 1 (.slice (some ⟨V, 0, none⟩) 1 cv) 1 [.int .i64 v] ∧ Below w.heap.size w W)
    ⟨blk_set e1.out (by omega), hset2, own_set hE7.out (by omega), own_set hH7.out (by omega), own_set hG7.out (by omega), own_set hV.out (by omega), hB7.setCell hB1.size _⟩ ?_
  rintro w8 ⟨n1, ns, hE8, hH8, hG8, hV8, hB8⟩
  have rs := row_of ns
  have r1 := row_of n1
  have f0 := frozen_of n1 0
  have f1 := frozen_of n1 1
  have f2 := frozen_of n1 2
  replace hE8 := Lib.hid hE8
  replace hH8 := Lib.hid hH8
  replace hG8 := Lib.hid hG8
  replace hV8 := Lib.hid hV8
  clear hE7 hH7 hG7 hV hB7 e1 es rs7 fs7 hset2 n1 ns
  go_wp2_with fail
  rw [rounds_succ]
  go_wp2_with fail
  have hx : w.heap.size + 1 < w1.heap.size + 2 := by omega
  have hb0 : w.heap.size ≤ w1.heap.size + 2 := by omega
  exact bodyPost_ret (v := .tuple #[.agg #[.slice none 0 0, .slice (some ⟨G, 0, none⟩) 1 cg, .slice (some ⟨V, 0, none⟩) 1 cv], .int .i64 0]) (by simp [results, Try.results9, go_sem, r1]) rfl ⟨E, H, ce, ch, G, cg, V, cv, rfl,
    own_base (own_set (own_set (own_set hE8.out (o := 0) (x := .slice none 0 0) hx) (o := 1) (x := .slice (some ⟨G, 0, none⟩) 1 cg) hx) (o := 2) (x := .slice (some ⟨V, 0, none⟩) 1 cv) hx) hb0,
    own_base (own_set (own_set (own_set hH8.out (o := 0) (x := .slice none 0 0) hx) (o := 1) (x := .slice (some ⟨G, 0, none⟩) 1 cg) hx) (o := 2) (x := .slice (some ⟨V, 0, none⟩) 1 cv) hx) hb0,
    own_base (own_set (own_set (own_set hG8.out (o := 0) (x := .slice none 0 0) hx) (o := 1) (x := .slice (some ⟨G, 0, none⟩) 1 cg) hx) (o := 2) (x := .slice (some ⟨V, 0, none⟩) 1 cv) hx) hb0,
    own_base (own_set (own_set (own_set hV8.out (o := 0) (x := .slice none 0 0) hx) (o := 1) (x := .slice (some ⟨G, 0, none⟩) 1 cg) hx) (o := 2) (x := .slice (some ⟨V, 0, none⟩) 1 cv) hx) hb0,
    ((hB8.setCell (Nat.le_succ _) _).setCell (Nat.le_succ _) _).setCell (Nat.le_succ _) _⟩
end Go.Proofs.Ytnejbjeomcenoaa

