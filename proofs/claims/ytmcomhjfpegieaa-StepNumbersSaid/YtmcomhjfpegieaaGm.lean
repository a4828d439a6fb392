/-
  flow.loopsHaveHeads of the graph of one assignment.
-/
import Derived.Test.YtmcomhjfpegieaaGl
import Derived.Test.YtmcomhjfpegieaaGb
namespace Go.Proofs.Ytmcomhjfpegieaa
open Go.RowKit
variable {ek em ex : Int} {EA : Option Addr} {en ec : Nat}

theorem mk2_int (W : World) : (Instr.makeSlice 30 (.int .i64 2) (.int .i64 2)).run Try.prog W = .ok (.slice (some ⟨W.heap.size, 0, none⟩) 2 2) (W.alloc (.cells #[.int .i64 0, .int .i64 0] 3)) := by
  obtain ⟨ii, hii, iz0, iz1, iz2⟩ := info_parts info_int
  have h := run_make (P := Try.prog) W 30 3 ii (.int .i64 0) Try.underlying30 hii iz0 .i64 .i64 2 2 (by decide) (by decide) (by rw [iz2]; decide) (by decide)
  rw [iz1, show madeCells (Value.int .i64 0).cells (Int.toNat 2 * 1) = #[.int .i64 0, .int .i64 0] from by kernel_rfl] at h
  exact h
theorem info_edges : (Try.prog.info? 29).map (fun i => (i.zero, i.size, i.bytes)) = some (some (.slice none 0 0), 1, 24) := by kernel_rfl
theorem mk2_edges (W : World) : (Instr.makeSlice 109 (.int .i64 2) (.int .i64 2)).run Try.prog W = .ok (.slice (some ⟨W.heap.size, 0, none⟩) 2 2) (W.alloc (.cells #[.slice none 0 0, .slice none 0 0] 29)) := by
  obtain ⟨ii, hii, iz0, iz1, iz2⟩ := info_parts info_edges
  have h := run_make (P := Try.prog) W 109 29 ii (.slice none 0 0) Try.underlying109 hii iz0 .i64 .i64 2 2 (by decide) (by decide) (by rw [iz2]; decide) (by decide)
  rw [iz1, show madeCells (Value.slice none 0 0).cells (Int.toNat 2 * 1) = #[.slice none 0 0, .slice none 0 0] from by kernel_rfl] at h
  exact h

set_option maxRecDepth 100000 in
set_option maxHeartbeats 4000000 in
theorem loops_one {HH : Option Addr} {hc : Nat} (x0 l x ce cl cx : Nat) (w : World) (hce : 1 ≤ ce) (hcl : 2 ≤ cl) (hcx : 1 ≤ cx) (h0 : x0 < w.heap.size) (hl : l < w.heap.size) (hx : x < w.heap.size) (he : w.rangeAt x0 0 [.int .i64 0, .int .i64 1, .int .i64 1, .int .i64 0, .int .i64 0, .int .i64 0, .int .i64 ek, .int .i64 em, .int .i64 ex, .slice EA en ec, .int .i64 0, .int .i64 0, .int .i64 0, .int .i64 0, .slice none 0 0, .int .i64 0, .int .i64 0, .int .i64 0, .slice none 0 0]) (hxr : w.rangeAt x 0 [.int .i64 0, .int .i64 1, .int .i64 1, .int .i64 0, .int .i64 0, .int .i64 0, .int .i64 ek, .int .i64 em, .int .i64 ex, .slice EA en ec, .int .i64 0, .int .i64 0, .int .i64 0, .int .i64 0, .slice none 0 0, .int .i64 0, .int .i64 0, .int .i64 0, .slice none 0 0])
    (c0 : w.cell? ⟨l, 0, none⟩ = some (.slice (some ⟨x, 0, none⟩) 1 cx)) (c1 : w.cell? ⟨l, 1, none⟩ = some (.slice none 0 0)) :
    Calls Try.prog 42 #[.agg #[.int .i64 2, .slice (some ⟨x0, 0, none⟩) 1 ce, .slice HH 0 hc], .slice (some ⟨l, 0, none⟩) 2 cl] w fun e w' => e = .returned (.bool true) ∧ Below w.heap.size w w' := by
  replace he := Lib.hid he
  replace hxr := Lib.hid hxr
  obtain ⟨ii, hii, iz0, iz1, iz2⟩ := info_parts info_int
  replace hii := Lib.hid hii
  go_enter Try.func42, Try.ntmps42
  have hmk := mk2_int
  go_upto_region 3 with fail
  clear hmk
  refine wp_world (fun W => W.heap[w.heap.size]? = some (.cells #[.int .i64 2, .slice (some ⟨x0, 0, none⟩) 1 ce, .slice HH 0 hc] 32 (0, 0)) ∧ W.heap[w.heap.size + 1]? = some (.cells #[.int .i64 0, .int .i64 0] 3 (0, 0)) ∧ Below w.heap.size w W ∧ W.heap.size = w.heap.size + 2) ⟨blkUp (blkA _ _ rfl) _, blkA _ _ (by simp), ((Below.refl _ _).alloc (Nat.le_refl _) _).alloc (by simp) _, by simp⟩ ?_
  rintro w0 ⟨k0, k1, hB0, hs0⟩
  have r0 := row_of k0
  have r1 := row_of k1
  have fr1 := frozen_of k1 1
  have hlt0 : w.heap.size + 1 < w0.heap.size := by omega
  have he0 := Lib.hid (range_keep hB0 h0 he.out)
  have hd0 := Lib.hid (hB0)
  replace k0 := Lib.hid k0
  replace k1 := Lib.hid k1
  refine wp_loop_rounds 2 ?_
  rw [rounds_succ]
  go_wp2_with (first | (refine ld_mid 28 _ rfl _ _ rfl [.int .i64 0, .int .i64 1, .int .i64 1, .int .i64 0, .int .i64 0, .int .i64 0, .int .i64 ek, .int .i64 em, .int .i64 ex, .slice EA en ec, .int .i64 0, .int .i64 0, .int .i64 0, .int .i64 0, .slice none 0 0, .int .i64 0, .int .i64 0, .int .i64 0, .slice none 0 0] _ he0.out Try.underlying28 rfl info_edge rfl ?_) | (refine wpList_store_new rfl 28 _ _ rfl rfl _ _ _ _ rfl (by first | assumption | rfl | (simp; done) | (simp; omega)) rfl rfl info_edge rfl (by kernel_rfl) ?_))
  rw [rounds_succ]
  go_upto_region 9 with fail
  have hset1 : (w0.setCell ⟨w.heap.size + 1, 1, none⟩ (.int .i64 1)).heap[w.heap.size + 1]? = some (.cells #[.int .i64 0, .int .i64 1] 3 (0, 0)) := by simp [World.setCell, Array.getElem?_modify, k1.out]
  refine wp_world (fun W => W.heap[w.heap.size]? = some (.cells #[.int .i64 2, .slice (some ⟨x0, 0, none⟩) 1 ce, .slice HH 0 hc] 32 (0, 0)) ∧ W.heap[w.heap.size + 1]? = some (.cells #[.int .i64 0, .int .i64 1] 3 (0, 0)) ∧ Below w.heap.size w W) ⟨blkUp (blk_set k0.out (by omega)) _, blkUp hset1 _, (hB0.setCell (Nat.le_succ _) _).alloc (by simp; omega) _⟩ ?_
  rintro w1 ⟨q0, q1, hB1⟩
  clear r0 r1 fr1 he0 hd0 k0 k1 hset1 hlt0 hs0 hB0
  have r0 := row_of q0
  have r1 := row_of q1
  have fr1 := frozen_of q1 1
  have hlt1 := blk_lt q1
  have hz1 := hB1.size
  replace q0 := Lib.hid q0
  replace q1 := Lib.hid q1
  refine wp_loop_rounds 3 ?_
  rw [rounds_succ]
  go_wp2_with (refine wpList_append_lies _ rfl _ _ _ rfl w1.heap.size 3 ii _ 1 8 Try.underlying30 hii.out iz0 iz1 iz2 rfl (by omega) (.slice none 0 0) 0 [] rfl (World.ownsRow_nil _ _ _ _) ⟨w1.heap.size, 0, none⟩ 1 1 [.int .i64 0] rfl rfl (World.news_of_block (cs := #[.int .i64 0]) (t := 3) (fr := (0, 0)) (blkA _ _ rfl)) (by simp [Value.oneCell']) (by omega) (by decide) (by decide) (by simp) (w1.heap.size + 1) (by simp) ?_)
  intro T ct w2 hT hgr2 _ hlt2
  have m0 := grown_blk hgr2 (blkUp q0.out _) (by simp [Value.ownBlock])
  have m1 := grown_blk hgr2 (blkUp q1.out _) (by simp [Value.ownBlock])
  have hB2 : Below w.heap.size w w2 := below_grown hgr2 (hB1.alloc hB1.size _) (Nat.le_refl _) (fun b hb => by simp [Value.ownBlock] at hb)
  clear hgr2 q0 q1 r0 r1 fr1 hB1
  have r0 := row_of m0
  have r1 := row_of m1
  replace m0 := Lib.hid m0
  replace m1 := Lib.hid m1
  replace hT := Lib.hid hT
  go_wp2_with fail
  rw [rounds_succ]
  go_wp2_with fail
  refine (head_no 2 1 (some ⟨x0, 0, none⟩) 1 ce _).mono ?_
  rintro e w3 ⟨rfl, hb3⟩
  have p0 := blk_keep hb3 m0.out
  have p1 := blk_keep hb3 m1.out
  have hT3 := hT.out.kept (row := none) ⟨hb3.os, hb3.tape, hb3.output, hb3.size, fun k hk _ => hb3.block k hk⟩ (by simp [Value.ownBlock])
  have hB3 : Below w.heap.size w w3 := hB2.trans (hb3.mono hB2.size)
  have ct0 : w3.cell? ⟨T, 0, none⟩ = some (.int .i64 0) := hT3.cells rfl 0 _ rfl
  clear hb3 m0 m1 r0 r1 hT hB2
  have r0 := row_of p0
  have r1 := row_of p1
  have fr1 := frozen_of p1 1
  have hxr3 := Lib.hid (range_keep hB3 hx hxr.out)
  have d0 := (hB3.cell (p := ⟨l, 0, none⟩) hl).trans c0
  have d1 := (hB3.cell (p := ⟨l, 1, none⟩) hl).trans c1
  have hTlt := hT3.lt T rfl
  have hlt3 := blk_lt p1
  replace p0 := Lib.hid p0
  replace p1 := Lib.hid p1
  replace hT3 := Lib.hid hT3
  go_wp2_with fail
  rw [rounds_succ]
  go_wp2_with fail
  refine wp_loop_rounds 3 ?_
  rw [rounds_succ]
  go_wp2_with fail
  refine wp_loop_rounds 2 ?_
  rw [rounds_succ]
  go_upto_region 21 with (first | (refine ld_mid 28 _ rfl _ _ rfl [.int .i64 0, .int .i64 1, .int .i64 1, .int .i64 0, .int .i64 0, .int .i64 0, .int .i64 ek, .int .i64 em, .int .i64 ex, .slice EA en ec, .int .i64 0, .int .i64 0, .int .i64 0, .int .i64 0, .slice none 0 0, .int .i64 0, .int .i64 0, .int .i64 0, .slice none 0 0] _ hxr3.out Try.underlying28 rfl info_edge rfl ?_) | (refine wpList_store_new rfl 28 _ _ rfl rfl _ _ _ _ rfl (by first | assumption | rfl | (simp; done) | (simp; omega)) rfl rfl info_edge rfl (by kernel_rfl) ?_))
  have hset2 : (w3.setCell ⟨w.heap.size + 1, 1, none⟩ (.int .i64 0)).heap[w.heap.size + 1]? = some (.cells #[.int .i64 0, .int .i64 0] 3 (0, 0)) := by simp [World.setCell, Array.getElem?_modify, p1.out]
  refine wp_world (fun W => W.heap[w.heap.size]? = some (.cells #[.int .i64 2, .slice (some ⟨x0, 0, none⟩) 1 ce, .slice HH 0 hc] 32 (0, 0)) ∧ W.heap[w.heap.size + 1]? = some (.cells #[.int .i64 0, .int .i64 0] 3 (0, 0)) ∧ W.heap[w3.heap.size]? = some (.cells #[.int .i64 0, .int .i64 1, .int .i64 1, .int .i64 0, .int .i64 0, .int .i64 0, .int .i64 ek, .int .i64 em, .int .i64 ex, .slice EA en ec, .int .i64 0, .int .i64 0, .int .i64 0, .int .i64 0, .slice none 0 0, .int .i64 0, .int .i64 0, .int .i64 0, .slice none 0 0] 28 (0, 0)) ∧ W.ownsRow w1.heap.size 3 1 (.slice (some ⟨T, 0, none⟩) 1 ct) 1 [.int .i64 0] ∧ Below w.heap.size w W ∧ W.heap.size = w3.heap.size + 1)
    ⟨blkUp (blk_set p0.out (by omega)) _, blkUp hset2 _, blkA _ _ (by simp), (own_set hT3.out (by omega)).alloc _, (hB3.setCell (Nat.le_succ _) _).alloc (by simp; omega) _, by simp⟩ ?_
  rintro w4 ⟨q0, q1, q2, hT4, hB4, hs4⟩
  clear r0 r1 fr1 d0 d1 ct0 p0 p1 hT3 hset2 hB3
  have r0 := row_of q0
  have r1 := row_of q1
  have r2 := row_of q2 1
  replace q0 := Lib.hid q0
  replace q1 := Lib.hid q1
  clear q2
  replace hT4 := Lib.hid hT4
  have hz4 : w1.heap.size ≤ w4.heap.size := by omega
  go_wp2_with fail
  refine (head_no 2 1 (some ⟨x0, 0, none⟩) 1 ce _).mono ?_
  rintro e w5 ⟨rfl, hb5⟩
  have p0 := blk_keep hb5 q0.out
  have hT5 := hT4.out.kept (row := none) ⟨hb5.os, hb5.tape, hb5.output, hb5.size, fun k hk _ => hb5.block k hk⟩ (by simp [Value.ownBlock])
  have hB5 : Below w.heap.size w w5 := hB4.trans (hb5.mono hB4.size)
  have hz5 : w1.heap.size ≤ w5.heap.size := Nat.le_trans hz4 hb5.size
  replace p0 := Lib.hid p0
  replace hT5 := Lib.hid hT5
  have er2 : w5.cell? ⟨w3.heap.size, 1, none⟩ = some (.int .i64 1) := (hb5.cell (p := ⟨w3.heap.size, 1, none⟩) (by rw [hs4]; exact Nat.lt_succ_self _)).trans r2
  have hlt5 : w3.heap.size < w5.heap.size := Nat.lt_of_lt_of_le (by rw [hs4]; exact Nat.lt_succ_self _) hb5.size
  clear hb5 q0 q1 r0 r1 r2 hT4 hB4 hs4
  go_upto_region 23 with (refine wpList_append_lies _ rfl _ _ _ rfl w1.heap.size 3 ii _ 1 8 Try.underlying30 hii.out iz0 iz1 iz2 rfl (by omega) (.slice (some ⟨T, 0, none⟩) 1 ct) 1 [.int .i64 0] rfl (hT5.out.alloc _) ⟨w5.heap.size, 0, none⟩ 1 1 [.int .i64 1] rfl rfl (World.news_of_block (cs := #[.int .i64 1]) (t := 3) (fr := (0, 0)) (blkA _ _ rfl)) (by simp [Value.oneCell']) (by omega) (by decide) (by decide) (by simp; omega) (w5.heap.size + 1) (by simp) ?_)
  intro T2 c2 w6 hT6 hgr6 _ hlt6
  have m0 := grown_blk hgr6 (blkUp p0.out _) (by simp [Value.ownBlock]; omega)
  have hB6 : Below w.heap.size w w6 := below_grown hgr6 (hB5.alloc hB5.size _) (Nat.le_refl _) (fun b hb => by simp [Value.ownBlock] at hb; omega)
  have ct1 : w6.cell? ⟨T2, 1, none⟩ = some (.int .i64 1) := hT6.cells rfl 1 _ rfl
  have d1 := (hB6.cell (p := ⟨l, 1, none⟩) hl).trans c1
  have r0 := row_of m0
  clear hgr6 p0 hT5 hB5 m0 hT6
  go_wp2_with fail
  rw [rounds_succ]
  go_wp2_with fail
  rw [rounds_succ]
  go_wp2_with fail
  refine wp_loop_rounds 1 ?_
  rw [rounds_succ]
  go_wp2_with fail
  rw [rounds_succ]
  go_wp2_with fail
  go_ret
  exact ⟨rfl, hB6⟩
end Go.Proofs.Ytmcomhjfpegieaa

