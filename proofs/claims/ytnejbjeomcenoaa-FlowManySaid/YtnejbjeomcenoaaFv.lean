/-
  flow.lay and flow.Build where there are too many edges.
-/
import Derived.Test.YtnejbjeomcenoaaFk
namespace Go.Proofs.Ytnejbjeomcenoaa
open Go.RowKit

set_option maxRecDepth 100000 in
set_option maxHeartbeats 4000000 in
theorem lay_full (w : World) (D : Option Addr) (k cap : Nat) (L : Nat → List Value) (f : Nat → Int → Int → Ls → Ls) (hk : k ≤ 1000) (hk0 : 0 < k) (hkc : k ≤ cap)
    (hm : ElemsAt w w.heap.size D k 20 L) (hs : ∀ i, i < k → ∀ W base, Below w.heap.size w W → w.heap.size ≤ base → StLay W base (L i) (f i)) (hf : ∀ i a b s, s.N ≤ (f i a b s).N ∧ (f i a b s).N ≤ s.N + 1000)
    (S : Ls) (hS : bodyF f 1 k 0 0 ls0 = S) (hmany : 400 < S.ne) :
    Calls Try.prog 15 #[.slice D k cap] w fun e w' => e = .returned (.tuple #[.agg #[.int .i64 0, .slice none 0 0, .slice none 0 0], .int .i64 10]) ∧ Below w.heap.size w w' := by
  replace hm := Lib.hid hm
  replace hs := Lib.hid hs
  replace hf := Lib.hid hf
  replace hS := Lib.hid hS
  have hfd : decide (400 < S.ne) = true := by simpa using hmany
  go_enter Try.func15, Try.ntmps15
  go_upto_region 2 with fail
  refine wp_world (fun W => W.heap[w.heap.size]? = some (.cells #[.int .i64 0, .slice none 0 0, .slice none 0 0] 50 (0, 0)) ∧ W.heap[w.heap.size + 1]? = some (.cells #[.int .i64 2, .slice none 0 0, .slice none 0 0] 71 (0, 0)) ∧ Below w.heap.size w W ∧ W.heap.size = w.heap.size + 2) ⟨blkUp (blkA _ _ rfl) _, blkA _ _ (by simp), ((Below.refl _ _).alloc (Nat.le_refl _) _).alloc (by simp) _, by simp⟩ ?_
  rintro w0 ⟨k0, k1, hB0, hs0⟩
  have hL0 : LayS w0 (w.heap.size + 1) (w.heap.size + 1) ls0 := ⟨none, none, 0, 0, k1, World.ownsRow_nil _ _ _ _, World.ownsRow_nil _ _ _ _, Nat.le_refl _, fun b hb => by simp [Value.ownBlock] at hb, fun b hb => by simp [Value.ownBlock] at hb⟩
  replace k0 := Lib.hid k0
  clear k1
  go_wp2_with fail
  refine (lay_body w0 (w.heap.size + 1) (w.heap.size + 1) ls0 D k cap L f 0 1 hk hk0 hkc (by decide) (by decide) (hm.out.below hB0 (Nat.le_succ _)) (fun i hi => hs.out i hi w0 _ hB0 (Nat.le_succ _)) hf.out hL0).mono ?_
  rintro e w1 ⟨rfl, hL, hb1⟩
  rw [hS.out] at hL
  have k1 := (hb1.block w.heap.size (Nat.lt_succ_self _)).trans k0.out
  have hB1 : Below w.heap.size w w1 := hB0.trans (hb1.mono (Nat.le_succ _))
  obtain ⟨E, H, ce, ch, hg, hE, hH, _, _, _⟩ := hL
  have rg := row_of hg
  have rk := row_of k1
  have f0 := frozen_of k1 0
  have f1 := frozen_of k1 1
  have f2 := frozen_of k1 2
  have kg := Lib.hid hg
  replace hE := Lib.hid hE
  replace hH := Lib.hid hH
  clear hg k1 hb1 hB0 hs0 hL0 k0
  go_wp2_with fail
  refine (full_any _ _ _ _ _ _ _ kg.out).mono ?_
  rintro e w2 ⟨rfl, rfl⟩
  go_wp2_with fail
  exact bodyPost_ret (v := .tuple #[.agg #[.int .i64 0, .slice none 0 0, .slice none 0 0], .int .i64 10]) (by simp [results, Try.results15, go_sem, rk]) rfl ⟨rfl, by first | exact hB1 | exact ((hB1.setCell (Nat.le_refl _) _).setCell (Nat.le_refl _) _).setCell (Nat.le_refl _) _⟩
set_option maxRecDepth 100000 in
set_option maxHeartbeats 4000000 in
theorem build_full (v : Int) (h : Nat) (cp : Nat) (D : Option Addr) (k cap : Nat) (L : Nat → List Value) (w : World) (hv0 : 0 ≤ v) (hv6 : v ≤ 6) (hk : k ≤ 1000) (hk0 : 0 < k) (hkc : k ≤ cap) (hcp : 1 ≤ cp)
    (hh : h < w.heap.size) (hp : w.rangeAt h 0 [.int .i64 v, .slice D k cap]) (hm : ElemsAt w w.heap.size D k 20 L) (hs : ∀ i, i < k → StOk w none 0 0 0 v (L i))
    (f : Nat → Int → Int → Ls → Ls) (hs' : ∀ i, i < k → ∀ W base, Below w.heap.size w W → w.heap.size ≤ base → StLay W base (L i) (f i)) (hf : ∀ i a b s, s.N ≤ (f i a b s).N ∧ (f i a b s).N ≤ s.N + 1000)
    (S : Ls) (hS : bodyF f 1 k 0 0 ls0 = S) (hmany : 400 < S.ne) :
    Calls Try.prog 9 #[.agg #[.slice none 0 0, .slice (some ⟨h, 0, none⟩) 1 cp]] w fun e w' => e = .returned (.tuple #[.agg #[.slice none 0 0, .slice none 0 0, .slice none 0 0], .int .i64 10]) ∧ Below w.heap.size w w' := by
  replace hm := Lib.hid hm
  replace hs := Lib.hid hs
  replace hs' := Lib.hid hs'
  replace hp := Lib.hid hp
  replace hf := Lib.hid hf
  replace hS := Lib.hid hS
  go_enter Try.func9, Try.ntmps9
  go_upto_region 1 with fail
  refine wp_world (fun W => W.heap[w.heap.size]? = some (.cells #[.slice none 0 0, .slice (some ⟨h, 0, none⟩) 1 cp] 32 (0, 0)) ∧ W.heap[w.heap.size + 1]? = some (.cells #[.slice none 0 0, .slice none 0 0, .slice none 0 0] 44 (0, 0)) ∧ Below w.heap.size w W ∧ W.heap.size = w.heap.size + 2) ⟨blkUp (blkA _ _ rfl) _, blkA _ _ (by simp), ((Below.refl _ _).alloc (Nat.le_refl _) _).alloc (by simp) _, by simp⟩ ?_
  rintro w0 ⟨k0, k1, hB0, hs0⟩
  have r0 := row_of k0
  replace k0 := Lib.hid k0
  replace k1 := Lib.hid k1
  go_wp2_with fail
  refine (right_one v h cp D k cap L w0 hv0 hv6 (by omega) hkc hcp (by omega) (range_keep hB0 hh hp.out) (hm.out.below hB0 hB0.size) (fun i hi W hW => hs.out i hi W (hB0.trans (hW.mono hB0.size)))).mono ?_
  rintro e w1 ⟨rfl, hb1⟩
  have q0 := Lib.hid (blk_keep hb1 k0.out)
  have q1 := Lib.hid (blk_keep hb1 k1.out)
  have hB1 : Below w.heap.size w w1 := hB0.trans (hb1.mono hB0.size)
  have hz1 : w.heap.size + 2 ≤ w1.heap.size := by have := hb1.size; omega
  clear k0 k1 hb1 hB0 hs0 r0
  have r0 := row_of q0.out
  have hlt0 : w.heap.size < w1.heap.size := by omega
  go_wp2_with fail
  refine wp_loop_rounds 1 ?_
  rw [rounds_succ]
  go_wp2_with fail
  refine wp_loop_rounds 2 ?_
  rw [rounds_succ]
  go_upto_region 12 with (refine ld_mid 28 _ rfl _ _ rfl [.int .i64 v, .slice D k cap] _ (range_keep ((Below.refl _ _).alloc (Nat.le_refl _) _) (by omega) (range_keep hB1 hh hp.out)) Try.underlying28 rfl (by kernel_rfl) rfl ?_)
  refine wp_world (fun W => W.heap[w.heap.size + 1]? = some (.cells #[.slice none 0 0, .slice none 0 0, .slice none 0 0] 44 (0, 0)) ∧ W.heap[w1.heap.size]? = some (.cells #[.slice none 0 0, .slice none 0 0, .slice none 0 0] 44 (0, 0)) ∧ W.heap[w1.heap.size + 1]? = some (.cells #[.int .i64 v, .slice D k cap] 28 (0, 0)) ∧ Below w.heap.size w W ∧ W.heap.size = w1.heap.size + 2) ⟨blkUp (blkUp q1.out _) _, blkUp (blkA _ _ rfl) _, blkA _ _ (by simp), (hB1.alloc hB1.size _).alloc (by simp; omega) _, by simp⟩ ?_
  rintro w2 ⟨m1, ms, mp, hB2, hs2⟩
  have rp := row_of mp
  replace m1 := Lib.hid m1
  replace ms := Lib.hid ms
  replace mp := Lib.hid mp
  clear q0 q1 r0
  go_wp2_with fail
  refine (lay_full w2 D k cap L f hk hk0 hkc (hm.out.below hB2 hB2.size) (fun i hi W base hW hb => hs'.out i hi W base (hB2.trans (hW.mono hB2.size)) (Nat.le_trans hB2.size hb)) hf.out S hS.out hmany).mono ?_
  rintro e w3 ⟨rfl, hb3⟩
  have n1 := blk_keep hb3 m1.out
  have hB3 : Below w.heap.size w w3 := hB2.trans (hb3.mono hB2.size)
  have hz3 : w1.heap.size + 2 ≤ w3.heap.size := by have := hb3.size; omega
  have r1 := row_of n1
  have f0 := frozen_of n1 0
  have f1 := frozen_of n1 1
  have f2 := frozen_of n1 2
  have hl1 := blk_lt n1
  clear hb3 hB2 hs2 rp n1
  go_wp2_with fail
  exact bodyPost_ret (v := .tuple #[.agg #[.slice none 0 0, .slice none 0 0, .slice none 0 0], .int .i64 10]) (by simp [results, Try.results9, go_sem, r1, hl1]) rfl ⟨rfl, by first | exact ((((hB3.alloc hB3.size _).setCell (Nat.le_succ _) _).setCell (Nat.le_succ _) _).setCell (Nat.le_succ _) _) | exact ((((hB3.setCell (Nat.le_succ _) _).setCell (Nat.le_succ _) _).setCell (Nat.le_succ _) _).alloc (by simp; omega) _)⟩
end Go.Proofs.Ytnejbjeomcenoaa

