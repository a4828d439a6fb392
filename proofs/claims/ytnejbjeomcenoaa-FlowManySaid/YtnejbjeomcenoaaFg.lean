/-
  flow's layer: copies of leaves; the statements Assign and Input.
-/
import Derived.Test.YtnejbjeomcenoaaFf
namespace Go.Proofs.Ytnejbjeomcenoaa
open Go.RowKit

set_option maxRecDepth 100000 in
set_option maxHeartbeats 2000000 in
theorem copy_leaf (x0 x1 x2 : Int) (w : World) :
    Calls Try.prog 48 #[.agg #[.int .i64 x0, .int .i64 x1, .int .i64 x2, .slice none 0 0]] w fun e w' => e = .returned (.agg #[.int .i64 x0, .int .i64 x1, .int .i64 x2, .slice none 0 0]) ∧ Below w.heap.size w w' := by
  go_enter Try.func48, Try.ntmps48
  go_wp2_with fail
  go_loop [3, 9] (fun k i => k = .slice none 0 0 ∧ i = .int .i64 0) (fun _ _ => 0)
  case atStart => exact ⟨rfl, rfl⟩
  case round =>
    obtain ⟨rfl, rfl⟩ := hrel
    go_wp2_with fail
    exact bodyPost_ret (v := .agg #[.int .i64 x0, .int .i64 x1, .int .i64 x2, .slice none 0 0]) (by simp [results, Try.results48, go_sem]) rfl ⟨rfl, by go_grown⟩

set_option maxRecDepth 100000 in
set_option maxHeartbeats 4000000 in
theorem lay_inp (w : World) (base g : Nat) (N : Int) (ne : Nat) (es : List Value) (nh : Nat) (hs : List Value) (v a b : Int) (h : LayAt w base g N ne es nh hs) (hn : ne ≤ 100000) :
    Calls Try.prog 35 #[.pointer (some ⟨g, 0, none⟩), .agg #[.int .i64 7, .int .i64 v, .int .i64 0, .int .i64 0, .int .i64 0, .int .i64 0, .int .i64 0, .slice none 0 0, .int .i64 0, .int .i64 0, .int .i64 0, .int .i64 0, .slice none 0 0, .int .i64 0, .int .i64 0, .int .i64 0, .slice none 0 0, .slice none 0 0, .slice none 0 0, .slice none 0 0], .int .i64 a, .int .i64 b] w fun e w' => e = .returned (.tuple #[]) ∧ LayAt w' base g N (ne + 1) (es ++ [.int .i64 a, .int .i64 b, .int .i64 6, .int .i64 v, .int .i64 0, .int .i64 0, .int .i64 0, .int .i64 0, .int .i64 0, .slice none 0 0, .int .i64 0, .int .i64 0, .int .i64 0, .int .i64 0, .slice none 0 0, .int .i64 0, .int .i64 0, .int .i64 0, .slice none 0 0]) nh hs ∧ Below base w w' := by
  have hbl : base ≤ w.heap.size := by
    obtain ⟨E, H, ce, ch, hg, hE, hH, hbg, hEg, hHg⟩ := h
    have := blk_lt hg
    omega
  have HL := Lib.hid (lay_below h ((Below.refl _ w).alloc (Nat.le_refl _) (.cells #[.int .i64 7, .int .i64 v, .int .i64 0, .int .i64 0, .int .i64 0, .int .i64 0, .int .i64 0, .slice none 0 0, .int .i64 0, .int .i64 0, .int .i64 0, .int .i64 0, .slice none 0 0, .int .i64 0, .int .i64 0, .int .i64 0, .slice none 0 0, .slice none 0 0, .slice none 0 0, .slice none 0 0] 40)))
  clear h
  go_enter Try.func35, Try.ntmps35
  go_wp2_with fail
  refine (edge_any _ base g N ne es nh hs [.int .i64 a, .int .i64 b, .int .i64 6, .int .i64 v, .int .i64 0, .int .i64 0, .int .i64 0, .int .i64 0, .int .i64 0, .slice none 0 0, .int .i64 0, .int .i64 0, .int .i64 0, .int .i64 0, .slice none 0 0, .int .i64 0, .int .i64 0, .int .i64 0, .slice none 0 0] HL.out hn ⟨_, _, _, _, _, _, _, _, _, _, _, _, _, _, _, _, _, _, _, _, _, _, _, _, _, rfl⟩).mono ?_
  rintro e w1 ⟨rfl, hL, hb⟩
  replace hL := Lib.hid hL
  go_wp2_with fail
  go_end0
  exact ⟨rfl, hL.out, ((Below.refl _ _).alloc hbl _).trans hb⟩

set_option maxRecDepth 100000 in
set_option maxHeartbeats 4000000 in
theorem lay_asg (w : World) (base g : Nat) (N : Int) (ne : Nat) (es : List Value) (nh : Nat) (hs : List Value) (v x a b : Int) (h : LayAt w base g N ne es nh hs) (hn : ne ≤ 100000) :
    Calls Try.prog 35 #[.pointer (some ⟨g, 0, none⟩), .agg #[.int .i64 1, .int .i64 v, .int .i64 0, .int .i64 0, .int .i64 1, .int .i64 x, .int .i64 0, .slice none 0 0, .int .i64 0, .int .i64 0, .int .i64 0, .int .i64 0, .slice none 0 0, .int .i64 0, .int .i64 0, .int .i64 0, .slice none 0 0, .slice none 0 0, .slice none 0 0, .slice none 0 0], .int .i64 a, .int .i64 b] w fun e w' => e = .returned (.tuple #[]) ∧ LayAt w' base g N (ne + 1) (es ++ [.int .i64 a, .int .i64 b, .int .i64 1, .int .i64 v, .int .i64 0, .int .i64 0, .int .i64 1, .int .i64 x, .int .i64 0, .slice none 0 0, .int .i64 0, .int .i64 0, .int .i64 0, .int .i64 0, .slice none 0 0, .int .i64 0, .int .i64 0, .int .i64 0, .slice none 0 0]) nh hs ∧ Below base w w' := by
  have hbl : base ≤ w.heap.size := by
    obtain ⟨E, H, ce, ch, hg, hE, hH, hbg, hEg, hHg⟩ := h
    have := blk_lt hg
    omega
  replace h := Lib.hid h
  go_enter Try.func35, Try.ntmps35
  go_upto_region 1 with fail
  refine wp_world (fun W => W.heap[w.heap.size]? = some (.cells #[.int .i64 1, .int .i64 v, .int .i64 0, .int .i64 0, .int .i64 1, .int .i64 x, .int .i64 0, .slice none 0 0, .int .i64 0, .int .i64 0, .int .i64 0, .int .i64 0, .slice none 0 0, .int .i64 0, .int .i64 0, .int .i64 0, .slice none 0 0, .slice none 0 0, .slice none 0 0, .slice none 0 0] 40 (0, 0)) ∧ Below w.heap.size w W ∧ W.heap.size = w.heap.size + 1) ⟨blkA _ _ rfl, (Below.refl _ _).alloc (Nat.le_refl _) _, by simp⟩ ?_
  rintro w0 ⟨k0, hB0, hs0⟩
  have r0 := row_of k0
  have h00 : w.heap.size < w0.heap.size := by omega
  replace k0 := Lib.hid k0
  go_upto_region 3 with fail
  go_region_with (first
    | (go_at_call 48; refine (copy_leaf _ _ _ _).mono ?_; rintro e w1 ⟨rfl, hb1⟩; have rd := row_of (blk_keep hb1 k0.out); have hB1 := bel_up hB0.drew (Nat.le_refl _) hb1; clear hb1)
    | (go_at_call 33; refine (edge_any _ base g N ne es nh hs [.int .i64 a, .int .i64 b, .int .i64 1, .int .i64 v, .int .i64 0, .int .i64 0, .int .i64 1, .int .i64 x, .int .i64 0, .slice none 0 0, .int .i64 0, .int .i64 0, .int .i64 0, .int .i64 0, .slice none 0 0, .int .i64 0, .int .i64 0, .int .i64 0, .slice none 0 0] (lay_below h.out hB1) hn ⟨_, _, _, _, _, _, _, _, _, _, _, _, _, _, _, _, _, _, _, _, _, _, _, _, _, rfl⟩).mono ?_; rintro e w2 ⟨rfl, hL, hb2⟩; replace hL := Lib.hid hL))
  all_goals
    go_wp2_with fail
    go_end0
    exact ⟨rfl, hL.out, (hB1.mono hbl).trans hb2⟩
end Go.Proofs.Ytnejbjeomcenoaa

