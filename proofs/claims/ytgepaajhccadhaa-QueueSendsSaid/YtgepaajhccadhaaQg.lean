/-
  The reference's Copy.
-/
import Derived.Test.YtgepaajhccadhaaQf
import Derived.Outline
namespace Go.Proofs.Ytgepaajhccadhaa
open Go.RowKit
theorem info_ritv : (Try.prog.info? 29).map (fun i => (i.zero, i.size, i.bytes)) = some (some (.agg #[.int .i64 0, .int .i64 0]), 2, 16) := by kernel_rfl
theorem own_empty {W : World} {b g : Nat} (e : TypeId) (size : Nat) (h : W.heap[g]? = some (.cells #[] e (0, 0))) (hb : b ≤ g) : W.ownsRow b e size (.slice (some ⟨g, 0, none⟩) 0 0) 0 [] :=
  ⟨by simp, .inr ⟨g, 0, #[], rfl, hb, h, Nat.le_refl _, by unfold maxLen; decide, by simp, by simp⟩⟩
def RCopied (w : World) (l h : Int) (xs : List (Int × Int)) (e : Ending) (w' : World) : Prop := ∃ g cap, e = .returned (.agg #[.int .i64 l, .int .i64 h, .slice (some ⟨g, 0, none⟩) xs.length cap]) ∧ ElemAt w' w.heap.size 29 g cap xs ∧ Below w.heap.size w w'
set_option maxRecDepth 100000 in
set_option maxHeartbeats 1000000 in
theorem rcopy_any (l h : Int) (b c base : Nat) (xs : List (Int × Int)) (w : World) (hn : 0 < xs.length) (hs : xs.length ≤ 1000) (hx : ElemAt w base 29 b c xs) :
    Calls Try.prog 45 #[.agg #[.int .i64 l, .int .i64 h, .slice (some ⟨b, 0, none⟩) xs.length c]] w (RCopied w l h xs) := by
  obtain ⟨ii, hii, iz0, iz1, iz2⟩ := info_parts info_ritv
  have hbw := (hx.lt b rfl).2
  have hc : ∀ (j : Nat) (u : Value), (cellsOf xs)[j]? = some u → w.cell? ((⟨b, 0, none⟩ : Addr).add j) = some u := fun j u hu => hx.cells rfl j u hu
  replace hii := Lib.hid hii
  replace hc := Lib.hid hc
  replace hx := Lib.hid hx
  have hln := Lib.hid (cellsOf_len xs)
  generalize hm : xs.length = n at *
  replace hm := Lib.hid hm
  go_enter Try.func45, Try.ntmps45
  go_upto_region 1 with fail
  refine wp_world (fun W => W.heap[w.heap.size]? = some (.cells #[.int .i64 l, .int .i64 h, .slice (some ⟨b, 0, none⟩) n c] 32 (0, 0)) ∧ W.heap[w.heap.size + 1]? = some (.cells #[.int .i64 0, .int .i64 0, .slice none 0 0] 32 (0, 0)) ∧ Below w.heap.size w W) ⟨blkUp (blkA _ _ rfl) _, blkA _ _ (by simp only [World.size_alloc]), ((Below.refl _ _).alloc (Nat.le_refl _) _).alloc (by simp only [World.size_alloc]; omega) _⟩ ?_
  rintro w1 ⟨k0, k1, hB⟩
  have r0 := row_of k0
  have f0 := frozen_of k0
  have z0 := blk_lt k0
  have z1 := blk_lt k1
  have hOw := Lib.hid ((own_keep (show w.ownsRow base 29 2 (.slice (some ⟨b, 0, none⟩) n c) n (cellsOf xs) from by have t := hx.out; unfold ElemAt at t; rw [hm.out] at t; exact t) hB).drew)
  have hBz := hB.size
  have k0d : w1.drew.heap[w.heap.size]? = _ := k0
  have k1d : w1.drew.heap[w.heap.size + 1]? = _ := k1
  go_region_law (first
    | (refine step_append_lies _ (by rfl) _ _ _ (by rfl) w.heap.size 29 ii _ 2 16 Try.underlying30 hii.out iz0 iz1 iz2 rfl (by decide) (.slice (some ⟨w1.heap.size, 0, none⟩) 0 0) 0 [] (by rfl) (own_empty _ _ (blkA _ _ rfl) hB.size) ⟨b, 0, none⟩ n c (cellsOf xs) (by rfl) hln.out ((hOw.out.alloc _).cells rfl) (cellsOf_one xs) hn (by unfold maxLen; omega) (by omega) (by simp; omega) (w1.heap.size + 1) (by simp) ?_; intro gg cap w2 hown hgrow hat hlt; have k1' := grown_blk hgrow (b := w.heap.size + 1) (blkUp k1d _) (by simp [Value.ownBlock]; omega); have hcz := row_of k1'; have hfz := frozen_of k1'; have hzz := blk_lt k1'; have k0' := grown_blk hgrow (b := w.heap.size) (blkUp k0d _) (by simp [Value.ownBlock]; omega); have hc0 := row_of k0'; have hB2 := Lib.hid (below_grown hgrow (hB.drew.alloc hB.size _) (Nat.le_refl _) (fun b hb => by simp [Value.ownBlock] at hb; omega)); have hgx : gg ≠ w.heap.size + 1 := (by rcases hat with h | h; (simp [Value.ownBlock] at h; omega); omega); replace hown := Lib.hid hown; clear hgrow hat k0d k1d))
  all_goals
    go_wp2_with fail
    generalize hWF : (World.setCell (World.setCell (World.setCell _ _ _) _ _) _ _) = WF
    obtain ⟨kF, kO, bF, _⟩ := put3 k1' _ _ _ hWF.symm
    clear hWF hcz hfz hc0
    have rF := row_of kF
    have hf := hB2.out.trans (bF _ (by show w.heap.size ≤ w.heap.size + 1; omega))
    refine bodyPost_ret (v := .agg #[.int .i64 l, .int .i64 h, .slice (some ⟨gg, 0, none⟩) n cap]) (by simp [results, Try.results45, go_sem, rF]) rfl ⟨gg, cap, by rw [hm.out], ?_, hf⟩
    have ht := hown.out
    rw [List.nil_append, Nat.zero_add] at ht
    have ho := own_same ht (fun x hx => kO gg x hgx hx)
    unfold ElemAt
    rw [hm.out]
    exact ho
end Go.Proofs.Ytgepaajhccadhaa
