/-
  The reference's None.
-/
import Derived.Test.YtgepaajhccadhaaQh
namespace Go.Proofs.Ytgepaajhccadhaa
open Go.RowKit
def RNRel (w : World) (n : Nat) (vi : Value) (wr : World) : Prop := ∃ (k : Nat) (v : Value), k ≤ n ∧ vi = .int .i64 k ∧ wr.heap[w.heap.size]? = some (.cells #[.int .i64 0, .int .i64 0, .slice none 0 0] 32 (0, 0)) ∧ wr.heap[w.heap.size + 1]? = some (.cells #[.int .i64 0, .int .i64 0, v] 32 (0, 0)) ∧ wr.ownsRow (w.heap.size + 2) 29 2 v k (cellsOf (List.replicate k (1, 0))) ∧ (0 < k → ∃ g cap, v = .slice (some ⟨g, 0, none⟩) k cap) ∧ Below w.heap.size w wr
theorem nones_more (k : Nat) : cellsOf (List.replicate k (1, 0)) ++ [.int .i64 1, .int .i64 0] = cellsOf (List.replicate (k + 1) (1, 0)) := by
  rw [List.replicate_succ']
  simp [cellsOf]
set_option maxRecDepth 100000 in
set_option maxHeartbeats 4000000 in
theorem rnone_any (n : Nat) (w : World) (hn : 0 < n) (hs : n ≤ 1000) :
    Calls Try.prog 29 #[.int .i64 (n : Int)] w (RElemOut w 0 0 (List.replicate n (1, 0))) := by
  obtain ⟨ii, hii, iz0, iz1, iz2⟩ := info_parts info_ritv
  replace hii := Lib.hid hii
  go_enter Try.func29, Try.ntmps29
  go_wp2_with fail
  go_loopw [4] (fun vi wr => RNRel w n vi wr) (fun i _ => n - (intOf i).toNat)
  case atStart => exact ⟨0, .slice none 0 0, Nat.zero_le _, rfl, blkUp (blkA _ _ rfl) _, blkA _ _ (by simp only [World.size_alloc]), World.ownsRow_nil _ _ _ _, fun h => absurd h (by omega), ((Below.refl _ _).alloc (Nat.le_refl _) _).alloc (by simp only [World.size_alloc]; omega) _⟩
  case round =>
    obtain ⟨k, v, hk, rfl, k0, k1, hO, hv, hB⟩ := hrel
    by_cases hlt : k < n
    · have hlt2 : (k : Int) < (n : Int) := by omega
      have hk0 : (0 : Int) ≤ (k : Int) := by omega
      have hkb : (k : Int) ≤ 1000 := by omega
      have r1 := row_of k1
      have z1 := blk_lt k1
      have hO2 := Lib.hid hO
      have hne : ∀ g, v.ownBlock = some g → w.heap.size + 2 ≤ g := fun g h => (hO.lt g h).1
      replace hne := Lib.hid hne
      replace hv := Lib.hid hv
      clear hO
      go_wp2_with (refine wpList_append_lies _ rfl _ _ _ rfl (w.heap.size + 2) 29 ii _ 2 16 Try.underlying30 hii.out iz0 iz1 iz2 rfl (by decide) v k (cellsOf (List.replicate k (1, 0))) rfl (hO2.out.alloc _) ⟨wr.heap.size, 0, none⟩ 1 1 [.int .i64 1, .int .i64 0] rfl rfl (World.news_of_block (cs := #[.int .i64 1, .int .i64 0]) (t := 29) (fr := (0, 0)) (blkA _ _ rfl)) (by simp [Value.oneCell']) (by decide) (by unfold maxLen; omega) (by omega) (by simp; omega) (wr.heap.size + 1) (by simp) ?_; intro gg cap w2 hown hgrow hat hlg; have q1 := grown_blk hgrow (b := w.heap.size + 1) (blkUp k1 _) (fun e => by have := hne.out _ e; omega); have q0 := grown_blk hgrow (b := w.heap.size) (blkUp k0 _) (fun e => by have := hne.out _ e; omega); have hB2 := Lib.hid (below_grown hgrow (hB.alloc hB.size _) (Nat.le_refl _) (fun b hb => by have := hne.out _ hb; omega)); have hgx : gg ≠ w.heap.size + 1 := (by rcases hat with h | h; (have := hne.out _ h; omega); omega); have rq := row_of q1; have fq := frozen_of q1; have zq := blk_lt q1; replace hown := Lib.hid hown; clear hgrow hat)
      refine ⟨⟨k + 1, .slice (some ⟨gg, 0, none⟩) (k + 1) cap, by omega, by go_num, ?_, ?_, ?_, fun _ => ⟨gg, cap, rfl⟩, hB2.out.setCell (p := ⟨w.heap.size + 1, 2, none⟩) (by show w.heap.size ≤ w.heap.size + 1; omega) _⟩, by simp [intOf]; omega⟩
      · exact blk_set q0 (by omega)
      · simp [World.setCell, Array.getElem?_modify, q1]
      · have t := hown.out
        rw [nones_more] at t
        exact own_same t (fun x hx => blk_set hx hgx)
    · have hlt2 : ¬ (k : Int) < (n : Int) := by omega
      obtain rfl : k = n := by omega
      obtain ⟨g, cap, rfl⟩ := hv hn
      have r1 := row_of k1
      have f0 := frozen_of k0
      have r0 := row_of k0
      have z0 := blk_lt k0
      have hO2 := Lib.hid hO
      have hg := (hO.lt g rfl).1
      clear hO
      go_wp2_with fail
      generalize hWF : (World.setCell (World.setCell (World.setCell _ _ _) _ _) _ _) = WF
      obtain ⟨kF, kO, bF, _⟩ := put3 k0 _ _ _ hWF.symm
      clear hWF r0 r1 f0
      have rF := row_of kF
      refine bodyPost_ret (v := .agg #[.int .i64 0, .int .i64 0, .slice (some ⟨g, 0, none⟩) k cap]) (by simp [results, Try.results29, go_sem, rF]) rfl ⟨g, cap, by rw [List.length_replicate], ?_, hB.trans (bF _ (Nat.le_refl _))⟩
      have t := own_same hO2.out (fun x hx => kO _ x (by omega) hx)
      unfold ElemAt
      rw [List.length_replicate]
      refine ⟨t.1, ?_⟩
      rcases t.2 with h0 | ⟨g', cap', cur, e, hg', h1⟩
      · exact .inl h0
      · exact .inr ⟨g', cap', cur, e, by omega, h1⟩
end Go.Proofs.Ytgepaajhccadhaa
