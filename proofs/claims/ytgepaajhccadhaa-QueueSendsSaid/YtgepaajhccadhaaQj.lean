/-
  From: the program's Elem as the reference's.
-/
import Derived.Test.YtgepaajhccadhaaQi
namespace Go.Proofs.Ytgepaajhccadhaa
open Go.RowKit
def FrRel (w : World) (l h : Int) (b n c : Nat) (xs : List (Int × Int)) (vi : Value) (wr : World) : Prop := ∃ (k : Nat) (v : Value), k ≤ n ∧ vi = .int .i64 k ∧ wr.heap[w.heap.size]? = some (.cells #[.int .i64 l, .int .i64 h, .slice (some ⟨b, 0, none⟩) n c] 28 (0, 0)) ∧ wr.heap[w.heap.size + 1]? = some (.cells #[.int .i64 0, .int .i64 0, .slice none 0 0] 32 (0, 0)) ∧ wr.heap[w.heap.size + 2]? = some (.cells #[.int .i64 l, .int .i64 h, v] 32 (0, 0)) ∧ wr.ownsRow (w.heap.size + 3) 29 2 v k (cellsOf (xs.take k)) ∧ (0 < k → ∃ g cap, v = .slice (some ⟨g, 0, none⟩) k cap) ∧ Below w.heap.size w wr
theorem take_more (xs : List (Int × Int)) (k : Nat) (p0 p1 : Int) (h : xs[k]? = some (p0, p1)) : cellsOf (xs.take k) ++ [.int .i64 p0, .int .i64 p1] = cellsOf (xs.take (k + 1)) := by
  rw [List.take_add_one, h]
  simp [cellsOf]
set_option maxRecDepth 100000 in
set_option maxHeartbeats 4000000 in
theorem from_n (l h : Int) (b c base n : Nat) (xs : List (Int × Int)) (w : World) (hm : xs.length = n) (hn : 0 < n) (hs : n ≤ 1000) (hx : ElemAt w base 25 b c xs) :
    Calls Try.prog 20 #[.agg #[.int .i64 l, .int .i64 h, .slice (some ⟨b, 0, none⟩) n c]] w (RElemOut w l h xs) := by
  obtain ⟨ii, hii, iz0, iz1, iz2⟩ := info_parts info_ritv
  have hbw := (elem_ge hx).2
  replace hii := Lib.hid hii
  replace hx := Lib.hid hx
  replace hm := Lib.hid hm
  go_enter Try.func20, Try.ntmps20
  go_wp2_with fail
  go_loopw [4] (fun vi wr => FrRel w l h b n c xs vi wr) (fun i _ => n - (intOf i).toNat)
  case atStart => exact ⟨0, .slice none 0 0, Nat.zero_le _, rfl, blkUp (blkUp (blkA _ _ rfl) _) _, blkUp (blkA _ _ (by simp only [World.size_alloc])) _, blkA _ _ (by simp only [World.size_alloc]), World.ownsRow_nil _ _ _ _, fun h => absurd h (by omega), (((Below.refl _ _).alloc (Nat.le_refl _) _).alloc (by simp only [World.size_alloc]; omega) _).alloc (by simp only [World.size_alloc]; omega) _⟩
  case round =>
    obtain ⟨k, v, hk, rfl, k0, k1, k2, hO, hv, hB⟩ := hrel
    by_cases hlt : k < n
    · have hlt2 : (k : Int) < (n : Int) := by omega
      have hk0 : (0 : Int) ≤ (k : Int) := by omega
      have hkb : (k : Int) ≤ 1000 := by omega
      obtain ⟨⟨p0, p1⟩, hp⟩ : ∃ p, xs[k]? = some p := ⟨_, List.getElem?_eq_getElem (by rw [hm.out]; exact hlt)⟩
      have hX := elem_cells (elem_keep hx.out hB) hm.out hlt hp
      replace hp := Lib.hid hp
      have r0 := row_of k0
      have z0 := blk_lt k0
      go_upto_region 5 with fail
      have c0 : wr.cell? ⟨w.heap.size, 2, none⟩ = some (.slice (some ⟨b, 0, none⟩) n c) := r0 2
      have c2 : wr.cell? ⟨w.heap.size + 2, 2, none⟩ = some v := row_of k2 2
      have f2 : wr.frozen? ⟨w.heap.size + 2, 2, none⟩ = false := frozen_of k2 2
      have z2 := blk_lt k2
      have x0 : wr.cell? ⟨b, k * 2, none⟩ = some (.int .i64 p0) := hX.1
      have x1 : wr.cell? ⟨b, k * 2 + 1, none⟩ = some (.int .i64 p1) := hX.2
      have hne : ∀ g, v.ownBlock = some g → w.heap.size + 3 ≤ g := fun g h => (hO.lt g h).1
      replace hne := Lib.hid hne
      replace hv := Lib.hid hv
      have hO2 := Lib.hid hO.drew
      have d0 : wr.drew.heap[w.heap.size]? = _ := k0
      have d1 : wr.drew.heap[w.heap.size + 1]? = _ := k1
      have d2 : wr.drew.heap[w.heap.size + 2]? = _ := k2
      have hBd := hB.drew
      clear hO hX r0
      go_region_law (first
        | (refine step_append_lies _ (by rfl) _ _ _ (by rfl) (w.heap.size + 3) 29 ii _ 2 16 Try.underlying30 hii.out iz0 iz1 iz2 rfl (by decide) v k (cellsOf (xs.take k)) (by go_simp) (hO2.out.alloc _) ⟨wr.heap.size, 0, none⟩ 1 1 [.int .i64 p0, .int .i64 p1] (by go_simp) (by rfl) (World.news_of_block (cs := #[.int .i64 p0, .int .i64 p1]) (t := 29) (fr := (0, 0)) (blkA _ _ rfl)) (by simp [Value.oneCell']) (by decide) (by unfold maxLen; omega) (by omega) (by simp; omega) (wr.heap.size + 1) (by simp) ?_; intro gg cap w2 hown hgrow hat hlg; have q0 := grown_blk hgrow (b := w.heap.size) (blkUp d0 _) (fun e => by have := hne.out _ e; omega); have q1 := grown_blk hgrow (b := w.heap.size + 1) (blkUp d1 _) (fun e => by have := hne.out _ e; omega); have q2 := grown_blk hgrow (b := w.heap.size + 2) (blkUp d2 _) (fun e => by have := hne.out _ e; omega); have hB2 := Lib.hid (below_grown hgrow (hBd.alloc hBd.size _) (Nat.le_refl _) (fun b hb => by have := hne.out _ hb; omega)); have hgx : gg ≠ w.heap.size + 2 := (by rcases hat with h | h; (have := hne.out _ h; omega); omega); have rq := row_of q2; have fq := frozen_of q2; have zq := blk_lt q2; replace hown := Lib.hid hown; clear hgrow hat))
      all_goals
        go_wp2_with fail
        refine ⟨⟨k + 1, .slice (some ⟨gg, 0, none⟩) (k + 1) cap, by omega, by go_num, blk_set q0 (by omega), blk_set q1 (by omega), ?_, ?_, fun _ => ⟨gg, cap, rfl⟩, hB2.out.setCell (p := ⟨w.heap.size + 2, 2, none⟩) (by show w.heap.size ≤ w.heap.size + 2; omega) _⟩, by simp [intOf]; omega⟩
        · simp [World.setCell, Array.getElem?_modify, q2]
        · have t := hown.out
          rw [take_more _ _ _ _ hp.out] at t
          exact own_same t (fun x hx => blk_set hx hgx)
    · have hlt2 : ¬ (k : Int) < (n : Int) := by omega
      obtain rfl : k = n := by omega
      obtain ⟨g, cap, rfl⟩ := hv hn
      have r0 := row_of k0
      have r2 := row_of k2
      have f1 := frozen_of k1
      have r1 := row_of k1
      have z1 := blk_lt k1
      have hO2 := Lib.hid hO
      have hg := (hO.lt g rfl).1
      clear hO
      go_wp2_with fail
      generalize hWF : (World.setCell (World.setCell (World.setCell _ _ _) _ _) _ _) = WF
      obtain ⟨kF, kO, bF, _⟩ := put3 k1 _ _ _ hWF.symm
      clear hWF r0 r1 r2 f1
      have rF := row_of kF
      refine bodyPost_ret (v := .agg #[.int .i64 l, .int .i64 h, .slice (some ⟨g, 0, none⟩) k cap]) (by simp [results, Try.results20, go_sem, rF]) rfl ⟨g, cap, by rw [hm.out], ?_, hB.trans (bF _ (by omega))⟩
      have t := own_same hO2.out (fun x hx => kO _ x (by omega) hx)
      rw [List.take_of_length_le (by rw [hm.out]; exact Nat.le_refl _)] at t
      unfold ElemAt
      rw [hm.out]
      refine ⟨t.1, ?_⟩
      rcases t.2 with h0 | ⟨g', cap', cur, e, hg', h1⟩
      · exact .inl h0
      · exact .inr ⟨g', cap', cur, e, by omega, h1⟩
end Go.Proofs.Ytgepaajhccadhaa
