/-
  ItvWidens' walk.
-/
import Derived.Test.YtibhoekccjcoaaaIp
import Derived.Test.YtibhoekccjcoaaaIy
namespace Go.Proofs.Ytibhoekccjcoaaa
open Go.RowKit
theorem add_block (a : Addr) (n : Nat) : (a.add n).block = a.block := by unfold Addr.add; split <;> rfl
theorem add_one (a : Addr) (n : Nat) : a.add (n + 1) = ⟨(a.add n).block, (a.add n).off + 1, none⟩ := by rw [← Addr.add_add]; rfl
theorem within_of2 {a0 a1 b0 b1 : Int} (h : a1 < a0 ∨ (b0 ≤ a0 ∧ a1 ≤ b1)) : withinB a0 a1 b0 b1 = true := withins h
/-- A row of Itvs in memory: nothing, or its cells. -/
def ItvRow (w : World) (A : Option Addr) (len cap : Nat) : Prop := len = 0 ∨ ∃ ad : Addr, A = some ad ∧ len ≤ cap ∧ cap ≤ 9223372036854775807 ∧ ad.block < w.heap.size ∧ ∀ i, i < len → ∃ v0 v1 : Int, w.cell? (ad.add (i * 2)) = some (.int .i64 v0) ∧ w.cell? (ad.add (i * 2 + 1)) = some (.int .i64 v1)
/-- How many others there have been. -/
def Rank (x0 x1 : Int) (c : Nat) : Prop := (x0 = 1 ∧ x1 = 0 ∧ c = 0) ∨ (x0 ≤ x1 ∧ -2147483648 ≤ x0 ∧ x1 ≤ 2147483647 ∧ ∃ p q : Nat, p ≤ 1 ∧ q ≤ 1 ∧ (p = 1 → x0 = -2147483648) ∧ (q = 1 → x1 = 2147483647) ∧ c ≤ 1 + p + q)
theorem rank_le {x0 x1 : Int} {c : Nat} (h : Rank x0 x1 c) : (c : Int) ≤ 3 := by
  rcases h with ⟨_, _, h⟩ | ⟨_, _, _, p, q, hp, hq, _, _, h⟩ <;> omega
/-- One round: what is told has all of both; it is the same, or one other one more. -/
theorem widen_round {x0 x1 b0 b1 y0 y1 : Int} {c : Nat} (hr : Rank x0 x1 c) (r1 : -2147483648 ≤ b0) (r2 : b1 ≤ 2147483647) (hy : widenP x0 x1 (joinP x0 x1 b0 b1).1 (joinP x0 x1 b0 b1).2 = (y0, y1)) :
    (b1 < b0 ∨ (y0 ≤ b0 ∧ b1 ≤ y1)) ∧ (x1 < x0 ∨ (y0 ≤ x0 ∧ x1 ≤ y1)) ∧ (¬ (y0 = x0 ∧ y1 = x1) → Rank y0 y1 (c + 1)) := by
  have rx : -2147483648 ≤ x0 ∧ x1 ≤ 2147483647 := by rcases hr with ⟨_, _, _⟩ | ⟨_, _, _, _⟩ <;> omega
  rw [join_eq rx.1 rx.2 r1 r2] at hy
  have sj := join_specs x0 x1 b0 b1
  have s4 := mns x0 b0
  have s5 := mxs x1 b1
  generalize (rjoinP x0 x1 b0 b1).1 = j0 at *
  generalize (rjoinP x0 x1 b0 b1).2 = j1 at *
  rw [widen_eq rx.1 rx.2 (by omega) (by omega)] at hy
  have sv := widen_specs x0 x1 j0 j1
  rw [hy] at sv
  replace sv : (x1 < x0 ∧ j1 < j0 ∧ y0 = 1 ∧ y1 = 0) ∨ (x1 < x0 ∧ j0 ≤ j1 ∧ y0 = j0 ∧ y1 = j1) ∨ (x0 ≤ x1 ∧ j1 < j0 ∧ y0 = x0 ∧ y1 = x1) ∨ (x0 ≤ x1 ∧ j0 ≤ j1 ∧ ((j0 < x0 ∧ y0 = -2147483648) ∨ (x0 ≤ j0 ∧ y0 = x0)) ∧ ((x1 < j1 ∧ y1 = 2147483647) ∨ (j1 ≤ x1 ∧ y1 = x1))) := sv
  clear hy
  refine ⟨by omega, by omega, fun hne => ?_⟩
  rcases hr with ⟨_, _, h⟩ | ⟨_, _, _, p, q, hp, hq, hp1, hq1, h⟩
  · exact .inr ⟨by omega, by omega, by omega, 0, 0, by omega, by omega, by omega, by omega, by omega⟩
  · refine .inr ⟨by omega, by omega, by omega, ?_⟩
    by_cases e0 : y0 = x0
    · exact ⟨p, 1, hp, by omega, by omega, by omega, by omega⟩
    · by_cases e1 : y1 = x1
      · exact ⟨1, q, by omega, hq, by omega, by omega, by omega⟩
      · exact ⟨1, 1, by omega, by omega, by omega, by omega, by omega⟩
def WRel (w : World) (len g : Nat) (vc vi : Value) (wr : World) : Prop := ∃ (k c : Nat) (x0 x1 : Int), k ≤ len ∧ k ≤ 60 ∧ vi = .int .i64 k ∧ vc = .int .i64 c ∧ Rank x0 x1 c ∧ wr.heap[g]? = some (.cells #[.int .i64 x0, .int .i64 x1] 25 (0, 0)) ∧ Below w.heap.size w wr
def OneCut (W0 : World) (x0 x1 : Int) (e : Value) (wx : World) : Prop := ∃ n : Nat, e = .pointer (some ⟨n, 0, none⟩) ∧ W0.heap.size ≤ n ∧ wx.heap[n]? = some (.cells #[.int .i64 x0, .int .i64 x1] 25 (0, 0)) ∧ Below W0.heap.size W0 wx
set_option maxRecDepth 100000 in
set_option maxHeartbeats 8000000 in
theorem widens_probe (A : Option Addr) (len cap : Nat) (w : World) (hl : ItvRow w A len cap) (hlen : len ≤ 9223372036854775807) :
    Calls Try.prog 8 #[.slice A len cap] w fun e w' => e = .returned (.bool true) ∧ Below w.heap.size w w' := by
  replace hl := Lib.hid hl
  go_enter Try.func8, Try.ntmps8
  go_wp2_with fail
  refine (none_any _).mono ?_
  rintro e w1 ⟨rfl, hB⟩
  have hg : w.heap.size ≤ w1.heap.size := hB.size
  go_wp2_with fail
  go_loopw [4, 5] (fun vc vi wr => WRel w len w1.heap.size vc vi wr) (fun _ i _ => len - (intOf i).toNat)
  case atStart => exact ⟨0, 0, 1, 0, by omega, by omega, rfl, rfl, .inl ⟨rfl, rfl, rfl⟩, blkA _ _ rfl, hB.alloc hB.size _⟩
  case round =>
    clear hB
    obtain ⟨k, c, x0, x1, hk, hk60, rfl, rfl, hr, k0, hB⟩ := hrel
    by_cases hlt : k < len
    · by_cases h60 : k < 60
      · obtain ⟨ad, rfl, hlc, hcap, hb0, hcell⟩ : ∃ ad : Addr, A = some ad ∧ len ≤ cap ∧ cap ≤ 9223372036854775807 ∧ ad.block < w.heap.size ∧ ∀ i, i < len → ∃ v0 v1 : Int, w.cell? (ad.add (i * 2)) = some (.int .i64 v0) ∧ w.cell? (ad.add (i * 2 + 1)) = some (.int .i64 v1) := by rcases hl.out with h | h; (exact absurd h (by omega)); exact h
        obtain ⟨v0, v1, hv0, hv1⟩ := hcell k hlt
        have hab : (ad.add (k * 2)).block < w.heap.size := by rw [add_block]; exact hb0
        rw [add_one] at hv1
        clear hcell hl
        have hlt2 : (k : Int) < (len : Int) := by omega
        have h602 : (k : Int) < 60 := by omega
        have hk0 : (0 : Int) ≤ (k : Int) := by omega
        go_upto_region 6 with fail
        refine wp_world (fun W => W.heap[w1.heap.size]? = some (.cells #[.int .i64 x0, .int .i64 x1] 25 (0, 0)) ∧ Below w.heap.size w W) ⟨k0, hB⟩ ?_
        clear hB k0
        rintro w2 ⟨k0, hB⟩
        obtain ⟨rb1, _⟩ := wrap_in v0
        obtain ⟨_, rb4⟩ := wrap_in v1
        obtain ⟨y0, y1, hy⟩ : ∃ y0 y1, widenP x0 x1 (joinP x0 x1 (wrap32 v0) (wrap32 v1)).1 (joinP x0 x1 (wrap32 v0) (wrap32 v1)).2 = (y0, y1) := ⟨_, _, rfl⟩
        obtain ⟨rw1, rw2, rw3⟩ := widen_round hr rb1 rb4 hy
        have hw1 := Lib.hid (within_of2 rw1)
        have hw2 := Lib.hid (within_of2 rw2)
        replace rw3 := Lib.hid rw3
        replace hr := Lib.hid hr
        replace hy := Lib.hid hy
        clear rw1 rw2 rb1 rb4
        have mkS : ∀ W, Below w2.heap.size w2 W → (fun W => W.cell? ⟨w1.heap.size, 0, none⟩ = some (.int .i64 x0) ∧ W.cell? ⟨w1.heap.size, 1, none⟩ = some (.int .i64 x1) ∧ W.cell? (ad.add (k * 2)) = some (.int .i64 v0) ∧ W.cell? ⟨(ad.add (k * 2)).block, (ad.add (k * 2)).off + 1, none⟩ = some (.int .i64 v1)) W := fun W h => ⟨row_of (blk_keep h k0) 0, row_of (blk_keep h k0) 1, ((hB.trans (h.mono hB.size)).cell (p := ad.add (k * 2)) hab).trans hv0, ((hB.trans (h.mono hB.size)).cell (p := ⟨(ad.add (k * 2)).block, (ad.add (k * 2)).off + 1, none⟩) hab).trans hv1⟩
        dsimp only at mkS
        go_cut [6] from 8 to 48 (fun e6 wx => OneCut w2 y0 y1 e6 wx)
        case first =>
          as_aux_lemma =>
            have hBn := Below.refl w2.heap.size w2
            have hy2 := hy.out
            clear hB k0
            go_region_held3 (fun W => W.cell? ⟨w1.heap.size, 0, none⟩ = some (.int .i64 x0) ∧ W.cell? ⟨w1.heap.size, 1, none⟩ = some (.int .i64 x1) ∧ W.cell? (ad.add (k * 2)) = some (.int .i64 v0) ∧ W.cell? ⟨(ad.add (k * 2)).block, (ad.add (k * 2)).off + 1, none⟩ = some (.int .i64 v1))
                (first | (with_reducible exact mkS _ (hBn)) | (with_reducible exact mkS _ (below_al hBn _)) | (with_reducible exact mkS _ (below_put hBn zx)) | (with_reducible exact mkS _ (Below.drew (hBn))) | (with_reducible exact mkS _ (Below.drew (below_al hBn _))))
                (first
                  | (go_at_call 11; refine (bend_any _ _ _).mono ?_; rintro e wn ⟨rfl, hbS⟩; (try (with_reducible replace hbS := below_undrew hbS)); (with_reducible first
                    | (have kx := blkT2a hbS; have ky := blkT2b hbS; have zx := hBn.size; have zy := Nat.le_succ_of_le hBn.size; replace hBn := below_tr (below_al (below_al hBn _) _) hbS)
                    | (have ky := blkT1 hbS; have zy := hBn.size; have nxy := Nat.ne_of_lt (blk_lt kx); replace kx := blk_keep hbS (blkUp kx _); replace hBn := below_tr (below_al hBn _) hbS)
                    | (have kx := blkT1 hbS; have zx := hBn.size; replace hBn := below_tr (below_al hBn _) hbS)
                    | (replace kx := blk_keep hbS kx; replace ky := blk_keep hbS ky; replace hBn := below_tr hBn hbS)
                    | (replace kx := blk_keep hbS kx; replace hBn := below_tr hBn hbS)
                    | (replace hBn := below_tr hBn hbS)); (try (have rx := row_of kx; have fx := frozen_of kx; have lx := blk_lt kx)); (try (have ry := row_of ky; have fy := frozen_of ky; have ly := blk_lt ky)))
                  | (go_at_call 12; refine (to_any _ _ _).mono ?_; rintro e wn ⟨rfl, hbS⟩; (try (with_reducible replace hbS := below_undrew hbS)); (with_reducible first
                    | (have kx := blkT2a hbS; have ky := blkT2b hbS; have zx := hBn.size; have zy := Nat.le_succ_of_le hBn.size; replace hBn := below_tr (below_al (below_al hBn _) _) hbS)
                    | (have ky := blkT1 hbS; have zy := hBn.size; have nxy := Nat.ne_of_lt (blk_lt kx); replace kx := blk_keep hbS (blkUp kx _); replace hBn := below_tr (below_al hBn _) hbS)
                    | (have kx := blkT1 hbS; have zx := hBn.size; replace hBn := below_tr (below_al hBn _) hbS)
                    | (replace kx := blk_keep hbS kx; replace ky := blk_keep hbS ky; replace hBn := below_tr hBn hbS)
                    | (replace kx := blk_keep hbS kx; replace hBn := below_tr hBn hbS)
                    | (replace hBn := below_tr hBn hbS)); (try (have rx := row_of kx; have fx := frozen_of kx; have lx := blk_lt kx)); (try (have ry := row_of ky; have fy := frozen_of ky; have ly := blk_lt ky)))
                  | (go_at_call 13; refine (join_any _ _ _ _ _).mono ?_; rintro e wn ⟨rfl, hbS⟩; (try (with_reducible replace hbS := below_undrew hbS)); (with_reducible first
                    | (have kx := blkT2a hbS; have ky := blkT2b hbS; have zx := hBn.size; have zy := Nat.le_succ_of_le hBn.size; replace hBn := below_tr (below_al (below_al hBn _) _) hbS)
                    | (have ky := blkT1 hbS; have zy := hBn.size; have nxy := Nat.ne_of_lt (blk_lt kx); replace kx := blk_keep hbS (blkUp kx _); replace hBn := below_tr (below_al hBn _) hbS)
                    | (have kx := blkT1 hbS; have zx := hBn.size; replace hBn := below_tr (below_al hBn _) hbS)
                    | (replace kx := blk_keep hbS kx; replace ky := blk_keep hbS ky; replace hBn := below_tr hBn hbS)
                    | (replace kx := blk_keep hbS kx; replace hBn := below_tr hBn hbS)
                    | (replace hBn := below_tr hBn hbS)); (try (have rx := row_of kx; have fx := frozen_of kx; have lx := blk_lt kx)); (try (have ry := row_of ky; have fy := frozen_of ky; have ly := blk_lt ky)))
                  | (go_at_call 14; refine (widen_any _ _ _ _ _).mono ?_; rintro e wn ⟨rfl, hbS⟩; (try (with_reducible replace hbS := below_undrew hbS)); (with_reducible first
                    | (have kx := blkT2a hbS; have ky := blkT2b hbS; have zx := hBn.size; have zy := Nat.le_succ_of_le hBn.size; replace hBn := below_tr (below_al (below_al hBn _) _) hbS)
                    | (have ky := blkT1 hbS; have zy := hBn.size; have nxy := Nat.ne_of_lt (blk_lt kx); replace kx := blk_keep hbS (blkUp kx _); replace hBn := below_tr (below_al hBn _) hbS)
                    | (have kx := blkT1 hbS; have zx := hBn.size; replace hBn := below_tr (below_al hBn _) hbS)
                    | (replace kx := blk_keep hbS kx; replace ky := blk_keep hbS ky; replace hBn := below_tr hBn hbS)
                    | (replace kx := blk_keep hbS kx; replace hBn := below_tr hBn hbS)
                    | (replace hBn := below_tr hBn hbS)); (try (have rx := row_of kx; have fx := frozen_of kx; have lx := blk_lt kx)); (try (have ry := row_of ky; have fy := frozen_of ky; have ly := blk_lt ky))))
            all_goals
              go_wp2_with fail
              go_meet
              refine ⟨_, rfl, ?_, ?_, ?_⟩
              · first | exact zx | exact hBn.size
              · first | (with_reducible exact blkA _ _ rfl) | (with_reducible exact setab kx)
              · first | (with_reducible exact hBn) | (with_reducible exact below_al hBn _) | (with_reducible exact below_put hBn zx) | (with_reducible exact Below.drew hBn) | (with_reducible exact Below.drew (below_al hBn _))
        case rest =>
          as_aux_lemma =>
            obtain ⟨g6, rfl, hl6, kA, hb⟩ := hcut
            have hv6_0 := blk_lt k0
            replace k0 := blk_keep hb k0
            have k1 := kA
            replace hB := hB.trans (hb.mono hB.size)
            clear hb kA mkS
            go_upto_region 7 with fail
            refine wp_world (fun W => W.heap[w1.heap.size]? = some (.cells #[.int .i64 x0, .int .i64 x1] 25 (0, 0)) ∧ W.heap[g6]? = some (.cells #[.int .i64 y0, .int .i64 y1] 25 (0, 0)) ∧ Below w.heap.size w W) ⟨k0, k1, hB⟩ ?_
            clear hB k0 k1
            rintro w4 ⟨k0, k1, hB⟩
            have hw12 := hw1.out
            have hw22 := hw2.out
            have mkS : ∀ W, Below w4.heap.size w4 W → W.cell? ⟨w1.heap.size, 0, none⟩ = some (.int .i64 x0) ∧ W.cell? ⟨w1.heap.size, 1, none⟩ = some (.int .i64 x1) ∧ W.cell? ⟨g6, 0, none⟩ = some (.int .i64 y0) ∧ W.cell? ⟨g6, 1, none⟩ = some (.int .i64 y1) ∧ W.cell? (ad.add (k * 2)) = some (.int .i64 v0) ∧ W.cell? ⟨(ad.add (k * 2)).block, (ad.add (k * 2)).off + 1, none⟩ = some (.int .i64 v1) := fun W h => ⟨row_of (blk_keep h k0) 0, row_of (blk_keep h k0) 1, row_of (blk_keep h k1) 0, row_of (blk_keep h k1) 1, ((hB.trans (h.mono hB.size)).cell (p := ad.add (k * 2)) hab).trans hv0, ((hB.trans (h.mono hB.size)).cell (p := ⟨(ad.add (k * 2)).block, (ad.add (k * 2)).off + 1, none⟩) hab).trans hv1⟩
            have hBn := Below.refl w4.heap.size w4
            have sv0 := k0
            have sv1 := k1
            clear k0 k1
            go_region_held3 (fun W => W.cell? ⟨w1.heap.size, 0, none⟩ = some (.int .i64 x0) ∧ W.cell? ⟨w1.heap.size, 1, none⟩ = some (.int .i64 x1) ∧ W.cell? ⟨g6, 0, none⟩ = some (.int .i64 y0) ∧ W.cell? ⟨g6, 1, none⟩ = some (.int .i64 y1) ∧ W.cell? (ad.add (k * 2)) = some (.int .i64 v0) ∧ W.cell? ⟨(ad.add (k * 2)).block, (ad.add (k * 2)).off + 1, none⟩ = some (.int .i64 v1))
                (first | (with_reducible exact mkS _ hBn) | (with_reducible exact mkS _ (Below.drew hBn)))
                (first
                  | (go_at_call 11; refine (bend_any _ _ _).mono ?_; rintro e wn ⟨rfl, hbS⟩; (try (with_reducible replace hbS := below_undrew hbS)); replace hBn := below_tr hBn hbS)
                  | (go_at_call 12; refine (to_any _ _ _).mono ?_; rintro e wn ⟨rfl, hbS⟩; (try (with_reducible replace hbS := below_undrew hbS)); replace hBn := below_tr hBn hbS)
                  | (go_at_call 21; refine (within_any _ _ _ _ _).mono ?_; rintro e wn ⟨rfl, hbS⟩; (try (with_reducible replace hbS := below_undrew hbS)); replace hBn := below_tr hBn hbS))
            go_upto_region 9 with fail
            refine wp_world (fun W => W.heap[w1.heap.size]? = some (.cells #[.int .i64 x0, .int .i64 x1] 25 (0, 0)) ∧ W.heap[g6]? = some (.cells #[.int .i64 y0, .int .i64 y1] 25 (0, 0)) ∧ Below w.heap.size w W) (by first | exact ⟨blk_keep hBn sv0, blk_keep hBn sv1, hB.trans (hBn.mono hB.size)⟩ | exact ⟨blk_keep (Below.drew hBn) sv0, blk_keep (Below.drew hBn) sv1, hB.trans ((Below.drew hBn).mono hB.size)⟩) ?_
            clear hB hBn mkS sv0 sv1
            rintro w5 ⟨k0, k1, hB⟩
            clear hw12 hw22
            have r0 := row_of k0
            have f0 := frozen_of k0
            have z0 := blk_lt k0
            have r1 := row_of k1
            have f1 := frozen_of k1
            have z1 := blk_lt k1
            have hc3 := rank_le hr.out
            by_cases e0 : y0 = x0
            · by_cases e1 : y1 = x1
              · subst e0
                subst e1
                replace hr := hr.out
                go_upto_region 5 with fail
                refine wp_world (fun W => W.heap[w1.heap.size]? = some (.cells #[.int .i64 y0, .int .i64 y1] 25 (0, 0)) ∧ Below w.heap.size w W) ⟨setab k0, (hB.setCell (p := ⟨w1.heap.size, 0, none⟩) hg _).setCell (p := ⟨w1.heap.size, 1, none⟩) hg _⟩ ?_
                clear k0 hB
                rintro w6 ⟨k0, hB⟩
                clear hw1 hw2 hy hv0 hv1 hab hb0 hlc hcap hlt2 h602 hk0 r0 f0 z0 r1 f1 z1 k1 hl6 hv6_0 rw3 hc3
                go_wp2_with fail
                exact ⟨⟨k + 1, c, y0, y1, by omega, by omega, by go_num, rfl, hr, k0, hB⟩, by simp [intOf]; omega⟩
              · have b1 : (y1 == x1) = false := by rw [beq_eq_false_iff_ne]; exact e1
                have rk := Lib.hid (rw3.out (fun h => e1 h.2))
                subst e0
                clear e1
                go_upto_region 5 with fail
                refine wp_world (fun W => W.heap[w1.heap.size]? = some (.cells #[.int .i64 y0, .int .i64 y1] 25 (0, 0)) ∧ Below w.heap.size w W) ⟨setab k0, (hB.setCell (p := ⟨w1.heap.size, 0, none⟩) hg _).setCell (p := ⟨w1.heap.size, 1, none⟩) hg _⟩ ?_
                clear k0 hB
                rintro w6 ⟨k0, hB⟩
                clear hw1 hw2 hy hv0 hv1 hab hb0 hlc hcap hlt2 h602 hk0 r0 f0 z0 r1 f1 z1 k1 hl6 hv6_0 rw3 b1 hr
                go_wp2_with fail
                exact ⟨⟨k + 1, c + 1, y0, y1, by omega, by omega, by go_num, by go_num, rk.out, k0, hB⟩, by simp [intOf]; omega⟩
            · have b0 : (y0 == x0) = false := by rw [beq_eq_false_iff_ne]; exact e0
              have rk := Lib.hid (rw3.out (fun h => e0 h.1))
              clear e0
              go_upto_region 5 with fail
              refine wp_world (fun W => W.heap[w1.heap.size]? = some (.cells #[.int .i64 y0, .int .i64 y1] 25 (0, 0)) ∧ Below w.heap.size w W) ⟨setab k0, (hB.setCell (p := ⟨w1.heap.size, 0, none⟩) hg _).setCell (p := ⟨w1.heap.size, 1, none⟩) hg _⟩ ?_
              clear k0 hB
              rintro w6 ⟨k0, hB⟩
              clear hw1 hw2 hy hv0 hv1 hab hb0 hlc hcap hlt2 h602 hk0 r0 f0 z0 r1 f1 z1 k1 hl6 hv6_0 rw3 b0 hr
              go_wp2_with fail
              exact ⟨⟨k + 1, c + 1, y0, y1, by omega, by omega, by go_num, by go_num, rk.out, k0, hB⟩, by simp [intOf]; omega⟩
      · have h602 : ¬ (k : Int) < 60 := by omega
        have hlt2 : (k : Int) < (len : Int) := by omega
        have hc3 : (c : Int) ≤ 3 := by exact rank_le hr
        go_wp2_with fail
        refine (does_any _).mono ?_
        rintro e w9 ⟨rfl, hb⟩
        replace hB := hB.trans (hb.mono hB.size)
        go_wp2_with fail
        go_ret
        exact ⟨by simp, hB⟩
    · have hlt2 : ¬ (k : Int) < (len : Int) := by omega
      have hc3 : (c : Int) ≤ 3 := by exact rank_le hr
      go_wp2_with fail
      refine (does_any _).mono ?_
      rintro e w9 ⟨rfl, hb⟩
      replace hB := hB.trans (hb.mono hB.size)
      go_wp2_with fail
      go_ret
      exact ⟨by simp, hB⟩
end Go.Proofs.Ytibhoekccjcoaaa
