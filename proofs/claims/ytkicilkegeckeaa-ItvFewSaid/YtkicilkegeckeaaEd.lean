/-
  edges: has an Itv just those numbers for which a comparison holds?
-/
import Derived.Test.YtkicilkegeckeaaTs
import Derived.RegionTactic
namespace Go.Proofs.Ytkicilkegeckeaa
open Go.RowKit
def ERel (w : World) (m : Nat) (b0 b1 x0 x1 : Int) (vi : Value) (wr : World) : Prop := ∃ k : Nat, k ≤ 12 ∧ vi = .int .i64 k ∧ wr.heap[w.heap.size + 1]? = some (.cells #[.int .i64 b0, .int .i64 b1] 23 (0, 0)) ∧ wr.heap[w.heap.size + 2]? = some (.cells #[.int .i64 x0, .int .i64 x1] 23 (0, 0)) ∧ (∀ i, i < 12 → ∃ n : Int, wr.cell? ⟨m, i, none⟩ = some (.int .i64 n)) ∧ m < wr.heap.size ∧ Below w.heap.size w wr
set_option maxRecDepth 100000 in
set_option maxHeartbeats 8000000 in
theorem edges_any (op a0 a1 b0 b1 x0 x1 : Int) (ok : Int → Bool) (w : World) (hs : ∀ (n : Int) (W : World), Calls Try.prog 49 #[.int .i64 op, .int .i64 n, .agg #[.int .i64 b0, .int .i64 b1]] W fun e w' => e = .returned (.bool (ok n)) ∧ Below W.heap.size W w')
    (h1 : ∀ n, a0 ≤ n → n ≤ a1 → ok n = true → x0 ≤ n ∧ n ≤ x1) (h2 : ∀ n, a0 ≤ n → n ≤ a1 → (n = x0 ∨ n = x1) → x0 ≤ n ∧ n ≤ x1 → ok n = true) (h3 : (x0 = 1 ∧ x1 = 0) ∨ (x0 ≤ x1 ∧ a0 ≤ x0 ∧ x1 ≤ a1)) :
    Calls Try.prog 17 #[.int .i64 op, .agg #[.int .i64 a0, .int .i64 a1], .agg #[.int .i64 b0, .int .i64 b1], .agg #[.int .i64 x0, .int .i64 x1]] w fun e w' => e = .returned (.bool true) ∧ Below w.heap.size w w' := by
  replace hs := Lib.hid hs
  go_enter Try.func17, Try.ntmps17
  go_upto_region 1 with fail
  refine wp_world (fun W => W.heap[w.heap.size]? = some (.cells #[.int .i64 a0, .int .i64 a1] 23 (0, 0)) ∧ W.heap[w.heap.size + 1]? = some (.cells #[.int .i64 b0, .int .i64 b1] 23 (0, 0)) ∧ W.heap[w.heap.size + 2]? = some (.cells #[.int .i64 x0, .int .i64 x1] 23 (0, 0)) ∧ Below w.heap.size w W) ⟨blkUp (blkUp (blkA _ _ (by first | rfl | simp only [World.size_alloc])) _) _, blkUp (blkA _ _ (by first | rfl | simp only [World.size_alloc])) _, blkA _ _ (by first | rfl | simp only [World.size_alloc]), (((Below.refl _ _).alloc (by first | exact Nat.le_refl _ | (simp only [World.size_alloc]; omega)) _).alloc (by first | exact Nat.le_refl _ | (simp only [World.size_alloc]; omega)) _).alloc (by first | exact Nat.le_refl _ | (simp only [World.size_alloc]; omega)) _⟩ ?_
  rintro w1 ⟨k0, k1, k2, hB⟩
  have r0 := row_of k0
  have f0 := frozen_of k0
  have z0 := blk_lt k0
  have r1 := row_of k1
  have f1 := frozen_of k1
  have z1 := blk_lt k1
  have r2 := row_of k2
  have f2 := frozen_of k2
  have z2 := blk_lt k2
  go_region
  all_goals
    go_wp2_with fail
    go_loopw [12] (fun vi wr => ERel w w1.heap.size b0 b1 x0 x1 vi wr) (fun i _ => 12 - (intOf i).toNat)
    case atStart =>
      have kk := blkA w1 (Obj.cells #[.int .i64 a0, .int .i64 (wrap64 (a0 + 1)), .int .i64 (wrap64 (a1 - 1)), .int .i64 a1, .int .i64 (wrap64 (b0 - 1)), .int .i64 b0, .int .i64 (wrap64 (b0 + 1)), .int .i64 (wrap64 (b1 - 1)), .int .i64 b1, .int .i64 (wrap64 (b1 + 1)), .int .i64 x0, .int .i64 x1] 3) rfl
      refine ⟨0, by omega, rfl, blkUp k1 _, blkUp k2 _, fun i hi => ?_, blk_lt kk, (hB.alloc hB.size _).drew⟩
      have hrow := row_of kk i
      match i, hi with
      | 0, _ => exact ⟨a0, hrow⟩
      | 1, _ => exact ⟨wrap64 (a0 + 1), hrow⟩
      | 2, _ => exact ⟨wrap64 (a1 - 1), hrow⟩
      | 3, _ => exact ⟨a1, hrow⟩
      | 4, _ => exact ⟨wrap64 (b0 - 1), hrow⟩
      | 5, _ => exact ⟨b0, hrow⟩
      | 6, _ => exact ⟨wrap64 (b0 + 1), hrow⟩
      | 7, _ => exact ⟨wrap64 (b1 - 1), hrow⟩
      | 8, _ => exact ⟨b1, hrow⟩
      | 9, _ => exact ⟨wrap64 (b1 + 1), hrow⟩
      | 10, _ => exact ⟨x0, hrow⟩
      | 11, _ => exact ⟨x1, hrow⟩
    case round =>
      clear hB k0 k1 k2 r0 r1 r2 f0 f1 f2 z0 z1 z2
      obtain ⟨k, hk, rfl, k1, k2, hc, hm, hB⟩ := hrel
      by_cases hlt : k < 12
      · obtain ⟨n, hcn⟩ := hc k hlt
        have hk0 : (0 : Int) ≤ (k : Int) := by omega
        have hk12 : (k : Int) < 12 := by omega
        by_cases ha : n < a0
        · have hd : decide (n < a0) = true := decide_eq_true ha
          clear h1 h2 h3
          go_upto_region 5 with fail
          clear hk0 hk12 hcn
          go_wp2_with fail
          exact ⟨⟨k + 1, by omega, by go_num, k1, k2, hc, hm, hB⟩, by simp [intOf]; omega⟩
        · have hd : decide (n < a0) = false := decide_eq_false ha
          by_cases hb1 : a1 < n
          · have hd2 : decide (a1 < n) = true := decide_eq_true hb1
            clear h1 h2 h3
            go_upto_region 5 with fail
            clear hk0 hk12 hcn
            go_wp2_with fail
            exact ⟨⟨k + 1, by omega, by go_num, k1, k2, hc, hm, hB⟩, by simp [intOf]; omega⟩
          · have hd2 : decide (a1 < n) = false := decide_eq_false hb1
            have h1n := h1 n (by omega) (by omega)
            have h2n := h2 n (by omega) (by omega)
            clear h1 h2 h3
            cases hok : ok n with
            | true =>
              have hin := decide_eq_true (h1n hok)
              by_cases e0 : n = x0
              · have q0 : (n == x0) = true := by rw [beq_iff_eq]; exact e0
                clear h1n h2n e0
                have r1 := row_of k1
                have f1 := frozen_of k1
                have z1 := blk_lt k1
                have r2 := row_of k2
                have f2 := frozen_of k2
                have z2 := blk_lt k2
                go_wp2_with fail
                refine (hs.out n _).mono ?_
                rintro e w2 ⟨rfl, hb⟩
                replace k1 := blk_keep hb k1
                replace k2 := blk_keep hb k2
                replace hB := hB.trans (hb.mono hB.size)
                replace hc : ∀ i, i < 12 → ∃ n : Int, w2.cell? ⟨w1.heap.size, i, none⟩ = some (.int .i64 n) := fun i hi => by obtain ⟨n, hn⟩ := hc i hi; exact ⟨n, (hb.cell (p := ⟨w1.heap.size, i, none⟩) hm).trans hn⟩
                replace hm := Nat.lt_of_lt_of_le hm hb.size
                clear r1 f1 z1 r2 f2 z2
                clear hb
                have r1 := row_of k1
                have f1 := frozen_of k1
                have z1 := blk_lt k1
                have r2 := row_of k2
                have f2 := frozen_of k2
                have z2 := blk_lt k2
                go_wp2_with fail
                refine (rhas_any _ _ _ _).mono ?_
                rintro e w3 ⟨rfl, hb⟩
                replace k1 := blk_keep hb k1
                replace k2 := blk_keep hb k2
                replace hB := hB.trans (hb.mono hB.size)
                replace hc : ∀ i, i < 12 → ∃ n : Int, w3.cell? ⟨w1.heap.size, i, none⟩ = some (.int .i64 n) := fun i hi => by obtain ⟨n, hn⟩ := hc i hi; exact ⟨n, (hb.cell (p := ⟨w1.heap.size, i, none⟩) hm).trans hn⟩
                replace hm := Nat.lt_of_lt_of_le hm hb.size
                clear r1 f1 z1 r2 f2 z2
                clear hb
                have r1 := row_of k1
                have f1 := frozen_of k1
                have z1 := blk_lt k1
                have r2 := row_of k2
                have f2 := frozen_of k2
                have z2 := blk_lt k2
                go_wp2_with fail
                refine (rhas_any _ _ _ _).mono ?_
                rintro e w4 ⟨rfl, hb⟩
                replace k1 := blk_keep hb k1
                replace k2 := blk_keep hb k2
                replace hB := hB.trans (hb.mono hB.size)
                replace hc : ∀ i, i < 12 → ∃ n : Int, w4.cell? ⟨w1.heap.size, i, none⟩ = some (.int .i64 n) := fun i hi => by obtain ⟨n, hn⟩ := hc i hi; exact ⟨n, (hb.cell (p := ⟨w1.heap.size, i, none⟩) hm).trans hn⟩
                replace hm := Nat.lt_of_lt_of_le hm hb.size
                clear r1 f1 z1 r2 f2 z2
                clear hb
                have r1 := row_of k1
                have f1 := frozen_of k1
                have z1 := blk_lt k1
                have r2 := row_of k2
                have f2 := frozen_of k2
                have z2 := blk_lt k2
                go_upto_region 5 with fail
                clear r1 f1 z1 r2 f2 z2
                clear hk0 hk12 hcn
                go_wp2_with fail
                exact ⟨⟨k + 1, by omega, by go_num, k1, k2, hc, hm, hB⟩, by simp [intOf]; omega⟩
              · by_cases e1 : n = x1
                · have q0 : (n == x0) = false := by rw [beq_eq_false_iff_ne]; exact e0
                  have q1 : (n == x1) = true := by rw [beq_iff_eq]; exact e1
                  clear h1n h2n e0 e1
                  have r1 := row_of k1
                  have f1 := frozen_of k1
                  have z1 := blk_lt k1
                  have r2 := row_of k2
                  have f2 := frozen_of k2
                  have z2 := blk_lt k2
                  go_wp2_with fail
                  refine (hs.out n _).mono ?_
                  rintro e w2 ⟨rfl, hb⟩
                  replace k1 := blk_keep hb k1
                  replace k2 := blk_keep hb k2
                  replace hB := hB.trans (hb.mono hB.size)
                  replace hc : ∀ i, i < 12 → ∃ n : Int, w2.cell? ⟨w1.heap.size, i, none⟩ = some (.int .i64 n) := fun i hi => by obtain ⟨n, hn⟩ := hc i hi; exact ⟨n, (hb.cell (p := ⟨w1.heap.size, i, none⟩) hm).trans hn⟩
                  replace hm := Nat.lt_of_lt_of_le hm hb.size
                  clear r1 f1 z1 r2 f2 z2
                  clear hb
                  have r1 := row_of k1
                  have f1 := frozen_of k1
                  have z1 := blk_lt k1
                  have r2 := row_of k2
                  have f2 := frozen_of k2
                  have z2 := blk_lt k2
                  go_wp2_with fail
                  refine (rhas_any _ _ _ _).mono ?_
                  rintro e w3 ⟨rfl, hb⟩
                  replace k1 := blk_keep hb k1
                  replace k2 := blk_keep hb k2
                  replace hB := hB.trans (hb.mono hB.size)
                  replace hc : ∀ i, i < 12 → ∃ n : Int, w3.cell? ⟨w1.heap.size, i, none⟩ = some (.int .i64 n) := fun i hi => by obtain ⟨n, hn⟩ := hc i hi; exact ⟨n, (hb.cell (p := ⟨w1.heap.size, i, none⟩) hm).trans hn⟩
                  replace hm := Nat.lt_of_lt_of_le hm hb.size
                  clear r1 f1 z1 r2 f2 z2
                  clear hb
                  have r1 := row_of k1
                  have f1 := frozen_of k1
                  have z1 := blk_lt k1
                  have r2 := row_of k2
                  have f2 := frozen_of k2
                  have z2 := blk_lt k2
                  go_wp2_with fail
                  refine (rhas_any _ _ _ _).mono ?_
                  rintro e w4 ⟨rfl, hb⟩
                  replace k1 := blk_keep hb k1
                  replace k2 := blk_keep hb k2
                  replace hB := hB.trans (hb.mono hB.size)
                  replace hc : ∀ i, i < 12 → ∃ n : Int, w4.cell? ⟨w1.heap.size, i, none⟩ = some (.int .i64 n) := fun i hi => by obtain ⟨n, hn⟩ := hc i hi; exact ⟨n, (hb.cell (p := ⟨w1.heap.size, i, none⟩) hm).trans hn⟩
                  replace hm := Nat.lt_of_lt_of_le hm hb.size
                  clear r1 f1 z1 r2 f2 z2
                  clear hb
                  have r1 := row_of k1
                  have f1 := frozen_of k1
                  have z1 := blk_lt k1
                  have r2 := row_of k2
                  have f2 := frozen_of k2
                  have z2 := blk_lt k2
                  go_upto_region 5 with fail
                  clear r1 f1 z1 r2 f2 z2
                  clear hk0 hk12 hcn
                  go_wp2_with fail
                  exact ⟨⟨k + 1, by omega, by go_num, k1, k2, hc, hm, hB⟩, by simp [intOf]; omega⟩
                · have q0 : (n == x0) = false := by rw [beq_eq_false_iff_ne]; exact e0
                  have q1 : (n == x1) = false := by rw [beq_eq_false_iff_ne]; exact e1
                  clear h1n h2n e0 e1
                  have r1 := row_of k1
                  have f1 := frozen_of k1
                  have z1 := blk_lt k1
                  have r2 := row_of k2
                  have f2 := frozen_of k2
                  have z2 := blk_lt k2
                  go_wp2_with fail
                  refine (hs.out n _).mono ?_
                  rintro e w2 ⟨rfl, hb⟩
                  replace k1 := blk_keep hb k1
                  replace k2 := blk_keep hb k2
                  replace hB := hB.trans (hb.mono hB.size)
                  replace hc : ∀ i, i < 12 → ∃ n : Int, w2.cell? ⟨w1.heap.size, i, none⟩ = some (.int .i64 n) := fun i hi => by obtain ⟨n, hn⟩ := hc i hi; exact ⟨n, (hb.cell (p := ⟨w1.heap.size, i, none⟩) hm).trans hn⟩
                  replace hm := Nat.lt_of_lt_of_le hm hb.size
                  clear r1 f1 z1 r2 f2 z2
                  clear hb
                  have r1 := row_of k1
                  have f1 := frozen_of k1
                  have z1 := blk_lt k1
                  have r2 := row_of k2
                  have f2 := frozen_of k2
                  have z2 := blk_lt k2
                  go_wp2_with fail
                  refine (rhas_any _ _ _ _).mono ?_
                  rintro e w3 ⟨rfl, hb⟩
                  replace k1 := blk_keep hb k1
                  replace k2 := blk_keep hb k2
                  replace hB := hB.trans (hb.mono hB.size)
                  replace hc : ∀ i, i < 12 → ∃ n : Int, w3.cell? ⟨w1.heap.size, i, none⟩ = some (.int .i64 n) := fun i hi => by obtain ⟨n, hn⟩ := hc i hi; exact ⟨n, (hb.cell (p := ⟨w1.heap.size, i, none⟩) hm).trans hn⟩
                  replace hm := Nat.lt_of_lt_of_le hm hb.size
                  clear r1 f1 z1 r2 f2 z2
                  clear hb
                  have r1 := row_of k1
                  have f1 := frozen_of k1
                  have z1 := blk_lt k1
                  have r2 := row_of k2
                  have f2 := frozen_of k2
                  have z2 := blk_lt k2
                  go_upto_region 5 with fail
                  clear r1 f1 z1 r2 f2 z2
                  clear hk0 hk12 hcn
                  go_wp2_with fail
                  exact ⟨⟨k + 1, by omega, by go_num, k1, k2, hc, hm, hB⟩, by simp [intOf]; omega⟩
            | false =>
              by_cases e0 : n = x0
              · have q0 : (n == x0) = true := by rw [beq_iff_eq]; exact e0
                have hin : decide (x0 ≤ n ∧ n ≤ x1) = false := decide_eq_false (fun h => by have := h2n (.inl e0) h; rw [hok] at this; cases this)
                clear h1n h2n e0
                have r1 := row_of k1
                have f1 := frozen_of k1
                have z1 := blk_lt k1
                have r2 := row_of k2
                have f2 := frozen_of k2
                have z2 := blk_lt k2
                go_wp2_with fail
                refine (hs.out n _).mono ?_
                rintro e w2 ⟨rfl, hb⟩
                replace k1 := blk_keep hb k1
                replace k2 := blk_keep hb k2
                replace hB := hB.trans (hb.mono hB.size)
                replace hc : ∀ i, i < 12 → ∃ n : Int, w2.cell? ⟨w1.heap.size, i, none⟩ = some (.int .i64 n) := fun i hi => by obtain ⟨n, hn⟩ := hc i hi; exact ⟨n, (hb.cell (p := ⟨w1.heap.size, i, none⟩) hm).trans hn⟩
                replace hm := Nat.lt_of_lt_of_le hm hb.size
                clear r1 f1 z1 r2 f2 z2
                clear hb
                have r1 := row_of k1
                have f1 := frozen_of k1
                have z1 := blk_lt k1
                have r2 := row_of k2
                have f2 := frozen_of k2
                have z2 := blk_lt k2
                go_wp2_with fail
                refine (rhas_any _ _ _ _).mono ?_
                rintro e w3 ⟨rfl, hb⟩
                replace k1 := blk_keep hb k1
                replace k2 := blk_keep hb k2
                replace hB := hB.trans (hb.mono hB.size)
                replace hc : ∀ i, i < 12 → ∃ n : Int, w3.cell? ⟨w1.heap.size, i, none⟩ = some (.int .i64 n) := fun i hi => by obtain ⟨n, hn⟩ := hc i hi; exact ⟨n, (hb.cell (p := ⟨w1.heap.size, i, none⟩) hm).trans hn⟩
                replace hm := Nat.lt_of_lt_of_le hm hb.size
                clear r1 f1 z1 r2 f2 z2
                clear hb
                have r1 := row_of k1
                have f1 := frozen_of k1
                have z1 := blk_lt k1
                have r2 := row_of k2
                have f2 := frozen_of k2
                have z2 := blk_lt k2
                go_upto_region 5 with fail
                clear r1 f1 z1 r2 f2 z2
                clear hk0 hk12 hcn
                go_wp2_with fail
                exact ⟨⟨k + 1, by omega, by go_num, k1, k2, hc, hm, hB⟩, by simp [intOf]; omega⟩
              · by_cases e1 : n = x1
                · have q0 : (n == x0) = false := by rw [beq_eq_false_iff_ne]; exact e0
                  have q1 : (n == x1) = true := by rw [beq_iff_eq]; exact e1
                  have hin : decide (x0 ≤ n ∧ n ≤ x1) = false := decide_eq_false (fun h => by have := h2n (.inr e1) h; rw [hok] at this; cases this)
                  clear h1n h2n e0 e1
                  have r1 := row_of k1
                  have f1 := frozen_of k1
                  have z1 := blk_lt k1
                  have r2 := row_of k2
                  have f2 := frozen_of k2
                  have z2 := blk_lt k2
                  go_wp2_with fail
                  refine (hs.out n _).mono ?_
                  rintro e w2 ⟨rfl, hb⟩
                  replace k1 := blk_keep hb k1
                  replace k2 := blk_keep hb k2
                  replace hB := hB.trans (hb.mono hB.size)
                  replace hc : ∀ i, i < 12 → ∃ n : Int, w2.cell? ⟨w1.heap.size, i, none⟩ = some (.int .i64 n) := fun i hi => by obtain ⟨n, hn⟩ := hc i hi; exact ⟨n, (hb.cell (p := ⟨w1.heap.size, i, none⟩) hm).trans hn⟩
                  replace hm := Nat.lt_of_lt_of_le hm hb.size
                  clear r1 f1 z1 r2 f2 z2
                  clear hb
                  have r1 := row_of k1
                  have f1 := frozen_of k1
                  have z1 := blk_lt k1
                  have r2 := row_of k2
                  have f2 := frozen_of k2
                  have z2 := blk_lt k2
                  go_wp2_with fail
                  refine (rhas_any _ _ _ _).mono ?_
                  rintro e w3 ⟨rfl, hb⟩
                  replace k1 := blk_keep hb k1
                  replace k2 := blk_keep hb k2
                  replace hB := hB.trans (hb.mono hB.size)
                  replace hc : ∀ i, i < 12 → ∃ n : Int, w3.cell? ⟨w1.heap.size, i, none⟩ = some (.int .i64 n) := fun i hi => by obtain ⟨n, hn⟩ := hc i hi; exact ⟨n, (hb.cell (p := ⟨w1.heap.size, i, none⟩) hm).trans hn⟩
                  replace hm := Nat.lt_of_lt_of_le hm hb.size
                  clear r1 f1 z1 r2 f2 z2
                  clear hb
                  have r1 := row_of k1
                  have f1 := frozen_of k1
                  have z1 := blk_lt k1
                  have r2 := row_of k2
                  have f2 := frozen_of k2
                  have z2 := blk_lt k2
                  go_upto_region 5 with fail
                  clear r1 f1 z1 r2 f2 z2
                  clear hk0 hk12 hcn
                  go_wp2_with fail
                  exact ⟨⟨k + 1, by omega, by go_num, k1, k2, hc, hm, hB⟩, by simp [intOf]; omega⟩
                · have q0 : (n == x0) = false := by rw [beq_eq_false_iff_ne]; exact e0
                  have q1 : (n == x1) = false := by rw [beq_eq_false_iff_ne]; exact e1
                  clear h1n h2n e0 e1
                  have r1 := row_of k1
                  have f1 := frozen_of k1
                  have z1 := blk_lt k1
                  have r2 := row_of k2
                  have f2 := frozen_of k2
                  have z2 := blk_lt k2
                  go_wp2_with fail
                  refine (hs.out n _).mono ?_
                  rintro e w2 ⟨rfl, hb⟩
                  replace k1 := blk_keep hb k1
                  replace k2 := blk_keep hb k2
                  replace hB := hB.trans (hb.mono hB.size)
                  replace hc : ∀ i, i < 12 → ∃ n : Int, w2.cell? ⟨w1.heap.size, i, none⟩ = some (.int .i64 n) := fun i hi => by obtain ⟨n, hn⟩ := hc i hi; exact ⟨n, (hb.cell (p := ⟨w1.heap.size, i, none⟩) hm).trans hn⟩
                  replace hm := Nat.lt_of_lt_of_le hm hb.size
                  clear r1 f1 z1 r2 f2 z2
                  clear hb
                  have r1 := row_of k1
                  have f1 := frozen_of k1
                  have z1 := blk_lt k1
                  have r2 := row_of k2
                  have f2 := frozen_of k2
                  have z2 := blk_lt k2
                  go_upto_region 5 with fail
                  clear r1 f1 z1 r2 f2 z2
                  clear hk0 hk12 hcn
                  go_wp2_with fail
                  exact ⟨⟨k + 1, by omega, by go_num, k1, k2, hc, hm, hB⟩, by simp [intOf]; omega⟩
      · have hlt2 : ¬ (k : Int) < 12 := by omega
        have r2 := row_of k2
        clear h1 h2
        rcases h3 with ⟨rfl, rfl⟩ | ⟨g1, g2, g3⟩
        · go_wp2_with fail
          go_ret
          exact ⟨by simp, hB⟩
        · have p1 : decide (x0 ≤ x1) = true := decide_eq_true g1
          have p2 : decide (a0 ≤ x0) = true := decide_eq_true g2
          have p3 : decide (x1 ≤ a1) = true := decide_eq_true g3
          by_cases e0 : x0 = 1
          · have q1 : (x1 == 0) = false := by rw [beq_eq_false_iff_ne]; omega
            have q0 : (x0 == 1) = true := by rw [beq_iff_eq]; exact e0
            clear e0
            go_wp2_with fail
            go_ret
            exact ⟨by simp_all, hB⟩
          · have q0 : (x0 == 1) = false := by rw [beq_eq_false_iff_ne]; exact e0
            clear e0
            go_wp2_with fail
            go_ret
            exact ⟨by simp_all, hB⟩
end Go.Proofs.Ytkicilkegeckeaa
