/-
  StepNumbers' walk: of two numbers.
-/
import Derived.Test.YtmcomhjfpegieaaHg
import Derived.Test.YtmcomhjfpegieaaHp
namespace Go.Proofs.Ytmcomhjfpegieaa
open Go.RowKit

def pairX (k : Int) : Ex := .mk k 0 0 [.mk 2 0 0 [], .mk 2 0 1 []]
theorem pair_ev (k x y : Int) (hk : 4 ≤ k ∧ k ≤ 8) (x1 : -2147483648 ≤ x) (x2 : x ≤ 2147483647) (y1 : -2147483648 ≤ y) (y2 : y ≤ 2147483647) : evF [x, y] 2 (pairX k) = opI k x y := by
  have e1 : evF [x, y] 1 (.mk 2 0 0 []) = (x, 0) := by simp [evF, cutI, x1, x2]
  have e2 : evF [x, y] 1 (.mk 2 0 1 []) = (y, 0) := by simp [evF, cutI, y1, y2]
  unfold pairX
  conv => lhs; unfold evF
  rw [if_neg (by omega), if_neg (by omega), if_neg (by omega), if_pos hk]
  show two (evF [x, y] 1 (.mk 2 0 0 [])) (evF [x, y] 1 (.mk 2 0 1 [])) (opI k) = _
  rw [e1, e2]
  simp [two]
theorem pair_in (k : Int) {W : World} {b : Nat} (h : W.heap[b]? = some (.cells #[.int .i64 2, .int .i64 0, .int .i64 0, .slice none 0 0, .int .i64 2, .int .i64 0, .int .i64 1, .slice none 0 0] 24 (0, 0))) : ExIn W W.heap.size 2 (pairX k) (.agg #[.int .i64 k, .int .i64 0, .int .i64 0, .slice (some ⟨b, 0, none⟩) 2 2]) :=
  ExIn.two (ExIn.leaf _ _ 0 2 0 0) (ExIn.leaf _ _ 0 2 0 1) (blk_lt h) (row_of h 0) (row_of h 1) (row_of h 2) (row_of h 3) (row_of h 4) (row_of h 5) (row_of h 6) (row_of h 7) k 0 0 2 (Nat.le_refl _)
theorem two_vars {W : World} {b : Nat} {x y : Int} (h : W.heap[b]? = some (.cells #[.int .i64 x, .int .i64 y] 3 (0, 0))) : VarsAt W W.heap.size (some ⟨b, 0, none⟩) [x, y] := fun i u hi => by
  match i, hi with
  | 0, hi => cases hi; exact ⟨b, rfl, blk_lt h, row_of h 0⟩
  | 1, hi => cases hi; exact ⟨b, rfl, blk_lt h, row_of h 1⟩
  | i + 2, hi => simp at hi
/-- Eval of the two variables' operation. -/
theorem pair_eval (k x y : Int) (hk : 4 ≤ k ∧ k ≤ 8) (x1 : -2147483648 ≤ x) (x2 : x ≤ 2147483647) (y1 : -2147483648 ≤ y) (y2 : y ≤ 2147483647) {W : World} {b l : Nat} (h : W.heap[b]? = some (.cells #[.int .i64 2, .int .i64 0, .int .i64 0, .slice none 0 0, .int .i64 2, .int .i64 0, .int .i64 1, .slice none 0 0] 24 (0, 0))) (hl : W.heap[l]? = some (.cells #[.int .i64 x, .int .i64 y] 3 (0, 0))) :
    Calls Try.prog 10 #[.agg #[.int .i64 k, .int .i64 0, .int .i64 0, .slice (some ⟨b, 0, none⟩) 2 2], .slice (some ⟨l, 0, none⟩) 2 2] W fun e w' => e = .returned (.tuple #[.int .i64 (opI k x y).1, .int .i64 (opI k x y).2]) ∧ Below W.heap.size W w' := by
  have h := eval_any [x, y] (some ⟨l, 0, none⟩) 2 2 rfl (Nat.le_refl _) (by decide) 2 (pairX k) _ W (pair_in k h) (two_vars hl)
  rwa [pair_ev k x y hk x1 x2 y1 y2] at h
def PairOut (w : World) (k : Int) (e : Ending) (w' : World) : Prop := ∃ b, e = .returned (.agg #[.int .i64 k, .int .i64 0, .int .i64 0, .slice (some ⟨b, 0, none⟩) 2 2]) ∧ w'.heap[b]? = some (.cells #[.int .i64 2, .int .i64 0, .int .i64 0, .slice none 0 0, .int .i64 2, .int .i64 0, .int .i64 1, .slice none 0 0] 24 (0, 0)) ∧ Below w.heap.size w w'
set_option maxRecDepth 100000 in
set_option maxHeartbeats 2000000 in
theorem pair_any (k : Int) (w : World) : Calls Try.prog 9 #[.int .i64 k] w (PairOut w k) := by
  go_enter Try.func9, Try.ntmps9
  go_wp2_with fail
  exact bodyPost_ret (v := .agg #[.int .i64 k, .int .i64 0, .int .i64 0, .slice (some ⟨w.heap.size + 1, 0, none⟩) 2 2]) (by simp [results, Try.results9, go_sem]) rfl ⟨_, rfl, blkA _ _ (by simp), ((Below.refl _ _).alloc (Nat.le_refl _) _).alloc (by simp) _⟩

set_option maxRecDepth 100000 in
set_option maxHeartbeats 8000000 in
theorem numbers_probe (x y q e r f p g : Int) (w : World) (x1 : -2147483648 ≤ x) (x2 : x ≤ 2147483647) (y1 : -2147483648 ≤ y) (y2 : y ≤ 2147483647) (hP : Prd x y p g) (hC : (y = 0 ∧ q = 0 ∧ e = 3 ∧ r = 0 ∧ f = 3) ∨ (x = -2147483648 ∧ y = -1 ∧ q = 0 ∧ e = 2 ∧ r = 0 ∧ f = 0) ∨ Quo x y q e r f) (h7 : opI 7 x y = (q, e)) (h8 : opI 8 x y = (r, f)) (h6 : opI 6 x y = (p, g)) :
    Calls Try.prog 4 #[.int .i32 x, .int .i32 y] w fun e w' => e = .returned (.bool true) ∧ Below w.heap.size w w' := by
  replace h7 := Lib.hid h7
  replace h8 := Lib.hid h8
  replace h6 := Lib.hid h6
  go_enter Try.func4, Try.ntmps4
  go_wp2_with fail
  refine (pair_any 7 _).mono ?_
  rintro e' w1 ⟨b, rfl, kb1, hb1⟩
  have kl1 := Lib.hid (blk_keep hb1 (b := w.heap.size) (blkA _ _ rfl))
  have hB1 : Below w.heap.size w w1 := ((Below.refl _ _).alloc (Nat.le_refl _) _).trans (hb1.mono (by simp))
  replace kb1 := Lib.hid kb1
  clear hb1
  go_upto_region 4 with fail
  refine wp_world (fun W => W.heap[w.heap.size]? = some (.cells #[.int .i64 x, .int .i64 y] 3 (0, 0)) ∧ W.heap[b]? = some (.cells #[.int .i64 2, .int .i64 0, .int .i64 0, .slice none 0 0, .int .i64 2, .int .i64 0, .int .i64 1, .slice none 0 0] 24 (0, 0)) ∧ W.heap[w1.heap.size]? = some (.cells #[.int .i64 7, .int .i64 0, .int .i64 0, .slice (some ⟨b, 0, none⟩) 2 2] 24 (0, 0)) ∧ Below w.heap.size w W) ⟨blkUp kl1.out _, blkUp kb1.out _, blkA _ _ rfl, hB1.alloc hB1.size _⟩ ?_
  have zb := blk_lt kb1.out
  have zl := blk_lt kl1.out
  clear kl1 kb1
  clear hB1
  rintro w2 ⟨kl2, kb2, kr2, hB2⟩
  have rr2 := row_of kr2
  have ev2 := Lib.hid (pair_eval 7 x y (by omega) x1 x2 y1 y2 kb2 kl2)
  replace kl2 := Lib.hid kl2
  replace kb2 := Lib.hid kb2
  replace kr2 := Lib.hid kr2
  go_wp2_with fail
  refine ev2.out.mono ?_
  rw [h7.out]
  rintro e' w3 ⟨rfl, hb3⟩
  have kl3 := Lib.hid (blk_keep hb3 kl2.out)
  have kb3 := Lib.hid (blk_keep hb3 kb2.out)
  have kr3 := blk_keep hb3 kr2.out
  have hB3 : Below w.heap.size w w3 := hB2.trans (hb3.mono hB2.size)
  have rr3 := row_of kr3
  have ff3 := frozen_of kr3 0
  have ll3 := blk_lt kr3
  replace kr3 := Lib.hid kr3
  clear rr2 ev2 kl2 kb2 kr2 hb3 hB2
  go_upto_region 6 with fail
  refine wp_world (fun W => W.heap[w.heap.size]? = some (.cells #[.int .i64 x, .int .i64 y] 3 (0, 0)) ∧ W.heap[b]? = some (.cells #[.int .i64 2, .int .i64 0, .int .i64 0, .slice none 0 0, .int .i64 2, .int .i64 0, .int .i64 1, .slice none 0 0] 24 (0, 0)) ∧ W.heap[w1.heap.size]? = some (.cells #[.int .i64 8, .int .i64 0, .int .i64 0, .slice (some ⟨b, 0, none⟩) 2 2] 24 (0, 0)) ∧ Below w.heap.size w W) ⟨blk_set kl3.out (by omega), blk_set kb3.out (by omega), by have := kr3.out; simp [World.setCell, Array.getElem?_modify, this], hB3.setCell (p := ⟨w1.heap.size, 0, none⟩) (Nat.le_of_lt zl) _⟩ ?_
  clear rr3 ff3 ll3 kl3 kb3 kr3 hB3
  rintro w4 ⟨kl2, kb2, kr2, hB2⟩
  have rr2 := row_of kr2
  have ev2 := Lib.hid (pair_eval 8 x y (by omega) x1 x2 y1 y2 kb2 kl2)
  replace kl2 := Lib.hid kl2
  replace kb2 := Lib.hid kb2
  replace kr2 := Lib.hid kr2
  go_wp2_with fail
  refine ev2.out.mono ?_
  rw [h8.out]
  rintro e' w5 ⟨rfl, hb3⟩
  have kl3 := Lib.hid (blk_keep hb3 kl2.out)
  have kb3 := Lib.hid (blk_keep hb3 kb2.out)
  have kr3 := blk_keep hb3 kr2.out
  have hB3 : Below w.heap.size w w5 := hB2.trans (hb3.mono hB2.size)
  have rr3 := row_of kr3
  have ff3 := frozen_of kr3 0
  have ll3 := blk_lt kr3
  replace kr3 := Lib.hid kr3
  clear rr2 ev2 kl2 kb2 kr2 hb3 hB2
  go_upto_region 8 with fail
  refine wp_world (fun W => W.heap[w.heap.size]? = some (.cells #[.int .i64 x, .int .i64 y] 3 (0, 0)) ∧ W.heap[b]? = some (.cells #[.int .i64 2, .int .i64 0, .int .i64 0, .slice none 0 0, .int .i64 2, .int .i64 0, .int .i64 1, .slice none 0 0] 24 (0, 0)) ∧ W.heap[w1.heap.size]? = some (.cells #[.int .i64 6, .int .i64 0, .int .i64 0, .slice (some ⟨b, 0, none⟩) 2 2] 24 (0, 0)) ∧ Below w.heap.size w W) ⟨blk_set kl3.out (by omega), blk_set kb3.out (by omega), by have := kr3.out; simp [World.setCell, Array.getElem?_modify, this], hB3.setCell (p := ⟨w1.heap.size, 0, none⟩) (Nat.le_of_lt zl) _⟩ ?_
  clear rr3 ff3 ll3 kl3 kb3 kr3 hB3
  rintro w6 ⟨kl2, kb2, kr2, hB2⟩
  have rr2 := row_of kr2
  have ev2 := Lib.hid (pair_eval 6 x y (by omega) x1 x2 y1 y2 kb2 kl2)
  replace kr2 := Lib.hid kr2
  clear kl2 kb2
  go_wp2_with fail
  refine ev2.out.mono ?_
  rw [h6.out]
  rintro e' w7 ⟨rfl, hb3⟩
  have hB3 : Below w.heap.size w w7 := hB2.trans (hb3.mono hB2.size)
  clear rr2 ev2 kr2 hb3 hB2 zb zl
  go_upto_region 9 with fail
  replace hP := Lib.hid hP
  replace h7 := Lib.hid trivial
  replace h8 := Lib.hid trivial
  replace h6 := Lib.hid trivial
  obtain ⟨m1, m2⟩ := mul_in x1 x2 y1 y2
  rcases hC with ⟨rfl, rfl, rfl, rfl, rfl⟩ | ⟨rfl, rfl, rfl, rfl, rfl, rfl⟩ | hC
  · have hP' : p = 0 ∧ g = 0 := by
      have := hP.out
      unfold Prd at this
      simp at this
      omega
    obtain ⟨rfl, rfl⟩ := hP'
    clear m1 m2
    go_wp2_with fail
    refine (steps_any w7).mono ?_
    rintro e' w8 ⟨rfl, hb8⟩
    have hB8 := hB3.trans (hb8.mono hB3.size)
    go_wp2_with fail
    go_ret
    exact ⟨by simp, hB8⟩
  · have hP' : p = 0 ∧ g = 2 := by
      have := hP.out
      unfold Prd at this
      omega
    obtain ⟨rfl, rfl⟩ := hP'
    clear m1 m2
    go_wp2_with fail
    refine (steps_any w7).mono ?_
    rintro e' w8 ⟨rfl, hb8⟩
    have hB8 := hB3.trans (hb8.mono hB3.size)
    go_wp2_with fail
    go_ret
    exact ⟨by simp, hB8⟩
  · obtain ⟨hxy, hy0, rfl, rfl, hsum, hsq, hsg, q1, q2, r1, r2⟩ := hC
    have hy' : (y == 0) = false := by rw [beq_eq_false_iff_ne]; exact hy0
    obtain ⟨m3, m4⟩ := mul_in q1 q2 y1 y2
    obtain ⟨m5, m6⟩ := mul_in r1 r2 r1 r2
    obtain ⟨m7, m8⟩ := mul_in y1 y2 y1 y2
    have hsum' : (q * y + r == x) = true := by rw [beq_iff_eq]; exact hsum
    have hsq' : decide (r * r < y * y) = true := decide_eq_true hsq
    clear hy0
    replace hsum := Lib.hid hsum
    clear hsq
    have hP2 := hP.out
    unfold Prd at hP2
    rcases hP2 with ⟨rfl, rfl, _⟩ | ⟨rfl, rfl, hlo⟩ | ⟨rfl, rfl, hhi⟩
    · clear hP
      go_wp2_with fail
      refine (steps_any w7).mono ?_
      rintro e' w8 ⟨rfl, hb8⟩
      have hB8 := hB3.trans (hb8.mono hB3.size)
      clear hB3 hb8
      go_upto_region 13 with fail
      by_cases hx : x ≠ -2147483648
      · have hx' : (x == -2147483648) = false := by rw [beq_eq_false_iff_ne]; exact hx
        clear hx hxy
        rcases hsg with hs0 | ⟨hs1, hs2⟩ | ⟨hs1, hs2⟩
        · have hr0 : (r == 0) = true := by rw [beq_iff_eq]; exact hs0
          clear hs0
          go_wp2_with fail
          go_ret
          exact ⟨by simp, hB8⟩
        · have hr0 : (r == 0) = false := by rw [beq_eq_false_iff_ne]; omega
          have hd1 : decide (r < 0) = true := by simp; omega
          have hd2 : decide (x < 0) = true := by simp; omega
          go_wp2_with fail
          go_ret
          exact ⟨by simp, hB8⟩
        · have hr0 : (r == 0) = false := by rw [beq_eq_false_iff_ne]; omega
          have hd1 : decide (r < 0) = false := by simp; omega
          have hd2 : decide (x < 0) = false := by simp; omega
          go_wp2_with fail
          go_ret
          exact ⟨by simp, hB8⟩
      · have hx' : (x == -2147483648) = true := by rw [beq_iff_eq]; omega
        have hy1 : (y == -1) = false := by rw [beq_eq_false_iff_ne]; omega
        clear hx hxy
        rcases hsg with hs0 | ⟨hs1, hs2⟩ | ⟨hs1, hs2⟩
        · have hr0 : (r == 0) = true := by rw [beq_iff_eq]; exact hs0
          clear hs0
          go_wp2_with fail
          all_goals
            go_ret
            exact ⟨by simp, hB8⟩
        · have hr0 : (r == 0) = false := by rw [beq_eq_false_iff_ne]; omega
          have hd1 : decide (r < 0) = true := by simp; omega
          have hd2 : decide (x < 0) = true := by simp; omega
          go_wp2_with fail
          all_goals
            go_ret
            exact ⟨by simp, hB8⟩
        · have hr0 : (r == 0) = false := by rw [beq_eq_false_iff_ne]; omega
          have hd1 : decide (r < 0) = false := by simp; omega
          have hd2 : decide (x < 0) = false := by simp; omega
          go_wp2_with fail
          all_goals
            go_ret
            exact ⟨by simp, hB8⟩
    · have h0 : (0 == x * y) = false := by rw [beq_eq_false_iff_ne]; omega
      have hd : decide (-2147483648 ≤ x * y) = false := by simp; omega
      clear hP
      go_wp2_with fail
      refine (steps_any w7).mono ?_
      rintro e' w8 ⟨rfl, hb8⟩
      have hB8 := hB3.trans (hb8.mono hB3.size)
      clear hB3 hb8
      go_upto_region 13 with fail
      by_cases hx : x ≠ -2147483648
      · have hx' : (x == -2147483648) = false := by rw [beq_eq_false_iff_ne]; exact hx
        clear hx hxy
        rcases hsg with hs0 | ⟨hs1, hs2⟩ | ⟨hs1, hs2⟩
        · have hr0 : (r == 0) = true := by rw [beq_iff_eq]; exact hs0
          clear hs0
          go_wp2_with fail
          go_ret
          exact ⟨by simp, hB8⟩
        · have hr0 : (r == 0) = false := by rw [beq_eq_false_iff_ne]; omega
          have hd1 : decide (r < 0) = true := by simp; omega
          have hd2 : decide (x < 0) = true := by simp; omega
          go_wp2_with fail
          go_ret
          exact ⟨by simp, hB8⟩
        · have hr0 : (r == 0) = false := by rw [beq_eq_false_iff_ne]; omega
          have hd1 : decide (r < 0) = false := by simp; omega
          have hd2 : decide (x < 0) = false := by simp; omega
          go_wp2_with fail
          go_ret
          exact ⟨by simp, hB8⟩
      · have hx' : (x == -2147483648) = true := by rw [beq_iff_eq]; omega
        have hy1 : (y == -1) = false := by rw [beq_eq_false_iff_ne]; omega
        clear hx hxy
        rcases hsg with hs0 | ⟨hs1, hs2⟩ | ⟨hs1, hs2⟩
        · have hr0 : (r == 0) = true := by rw [beq_iff_eq]; exact hs0
          clear hs0
          go_wp2_with fail
          all_goals
            go_ret
            exact ⟨by simp, hB8⟩
        · have hr0 : (r == 0) = false := by rw [beq_eq_false_iff_ne]; omega
          have hd1 : decide (r < 0) = true := by simp; omega
          have hd2 : decide (x < 0) = true := by simp; omega
          go_wp2_with fail
          all_goals
            go_ret
            exact ⟨by simp, hB8⟩
        · have hr0 : (r == 0) = false := by rw [beq_eq_false_iff_ne]; omega
          have hd1 : decide (r < 0) = false := by simp; omega
          have hd2 : decide (x < 0) = false := by simp; omega
          go_wp2_with fail
          all_goals
            go_ret
            exact ⟨by simp, hB8⟩
    · have h0 : (0 == x * y) = false := by rw [beq_eq_false_iff_ne]; omega
      have hd1 : decide (-2147483648 ≤ x * y) = true := by simp; omega
      have hd : decide (x * y ≤ 2147483647) = false := by simp; omega
      clear hP
      go_wp2_with fail
      refine (steps_any w7).mono ?_
      rintro e' w8 ⟨rfl, hb8⟩
      have hB8 := hB3.trans (hb8.mono hB3.size)
      clear hB3 hb8
      go_upto_region 13 with fail
      by_cases hx : x ≠ -2147483648
      · have hx' : (x == -2147483648) = false := by rw [beq_eq_false_iff_ne]; exact hx
        clear hx hxy
        rcases hsg with hs0 | ⟨hs1, hs2⟩ | ⟨hs1, hs2⟩
        · have hr0 : (r == 0) = true := by rw [beq_iff_eq]; exact hs0
          clear hs0
          go_wp2_with fail
          go_ret
          exact ⟨by simp, hB8⟩
        · have hr0 : (r == 0) = false := by rw [beq_eq_false_iff_ne]; omega
          have hd1 : decide (r < 0) = true := by simp; omega
          have hd2 : decide (x < 0) = true := by simp; omega
          go_wp2_with fail
          go_ret
          exact ⟨by simp, hB8⟩
        · have hr0 : (r == 0) = false := by rw [beq_eq_false_iff_ne]; omega
          have hd1 : decide (r < 0) = false := by simp; omega
          have hd2 : decide (x < 0) = false := by simp; omega
          go_wp2_with fail
          go_ret
          exact ⟨by simp, hB8⟩
      · have hx' : (x == -2147483648) = true := by rw [beq_iff_eq]; omega
        have hy1 : (y == -1) = false := by rw [beq_eq_false_iff_ne]; omega
        clear hx hxy
        rcases hsg with hs0 | ⟨hs1, hs2⟩ | ⟨hs1, hs2⟩
        · have hr0 : (r == 0) = true := by rw [beq_iff_eq]; exact hs0
          clear hs0
          go_wp2_with fail
          all_goals
            go_ret
            exact ⟨by simp, hB8⟩
        · have hr0 : (r == 0) = false := by rw [beq_eq_false_iff_ne]; omega
          have hd1 : decide (r < 0) = true := by simp; omega
          have hd2 : decide (x < 0) = true := by simp; omega
          go_wp2_with fail
          all_goals
            go_ret
            exact ⟨by simp, hB8⟩
        · have hr0 : (r == 0) = false := by rw [beq_eq_false_iff_ne]; omega
          have hd1 : decide (r < 0) = false := by simp; omega
          have hd2 : decide (x < 0) = false := by simp; omega
          go_wp2_with fail
          all_goals
            go_ret
            exact ⟨by simp, hB8⟩
end Go.Proofs.Ytmcomhjfpegieaa

