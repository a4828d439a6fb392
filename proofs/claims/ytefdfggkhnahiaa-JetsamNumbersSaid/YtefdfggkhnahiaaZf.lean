/-
  zone.Copy; what Top and Zeros tell is right.
-/
import Derived.Test.YtefdfggkhnahiaaZe
namespace Go.Proofs.Ytefdfggkhnahiaa.Sx.Z
open Go.RowKit
theorem sh_at {f : Nat → Int} {a r i j : Nat} {b : Int} (hi : i < r) (hj : j < r) (hr : r ≤ 7) : shTo f a b r (i * 7 + j) = if i = a ∧ j ≠ a then f (i * 7 + j) + b else if j = a ∧ i ≠ a then f (i * 7 + j) - b else f (i * 7 + j) := by
  have h7 := dm7 (k := i) (m := j) (by omega)
  unfold shTo
  rw [h7.1, h7.2]
  exact icg (by omega) rfl (icg (by omega) rfl rfl)
theorem good_sh {n : Int} {z : Zs} (h : Good n z) {a : Nat} (ha : a < R n) (ha1 : 1 ≤ a) {b : Int} (hb : z.1 = false → z.2 (a * 7) + b ≤ 2147483647 ∧ z.2 a - b ≤ 2147483648) : Good n (shZ n a b z) := by
  have hR := R_le n
  obtain ⟨c, f⟩ := z
  unfold shZ shiftF
  by_cases hc : c = true
  · simp only [if_pos hc]; exact h
  · have hc : c = false := by revert hc; cases c <;> simp
    subst hc
    obtain ⟨b1, b2⟩ := hb rfl
    simp only [Bool.false_eq_true, if_false]
    show Good n (false, fun o => shTo f a b (R n) o)
    dsimp only at b1 b2
    refine ⟨h.n0, fun i j hi hj ho => ?_, fun i hi => ?_, fun i j k hi hj hk => ?_, fun i hi => ?_, fun i hi => ?_, fun h => by cases h⟩
    · have h7 := dm7 (k := i) (m := j) hj
      show shTo f a b (R n) (i * 7 + j) = 0
      unfold shTo
      rw [if_neg (by omega), if_neg (by omega)]
      exact h.out i j hi hj ho
    · show shTo f a b (R n) (i * 7 + i) = 0
      rw [sh_at hi hi hR.2.1, if_neg (by omega), if_neg (by omega)]
      exact h.diag i hi
    · show shTo f a b (R n) (i * 7 + j) ≤ shTo f a b (R n) (i * 7 + k) + shTo f a b (R n) (k * 7 + j)
      rw [sh_at hi hj hR.2.1, sh_at hi hk hR.2.1, sh_at hk hj hR.2.1]
      have t0 := h.tri i j k hi hj hk
      unfold Z.tri at t0
      dsimp only at t0
      (repeat' split) <;> omega
    · have e := sh_at (f := f) (a := a) (b := b) hi (show 0 < R n by omega) hR.2.1
      rw [Nat.add_zero] at e
      show shTo f a b (R n) (i * 7) ≤ _
      rw [e]
      have := h.hi0 i hi
      dsimp only at this
      split
      · rename_i h1; rw [h1.1]; omega
      · rw [if_neg (by omega)]; exact this
    · have e := sh_at (f := f) (a := a) (b := b) (show 0 < R n by omega) hi hR.2.1
      rw [Nat.zero_mul, Nat.zero_add] at e
      show shTo f a b (R n) i ≤ _
      rw [e]
      have := h.hi1 i hi
      dsimp only at this
      rw [if_neg (by omega)]
      split
      · rename_i h1; rw [h1.1]; omega
      · exact this
theorem bnd_le {n : Int} {z : Zs} (h : Good n z) {x y b : Int} (hx : isEndP n x = true) (hy : isEndP n y = true) (hc : (bndZ n x y b z).1 = false) : (bndZ n x y b z).2 ((x + 1).toNat * 7 + (y + 1).toNat) ≤ b := by
  have g := good_bnd h x y b
  obtain ⟨hb, _⟩ := isEnd_R hy
  have := ((bnd_pt h hx hy _).1 (pt_at g hc hb)).2
  have d := g.diag _ hb
  omega
theorem bnd_mono {n : Int} {z : Zs} (h : Good n z) {x y b : Int} (hx : isEndP n x = true) (hy : isEndP n y = true) (hc : (bndZ n x y b z).1 = false) {i j : Nat} (hi : i < R n) (hj : j < R n) : (bndZ n x y b z).2 (i * 7 + j) ≤ z.2 (i * 7 + j) :=
  (good_le (good_bnd h x y b) (fun v hv => ((bnd_pt h hx hy v).1 hv).1) hc).2 i j hi hj
theorem bnd_some {n : Int} {z : Zs} {x y b : Int} (hc : (bndZ n x y b z).1 = false) : z.1 = false := by
  rcases bnd_cases n x y b z with ⟨e, _⟩ | ⟨h, _⟩
  · rw [e] at hc; exact hc
  · exact h
theorem isEnd_nought (n : Int) : isEndP n (-1) = true := rfl
theorem isVar_end {n x : Int} (h : isVarP n x = true) : isEndP n x = true := by unfold isEndP; rw [h, Bool.or_true]
theorem cp2_good {n : Int} {z : Zs} (h : Good n z) (y b : Int) : Good n (cp2 n y b z) := good_bnd (good_bnd h _ _ _) _ _ _
theorem cp2_le {n : Int} {z : Zs} (h : Good n z) {y b : Int} (hy : isEndP n y = true) (hc : (cp2 n y b z).1 = false) : (cp2 n y b z).2 ((y + 1).toNat * 7) + b ≤ 2147483647 ∧ (cp2 n y b z).2 (y + 1).toNat - b ≤ 2147483648 := by
  unfold cp2 at hc ⊢
  have g1 := good_bnd h y (-1) (2147483647 - b)
  have c1 := bnd_some hc
  have l1 := bnd_le h hy (isEnd_nought n) c1
  have l2 := bnd_le g1 (isEnd_nought n) hy hc
  obtain ⟨ha, _⟩ := isEnd_R hy
  have m := bnd_mono g1 (isEnd_nought n) hy hc ha (show 0 < R n by have := R_le n; omega)
  rw [show ((-1 : Int) + 1).toNat = 0 from rfl] at l1 l2
  rw [Nat.add_zero] at l1 m
  rw [Nat.zero_mul, Nat.zero_add] at l2
  omega
theorem good_copy {n : Int} {z : Zs} (h : Good n z) (x y b : Int) : Good n (copyZ n x y b z) := by
  unfold copyZ
  by_cases h1 : (z.1 || !isVarP n x || !isEndP n y) = true
  · rw [if_pos h1]; exact h
  · rw [if_neg h1]
    have hx : isVarP n x = true := by revert h1; cases z.1 <;> cases isVarP n x <;> simp
    by_cases h2 : (decide (b > 1099511627776) || decide (b < -1099511627776)) = true
    · rw [if_pos h2]; exact good_none h.n0 true
    · rw [if_neg h2]
      have g := cp2_good h y b
      by_cases h3 : (x == y) = true
      · rw [if_pos h3]
        obtain rfl : x = y := by simpa using h3
        have hv := isVarP_lt hx
        have hR := R_le n
        exact good_sh g (by omega) (by omega) (cp2_le h (isVar_end hx))
      · rw [if_neg h3]
        exact good_bnd (good_bnd (good_fg g x) _ _ _) _ _ _
theorem rows_n {n : Int} (h : 0 ≤ n ∧ n ≤ 6) : rowsP n = n + 1 := by unfold rowsP; omega
theorem topN_le (n : Int) : 0 ≤ topN n ∧ topN n ≤ 6 := by unfold topN; omega
theorem top_at {n : Int} {i j : Nat} (hi : i < R (topN n)) (hj : j < R (topN n)) : topF n (i * 7 + j) = if i = j then 0 else if j = 0 then 2147483647 else if i = 0 then 2147483648 else 4294967295 := by
  have hR := R_le (topN n)
  have hr : (topN n + 1).toNat = R (topN n) := by have := rows_n (topN_le n); unfold R; rw [this]
  have h7 := dm7 (k := i) (m := j) (by omega)
  unfold topF apF
  rw [hr]
  show apTo (topTo (R (topN n))) (R (topN n)) (R (topN n)) 0 (i * 7 + j) = _
  unfold apTo
  rw [h7.1, h7.2]
  by_cases h1 : i = j
  · rw [if_pos h1, if_neg (by omega)]
    unfold topTo
    rw [if_neg (by omega), if_neg (by omega)]
  · rw [if_neg h1]
    by_cases h2 : j = 0
    · rw [if_pos h2, if_neg (by omega)]
      unfold topTo
      rw [if_pos (by omega)]
    · rw [if_neg h2]
      by_cases h3 : i = 0
      · rw [if_pos h3, if_neg (by omega)]
        unfold topTo
        rw [if_neg (by omega), if_pos (by omega)]
      · rw [if_neg h3, if_pos (by omega)]
        unfold topTo
        rw [if_pos (by omega), if_neg (by omega), if_pos (by omega)]
        rfl
theorem good_top (n : Int) : Good (topN n) (false, topF n) := by
  have hR := R_le (topN n)
  have h0 := topN_le n
  have hr : (topN n + 1).toNat = R (topN n) := by have := rows_n (topN_le n); unfold R; rw [this]
  refine ⟨h0, fun i j hi hj ho => ?_, fun i hi => ?_, fun i j k hi hj hk => ?_, fun i hi => ?_, fun i hi => ?_, fun h => by cases h⟩
  · have h7 := dm7 (k := i) (m := j) hj
    show topF n (i * 7 + j) = 0
    unfold topF apF
    rw [hr]
    show apTo (topTo (R (topN n))) (R (topN n)) (R (topN n)) 0 (i * 7 + j) = _
    unfold apTo
    rw [h7.1, h7.2, if_neg (by omega)]
    unfold topTo
    rw [if_neg (by omega), if_neg (by omega)]
  · show topF n (i * 7 + i) = 0
    rw [top_at hi hi, if_pos rfl]
  · show topF n (i * 7 + j) ≤ topF n (i * 7 + k) + topF n (k * 7 + j)
    rw [top_at hi hj, top_at hi hk, top_at hk hj]
    (repeat' split) <;> omega
  · have e := top_at hi (show 0 < R (topN n) by omega)
    rw [Nat.add_zero] at e
    show topF n (i * 7) ≤ _
    rw [e]
    (repeat' split) <;> omega
  · have e := top_at (show 0 < R (topN n) by omega) hi
    rw [Nat.zero_mul, Nat.zero_add] at e
    show topF n i ≤ _
    rw [e]
    (repeat' split) <;> omega
theorem good_right {n : Int} {z : Zs} (h : Good n z) : rightP n z.1 z.2 = true := by
  have hR := R_le n
  have h0 := h.n0
  obtain ⟨c, f⟩ := z
  unfold rightP
  rw [if_neg (by simp only [Bool.or_eq_true, decide_eq_true_eq]; omega)]
  by_cases hc : c = true
  · rw [if_pos hc]
    exact decide_eq_true (h.none hc)
  · rw [if_neg hc, Bool.and_eq_true]
    refine ⟨allB_iff.2 fun o ho _ => ?_, closedB_iff.2 h.tri⟩
    obtain ⟨e, hi, hj⟩ := at7 ho rfl rfl
    unfold bQ bRight
    have hr := hR.2.2
    by_cases h1 : o / 7 = o % 7 ∨ R n ≤ o / 7 ∨ R n ≤ o % 7
    · rw [if_pos (by simp only [Bool.or_eq_true, decide_eq_true_eq, beq_iff_eq]; omega)]
      have : f o = 0 := by
        rw [e]
        by_cases h2 : R n ≤ o / 7 ∨ R n ≤ o % 7
        · exact h.out _ _ hi hj h2
        · have h3 : o / 7 = o % 7 := by omega
          rw [h3]
          exact h.diag _ (by omega)
      exact beq_iff_eq.2 this
    · rw [if_neg (by simp only [Bool.or_eq_true, decide_eq_true_eq, beq_iff_eq]; omega)]
      have hl := h.low (i := o / 7) (j := o % 7) (by omega) (by omega)
      rw [← e] at hl
      dsimp only at hl
      have g0 := h.hi0 (o / 7) (by omega)
      have g1 := h.hi1 (o % 7) (by omega)
      dsimp only at g0 g1
      rw [if_neg]
      · simp only [Bool.and_eq_true, decide_eq_true_eq]; omega
      · simp only [Bool.or_eq_true, Bool.and_eq_true, decide_eq_true_eq, beq_iff_eq]
        rintro (⟨h2, h3⟩ | ⟨h2, h3⟩)
        · rw [show o / 7 * 7 = o by omega] at g0; omega
        · rw [show o % 7 = o by omega] at g1; omega
def copyS : FSpec := fun ds _ => match ds with
  | [.i n, .b c, .f f, .i x, .i y, .i b] => some { val := .one (.agg [.c (.int .i64 (.sym (n))), .c (.bool (.sym ((copyZ n x y b (c, f)).1))), .ints .i64 (.lit 49) ((copyZ n x y b (c, f)).2)]), vc := [Good n (c, f)] }
  | _ => none
def copyC : Con := con [zA, iA, iA, iA] copyS
theorem copy_ok : ConOK Try.prog 55 copyC := by
  refine fn_ob tt_ok mixed Try.func55 rfl (fun _ _ => by kernel_rfl) (A := fun ds => ⟨fun _ => Cons.of [(60, isVarC), (62, isEndC), (46, boundC), (53, forgetC), (66, shiftedC)], fun _ => none, fun _ => none⟩) (fun _ _ => (cons_cons isVar_ok (cons_cons isEnd_ok (cons_cons bound_ok (cons_cons forget_ok (cons_cons shifted_ok cons_nil)))))) (by kernel_rfl) ?_
  intro ds fr
  unfold copyS
  split
  · rename_i n c f x y b
    refine kmp (q := Good n (c, f) →
 ((c || !isVarP n x || !isEndP n y) = true → n = n ∧ c = (copyZ n x y b (c, f)).fst ∧ ∀ (o : Nat), o < (49 : Nat) → f o = (copyZ n x y b (c, f)).snd o) ∧
 ((c || !isVarP n x || !isEndP n y) = false →
 ((decide (b > (1099511627776 : Int)) || decide (b < (-1099511627776 : Int))) = true →
 n = n ∧ true = (copyZ n x y b (c, f)).fst ∧ ∀ (o : Nat), o < (49 : Nat) → (0 : Int) = (copyZ n x y b (c, f)).snd o) ∧
 ((decide (b > (1099511627776 : Int)) || decide (b < (-1099511627776 : Int))) = false →
 Sm f ∧
 Sm (bndF n c f y (-1 : Int) (IntKind.i64.wrap ((2147483647 : Int) - b))) ∧
 ((x == y) = true →
 Sm
 (bndF n (bndC n c f y (-1 : Int) (IntKind.i64.wrap ((2147483647 : Int) - b)))
 (bndF n c f y (-1 : Int) (IntKind.i64.wrap ((2147483647 : Int) - b))) (-1 : Int) y (IntKind.i64.wrap (b - (-2147483648 : Int)))) ∧
 ((0 : Int) ≤ IntKind.i64.wrap (x + (1 : Int)) ∧ IntKind.i64.wrap (x + (1 : Int)) < (7 : Int)) ∧
 ((-2199023255552 : Int) ≤ b ∧ b ≤ (2199023255552 : Int)) ∧
 n = n ∧
 bndC n (bndC n c f y (-1 : Int) (IntKind.i64.wrap ((2147483647 : Int) - b)))
 (bndF n c f y (-1 : Int) (IntKind.i64.wrap ((2147483647 : Int) - b))) (-1 : Int) y
 (IntKind.i64.wrap (b - (-2147483648 : Int))) =
 (copyZ n x y b (c, f)).fst ∧
 ∀ (o : Nat),
 o < (49 : Nat) →
 shiftF n
 (bndC n (bndC n c f y (-1 : Int) (IntKind.i64.wrap ((2147483647 : Int) - b)))
 (bndF n c f y (-1 : Int) (IntKind.i64.wrap ((2147483647 : Int) - b))) (-1 : Int) y
 (IntKind.i64.wrap (b - (-2147483648 : Int))))
 (bndF n (bndC n c f y (-1 : Int) (IntKind.i64.wrap ((2147483647 : Int) - b)))
 (bndF n c f y (-1 : Int) (IntKind.i64.wrap ((2147483647 : Int) - b))) (-1 : Int) y
 (IntKind.i64.wrap (b - (-2147483648 : Int))))
 (IntKind.i64.wrap (x + (1 : Int))).toNat b o =
 (copyZ n x y b (c, f)).snd o) ∧
 ((x == y) = false →
 Sm
 (bndF n (bndC n c f y (-1 : Int) (IntKind.i64.wrap ((2147483647 : Int) - b)))
 (bndF n c f y (-1 : Int) (IntKind.i64.wrap ((2147483647 : Int) - b))) (-1 : Int) y (IntKind.i64.wrap (b - (-2147483648 : Int)))) ∧
 Sm
 (forgetF n
 (bndC n (bndC n c f y (-1 : Int) (IntKind.i64.wrap ((2147483647 : Int) - b)))
 (bndF n c f y (-1 : Int) (IntKind.i64.wrap ((2147483647 : Int) - b))) (-1 : Int) y (IntKind.i64.wrap (b - (-2147483648 : Int))))
 (bndF n (bndC n c f y (-1 : Int) (IntKind.i64.wrap ((2147483647 : Int) - b)))
 (bndF n c f y (-1 : Int) (IntKind.i64.wrap ((2147483647 : Int) - b))) (-1 : Int) y (IntKind.i64.wrap (b - (-2147483648 : Int))))
 x) ∧
 Sm
 (bndF n
 (bndC n (bndC n c f y (-1 : Int) (IntKind.i64.wrap ((2147483647 : Int) - b)))
 (bndF n c f y (-1 : Int) (IntKind.i64.wrap ((2147483647 : Int) - b))) (-1 : Int) y (IntKind.i64.wrap (b - (-2147483648 : Int))))
 (forgetF n
 (bndC n (bndC n c f y (-1 : Int) (IntKind.i64.wrap ((2147483647 : Int) - b)))
 (bndF n c f y (-1 : Int) (IntKind.i64.wrap ((2147483647 : Int) - b))) (-1 : Int) y (IntKind.i64.wrap (b - (-2147483648 : Int))))
 (bndF n (bndC n c f y (-1 : Int) (IntKind.i64.wrap ((2147483647 : Int) - b)))
 (bndF n c f y (-1 : Int) (IntKind.i64.wrap ((2147483647 : Int) - b))) (-1 : Int) y (IntKind.i64.wrap (b - (-2147483648 : Int))))
 x)
 x y b) ∧
 n = n ∧
 bndC n
 (bndC n
 (bndC n (bndC n c f y (-1 : Int) (IntKind.i64.wrap ((2147483647 : Int) - b)))
 (bndF n c f y (-1 : Int) (IntKind.i64.wrap ((2147483647 : Int) - b))) (-1 : Int) y
 (IntKind.i64.wrap (b - (-2147483648 : Int))))
 (forgetF n
 (bndC n (bndC n c f y (-1 : Int) (IntKind.i64.wrap ((2147483647 : Int) - b)))
 (bndF n c f y (-1 : Int) (IntKind.i64.wrap ((2147483647 : Int) - b))) (-1 : Int) y
 (IntKind.i64.wrap (b - (-2147483648 : Int))))
 (bndF n (bndC n c f y (-1 : Int) (IntKind.i64.wrap ((2147483647 : Int) - b)))
 (bndF n c f y (-1 : Int) (IntKind.i64.wrap ((2147483647 : Int) - b))) (-1 : Int) y
 (IntKind.i64.wrap (b - (-2147483648 : Int))))
 x)
 x y b)
 (bndF n
 (bndC n (bndC n c f y (-1 : Int) (IntKind.i64.wrap ((2147483647 : Int) - b)))
 (bndF n c f y (-1 : Int) (IntKind.i64.wrap ((2147483647 : Int) - b))) (-1 : Int) y
 (IntKind.i64.wrap (b - (-2147483648 : Int))))
 (forgetF n
 (bndC n (bndC n c f y (-1 : Int) (IntKind.i64.wrap ((2147483647 : Int) - b)))
 (bndF n c f y (-1 : Int) (IntKind.i64.wrap ((2147483647 : Int) - b))) (-1 : Int) y
 (IntKind.i64.wrap (b - (-2147483648 : Int))))
 (bndF n (bndC n c f y (-1 : Int) (IntKind.i64.wrap ((2147483647 : Int) - b)))
 (bndF n c f y (-1 : Int) (IntKind.i64.wrap ((2147483647 : Int) - b))) (-1 : Int) y
 (IntKind.i64.wrap (b - (-2147483648 : Int))))
 x)
 x y b)
 y x (IntKind.i64.wrap ((0 : Int) - b)) =
 (copyZ n x y b (c, f)).fst ∧
 ∀ (o : Nat),
 o < (49 : Nat) →
 bndF n
 (bndC n
 (bndC n (bndC n c f y (-1 : Int) (IntKind.i64.wrap ((2147483647 : Int) - b)))
 (bndF n c f y (-1 : Int) (IntKind.i64.wrap ((2147483647 : Int) - b))) (-1 : Int) y
 (IntKind.i64.wrap (b - (-2147483648 : Int))))
 (forgetF n
 (bndC n (bndC n c f y (-1 : Int) (IntKind.i64.wrap ((2147483647 : Int) - b)))
 (bndF n c f y (-1 : Int) (IntKind.i64.wrap ((2147483647 : Int) - b))) (-1 : Int) y
 (IntKind.i64.wrap (b - (-2147483648 : Int))))
 (bndF n (bndC n c f y (-1 : Int) (IntKind.i64.wrap ((2147483647 : Int) - b)))
 (bndF n c f y (-1 : Int) (IntKind.i64.wrap ((2147483647 : Int) - b))) (-1 : Int) y
 (IntKind.i64.wrap (b - (-2147483648 : Int))))
 x)
 x y b)
 (bndF n
 (bndC n (bndC n c f y (-1 : Int) (IntKind.i64.wrap ((2147483647 : Int) - b)))
 (bndF n c f y (-1 : Int) (IntKind.i64.wrap ((2147483647 : Int) - b))) (-1 : Int) y
 (IntKind.i64.wrap (b - (-2147483648 : Int))))
 (forgetF n
 (bndC n (bndC n c f y (-1 : Int) (IntKind.i64.wrap ((2147483647 : Int) - b)))
 (bndF n c f y (-1 : Int) (IntKind.i64.wrap ((2147483647 : Int) - b))) (-1 : Int) y
 (IntKind.i64.wrap (b - (-2147483648 : Int))))
 (bndF n (bndC n c f y (-1 : Int) (IntKind.i64.wrap ((2147483647 : Int) - b)))
 (bndF n c f y (-1 : Int) (IntKind.i64.wrap ((2147483647 : Int) - b))) (-1 : Int) y
 (IntKind.i64.wrap (b - (-2147483648 : Int))))
 x)
 x y b)
 y x (IntKind.i64.wrap ((0 : Int) - b)) o =
 (copyZ n x y b (c, f)).snd o)))) (by kernel_rfl) ?_
    intro h
    refine ⟨fun h1 => ?_, fun h1 => ⟨fun h2 => ?_, fun h2 => ?_⟩⟩
    · have e : copyZ n x y b (c, f) = (c, f) := if_pos h1
      rw [e]; exact ⟨rfl, rfl, fun _ _ => rfl⟩
    · have e : copyZ n x y b (c, f) = (true, fun _ => 0) := (if_neg (by rw [h1]; simp)).trans (if_pos h2)
      rw [e]; exact ⟨rfl, rfl, fun _ _ => rfl⟩
    · have hb : -1099511627776 ≤ b ∧ b ≤ 1099511627776 := by
        simp only [Bool.or_eq_false_iff, decide_eq_false_iff_not] at h2
        omega
      have hv := isVarP_lt (show isVarP n x = true by revert h1; cases c <;> cases isVarP n x <;> simp)
      rw [wr (2147483647 - b) (by omega), wr (b - -2147483648) (by omega), show b - -2147483648 = b + 2147483648 by omega, wr (x + 1) (by omega), wr (0 - b) (by omega)]
      have g1 := good_bnd h y (-1) (2147483647 - b)
      have g2 := cp2_good h y b
      have g3 := good_fg g2 x
      have g4 := good_bnd g3 x y b
      refine ⟨h.sm, g1.sm, fun h3 => ?_, fun h3 => ?_⟩
      · have e : copyZ n x y b (c, f) = shZ n (x + 1).toNat b (cp2 n y b (c, f)) := (if_neg (by rw [h1]; simp)).trans ((if_neg (by rw [h2]; simp)).trans (if_pos h3))
        rw [e]
        exact ⟨g2.sm, by omega, by omega, rfl, rfl, fun _ _ => rfl⟩
      · have e : copyZ n x y b (c, f) = bndZ n y x (0 - b) (bndZ n x y b (fgZ n x (cp2 n y b (c, f)))) := (if_neg (by rw [h1]; simp)).trans ((if_neg (by rw [h2]; simp)).trans (if_neg (by rw [h3]; simp)))
        rw [e]
        exact ⟨g2.sm, g3.sm, g4.sm, rfl, rfl, fun _ _ => rfl⟩
  · trivial
end Go.Proofs.Ytefdfggkhnahiaa.Sx.Z
