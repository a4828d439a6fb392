/-
  Sends in another order: plain.
-/
import Derived.Test.YtgepaajhccadhaaQt
namespace Go.Proofs.Ytgepaajhccadhaa
open Go.RowKit
/-- The Itv of a put, as it is sent. -/
def ivP (p : Int × Int × Int) : Int × Int := nrm (wrap32 p.2.1) (wrap32 p.2.2)
/-- Is nothing sent? -/
def badP (n : Nat) (p : Int × Int × Int) : Prop := (ivP p).2 < (ivP p).1 ∨ p.1 < 0 ∨ (n : Int) ≤ p.1
instance (n : Nat) (p : Int × Int × Int) : Decidable (badP n p) := by unfold badP; exact inferInstance
theorem stepP_eq {cs : Int} {s : Int × List (Int × Int)} {p : Int × Int × Int} {n : Nat} (hl : s.2.length = n) :
    stepP cs s p = if badP n p then s else (if cs < s.1 + 1 then cs else s.1 + 1, s.2.set p.1.toNat (rjoinP (s.2.getD p.1.toNat (1, 0)).1 (s.2.getD p.1.toNat (1, 0)).2 (ivP p).1 (ivP p).2)) := by
  by_cases hb : badP n p
  · rw [if_pos hb]
    unfold stepP
    rw [rsendP_no (by rw [hl]; exact hb)]
  · rw [if_neg hb]
    unfold stepP rsendP
    rw [if_neg (by rw [hl]; exact hb)]
    rfl
/-- What one send makes of what is told of one tag. -/
def ptw (n k : Nat) (x : Int × Int) (p : Int × Int × Int) : Int × Int := if badP n p ∨ p.1 ≠ (k : Int) then x else rjoinP x.1 x.2 (ivP p).1 (ivP p).2
theorem ptw_bad {n k : Nat} {x : Int × Int} {p : Int × Int × Int} (h : badP n p ∨ p.1 ≠ (k : Int)) : ptw n k x p = x := if_pos h
theorem ptw_good {n k : Nat} {x : Int × Int} {p : Int × Int × Int} (h : ¬ (badP n p ∨ p.1 ≠ (k : Int))) : ptw n k x p = rjoinP x.1 x.2 (ivP p).1 (ivP p).2 := if_neg h
theorem step_get {cs : Int} {s : Int × List (Int × Int)} {p : Int × Int × Int} {n k : Nat} {x : Int × Int} (hl : s.2.length = n) (hx : s.2[k]? = some x) : (stepP cs s p).2[k]? = some (ptw n k x p) := by
  have hk : k < n := by rcases Nat.lt_or_ge k s.2.length with h | h; omega; rw [List.getElem?_eq_none h] at hx; cases hx
  rw [stepP_eq hl]
  by_cases hb : badP n p
  · rw [if_pos hb, ptw_bad (.inl hb)]
    exact hx
  · rw [if_neg hb]
    have h0 : 0 ≤ p.1 := by unfold badP at hb; omega
    by_cases hp : p.1 = (k : Int)
    · rw [ptw_good (by rintro (h | h); exact hb h; exact h hp)]
      have e : p.1.toNat = k := by omega
      rw [e, List.getElem?_set_self (by omega), List.getD, hx]
      rfl
    · rw [ptw_bad (.inr hp)]
      have e : p.1.toNat ≠ k := by omega
      simp only
      rw [List.getElem?_set_ne e]
      exact hx
theorem step_len {cs : Int} {s : Int × List (Int × Int)} {p : Int × Int × Int} {n : Nat} (hl : s.2.length = n) : (stepP cs s p).2.length = n := by
  rw [stepP_eq hl]
  split
  · exact hl
  · simp [hl]
theorem fold_get {cs : Int} {n k : Nat} : ∀ (ps : List (Int × Int × Int)) (s : Int × List (Int × Int)) (x : Int × Int), s.2.length = n → s.2[k]? = some x → (ps.foldl (stepP cs) s).2.length = n ∧ (ps.foldl (stepP cs) s).2[k]? = some (ps.foldl (ptw n k) x)
  | [], _, _, hl, hx => ⟨hl, hx⟩
  | _ :: ps, _, _, hl, hx => fold_get ps _ _ (step_len hl) (step_get hl hx)
theorem build_get (cs : Int) (n k : Nat) (ps : List (Int × Int × Int)) (hk : k < n) (hps : ps.length ≤ 20) : (buildP cs n ps).2[k]? = some (ps.foldl (ptw n k) (1, 0)) := by
  unfold buildP
  rw [List.take_of_length_le hps]
  exact (fold_get ps _ (1, 0) (by simp) (by simp [hk])).2
theorem good_in {n : Nat} {p : Int × Int × Int} (h : ¬ badP n p) : -2147483648 ≤ (ivP p).1 ∧ (ivP p).1 ≤ (ivP p).2 ∧ (ivP p).2 ≤ 2147483647 := by
  have hi := nrm_itv p.2.1 p.2.2
  unfold badP at h
  rcases hi with hi | hi
  · have e : ivP p = (1, 0) := hi
    rw [e] at h
    simp only at h
    omega
  · exact hi
theorem rj_none {i0 i1 : Int} (h : i0 ≤ i1) : rjoinP 1 0 i0 i1 = (i0, i1) := by
  unfold rjoinP nrm
  rw [if_pos (by decide), if_neg (by omega)]
theorem rj_two {a0 a1 b0 b1 : Int} (h : a0 ≤ a1) (h' : b0 ≤ b1) : rjoinP a0 a1 b0 b1 = (mn a0 b0, mx a1 b1) := by
  unfold rjoinP
  rw [if_neg (by omega), if_neg (by omega)]
theorem ptw_swap (n k : Nat) (a b : Int × Int × Int) : ptw n k (ptw n k (1, 0) a) b = ptw n k (ptw n k (1, 0) b) a := by
  by_cases ha : badP n a ∨ a.1 ≠ (k : Int)
  · rw [ptw_bad ha, ptw_bad ha]
  · by_cases hb : badP n b ∨ b.1 ≠ (k : Int)
    · rw [ptw_bad hb, ptw_bad hb]
    · have ra := good_in (fun h => ha (.inl h))
      have rb := good_in (fun h => hb (.inl h))
      have ea : ptw n k (1, 0) a = ((ivP a).1, (ivP a).2) := (ptw_good ha).trans (rj_none ra.2.1)
      have eb : ptw n k (1, 0) b = ((ivP b).1, (ivP b).2) := (ptw_good hb).trans (rj_none rb.2.1)
      rw [ea, eb, ptw_good ha, ptw_good hb, rj_two ra.2.1 rb.2.1, rj_two rb.2.1 ra.2.1]
      unfold mn mx
      refine Prod.ext ?_ ?_ <;> simp only <;> split <;> split <;> omega
theorem ptw_again (n k : Nat) (a b : Int × Int × Int) : ptw n k (ptw n k (ptw n k (1, 0) a) b) a = ptw n k (ptw n k (1, 0) a) b := by
  by_cases ha : badP n a ∨ a.1 ≠ (k : Int)
  · rw [ptw_bad ha]
  · have ra := good_in (fun h => ha (.inl h))
    have ea : ptw n k (1, 0) a = ((ivP a).1, (ivP a).2) := (ptw_good ha).trans (rj_none ra.2.1)
    by_cases hb : badP n b ∨ b.1 ≠ (k : Int)
    · rw [ptw_bad hb, ea, ptw_good ha, rj_two ra.2.1 ra.2.1]
      unfold mn mx
      refine Prod.ext ?_ ?_ <;> simp only <;> split <;> omega
    · have rb := good_in (fun h => hb (.inl h))
      rw [ea, ptw_good hb, rj_two ra.2.1 rb.2.1]
      have hm : mn (ivP a).1 (ivP b).1 ≤ mx (ivP a).2 (ivP b).2 := by unfold mn mx; split <;> split <;> omega
      rw [ptw_good ha, rj_two hm ra.2.1]
      unfold mn mx
      refine Prod.ext ?_ ?_ <;> simp only <;> repeat (first | omega | split)
theorem build_len (cs : Int) (n : Nat) (ps : List (Int × Int × Int)) (hc1 : 1 ≤ cs) (hc2 : cs ≤ 2147483647) : (buildP cs n ps).2.length = n := (build_inv cs n ps hc1 hc2).1
theorem build_ext {n : Nat} {ps qs : List (Int × Int × Int)} (hps : ps.length ≤ 20) (hqs : qs.length ≤ 20) (h : ∀ k, ps.foldl (ptw n k) (1, 0) = qs.foldl (ptw n k) (1, 0)) : (buildP 9 n ps).2 = (buildP 9 n qs).2 := by
  refine List.ext_getElem? fun k => ?_
  by_cases hk : k < n
  · rw [build_get 9 n k ps hk hps, build_get 9 n k qs hk hqs, h k]
  · rw [List.getElem?_eq_none (by rw [build_len 9 n ps (by decide) (by decide)]; omega), List.getElem?_eq_none (by rw [build_len 9 n qs (by decide) (by decide)]; omega)]
theorem step_fst {cs : Int} {s : Int × List (Int × Int)} {p : Int × Int × Int} {n : Nat} (hl : s.2.length = n) : (stepP cs s p).1 = if badP n p then s.1 else if cs < s.1 + 1 then cs else s.1 + 1 := by
  rw [stepP_eq hl]
  split <;> rfl
theorem orders (a b : Int × Int × Int) : buildP 9 3 [a, b] = buildP 9 3 [b, a] ∧ (buildP 9 3 [a, b, a]).2 = (buildP 9 3 [a, b]).2 ∧ (buildP 9 3 [a, b]).1 ≤ (buildP 9 3 [a, b, a]).1 := by
  have l0 : ((0, List.replicate 3 (1, 0)) : Int × List (Int × Int)).2.length = 3 := by simp
  have la := step_len (cs := 9) (p := a) l0
  have lb := step_len (cs := 9) (p := b) l0
  have lab := step_len (cs := 9) (p := b) la
  have e1 : (buildP 9 3 [a, b]).1 = (buildP 9 3 [b, a]).1 := by
    show (stepP 9 (stepP 9 _ a) b).1 = (stepP 9 (stepP 9 _ b) a).1
    rw [step_fst la, step_fst lb, step_fst l0, step_fst l0]
    by_cases ha : badP 3 a <;> by_cases hb : badP 3 b <;> simp [ha, hb]
  have e2 : (buildP 9 3 [a, b]).2 = (buildP 9 3 [b, a]).2 := build_ext (by simp) (by simp) fun k => ptw_swap 3 k a b
  refine ⟨Prod.ext e1 e2, build_ext (by simp) (by simp) fun k => ptw_again 3 k a b, ?_⟩
  show (stepP 9 (stepP 9 _ a) b).1 ≤ (stepP 9 (stepP 9 (stepP 9 _ a) b) a).1
  rw [step_fst (s := stepP 9 (stepP 9 _ a) b) lab]
  have hI := step_inv (cs := 9) (n := 3) (s := stepP 9 (0, List.replicate 3 (1, 0)) a) (p := b) (step_inv (cs := 9) (n := 3) (s := (0, List.replicate 3 (1, 0))) (p := a) (starts_b 9 3 (by decide)) (by decide) (by decide)) (by decide) (by decide)
  have h9 := hI.2.2.1
  split
  · exact Int.le_refl _
  · split <;> omega
theorem in_self {h h' : Int} {xs : List (Int × Int)} (_h0 : 0 ≤ h) (hh : h ≤ h') : inP 0 h xs 0 h' xs = true := by
  unfold inP
  rw [decide_eq_true rfl, Bool.true_and, Bool.and_eq_true]
  refine ⟨rowsIn_yes rfl fun j _ a b c d h1 h2 => ?_, withinB_of (.inr ⟨Int.le_refl _, hh⟩)⟩
  rw [h1] at h2
  cases h2
  exact withinB_of (.inr ⟨Int.le_refl _, Int.le_refl _⟩)
end Go.Proofs.Ytgepaajhccadhaa
