/-
  Plain mathematics, no program: the other way to tell numbers and signs of a text comes to the same.
-/
import Derived.Test.YtlnfilefpehnbaaPlain
namespace Go.Proofs.Ytlnfilefpehnbaa

theorem takeWhile_stop (pr : UInt8 → Bool) : ∀ r : List UInt8, lenOf pr r < r.length → pr (r.getD (lenOf pr r) 0) = false := by
  intro r
  induction r with
  | nil => intro h; simp at h
  | cons a t ih =>
    intro h
    by_cases ha : pr a = true
    · have e : lenOf pr (a :: t) = lenOf pr t + 1 := by simp [lenOf, ha]
      rw [e] at h ⊢
      exact ih (by simpa using h)
    · have e : lenOf pr (a :: t) = 0 := by simp [lenOf, ha]
      rw [e]
      simpa using ha
theorem takeWhile_in (pr : UInt8 → Bool) : ∀ (r : List UInt8) (i : Nat), i < lenOf pr r → pr (r.getD i 0) = true := by
  intro r
  induction r with
  | nil => intro i h; simp [lenOf] at h
  | cons a t ih =>
    intro i h
    by_cases ha : pr a = true
    · have e : lenOf pr (a :: t) = lenOf pr t + 1 := by simp [lenOf, ha]
      rw [e] at h
      match i with
      | 0 => exact ha
      | i + 1 => exact ih i (by omega)
    · have e : lenOf pr (a :: t) = 0 := by simp [lenOf, ha]
      omega
theorem alnU_dig (b : UInt8) (h : digU b = true) : alnU b = true := by unfold alnU; rw [h]; simp
theorem dig_aln_le (r : List UInt8) : lenOf digU r ≤ lenOf alnU r := by
  rcases Nat.lt_or_ge (lenOf alnU r) (lenOf digU r) with h | h
  · have hl : lenOf alnU r < r.length := Nat.lt_of_lt_of_le h (lenOf_le _ _)
    have h1 := takeWhile_stop alnU r hl
    have h2 := takeWhile_in digU r _ h
    rw [alnU_dig _ h2] at h1
    cases h1
  · exact h
theorem let_not_dig (b : UInt8) (h : letU b = true) : digU b = false := by
  simp only [letU, letB, digU, digB, Bool.and_eq_true, decide_eq_true_eq] at *
  rw [Bool.eq_false_iff]
  intro hx
  simp only [Bool.and_eq_true, decide_eq_true_eq] at hx
  omega
theorem let_stop (r : List UInt8) (h : lenOf digU r = lenOf alnU r) : letU (r.getD (lenOf digU r) 0) = false := by
  rcases Nat.lt_or_ge (lenOf alnU r) r.length with hl | hl
  · have := takeWhile_stop alnU r hl
    rw [h]
    simp [alnU] at this
    exact this.1
  · rw [List.getD_eq_getElem?_getD, List.getElem?_eq_none (by omega)]
    decide
theorem let_more (r : List UInt8) (h : lenOf digU r < lenOf alnU r) : letU (r.getD (lenOf digU r) 0) = true := by
  have h1 := takeWhile_in alnU r _ h
  have h2 := takeWhile_stop digU r (Nat.lt_of_lt_of_le h (lenOf_le _ _))
  unfold alnU at h1
  rw [h2, Bool.or_false] at h1
  exact h1

def valFrom (a : Nat) (ds : List UInt8) : Nat := ds.foldl (fun n d => 10 * n + (d.toNat - 48)) a
theorem valFrom_ge (ds : List UInt8) : ∀ a, a * 10 ^ ds.length ≤ valFrom a ds := by
  induction ds with
  | nil => intro a; simp [valFrom]
  | cons d t ih =>
    intro a
    have h := ih (10 * a + (d.toNat - 48))
    have e : valFrom a (d :: t) = valFrom (10 * a + (d.toNat - 48)) t := rfl
    rw [e, List.length_cons, Nat.pow_succ]
    have h2 : a * (10 ^ t.length * 10) ≤ (10 * a + (d.toNat - 48)) * 10 ^ t.length := by
      rw [Nat.add_mul, Nat.mul_comm (10 ^ t.length) 10, ← Nat.mul_assoc, Nat.mul_comm a 10]
      omega
    omega
theorem valFrom_lt (ds : List UInt8) : ∀ a, (∀ d ∈ ds, digU d = true) → valFrom a ds < (a + 1) * 10 ^ ds.length := by
  induction ds with
  | nil => intro a _; simp [valFrom]
  | cons d t ih =>
    intro a hall
    have h := ih (10 * a + (d.toNat - 48)) (fun x hx => hall x (by simp [hx]))
    have hd : digU d = true := hall d (by simp)
    simp only [digU, digB, Bool.and_eq_true, decide_eq_true_eq] at hd
    have e : valFrom a (d :: t) = valFrom (10 * a + (d.toNat - 48)) t := rfl
    rw [e, List.length_cons, Nat.pow_succ]
    have h2 : (10 * a + (d.toNat - 48) + 1) * 10 ^ t.length ≤ (a + 1) * (10 ^ t.length * 10) := by
      rw [Nat.mul_comm (10 ^ t.length) 10, ← Nat.mul_assoc]
      exact Nat.mul_le_mul_right _ (by omega)
    omega
theorem val_big (r : List UInt8) (n : Nat) (h0 : 49 ≤ (r.headD 0).toNat) (hn : 10 < n) (hr : n ≤ r.length) : 2147483647 < val (r.take n) := by
  match r, n, hn with
  | [], n + 1, hn => simp at hr
  | d :: t, n + 1, hn =>
    have e : val ((d :: t).take (n + 1)) = valFrom (10 * 0 + (d.toNat - 48)) (t.take n) := rfl
    rw [e]
    have h1 := valFrom_ge (t.take n) (10 * 0 + (d.toNat - 48))
    have hd : 49 ≤ d.toNat := h0
    have hl : (t.take n).length = n := by rw [List.length_take]; simp at hr; omega
    rw [hl] at h1
    have h2 : 10 ^ 10 ≤ 10 ^ n := Nat.pow_le_pow_right (by decide) (by omega)
    have h3 : 1 * 10 ^ n ≤ (10 * 0 + (d.toNat - 48)) * 10 ^ n := Nat.mul_le_mul_right _ (by omega)
    have h4 : (10 : Nat) ^ 10 = 10000000000 := by decide
    omega
/-- A number, told by the whole run of letters and digits. -/
theorem numE_ref (r : List UInt8) (hd : digU (r.headD 0) = true) :
    numE r = if 10 < lenOf alnU r ∨ (1 < lenOf alnU r ∧ r.headD 0 = 48) ∨ lenOf digU r < lenOf alnU r ∨ 2147483647 < val (r.take (lenOf alnU r)) then .error 3
      else .ok (2, lenOf alnU r, (val (r.take (lenOf alnU r)) : Int)) := by
  have hle := dig_aln_le r
  unfold numE
  by_cases hlt : lenOf digU r < lenOf alnU r
  · rw [if_pos (.inr (.inr (let_more r hlt))), if_pos (.inr (.inr (.inl hlt)))]
  · have he : lenOf digU r = lenOf alnU r := by omega
    have hls := let_stop r he
    rw [he] at hls ⊢
    by_cases hz : 1 < lenOf alnU r ∧ r.headD 0 = 48
    · rw [if_pos (.inr (.inl hz)), if_pos (.inr (.inl hz))]
    · by_cases hv : 2147483647 < val (r.take (lenOf alnU r))
      · rw [if_pos (.inl hv), if_pos (.inr (.inr (.inr hv)))]
      · rw [if_neg (fun h => h.elim hv (fun h => h.elim hz (fun h => by rw [hls] at h; cases h)))]
        rw [if_neg]
        rintro (h | h | h | h)
        · have h49 : 49 ≤ (r.headD 0).toNat := by
            simp only [digU, digB, Bool.and_eq_true, decide_eq_true_eq] at hd
            have : (r.headD 0).toNat ≠ 48 := fun e => hz ⟨by omega, UInt8.toNat_inj.1 e⟩
            omega
          exact hv (val_big r _ h49 h (lenOf_le _ _))
        · exact hz h
        · omega
        · exact hv h
theorem lenOf_take (pr : UInt8 → Bool) : ∀ (r : List UInt8) (d : Nat), lenOf pr (r.take d) = min (lenOf pr r) d := by
  intro r
  induction r with
  | nil => intro d; simp [lenOf]
  | cons a r ih =>
    intro d
    match d with
    | 0 => simp [lenOf]
    | d + 1 =>
      have := ih d
      unfold lenOf at *
      rw [List.take_succ_cons, List.takeWhile_cons, List.takeWhile_cons]
      by_cases ha : pr a = true
      · rw [if_pos ha, if_pos ha, List.length_cons, List.length_cons, this]; omega
      · rw [if_neg ha, if_neg ha]; simp
/-- A number, told by the run of letters and digits alone. -/
theorem numE_run (r l : List UInt8) (d : Nat) (hd : digU (r.headD 0) = true) (hlen : lenOf alnU r = d) (hl : r.take d = l) :
    numE r = if 10 < d ∨ (1 < d ∧ r.headD 0 = 48) ∨ lenOf digU l < d ∨ 2147483647 < val l then .error 3 else .ok (2, d, (val l : Int)) := by
  rw [numE_ref r hd, hlen, hl, ← hl, lenOf_take]
  have e : (min (lenOf digU r) d < d) = (lenOf digU r < d) := propext ⟨fun h => by omega, fun h => by omega⟩
  simp only [e]
theorem val_few (l : List UInt8) (h : ∀ b ∈ l, digU b = true) (hl : l.length ≤ 10) : val l < 10000000000 := by
  have h1 := valFrom_lt l 0 h
  have h2 : 10 ^ l.length ≤ 10 ^ 10 := Nat.pow_le_pow_right (by decide) hl
  have h3 : (10 : Nat) ^ 10 = 10000000000 := by decide
  have e : valFrom 0 l = val l := rfl
  omega
theorem Run.take {T : ByteArray} {k : Nat} (h : Run digU T 0 k) : ∀ b ∈ T.data.toList.take k, digU b = true := by
  intro b hb
  obtain ⟨j, hj, rfl⟩ := List.getElem_of_mem hb
  rw [List.length_take] at hj
  have := h.2.2 j (by omega) (by omega)
  rw [List.getD_eq_getElem?_getD, List.getElem?_eq_getElem (by omega)] at this
  rw [List.getElem_take]
  exact this
theorem Run.few {T : ByteArray} {k : Nat} (h : Run digU T 0 k) (hk : k ≤ 10) : vl T 0 k < 10000000000 := by
  unfold vl
  rw [List.drop_zero]
  exact val_few _ (by have := h.take; rw [Nat.sub_zero]; exact this) (by rw [List.length_take]; omega)
theorem Run.whole {T : ByteArray} {k : Nat} (h : Run digU T 0 k) (hk : T.size ≤ k) : lenOf digU T.data.toList = k := by
  have := h.len (fun hx => absurd hx (by omega))
  rw [List.drop_zero, Nat.sub_zero] at this
  exact this
theorem Run.val_whole {T : ByteArray} {k : Nat} (_ : Run digU T 0 k) (hk : T.size ≤ k) : vl T 0 k = val T.data.toList := by
  have hl : T.data.toList.length = T.size := Array.length_toList
  unfold vl
  rw [List.drop_zero, Nat.sub_zero, List.take_of_length_le (by omega)]
theorem Run.part {T : ByteArray} {k d : Nat} (h : Run digU T 0 k) (hk : k < T.size) (hb : digU T[k] = false) (hd : lenOf digU T.data.toList = d) : d = k := by
  have := h.len (fun hx => by rw [getD_eq T k hx]; exact hb)
  rw [List.drop_zero, Nat.sub_zero] at this
  omega
end Go.Proofs.Ytlnfilefpehnbaa
