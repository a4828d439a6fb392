/-
  Plain mathematics, no program: lexR by lists of bytes: texts put side by side, gaps, places that are moved.
-/
import Derived.Test.YtlnfilefpehnbaaPlainRef
namespace Go.Proofs.Ytlnfilefpehnbaa

def ofL (l : List UInt8) : ByteArray := ⟨l.toArray⟩
def lexL : Nat → List UInt8 → Nat → List Tok → Except (Nat × Int) (List Tok)
  | 0, _, _, acc => .ok acc
  | f + 1, r, p, acc =>
    if 0 < r.length then
      if gapU (r.headD 0) then lexL f (r.drop 1) (p + 1) acc
      else match wordE r with
        | .error e => .error (p, e)
        | .ok (k, n, m) => lexL f (r.drop n) (p + n) (acc ++ [⟨k, ofL (r.take n), m, p⟩])
    else .ok acc
def lexW (r : List UInt8) (p : Nat) (acc : List Tok) : Except (Nat × Int) (List Tok) := lexL r.length r p acc

theorem lexL_fuel : ∀ (f g : Nat) (r : List UInt8) (p : Nat) (acc : List Tok), r.length ≤ f → r.length ≤ g → lexL f r p acc = lexL g r p acc := by
  intro f
  induction f with
  | zero =>
    intro g r p acc hf hg
    have h0 : ¬ 0 < r.length := by omega
    match g with
    | 0 => rfl
    | g + 1 => rw [lexL, lexL, if_neg h0]
  | succ f ih =>
    intro g r p acc hf hg
    by_cases h0 : 0 < r.length
    · match g with
      | 0 => omega
      | g + 1 =>
        rw [lexL, lexL, if_pos h0, if_pos h0]
        by_cases hgp : gapU (r.headD 0) = true
        · rw [if_pos hgp, if_pos hgp]
          exact ih g _ _ _ (by rw [List.length_drop]; omega) (by rw [List.length_drop]; omega)
        · rw [if_neg hgp, if_neg hgp]
          rcases hE : wordE r with x | ⟨k, n, m⟩
          · rfl
          · have := (wordE_ok h0 hE).1
            exact ih g _ _ _ (by rw [List.length_drop]; omega) (by rw [List.length_drop]; omega)
    · match g with
      | 0 => rw [lexL, lexL, if_neg h0]
      | g + 1 => rw [lexL, lexL, if_neg h0, if_neg h0]
theorem lexW_nil (p : Nat) (acc : List Tok) : lexW [] p acc = .ok acc := rfl
theorem lexW_gap {r : List UInt8} (h0 : 0 < r.length) (hg : gapU (r.headD 0) = true) (p : Nat) (acc : List Tok) : lexW r p acc = lexW (r.drop 1) (p + 1) acc := by
  unfold lexW
  obtain ⟨n, hn⟩ : ∃ n, r.length = n + 1 := ⟨r.length - 1, by omega⟩
  rw [hn, lexL, if_pos (by omega), if_pos hg]
  exact lexL_fuel _ _ _ _ _ (by rw [List.length_drop]; omega) (Nat.le_refl _)
theorem lexW_err {r : List UInt8} (h0 : 0 < r.length) (hg : gapU (r.headD 0) = false) {x : Int} (hE : wordE r = .error x) (p : Nat) (acc : List Tok) : lexW r p acc = .error (p, x) := by
  unfold lexW
  obtain ⟨n, hn⟩ : ∃ n, r.length = n + 1 := ⟨r.length - 1, by omega⟩
  rw [hn, lexL, if_pos (by omega), if_neg (by rw [hg]; decide), hE]
theorem lexW_word {r : List UInt8} (h0 : 0 < r.length) (hg : gapU (r.headD 0) = false) {k m : Int} {n : Nat} (hE : wordE r = .ok (k, n, m)) (p : Nat) (acc : List Tok) :
    lexW r p acc = lexW (r.drop n) (p + n) (acc ++ [⟨k, ofL (r.take n), m, p⟩]) := by
  unfold lexW
  obtain ⟨l, hl⟩ : ∃ l, r.length = l + 1 := ⟨r.length - 1, by omega⟩
  have := (wordE_ok h0 hE).1
  rw [hl, lexL, if_pos (by omega), if_neg (by rw [hg]; decide), hE]
  exact lexL_fuel _ _ _ _ _ (by rw [List.length_drop]; omega) (Nat.le_refl _)

theorem ofL_extract (s : ByteArray) (p n : Nat) : s.extract p (p + n) = ofL ((s.data.toList.drop p).take n) := by
  have h := Lib.extract_data s p (p + n)
  rw [show p + n - p = n from by omega] at h
  unfold ofL
  rw [← h]
theorem lexGo_lexL (s : ByteArray) : ∀ (f p : Nat) (acc : List Tok), p ≤ s.size → lexGo s f p acc = lexL f (s.data.toList.drop p) p acc := by
  intro f
  have hl : s.data.toList.length = s.size := by simp
  induction f with
  | zero => intro p acc _; rfl
  | succ f ih =>
    intro p acc hp
    rw [lexGo, lexL]
    have hlen : (s.data.toList.drop p).length = s.size - p := by rw [List.length_drop, hl]
    by_cases hlt : p < s.size
    · have hl2 : 0 < (s.data.toList.drop p).length := by omega
      rw [if_pos hlt, if_pos hl2, head_drop]
      by_cases hg : gapU (s.data.toList.getD p 0) = true
      · rw [if_pos hg, if_pos hg, List.drop_drop]
        exact ih (p + 1) acc (by omega)
      · rw [if_neg hg, if_neg hg]
        rcases hE : wordE (s.data.toList.drop p) with x | ⟨k, n, m⟩
        · rfl
        · have h2 := (wordE_ok (by omega) hE).2.1
          show lexGo s f (p + n) _ = lexL f ((s.data.toList.drop p).drop n) (p + n) _
          rw [List.drop_drop, ofL_extract]
          exact ih (p + n) _ (by omega)
    · have hl2 : ¬ 0 < (s.data.toList.drop p).length := by omega
      rw [if_neg hlt, if_neg hl2]
/-- lexR, by the list of the text's bytes. -/
def lexF (l : List UInt8) : List Tok × Nat × Int := match lexW l 0 [] with
  | .error (p, e) => ([], p, e)
  | .ok acc => if 2000 < acc.length then ([], l.length, 4) else (acc, 0, 0)
theorem lexR_lexF (s : ByteArray) : lexR s = lexF s.data.toList := by
  have hl : s.data.toList.length = s.size := by simp
  unfold lexR lexF lexW
  rw [lexGo_lexL s s.size 0 [] (by omega), hl]
  rfl

/-! A text behind which nothing, or a gap, stands. -/
def GapHead (t : List UInt8) : Prop := t = [] ∨ gapU (t.headD 0) = true
theorem gap_cases {b : UInt8} (h : gapU b = true) : b = 32 ∨ b = 10 := by
  simp only [gapU, gapB, Bool.or_eq_true, beq_iff_eq] at h
  rcases h with h | h
  · exact .inl (UInt8.toNat_inj.1 (by show b.toNat = 32; omega))
  · exact .inr (UInt8.toNat_inj.1 (by show b.toNat = 10; omega))
theorem lenOf_app (pr : UInt8 → Bool) (t : List UInt8) (ht : t = [] ∨ pr (t.headD 0) = false) : ∀ r : List UInt8, lenOf pr (r ++ t) = lenOf pr r := by
  intro r
  induction r with
  | nil =>
    rcases ht with rfl | h
    · rfl
    · match t with
      | [] => rfl
      | b :: t =>
        have h : pr b = false := h
        simp [lenOf, h]
  | cons a r ih =>
    have e1 : a :: r ++ t = a :: (r ++ t) := rfl
    rw [e1]
    unfold lenOf at *
    rw [List.takeWhile_cons, List.takeWhile_cons]
    by_cases ha : pr a = true
    · rw [if_pos ha, if_pos ha, List.length_cons, List.length_cons, ih]
    · rw [if_neg ha, if_neg ha]
theorem gap_aln {t : List UInt8} (h : GapHead t) : t = [] ∨ alnU (t.headD 0) = false := by
  rcases h with h | h
  · exact .inl h
  · right
    rcases gap_cases h with e | e <;> rw [e] <;> decide
theorem gap_dig {t : List UInt8} (h : GapHead t) : t = [] ∨ digU (t.headD 0) = false := by
  rcases h with h | h
  · exact .inl h
  · right
    rcases gap_cases h with e | e <;> rw [e] <;> decide
theorem eqNext_app {r t : List UInt8} (h0 : 0 < r.length) (h : GapHead t) : eqNext (r ++ t) = eqNext r := by
  match r, h0 with
  | [a], _ =>
    rcases h with rfl | h
    · rfl
    · match t, h with
      | [], _ => rfl
      | b :: t, h =>
        have h : gapU b = true := h
        show (b == 61) = false
        rcases gap_cases h with e | e <;> rw [e] <;> decide
  | a :: b :: r, _ => rfl
theorem headD_app {r t : List UInt8} (h0 : 0 < r.length) : (r ++ t).headD 0 = r.headD 0 := by
  match r, h0 with
  | a :: r, _ => rfl
theorem let_app {r t : List UInt8} (h : GapHead t) (n : Nat) (hn : n ≤ r.length) : letU ((r ++ t).getD n 0) = letU (r.getD n 0) := by
  rw [List.getD_eq_getElem?_getD, List.getD_eq_getElem?_getD]
  rcases Nat.lt_or_ge n r.length with hlt | hge
  · rw [List.getElem?_append_left hlt]
  · rw [List.getElem?_append_right hge, List.getElem?_eq_none hge, show n - r.length = 0 from by omega]
    rcases h with rfl | h
    · rfl
    · match t, h with
      | [], _ => rfl
      | b :: t, h =>
        have h : gapU b = true := h
        show letU b = letU 0
        rcases gap_cases h with e | e <;> rw [e] <;> decide
/-- Behind a gap or at the end a word is the same. -/
theorem wordE_app {r t : List UInt8} (h0 : 0 < r.length) (h : GapHead t) : wordE (r ++ t) = wordE r := by
  have hA := lenOf_app alnU t (gap_aln h) r
  have hD := lenOf_app digU t (gap_dig h) r
  unfold wordE nameE numE sgnE sgnLen
  rw [headD_app h0, hA, hD, eqNext_app h0 h, let_app h _ (lenOf_le _ _), List.take_append_of_le_length (lenOf_le _ _), List.take_append_of_le_length (lenOf_le _ _)]
/-- A text, and behind it another one that begins with a gap. -/
theorem lexW_app {t : List UInt8} (ht : GapHead t) : ∀ (n : Nat) (r : List UInt8) (p : Nat) (acc : List Tok), r.length ≤ n →
    lexW (r ++ t) p acc = match lexW r p acc with
      | .error x => .error x
      | .ok acc' => lexW t (p + r.length) acc' := by
  intro n
  induction n with
  | zero =>
    intro r p acc hn
    have : r = [] := List.eq_nil_of_length_eq_zero (by omega)
    subst this
    rw [List.nil_append, lexW_nil]
    rfl
  | succ n ih =>
    intro r p acc hn
    rcases Nat.eq_zero_or_pos r.length with h0 | h0
    · have : r = [] := List.eq_nil_of_length_eq_zero h0
      subst this
      rw [List.nil_append, lexW_nil]
      rfl
    · have h0' : 0 < (r ++ t).length := by rw [List.length_append]; omega
      rcases Bool.eq_false_or_eq_true (gapU (r.headD 0)) with hg | hg
      · rw [lexW_gap h0' (by rw [headD_app h0]; exact hg), lexW_gap h0 hg, List.drop_append_of_le_length (by omega), ih (r.drop 1) (p + 1) acc (by rw [List.length_drop]; omega), List.length_drop,
          show p + 1 + (r.length - 1) = p + r.length from by omega]
      · rcases hE : wordE r with x | ⟨k, m, v⟩
        · rw [lexW_err h0' (by rw [headD_app h0]; exact hg) (by rw [wordE_app h0 ht]; exact hE), lexW_err h0 hg hE]
        · obtain ⟨h1, h2, _⟩ := wordE_ok h0 hE
          rw [lexW_word h0' (by rw [headD_app h0]; exact hg) (by rw [wordE_app h0 ht]; exact hE), lexW_word h0 hg hE, List.drop_append_of_le_length h2, List.take_append_of_le_length h2,
            ih (r.drop m) (p + m) _ (by rw [List.length_drop]; omega), List.length_drop, show p + m + (r.length - m) = p + r.length from by omega]
end Go.Proofs.Ytlnfilefpehnbaa
