/-
  Plain mathematics, no program: gaps ahead of a text and behind it change nothing but places.
-/
import Derived.Test.YtlnfilefpehnbaaPlainList
namespace Go.Proofs.Ytlnfilefpehnbaa

def sh (d : Nat) (t : Tok) : Tok := { t with pos := t.pos + d }
theorem lexW_shift (d : Nat) : ∀ (n : Nat) (r : List UInt8) (p : Nat) (acc : List Tok), r.length ≤ n →
    lexW r (p + d) (acc.map (sh d)) = match lexW r p acc with
      | .error (q, x) => .error (q + d, x)
      | .ok acc' => .ok (acc'.map (sh d)) := by
  intro n
  induction n with
  | zero =>
    intro r p acc hn
    have : r = [] := List.eq_nil_of_length_eq_zero (by omega)
    subst this
    rfl
  | succ n ih =>
    intro r p acc hn
    rcases Nat.eq_zero_or_pos r.length with h0 | h0
    · have : r = [] := List.eq_nil_of_length_eq_zero h0
      subst this
      rfl
    · rcases Bool.eq_false_or_eq_true (gapU (r.headD 0)) with hg | hg
      · rw [lexW_gap h0 hg, lexW_gap h0 hg, show p + d + 1 = (p + 1) + d from by omega]
        exact ih _ _ _ (by rw [List.length_drop]; omega)
      · rcases hE : wordE r with x | ⟨k, m, v⟩
        · rw [lexW_err h0 hg hE, lexW_err h0 hg hE]
        · have h1 := (wordE_ok h0 hE).1
          rw [lexW_word h0 hg hE, lexW_word h0 hg hE, show p + d + m = (p + m) + d from by omega, ← ih _ _ _ (by rw [List.length_drop]; omega), List.map_append]
          rfl
theorem lexW_gaps : ∀ (g r : List UInt8) (p : Nat) (acc : List Tok), (∀ b ∈ g, gapU b = true) → lexW (g ++ r) p acc = lexW r (p + g.length) acc := by
  intro g
  induction g with
  | nil => intro r p acc _; rfl
  | cons b g ih =>
    intro r p acc hg
    rw [List.cons_append, lexW_gap (by simp) (by rw [List.headD_cons]; exact hg b (by simp)), List.drop_one, List.tail_cons, ih r (p + 1) acc (fun x hx => hg x (by simp [hx])), List.length_cons, show p + 1 + g.length = p + (g.length + 1) from by omega]
theorem lexW_count : ∀ (n : Nat) (r : List UInt8) (p : Nat) (acc acc' : List Tok), r.length ≤ n → lexW r p acc = .ok acc' → acc'.length ≤ acc.length + r.length := by
  intro n
  induction n with
  | zero =>
    intro r p acc acc' hn h
    have : r = [] := List.eq_nil_of_length_eq_zero (by omega)
    subst this
    rw [lexW_nil] at h
    injection h with h
    subst h
    omega
  | succ n ih =>
    intro r p acc acc' hn h
    rcases Nat.eq_zero_or_pos r.length with h0 | h0
    · have : r = [] := List.eq_nil_of_length_eq_zero h0
      subst this
      rw [lexW_nil] at h
      injection h with h
      subst h
      omega
    · rcases Bool.eq_false_or_eq_true (gapU (r.headD 0)) with hg | hg
      · rw [lexW_gap h0 hg] at h
        have := ih _ _ _ _ (by rw [List.length_drop]; omega) h
        rw [List.length_drop] at this
        omega
      · rcases hE : wordE r with x | ⟨k, m, v⟩
        · rw [lexW_err h0 hg hE] at h; cases h
        · have h1 := (wordE_ok h0 hE).1
          rw [lexW_word h0 hg hE] at h
          have := ih _ _ _ _ (by rw [List.length_drop]; omega) h
          rw [List.length_drop, List.length_append, List.length_singleton] at this
          omega
theorem lexW_bad : ∀ (n : Nat) (r : List UInt8) (p : Nat) (acc : List Tok) (q : Nat) (x : Int), r.length ≤ n → lexW r p acc = .error (q, x) → (x = 2 ∨ x = 3) ∧ q ≤ p + r.length := by
  intro n
  induction n with
  | zero =>
    intro r p acc q x hn h
    have : r = [] := List.eq_nil_of_length_eq_zero (by omega)
    subst this
    cases h
  | succ n ih =>
    intro r p acc q x hn h
    rcases Nat.eq_zero_or_pos r.length with h0 | h0
    · have : r = [] := List.eq_nil_of_length_eq_zero h0
      subst this
      cases h
    · rcases Bool.eq_false_or_eq_true (gapU (r.headD 0)) with hg | hg
      · rw [lexW_gap h0 hg] at h
        have := ih _ _ _ _ _ (by rw [List.length_drop]; omega) h
        rw [List.length_drop] at this
        exact ⟨this.1, by omega⟩
      · rcases hE : wordE r with y | ⟨k, m, v⟩
        · rw [lexW_err h0 hg hE] at h
          injection h with h
          injection h with h1 h
          subst h
          exact ⟨wordE_err hE, by omega⟩
        · have h1 := wordE_ok h0 hE
          rw [lexW_word h0 hg hE] at h
          have := ih _ _ _ _ _ (by rw [List.length_drop]; omega) h
          rw [List.length_drop] at this
          exact ⟨this.1, by omega⟩
theorem lexW_pos (B : Nat) : ∀ (n : Nat) (r : List UInt8) (p : Nat) (acc acc' : List Tok), r.length ≤ n → p + r.length ≤ B → (∀ t ∈ acc, t.pos ≤ B) → lexW r p acc = .ok acc' → ∀ t ∈ acc', t.pos ≤ B := by
  intro n
  induction n with
  | zero =>
    intro r p acc acc' hn _ ha h
    have : r = [] := List.eq_nil_of_length_eq_zero (by omega)
    subst this
    rw [lexW_nil] at h
    injection h with h
    subst h
    exact ha
  | succ n ih =>
    intro r p acc acc' hn hB ha h
    rcases Nat.eq_zero_or_pos r.length with h0 | h0
    · have : r = [] := List.eq_nil_of_length_eq_zero h0
      subst this
      rw [lexW_nil] at h
      injection h with h
      subst h
      exact ha
    · rcases Bool.eq_false_or_eq_true (gapU (r.headD 0)) with hg | hg
      · rw [lexW_gap h0 hg] at h
        exact ih _ _ _ _ (by rw [List.length_drop]; omega) (by rw [List.length_drop]; omega) ha h
      · rcases hE : wordE r with y | ⟨k, m, v⟩
        · rw [lexW_err h0 hg hE] at h; cases h
        · have h1 := wordE_ok h0 hE
          rw [lexW_word h0 hg hE] at h
          refine ih _ _ _ _ (by rw [List.length_drop]; omega) (by rw [List.length_drop]; omega) (fun t ht => ?_) h
          rw [List.mem_append, List.mem_singleton] at ht
          rcases ht with ht | rfl
          · exact ha t ht
          · show p ≤ B; omega
/-- A text of few bytes between gaps: the same words, each so much farther on. -/
theorem lexF_gaps (g l : List UInt8) (hg : ∀ b ∈ g, gapU b = true) (hl : l.length ≤ 2000) :
    (∃ p x, lexF l = ([], p, x) ∧ ((x = 2 ∨ x = 3) ∧ p ≤ l.length) ∧ lexF (g ++ l ++ g) = ([], p + g.length, x)) ∨
    (∃ acc : List Tok, lexF l = (acc, 0, 0) ∧ (∀ t ∈ acc, t.pos ≤ l.length) ∧ lexF (g ++ l ++ g) = (acc.map (sh g.length), 0, 0)) := by
  have hgh : GapHead g := by
    match g, hg with
    | [], _ => exact .inl rfl
    | b :: g, hg => exact .inr (hg b (by simp))
  have h1 : lexW (g ++ l ++ g) 0 [] = match lexW l 0 [] with
      | .error (q, x) => .error (q + g.length, x)
      | .ok acc' => .ok (acc'.map (sh g.length)) := by
    rw [List.append_assoc, lexW_gaps g (l ++ g) 0 [] hg, lexW_app hgh l.length l _ _ (Nat.le_refl _)]
    have := lexW_shift g.length l.length l 0 [] (Nat.le_refl _)
    rw [List.map_nil] at this
    rw [this]
    rcases lexW l 0 [] with ⟨q, x⟩ | acc
    · rfl
    · show lexW g _ _ = _
      have h := lexW_gaps g [] (0 + g.length + l.length) (acc.map (sh g.length)) hg
      rw [List.append_nil] at h
      rw [h, lexW_nil]
  unfold lexF
  rw [h1]
  rcases hw : lexW l 0 [] with ⟨q, x⟩ | acc
  · exact .inl ⟨q, x, rfl, by have := lexW_bad _ _ _ _ _ _ (Nat.le_refl _) hw; rw [Nat.zero_add] at this; exact this, rfl⟩
  · have hc := lexW_count _ _ _ _ _ (Nat.le_refl _) hw
    rw [List.length_nil] at hc
    have hp := lexW_pos l.length l.length l 0 [] acc (Nat.le_refl _) (by omega) (fun t ht => by simp at ht) hw
    refine .inr ⟨acc, ?_, hp, ?_⟩
    · show (if 2000 < acc.length then _ else _) = _
      rw [if_neg (by omega)]
    · show (if 2000 < (acc.map (sh g.length)).length then _ else _) = _
      rw [List.length_map, if_neg (by omega)]
/-- Twice k gaps. -/
def padL : Nat → List UInt8
  | 0 => []
  | k + 1 => padL k ++ [32, 10]
theorem padL_len (k : Nat) : (padL k).length = 2 * k := by
  induction k with
  | zero => rfl
  | succ k ih => rw [padL, List.length_append, ih]; simp; omega
theorem padL_gap (k : Nat) : ∀ b ∈ padL k, gapU b = true := by
  induction k with
  | zero => intro b h; simp [padL] at h
  | succ k ih =>
    intro b h
    rw [padL, List.mem_append] at h
    rcases h with h | h
    · exact ih b h
    · simp at h
      rcases h with rfl | rfl <;> decide
end Go.Proofs.Ytlnfilefpehnbaa
