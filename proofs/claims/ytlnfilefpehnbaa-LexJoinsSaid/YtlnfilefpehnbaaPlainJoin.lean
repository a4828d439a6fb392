/-
  Plain mathematics, no program: a word that was read is a word by itself; words put side by side, with a gap between them, are read as they are.
-/
import Derived.Test.YtlnfilefpehnbaaPlainShift
namespace Go.Proofs.Ytlnfilefpehnbaa

theorem take_head {r : List UInt8} {n : Nat} (hn : 1 ≤ n) : (r.take n).headD 0 = r.headD 0 := by
  match r, n, hn with
  | [], n + 1, _ => rfl
  | a :: r, n + 1, _ => rfl
theorem lenOf_self (pr : UInt8 → Bool) (r : List UInt8) (n : Nat) (hn : lenOf pr r = n) : lenOf pr (r.take n) = n := by
  rw [lenOf_take, hn]; omega
theorem sgnLen_take (r : List UInt8) (n : Nat) (hn : 1 ≤ n) (h : sgnLen r = n) : sgnLen (r.take n) = n := by
  match r, h with
  | [], h =>
    have : sgnLen [] = 0 := by decide
    omega
  | [a], h =>
    rw [List.take_of_length_le (by simpa using hn)]
    exact h
  | a :: b :: t, h =>
    have h2 := sgnB_le (a.toNat : Int) (b == 61)
    have e : sgnLen (a :: b :: t) = sgnB (a.toNat : Int) (b == 61) := rfl
    rw [e] at h
    match n, hn with
    | 1, _ =>
      show sgnB (a.toNat : Int) false = 1
      rcases Bool.eq_false_or_eq_true (b == 61) with hb | hb
      · rw [hb] at h
        unfold sgnB at h ⊢
        by_cases h1 : (a.toNat : Int) = 61 ∨ (a.toNat : Int) = 60 ∨ (a.toNat : Int) = 62
        · rw [if_pos h1] at h; cases h
        · rw [if_neg h1] at h ⊢
          by_cases h3 : (a.toNat : Int) = 33
          · rw [if_pos h3] at h; cases h
          · rw [if_neg h3] at h ⊢
            exact h
      · rw [hb] at h; exact h
    | 2, _ => exact h
    | n + 3, _ => omega
theorem wordE_take {r : List UInt8} {k m : Int} {n : Nat} (h0 : 0 < r.length) (h : wordE r = .ok (k, n, m)) : wordE (r.take n) = .ok (k, n, m) := by
  have hn := (wordE_ok h0 h).1
  have hh : (r.take n).headD 0 = r.headD 0 := take_head hn
  have htt : (r.take n).take n = r.take n := by rw [List.take_take, Nat.min_self]
  unfold wordE at h ⊢
  rw [hh]
  by_cases hl : letU (r.headD 0) = true
  · rw [if_pos hl] at h ⊢
    unfold nameE at h ⊢
    by_cases h12 : 12 < lenOf alnU r
    · rw [if_pos h12] at h; cases h
    · rw [if_neg h12] at h
      injection h with h; injection h with h1 h; injection h with h2 h3
      rw [lenOf_self _ _ _ h2, htt, if_neg (by omega), ← h1, ← h3, h2]
  · rw [if_neg hl] at h ⊢
    by_cases hd : digU (r.headD 0) = true
    · rw [if_pos hd] at h ⊢
      unfold numE at h ⊢
      by_cases hc : 2147483647 < val (r.take (lenOf digU r)) ∨ (1 < lenOf digU r ∧ r.headD 0 = 48) ∨ letU (r.getD (lenOf digU r) 0) = true
      · rw [if_pos hc] at h; cases h
      · rw [if_neg hc] at h
        injection h with h; injection h with h1 h; injection h with h2 h3
        rw [h2] at hc h3
        have hlast : letU ((r.take n).getD n 0) = false := by
          rw [List.getD_eq_getElem?_getD, List.getElem?_eq_none (by rw [List.length_take]; omega)]
          decide
        rw [lenOf_self _ _ _ h2, htt, hh, if_neg (fun hx => hx.elim (fun hx => hc (.inl hx)) (fun hx => hx.elim (fun hx => hc (.inr (.inl hx))) (fun hx => by rw [hlast] at hx; cases hx))), h1, h3]
    · rw [if_neg hd] at h ⊢
      unfold sgnE at h ⊢
      by_cases hz : sgnLen r = 0
      · rw [if_pos hz] at h; cases h
      · rw [if_neg hz] at h
        injection h with h; injection h with h1 h; injection h with h2 h3
        rw [sgnLen_take r n hn h2, if_neg (by omega), h1, h3]

/-- A word that was read: it is one by itself. -/
structure Wd (B : Nat) (t : Tok) : Prop where
  word : wordE t.text.data.toList = .ok (t.kind, t.text.data.toList.length, t.num)
  head : gapU (t.text.data.toList.headD 0) = false
  pos : 0 < t.text.data.toList.length
  few : t.text.data.toList.length ≤ B
theorem lexW_wd (B : Nat) : ∀ (n : Nat) (r : List UInt8) (p : Nat) (acc acc' : List Tok), r.length ≤ n → r.length ≤ B → (∀ t ∈ acc, Wd B t) → lexW r p acc = .ok acc' → ∀ t ∈ acc', Wd B t := by
  intro n
  induction n with
  | zero =>
    intro r p acc acc' hn _ ha h
    have : r = [] := List.eq_nil_of_length_eq_zero (by omega)
    subst this
    rw [lexW_nil] at h
    injection h with h
    subst h
    exact ha
  | succ n ih =>
    intro r p acc acc' hn hB ha h
    rcases Nat.eq_zero_or_pos r.length with h0 | h0
    · have : r = [] := List.eq_nil_of_length_eq_zero h0
      subst this
      rw [lexW_nil] at h
      injection h with h
      subst h
      exact ha
    · rcases Bool.eq_false_or_eq_true (gapU (r.headD 0)) with hg | hg
      · rw [lexW_gap h0 hg] at h
        exact ih _ _ _ _ (by rw [List.length_drop]; omega) (by rw [List.length_drop]; omega) ha h
      · rcases hE : wordE r with y | ⟨k, m, v⟩
        · rw [lexW_err h0 hg hE] at h; cases h
        · have h1 := wordE_ok h0 hE
          rw [lexW_word h0 hg hE] at h
          refine ih _ _ _ _ (by rw [List.length_drop]; omega) (by rw [List.length_drop]; omega) (fun t ht => ?_) h
          rw [List.mem_append, List.mem_singleton] at ht
          rcases ht with ht | rfl
          · exact ha t ht
          · have hlen : (r.take m).length = m := by rw [List.length_take]; omega
            have he : (ofL (r.take m)).data.toList = r.take m := rfl
            refine ⟨?_, ?_, ?_, ?_⟩
            · show wordE (ofL (r.take m)).data.toList = .ok (k, (ofL (r.take m)).data.toList.length, v)
              rw [he, hlen]; exact wordE_take h0 hE
            · show gapU ((ofL (r.take m)).data.toList.headD 0) = false
              rw [he, take_head h1.1]; exact hg
            · show 0 < (ofL (r.take m)).data.toList.length
              rw [he, hlen]; omega
            · show (ofL (r.take m)).data.toList.length ≤ B
              rw [he, hlen]; omega
theorem lexR_wd {s : ByteArray} {acc : List Tok} (h : lexR s = (acc, 0, 0)) : ∀ t ∈ acc, Wd s.size t := by
  have hl : s.data.toList.length = s.size := Array.length_toList
  rw [lexR_lexF] at h
  unfold lexF at h
  rcases hw : lexW s.data.toList 0 [] with ⟨q, x⟩ | acc'
  · rw [hw] at h
    have h1 : ([] : List Tok) = acc := by injection h
    subst h1
    intro t ht
    simp at ht
  · rw [hw] at h
    have h : (if 2000 < acc'.length then (([], s.data.toList.length, 4) : List Tok × Nat × Int) else (acc', 0, 0)) = (acc, 0, 0) := h
    by_cases hc : 2000 < acc'.length
    · rw [if_pos hc] at h
      have h1 : ([] : List Tok) = acc := by injection h
      subst h1
      intro t ht
      simp at ht
    · rw [if_neg hc] at h
      have h1 : acc' = acc := by injection h
      subst h1
      exact lexW_wd s.size _ _ 0 [] acc' (Nat.le_refl _) (by omega) (fun t ht => by simp at ht) hw

/-- The text X gives the words ts, whatever stands behind it. -/
def Jn (X : List UInt8) (ts : List Tok) : Prop := ∀ r, lexW (X ++ r) 0 [] = lexW r X.length ts
theorem Jn.start : Jn [] [] := fun _ => rfl
theorem Jn.step {X : List UInt8} {ts : List Tok} (h : Jn X ts) {B : Nat} {t : Tok} (ht : Wd B t) {g : UInt8} (hg : gapU g = true) :
    Jn (X ++ t.text.data.toList ++ [g]) (ts ++ [⟨t.kind, t.text, t.num, X.length⟩]) := by
  intro r
  have e : X ++ t.text.data.toList ++ [g] ++ r = X ++ (t.text.data.toList ++ (g :: r)) := by simp
  rw [e, h, lexW_app (t := g :: r) (.inr hg) _ _ _ _ (Nat.le_refl _), lexW_word ht.pos ht.head ht.word, List.drop_of_length_le (Nat.le_refl _), List.take_of_length_le (Nat.le_refl _), lexW_nil]
  show lexW (g :: r) (X.length + t.text.data.toList.length) _ = _
  rw [lexW_gap (by simp) (show gapU ((g :: r).headD 0) = true from hg), List.drop_one, List.tail_cons]
  have e2 : (X ++ t.text.data.toList ++ [g]).length = X.length + t.text.data.toList.length + 1 := by simp; omega
  rw [e2]
  rfl
theorem Jn.done {X : ByteArray} {ts : List Tok} (h : Jn X.data.toList ts) (hl : ts.length ≤ 2000) : lexR X = (ts, 0, 0) := by
  have h1 := h []
  rw [List.append_nil, lexW_nil] at h1
  rw [lexR_lexF]
  unfold lexF
  rw [h1]
  show (if 2000 < ts.length then _ else _) = _
  rw [if_neg (by omega)]
end Go.Proofs.Ytlnfilefpehnbaa
