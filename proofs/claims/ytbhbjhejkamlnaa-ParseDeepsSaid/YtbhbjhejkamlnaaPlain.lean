/-
  Plain mathematics, no program: what the words of a text are, by its bytes; runs of bytes; numbers out of digits.
-/
import Derived.Lib.Strings
namespace Go.Proofs.Ytbhbjhejkamlnaa

def gapB (n : Int) : Bool := n == 32 || n == 10
def letB (n : Int) : Bool := decide (97 ≤ n) && decide (n ≤ 122)
def digB (n : Int) : Bool := decide (48 ≤ n) && decide (n ≤ 57)
def gapU (b : UInt8) : Bool := gapB (b.toNat : Int)
def letU (b : UInt8) : Bool := letB (b.toNat : Int)
def digU (b : UInt8) : Bool := digB (b.toNat : Int)
def alnU (b : UInt8) : Bool := letU b || digU b

def resB (l : List UInt8) : Bool :=
  l == [99, 104, 97, 110] || l == [98, 108, 111, 99, 107] || l == [100, 114, 111, 112] || l == [108, 111, 115, 115, 121] || l == [102, 114, 111, 109] || l == [116, 111] ||
  l == [114, 117, 108, 101] || l == [112, 114, 111, 99] || l == [118, 97, 114] || l == [105, 102] || l == [101, 108, 115, 101] || l == [119, 104, 105, 108, 101] ||
  l == [115, 101, 110, 100] || l == [114, 101, 99, 118] || l == [97, 115, 115, 101, 114, 116] || l == [105, 110, 112, 117, 116]

/-- How long the sign is that begins with a byte; p: whether an equals sign stands behind it. -/
def sgnB (a : Int) (p : Bool) : Nat :=
  if a = 61 ∨ a = 60 ∨ a = 62 then (if p then 2 else 1) else if a = 33 then (if p then 2 else 0)
  else if a = 123 ∨ a = 125 ∨ a = 40 ∨ a = 41 ∨ a = 59 ∨ a = 44 ∨ a = 46 ∨ a = 43 ∨ a = 45 ∨ a = 42 ∨ a = 47 ∨ a = 37 then 1 else 0
/-- The second byte is an equals sign. -/
def eqNext (l : List UInt8) : Bool := match l with
  | _ :: b :: _ => b == 61
  | _ => false
theorem eqNext_get (l : List UInt8) (h : 1 < l.length) : eqNext l = ((l[1].toNat : Int) == 61) := by
  match l, h with
  | a :: b :: t, _ =>
    show (b == 61) = ((b.toNat : Int) == 61)
    rw [Bool.eq_iff_iff]
    simp only [beq_iff_eq]
    constructor
    · rintro rfl; rfl
    · intro h; exact UInt8.toNat_inj.1 (by show b.toNat = 61; omega)
  | [], h => simp at h
  | [a], h => simp at h
theorem eqNext_short (l : List UInt8) (h : l.length ≤ 1) : eqNext l = false := by
  match l, h with
  | a :: b :: t, h => simp at h
  | [], _ => rfl
  | [a], _ => rfl
def sgnLen (r : List UInt8) : Nat := sgnB ((r.headD 0).toNat : Int) (eqNext r)

def lenOf (pr : UInt8 → Bool) (r : List UInt8) : Nat := (r.takeWhile pr).length
def val (ds : List UInt8) : Nat := ds.foldl (fun n d => 10 * n + (d.toNat - 48)) 0

/-- A name's kind, length and number; a number's; the word with which bytes begin. -/
def nameE (r : List UInt8) : Except Int (Int × Nat × Int) :=
  if 12 < lenOf alnU r then .error 3 else .ok (if resB (r.take (lenOf alnU r)) then 4 else 1, lenOf alnU r, 0)
def numE (r : List UInt8) : Except Int (Int × Nat × Int) :=
  if 2147483647 < val (r.take (lenOf digU r)) ∨ (1 < lenOf digU r ∧ r.headD 0 = 48) ∨ letU (r.getD (lenOf digU r) 0) = true then .error 3
  else .ok (2, lenOf digU r, (val (r.take (lenOf digU r)) : Int))
def sgnE (r : List UInt8) : Except Int (Int × Nat × Int) :=
  if sgnLen r = 0 then .error 2 else .ok (3, sgnLen r, 0)
def wordE (r : List UInt8) : Except Int (Int × Nat × Int) :=
  if letU (r.headD 0) then nameE r else if digU (r.headD 0) then numE r else sgnE r

structure Tok where
  kind : Int
  text : ByteArray
  num : Int
  pos : Nat

def lexGo (s : ByteArray) : Nat → Nat → List Tok → Except (Nat × Int) (List Tok)
  | 0, _, acc => .ok acc
  | f + 1, p, acc =>
    if p < s.size then
      if gapU (s.data.toList.getD p 0) then lexGo s f (p + 1) acc
      else match wordE (s.data.toList.drop p) with
        | .error e => .error (p, e)
        | .ok (k, n, m) => lexGo s f (p + n) (acc ++ [⟨k, s.extract p (p + n), m, p⟩])
    else .ok acc

/-- What Lex tells: the words, the place, the error. -/
def lexR (s : ByteArray) : List Tok × Nat × Int := match lexGo s s.size 0 [] with
  | .error (p, e) => ([], p, e)
  | .ok acc => if 2000 < acc.length then ([], s.size, 4) else (acc, 0, 0)

theorem lenOf_le (pr : UInt8 → Bool) (r : List UInt8) : lenOf pr r ≤ r.length := (List.takeWhile_prefix pr).length_le
theorem lenOf_pos (pr : UInt8 → Bool) (r : List UInt8) (h0 : 0 < r.length) (h : pr (r.headD 0) = true) : 1 ≤ lenOf pr r := by
  match r, h0 with
  | a :: t, _ =>
    have h : pr a = true := h
    simp [lenOf, h]
theorem sgnB_le (a : Int) (p : Bool) : sgnB a p ≤ 2 := by
  unfold sgnB
  cases p <;> repeat (first | omega | split)
theorem sgnLen_le (r : List UInt8) : sgnLen r ≤ r.length := by
  match r with
  | [] => exact Nat.le_of_eq (by decide)
  | [a] =>
    show sgnB (a.toNat : Int) false ≤ 1
    unfold sgnB
    simp only [Bool.false_eq_true, if_false]
    repeat (first | omega | split)
  | a :: b :: t =>
    have := sgnB_le (a.toNat : Int) (b == 61)
    show sgnB (a.toNat : Int) (b == 61) ≤ t.length + 1 + 1
    omega
theorem wordE_ok {r : List UInt8} {k : Int} {n : Nat} {m : Int} (h0 : 0 < r.length) (h : wordE r = .ok (k, n, m)) : 1 ≤ n ∧ n ≤ r.length ∧ 0 ≤ m ∧ m ≤ 2147483647 ∧ 1 ≤ k ∧ k ≤ 4 := by
  unfold wordE at h
  by_cases hl : letU (r.headD 0) = true
  · rw [if_pos hl] at h
    unfold nameE at h
    by_cases h12 : 12 < lenOf alnU r
    · rw [if_pos h12] at h; cases h
    · rw [if_neg h12] at h
      injection h with h; injection h with h1 h; injection h with h2 h3
      subst h2; subst h3
      refine ⟨lenOf_pos _ _ h0 (by unfold alnU; rw [hl]; rfl), lenOf_le _ _, by omega, by omega, ?_⟩
      rw [← h1]
      split <;> omega
  · rw [if_neg hl] at h
    by_cases hd : digU (r.headD 0) = true
    · rw [if_pos hd] at h
      unfold numE at h
      by_cases hc : 2147483647 < val (r.take (lenOf digU r)) ∨ (1 < lenOf digU r ∧ r.headD 0 = 48) ∨ letU (r.getD (lenOf digU r) 0) = true
      · rw [if_pos hc] at h; cases h
      · rw [if_neg hc] at h
        injection h with h; injection h with h1 h; injection h with h2 h3
        subst h2; subst h3; subst h1
        refine ⟨lenOf_pos _ _ h0 hd, lenOf_le _ _, by omega, ?_, by omega, by omega⟩
        have := fun hx => hc (.inl hx)
        omega
    · rw [if_neg hd] at h
      unfold sgnE at h
      by_cases hz : sgnLen r = 0
      · rw [if_pos hz] at h; cases h
      · rw [if_neg hz] at h
        injection h with h; injection h with h1 h; injection h with h2 h3
        subst h2; subst h3; subst h1
        exact ⟨by omega, sgnLen_le r, by omega, by omega, by omega, by omega⟩

theorem wordE_err {r : List UInt8} {x : Int} (h : wordE r = .error x) : x = 2 ∨ x = 3 := by
  unfold wordE at h
  split at h
  · unfold nameE at h
    split at h
    · injection h with h; omega
    · cases h
  · split at h
    · unfold numE at h
      split at h
      · injection h with h; omega
      · cases h
    · unfold sgnE at h
      split at h
      · injection h with h; omega
      · cases h

/-! The loop over the words. -/
theorem go_gap {s : ByteArray} {f p : Nat} {acc : List Tok} {R : Except (Nat × Int) (List Tok)} (hp : p < s.size) (hg : gapU (s.data.toList.getD p 0) = true) (hf : s.size ≤ p + f) (h : lexGo s f p acc = R) :
    ∃ f', s.size ≤ (p + 1) + f' ∧ lexGo s f' (p + 1) acc = R := by
  obtain ⟨f', rfl⟩ : ∃ f', f = f' + 1 := ⟨f - 1, by omega⟩
  refine ⟨f', by omega, ?_⟩
  rw [lexGo, if_pos hp, if_pos hg] at h
  exact h
theorem go_err {s : ByteArray} {f p : Nat} {acc : List Tok} {R : Except (Nat × Int) (List Tok)} {e : Int} (hp : p < s.size) (hg : gapU (s.data.toList.getD p 0) = false) (hw : wordE (s.data.toList.drop p) = .error e) (hf : s.size ≤ p + f) (h : lexGo s f p acc = R) :
    R = .error (p, e) := by
  obtain ⟨f', rfl⟩ : ∃ f', f = f' + 1 := ⟨f - 1, by omega⟩
  rw [lexGo, if_pos hp, if_neg (by rw [hg]; decide), hw] at h
  exact h.symm
theorem go_word {s : ByteArray} {f p : Nat} {acc : List Tok} {R : Except (Nat × Int) (List Tok)} {k : Int} {n : Nat} {m : Int} (hp : p < s.size) (hg : gapU (s.data.toList.getD p 0) = false) (hw : wordE (s.data.toList.drop p) = .ok (k, n, m)) (hf : s.size ≤ p + f) (hn : 1 ≤ n) (h : lexGo s f p acc = R) :
    ∃ f', s.size ≤ (p + n) + f' ∧ lexGo s f' (p + n) (acc ++ [⟨k, s.extract p (p + n), m, p⟩]) = R := by
  obtain ⟨f', rfl⟩ : ∃ f', f = f' + 1 := ⟨f - 1, by omega⟩
  refine ⟨f', by omega, ?_⟩
  rw [lexGo, if_pos hp, if_neg (by rw [hg]; decide), hw] at h
  exact h
theorem go_end {s : ByteArray} {f p : Nat} {acc : List Tok} {R : Except (Nat × Int) (List Tok)} (hp : s.size ≤ p) (h : lexGo s f p acc = R) : R = .ok acc := by
  match f with
  | 0 => exact h.symm
  | f + 1 =>
    rw [lexGo, if_neg (by omega)] at h
    exact h.symm

/-! Runs: the bytes from p on, up to k, all have it. -/
def Run (pr : UInt8 → Bool) (s : ByteArray) (p k : Nat) : Prop := p ≤ k ∧ k ≤ s.size ∧ ∀ j, p ≤ j → j < k → pr (s.data.toList.getD j 0) = true
theorem getD_eq (s : ByteArray) (k : Nat) (h : k < s.size) : s.data.toList.getD k 0 = s[k] := by
  rw [List.getD_eq_getElem?_getD, List.getElem?_eq_getElem (by simpa using h)]
  rfl
theorem Run.start {pr : UInt8 → Bool} {s : ByteArray} {p : Nat} (h : p ≤ s.size) : Run pr s p p := ⟨Nat.le_refl _, h, fun j h1 h2 => by omega⟩
theorem Run.step {pr : UInt8 → Bool} {s : ByteArray} {p k : Nat} (h : Run pr s p k) (hk : k < s.size) (hp : pr s[k] = true) : Run pr s p (k + 1) := by
  refine ⟨by have := h.1; omega, by omega, fun j h1 h2 => ?_⟩
  by_cases e : j = k
  · subst e; rw [getD_eq s j hk]; exact hp
  · exact h.2.2 j h1 (by omega)
theorem takeWhile_len (pr : UInt8 → Bool) : ∀ (r : List UInt8) (n : Nat), n ≤ r.length → (∀ i, i < n → pr (r.getD i 0) = true) → (n < r.length → pr (r.getD n 0) = false) → (r.takeWhile pr).length = n := by
  intro r
  induction r with
  | nil => intro n h _ _; simp at h; simp [h]
  | cons a t ih =>
    intro n hn hall hstop
    match n with
    | 0 =>
      have : pr a = false := hstop (by simp)
      simp [this]
    | n + 1 =>
      have h0 : pr a = true := hall 0 (by omega)
      rw [List.takeWhile_cons, if_pos h0, List.length_cons, ih n (by simpa using hn) (fun i hi => hall (i + 1) (by omega)) (fun h => hstop (by simpa using h))]
theorem getD_drop (l : List UInt8) (p i : Nat) : (l.drop p).getD i 0 = l.getD (p + i) 0 := by
  simp [List.getD_eq_getElem?_getD, List.getElem?_drop]
theorem Run.len {pr : UInt8 → Bool} {s : ByteArray} {p k : Nat} (h : Run pr s p k) (hk : k < s.size → pr (s.data.toList.getD k 0) = false) : lenOf pr (s.data.toList.drop p) = k - p := by
  obtain ⟨h1, h2, h3⟩ := h
  have hl : s.data.toList.length = s.size := by simp
  refine takeWhile_len pr _ (k - p) (by rw [List.length_drop]; omega) (fun i hi => ?_) (fun hlt => ?_)
  · rw [getD_drop]; exact h3 _ (by omega) (by omega)
  · rw [getD_drop, show p + (k - p) = k from by omega]
    rw [List.length_drop] at hlt
    exact hk (by omega)
theorem Run.le_len {pr : UInt8 → Bool} {s : ByteArray} {p k : Nat} (h : Run pr s p k) : k - p ≤ lenOf pr (s.data.toList.drop p) := by
  obtain ⟨h1, h2, h3⟩ := h
  have hl : s.data.toList.length = s.size := by simp
  have key : ∀ (r : List UInt8) (n : Nat), n ≤ r.length → (∀ i, i < n → pr (r.getD i 0) = true) → n ≤ (r.takeWhile pr).length := by
    intro r
    induction r with
    | nil => intro n h _; simpa using h
    | cons a t ih =>
      intro n hn hall
      match n with
      | 0 => omega
      | n + 1 =>
        have h0 : pr a = true := hall 0 (by omega)
        have := ih n (by simpa using hn) (fun i hi => hall (i + 1) (by omega))
        rw [List.takeWhile_cons, if_pos h0, List.length_cons]
        omega
  exact key _ _ (by rw [List.length_drop]; omega) (fun i hi => by rw [getD_drop]; exact h3 _ (by omega) (by omega))
theorem head_drop (l : List UInt8) (p : Nat) : (l.drop p).headD 0 = l.getD p 0 := by
  rw [List.headD_eq_head?_getD, List.head?_drop, List.getD_eq_getElem?_getD]

/-! Numbers out of digits. -/
def vl (s : ByteArray) (p k : Nat) : Nat := val ((s.data.toList.drop p).take (k - p))
theorem val_snoc (ds : List UInt8) (d : UInt8) : val (ds ++ [d]) = 10 * val ds + (d.toNat - 48) := by simp [val]
theorem val_app_le (a : List UInt8) : ∀ b : List UInt8, val a ≤ val (a ++ b) := by
  intro b
  induction b generalizing a with
  | nil => simp
  | cons d t ih =>
    have h1 := ih (a ++ [d])
    rw [List.append_assoc, List.singleton_append] at h1
    have h2 := val_snoc a d
    omega
theorem vl_start (s : ByteArray) (p : Nat) : vl s p p = 0 := by simp [vl, val]
theorem vl_step (s : ByteArray) (p k : Nat) (hp : p ≤ k) (hk : k < s.size) : vl s p (k + 1) = 10 * vl s p k + (s[k].toNat - 48) := by
  have hl : s.data.toList.length = s.size := by simp
  unfold vl
  rw [show k + 1 - p = (k - p) + 1 from by omega, List.take_succ_eq_append_getElem (by rw [List.length_drop]; omega), val_snoc]
  have : (s.data.toList.drop p)[k - p]'(by rw [List.length_drop]; omega) = s[k] := by
    rw [List.getElem_drop]
    have e : p + (k - p) = k := by omega
    simp only [e]
    rfl
  rw [this]
theorem vl_mono (s : ByteArray) (p k n : Nat) (h : k - p ≤ n) : vl s p k ≤ val ((s.data.toList.drop p).take n) := by
  unfold vl
  have e : (s.data.toList.drop p).take n = (s.data.toList.drop p).take (k - p) ++ ((s.data.toList.drop p).drop (k - p)).take (n - (k - p)) := by
    rw [← List.take_add, show k - p + (n - (k - p)) = n from by omega]
  rw [e]
  exact val_app_le _ _
end Go.Proofs.Ytbhbjhejkamlnaa
