/-
  lex.wordAt: the word that begins at a place of a text, or the error; for every text and place in it.
-/
import Derived.Test.YtbhbjhejkamlnaaName
namespace Go.Proofs.Ytbhbjhejkamlnaa
open Go.RowKit

theorem nameAt_err (s : ByteArray) (p : Nat) (w : World) (hs : s.size ≤ maxLen) (hp : p < s.size) {x : Int} (h : nameE (s.data.toList.drop p) = .error x) :
    Calls Try.prog 62 #[.string s, .int .i64 p] w fun e w' => e = .returned (.tuple #[.agg #[.int .i64 0, .string ⟨#[]⟩, .int .i64 0, .int .i64 0], .int .i64 x]) ∧ Below w.heap.size w w' :=
  (nameAt_any s p w hs hp).mono fun e w' ⟨he, hb⟩ => ⟨by rw [he, h]; rfl, hb⟩
theorem nameAt_ok (s : ByteArray) (p : Nat) (w : World) (hs : s.size ≤ maxLen) (hp : p < s.size) {k m : Int} {n : Nat} {T : ByteArray} (hT : s.extract p (p + n) = T) (h : nameE (s.data.toList.drop p) = .ok (k, n, m)) :
    Calls Try.prog 62 #[.string s, .int .i64 p] w fun e w' => e = .returned (.tuple #[.agg #[.int .i64 k, .string T, .int .i64 m, .int .i64 p], .int .i64 0]) ∧ Below w.heap.size w w' :=
  (nameAt_any s p w hs hp).mono fun e w' ⟨he, hb⟩ => ⟨by rw [he, h, ← hT]; rfl, hb⟩
theorem numAt_err (s : ByteArray) (p : Nat) (w : World) (hs : s.size ≤ maxLen) (hp : p < s.size) {x : Int} (h : numE (s.data.toList.drop p) = .error x) :
    Calls Try.prog 64 #[.string s, .int .i64 p] w fun e w' => e = .returned (.tuple #[.agg #[.int .i64 0, .string ⟨#[]⟩, .int .i64 0, .int .i64 0], .int .i64 x]) ∧ Below w.heap.size w w' :=
  (numAt_any s p w hs hp).mono fun e w' ⟨he, hb⟩ => ⟨by rw [he, h]; rfl, hb⟩
theorem numAt_ok (s : ByteArray) (p : Nat) (w : World) (hs : s.size ≤ maxLen) (hp : p < s.size) {k m : Int} {n : Nat} {T : ByteArray} (hT : s.extract p (p + n) = T) (h : numE (s.data.toList.drop p) = .ok (k, n, m)) :
    Calls Try.prog 64 #[.string s, .int .i64 p] w fun e w' => e = .returned (.tuple #[.agg #[.int .i64 k, .string T, .int .i64 m, .int .i64 p], .int .i64 0]) ∧ Below w.heap.size w w' :=
  (numAt_any s p w hs hp).mono fun e w' ⟨he, hb⟩ => ⟨by rw [he, h, ← hT]; rfl, hb⟩
theorem data_from (s : ByteArray) (p : Nat) : (s.extract p s.size).data.toList = s.data.toList.drop p := by
  rw [Lib.extract_data, List.take_of_length_le]
  simp
theorem sgn_at (s : ByteArray) (p : Nat) (w : World) (hp : p < s.size) {n : Nat} (hn : sgnLen (s.data.toList.drop p) = n) :
    Calls Try.prog 65 #[.string (s.extract p s.size)] w fun e w' => e = .returned (.int .i64 n) ∧ w = w' := by
  have h0 : 0 < (s.extract p s.size).size := by simp; omega
  refine (sgn_any (s.extract p s.size) w h0).mono fun e w' ⟨he, hb⟩ => ⟨he.trans (ret_i64 ?_), hb⟩
  rw [← hn, ← data_from]
  unfold sgnLen
  congr 2
  rw [List.headD_eq_head?_getD, List.head?_eq_getElem?, List.getElem?_eq_getElem (by simpa using h0)]
  rfl
theorem bcell {W w1 : World} (hb : Below W.heap.size W w1) : (∀ b o, b < W.heap.size → w1.cell? ⟨b, o, none⟩ = W.cell? ⟨b, o, none⟩) ∧ (∀ b o, b < W.heap.size → w1.frozen? ⟨b, o, none⟩ = W.frozen? ⟨b, o, none⟩) :=
  ⟨fun b o h => hb.cell (p := ⟨b, o, none⟩) h, fun b o h => hb.frozen (p := ⟨b, o, none⟩) h⟩

set_option maxHeartbeats 2000000 in
theorem wordAt_name_err (s : ByteArray) (p : Nat) (w : World) (hs : s.size ≤ maxLen) (hp : p < s.size) (hl : letB (s[p].toNat : Int) = true) {x : Int} (hx : nameE (s.data.toList.drop p) = .error x) :
    Calls Try.prog 35 #[.string s, .int .i64 p] w fun e w' => e = .returned (.tuple #[.agg #[.int .i64 0, .string ⟨#[]⟩, .int .i64 0, .int .i64 0], .int .i64 x]) ∧ Below w.heap.size w w' := by
  have Hx := Lib.hid hx
  clear hx
  have hs' := hs
  unfold maxLen at hs
  go_enter Try.func35, Try.ntmps35
  go_wp2_with (first | (go_at_call 61; refine (let_any _ _).mono ?_; rintro e w' ⟨rfl, rfl⟩) | (go_at_call 63; refine (dig_any _ _).mono ?_; rintro e w' ⟨rfl, rfl⟩))
  refine (nameAt_err s p _ hs' hp Hx.out).mono ?_
  rintro e w1 ⟨rfl, hb⟩
  obtain ⟨hc, hf⟩ := bcell hb
  have hz : w.heap.size < w1.heap.size := by have := hb.size; simp at this; omega
  go_wp2
  exact bodyPost_ret (v := .tuple #[.agg #[.int .i64 0, .string ⟨#[]⟩, .int .i64 0, .int .i64 0], .int .i64 x]) (by simp [results, Try.results35, go_sem, hc]) rfl ⟨rfl, (((((Below.refl _ _).alloc (Nat.le_refl _) _).trans (hb.mono (by simp))).setCell (by simp) _).setCell (by simp) _).setCell (by simp) _ |>.setCell (by simp) _⟩

set_option maxHeartbeats 2000000 in
theorem wordAt_name_ok (s : ByteArray) (p : Nat) (w : World) (hs : s.size ≤ maxLen) (hp : p < s.size) (hl : letB (s[p].toNat : Int) = true) {k m : Int} {n : Nat} {T : ByteArray} (hT : s.extract p (p + n) = T) (hx : nameE (s.data.toList.drop p) = .ok (k, n, m)) :
    Calls Try.prog 35 #[.string s, .int .i64 p] w fun e w' => e = .returned (.tuple #[.agg #[.int .i64 k, .string T, .int .i64 m, .int .i64 p], .int .i64 0]) ∧ Below w.heap.size w w' := by
  have Hx := Lib.hid hx
  clear hx
  have HT := Lib.hid hT
  clear hT
  have hs' := hs
  unfold maxLen at hs
  go_enter Try.func35, Try.ntmps35
  go_wp2_with (first | (go_at_call 61; refine (let_any _ _).mono ?_; rintro e w' ⟨rfl, rfl⟩) | (go_at_call 63; refine (dig_any _ _).mono ?_; rintro e w' ⟨rfl, rfl⟩))
  refine (nameAt_ok s p _ hs' hp HT.out Hx.out).mono ?_
  rintro e w1 ⟨rfl, hb⟩
  obtain ⟨hc, hf⟩ := bcell hb
  have hz : w.heap.size < w1.heap.size := by have := hb.size; simp at this; omega
  go_wp2
  exact bodyPost_ret (v := .tuple #[.agg #[.int .i64 k, .string T, .int .i64 m, .int .i64 p], .int .i64 0]) (by simp [results, Try.results35, go_sem, hc]) rfl ⟨rfl, (((((Below.refl _ _).alloc (Nat.le_refl _) _).trans (hb.mono (by simp))).setCell (by simp) _).setCell (by simp) _).setCell (by simp) _ |>.setCell (by simp) _⟩

set_option maxHeartbeats 2000000 in
theorem wordAt_num_err (s : ByteArray) (p : Nat) (w : World) (hs : s.size ≤ maxLen) (hp : p < s.size) (hl : letB (s[p].toNat : Int) = false) (hd : digB (s[p].toNat : Int) = true) {x : Int} (hx : numE (s.data.toList.drop p) = .error x) :
    Calls Try.prog 35 #[.string s, .int .i64 p] w fun e w' => e = .returned (.tuple #[.agg #[.int .i64 0, .string ⟨#[]⟩, .int .i64 0, .int .i64 0], .int .i64 x]) ∧ Below w.heap.size w w' := by
  have Hx := Lib.hid hx
  clear hx
  have hs' := hs
  unfold maxLen at hs
  go_enter Try.func35, Try.ntmps35
  go_wp2_with (first | (go_at_call 61; refine (let_any _ _).mono ?_; rintro e w' ⟨rfl, rfl⟩) | (go_at_call 63; refine (dig_any _ _).mono ?_; rintro e w' ⟨rfl, rfl⟩))
  refine (numAt_err s p _ hs' hp Hx.out).mono ?_
  rintro e w1 ⟨rfl, hb⟩
  obtain ⟨hc, hf⟩ := bcell hb
  have hz : w.heap.size < w1.heap.size := by have := hb.size; simp at this; omega
  go_wp2
  exact bodyPost_ret (v := .tuple #[.agg #[.int .i64 0, .string ⟨#[]⟩, .int .i64 0, .int .i64 0], .int .i64 x]) (by simp [results, Try.results35, go_sem, hc]) rfl ⟨rfl, (((((Below.refl _ _).alloc (Nat.le_refl _) _).trans (hb.mono (by simp))).setCell (by simp) _).setCell (by simp) _).setCell (by simp) _ |>.setCell (by simp) _⟩

set_option maxHeartbeats 2000000 in
theorem wordAt_num_ok (s : ByteArray) (p : Nat) (w : World) (hs : s.size ≤ maxLen) (hp : p < s.size) (hl : letB (s[p].toNat : Int) = false) (hd : digB (s[p].toNat : Int) = true) {k m : Int} {n : Nat} {T : ByteArray} (hT : s.extract p (p + n) = T) (hx : numE (s.data.toList.drop p) = .ok (k, n, m)) :
    Calls Try.prog 35 #[.string s, .int .i64 p] w fun e w' => e = .returned (.tuple #[.agg #[.int .i64 k, .string T, .int .i64 m, .int .i64 p], .int .i64 0]) ∧ Below w.heap.size w w' := by
  have Hx := Lib.hid hx
  clear hx
  have HT := Lib.hid hT
  clear hT
  have hs' := hs
  unfold maxLen at hs
  go_enter Try.func35, Try.ntmps35
  go_wp2_with (first | (go_at_call 61; refine (let_any _ _).mono ?_; rintro e w' ⟨rfl, rfl⟩) | (go_at_call 63; refine (dig_any _ _).mono ?_; rintro e w' ⟨rfl, rfl⟩))
  refine (numAt_ok s p _ hs' hp HT.out Hx.out).mono ?_
  rintro e w1 ⟨rfl, hb⟩
  obtain ⟨hc, hf⟩ := bcell hb
  have hz : w.heap.size < w1.heap.size := by have := hb.size; simp at this; omega
  go_wp2
  exact bodyPost_ret (v := .tuple #[.agg #[.int .i64 k, .string T, .int .i64 m, .int .i64 p], .int .i64 0]) (by simp [results, Try.results35, go_sem, hc]) rfl ⟨rfl, (((((Below.refl _ _).alloc (Nat.le_refl _) _).trans (hb.mono (by simp))).setCell (by simp) _).setCell (by simp) _).setCell (by simp) _ |>.setCell (by simp) _⟩

set_option maxHeartbeats 2000000 in
theorem wordAt_sgn_err (s : ByteArray) (p : Nat) (w : World) (hs : s.size ≤ maxLen) (hp : p < s.size) (hl : letB (s[p].toNat : Int) = false) (hd : digB (s[p].toNat : Int) = false) (hx : sgnLen (s.data.toList.drop p) = 0) :
    Calls Try.prog 35 #[.string s, .int .i64 p] w fun e w' => e = .returned (.tuple #[.agg #[.int .i64 0, .string ⟨#[]⟩, .int .i64 0, .int .i64 0], .int .i64 2]) ∧ Below w.heap.size w w' := by
  have Hx := Lib.hid hx
  clear hx
  have hs1 := hs
  clear hs
  unfold maxLen at hs1
  go_enter Try.func35, Try.ntmps35
  go_wp2_with (first | (go_at_call 61; refine (let_any _ _).mono ?_; rintro e w' ⟨rfl, rfl⟩) | (go_at_call 63; refine (dig_any _ _).mono ?_; rintro e w' ⟨rfl, rfl⟩))
  refine (sgn_at s p _ hp Hx.out).mono ?_
  rintro e w1 ⟨rfl, rfl⟩
  go_wp2
  exact bodyPost_ret (v := .tuple #[.agg #[.int .i64 0, .string ⟨#[]⟩, .int .i64 0, .int .i64 0], .int .i64 2]) (by simp [results, Try.results35, go_sem]) rfl ⟨rfl, (Below.refl _ _).alloc (Nat.le_refl _) _⟩

set_option maxHeartbeats 2000000 in
theorem wordAt_sgn_ok (s : ByteArray) (p : Nat) (w : World) (hs : s.size ≤ maxLen) (hp : p < s.size) (hl : letB (s[p].toNat : Int) = false) (hd : digB (s[p].toNat : Int) = false) {n : Nat} (hn : 1 ≤ n) (hpn : p + n ≤ s.size) {T : ByteArray} (hT : s.extract p (p + n) = T) (hx : sgnLen (s.data.toList.drop p) = n) :
    Calls Try.prog 35 #[.string s, .int .i64 p] w fun e w' => e = .returned (.tuple #[.agg #[.int .i64 3, .string T, .int .i64 0, .int .i64 p], .int .i64 0]) ∧ Below w.heap.size w w' := by
  have Hx := Lib.hid hx
  clear hx
  have hnz : ((n : Int) == 0) = false := by rw [beq_eq_false_iff_ne]; omega
  unfold maxLen at hs
  go_enter Try.func35, Try.ntmps35
  go_wp2_with (first | (go_at_call 61; refine (let_any _ _).mono ?_; rintro e w' ⟨rfl, rfl⟩) | (go_at_call 63; refine (dig_any _ _).mono ?_; rintro e w' ⟨rfl, rfl⟩))
  refine (sgn_at s p _ hp Hx.out).mono ?_
  rintro e w1 ⟨rfl, rfl⟩
  go_wp2
  exact bodyPost_ret (v := .tuple #[.agg #[.int .i64 3, .string T, .int .i64 0, .int .i64 p], .int .i64 0]) (by simp [results, Try.results35, go_sem]) rfl ⟨rfl, (Below.refl _ _).alloc (Nat.le_refl _) _⟩

/-- wordAt where there is no word. -/
theorem wordAt_err (s : ByteArray) (p : Nat) (w : World) (hs : s.size ≤ maxLen) (hp : p < s.size) {x : Int} (h : wordE (s.data.toList.drop p) = .error x) :
    Calls Try.prog 35 #[.string s, .int .i64 p] w fun e w' => e = .returned (.tuple #[.agg #[.int .i64 0, .string ⟨#[]⟩, .int .i64 0, .int .i64 0], .int .i64 x]) ∧ Below w.heap.size w w' := by
  have hh : (s.data.toList.drop p).headD 0 = s[p] := by rw [head_drop, getD_eq s p hp]
  unfold wordE at h
  rw [hh] at h
  rcases Bool.eq_false_or_eq_true (letB (s[p].toNat : Int)) with hl | hl
  · rw [if_pos (show letU s[p] = true from hl)] at h
    exact wordAt_name_err s p w hs hp hl h
  · rw [if_neg (show ¬ letU s[p] = true by show ¬ letB _ = true; rw [hl]; decide)] at h
    rcases Bool.eq_false_or_eq_true (digB (s[p].toNat : Int)) with hd | hd
    · rw [if_pos (show digU s[p] = true from hd)] at h
      exact wordAt_num_err s p w hs hp hl hd h
    · rw [if_neg (show ¬ digU s[p] = true by show ¬ digB _ = true; rw [hd]; decide)] at h
      unfold sgnE at h
      by_cases hz : sgnLen (s.data.toList.drop p) = 0
      · rw [if_pos hz] at h
        injection h with h
        subst h
        exact wordAt_sgn_err s p w hs hp hl hd hz
      · rw [if_neg hz] at h; cases h
/-- wordAt where there is a word. -/
theorem wordAt_ok (s : ByteArray) (p : Nat) (w : World) (hs : s.size ≤ maxLen) (hp : p < s.size) {k m : Int} {n : Nat} {T : ByteArray} (hT : s.extract p (p + n) = T) (h : wordE (s.data.toList.drop p) = .ok (k, n, m)) :
    Calls Try.prog 35 #[.string s, .int .i64 p] w fun e w' => e = .returned (.tuple #[.agg #[.int .i64 k, .string T, .int .i64 m, .int .i64 p], .int .i64 0]) ∧ Below w.heap.size w w' := by
  have hh : (s.data.toList.drop p).headD 0 = s[p] := by rw [head_drop, getD_eq s p hp]
  have hlen : (s.data.toList.drop p).length = s.size - p := by simp
  have hok := wordE_ok (by rw [hlen]; omega) h
  rw [hlen] at hok
  unfold wordE at h
  rw [hh] at h
  rcases Bool.eq_false_or_eq_true (letB (s[p].toNat : Int)) with hl | hl
  · rw [if_pos (show letU s[p] = true from hl)] at h
    exact wordAt_name_ok s p w hs hp hl hT h
  · rw [if_neg (show ¬ letU s[p] = true by show ¬ letB _ = true; rw [hl]; decide)] at h
    rcases Bool.eq_false_or_eq_true (digB (s[p].toNat : Int)) with hd | hd
    · rw [if_pos (show digU s[p] = true from hd)] at h
      exact wordAt_num_ok s p w hs hp hl hd hT h
    · rw [if_neg (show ¬ digU s[p] = true by show ¬ digB _ = true; rw [hd]; decide)] at h
      unfold sgnE at h
      by_cases hz : sgnLen (s.data.toList.drop p) = 0
      · rw [if_pos hz] at h; cases h
      · rw [if_neg hz] at h
        injection h with h; injection h with h1 h; injection h with h2 h3
        subst h1; subst h3
        exact wordAt_sgn_ok s p w hs hp hl hd hok.1 (by omega) hT h2
end Go.Proofs.Ytbhbjhejkamlnaa
