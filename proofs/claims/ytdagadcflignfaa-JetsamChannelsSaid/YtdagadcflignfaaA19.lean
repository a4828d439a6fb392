/-
  lex.nameAt, lex.numberAt, lex.wordAt: the word that begins at a place of a text, or the error; for every text and place in it.; lex.wordAt: the word that begins at a place of a text, or the error; for every text and place in it.; lex.Lex: for every text that fits into memory it tells just the words, the place and the error that lexR says; nothing that was there is changed.; lex.Lex in the two forms that the walks of its callers use; a slice of one's own read cell by cell.; jetsamtop.stands: words are read, whatever the memory is.
-/
import Derived.Deep.DeepFit
import Derived.Test.YtdagadcflignfaaA18
import Derived.Laws.OwnMore
import Derived.Laws.StructEq
namespace Go.Proofs.Ytdagadcflignfaa
open Go.RowKit

/-- What is answered of a word: the word and no error, or no word and the error. -/
def wV (s : ByteArray) (p : Nat) : Except Int (Int × Nat × Int) → Value
  | .error e => .tuple #[.agg #[.int .i64 0, .string ⟨#[]⟩, .int .i64 0, .int .i64 0], .int .i64 e]
  | .ok (k, n, m) => .tuple #[.agg #[.int .i64 k, .string (s.extract p (p + n)), .int .i64 m, .int .i64 p], .int .i64 0]
theorem ret_wV {s : ByteArray} {p : Nat} {x y : Except Int (Int × Nat × Int)} (h : x = y) : Ending.returned (wV s p y) = .returned (wV s p x) := by rw [h]
theorem ret_wOk {s : ByteArray} {p n k : Nat} {kk m : Int} {x : Except Int (Int × Nat × Int)} (h : x = .ok (kk, n, m)) (hk : p + n = k) : Ending.returned (.tuple #[.agg #[.int .i64 kk, .string (s.extract p k), .int .i64 m, .int .i64 p], .int .i64 0]) = .returned (wV s p x) := by
  rw [h, ← hk]
  rfl

set_option maxHeartbeats 4000000 in
theorem nameAt_any (s : ByteArray) (p : Nat) (w : World) (hs : s.size ≤ maxLen) (hp : p < s.size) :
    Calls Try.prog 101 #[.string s, .int .i64 p] w fun e w' => e = .returned (wV s p (nameE (s.data.toList.drop p))) ∧ Below w.heap.size w w' := by
  unfold maxLen at hs
  go_enter Try.func101, Try.ntmps101
  go_wp2_with fail
  go_loop [6] (fun i => ∃ k : Nat, Run alnU s p k ∧ i = .int .i64 k) (fun i => s.size - (intOf i).toNat)
  case atStart => exact ⟨p, Run.start (by omega), rfl⟩
  case round =>
    obtain ⟨k, hk, rfl⟩ := hrel
    have hk1 := hk.1
    have hk2 := hk.2.1
    have hcase : (∃ h : k < s.size, letB (s[k].toNat : Int) = true) ∨ (∃ h : k < s.size, letB (s[k].toNat : Int) = false ∧ digB (s[k].toNat : Int) = true) ∨ (∃ h : k < s.size, letB (s[k].toNat : Int) = false ∧ digB (s[k].toNat : Int) = false) ∨ s.size ≤ k := by
      by_cases hlt : k < s.size
      · rcases Bool.eq_false_or_eq_true (letB (s[k].toNat : Int)) with hl | hl
        · exact .inl ⟨hlt, hl⟩
        · rcases Bool.eq_false_or_eq_true (digB (s[k].toNat : Int)) with hd | hd
          · exact .inr (.inl ⟨hlt, hl, hd⟩)
          · exact .inr (.inr (.inl ⟨hlt, hl, hd⟩))
      · exact .inr (.inr (.inr (by omega)))
    rcases hcase with ⟨hlt, hl⟩ | ⟨hlt, hl, hd⟩ | hcase
    · go_wp2_with (first | (go_at_call 100; refine (let_any _ _).mono ?_; rintro e w' ⟨rfl, rfl⟩) | (go_at_call 102; refine (dig_any _ _).mono ?_; rintro e w' ⟨rfl, rfl⟩))
      go_round
      case rel => exact ⟨k + 1, hk.step hlt (by simp [alnU, letU, hl]), by go_num⟩
      case measure => simp [intOf]; omega
    · go_wp2_with (first | (go_at_call 100; refine (let_any _ _).mono ?_; rintro e w' ⟨rfl, rfl⟩) | (go_at_call 102; refine (dig_any _ _).mono ?_; rintro e w' ⟨rfl, rfl⟩))
      go_round
      case rel => exact ⟨k + 1, hk.step hlt (by simp [alnU, digU, hd]), by go_num⟩
      case measure => simp [intOf]; omega
    · have hn : lenOf alnU (s.data.toList.drop p) = k - p := by
        rcases hcase with ⟨hlt, hl, hd⟩ | hge
        · exact hk.len (fun h => by rw [getD_eq s k h]; simp [alnU, letU, digU, hl, hd])
        · exact hk.len (fun h => absurd h (by omega))
      by_cases h12 : 12 < k - p
      · have Hfin := Lib.hid (show nameE (s.data.toList.drop p) = .error 3 by unfold nameE; rw [hn, if_pos h12])
        clear hn
        rcases hcase with ⟨hlt, hl, hd⟩ | hge
        all_goals
          go_wp2_with (first | (go_at_call 100; refine (let_any _ _).mono ?_; rintro e w' ⟨rfl, rfl⟩) | (go_at_call 102; refine (dig_any _ _).mono ?_; rintro e w' ⟨rfl, rfl⟩))
          exact bodyPost_ret (v := .tuple #[.agg #[.int .i64 0, .string ⟨#[]⟩, .int .i64 0, .int .i64 0], .int .i64 3]) (by simp [results, Try.results101, go_sem]) rfl ⟨ret_wV Hfin.out, (Below.refl _ _).alloc (Nat.le_refl _) _⟩
      · have ht : (s.extract p k).toList = (s.data.toList.drop p).take (k - p) := Lib.extract_toList s p k
        rcases Bool.eq_false_or_eq_true (resB (s.extract p k).toList) with hr | hr
        · have Hfin := Lib.hid (show nameE (s.data.toList.drop p) = .ok (4, k - p, 0) by unfold nameE; rw [hn, if_neg h12, ← ht, if_pos hr])
          clear hn ht
          rcases hcase with ⟨hlt, hl, hd⟩ | hge
          all_goals
            go_wp2_with (first | (go_at_call 100; refine (let_any _ _).mono ?_; rintro e w' ⟨rfl, rfl⟩) | (go_at_call 102; refine (dig_any _ _).mono ?_; rintro e w' ⟨rfl, rfl⟩) | (go_at_call 140; refine (res_any _ _).mono ?_; rintro e w' ⟨rfl, rfl⟩))
            exact bodyPost_ret (v := .tuple #[.agg #[.int .i64 4, .string (s.extract p k), .int .i64 0, .int .i64 p], .int .i64 0]) (by simp [results, Try.results101, go_sem]) rfl ⟨ret_wOk Hfin.out (by omega), ((Below.refl _ _).alloc (Nat.le_refl _) _).alloc (by simp) _⟩
        · have Hfin := Lib.hid (show nameE (s.data.toList.drop p) = .ok (1, k - p, 0) by unfold nameE; rw [hn, if_neg h12, ← ht, if_neg (by rw [hr]; decide)])
          clear hn ht
          rcases hcase with ⟨hlt, hl, hd⟩ | hge
          all_goals
            go_wp2_with (first | (go_at_call 100; refine (let_any _ _).mono ?_; rintro e w' ⟨rfl, rfl⟩) | (go_at_call 102; refine (dig_any _ _).mono ?_; rintro e w' ⟨rfl, rfl⟩) | (go_at_call 140; refine (res_any _ _).mono ?_; rintro e w' ⟨rfl, rfl⟩))
            exact bodyPost_ret (v := .tuple #[.agg #[.int .i64 1, .string (s.extract p k), .int .i64 0, .int .i64 p], .int .i64 0]) (by simp [results, Try.results101, go_sem]) rfl ⟨ret_wOk Hfin.out (by omega), ((Below.refl _ _).alloc (Nat.le_refl _) _).alloc (by simp) _⟩

set_option maxHeartbeats 4000000 in
theorem numAt_any (s : ByteArray) (p : Nat) (w : World) (hs : s.size ≤ maxLen) (hp : p < s.size) :
    Calls Try.prog 103 #[.string s, .int .i64 p] w fun e w' => e = .returned (wV s p (numE (s.data.toList.drop p))) ∧ Below w.heap.size w w' := by
  unfold maxLen at hs
  go_enter Try.func103, Try.ntmps103
  go_wp2_with fail
  go_loop [6, 7] (fun i m => ∃ k v : Nat, Run digU s p k ∧ vl s p k = v ∧ v ≤ 2147483647 ∧ i = .int .i64 k ∧ m = .int .i64 v) (fun i _ => s.size - (intOf i).toNat)
  case atStart => exact ⟨p, 0, Run.start (by omega), vl_start s p, by omega, rfl, rfl⟩
  case round =>
    obtain ⟨k, v, hk, hv, hv1, rfl, rfl⟩ := hrel
    have hk1 := hk.1
    have hk2 := hk.2.1
    have Hv := Lib.hid hv
    clear hv
    by_cases hin : ∃ h : k < s.size, digB (s[k].toNat : Int) = true
    · obtain ⟨hlt, hd⟩ := hin
      have hd1 : 48 ≤ (s[k].toNat : Int) ∧ (s[k].toNat : Int) ≤ 57 := by simpa [digB] using hd
      obtain ⟨hd1, hd2⟩ := hd1
      have hst := vl_step s p k hk1 hlt
      rw [Hv.out] at hst
      have hrun := hk.step hlt (show digU s[k] = true from hd)
      by_cases hbig : 2147483647 < 10 * (v : Int) + ((s[k].toNat : Int) - 48)
      · have hfin : numE (s.data.toList.drop p) = .error 3 := by
          have h1 := vl_mono s p (k + 1) (lenOf digU (s.data.toList.drop p)) hrun.le_len
          have h2 : 2147483647 < val ((s.data.toList.drop p).take (lenOf digU (s.data.toList.drop p))) := by omega
          unfold numE
          rw [if_pos (.inl h2)]
        have Hfin := Lib.hid hfin
        clear hfin hst
        go_wp2_with (go_at_call 102; refine (dig_any _ _).mono ?_; rintro e w' ⟨rfl, rfl⟩)
        exact bodyPost_ret (v := .tuple #[.agg #[.int .i64 0, .string ⟨#[]⟩, .int .i64 0, .int .i64 0], .int .i64 3]) (by simp [results, Try.results103, go_sem]) rfl ⟨ret_wV Hfin.out, (Below.refl _ _).alloc (Nat.le_refl _) _⟩
      · have Hst := Lib.hid hst
        clear hst
        go_wp2_with (go_at_call 102; refine (dig_any _ _).mono ?_; rintro e w' ⟨rfl, rfl⟩)
        go_round
        case rel => exact ⟨k + 1, 10 * v + (s[k].toNat - 48), hrun, Hst.out, by omega, by go_num, by go_num⟩
        case measure => simp [intOf]; omega
    · have hcase : (∃ h : k < s.size, digB (s[k].toNat : Int) = false ∧ letB (s[k].toNat : Int) = true) ∨ (∃ h : k < s.size, digB (s[k].toNat : Int) = false ∧ letB (s[k].toNat : Int) = false) ∨ s.size ≤ k := by
        by_cases hlt : k < s.size
        · rcases Bool.eq_false_or_eq_true (digB (s[k].toNat : Int)) with hd | hd
          · exact absurd ⟨hlt, hd⟩ hin
          · rcases Bool.eq_false_or_eq_true (letB (s[k].toNat : Int)) with hl | hl
            · exact .inl ⟨hlt, hd, hl⟩
            · exact .inr (.inl ⟨hlt, hd, hl⟩)
        · exact .inr (.inr (by omega))
      clear hin
      have hn : lenOf digU (s.data.toList.drop p) = k - p := by
        rcases hcase with ⟨hlt, hd, _⟩ | ⟨hlt, hd, _⟩ | hge
        · exact hk.len (fun h => by rw [getD_eq s k h]; exact hd)
        · exact hk.len (fun h => by rw [getD_eq s k h]; exact hd)
        · exact hk.len (fun h => absurd h (by omega))
      have hval : val ((s.data.toList.drop p).take (k - p)) = v := Hv.out
      have hhd : (s.data.toList.drop p).headD 0 = s[p] := by rw [head_drop, getD_eq s p hp]
      have h48 : ∀ b : UInt8, b = 48 ↔ ((b.toNat : Int) == 48) = true := fun b => by
        rw [beq_iff_eq]
        constructor
        · rintro rfl; rfl
        · intro h; exact UInt8.toNat_inj.1 (by show b.toNat = 48; omega)
      by_cases hz : ((s[p].toNat : Int) == 48) = true ∧ 1 < k - p
      · obtain ⟨hz1, hz2⟩ := hz
        have Hfin := Lib.hid (show numE (s.data.toList.drop p) = .error 3 by
          unfold numE
          rw [hn, if_pos (.inr (.inl ⟨hz2, by rw [hhd]; exact (h48 _).2 hz1⟩))])
        clear hn hval hhd h48
        rcases hcase with ⟨hlt, hd, _⟩ | ⟨hlt, hd, _⟩ | hge
        all_goals
          go_wp2_with (first | (go_at_call 100; refine (let_any _ _).mono ?_; rintro e w' ⟨rfl, rfl⟩) | (go_at_call 102; refine (dig_any _ _).mono ?_; rintro e w' ⟨rfl, rfl⟩))
          exact bodyPost_ret (v := .tuple #[.agg #[.int .i64 0, .string ⟨#[]⟩, .int .i64 0, .int .i64 0], .int .i64 3]) (by simp [results, Try.results103, go_sem]) rfl ⟨ret_wV Hfin.out, (Below.refl _ _).alloc (Nat.le_refl _) _⟩
      · have hz' : ((s[p].toNat : Int) == 48) = false ∨ (((s[p].toNat : Int) == 48) = true ∧ k - p ≤ 1) := by
          rcases Bool.eq_false_or_eq_true ((s[p].toNat : Int) == 48) with h | h
          · exact .inr ⟨h, by have : ¬ 1 < k - p := fun hx => hz ⟨h, hx⟩; omega⟩
          · exact .inl h
        have hnz : ¬ (1 < k - p ∧ (s.data.toList.drop p).headD 0 = 48) := fun hx => hz ⟨(h48 _).1 (by rw [← hhd]; exact hx.2), hx.1⟩
        have hgk : (s.data.toList.drop p).getD (k - p) 0 = s.data.toList.getD k 0 := by rw [getD_drop, show p + (k - p) = k from by omega]
        clear hz h48 hhd
        rcases hcase with ⟨hlt, hd, hl⟩ | hcase
        · have Hfin := Lib.hid (show numE (s.data.toList.drop p) = .error 3 by
            unfold numE
            rw [hn, if_pos (.inr (.inr (by rw [hgk, getD_eq s k hlt]; exact hl)))])
          clear hn hval hnz hgk
          rcases hz' with hz1 | ⟨hz1, hz2⟩
          all_goals
            go_wp2_with (first | (go_at_call 100; refine (let_any _ _).mono ?_; rintro e w' ⟨rfl, rfl⟩) | (go_at_call 102; refine (dig_any _ _).mono ?_; rintro e w' ⟨rfl, rfl⟩))
            exact bodyPost_ret (v := .tuple #[.agg #[.int .i64 0, .string ⟨#[]⟩, .int .i64 0, .int .i64 0], .int .i64 3]) (by simp [results, Try.results103, go_sem]) rfl ⟨ret_wV Hfin.out, (Below.refl _ _).alloc (Nat.le_refl _) _⟩
        · have hnl : ¬ letU ((s.data.toList.drop p).getD (k - p) 0) = true := by
            rw [hgk]
            rcases hcase with ⟨hlt, hd, hl⟩ | hge
            · rw [getD_eq s k hlt]; show ¬ letB _ = true; rw [hl]; decide
            · rw [List.getD_eq_getElem?_getD, List.getElem?_eq_none (by simpa using hge)]; decide
          have Hfin := Lib.hid (show numE (s.data.toList.drop p) = .ok (2, k - p, (v : Int)) by
            unfold numE
            rw [hn, hval, if_neg (fun h => h.elim (fun h => by omega) (fun h => h.elim hnz hnl))])
          clear hn hval hnz hgk hnl
          rcases hcase with ⟨hlt, hd, hl⟩ | hge
          all_goals
            rcases hz' with hz1 | ⟨hz1, hz2⟩
            all_goals
              go_wp2_with (first | (go_at_call 100; refine (let_any _ _).mono ?_; rintro e w' ⟨rfl, rfl⟩) | (go_at_call 102; refine (dig_any _ _).mono ?_; rintro e w' ⟨rfl, rfl⟩))
              exact bodyPost_ret (v := .tuple #[.agg #[.int .i64 2, .string (s.extract p k), .int .i64 v, .int .i64 p], .int .i64 0]) (by simp [results, Try.results103, go_sem]) rfl ⟨ret_wOk Hfin.out (by omega), (Below.refl _ _).alloc (Nat.le_refl _) _⟩
end Go.Proofs.Ytdagadcflignfaa
namespace Go.Proofs.Ytdagadcflignfaa
open Go.RowKit

theorem nameAt_err (s : ByteArray) (p : Nat) (w : World) (hs : s.size ≤ maxLen) (hp : p < s.size) {x : Int} (h : nameE (s.data.toList.drop p) = .error x) :
    Calls Try.prog 101 #[.string s, .int .i64 p] w fun e w' => e = .returned (.tuple #[.agg #[.int .i64 0, .string ⟨#[]⟩, .int .i64 0, .int .i64 0], .int .i64 x]) ∧ Below w.heap.size w w' :=
  (nameAt_any s p w hs hp).mono fun e w' ⟨he, hb⟩ => ⟨by rw [he, h]; rfl, hb⟩
theorem nameAt_ok (s : ByteArray) (p : Nat) (w : World) (hs : s.size ≤ maxLen) (hp : p < s.size) {k m : Int} {n : Nat} {T : ByteArray} (hT : s.extract p (p + n) = T) (h : nameE (s.data.toList.drop p) = .ok (k, n, m)) :
    Calls Try.prog 101 #[.string s, .int .i64 p] w fun e w' => e = .returned (.tuple #[.agg #[.int .i64 k, .string T, .int .i64 m, .int .i64 p], .int .i64 0]) ∧ Below w.heap.size w w' :=
  (nameAt_any s p w hs hp).mono fun e w' ⟨he, hb⟩ => ⟨by rw [he, h, ← hT]; rfl, hb⟩
theorem numAt_err (s : ByteArray) (p : Nat) (w : World) (hs : s.size ≤ maxLen) (hp : p < s.size) {x : Int} (h : numE (s.data.toList.drop p) = .error x) :
    Calls Try.prog 103 #[.string s, .int .i64 p] w fun e w' => e = .returned (.tuple #[.agg #[.int .i64 0, .string ⟨#[]⟩, .int .i64 0, .int .i64 0], .int .i64 x]) ∧ Below w.heap.size w w' :=
  (numAt_any s p w hs hp).mono fun e w' ⟨he, hb⟩ => ⟨by rw [he, h]; rfl, hb⟩
theorem numAt_ok (s : ByteArray) (p : Nat) (w : World) (hs : s.size ≤ maxLen) (hp : p < s.size) {k m : Int} {n : Nat} {T : ByteArray} (hT : s.extract p (p + n) = T) (h : numE (s.data.toList.drop p) = .ok (k, n, m)) :
    Calls Try.prog 103 #[.string s, .int .i64 p] w fun e w' => e = .returned (.tuple #[.agg #[.int .i64 k, .string T, .int .i64 m, .int .i64 p], .int .i64 0]) ∧ Below w.heap.size w w' :=
  (numAt_any s p w hs hp).mono fun e w' ⟨he, hb⟩ => ⟨by rw [he, h, ← hT]; rfl, hb⟩
theorem data_from (s : ByteArray) (p : Nat) : (s.extract p s.size).data.toList = s.data.toList.drop p := by
  rw [Lib.extract_data, List.take_of_length_le]
  simp
theorem sgn_at (s : ByteArray) (p : Nat) (w : World) (hp : p < s.size) {n : Nat} (hn : sgnLen (s.data.toList.drop p) = n) :
    Calls Try.prog 104 #[.string (s.extract p s.size)] w fun e w' => e = .returned (.int .i64 n) ∧ w = w' := by
  have h0 : 0 < (s.extract p s.size).size := by simp; omega
  refine (sgn_any (s.extract p s.size) w h0).mono fun e w' ⟨he, hb⟩ => ⟨he.trans (ret_i64 ?_), hb⟩
  rw [← hn, ← data_from]
  unfold sgnLen
  congr 2
  rw [List.headD_eq_head?_getD, List.head?_eq_getElem?, List.getElem?_eq_getElem (by simpa using h0)]
  rfl
theorem bcell {W w1 : World} (hb : Below W.heap.size W w1) : (∀ b o, b < W.heap.size → w1.cell? ⟨b, o, none⟩ = W.cell? ⟨b, o, none⟩) ∧ (∀ b o, b < W.heap.size → w1.frozen? ⟨b, o, none⟩ = W.frozen? ⟨b, o, none⟩) :=
  ⟨fun b o h => hb.cell (p := ⟨b, o, none⟩) h, fun b o h => hb.frozen (p := ⟨b, o, none⟩) h⟩

set_option maxHeartbeats 2000000 in
theorem wordAt_name_err (s : ByteArray) (p : Nat) (w : World) (hs : s.size ≤ maxLen) (hp : p < s.size) (hl : letB (s[p].toNat : Int) = true) {x : Int} (hx : nameE (s.data.toList.drop p) = .error x) :
    Calls Try.prog 79 #[.string s, .int .i64 p] w fun e w' => e = .returned (.tuple #[.agg #[.int .i64 0, .string ⟨#[]⟩, .int .i64 0, .int .i64 0], .int .i64 x]) ∧ Below w.heap.size w w' := by
  have Hx := Lib.hid hx
  clear hx
  have hs' := hs
  unfold maxLen at hs
  go_enter Try.func79, Try.ntmps79
  go_wp2_with (first | (go_at_call 100; refine (let_any _ _).mono ?_; rintro e w' ⟨rfl, rfl⟩) | (go_at_call 102; refine (dig_any _ _).mono ?_; rintro e w' ⟨rfl, rfl⟩))
  refine (nameAt_err s p _ hs' hp Hx.out).mono ?_
  rintro e w1 ⟨rfl, hb⟩
  obtain ⟨hc, hf⟩ := bcell hb
  have hz : w.heap.size < w1.heap.size := by have := hb.size; simp at this; omega
  go_wp2
  exact bodyPost_ret (v := .tuple #[.agg #[.int .i64 0, .string ⟨#[]⟩, .int .i64 0, .int .i64 0], .int .i64 x]) (by simp [results, Try.results79, go_sem, hc]) rfl ⟨rfl, (((((Below.refl _ _).alloc (Nat.le_refl _) _).trans (hb.mono (by simp))).setCell (by simp) _).setCell (by simp) _).setCell (by simp) _ |>.setCell (by simp) _⟩

set_option maxHeartbeats 2000000 in
theorem wordAt_name_ok (s : ByteArray) (p : Nat) (w : World) (hs : s.size ≤ maxLen) (hp : p < s.size) (hl : letB (s[p].toNat : Int) = true) {k m : Int} {n : Nat} {T : ByteArray} (hT : s.extract p (p + n) = T) (hx : nameE (s.data.toList.drop p) = .ok (k, n, m)) :
    Calls Try.prog 79 #[.string s, .int .i64 p] w fun e w' => e = .returned (.tuple #[.agg #[.int .i64 k, .string T, .int .i64 m, .int .i64 p], .int .i64 0]) ∧ Below w.heap.size w w' := by
  have Hx := Lib.hid hx
  clear hx
  have HT := Lib.hid hT
  clear hT
  have hs' := hs
  unfold maxLen at hs
  go_enter Try.func79, Try.ntmps79
  go_wp2_with (first | (go_at_call 100; refine (let_any _ _).mono ?_; rintro e w' ⟨rfl, rfl⟩) | (go_at_call 102; refine (dig_any _ _).mono ?_; rintro e w' ⟨rfl, rfl⟩))
  refine (nameAt_ok s p _ hs' hp HT.out Hx.out).mono ?_
  rintro e w1 ⟨rfl, hb⟩
  obtain ⟨hc, hf⟩ := bcell hb
  have hz : w.heap.size < w1.heap.size := by have := hb.size; simp at this; omega
  go_wp2
  exact bodyPost_ret (v := .tuple #[.agg #[.int .i64 k, .string T, .int .i64 m, .int .i64 p], .int .i64 0]) (by simp [results, Try.results79, go_sem, hc]) rfl ⟨rfl, (((((Below.refl _ _).alloc (Nat.le_refl _) _).trans (hb.mono (by simp))).setCell (by simp) _).setCell (by simp) _).setCell (by simp) _ |>.setCell (by simp) _⟩

set_option maxHeartbeats 2000000 in
theorem wordAt_num_err (s : ByteArray) (p : Nat) (w : World) (hs : s.size ≤ maxLen) (hp : p < s.size) (hl : letB (s[p].toNat : Int) = false) (hd : digB (s[p].toNat : Int) = true) {x : Int} (hx : numE (s.data.toList.drop p) = .error x) :
    Calls Try.prog 79 #[.string s, .int .i64 p] w fun e w' => e = .returned (.tuple #[.agg #[.int .i64 0, .string ⟨#[]⟩, .int .i64 0, .int .i64 0], .int .i64 x]) ∧ Below w.heap.size w w' := by
  have Hx := Lib.hid hx
  clear hx
  have hs' := hs
  unfold maxLen at hs
  go_enter Try.func79, Try.ntmps79
  go_wp2_with (first | (go_at_call 100; refine (let_any _ _).mono ?_; rintro e w' ⟨rfl, rfl⟩) | (go_at_call 102; refine (dig_any _ _).mono ?_; rintro e w' ⟨rfl, rfl⟩))
  refine (numAt_err s p _ hs' hp Hx.out).mono ?_
  rintro e w1 ⟨rfl, hb⟩
  obtain ⟨hc, hf⟩ := bcell hb
  have hz : w.heap.size < w1.heap.size := by have := hb.size; simp at this; omega
  go_wp2
  exact bodyPost_ret (v := .tuple #[.agg #[.int .i64 0, .string ⟨#[]⟩, .int .i64 0, .int .i64 0], .int .i64 x]) (by simp [results, Try.results79, go_sem, hc]) rfl ⟨rfl, (((((Below.refl _ _).alloc (Nat.le_refl _) _).trans (hb.mono (by simp))).setCell (by simp) _).setCell (by simp) _).setCell (by simp) _ |>.setCell (by simp) _⟩

set_option maxHeartbeats 2000000 in
theorem wordAt_num_ok (s : ByteArray) (p : Nat) (w : World) (hs : s.size ≤ maxLen) (hp : p < s.size) (hl : letB (s[p].toNat : Int) = false) (hd : digB (s[p].toNat : Int) = true) {k m : Int} {n : Nat} {T : ByteArray} (hT : s.extract p (p + n) = T) (hx : numE (s.data.toList.drop p) = .ok (k, n, m)) :
    Calls Try.prog 79 #[.string s, .int .i64 p] w fun e w' => e = .returned (.tuple #[.agg #[.int .i64 k, .string T, .int .i64 m, .int .i64 p], .int .i64 0]) ∧ Below w.heap.size w w' := by
  have Hx := Lib.hid hx
  clear hx
  have HT := Lib.hid hT
  clear hT
  have hs' := hs
  unfold maxLen at hs
  go_enter Try.func79, Try.ntmps79
  go_wp2_with (first | (go_at_call 100; refine (let_any _ _).mono ?_; rintro e w' ⟨rfl, rfl⟩) | (go_at_call 102; refine (dig_any _ _).mono ?_; rintro e w' ⟨rfl, rfl⟩))
  refine (numAt_ok s p _ hs' hp HT.out Hx.out).mono ?_
  rintro e w1 ⟨rfl, hb⟩
  obtain ⟨hc, hf⟩ := bcell hb
  have hz : w.heap.size < w1.heap.size := by have := hb.size; simp at this; omega
  go_wp2
  exact bodyPost_ret (v := .tuple #[.agg #[.int .i64 k, .string T, .int .i64 m, .int .i64 p], .int .i64 0]) (by simp [results, Try.results79, go_sem, hc]) rfl ⟨rfl, (((((Below.refl _ _).alloc (Nat.le_refl _) _).trans (hb.mono (by simp))).setCell (by simp) _).setCell (by simp) _).setCell (by simp) _ |>.setCell (by simp) _⟩

set_option maxHeartbeats 2000000 in
theorem wordAt_sgn_err (s : ByteArray) (p : Nat) (w : World) (hs : s.size ≤ maxLen) (hp : p < s.size) (hl : letB (s[p].toNat : Int) = false) (hd : digB (s[p].toNat : Int) = false) (hx : sgnLen (s.data.toList.drop p) = 0) :
    Calls Try.prog 79 #[.string s, .int .i64 p] w fun e w' => e = .returned (.tuple #[.agg #[.int .i64 0, .string ⟨#[]⟩, .int .i64 0, .int .i64 0], .int .i64 2]) ∧ Below w.heap.size w w' := by
  have Hx := Lib.hid hx
  clear hx
  have hs1 := hs
  clear hs
  unfold maxLen at hs1
  go_enter Try.func79, Try.ntmps79
  go_wp2_with (first | (go_at_call 100; refine (let_any _ _).mono ?_; rintro e w' ⟨rfl, rfl⟩) | (go_at_call 102; refine (dig_any _ _).mono ?_; rintro e w' ⟨rfl, rfl⟩))
  refine (sgn_at s p _ hp Hx.out).mono ?_
  rintro e w1 ⟨rfl, rfl⟩
  go_wp2
  exact bodyPost_ret (v := .tuple #[.agg #[.int .i64 0, .string ⟨#[]⟩, .int .i64 0, .int .i64 0], .int .i64 2]) (by simp [results, Try.results79, go_sem]) rfl ⟨rfl, (Below.refl _ _).alloc (Nat.le_refl _) _⟩

set_option maxHeartbeats 2000000 in
theorem wordAt_sgn_ok (s : ByteArray) (p : Nat) (w : World) (hs : s.size ≤ maxLen) (hp : p < s.size) (hl : letB (s[p].toNat : Int) = false) (hd : digB (s[p].toNat : Int) = false) {n : Nat} (hn : 1 ≤ n) (hpn : p + n ≤ s.size) {T : ByteArray} (hT : s.extract p (p + n) = T) (hx : sgnLen (s.data.toList.drop p) = n) :
    Calls Try.prog 79 #[.string s, .int .i64 p] w fun e w' => e = .returned (.tuple #[.agg #[.int .i64 3, .string T, .int .i64 0, .int .i64 p], .int .i64 0]) ∧ Below w.heap.size w w' := by
  have Hx := Lib.hid hx
  clear hx
  have hnz : ((n : Int) == 0) = false := by rw [beq_eq_false_iff_ne]; omega
  unfold maxLen at hs
  go_enter Try.func79, Try.ntmps79
  go_wp2_with (first | (go_at_call 100; refine (let_any _ _).mono ?_; rintro e w' ⟨rfl, rfl⟩) | (go_at_call 102; refine (dig_any _ _).mono ?_; rintro e w' ⟨rfl, rfl⟩))
  refine (sgn_at s p _ hp Hx.out).mono ?_
  rintro e w1 ⟨rfl, rfl⟩
  go_wp2
  exact bodyPost_ret (v := .tuple #[.agg #[.int .i64 3, .string T, .int .i64 0, .int .i64 p], .int .i64 0]) (by simp [results, Try.results79, go_sem]) rfl ⟨rfl, (Below.refl _ _).alloc (Nat.le_refl _) _⟩

/-- wordAt where there is no word. -/
theorem wordAt_err (s : ByteArray) (p : Nat) (w : World) (hs : s.size ≤ maxLen) (hp : p < s.size) {x : Int} (h : wordE (s.data.toList.drop p) = .error x) :
    Calls Try.prog 79 #[.string s, .int .i64 p] w fun e w' => e = .returned (.tuple #[.agg #[.int .i64 0, .string ⟨#[]⟩, .int .i64 0, .int .i64 0], .int .i64 x]) ∧ Below w.heap.size w w' := by
  have hh : (s.data.toList.drop p).headD 0 = s[p] := by rw [head_drop, getD_eq s p hp]
  unfold wordE at h
  rw [hh] at h
  rcases Bool.eq_false_or_eq_true (letB (s[p].toNat : Int)) with hl | hl
  · rw [if_pos (show letU s[p] = true from hl)] at h
    exact wordAt_name_err s p w hs hp hl h
  · rw [if_neg (show ¬ letU s[p] = true by show ¬ letB _ = true; rw [hl]; decide)] at h
    rcases Bool.eq_false_or_eq_true (digB (s[p].toNat : Int)) with hd | hd
    · rw [if_pos (show digU s[p] = true from hd)] at h
      exact wordAt_num_err s p w hs hp hl hd h
    · rw [if_neg (show ¬ digU s[p] = true by show ¬ digB _ = true; rw [hd]; decide)] at h
      unfold sgnE at h
      by_cases hz : sgnLen (s.data.toList.drop p) = 0
      · rw [if_pos hz] at h
        injection h with h
        subst h
        exact wordAt_sgn_err s p w hs hp hl hd hz
      · rw [if_neg hz] at h; cases h
/-- wordAt where there is a word. -/
theorem wordAt_ok (s : ByteArray) (p : Nat) (w : World) (hs : s.size ≤ maxLen) (hp : p < s.size) {k m : Int} {n : Nat} {T : ByteArray} (hT : s.extract p (p + n) = T) (h : wordE (s.data.toList.drop p) = .ok (k, n, m)) :
    Calls Try.prog 79 #[.string s, .int .i64 p] w fun e w' => e = .returned (.tuple #[.agg #[.int .i64 k, .string T, .int .i64 m, .int .i64 p], .int .i64 0]) ∧ Below w.heap.size w w' := by
  have hh : (s.data.toList.drop p).headD 0 = s[p] := by rw [head_drop, getD_eq s p hp]
  have hlen : (s.data.toList.drop p).length = s.size - p := by simp
  have hok := wordE_ok (by rw [hlen]; omega) h
  rw [hlen] at hok
  unfold wordE at h
  rw [hh] at h
  rcases Bool.eq_false_or_eq_true (letB (s[p].toNat : Int)) with hl | hl
  · rw [if_pos (show letU s[p] = true from hl)] at h
    exact wordAt_name_ok s p w hs hp hl hT h
  · rw [if_neg (show ¬ letU s[p] = true by show ¬ letB _ = true; rw [hl]; decide)] at h
    rcases Bool.eq_false_or_eq_true (digB (s[p].toNat : Int)) with hd | hd
    · rw [if_pos (show digU s[p] = true from hd)] at h
      exact wordAt_num_ok s p w hs hp hl hd hT h
    · rw [if_neg (show ¬ digU s[p] = true by show ¬ digB _ = true; rw [hd]; decide)] at h
      unfold sgnE at h
      by_cases hz : sgnLen (s.data.toList.drop p) = 0
      · rw [if_pos hz] at h; cases h
      · rw [if_neg hz] at h
        injection h with h; injection h with h1 h; injection h with h2 h3
        subst h1; subst h3
        exact wordAt_sgn_ok s p w hs hp hl hd hok.1 (by omega) hT h2
end Go.Proofs.Ytdagadcflignfaa
namespace Go.Proofs.Ytdagadcflignfaa
open Go.RowKit

/-- Words as cells of memory. -/
def tcells (ts : List Tok) : List Value := ts.flatMap fun t => [.int .i64 t.kind, .string t.text, .int .i64 t.num, .int .i64 t.pos]
theorem tcells_len (ts : List Tok) : (tcells ts).length = ts.length * 4 := by
  induction ts with
  | nil => rfl
  | cons a t ih => simp [tcells] at ih ⊢; omega
theorem tcells_snoc (ts : List Tok) (t : Tok) : tcells (ts ++ [t]) = tcells ts ++ [.int .i64 t.kind, .string t.text, .int .i64 t.num, .int .i64 t.pos] := by simp [tcells]

theorem own_below {B base : Nat} {e : TypeId} {size n : Nat} {v : Value} {xs : List Value} {w w' : World} (h : w.ownsRow base e size v n xs) (hb : Below B w w') (hB : ∀ g, v.ownBlock = some g → g < B) : w'.ownsRow base e size v n xs := by
  refine ⟨h.1, ?_⟩
  rcases h.2 with h0 | ⟨g, cap, cur, rfl, hg, hh, h1⟩
  · exact .inl h0
  · exact .inr ⟨g, cap, cur, rfl, hg, (hb.block g (hB g rfl)).trans hh, h1⟩
theorem own_later {base : Nat} {e : TypeId} {size n : Nat} {v : Value} {xs : List Value} {w w' : World} (h : w.ownsRow base e size v n xs) (hb : Below w.heap.size w w') : w'.ownsRow base e size v n xs :=
  own_below h hb fun g hg => (h.lt g hg).2

theorem below_new {B : Nat} {a w : World} (h : Below B a w) (hB : B ≤ a.heap.size) (o : Obj) : Below B a (w.alloc o) := h.alloc (Nat.le_trans hB h.size) o

theorem own_form {base : Nat} {e : TypeId} {size n : Nat} {v : Value} {xs : List Value} {w : World} (h : w.ownsRow base e size v n xs) (hn : 0 < n) : ∃ g cap, v = .slice (some ⟨g, 0, none⟩) n cap := by
  rcases h.2 with ⟨_, h0⟩ | ⟨g, cap, _, hv, _⟩
  · omega
  · exact ⟨g, cap, hv⟩
theorem cells_new (w : World) (t : TypeId) (l : List Value) : ∀ j u, l[j]? = some u → (w.alloc (.cells l.toArray t)).cell? ((⟨w.heap.size, 0, none⟩ : Addr).add j) = some u := by
  intro j u hu
  have h := cell_of_row (w.alloc (.cells l.toArray t)) w.heap.size j l.toArray t (0, 0) (heap_alloc_new w _)
  rw [show (⟨w.heap.size, 0, none⟩ : Addr).add j = ⟨w.heap.size, j, none⟩ from by unfold Addr.add; split <;> simp_all, h]
  simpa using hu
theorem tk_few {acc : List Tok} {t : Tok} (h : (acc.take 2001).length ≤ 2000) : acc.take 2001 = acc ∧ (acc ++ [t]).take 2001 = acc ++ [t] := by
  rw [List.length_take] at h
  exact ⟨List.take_of_length_le (by omega), List.take_of_length_le (by rw [List.length_append]; simp; omega)⟩
theorem tk_many {acc : List Tok} {t : Tok} (h : ¬ (acc.take 2001).length ≤ 2000) : (acc ++ [t]).take 2001 = acc.take 2001 := by
  rw [List.length_take] at h
  exact List.take_append_of_le_length (by omega)

def LexPost (s : ByteArray) (w : World) (e : Ending) (w' : World) : Prop :=
  ∃ A c, e = .returned (.tuple #[.slice A (lexR s).1.length c, .int .i64 ((lexR s).2.1 : Nat), .int .i64 (lexR s).2.2]) ∧
    w'.ownsRow w.heap.size 150 4 (.slice A (lexR s).1.length c) (lexR s).1.length (tcells (lexR s).1) ∧ Below w.heap.size w w'

theorem info_tok : (Try.prog.info? 150).map (fun i => (i.zero, i.size, i.bytes)) = some (some (.agg #[.int .i64 0, .string ⟨#[]⟩, .int .i64 0, .int .i64 0]), 4, 40) := by kernel_rfl

theorem lexR_err {s : ByteArray} {R : Except (Nat × Int) (List Tok)} (h : lexGo s s.size 0 [] = R) {p : Nat} {x : Int} (hR : R = .error (p, x)) : lexR s = ([], p, x) := by unfold lexR; rw [h, hR]
theorem lexR_long {s : ByteArray} {R : Except (Nat × Int) (List Tok)} (h : lexGo s s.size 0 [] = R) {acc : List Tok} (hR : R = .ok acc) (hl : 2000 < acc.length) : lexR s = ([], s.size, 4) := by unfold lexR; rw [h, hR]; simp [hl]
theorem lexR_ok {s : ByteArray} {R : Except (Nat × Int) (List Tok)} (h : lexGo s s.size 0 [] = R) {acc : List Tok} (hR : R = .ok acc) (hl : acc.length ≤ 2000) : lexR s = (acc, 0, 0) := by unfold lexR; rw [h, hR]; simp; omega

theorem LexPost.bad {s : ByteArray} {w w' : World} {p : Nat} {x : Int} (h : lexR s = ([], p, x)) (hb : Below w.heap.size w w') : LexPost s w (.returned (.tuple #[.slice none 0 0, .int .i64 p, .int .i64 x])) w' := by
  unfold LexPost
  rw [h]
  exact ⟨none, 0, rfl, World.ownsRow_nil _ _ _ _, hb⟩
theorem LexPost.good {s : ByteArray} {w w' : World} {A : Option Addr} {n c : Nat} {acc : List Tok} (h : lexR s = (acc, 0, 0)) (hn : n = acc.length) (ho : w'.ownsRow w.heap.size 150 4 (.slice A n c) n (tcells acc)) (hb : Below w.heap.size w w') :
    LexPost s w (.returned (.tuple #[.slice A n c, .int .i64 0, .int .i64 0])) w' := by
  unfold LexPost
  rw [h]
  subst hn
  exact ⟨A, c, rfl, ho, hb⟩

set_option maxRecDepth 100000 in
set_option maxHeartbeats 4000000 in
theorem lex_any (s : ByteArray) (w : World) (hs : s.size ≤ 140737488351232) :
    Calls Try.prog 60 #[.string s] w fun e w' => LexPost s w e w' := by
  have hs' : s.size ≤ maxLen := by unfold maxLen; omega
  obtain ⟨i0, hi, hz0, hz1, hz2⟩ := info_parts info_tok
  obtain ⟨R, hR⟩ : ∃ R, lexGo s s.size 0 [] = R := ⟨_, rfl⟩
  have HR := Lib.hid hR
  go_enter Try.func60, Try.ntmps60
  go_wp2_with fail
  go_loopw [5, 6] (fun v i wr => ∃ (p f : Nat) (acc : List Tok) (A : Option Addr) (n c : Nat), p ≤ s.size ∧ s.size ≤ p + f ∧ lexGo s f p acc = R ∧ n = (acc.take 2001).length ∧ i = .int .i64 p ∧ v = .slice A n c ∧
      wr.ownsRow w.heap.size 150 4 (.slice A n c) n (tcells (acc.take 2001)) ∧ Below w.heap.size w wr)
    (fun _ i _ => s.size - (intOf i).toNat)
  case atStart => exact ⟨0, s.size, [], none, 0, 0, by omega, by omega, hR, rfl, rfl, rfl, World.ownsRow_nil _ _ _ _, Below.refl _ _⟩
  case round =>
    obtain ⟨p, f, acc, A, n, c, hp, hf, hgo, hn, rfl, rfl, hown, hbw⟩ := hrel
    clear hR
    have Hn := Lib.hid hn
    have hn1 : n ≤ 2001 := by rw [hn, List.length_take]; omega
    clear hn
    have Hgo := Lib.hid hgo
    clear hgo
    by_cases hlt : p < s.size
    · have hgd := getD_eq s p hlt
      rcases Bool.eq_false_or_eq_true (gapB (s[p].toNat : Int)) with hg | hg
      · have Hst := Lib.hid (go_gap hlt (by rw [hgd]; exact hg) hf Hgo.out)
        clear hgd
        go_wp2_with (first | (go_at_call 78; refine (gap_any _ _).mono ?_; rintro e w' ⟨rfl, rfl⟩) | fail)
        go_roundw
        case rel =>
          obtain ⟨f', hf', hgo'⟩ := Hst.out
          exact ⟨p + 1, f', acc, A, n, c, by omega, hf', hgo', Hn.out, by go_num, rfl, hown, hbw⟩
        case measure => simp [intOf]; omega
      · have hgU : gapU (s.data.toList.getD p 0) = false := by rw [hgd]; exact hg
        rcases hE : wordE (s.data.toList.drop p) with x | ⟨k, m, num⟩
        · have Hfin := Lib.hid (lexR_err HR.out (go_err hlt hgU hE hf Hgo.out))
          have HE := Lib.hid hE
          have hx0 : (x != 0) = true := by rw [bne_iff_ne]; have := wordE_err hE; omega
          clear hE hgd hgU
          go_wp2_with (first | (go_at_call 78; refine (gap_any _ _).mono ?_; rintro e w' ⟨rfl, rfl⟩) | fail)
          refine (wordAt_err s p _ hs' hlt HE.out).mono ?_
          rintro e w1 ⟨rfl, hb⟩
          go_wp2_with fail
          go_ret3
          exact LexPost.bad Hfin.out ((hbw.trans (hb.mono hbw.size)).alloc (by have := hb.size; have := hbw.size; omega) _)
        · have hlen : (s.data.toList.drop p).length = s.size - p := by simp
          obtain ⟨hm1, hm2, hnum1, hnum2, hk1, hk2⟩ := wordE_ok (by rw [hlen]; omega) hE
          rw [hlen] at hm2
          have Hst := Lib.hid (go_word hlt hgU hE hf hm1 Hgo.out)
          have HE := Lib.hid hE
          obtain ⟨T, hT⟩ : ∃ T, s.extract p (p + m) = T := ⟨_, rfl⟩
          have hTs : T.size = m := by rw [← hT]; simp; omega
          have HT := Lib.hid hT
          clear hE hgd hgU hlen hT
          by_cases hn2 : n ≤ 2000
          · go_wp2_with (first | (go_at_call 78; refine (gap_any _ _).mono ?_; rintro e w' ⟨rfl, rfl⟩) | fail)
            refine (wordAt_ok s p _ hs' hlt HT.out HE.out).mono ?_
            rintro e w1 ⟨rfl, hb⟩
            go_wp2_with fail
            refine (clone_any T _ (by omega)).mono ?_
            rintro e w2 ⟨rfl, hb2⟩
            obtain ⟨hc, hfz⟩ := bcell hb2
            have hz : w1.heap.size < w2.heap.size := by have := hb2.size; simp at this; omega
            have hB1 : Below wr.heap.size wr w2 := (hb.alloc hb.size _).trans (hb2.mono (by have := hb.size; simp; omega))
            go_wp2_with (at_builtin; go_loud (refine wpList_append_own _ rfl (.tmp 41) (.tmp 43) _ rfl w.heap.size 150 i0 _ 4 40 Try.underlying146 hi hz0 hz1 hz2 rfl (by decide) (.slice A n c) n _ rfl (own_later hown (below_new (hB1.setCell hb.size _) (Nat.le_refl _) _)) ⟨w2.heap.size, 0, none⟩ 1 1 [.int .i64 k, .string T, .int .i64 num, .int .i64 p] rfl rfl ?c1 ?c2 ?c3 ?c4 ?c5 ?_))
            case c1 =>
              have e : w2.heap.size = (w2.setCell ⟨w1.heap.size, 1, none⟩ (.string T)).heap.size := by simp
              rw [e]
              exact cells_new _ _ _
            case c2 =>
              intro u hu
              simp at hu
              rcases hu with rfl | rfl | rfl | rfl <;> rfl
            case c3 => unfold maxLen; omega
            case c4 => omega
            case c5 => have := hB1.size; have := hbw.size; simp; omega
            intro v' w3 hown' hgrow _
            obtain ⟨g, cap, hv⟩ := own_form hown' (by omega)
            obtain ⟨ht1, ht2⟩ := tk_few (t := ⟨k, T, num, p⟩) (by rw [← Hn.out]; exact hn2)
            have Hv := Lib.hid hv
            have Ht := Lib.hid ht2
            have Hl : Hid (n + 1 = ((acc ++ [(⟨k, T, num, p⟩ : Tok)]).take 2001).length) := by
              show n + 1 = _
              rw [ht2, List.length_append, ← ht1, ← Hn.out]
              rfl
            have hown2 : w3.ownsRow w.heap.size 150 4 (.slice (some ⟨g, 0, none⟩) (n + 1) cap) (n + 1) (tcells ((acc ++ [(⟨k, T, num, p⟩ : Tok)]).take 2001)) := by
              rw [ht2, tcells_snoc, ← hv, ← ht1]
              exact hown'
            have hB3 : Below w.heap.size w w3 := (hbw.trans ((below_new (hB1.setCell hb.size _) (Nat.le_refl _) _).mono hbw.size)).grown hgrow (by have := hB1.size; have := hbw.size; simp; omega) (fun b hb => (hown.lt b hb).1)
            clear hv ht1 ht2 hown' hgrow hown hc hfz
            go_wp2_with fail
            go_roundw
            case rel =>
              obtain ⟨f', hf', hgo'⟩ := Hst.out
              exact ⟨p + m, f', acc ++ [(⟨k, T, num, p⟩ : Tok)], some ⟨g, 0, none⟩, n + 1, cap, by omega, hf', by rw [← HT.out]; exact hgo', Hl, by go_num, Hv.out, hown2, hB3⟩
            case measure => simp [intOf]; omega
          · have Ht := Lib.hid (tk_many (t := ⟨k, s.extract p (p + m), num, p⟩) (show ¬ (acc.take 2001).length ≤ 2000 by rw [← Hn.out]; exact hn2))
            go_wp2_with (first | (go_at_call 78; refine (gap_any _ _).mono ?_; rintro e w' ⟨rfl, rfl⟩) | fail)
            refine (wordAt_ok s p _ hs' hlt HT.out HE.out).mono ?_
            rintro e w1 ⟨rfl, hb⟩
            have hB3 : Below w.heap.size w (w1.alloc (.cells #[.int .i64 k, .string T, .int .i64 num, .int .i64 p] 150)) := below_new (hbw.trans (hb.mono hbw.size)) (Nat.le_refl _) _
            have hown3 := own_later hown (below_new hb (Nat.le_refl _) (.cells #[.int .i64 k, .string T, .int .i64 num, .int .i64 p] 150))
            clear hown
            go_wp2_with fail
            go_roundw
            case rel =>
              obtain ⟨f', hf', hgo'⟩ := Hst.out
              exact ⟨p + m, f', acc ++ [(⟨k, s.extract p (p + m), num, p⟩ : Tok)], A, n, c, by omega, hf', hgo', by rw [Ht.out]; exact Hn.out, by go_num, rfl, by rw [Ht.out]; exact hown3, hB3⟩
            case measure => simp [intOf]; omega
    · have hend := go_end (by omega) Hgo.out
      by_cases hn2 : n ≤ 2000
      · obtain ⟨ht1, -⟩ := tk_few (t := ⟨0, ⟨#[]⟩, 0, 0⟩) (show (acc.take 2001).length ≤ 2000 by rw [← Hn.out]; exact hn2)
        have hn3 : n = acc.length := by rw [Hn.out, ht1]
        have Hfin := Lib.hid (lexR_ok HR.out hend (by omega))
        rw [ht1] at hown
        have Hn3 := Lib.hid hn3
        clear ht1 hend hn3
        go_wp2_with fail
        go_ret3
        exact LexPost.good Hfin.out Hn3.out hown hbw
      · have hl : 2000 < acc.length := by
          have h1 := Hn.out
          rw [List.length_take] at h1
          omega
        have Hfin := Lib.hid (lexR_long HR.out hend hl)
        clear hend hl
        go_wp2_with fail
        go_ret3
        exact LexPost.bad Hfin.out hbw
end Go.Proofs.Ytdagadcflignfaa
namespace Go.Proofs.Ytdagadcflignfaa
open Go.RowKit

theorem own_slice {base : Nat} {e : TypeId} {size n c : Nat} {A : Option Addr} {xs : List Value} {w : World} (h : w.ownsRow base e size (.slice A n c) n xs) (hn : 0 < n) :
    ∃ g, A = some ⟨g, 0, none⟩ ∧ base ≤ g ∧ g < w.heap.size ∧ n ≤ c ∧ ∀ j u, xs[j]? = some u → w.cell? ⟨g, j, none⟩ = some u := by
  rcases h.2 with ⟨_, h0⟩ | ⟨g, cap, cur, hv, hg, hh, h1, h2, h3, h4⟩
  · omega
  · injection hv with hA _ hc
    subst hA
    have hlt := (h.lt g rfl).2
    refine ⟨g, rfl, hg, hlt, by omega, fun j u hu => ?_⟩
    rw [cell_of_row w g j cur e (0, 0) hh]
    rw [← h4, List.getElem?_take] at hu
    split at hu
    · simpa using hu
    · cases hu
theorem lex_good {s : ByteArray} {acc : List Tok} (h : lexR s = (acc, 0, 0)) (w : World) (hs : s.size ≤ 140737488351232) {n : Nat} (hn : acc.length = n) :
    Calls Try.prog 60 #[.string s] w fun e w' => ∃ A c, e = .returned (.tuple #[.slice A n c, .int .i64 0, .int .i64 0]) ∧ w'.ownsRow w.heap.size 150 4 (.slice A n c) n (tcells acc) ∧ Below w.heap.size w w' := by
  subst hn
  refine (lex_any s w hs).mono fun e w' hp => ?_
  unfold LexPost at hp
  rw [h] at hp
  exact hp
theorem lex_bad {s : ByteArray} {p : Nat} {x : Int} (h : lexR s = ([], p, x)) (w : World) (hs : s.size ≤ 140737488351232) :
    Calls Try.prog 60 #[.string s] w fun e w' => ∃ A c, e = .returned (.tuple #[.slice A 0 c, .int .i64 p, .int .i64 x]) ∧ Below w.heap.size w w' := by
  refine (lex_any s w hs).mono fun e w' hp => ?_
  unfold LexPost at hp
  rw [h] at hp
  obtain ⟨A, c, rfl, ho, hb⟩ := hp
  exact ⟨A, c, rfl, hb⟩
end Go.Proofs.Ytdagadcflignfaa
namespace Go.Proofs.Ytdagadcflignfaa
open Go.RowKit

theorem lexR_st : lexR ⟨#[120, 32, 61, 32, 49, 48, 32, 59]⟩ = ([⟨1, ⟨#[120]⟩, 0, 0⟩, ⟨3, ⟨#[61]⟩, 0, 2⟩, ⟨2, ⟨#[49, 48]⟩, 10, 4⟩, ⟨3, ⟨#[59]⟩, 0, 7⟩], 0, 0) := by kernel_rfl

set_option maxHeartbeats 1000000 in
theorem stands_any (w : World) : Calls Try.prog 29 #[] w fun e w' => e = .returned (.bool true) ∧ Below w.heap.size w w' := by
  go_enter Try.func29, Try.ntmps29
  go_wp2_with fail
  refine (lex_good lexR_st w (by decide) rfl).mono ?_
  rintro e w1 ⟨A, c, rfl, hown, hb1⟩
  obtain ⟨g, rfl, _, hg, _, hc⟩ := own_slice hown (by decide)
  have c2 := hc 10 _ rfl
  clear hc hown
  go_wp2
  go_ret
  exact ⟨rfl, hb1⟩
end Go.Proofs.Ytdagadcflignfaa
namespace Go.Proofs.Ytdagadcflignfaa.Sx.Z
open Go.RowKit
theorem dok_i16 {d : D} (h : DOk (.int .i16) d) : -32768 ≤ d.toI ∧ d.toI ≤ 32767 := by
  cases h with
  | int k d h => simp [Lit.wf, IntKind.min, IntKind.max, IntKind.bits, IntKind.signed] at h; omega
def standsS : FSpec := fun ds _ => match ds with
  | [] => some { val := .one (.sc (.bool (.sym true))), vc := [] }
  | _ => none
def standsC : Con := con [] standsS
theorem stands_ok : ConOK Try.prog 29 standsC := by
  refine ⟨fun _ _ => by kernel_rfl, ?_⟩
  intro hp fr args e he _ w0 w ρ vs _ _ ha
  cases args with
  | cons x l =>
    have : standsC hp fr (x :: l) = none := by cases x <;> rfl
    rw [this] at he; cases he
  | nil =>
    cases vs with
    | cons v r => exact ha.elim
    | nil =>
      have h0 : standsC hp fr [] = some { val := .one (.sc (.bool (.sym true))), vc := [], st := [] } := rfl
      rw [h0] at he
      obtain rfl := Option.some.inj he
      refine (stands_any w).mono ?_
      rintro en w' ⟨rfl, hb⟩
      exact ⟨ρ, _, rfl, rfl, ⟨⟨fun _ _ h => h, fun _ _ => rfl, fun _ _ h => h, rfl, rfl⟩, fun _ _ => rfl, hb.mono (Nat.zero_le _), fun b hlt _ => hb.block b hlt, fun _ _ h => by simp [look] at h, fun _ _ h => by simp [look] at h, fun _ _ _ _ h => by simp [look] at h, fun _ _ h => .inl h⟩⟩
end Go.Proofs.Ytdagadcflignfaa.Sx.Z
