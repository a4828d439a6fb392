/-
  lex.nameAt, lex.numberAt, lex.wordAt: the word that begins at a place of a text, or the error; for every text and place in it.
-/
import Derived.Test.YtbhbjhejkamlnaaWords
import Derived.Deep.DeepFit
namespace Go.Proofs.Ytbhbjhejkamlnaa
open Go.RowKit

/-- What is answered of a word: the word and no error, or no word and the error. -/
def wV (s : ByteArray) (p : Nat) : Except Int (Int × Nat × Int) → Value
  | .error e => .tuple #[.agg #[.int .i64 0, .string ⟨#[]⟩, .int .i64 0, .int .i64 0], .int .i64 e]
  | .ok (k, n, m) => .tuple #[.agg #[.int .i64 k, .string (s.extract p (p + n)), .int .i64 m, .int .i64 p], .int .i64 0]
theorem ret_wV {s : ByteArray} {p : Nat} {x y : Except Int (Int × Nat × Int)} (h : x = y) : Ending.returned (wV s p y) = .returned (wV s p x) := by rw [h]
theorem ret_wOk {s : ByteArray} {p n k : Nat} {kk m : Int} {x : Except Int (Int × Nat × Int)} (h : x = .ok (kk, n, m)) (hk : p + n = k) : Ending.returned (.tuple #[.agg #[.int .i64 kk, .string (s.extract p k), .int .i64 m, .int .i64 p], .int .i64 0]) = .returned (wV s p x) := by
  rw [h, ← hk]
  rfl

set_option maxHeartbeats 4000000 in
theorem nameAt_any (s : ByteArray) (p : Nat) (w : World) (hs : s.size ≤ maxLen) (hp : p < s.size) :
    Calls Try.prog 62 #[.string s, .int .i64 p] w fun e w' => e = .returned (wV s p (nameE (s.data.toList.drop p))) ∧ Below w.heap.size w w' := by
  unfold maxLen at hs
  go_enter Try.func62, Try.ntmps62
  go_wp2_with fail
  go_loop [6] (fun i => ∃ k : Nat, Run alnU s p k ∧ i = .int .i64 k) (fun i => s.size - (intOf i).toNat)
  case atStart => exact ⟨p, Run.start (by omega), rfl⟩
  case round =>
    obtain ⟨k, hk, rfl⟩ := hrel
    have hk1 := hk.1
    have hk2 := hk.2.1
    have hcase : (∃ h : k < s.size, letB (s[k].toNat : Int) = true) ∨ (∃ h : k < s.size, letB (s[k].toNat : Int) = false ∧ digB (s[k].toNat : Int) = true) ∨ (∃ h : k < s.size, letB (s[k].toNat : Int) = false ∧ digB (s[k].toNat : Int) = false) ∨ s.size ≤ k := by
      by_cases hlt : k < s.size
      · rcases Bool.eq_false_or_eq_true (letB (s[k].toNat : Int)) with hl | hl
        · exact .inl ⟨hlt, hl⟩
        · rcases Bool.eq_false_or_eq_true (digB (s[k].toNat : Int)) with hd | hd
          · exact .inr (.inl ⟨hlt, hl, hd⟩)
          · exact .inr (.inr (.inl ⟨hlt, hl, hd⟩))
      · exact .inr (.inr (.inr (by omega)))
    rcases hcase with ⟨hlt, hl⟩ | ⟨hlt, hl, hd⟩ | hcase
    · go_wp2_with (first | (go_at_call 61; refine (let_any _ _).mono ?_; rintro e w' ⟨rfl, rfl⟩) | (go_at_call 63; refine (dig_any _ _).mono ?_; rintro e w' ⟨rfl, rfl⟩))
      go_round
      case rel => exact ⟨k + 1, hk.step hlt (by simp [alnU, letU, hl]), by go_num⟩
      case measure => simp [intOf]; omega
    · go_wp2_with (first | (go_at_call 61; refine (let_any _ _).mono ?_; rintro e w' ⟨rfl, rfl⟩) | (go_at_call 63; refine (dig_any _ _).mono ?_; rintro e w' ⟨rfl, rfl⟩))
      go_round
      case rel => exact ⟨k + 1, hk.step hlt (by simp [alnU, digU, hd]), by go_num⟩
      case measure => simp [intOf]; omega
    · have hn : lenOf alnU (s.data.toList.drop p) = k - p := by
        rcases hcase with ⟨hlt, hl, hd⟩ | hge
        · exact hk.len (fun h => by rw [getD_eq s k h]; simp [alnU, letU, digU, hl, hd])
        · exact hk.len (fun h => absurd h (by omega))
      by_cases h12 : 12 < k - p
      · have Hfin := Lib.hid (show nameE (s.data.toList.drop p) = .error 3 by unfold nameE; rw [hn, if_pos h12])
        clear hn
        rcases hcase with ⟨hlt, hl, hd⟩ | hge
        all_goals
          go_wp2_with (first | (go_at_call 61; refine (let_any _ _).mono ?_; rintro e w' ⟨rfl, rfl⟩) | (go_at_call 63; refine (dig_any _ _).mono ?_; rintro e w' ⟨rfl, rfl⟩))
          exact bodyPost_ret (v := .tuple #[.agg #[.int .i64 0, .string ⟨#[]⟩, .int .i64 0, .int .i64 0], .int .i64 3]) (by simp [results, Try.results62, go_sem]) rfl ⟨ret_wV Hfin.out, (Below.refl _ _).alloc (Nat.le_refl _) _⟩
      · have ht : (s.extract p k).toList = (s.data.toList.drop p).take (k - p) := Lib.extract_toList s p k
        rcases Bool.eq_false_or_eq_true (resB (s.extract p k).toList) with hr | hr
        · have Hfin := Lib.hid (show nameE (s.data.toList.drop p) = .ok (4, k - p, 0) by unfold nameE; rw [hn, if_neg h12, ← ht, if_pos hr])
          clear hn ht
          rcases hcase with ⟨hlt, hl, hd⟩ | hge
          all_goals
            go_wp2_with (first | (go_at_call 61; refine (let_any _ _).mono ?_; rintro e w' ⟨rfl, rfl⟩) | (go_at_call 63; refine (dig_any _ _).mono ?_; rintro e w' ⟨rfl, rfl⟩) | (go_at_call 84; refine (res_any _ _).mono ?_; rintro e w' ⟨rfl, rfl⟩))
            exact bodyPost_ret (v := .tuple #[.agg #[.int .i64 4, .string (s.extract p k), .int .i64 0, .int .i64 p], .int .i64 0]) (by simp [results, Try.results62, go_sem]) rfl ⟨ret_wOk Hfin.out (by omega), ((Below.refl _ _).alloc (Nat.le_refl _) _).alloc (by simp) _⟩
        · have Hfin := Lib.hid (show nameE (s.data.toList.drop p) = .ok (1, k - p, 0) by unfold nameE; rw [hn, if_neg h12, ← ht, if_neg (by rw [hr]; decide)])
          clear hn ht
          rcases hcase with ⟨hlt, hl, hd⟩ | hge
          all_goals
            go_wp2_with (first | (go_at_call 61; refine (let_any _ _).mono ?_; rintro e w' ⟨rfl, rfl⟩) | (go_at_call 63; refine (dig_any _ _).mono ?_; rintro e w' ⟨rfl, rfl⟩) | (go_at_call 84; refine (res_any _ _).mono ?_; rintro e w' ⟨rfl, rfl⟩))
            exact bodyPost_ret (v := .tuple #[.agg #[.int .i64 1, .string (s.extract p k), .int .i64 0, .int .i64 p], .int .i64 0]) (by simp [results, Try.results62, go_sem]) rfl ⟨ret_wOk Hfin.out (by omega), ((Below.refl _ _).alloc (Nat.le_refl _) _).alloc (by simp) _⟩

set_option maxHeartbeats 4000000 in
theorem numAt_any (s : ByteArray) (p : Nat) (w : World) (hs : s.size ≤ maxLen) (hp : p < s.size) :
    Calls Try.prog 64 #[.string s, .int .i64 p] w fun e w' => e = .returned (wV s p (numE (s.data.toList.drop p))) ∧ Below w.heap.size w w' := by
  unfold maxLen at hs
  go_enter Try.func64, Try.ntmps64
  go_wp2_with fail
  go_loop [6, 7] (fun i m => ∃ k v : Nat, Run digU s p k ∧ vl s p k = v ∧ v ≤ 2147483647 ∧ i = .int .i64 k ∧ m = .int .i64 v) (fun i _ => s.size - (intOf i).toNat)
  case atStart => exact ⟨p, 0, Run.start (by omega), vl_start s p, by omega, rfl, rfl⟩
  case round =>
    obtain ⟨k, v, hk, hv, hv1, rfl, rfl⟩ := hrel
    have hk1 := hk.1
    have hk2 := hk.2.1
    have Hv := Lib.hid hv
    clear hv
    by_cases hin : ∃ h : k < s.size, digB (s[k].toNat : Int) = true
    · obtain ⟨hlt, hd⟩ := hin
      have hd1 : 48 ≤ (s[k].toNat : Int) ∧ (s[k].toNat : Int) ≤ 57 := by simpa [digB] using hd
      obtain ⟨hd1, hd2⟩ := hd1
      have hst := vl_step s p k hk1 hlt
      rw [Hv.out] at hst
      have hrun := hk.step hlt (show digU s[k] = true from hd)
      by_cases hbig : 2147483647 < 10 * (v : Int) + ((s[k].toNat : Int) - 48)
      · have hfin : numE (s.data.toList.drop p) = .error 3 := by
          have h1 := vl_mono s p (k + 1) (lenOf digU (s.data.toList.drop p)) hrun.le_len
          have h2 : 2147483647 < val ((s.data.toList.drop p).take (lenOf digU (s.data.toList.drop p))) := by omega
          unfold numE
          rw [if_pos (.inl h2)]
        have Hfin := Lib.hid hfin
        clear hfin hst
        go_wp2_with (go_at_call 63; refine (dig_any _ _).mono ?_; rintro e w' ⟨rfl, rfl⟩)
        exact bodyPost_ret (v := .tuple #[.agg #[.int .i64 0, .string ⟨#[]⟩, .int .i64 0, .int .i64 0], .int .i64 3]) (by simp [results, Try.results64, go_sem]) rfl ⟨ret_wV Hfin.out, (Below.refl _ _).alloc (Nat.le_refl _) _⟩
      · have Hst := Lib.hid hst
        clear hst
        go_wp2_with (go_at_call 63; refine (dig_any _ _).mono ?_; rintro e w' ⟨rfl, rfl⟩)
        go_round
        case rel => exact ⟨k + 1, 10 * v + (s[k].toNat - 48), hrun, Hst.out, by omega, by go_num, by go_num⟩
        case measure => simp [intOf]; omega
    · have hcase : (∃ h : k < s.size, digB (s[k].toNat : Int) = false ∧ letB (s[k].toNat : Int) = true) ∨ (∃ h : k < s.size, digB (s[k].toNat : Int) = false ∧ letB (s[k].toNat : Int) = false) ∨ s.size ≤ k := by
        by_cases hlt : k < s.size
        · rcases Bool.eq_false_or_eq_true (digB (s[k].toNat : Int)) with hd | hd
          · exact absurd ⟨hlt, hd⟩ hin
          · rcases Bool.eq_false_or_eq_true (letB (s[k].toNat : Int)) with hl | hl
            · exact .inl ⟨hlt, hd, hl⟩
            · exact .inr (.inl ⟨hlt, hd, hl⟩)
        · exact .inr (.inr (by omega))
      clear hin
      have hn : lenOf digU (s.data.toList.drop p) = k - p := by
        rcases hcase with ⟨hlt, hd, _⟩ | ⟨hlt, hd, _⟩ | hge
        · exact hk.len (fun h => by rw [getD_eq s k h]; exact hd)
        · exact hk.len (fun h => by rw [getD_eq s k h]; exact hd)
        · exact hk.len (fun h => absurd h (by omega))
      have hval : val ((s.data.toList.drop p).take (k - p)) = v := Hv.out
      have hhd : (s.data.toList.drop p).headD 0 = s[p] := by rw [head_drop, getD_eq s p hp]
      have h48 : ∀ b : UInt8, b = 48 ↔ ((b.toNat : Int) == 48) = true := fun b => by
        rw [beq_iff_eq]
        constructor
        · rintro rfl; rfl
        · intro h; exact UInt8.toNat_inj.1 (by show b.toNat = 48; omega)
      by_cases hz : ((s[p].toNat : Int) == 48) = true ∧ 1 < k - p
      · obtain ⟨hz1, hz2⟩ := hz
        have Hfin := Lib.hid (show numE (s.data.toList.drop p) = .error 3 by
          unfold numE
          rw [hn, if_pos (.inr (.inl ⟨hz2, by rw [hhd]; exact (h48 _).2 hz1⟩))])
        clear hn hval hhd h48
        rcases hcase with ⟨hlt, hd, _⟩ | ⟨hlt, hd, _⟩ | hge
        all_goals
          go_wp2_with (first | (go_at_call 61; refine (let_any _ _).mono ?_; rintro e w' ⟨rfl, rfl⟩) | (go_at_call 63; refine (dig_any _ _).mono ?_; rintro e w' ⟨rfl, rfl⟩))
          exact bodyPost_ret (v := .tuple #[.agg #[.int .i64 0, .string ⟨#[]⟩, .int .i64 0, .int .i64 0], .int .i64 3]) (by simp [results, Try.results64, go_sem]) rfl ⟨ret_wV Hfin.out, (Below.refl _ _).alloc (Nat.le_refl _) _⟩
      · have hz' : ((s[p].toNat : Int) == 48) = false ∨ (((s[p].toNat : Int) == 48) = true ∧ k - p ≤ 1) := by
          rcases Bool.eq_false_or_eq_true ((s[p].toNat : Int) == 48) with h | h
          · exact .inr ⟨h, by have : ¬ 1 < k - p := fun hx => hz ⟨h, hx⟩; omega⟩
          · exact .inl h
        have hnz : ¬ (1 < k - p ∧ (s.data.toList.drop p).headD 0 = 48) := fun hx => hz ⟨(h48 _).1 (by rw [← hhd]; exact hx.2), hx.1⟩
        have hgk : (s.data.toList.drop p).getD (k - p) 0 = s.data.toList.getD k 0 := by rw [getD_drop, show p + (k - p) = k from by omega]
        clear hz h48 hhd
        rcases hcase with ⟨hlt, hd, hl⟩ | hcase
        · have Hfin := Lib.hid (show numE (s.data.toList.drop p) = .error 3 by
            unfold numE
            rw [hn, if_pos (.inr (.inr (by rw [hgk, getD_eq s k hlt]; exact hl)))])
          clear hn hval hnz hgk
          rcases hz' with hz1 | ⟨hz1, hz2⟩
          all_goals
            go_wp2_with (first | (go_at_call 61; refine (let_any _ _).mono ?_; rintro e w' ⟨rfl, rfl⟩) | (go_at_call 63; refine (dig_any _ _).mono ?_; rintro e w' ⟨rfl, rfl⟩))
            exact bodyPost_ret (v := .tuple #[.agg #[.int .i64 0, .string ⟨#[]⟩, .int .i64 0, .int .i64 0], .int .i64 3]) (by simp [results, Try.results64, go_sem]) rfl ⟨ret_wV Hfin.out, (Below.refl _ _).alloc (Nat.le_refl _) _⟩
        · have hnl : ¬ letU ((s.data.toList.drop p).getD (k - p) 0) = true := by
            rw [hgk]
            rcases hcase with ⟨hlt, hd, hl⟩ | hge
            · rw [getD_eq s k hlt]; show ¬ letB _ = true; rw [hl]; decide
            · rw [List.getD_eq_getElem?_getD, List.getElem?_eq_none (by simpa using hge)]; decide
          have Hfin := Lib.hid (show numE (s.data.toList.drop p) = .ok (2, k - p, (v : Int)) by
            unfold numE
            rw [hn, hval, if_neg (fun h => h.elim (fun h => by omega) (fun h => h.elim hnz hnl))])
          clear hn hval hnz hgk hnl
          rcases hcase with ⟨hlt, hd, hl⟩ | hge
          all_goals
            rcases hz' with hz1 | ⟨hz1, hz2⟩
            all_goals
              go_wp2_with (first | (go_at_call 61; refine (let_any _ _).mono ?_; rintro e w' ⟨rfl, rfl⟩) | (go_at_call 63; refine (dig_any _ _).mono ?_; rintro e w' ⟨rfl, rfl⟩))
              exact bodyPost_ret (v := .tuple #[.agg #[.int .i64 2, .string (s.extract p k), .int .i64 v, .int .i64 p], .int .i64 0]) (by simp [results, Try.results64, go_sem]) rfl ⟨ret_wOk Hfin.out (by omega), (Below.refl _ _).alloc (Nat.le_refl _) _⟩
end Go.Proofs.Ytbhbjhejkamlnaa
