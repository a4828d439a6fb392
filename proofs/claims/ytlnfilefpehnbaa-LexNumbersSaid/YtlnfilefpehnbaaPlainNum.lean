/-
  Plain mathematics, no program: the digits of a number, and the words of a text of digits and a name behind a blank.
-/
import Derived.Test.YtlnfilefpehnbaaPlainList
namespace Go.Proofs.Ytlnfilefpehnbaa

theorem valFrom_eq (ds : List UInt8) : ∀ a, valFrom a ds = a * 10 ^ ds.length + val ds := by
  induction ds with
  | nil => intro a; simp [valFrom, val]
  | cons d t ih =>
    intro a
    have e1 : valFrom a (d :: t) = valFrom (10 * a + (d.toNat - 48)) t := rfl
    have e2 : val (d :: t) = valFrom (10 * 0 + (d.toNat - 48)) t := rfl
    rw [e1, e2, ih, ih, List.length_cons, Nat.pow_succ, Nat.add_mul, Nat.add_mul, Nat.mul_comm (10 ^ t.length) 10, ← Nat.mul_assoc, Nat.mul_comm a 10]
    omega
theorem val_cons (d : UInt8) (t : List UInt8) : val (d :: t) = (d.toNat - 48) * 10 ^ t.length + val t := by
  have e2 : val (d :: t) = valFrom (10 * 0 + (d.toNat - 48)) t := rfl
  rw [e2, valFrom_eq]
  congr 2
  omega
/-- l are the last digits of N, and k is what is ahead of them. -/
structure Dg (N : Nat) (l : List UInt8) (k : Nat) : Prop where
  dig : ∀ b ∈ l, digU b = true
  val : k * 10 ^ l.length + val l = N
  none : l = [] → k = N
  head : l ≠ [] → k = 0 → l.headD 0 ≠ 48 ∨ l = [48]
theorem Dg.start (N : Nat) : Dg N [] N := ⟨fun b h => by simp at h, by simp [Go.Proofs.Ytlnfilefpehnbaa.val], fun _ => rfl, fun h => absurd rfl h⟩
theorem Dg.step {N : Nat} {l : List UInt8} {k : Nat} (h : Dg N l k) (hk : 0 < k ∨ l = []) {d : UInt8} (hd : d.toNat = 48 + k % 10) : Dg N (d :: l) (k / 10) := by
  refine ⟨fun b hb => ?_, ?_, fun e => by simp at e, fun _ h0 => ?_⟩
  · rcases List.mem_cons.1 hb with rfl | hb
    · simp only [digU, digB, Bool.and_eq_true, decide_eq_true_eq]; omega
    · exact h.dig b hb
  · rw [List.length_cons, Nat.pow_succ, val_cons, ← h.val, show d.toNat - 48 = k % 10 from by omega, Nat.mul_comm (10 ^ l.length) 10, ← Nat.mul_assoc, ← Nat.add_assoc, ← Nat.add_mul]
    congr 2
    omega
  · rw [List.headD_cons]
    by_cases hz : k = 0
    · right
      have hl : l = [] := hk.resolve_left (by omega)
      subst hl
      have : d = 48 := UInt8.toNat_inj.1 (by rw [hd, hz]; rfl)
      rw [this]
    · left
      intro e
      rw [e] at hd
      have : (48 : UInt8).toNat = 48 := rfl
      omega
theorem Dg.few {N : Nat} {l : List UInt8} {k : Nat} (h : Dg N l k) (hN : N < 10000000000) (hk : 0 < k) : l.length ≤ 9 := by
  rcases Nat.lt_or_ge l.length 10 with h1 | h1
  · omega
  · have h2 : 10 ^ 10 ≤ 10 ^ l.length := Nat.pow_le_pow_right (by decide) h1
    have h3 : 1 * 10 ^ l.length ≤ k * 10 ^ l.length := Nat.mul_le_mul_right _ hk
    have h4 : (10 : Nat) ^ 10 = 10000000000 := by decide
    have := h.val
    omega

theorem dig_all : ∀ l : List UInt8, (∀ b ∈ l, digU b = true) → lenOf digU l = l.length := by
  intro l
  induction l with
  | nil => intro _; rfl
  | cons b l ih =>
    intro h
    have := ih (fun x hx => h x (by simp [hx]))
    unfold lenOf at *
    rw [List.takeWhile_cons, if_pos (h b (by simp)), List.length_cons, this, List.length_cons]
theorem dig_head {l : List UInt8} (h0 : l ≠ []) (hd : ∀ b ∈ l, digU b = true) : digU (l.headD 0) = true := by
  match l, h0 with
  | b :: l, _ => exact hd b (by simp)
theorem dig_not (b : UInt8) (h : digU b = true) : letU b = false ∧ gapU b = false := by
  refine ⟨?_, ?_⟩
  · rcases Bool.eq_false_or_eq_true (letU b) with hl | hl
    · rw [let_not_dig b hl] at h; cases h
    · exact hl
  · rcases Bool.eq_false_or_eq_true (gapU b) with hl | hl
    · rcases gap_cases hl with e | e <;> rw [e] at h <;> exact absurd h (by decide)
    · exact hl
theorem lexR_num (s : ByteArray) (l : List UInt8) (h0 : l ≠ []) (hd : ∀ b ∈ l, digU b = true) (hs : s.data.toList = l ++ [32, 120]) :
    ((2147483647 < val l ∨ (1 < l.length ∧ l.headD 0 = 48)) → lexR s = ([], 0, 3)) ∧
    (¬ (2147483647 < val l ∨ (1 < l.length ∧ l.headD 0 = 48)) → lexR s = ([⟨2, ofL l, val l, 0⟩, ⟨1, ofL [120], 0, l.length + 1⟩], 0, 0)) := by
  have hpos : 0 < l.length := List.length_pos_iff.2 h0
  have hh := dig_head h0 hd
  obtain ⟨hhl, hhg⟩ := dig_not _ hh
  have hlen := dig_all l hd
  have hE : wordE l = numE l := by
    unfold wordE
    rw [if_neg (by rw [hhl]; decide), if_pos hh]
  have hlet : letU (l.getD l.length 0) = false := by
    rw [List.getD_eq_getElem?_getD, List.getElem?_eq_none (Nat.le_refl _)]
    decide
  have hgh : GapHead [32, 120] := .inr (by decide)
  have hap := wordE_app hpos hgh
  rw [lexR_lexF, hs]
  have hal : (l ++ [32, 120]).length = l.length + 2 := by simp
  have hgp : gapU ((l ++ [32, 120]).headD 0) = false := by rw [headD_app hpos]; exact hhg
  unfold lexF
  refine ⟨fun hc => ?_, fun hc => ?_⟩
  · have hN : numE l = .error 3 := by
      unfold numE
      rw [hlen, List.take_of_length_le (Nat.le_refl _), if_pos (hc.elim .inl fun h => .inr (.inl h))]
    rw [lexW_err (by omega) hgp (by rw [hap, hE, hN])]
  · have hN : numE l = .ok (2, l.length, (val l : Int)) := by
      unfold numE
      rw [hlen, List.take_of_length_le (Nat.le_refl _), if_neg (fun h => h.elim (fun h => hc (.inl h)) (fun h => h.elim (fun h => hc (.inr h)) (fun h => by rw [hlet] at h; cases h)))]
    rw [lexW_word (by omega) hgp (by rw [hap, hE, hN]), List.drop_append_of_le_length (Nat.le_refl _), List.take_append_of_le_length (Nat.le_refl _), List.drop_of_length_le (Nat.le_refl _), List.take_of_length_le (Nat.le_refl _), List.nil_append]
    have h2 : lexW [32, 120] (0 + l.length) ([] ++ [⟨2, ofL l, (val l : Int), 0⟩]) = .ok ([⟨2, ofL l, (val l : Int), 0⟩] ++ [⟨1, ofL [120], 0, 0 + l.length + 1⟩]) := by
      rw [lexW_gap (by decide) (by decide)]
      show lexW [120] (0 + l.length + 1) _ = _
      rw [lexW_word (k := 1) (n := 1) (m := 0) (by decide) (by decide) (by rfl)]
      rfl
    rw [h2]
    show (if 2000 < 2 then _ else _) = _
    rw [if_neg (by decide), Nat.zero_add]
    rfl
end Go.Proofs.Ytlnfilefpehnbaa
