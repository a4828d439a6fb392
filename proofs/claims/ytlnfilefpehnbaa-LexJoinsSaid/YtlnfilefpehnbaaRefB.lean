/-
  The document's answer for signs, as the reference function computes it: how long the sign at a place is, the same as sgnLen.
-/
import Derived.Test.YtlnfilefpehnbaaRefA
import Derived.Test.YtlnfilefpehnbaaNums
namespace Go.Proofs.Ytlnfilefpehnbaa
open Go.RowKit

def twoW : List ByteArray := [⟨#[61, 61]⟩, ⟨#[33, 61]⟩, ⟨#[60, 61]⟩, ⟨#[62, 61]⟩]
def twoCells : Array Value := (twoW.map Value.string).toArray
def oneL : List UInt8 := [123, 125, 40, 41, 59, 44, 46, 61, 60, 62, 43, 45, 42, 47, 37]

theorem u8_int (a : UInt8) (n : UInt8) : ((a.toNat : Int) = (n.toNat : Int)) ↔ a = n := by
  constructor
  · intro h; exact UInt8.toNat_inj.1 (by omega)
  · rintro rfl; rfl
theorem sgnB_u8 (a : UInt8) (p : Bool) : sgnB (a.toNat : Int) p =
    if a = 61 ∨ a = 60 ∨ a = 62 then (if p then 2 else 1) else if a = 33 then (if p then 2 else 0)
    else if a = 123 ∨ a = 125 ∨ a = 40 ∨ a = 41 ∨ a = 59 ∨ a = 44 ∨ a = 46 ∨ a = 43 ∨ a = 45 ∨ a = 42 ∨ a = 47 ∨ a = 37 then 1 else 0 := by
  unfold sgnB
  have h : ∀ n : UInt8, ((a.toNat : Int) = (n.toNat : Int)) = (a = n) := fun n => propext (u8_int a n)
  have e : ((a.toNat : Int) = 61) = (a = 61) := h 61
  have e1 : ((a.toNat : Int) = 60) = (a = 60) := h 60
  have e2 : ((a.toNat : Int) = 62) = (a = 62) := h 62
  have e3 : ((a.toNat : Int) = 33) = (a = 33) := h 33
  have e4 : ((a.toNat : Int) = 123) = (a = 123) := h 123
  have e5 : ((a.toNat : Int) = 125) = (a = 125) := h 125
  have e6 : ((a.toNat : Int) = 40) = (a = 40) := h 40
  have e7 : ((a.toNat : Int) = 41) = (a = 41) := h 41
  have e8 : ((a.toNat : Int) = 59) = (a = 59) := h 59
  have e9 : ((a.toNat : Int) = 44) = (a = 44) := h 44
  have e10 : ((a.toNat : Int) = 46) = (a = 46) := h 46
  have e11 : ((a.toNat : Int) = 43) = (a = 43) := h 43
  have e12 : ((a.toNat : Int) = 45) = (a = 45) := h 45
  have e13 : ((a.toNat : Int) = 42) = (a = 42) := h 42
  have e14 : ((a.toNat : Int) = 47) = (a = 47) := h 47
  have e15 : ((a.toNat : Int) = 37) = (a = 37) := h 37
  simp only [e, e1, e2, e3, e4, e5, e6, e7, e8, e9, e10, e11, e12, e13, e14, e15]
/-- A sign of two bytes. -/
theorem sgn_yes (r : List UInt8) (j : Nat) (hj : j < 4) (h : r.take 2 = (twoW.getD j ⟨#[]⟩).data.toList) : sgnLen r = 2 := by
  have hr : ∃ a t, r = a :: 61 :: t ∧ (a = 61 ∨ a = 33 ∨ a = 60 ∨ a = 62) := by
    match r, j, hj with
    | [], 0, _ => cases h
    | [], 1, _ => cases h
    | [], 2, _ => cases h
    | [], 3, _ => cases h
    | [a], 0, _ => cases h
    | [a], 1, _ => cases h
    | [a], 2, _ => cases h
    | [a], 3, _ => cases h
    | a :: b :: t, 0, _ =>
      have h : [a, b] = [61, 61] := h
      simp at h; obtain ⟨rfl, rfl⟩ := h; exact ⟨_, t, rfl, .inl rfl⟩
    | a :: b :: t, 1, _ =>
      have h : [a, b] = [33, 61] := h
      simp at h; obtain ⟨rfl, rfl⟩ := h; exact ⟨_, t, rfl, .inr (.inl rfl)⟩
    | a :: b :: t, 2, _ =>
      have h : [a, b] = [60, 61] := h
      simp at h; obtain ⟨rfl, rfl⟩ := h; exact ⟨_, t, rfl, .inr (.inr (.inl rfl))⟩
    | a :: b :: t, 3, _ =>
      have h : [a, b] = [62, 61] := h
      simp at h; obtain ⟨rfl, rfl⟩ := h; exact ⟨_, t, rfl, .inr (.inr (.inr rfl))⟩
    | _, j + 4, h => omega
  obtain ⟨a, t, rfl, ha⟩ := hr
  show sgnB (a.toNat : Int) ((61 : UInt8) == 61) = 2
  rw [sgnB_u8]
  rcases ha with rfl | rfl | rfl | rfl <;> decide
/-- No sign of two bytes: one byte, or none. -/
theorem sgn_no (r : List UInt8) (h0 : 0 < r.length) (h : ∀ j, j < 4 → r.take 2 ≠ (twoW.getD j ⟨#[]⟩).data.toList) : sgnLen r = if r.headD 0 ∈ oneL then 1 else 0 := by
  have key : ∀ a : UInt8, sgnB (a.toNat : Int) false = if a ∈ oneL then 1 else 0 := by
    intro a
    rw [sgnB_u8]
    simp only [oneL, List.mem_cons, List.not_mem_nil, or_false, Bool.false_eq_true, if_false]
    by_cases h1 : a = 61 ∨ a = 60 ∨ a = 62
    · rw [if_pos h1, if_pos (by rcases h1 with h | h | h <;> simp [h])]
    · rw [if_neg h1]
      by_cases h2 : a = 33
      · subst h2; decide
      · rw [if_neg h2]
        have e : (a = 123 ∨ a = 125 ∨ a = 40 ∨ a = 41 ∨ a = 59 ∨ a = 44 ∨ a = 46 ∨ a = 43 ∨ a = 45 ∨ a = 42 ∨ a = 47 ∨ a = 37) ↔ (a = 123 ∨ a = 125 ∨ a = 40 ∨ a = 41 ∨ a = 59 ∨ a = 44 ∨ a = 46 ∨ a = 61 ∨ a = 60 ∨ a = 62 ∨ a = 43 ∨ a = 45 ∨ a = 42 ∨ a = 47 ∨ a = 37) := by
          have n1 : a ≠ 61 := fun e => h1 (.inl e)
          have n2 : a ≠ 60 := fun e => h1 (.inr (.inl e))
          have n3 : a ≠ 62 := fun e => h1 (.inr (.inr e))
          simp [n1, n2, n3]
        by_cases h3 : (a = 123 ∨ a = 125 ∨ a = 40 ∨ a = 41 ∨ a = 59 ∨ a = 44 ∨ a = 46 ∨ a = 43 ∨ a = 45 ∨ a = 42 ∨ a = 47 ∨ a = 37)
        · rw [if_pos h3, if_pos (e.1 h3)]
        · rw [if_neg h3, if_neg (fun hx => h3 (e.2 hx))]
  match r, h0 with
  | [a], _ => exact key a
  | a :: b :: t, _ =>
    show sgnB (a.toNat : Int) (b == 61) = if a ∈ oneL then 1 else 0
    by_cases hb : b = 61
    · subst hb
      have m0 : a ≠ 61 := fun e => h 0 (by omega) (by rw [e]; rfl)
      have m1 : a ≠ 33 := fun e => h 1 (by omega) (by rw [e]; rfl)
      have m2 : a ≠ 60 := fun e => h 2 (by omega) (by rw [e]; rfl)
      have m3 : a ≠ 62 := fun e => h 3 (by omega) (by rw [e]; rfl)
      rw [← key a, sgnB_u8, sgnB_u8]
      simp [m0, m1, m2, m3]
    · rw [← key a]
      have : (b == 61) = false := by simpa using hb
      rw [this]

/-- None of the first k pairs stands at p. -/
def NoTwo (s : ByteArray) (p k : Nat) : Prop := ∀ j, j < k → (s.data.toList.drop p).take 2 ≠ (twoW.getD j ⟨#[]⟩).data.toList
/-- None of the first k signs is b. -/
def NoOne (b : UInt8) (k : Nat) : Prop := ∀ j, j < k → oneL.getD j 0 ≠ b

set_option maxRecDepth 100000 in
set_option maxHeartbeats 4000000 in
theorem rsign_any (s : ByteArray) (p : Nat) (w : World) (hs : s.size ≤ 140737488351232) (hp : p < s.size) :
    Calls Try.prog 21 #[.string s, .int .i64 p] w fun e w' => e = .returned (.int .i64 (sgnLen (s.data.toList.drop p))) ∧ Below w.heap.size w w' := by
  have hcells : ∀ k, k < 4 → (w.alloc (.cells twoCells 9)).cell? ⟨w.heap.size, k, none⟩ = some (.string (twoW.getD k ⟨#[]⟩)) := by
    intro k hk
    have h := cell_of_row (w.alloc (.cells twoCells 9)) w.heap.size k twoCells 9 (0, 0) (heap_alloc_new w _)
    rw [h]
    match k, hk with
    | 0, _ => rfl
    | 1, _ => rfl
    | 2, _ => rfl
    | 3, _ => rfl
    | n + 4, h => omega
  have hb : Below w.heap.size w (w.alloc (.cells twoCells 9)) := (Below.refl _ _).alloc (Nat.le_refl _) _
  have Hcells := Lib.hid hcells
  clear hcells
  have hlen : (s.data.toList.drop p).length = s.size - p := by simp
  have Hlen := Lib.hid hlen
  clear hlen
  go_enter Try.func21, Try.ntmps21
  go_wp2_with fail
  generalize hW : w.alloc (.cells #[Value.string ⟨#[61, 61]⟩, Value.string ⟨#[33, 61]⟩, Value.string ⟨#[60, 61]⟩, Value.string ⟨#[62, 61]⟩] 9) = W at *
  have hW' : w.alloc (.cells twoCells 9) = W := hW
  rw [hW'] at Hcells hb
  clear hW hW'
  go_loopw [6] (fun i wr => ∃ (k m : Nat), k ≤ 4 ∧ NoTwo s p k ∧ i = .int .i64 k ∧ wr = W.drewN m) (fun i _ => 4 - (intOf i).toNat)
  case atStart => exact ⟨0, 0, by omega, fun j h => by omega, rfl, rfl⟩
  case round =>
    obtain ⟨k, m, hk, hno, rfl, rfl⟩ := hrel
    by_cases hlt : k < 4
    · have hc := Hcells.out k hlt
      by_cases h2 : p + 2 ≤ s.size
      · have ht : (s.extract p (p + 2)).toList = (s.data.toList.drop p).take 2 := by
          have := Lib.extract_toList s p (p + 2)
          rw [show p + 2 - p = 2 from by omega] at this
          exact this
        have hd : (p : Int) + 2 ≤ (s.size : Int) := by omega
        rcases Bool.eq_false_or_eq_true ((s.extract p (p + 2)).toList == (twoW.getD k ⟨#[]⟩).toList) with he | he
        · have Hfin := Lib.hid (sgn_yes (s.data.toList.drop p) k hlt (by rw [← ht, beq_iff_eq.1 he, Lib.toList_data]))
          generalize twoW.getD k ⟨#[]⟩ = x at *
          clear ht
          go_wp2_with fail
          go_quiet (fail)
          go_wp2_with fail
          go_ret
          exact ⟨by rw [Hfin.out]; rfl, below_drewN (below_drewN hb _) _⟩
        · have hno' : NoTwo s p (k + 1) := fun j hj => by
            rcases Nat.lt_or_ge j k with h | h
            · exact hno j h
            · rw [show j = k from by omega, ← ht, ← Lib.toList_data]
              exact beq_eq_false_iff_ne.1 he
          generalize twoW.getD k ⟨#[]⟩ = x at *
          clear ht
          go_wp2_with fail
          go_quiet (fail)
          go_wp2_with fail
          go_roundw
          case rel => exact ⟨k + 1, _, by omega, hno', by go_num, rfl⟩
          case measure => simp [intOf]; omega
      · have hno' : NoTwo s p (k + 1) := fun j hj => by
          rcases Nat.lt_or_ge j k with h | h
          · exact hno j h
          · intro e
            have e2 := congrArg List.length e
            rw [List.length_take, Hlen.out] at e2
            have : ∀ j, j < 4 → (twoW.getD j ⟨#[]⟩).data.toList.length = 2 := fun j hj => by
              match j, hj with
              | 0, _ => rfl
              | 1, _ => rfl
              | 2, _ => rfl
              | 3, _ => rfl
              | n + 4, h => omega
            rw [this j (by omega)] at e2
            omega
        have hd : decide ((p : Int) + 2 ≤ (s.size : Int)) = false := by simp; omega
        go_wp2_with fail
        go_quiet (fail)
        go_wp2_with fail
        go_roundw
        case rel => exact ⟨k + 1, _, by omega, hno', by go_num, rfl⟩
        case measure => simp [intOf]; omega
    · obtain rfl : k = 4 := by omega
      have hsn := sgn_no (s.data.toList.drop p) (by rw [Hlen.out]; omega) hno
      rw [head_drop, getD_eq s p hp] at hsn
      have Hsn := Lib.hid hsn
      clear hsn
      have hbm := below_drewN hb m
      generalize W.drewN m = W1 at *
      go_wp2_with fail
      obtain ⟨O, hO, hOs, hOd⟩ : ∃ O : ByteArray, (⟨#[123, 125, 40, 41, 59, 44, 46, 61, 60, 62, 43, 45, 42, 47, 37]⟩ : ByteArray) = O ∧ O.size = 15 ∧ O.data.toList = oneL := ⟨_, rfl, rfl, rfl⟩
      rw [hO]
      have HOd := Lib.hid hOd
      clear hO hOd
      go_loopw [8] (fun i wr => ∃ (k m : Nat), k ≤ 15 ∧ NoOne s[p] k ∧ i = .int .i64 k ∧ wr = W1.drewN m) (fun i _ => 15 - (intOf i).toNat)
      case atStart => exact ⟨0, 0, by omega, fun j h => by omega, rfl, rfl⟩
      case round =>
        obtain ⟨k, m2, hk2, hno2, rfl, rfl⟩ := hrel
        by_cases hlt2 : k < 15
        · have hkO : k < O.size := by rw [hOs]; exact hlt2
          have hget : oneL.getD k 0 = O[k] := by rw [← HOd.out, getD_eq O k hkO]
          have hmem : O[k] ∈ oneL := by
            rw [← hget, List.getD_eq_getElem?_getD, List.getElem?_eq_getElem (show k < oneL.length from hlt2)]
            exact List.getElem_mem _
          rcases Bool.eq_false_or_eq_true ((O[k].toNat : Int) == (s[p].toNat : Int)) with he | he
          · have hes : O[k] = s[p] := (u8_int _ _).1 (beq_iff_eq.1 he)
            have Hfin := Lib.hid (show sgnLen (s.data.toList.drop p) = 1 by rw [Hsn.out, if_pos (by rw [← hes]; exact hmem)])
            clear hes hmem hget
            go_wp2_with fail
            go_quiet (fail)
            go_wp2_with fail
            go_ret
            exact ⟨by rw [Hfin.out]; rfl, below_drewN (below_drewN hbm _) _⟩
          · have hno2' : NoOne s[p] (k + 1) := fun j hj => by
              rcases Nat.lt_or_ge j k with h | h
              · exact hno2 j h
              · rw [show j = k from by omega, hget]
                exact fun e => beq_eq_false_iff_ne.1 he (by rw [e])
            clear hmem hget
            go_wp2_with fail
            go_quiet (fail)
            go_wp2_with fail
            go_roundw
            case rel => exact ⟨k + 1, _, by omega, hno2', by go_num, rfl⟩
            case measure => simp [intOf]; omega
        · have Hfin := Lib.hid (show sgnLen (s.data.toList.drop p) = 0 by
            rw [Hsn.out, if_neg]
            intro hx
            obtain ⟨j, hj, e⟩ := List.getElem_of_mem hx
            have hj15 : j < 15 := hj
            have h1 := hno2 j (by omega)
            rw [List.getD_eq_getElem?_getD, List.getElem?_eq_getElem hj] at h1
            exact h1 e)
          go_wp2_with fail
          go_ret
          exact ⟨by rw [Hfin.out]; rfl, below_drewN hbm _⟩
end Go.Proofs.Ytlnfilefpehnbaa
