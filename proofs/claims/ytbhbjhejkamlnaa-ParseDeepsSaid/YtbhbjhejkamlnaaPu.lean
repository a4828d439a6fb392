/-
  parse: factor, product, sum, whatever the words.
-/
import Derived.Test.YtbhbjhejkamlnaaPt
namespace Go.Proofs.Ytbhbjhejkamlnaa.Sx.Z
open Go.RowKit
theorem fl_nx (ws : D) (en e : Int) (r : Rd) : (fl ws en e r).nx = ws.len := by
  unfold fl
  split <;> rfl
theorem fl_up {ws : D} (en e : Int) {r : Rd} (h : rdOK ws r.nx) : rdOK ws (fl ws en e r).nx ∧ r.nx ≤ (fl ws en e r).nx := by
  obtain ⟨a, b, c⟩ := h
  rw [fl_nx]
  exact ⟨⟨by omega, by omega, c⟩, b⟩
theorem gx_up {ws : D} {r : Rd} (h : rdOK ws r.nx) (hl : r.nx < ws.len) : rdOK ws (gx r).nx ∧ r.nx ≤ (gx r).nx := by
  have e5 : (gx r).nx = r.nx + 1 := rfl
  exact ⟨(gx_ok h hl).1, by omega⟩
theorem ex_up {ws : D} (en : Int) {t : ByteArray} {r : Rd} (h : rdOK ws r.nx) (ht : 0 < t.size) : rdOK ws (exR ws en t r).nx ∧ r.nx ≤ (exR ws en t r).nx := by
  cases ha : acB ws r.nx t with
  | true =>
    rw [exR_yes ha]
    exact gx_up h (ac_lt ht ha)
  | false =>
    rw [exR_no ha]
    exact fl_up en 5 h
theorem nm_up {ws : D} (en : Int) {r : Rd} (h : rdOK ws r.nx) : rdOK ws (nmR ws en r).nx ∧ r.nx ≤ (nmR ws en r).nx := by
  unfold nmR
  split
  · rename_i hk
    exact gx_up h (pk_lt (by rw [hk]; decide))
  · exact fl_up en 5 h
theorem nu_up {ws : D} (en : Int) {r : Rd} (h : rdOK ws r.nx) : rdOK ws (nuR ws en r).nx ∧ r.nx ≤ (nuR ws en r).nx := by
  unfold nuR
  split
  · rename_i hk
    exact gx_up h (pk_lt (by rw [hk]; decide))
  · exact fl_up en 5 h
theorem fcB_up {P : PF} (hPa : ∀ en ws dp, PaOK ws (P en ws dp)) (en : Int) (ws : D) (dp : Int) : PaOK ws (fcB P en ws dp) := ⟨fun r h => by
  unfold fcB
  split
  · have u := nu_up en h
    exact ⟨u.2, u.1, Nat.zero_le _⟩
  · split
    · rename_i hm
      obtain ⟨n1, n2, n3⟩ := ne_up (en := en) (dp := dp) h (show 0 < miB.size by decide) hm
      obtain ⟨u1, u2, u3⟩ := (hPa en ws (dp + 1)).up _ n1
      exact ⟨Int.le_trans n3 u1, u2, (show 1 ≤ 2 by decide)⟩
    · split
      · rename_i hm
        obtain ⟨n1, n2, n3⟩ := ne_up (en := en) (dp := dp) h (show 0 < opB.size by decide) hm
        obtain ⟨u1, u2, u3⟩ := (smF_up hPa en ws (dp + 1)).up _ n1
        obtain ⟨w1, w2⟩ := ex_up en (t := clB) u2 (by decide)
        exact ⟨Int.le_trans n3 (Int.le_trans u1 w2), w1, u3⟩
      · have u := nm_up en h
        exact ⟨u.2, u.1, Nat.zero_le _⟩⟩
/-- A factor, as far as so many words go. -/
def fcR : Nat → PF
  | 0 => fun _ _ _ r => (⟨0, 0, ByteArray.empty, .l []⟩, r)
  | m + 1 => fcB (fcR m)
theorem fcR_up : ∀ (m : Nat) (en : Int) (ws : D) (dp : Int), PaOK ws (fcR m en ws dp)
  | 0, _, _, _ => ⟨fun _ h => ⟨Int.le_refl _, h, Nat.zero_le _⟩⟩
  | m + 1, en, ws, dp => fcB_up (fcR_up m) en ws dp
theorem part_zero {F : PF} : ConOK Try.prog 109 (partC F 0) := by
  refine ⟨fun _ _ => by kernel_rfl, fun hp fr args e he hv => ?_, fun hp fr caps e h => by cases h⟩
  exfalso
  obtain ⟨ds, e1, sg, ps1, ps2, hs, hvc, _⟩ := conM_in he
  rw [hvc] at hv
  obtain ⟨_, hv⟩ := all_append.1 hv
  obtain ⟨_, hv⟩ := all_append.1 hv
  unfold partS at hs
  split at hs
  · simp only [Option.some.injEq, Prod.mk.injEq] at hs
    obtain ⟨rfl, rfl⟩ := hs
    exact Nat.not_lt_zero _ hv.2.2.1
  · cases hs
theorem fac_all : ∀ m, ConOK Try.prog 109 (partC (fcR m) m)
  | 0 => part_zero
  | m + 1 => fac_ok (P := fcR m) (m := m) (fac_all m) (fcR_up m)
theorem sum_all (m : Nat) : ConOK Try.prog 99 (partC (smF (fcR m)) m) := smF_ok (fac_all m) (fcR_up m)
end Go.Proofs.Ytbhbjhejkamlnaa.Sx.Z
