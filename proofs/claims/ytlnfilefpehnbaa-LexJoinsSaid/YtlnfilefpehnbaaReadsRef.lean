/-
  The reference's words in the two forms that the laws' walks use.
-/
import Derived.Test.YtlnfilefpehnbaaRefLex
import Derived.Test.YtlnfilefpehnbaaPlainShift
namespace Go.Proofs.Ytlnfilefpehnbaa
open Go.RowKit

theorem rlex_good {s : ByteArray} {acc : List Tok} (h : lexR s = (acc, 0, 0)) (w : World) (hs : s.size ≤ 2147483647) {n : Nat} (hn : acc.length = n) :
    Calls Try.prog 12 #[.string s] w fun e w' => ∃ A c, e = .returned (.tuple #[.slice A n c, .int .i64 0, .int .i64 0]) ∧ w'.ownsRow w.heap.size 33 4 (.slice A n c) n (tcells acc) ∧ Below w.heap.size w w' := by
  subst hn
  refine (rlex_any s w hs).mono fun e w' hp => ?_
  unfold RLexPost at hp
  rw [h] at hp
  exact hp
theorem rlex_bad {s : ByteArray} {p : Nat} {x : Int} (h : lexR s = ([], p, x)) (w : World) (hs : s.size ≤ 2147483647) :
    Calls Try.prog 12 #[.string s] w fun e w' => ∃ A c, e = .returned (.tuple #[.slice A 0 c, .int .i64 p, .int .i64 x]) ∧ Below w.heap.size w w' := by
  refine (rlex_any s w hs).mono fun e w' hp => ?_
  unfold RLexPost at hp
  rw [h] at hp
  obtain ⟨A, c, rfl, ho, hb⟩ := hp
  exact ⟨A, c, rfl, hb⟩
/-- lexR tells words, or a place and an error that is none of nought. -/
theorem lexR_cases (s : ByteArray) : (∃ p x, lexR s = ([], p, x) ∧ (x = 2 ∨ x = 3 ∨ x = 4) ∧ p ≤ s.size) ∨ (∃ acc, lexR s = (acc, 0, 0)) := by
  have hl : s.data.toList.length = s.size := Array.length_toList
  rw [lexR_lexF]
  unfold lexF
  rcases hw : lexW s.data.toList 0 [] with ⟨q, x⟩ | acc
  · have := lexW_bad _ _ _ _ _ _ (Nat.le_refl _) hw
    exact .inl ⟨q, x, rfl, by rcases this.1 with h | h <;> simp [h], by have := this.2; omega⟩
  · by_cases h : 2000 < acc.length
    · refine .inl ⟨s.data.toList.length, 4, ?_, .inr (.inr rfl), by omega⟩
      show (if 2000 < acc.length then _ else _) = _
      rw [if_pos h]
    · refine .inr ⟨acc, ?_⟩
      show (if 2000 < acc.length then _ else _) = _
      rw [if_neg h]
end Go.Proofs.Ytlnfilefpehnbaa
