/-
  lex.Lex in the two forms that the walks of its callers use; a slice of one's own read cell by cell.
-/
import Derived.Test.YtefdfggkhnahiaaLex
namespace Go.Proofs.Ytefdfggkhnahiaa
open Go.RowKit

theorem own_slice {base : Nat} {e : TypeId} {size n c : Nat} {A : Option Addr} {xs : List Value} {w : World} (h : w.ownsRow base e size (.slice A n c) n xs) (hn : 0 < n) :
    ∃ g, A = some ⟨g, 0, none⟩ ∧ base ≤ g ∧ g < w.heap.size ∧ n ≤ c ∧ ∀ j u, xs[j]? = some u → w.cell? ⟨g, j, none⟩ = some u := by
  rcases h.2 with ⟨_, h0⟩ | ⟨g, cap, cur, hv, hg, hh, h1, h2, h3, h4⟩
  · omega
  · injection hv with hA _ hc
    subst hA
    have hlt := (h.lt g rfl).2
    refine ⟨g, rfl, hg, hlt, by omega, fun j u hu => ?_⟩
    rw [cell_of_row w g j cur e (0, 0) hh]
    rw [← h4, List.getElem?_take] at hu
    split at hu
    · simpa using hu
    · cases hu
theorem lex_good {s : ByteArray} {acc : List Tok} (h : lexR s = (acc, 0, 0)) (w : World) (hs : s.size ≤ 140737488351232) {n : Nat} (hn : acc.length = n) :
    Calls Try.prog 59 #[.string s] w fun e w' => ∃ A c, e = .returned (.tuple #[.slice A n c, .int .i64 0, .int .i64 0]) ∧ w'.ownsRow w.heap.size 89 4 (.slice A n c) n (tcells acc) ∧ Below w.heap.size w w' := by
  subst hn
  refine (lex_any s w hs).mono fun e w' hp => ?_
  unfold LexPost at hp
  rw [h] at hp
  exact hp
theorem lex_bad {s : ByteArray} {p : Nat} {x : Int} (h : lexR s = ([], p, x)) (w : World) (hs : s.size ≤ 140737488351232) :
    Calls Try.prog 59 #[.string s] w fun e w' => ∃ A c, e = .returned (.tuple #[.slice A 0 c, .int .i64 p, .int .i64 x]) ∧ Below w.heap.size w w' := by
  refine (lex_any s w hs).mono fun e w' hp => ?_
  unfold LexPost at hp
  rw [h] at hp
  obtain ⟨A, c, rfl, ho, hb⟩ := hp
  exact ⟨A, c, rfl, hb⟩
end Go.Proofs.Ytefdfggkhnahiaa
