/-
  reads, the two examples of every law of lex: true, whatever the memory is.
-/
import Derived.Test.YtlnfilefpehnbaaLex
import Derived.Laws.StructEq
namespace Go.Proofs.Ytlnfilefpehnbaa
open Go.RowKit

theorem own_slice {base : Nat} {e : TypeId} {size n c : Nat} {A : Option Addr} {xs : List Value} {w : World} (h : w.ownsRow base e size (.slice A n c) n xs) (hn : 0 < n) :
    ∃ g, A = some ⟨g, 0, none⟩ ∧ base ≤ g ∧ g < w.heap.size ∧ n ≤ c ∧ ∀ j u, xs[j]? = some u → w.cell? ⟨g, j, none⟩ = some u := by
  rcases h.2 with ⟨_, h0⟩ | ⟨g, cap, cur, hv, hg, hh, h1, h2, h3, h4⟩
  · omega
  · injection hv with hA _ hc
    subst hA
    have hlt := (h.lt g rfl).2
    refine ⟨g, rfl, hg, hlt, by omega, fun j u hu => ?_⟩
    rw [cell_of_row w g j cur e (0, 0) hh]
    rw [← h4, List.getElem?_take] at hu
    split at hu
    · simpa using hu
    · cases hu
theorem lex_good {s : ByteArray} {acc : List Tok} (h : lexR s = (acc, 0, 0)) (w : World) (hs : s.size ≤ 140737488351232) {n : Nat} (hn : acc.length = n) :
    Calls Try.prog 11 #[.string s] w fun e w' => ∃ A c, e = .returned (.tuple #[.slice A n c, .int .i64 0, .int .i64 0]) ∧ w'.ownsRow w.heap.size 32 4 (.slice A n c) n (tcells acc) ∧ Below w.heap.size w w' := by
  subst hn
  refine (lex_any s w hs).mono fun e w' hp => ?_
  unfold LexPost at hp
  rw [h] at hp
  exact hp
theorem lex_bad {s : ByteArray} {p : Nat} {x : Int} (h : lexR s = ([], p, x)) (w : World) (hs : s.size ≤ 140737488351232) :
    Calls Try.prog 11 #[.string s] w fun e w' => ∃ A c, e = .returned (.tuple #[.slice A 0 c, .int .i64 p, .int .i64 x]) ∧ Below w.heap.size w w' := by
  refine (lex_any s w hs).mono fun e w' hp => ?_
  unfold LexPost at hp
  rw [h] at hp
  obtain ⟨A, c, rfl, ho, hb⟩ := hp
  exact ⟨A, c, rfl, hb⟩
theorem lexR_c1 : lexR ⟨#[120, 61, 49, 48, 59]⟩ = ([⟨1, ⟨#[120]⟩, 0, 0⟩, ⟨3, ⟨#[61]⟩, 0, 1⟩, ⟨2, ⟨#[49, 48]⟩, 10, 2⟩, ⟨3, ⟨#[59]⟩, 0, 4⟩], 0, 0) := by kernel_rfl
theorem lexR_c2 : lexR ⟨#[32, 48, 49]⟩ = ([], 1, 3) := by kernel_rfl

set_option maxHeartbeats 1000000 in
theorem reads_any (w : World) : Calls Try.prog 13 #[] w fun e w' => e = .returned (.bool true) ∧ Below w.heap.size w w' := by
  go_enter Try.func13, Try.ntmps13
  go_wp2_with fail
  refine (lex_good lexR_c1 w (by decide) rfl).mono ?_
  rintro e w1 ⟨A, c, rfl, hown, hb1⟩
  obtain ⟨g, rfl, _, hg, _, hc⟩ := own_slice hown (by decide)
  have c0 := hc 8 _ rfl
  have c1 := hc 9 _ rfl
  have c2 := hc 10 _ rfl
  have c3 := hc 11 _ rfl
  clear hc hown
  go_wp2_with fail
  refine (lex_bad lexR_c2 w1 (by decide)).mono ?_
  rintro e w2 ⟨A2, cap2, rfl, hb2⟩
  rw [← hb2.cell (p := ⟨g, 8, none⟩) hg] at c0
  rw [← hb2.cell (p := ⟨g, 9, none⟩) hg] at c1
  rw [← hb2.cell (p := ⟨g, 10, none⟩) hg] at c2
  rw [← hb2.cell (p := ⟨g, 11, none⟩) hg] at c3
  go_wp2
  go_ret
  exact ⟨rfl, hb1.trans (hb2.mono hb1.size)⟩
end Go.Proofs.Ytlnfilefpehnbaa
