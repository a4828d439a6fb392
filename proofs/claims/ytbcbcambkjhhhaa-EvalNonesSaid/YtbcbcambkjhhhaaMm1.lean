/-
  A tree that comes in has no more parts than a slice may have.
-/
import Derived.Test.YtbcbcambkjhhhaaMk1
import Derived.Test.YtbcbcambkjhhhaaMl1
namespace Go.Proofs.Ytbcbcambkjhhhaa.Sx.Z
open Go.RowKit
theorem small_in : ∀ (N : Nat) (d : D), SizeOf.sizeOf d < N → DOkB Try.prog (.slice 24) d → ∀ k n v, SmallB (ex k n v d)
  | 0, d, h, _, _, _, _ => absurd h (Nat.not_lt_zero _)
  | N + 1, d, h, hd, k, n, v => by
    cases hd with
    | slice _ _ h1 h2 =>
      have hb : Try.prog.bytesOf 24 = 48 := by kernel_rfl
      rw [hb] at h1
      have hr : reachBytes = 140737488351232 := rfl
      refine .mk k n v (exs d) (by rw [exs_len]; omega) fun x hx => ?_
      obtain ⟨i, hi, hg⟩ := List.getElem_of_mem hx
      have hi : i < d.len := by rw [exs_len] at hi; exact hi
      have hx2 : (exs d)[i]? = some x := by rw [List.getElem?_eq_getElem (by rw [exs_len]; exact hi), hg]
      rw [exs_get hi] at hx2
      obtain rfl := Option.some.inj hx2
      exact small_in N (d.el i 3) (by have := el_lt (j := 3) hi; omega) (h2 i 3 _ hi rfl) _ _ _
end Go.Proofs.Ytbcbcambkjhhhaa.Sx.Z
