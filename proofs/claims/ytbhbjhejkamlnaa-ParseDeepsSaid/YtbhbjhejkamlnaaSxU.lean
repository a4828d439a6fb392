/-
  Contracts of functions that call themselves.
-/
import Derived.Test.YtbhbjhejkamlnaaSxP
namespace Go.Proofs.Ytbhbjhejkamlnaa.Sx
open Go.RowKit
/-- The contract, for what lies under a measure. -/
def FSpec.under (spec : FSpec) (μ : List Dat → Nat) (m : Nat) : FSpec := fun ds fr => match spec ds fr with
  | some e => some { e with vc := (μ ds < m) :: e.vc }
  | none => none
/-- A function that calls itself keeps its contract, if it keeps it for what lies under m + 1 as far as it keeps it for what lies under m. -/
theorem con_rec {P : Program} {f : FuncId} {aps : List AP} {spec : FSpec} (μ : List Dat → Nat) (hen : ∀ (args : Array Value) (w : World), (callFunc f args).run P w = .ok (.enter f args) w) (H : ∀ m, ConOK P f (con aps (spec.under μ m)) → ConOK P f (con aps (spec.under μ (m + 1)))) : ConOK P f (con aps spec) := by
  have all : ∀ m, ConOK P f (con aps (spec.under μ m)) := fun m => by
    induction m with
    | zero =>
      refine ⟨hen, fun hp fr args e he hv => ?_, fun hp fr caps e h => by rw [con_jf] at h; cases h⟩
      exfalso
      unfold con at he
      split at he
      · rename_i ds ps hfl
        split at he
        · rename_i e' hs
          unfold FSpec.under at hs
          split at hs
          · rename_i e2 h2
            simp only [Option.some.injEq] at hs he
            subst hs
            subst he
            exact Nat.not_lt_zero _ (all_append.1 hv).2.1
          · cases hs
        · cases he
      · cases he
    | succ m ih => exact H m ih
  refine ⟨hen, fun hp fr args e he hv => ?_, fun hp fr caps e h => by rw [con_jf] at h; cases h⟩
  have he0 := he
  unfold con at he
  split at he
  · rename_i ds ps hfl
    split at he
    · rename_i e' hs
      simp only [Option.some.injEq] at he
      subst he
      have hu : con aps (spec.under μ (μ ds + 1)) hp fr args = some { e' with vc := ps ++ (μ ds < μ ds + 1) :: e'.vc, st := if plainE e' then [] else kills (keepOwn hp (idsX hp args)) } := by
        unfold con
        rw [hfl]
        show (match spec.under μ (μ ds + 1) ds fr with | some e => some { e with vc := ps ++ e.vc, st := if plainE e then [] else kills (keepOwn hp (idsX hp args)) } | none => none) = _
        unfold FSpec.under
        rw [hs]
        rfl
      intro w0 w ρ vs hw hn ha
      have ha2 := all_append.1 hv
      exact ((all (μ ds + 1)).calls hp fr args _ hu (all_append.2 ⟨ha2.1, Nat.lt_succ_self _, ha2.2⟩) w0 w ρ vs hw hn ha).mono fun en w' h => by
        obtain ⟨ρ', v, h1, h2, h3⟩ := h
        exact ⟨ρ', v, h1, h2, ⟨h3.ext, h3.only, h3.below, h3.keep, h3.st, h3.nw, h3.apart, h3.fz⟩⟩
    · cases he
  · cases he
end Go.Proofs.Ytbhbjhejkamlnaa.Sx
