/-
  jetsamtop.stands: words are read, whatever the memory is.
-/
import Derived.Test.YtefdfggkhnahiaaUse
import Derived.Laws.StructEq
import Derived.Test.YtefdfggkhnahiaaNx
namespace Go.Proofs.Ytefdfggkhnahiaa
open Go.RowKit

theorem lexR_st : lexR ⟨#[120, 32, 61, 32, 49, 48, 32, 59]⟩ = ([⟨1, ⟨#[120]⟩, 0, 0⟩, ⟨3, ⟨#[61]⟩, 0, 2⟩, ⟨2, ⟨#[49, 48]⟩, 10, 4⟩, ⟨3, ⟨#[59]⟩, 0, 7⟩], 0, 0) := by kernel_rfl

set_option maxHeartbeats 1000000 in
theorem stands_any (w : World) : Calls Try.prog 37 #[] w fun e w' => e = .returned (.bool true) ∧ Below w.heap.size w w' := by
  go_enter Try.func37, Try.ntmps37
  go_wp2_with fail
  refine (lex_good lexR_st w (by decide) rfl).mono ?_
  rintro e w1 ⟨A, c, rfl, hown, hb1⟩
  obtain ⟨g, rfl, _, hg, _, hc⟩ := own_slice hown (by decide)
  have c2 := hc 10 _ rfl
  clear hc hown
  go_wp2
  go_ret
  exact ⟨rfl, hb1⟩
end Go.Proofs.Ytefdfggkhnahiaa
namespace Go.Proofs.Ytefdfggkhnahiaa.Sx.Z
open Go.RowKit
theorem dok_i16 {d : D} (h : DOk (.int .i16) d) : -32768 ≤ d.toI ∧ d.toI ≤ 32767 := by
  cases h with
  | int k d h => simp [Lit.wf, IntKind.min, IntKind.max, IntKind.bits, IntKind.signed] at h; omega
theorem stands_ok : ConOK Try.prog 37 standsC := by
  refine ⟨fun _ _ => by kernel_rfl, ?_⟩
  intro hp fr args e he _ w0 w ρ vs _ _ ha
  cases args with
  | cons x l =>
    have : standsC hp fr (x :: l) = none := by cases x <;> rfl
    rw [this] at he; cases he
  | nil =>
    cases vs with
    | cons v r => exact ha.elim
    | nil =>
      have h0 : standsC hp fr [] = some { val := .one (.sc (.bool (.sym true))), vc := [], st := [] } := rfl
      rw [h0] at he
      obtain rfl := Option.some.inj he
      refine (stands_any w).mono ?_
      rintro en w' ⟨rfl, hb⟩
      exact ⟨ρ, _, rfl, rfl, ⟨⟨fun _ _ h => h, fun _ _ => rfl, fun _ _ h => h, rfl, rfl⟩, fun _ _ => rfl, hb.mono (Nat.zero_le _), fun b hlt _ => hb.block b hlt, fun _ _ h => by simp [look] at h, fun _ _ h => by simp [look] at h, fun _ _ _ _ h => by simp [look] at h, fun _ _ h => .inl h⟩⟩
end Go.Proofs.Ytefdfggkhnahiaa.Sx.Z
