/-
  The small functions of lex: whether a byte is a gap, a letter, a digit; for every byte, in every memory.
-/
import Derived.Test.YtefdfggkhnahiaaProg
import Derived.Test.YtefdfggkhnahiaaPlain
import Derived.WalkKit
import Derived.WalkLawsBesides
import Derived.WalkSpells
import Derived.Outline
import Derived.Lib.Hide
namespace Go.Proofs.Ytefdfggkhnahiaa
open Go.RowKit

theorem gap_any (n : Int) (w : World) : Calls Try.prog 70 #[.int .u8 n] w fun e w' => e = .returned (.bool (gapB n)) ∧ w = w' := by
  unfold gapB
  go_enter Try.func70, Try.ntmps70
  go_wp2
  all_goals
    go_ret
    exact ⟨by first | (simp [*]; done) | (simp [*]; omega), rfl⟩
theorem let_any (n : Int) (w : World) : Calls Try.prog 74 #[.int .u8 n] w fun e w' => e = .returned (.bool (letB n)) ∧ w = w' := by
  unfold letB
  go_enter Try.func74, Try.ntmps74
  go_wp2
  all_goals
    go_ret
    exact ⟨by first | (simp [*]; done) | (simp [*]; omega), rfl⟩
theorem dig_any (n : Int) (w : World) : Calls Try.prog 76 #[.int .u8 n] w fun e w' => e = .returned (.bool (digB n)) ∧ w = w' := by
  unfold digB
  go_enter Try.func76, Try.ntmps76
  go_wp2
  all_goals
    go_ret
    exact ⟨by first | (simp [*]; done) | (simp [*]; omega), rfl⟩
end Go.Proofs.Ytefdfggkhnahiaa
