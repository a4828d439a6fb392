/-
  The small functions of lex: whether a byte is a gap, a letter, a digit; for every byte, in every memory.
-/
import Derived.Test.YtbhbjhejkamlnaaProg
import Derived.Test.YtbhbjhejkamlnaaPlain
import Derived.WalkKit
import Derived.WalkLawsBesides
import Derived.WalkSpells
import Derived.Outline
import Derived.Lib.Hide
namespace Go.Proofs.Ytbhbjhejkamlnaa
open Go.RowKit

theorem gap_any (n : Int) (w : World) : Calls Try.prog 34 #[.int .u8 n] w fun e w' => e = .returned (.bool (gapB n)) ∧ w = w' := by
  unfold gapB
  go_enter Try.func34, Try.ntmps34
  go_wp2
  all_goals
    go_ret
    exact ⟨by first | (simp [*]; done) | (simp [*]; omega), rfl⟩
theorem let_any (n : Int) (w : World) : Calls Try.prog 61 #[.int .u8 n] w fun e w' => e = .returned (.bool (letB n)) ∧ w = w' := by
  unfold letB
  go_enter Try.func61, Try.ntmps61
  go_wp2
  all_goals
    go_ret
    exact ⟨by first | (simp [*]; done) | (simp [*]; omega), rfl⟩
theorem dig_any (n : Int) (w : World) : Calls Try.prog 63 #[.int .u8 n] w fun e w' => e = .returned (.bool (digB n)) ∧ w = w' := by
  unfold digB
  go_enter Try.func63, Try.ntmps63
  go_wp2
  all_goals
    go_ret
    exact ⟨by first | (simp [*]; done) | (simp [*]; omega), rfl⟩
end Go.Proofs.Ytbhbjhejkamlnaa
