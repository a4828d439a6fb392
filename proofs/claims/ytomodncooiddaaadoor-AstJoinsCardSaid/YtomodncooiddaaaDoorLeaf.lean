/-
  The small functions of lex: whether a byte is a gap, a letter, a digit; for every byte, in every memory.
-/
import Derived.Test.YtomodncooiddaaaDoorProg
import Derived.Test.YtomodncooiddaaaDoorPlain
import Derived.WalkKit
import Derived.WalkLawsBesides
import Derived.WalkSpells
import Derived.Outline
import Derived.Lib.Hide
namespace Go.Proofs.YtomodncooiddaaaDoor
open Go.RowKit

theorem gap_any (n : Int) (w : World) : Calls Tryd.prog 27 #[.int .u8 n] w fun e w' => e = .returned (.bool (gapB n)) ∧ w = w' := by
  unfold gapB
  go_enter Tryd.func27, Tryd.ntmps27
  go_wp2
  all_goals
    go_ret
    exact ⟨by first | (simp [*]; done) | (simp [*]; omega), rfl⟩
theorem let_any (n : Int) (w : World) : Calls Tryd.prog 54 #[.int .u8 n] w fun e w' => e = .returned (.bool (letB n)) ∧ w = w' := by
  unfold letB
  go_enter Tryd.func54, Tryd.ntmps54
  go_wp2
  all_goals
    go_ret
    exact ⟨by first | (simp [*]; done) | (simp [*]; omega), rfl⟩
theorem dig_any (n : Int) (w : World) : Calls Tryd.prog 56 #[.int .u8 n] w fun e w' => e = .returned (.bool (digB n)) ∧ w = w' := by
  unfold digB
  go_enter Tryd.func56, Tryd.ntmps56
  go_wp2
  all_goals
    go_ret
    exact ⟨by first | (simp [*]; done) | (simp [*]; omega), rfl⟩
end Go.Proofs.YtomodncooiddaaaDoor
