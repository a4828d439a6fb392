/-
  The small functions of lex: whether a byte is a gap, a letter, a digit; for every byte, in every memory.
-/
import Derived.Test.YtehblppfclpojaaDoorProg
import Derived.Test.YtehblppfclpojaaDoorPlain
import Derived.WalkKit
import Derived.WalkLawsBesides
import Derived.WalkSpells
import Derived.Outline
import Derived.Lib.Hide
namespace Go.Proofs.YtehblppfclpojaaDoor
open Go.RowKit

theorem gap_any (n : Int) (w : World) : Calls Tryd.prog 21 #[.int .u8 n] w fun e w' => e = .returned (.bool (gapB n)) ∧ w = w' := by
  unfold gapB
  go_enter Tryd.func21, Tryd.ntmps21
  go_wp2
  all_goals
    go_ret
    exact ⟨by first | (simp [*]; done) | (simp [*]; omega), rfl⟩
theorem let_any (n : Int) (w : World) : Calls Tryd.prog 36 #[.int .u8 n] w fun e w' => e = .returned (.bool (letB n)) ∧ w = w' := by
  unfold letB
  go_enter Tryd.func36, Tryd.ntmps36
  go_wp2
  all_goals
    go_ret
    exact ⟨by first | (simp [*]; done) | (simp [*]; omega), rfl⟩
theorem dig_any (n : Int) (w : World) : Calls Tryd.prog 38 #[.int .u8 n] w fun e w' => e = .returned (.bool (digB n)) ∧ w = w' := by
  unfold digB
  go_enter Tryd.func38, Tryd.ntmps38
  go_wp2
  all_goals
    go_ret
    exact ⟨by first | (simp [*]; done) | (simp [*]; omega), rfl⟩
end Go.Proofs.YtehblppfclpojaaDoor
