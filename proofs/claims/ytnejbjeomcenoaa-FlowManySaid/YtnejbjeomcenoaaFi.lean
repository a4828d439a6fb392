/-
  slices.Sort of no number, and of one.
-/
import Derived.Test.YtnejbjeomcenoaaFa
namespace Go.Proofs.Ytnejbjeomcenoaa
open Go.RowKit

set_option maxRecDepth 100000 in
set_option maxHeartbeats 2000000 in
theorem ins_few (D : Option Addr) (n c : Nat) (hn : n ≤ 1) (w : World) :
    Calls Try.prog 53 #[.slice D n c, .int .i64 0, .int .i64 n] w fun e w' => e = .returned (.tuple #[]) ∧ w = w' := by
  go_enter Try.func53, Try.ntmps53
  go_wp2_with fail
  go_loop [6] (fun i => i = .int .i64 1) (fun _ => 0)
  case atStart => rfl
  case round =>
    subst hrel
    go_wp2_with fail
    go_end0
    exact ⟨rfl, rfl⟩

set_option maxRecDepth 100000 in
set_option maxHeartbeats 2000000 in
theorem pdq_few (D : Option Addr) (n c : Nat) (l : Int) (hn : n ≤ 1) (w : World) :
    Calls Try.prog 36 #[.slice D n c, .int .i64 0, .int .i64 n, .int .i64 l] w fun e w' => e = .returned (.tuple #[]) ∧ w = w' := by
  go_enter Try.func36, Try.ntmps36
  go_wp2_with fail
  go_loop [1, 2, 3, 8, 9] (fun a b d x y => a = .int .i64 0 ∧ b = .int .i64 n ∧ d = .int .i64 l ∧ x = .bool true ∧ y = .bool true) (fun _ _ _ _ _ => 0)
  case atStart => exact ⟨rfl, rfl, rfl, rfl, rfl⟩
  case round =>
    obtain ⟨rfl, rfl, rfl, rfl, rfl⟩ := hrel
    go_wp2_with (go_at_call 53; refine (ins_few D n c hn _).mono ?_; rintro e w' ⟨rfl, rfl⟩)
    go_returns
    exact ⟨rfl, rfl⟩

set_option maxRecDepth 100000 in
set_option maxHeartbeats 2000000 in
theorem len_few (n : Nat) (hn : n ≤ 1) (w : World) :
    Calls Try.prog 37 #[.int .u64 n] w fun e w' => e = .returned (.int .i64 n) ∧ w = w' := by
  have hc : n = 0 ∨ n = 1 := by omega
  rcases hc with rfl | rfl
  all_goals
    go_enter Try.func37, Try.ntmps37
    go_wp2
    go_ret
    first | exact ⟨by kernel_rfl, rfl⟩ | exact ⟨by simp, rfl⟩

set_option maxRecDepth 100000 in
set_option maxHeartbeats 2000000 in
theorem sort_few (D : Option Addr) (n c : Nat) (hn : n ≤ 1) (w : World) :
    Calls Try.prog 23 #[.slice D n c] w fun e w' => e = .returned (.tuple #[]) ∧ w = w' := by
  go_enter Try.func23, Try.ntmps23
  go_wp2_with fail
  refine (len_few n hn _).mono ?_
  rintro e w' ⟨rfl, rfl⟩
  go_wp2_with fail
  refine (pdq_few D n c _ hn _).mono ?_
  rintro e w' ⟨rfl, rfl⟩
  go_wp2_with fail
  go_end0
  exact ⟨rfl, rfl⟩
end Go.Proofs.Ytnejbjeomcenoaa

