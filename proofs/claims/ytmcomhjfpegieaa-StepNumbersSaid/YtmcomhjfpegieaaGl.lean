/-
  flow's small tests of a graph without heads.
-/
import Derived.Test.YtmcomhjfpegieaaGb
namespace Go.Proofs.Ytmcomhjfpegieaa
open Go.RowKit

set_option maxRecDepth 100000 in
set_option maxHeartbeats 2000000 in
theorem heads_nil {HH : Option Addr} {hc : Nat} (N : Int) (E : Option Addr) (ne ce : Nat) (w : World) :
    Calls Try.prog 39 #[.agg #[.int .i64 N, .slice E ne ce, .slice HH 0 hc]] w fun e w' => e = .returned (.bool true) ∧ Below w.heap.size w w' := by
  go_enter Try.func39, Try.ntmps39
  go_wp2_with fail
  refine wp_loop_rounds 1 ?_
  rw [rounds_succ]
  go_wp2_with fail
  go_ret
  exact ⟨rfl, (Below.refl _ _).alloc (Nat.le_refl _) _⟩

set_option maxRecDepth 100000 in
set_option maxHeartbeats 2000000 in
theorem node_yes {HH : Option Addr} {hc : Nat} (N x : Int) (E : Option Addr) (ne ce : Nat) (w : World) (h0 : 0 ≤ x) (h1 : x < N) :
    Calls Try.prog 40 #[.agg #[.int .i64 N, .slice E ne ce, .slice HH 0 hc], .int .i64 x] w fun e w' => e = .returned (.bool true) ∧ Below w.heap.size w w' := by
  go_enter Try.func40, Try.ntmps40
  go_wp2
  go_ret
  exact ⟨by simp [h1], (Below.refl _ _).alloc (Nat.le_refl _) _⟩

set_option maxRecDepth 100000 in
set_option maxHeartbeats 2000000 in
theorem search_nil {HH : Option Addr} {hc : Nat} (x : Int) (w : World) :
    Calls Try.prog 67 #[.slice HH 0 hc, .int .i64 x] w fun e w' => e = .returned (.tuple #[.int .i64 0, .bool false]) ∧ w = w' := by
  go_enter Try.func67, Try.ntmps67
  go_wp2_with fail
  refine wp_loop_rounds 1 ?_
  rw [rounds_succ]
  go_wp2_with fail
  go_ret2
  exact ⟨rfl, rfl⟩

set_option maxRecDepth 100000 in
set_option maxHeartbeats 2000000 in
theorem head_no {HH : Option Addr} {hc : Nat} (N x : Int) (E : Option Addr) (ne ce : Nat) (w : World) :
    Calls Try.prog 52 #[.agg #[.int .i64 N, .slice E ne ce, .slice HH 0 hc], .int .i64 x] w fun e w' => e = .returned (.bool false) ∧ Below w.heap.size w w' := by
  go_enter Try.func52, Try.ntmps52
  go_wp2_with fail
  refine (search_nil x _).mono ?_
  rintro e w1 ⟨rfl, rfl⟩
  go_wp2_with fail
  go_ret
  exact ⟨rfl, (Below.refl _ _).alloc (Nat.le_refl _) _⟩

set_option maxRecDepth 100000 in
set_option maxHeartbeats 2000000 in
theorem leaving_end (w : World) :
    Calls Try.prog 41 #[.int .i64 1, .slice none 0 0] w fun e w' => e = .returned (.bool true) ∧ w = w' := by
  go_enter Try.func41, Try.ntmps41
  go_wp2
  go_ret
  exact ⟨rfl, rfl⟩

set_option maxRecDepth 100000 in
set_option maxHeartbeats 2000000 in
theorem leaving_one (x : Nat) (c : Nat) (w : World) (hc : 1 ≤ c) (hk : w.cell? ⟨x, 2, none⟩ = some (.int .i64 1)) :
    Calls Try.prog 41 #[.int .i64 0, .slice (some ⟨x, 0, none⟩) 1 c] w fun e w' => e = .returned (.bool true) ∧ w = w' := by
  go_enter Try.func41, Try.ntmps41
  go_wp2
  go_ret
  exact ⟨rfl, rfl⟩
end Go.Proofs.Ytmcomhjfpegieaa

