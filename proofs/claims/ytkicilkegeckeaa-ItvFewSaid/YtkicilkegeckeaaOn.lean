/-
  The reference's One: what a kind makes of two numbers.
-/
import Derived.Test.YtkicilkegeckeaaIp
namespace Go.Proofs.Ytkicilkegeckeaa
open Go.RowKit
theorem w64i {x : Int} (h1 : -9223372036854775808 ≤ x) (h2 : x ≤ 9223372036854775807) : wrap64 x = x := by unfold wrap64; omega

set_option maxRecDepth 100000 in
theorem one_4_lo (x y : Int) (w : World) (n1 : -9223372036854775808 ≤ x + y) (n2 : x + y ≤ 9223372036854775807) (hr : x + y < -2147483648) :
    Calls Try.prog 22 #[.int .i64 4, .int .i64 x, .int .i64 y] w fun e w' => e = .returned (.tuple #[.int .i64 0, .int .i64 2]) ∧ w = w' := by
  have d0 : decide (x + y < -2147483648) = true := by simp; omega
  have e0 : wrap64 (x + y) = x + y := w64i n1 n2
  clear hr n1 n2
  go_enter Try.func22, Try.ntmps22
  go_wp2_with fail
  go_ret2
  exact ⟨by first | rfl | (simp; done) | (simp only [e0]; done) | (simp [e0]; done), rfl⟩
set_option maxRecDepth 100000 in
theorem one_4_hi (x y : Int) (w : World) (n1 : -9223372036854775808 ≤ x + y) (n2 : x + y ≤ 9223372036854775807) (hr : -2147483648 ≤ x + y ∧ 2147483647 < x + y) :
    Calls Try.prog 22 #[.int .i64 4, .int .i64 x, .int .i64 y] w fun e w' => e = .returned (.tuple #[.int .i64 0, .int .i64 2]) ∧ w = w' := by
  have d0 : decide (x + y < -2147483648) = false := by simp; omega
  have d1 : decide (2147483647 < x + y) = true := by simp; omega
  have e0 : wrap64 (x + y) = x + y := w64i n1 n2
  clear hr n1 n2
  go_enter Try.func22, Try.ntmps22
  go_wp2_with fail
  go_ret2
  exact ⟨by first | rfl | (simp; done) | (simp only [e0]; done) | (simp [e0]; done), rfl⟩
set_option maxRecDepth 100000 in
theorem one_4_in (x y : Int) (w : World) (n1 : -9223372036854775808 ≤ x + y) (n2 : x + y ≤ 9223372036854775807) (hr : -2147483648 ≤ x + y ∧ x + y ≤ 2147483647) :
    Calls Try.prog 22 #[.int .i64 4, .int .i64 x, .int .i64 y] w fun e w' => e = .returned (.tuple #[.int .i64 (x + y), .int .i64 0]) ∧ w = w' := by
  have d0 : decide (x + y < -2147483648) = false := by simp; omega
  have d1 : decide (2147483647 < x + y) = false := by simp; omega
  have e0 : wrap64 (x + y) = x + y := w64i n1 n2
  clear hr n1 n2
  go_enter Try.func22, Try.ntmps22
  go_wp2_with fail
  go_ret2
  exact ⟨by first | rfl | (simp; done) | (simp only [e0]; done) | (simp [e0]; done), rfl⟩
set_option maxRecDepth 100000 in
theorem one_5_lo (x y : Int) (w : World) (n1 : -9223372036854775808 ≤ x - y) (n2 : x - y ≤ 9223372036854775807) (hr : x - y < -2147483648) :
    Calls Try.prog 22 #[.int .i64 5, .int .i64 x, .int .i64 y] w fun e w' => e = .returned (.tuple #[.int .i64 0, .int .i64 2]) ∧ w = w' := by
  have d0 : decide (x - y < -2147483648) = true := by simp; omega
  have e0 : wrap64 (x - y) = x - y := w64i n1 n2
  clear hr n1 n2
  go_enter Try.func22, Try.ntmps22
  go_wp2_with fail
  go_ret2
  exact ⟨by first | rfl | (simp; done) | (simp only [e0]; done) | (simp [e0]; done), rfl⟩
set_option maxRecDepth 100000 in
theorem one_5_hi (x y : Int) (w : World) (n1 : -9223372036854775808 ≤ x - y) (n2 : x - y ≤ 9223372036854775807) (hr : -2147483648 ≤ x - y ∧ 2147483647 < x - y) :
    Calls Try.prog 22 #[.int .i64 5, .int .i64 x, .int .i64 y] w fun e w' => e = .returned (.tuple #[.int .i64 0, .int .i64 2]) ∧ w = w' := by
  have d0 : decide (x - y < -2147483648) = false := by simp; omega
  have d1 : decide (2147483647 < x - y) = true := by simp; omega
  have e0 : wrap64 (x - y) = x - y := w64i n1 n2
  clear hr n1 n2
  go_enter Try.func22, Try.ntmps22
  go_wp2_with fail
  go_ret2
  exact ⟨by first | rfl | (simp; done) | (simp only [e0]; done) | (simp [e0]; done), rfl⟩
set_option maxRecDepth 100000 in
theorem one_5_in (x y : Int) (w : World) (n1 : -9223372036854775808 ≤ x - y) (n2 : x - y ≤ 9223372036854775807) (hr : -2147483648 ≤ x - y ∧ x - y ≤ 2147483647) :
    Calls Try.prog 22 #[.int .i64 5, .int .i64 x, .int .i64 y] w fun e w' => e = .returned (.tuple #[.int .i64 (x - y), .int .i64 0]) ∧ w = w' := by
  have d0 : decide (x - y < -2147483648) = false := by simp; omega
  have d1 : decide (2147483647 < x - y) = false := by simp; omega
  have e0 : wrap64 (x - y) = x - y := w64i n1 n2
  clear hr n1 n2
  go_enter Try.func22, Try.ntmps22
  go_wp2_with fail
  go_ret2
  exact ⟨by first | rfl | (simp; done) | (simp only [e0]; done) | (simp [e0]; done), rfl⟩
set_option maxRecDepth 100000 in
theorem one_6_lo (x y : Int) (w : World) (n1 : -9223372036854775808 ≤ x * y) (n2 : x * y ≤ 9223372036854775807) (hr : x * y < -2147483648) :
    Calls Try.prog 22 #[.int .i64 6, .int .i64 x, .int .i64 y] w fun e w' => e = .returned (.tuple #[.int .i64 0, .int .i64 2]) ∧ w = w' := by
  have d0 : decide (x * y < -2147483648) = true := by simp; omega
  have e0 : wrap64 (x * y) = x * y := w64i n1 n2
  clear hr n1 n2
  go_enter Try.func22, Try.ntmps22
  go_wp2_with fail
  go_ret2
  exact ⟨by first | rfl | (simp; done) | (simp only [e0]; done) | (simp [e0]; done), rfl⟩
set_option maxRecDepth 100000 in
theorem one_6_hi (x y : Int) (w : World) (n1 : -9223372036854775808 ≤ x * y) (n2 : x * y ≤ 9223372036854775807) (hr : -2147483648 ≤ x * y ∧ 2147483647 < x * y) :
    Calls Try.prog 22 #[.int .i64 6, .int .i64 x, .int .i64 y] w fun e w' => e = .returned (.tuple #[.int .i64 0, .int .i64 2]) ∧ w = w' := by
  have d0 : decide (x * y < -2147483648) = false := by simp; omega
  have d1 : decide (2147483647 < x * y) = true := by simp; omega
  have e0 : wrap64 (x * y) = x * y := w64i n1 n2
  clear hr n1 n2
  go_enter Try.func22, Try.ntmps22
  go_wp2_with fail
  go_ret2
  exact ⟨by first | rfl | (simp; done) | (simp only [e0]; done) | (simp [e0]; done), rfl⟩
set_option maxRecDepth 100000 in
theorem one_6_in (x y : Int) (w : World) (n1 : -9223372036854775808 ≤ x * y) (n2 : x * y ≤ 9223372036854775807) (hr : -2147483648 ≤ x * y ∧ x * y ≤ 2147483647) :
    Calls Try.prog 22 #[.int .i64 6, .int .i64 x, .int .i64 y] w fun e w' => e = .returned (.tuple #[.int .i64 (x * y), .int .i64 0]) ∧ w = w' := by
  have d0 : decide (x * y < -2147483648) = false := by simp; omega
  have d1 : decide (2147483647 < x * y) = false := by simp; omega
  have e0 : wrap64 (x * y) = x * y := w64i n1 n2
  clear hr n1 n2
  go_enter Try.func22, Try.ntmps22
  go_wp2_with fail
  go_ret2
  exact ⟨by first | rfl | (simp; done) | (simp only [e0]; done) | (simp [e0]; done), rfl⟩
set_option maxRecDepth 100000 in
theorem one_7_hi (x y : Int) (w : World) (n1 : -9223372036854775808 ≤ x.tdiv y) (n2 : x.tdiv y ≤ 9223372036854775807) (hr : -2147483648 ≤ x.tdiv y ∧ 2147483647 < x.tdiv y) (hy : (y == 0) = false) (hyn : y ≠ 0) :
    Calls Try.prog 22 #[.int .i64 7, .int .i64 x, .int .i64 y] w fun e w' => e = .returned (.tuple #[.int .i64 0, .int .i64 2]) ∧ w = w' := by
  have d0 : decide (x.tdiv y < -2147483648) = false := by simp; omega
  have d1 : decide (2147483647 < x.tdiv y) = true := by simp; omega
  have e0 : wrap64 (x.tdiv y) = x.tdiv y := w64i n1 n2
  clear hr
  go_enter Try.func22, Try.ntmps22
  go_wp2_with fail
  go_ret2
  exact ⟨by first | rfl | (simp; done) | (simp only [e0]; done) | (simp [e0]; done), rfl⟩
set_option maxRecDepth 100000 in
theorem one_7_in (x y : Int) (w : World) (n1 : -9223372036854775808 ≤ x.tdiv y) (n2 : x.tdiv y ≤ 9223372036854775807) (hr : -2147483648 ≤ x.tdiv y ∧ x.tdiv y ≤ 2147483647) (hy : (y == 0) = false) (hyn : y ≠ 0) :
    Calls Try.prog 22 #[.int .i64 7, .int .i64 x, .int .i64 y] w fun e w' => e = .returned (.tuple #[.int .i64 (x.tdiv y), .int .i64 0]) ∧ w = w' := by
  have d0 : decide (x.tdiv y < -2147483648) = false := by simp; omega
  have d1 : decide (2147483647 < x.tdiv y) = false := by simp; omega
  have e0 : wrap64 (x.tdiv y) = x.tdiv y := w64i n1 n2
  clear hr
  go_enter Try.func22, Try.ntmps22
  go_wp2_with fail
  go_ret2
  exact ⟨by first | rfl | (simp; done) | (simp only [e0]; done) | (simp [e0]; done), rfl⟩
set_option maxRecDepth 100000 in
theorem one_8_in (x y : Int) (w : World) (n1 : -9223372036854775808 ≤ x - x.tdiv y * y) (n2 : x - x.tdiv y * y ≤ 9223372036854775807) (hr : -2147483648 ≤ x - x.tdiv y * y ∧ x - x.tdiv y * y ≤ 2147483647) (hy : (y == 0) = false) (hyn : y ≠ 0) (q1 : -9223372036854775808 ≤ x.tdiv y) (q2 : x.tdiv y ≤ 9223372036854775807) (m1 : -9223372036854775808 ≤ x.tdiv y * y) (m2 : x.tdiv y * y ≤ 9223372036854775807) :
    Calls Try.prog 22 #[.int .i64 8, .int .i64 x, .int .i64 y] w fun e w' => e = .returned (.tuple #[.int .i64 (x - x.tdiv y * y), .int .i64 0]) ∧ w = w' := by
  have d0 : decide (x - x.tdiv y * y < -2147483648) = false := by simp; omega
  have d1 : decide (2147483647 < x - x.tdiv y * y) = false := by simp; omega
  have e0 : wrap64 (x - x.tdiv y * y) = x - x.tdiv y * y := w64i n1 n2
  have e1 : wrap64 (x.tdiv y) = x.tdiv y := w64i q1 q2
  have e2 : wrap64 (x.tdiv y * y) = x.tdiv y * y := w64i m1 m2
  clear hr
  go_enter Try.func22, Try.ntmps22
  go_wp2_with fail
  go_ret2
  exact ⟨by first | rfl | (simp; done) | (simp only [e0]; done) | (simp [e0]; done), rfl⟩
theorem one_7_0 (x y : Int) (w : World) (hy : (y == 0) = true) :
    Calls Try.prog 22 #[.int .i64 7, .int .i64 x, .int .i64 y] w fun e w' => e = .returned (.tuple #[.int .i64 0, .int .i64 3]) ∧ w = w' := by
  go_enter Try.func22, Try.ntmps22
  go_wp2_with fail
  go_ret2
  exact ⟨by simp, rfl⟩
theorem one_8_0 (x y : Int) (w : World) (hy : (y == 0) = true) :
    Calls Try.prog 22 #[.int .i64 8, .int .i64 x, .int .i64 y] w fun e w' => e = .returned (.tuple #[.int .i64 0, .int .i64 3]) ∧ w = w' := by
  go_enter Try.func22, Try.ntmps22
  go_wp2_with fail
  go_ret2
  exact ⟨by simp, rfl⟩
end Go.Proofs.Ytkicilkegeckeaa
