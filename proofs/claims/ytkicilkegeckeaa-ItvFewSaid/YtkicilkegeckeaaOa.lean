/-
  The reference's One, of each kind.
-/
import Derived.Test.YtkicilkegeckeaaOn
import Derived.Test.YtkicilkegeckeaaDp
namespace Go.Proofs.Ytkicilkegeckeaa
open Go.RowKit
theorem mul_bnd (x y : Int) (h0 : -2147483648 ≤ x) (h1 : x ≤ 2147483648) (h2 : -2147483648 ≤ y) (h3 : y ≤ 2147483648) : -9223372036854775808 ≤ x * y ∧ x * y ≤ 9223372036854775807 := by
  have t := mul_btw (-2147483648) 2147483648 x y h0 h1
  unfold Btw at t
  omega
theorem one_any (k x y : Int) (w : World) (k4 : 4 ≤ k) (k8 : k ≤ 8) (x0 : -2147483648 ≤ x) (x1 : x ≤ 2147483647) (y0 : -2147483648 ≤ y) (y1 : y ≤ 2147483647) :
    Calls Try.prog 22 #[.int .i64 k, .int .i64 x, .int .i64 y] w fun e w' => e = .returned (.tuple #[.int .i64 (oneP k x y), .int .i64 (errP k x y)]) ∧ w = w' := by
  have hk : k = 4 ∨ k = 5 ∨ k = 6 ∨ k = 7 ∨ k = 8 := by omega
  have v := errP_or k x y
  have mm := mul_bnd x y (by omega) (by omega) (by omega) (by omega)
  have fin : ∀ (a b : Int), oneP k x y = a → errP k x y = b → (Calls Try.prog 22 #[.int .i64 k, .int .i64 x, .int .i64 y] w fun e w' => e = .returned (.tuple #[.int .i64 a, .int .i64 b]) ∧ w = w') → Calls Try.prog 22 #[.int .i64 k, .int .i64 x, .int .i64 y] w fun e w' => e = .returned (.tuple #[.int .i64 (oneP k x y), .int .i64 (errP k x y)]) ∧ w = w' := fun a b ea eb h => by rw [ea, eb]; exact h
  rcases hk with rfl | rfl | rfl | rfl | rfl
  · have e : valP 4 x y = x + y := rfl
    rw [e] at v
    rcases v with ⟨_, h, _⟩ | ⟨h, _, g⟩ | ⟨h, _, g0, g1⟩
    · omega
    · refine fin 0 2 (by unfold oneP; rw [if_neg (by omega)]) h ?_
      by_cases l : x + y < -2147483648
      · exact one_4_lo x y w (by omega) (by omega) l
      · exact one_4_hi x y w (by omega) (by omega) (by omega)
    · exact fin (x + y) 0 (by unfold oneP; rw [if_pos h]; rfl) h (one_4_in x y w (by omega) (by omega) (by omega))
  · have e : valP 5 x y = x - y := rfl
    rw [e] at v
    rcases v with ⟨_, h, _⟩ | ⟨h, _, g⟩ | ⟨h, _, g0, g1⟩
    · omega
    · refine fin 0 2 (by unfold oneP; rw [if_neg (by omega)]) h ?_
      by_cases l : x - y < -2147483648
      · exact one_5_lo x y w (by omega) (by omega) l
      · exact one_5_hi x y w (by omega) (by omega) (by omega)
    · exact fin (x - y) 0 (by unfold oneP; rw [if_pos h]; rfl) h (one_5_in x y w (by omega) (by omega) (by omega))
  · have e : valP 6 x y = x * y := rfl
    rw [e] at v
    rcases v with ⟨_, h, _⟩ | ⟨h, _, g⟩ | ⟨h, _, g0, g1⟩
    · omega
    · refine fin 0 2 (by unfold oneP; rw [if_neg (by omega)]) h ?_
      by_cases l : x * y < -2147483648
      · exact one_6_lo x y w mm.1 mm.2 l
      · exact one_6_hi x y w mm.1 mm.2 (by omega)
    · exact fin (x * y) 0 (by unfold oneP; rw [if_pos h]; rfl) h (one_6_in x y w mm.1 mm.2 (by omega))
  · have e : valP 7 x y = x.tdiv y := rfl
    rw [e] at v
    rcases v with ⟨h, _, hy⟩ | ⟨h, hn, g⟩ | ⟨h, hn, g0, g1⟩
    · exact fin 0 3 (by unfold oneP; rw [if_neg (by omega)]) h (one_7_0 x y w (by rw [beq_iff_eq]; exact hy))
    · have hy : y ≠ 0 := by omega
      have t := td_abs x y 2147483648 (by omega) (by omega) hy
      exact fin 0 2 (by unfold oneP; rw [if_neg (by omega)]) h (one_7_hi x y w (by omega) (by omega) (by omega) (by rw [beq_eq_false_iff_ne]; exact hy) hy)
    · have hy : y ≠ 0 := by omega
      exact fin (x.tdiv y) 0 (by unfold oneP; rw [if_pos h]; rfl) h (one_7_in x y w (by omega) (by omega) (by omega) (by rw [beq_eq_false_iff_ne]; exact hy) hy)
  · have e : valP 8 x y = x - x.tdiv y * y := rfl
    rw [e] at v
    rcases v with ⟨h, _, hy⟩ | ⟨h, hn, g⟩ | ⟨h, hn, g0, g1⟩
    · exact fin 0 3 (by unfold oneP; rw [if_neg (by omega)]) h (one_8_0 x y w (by rw [beq_iff_eq]; exact hy))
    · have hy : y ≠ 0 := by omega
      have t := tm_any x y 2147483648 hy (by omega) (by omega)
      have r := rest_eq x y
      omega
    · have hy : y ≠ 0 := by omega
      have t := tm_any x y 2147483648 hy (by omega) (by omega)
      have r := rest_eq x y
      have u := td_abs x y 2147483648 (by omega) (by omega) hy
      exact fin (x - x.tdiv y * y) 0 (by unfold oneP; rw [if_pos h]; rfl) h (one_8_in x y w (by omega) (by omega) (by omega) (by rw [beq_eq_false_iff_ne]; exact hy) hy (by omega) (by omega) (by omega) (by omega))
end Go.Proofs.Ytkicilkegeckeaa
