/-
  What Do tells of each kind and two Itvs.
-/
import Derived.Test.YtlgmofjjjhbgkaaGreatJt18
import Derived.Test.YtlgmofjjjhbgkaaGreatJt21
import Derived.Test.YtlgmofjjjhbgkaaGreatJt22
namespace Go.Proofs.YtlgmofjjjhbgkaaGreat
open Go.RowKit

theorem bot_one (f : Int → Int → Int) (x y : Int) : bot f x x y y = f x y := by unfold bot mn; simp
theorem top_one (f : Int → Int → Int) (x y : Int) : top f x x y y = f x y := by unfold top mx; simp
/-- Do answers so, in every world. -/
def DoIs (k a0 a1 b0 b1 z0 z1 : Int) (ov dz : Bool) : Prop := ∀ W, Calls Tryz.prog 128 #[.int .i64 k, .agg #[.int .i64 a0, .int .i64 a1], .agg #[.int .i64 b0, .int .i64 b1]] W fun e w' => e = .returned (.tuple #[.agg #[.int .i64 z0, .int .i64 z1], .agg #[.bool ov, .bool dz]]) ∧ Below W.heap.size W w'
theorem mul_big (x y : Int) (h0 : -2147483648 ≤ x) (h1 : x ≤ 2147483648) (h2 : -2147483648 ≤ y) (h3 : y ≤ 2147483648) : -9223372036854775808 ≤ x * y ∧ x * y ≤ 9223372036854775807 := by
  have t := mul_btw (-2147483648) 2147483648 x y h0 h1
  unfold Btw at t
  omega
section
variable (a0 a1 b0 b1 : Int) (ha : a0 ≤ a1) (hb : b0 ≤ b1) (r1 : -2147483648 ≤ a0) (r2 : a1 ≤ 2147483647) (r3 : -2147483648 ≤ b0) (r4 : b1 ≤ 2147483647)
include ha hb r1 r2 r3 r4
theorem add_ok : ∃ z0 z1 ov dz, DoIs 4 a0 a1 b0 b1 z0 z1 ov dz ∧ DoOk 4 a0 a1 b0 b1 z0 z1 ov dz :=
  ⟨_, _, _, _, fun W => do_add a0 a1 b0 b1 W ha hb r1 r2 r3 r4, ends_ok 4 a0 a1 b0 b1 (a0 + b0) (a1 + b1) _ _ _ _ ha hb (by simp) (by decide) rfl rfl (fun x y h0 h1 h2 h3 => by have e : valP 4 x y = x + y := rfl; omega)
    (fun _ => ⟨a0, b0, a1, b1, by omega, by omega, by omega, by omega, rfl, by omega, by omega, by omega, by omega, rfl⟩)⟩
theorem sub_ok : ∃ z0 z1 ov dz, DoIs 5 a0 a1 b0 b1 z0 z1 ov dz ∧ DoOk 5 a0 a1 b0 b1 z0 z1 ov dz :=
  ⟨_, _, _, _, fun W => do_sub a0 a1 b0 b1 W ha hb r1 r2 r3 r4, ends_ok 5 a0 a1 b0 b1 (a0 - b1) (a1 - b0) _ _ _ _ ha hb (by simp) (by decide) rfl rfl (fun x y h0 h1 h2 h3 => by have e : valP 5 x y = x - y := rfl; omega)
    (fun _ => ⟨a0, b1, a1, b0, by omega, by omega, by omega, by omega, rfl, by omega, by omega, by omega, by omega, rfl⟩)⟩
theorem mul_ok : ∃ z0 z1 ov dz, DoIs 6 a0 a1 b0 b1 z0 z1 ov dz ∧ DoOk 6 a0 a1 b0 b1 z0 z1 ov dz := by
  have hf : FnOk 141 (fun x y => x * y) a0 a1 b0 b1 := fun x y W hx hy => by
    have t := mul_big x y (by omega) (by omega) (by omega) (by omega)
    exact mul_fn x y W t.1 t.2
  refine ⟨_, _, _, _, fun W => do_6 a0 a1 b0 b1 _ _ _ _ W ha hb (fun W => ends_mul (fun x y => x * y) a0 a1 b0 b1 W hf), ends_ok 6 a0 a1 b0 b1 _ _ _ _ _ _ ha hb (by simp) (by decide) rfl rfl (fun x y h0 h1 h2 h3 => ?_) (fun h => ?_)⟩
  · have e : valP 6 x y = x * y := rfl
    rw [e]
    exact mul_in a0 a1 b0 b1 x y h0 h1 h2 h3
  · rcases h with h | ⟨rfl, rfl⟩
    · omega
    · exact ⟨a0, b0, a0, b0, by omega, by omega, by omega, by omega, (bot_one _ a0 b0).symm, by omega, by omega, by omega, by omega, (top_one _ a0 b0).symm⟩
set_option maxHeartbeats 4000000 in
theorem div_ok : ∃ z0 z1 ov dz, DoIs 7 a0 a1 b0 b1 z0 z1 ov dz ∧ DoOk 7 a0 a1 b0 b1 z0 z1 ov dz := by
  obtain ⟨p0, p1, hp⟩ : ∃ x y, meetP b0 b1 (-2147483648) (-1) = (x, y) := ⟨_, _, rfl⟩
  obtain ⟨q0, q1, hq⟩ : ∃ x y, meetP b0 b1 1 2147483647 = (x, y) := ⟨_, _, rfl⟩
  obtain ⟨e0, e1, he⟩ : ∃ x y, ofP (bot Int.tdiv a0 a1 p0 p1) (top Int.tdiv a0 a1 p0 p1) = (x, y) := ⟨_, _, rfl⟩
  obtain ⟨f0, f1, hf⟩ : ∃ x y, ofP (bot Int.tdiv a0 a1 q0 q1) (top Int.tdiv a0 a1 q0 q1) = (x, y) := ⟨_, _, rfl⟩
  obtain ⟨oe, hoe⟩ : ∃ o, o = (decide (bot Int.tdiv a0 a1 p0 p1 < -2147483648) || decide (2147483647 < top Int.tdiv a0 a1 p0 p1)) := ⟨_, rfl⟩
  obtain ⟨of, hof⟩ : ∃ o, o = (decide (bot Int.tdiv a0 a1 q0 q1 < -2147483648) || decide (2147483647 < top Int.tdiv a0 a1 q0 q1)) := ⟨_, rfl⟩
  obtain ⟨u0, u1, uo, hu⟩ : ∃ (u0 u1 : Int) (uo : Bool), (p1 < p0 ∧ u0 = 1 ∧ u1 = 0 ∧ uo = false) ∨ (p0 ≤ p1 ∧ joinP 1 0 e0 e1 = (u0, u1) ∧ uo = (false || oe)) := by
    by_cases h : p1 < p0
    · exact ⟨_, _, _, .inl ⟨h, rfl, rfl, rfl⟩⟩
    · exact ⟨_, _, _, .inr ⟨by omega, rfl, rfl⟩⟩
  obtain ⟨v0, v1, vo, hv⟩ : ∃ (v0 v1 : Int) (vo : Bool), (q1 < q0 ∧ v0 = u0 ∧ v1 = u1 ∧ vo = uo) ∨ (q0 ≤ q1 ∧ joinP u0 u1 f0 f1 = (v0, v1) ∧ vo = (uo || of)) := by
    by_cases h : q1 < q0
    · exact ⟨_, _, _, .inl ⟨h, rfl, rfl, rfl⟩⟩
    · exact ⟨_, _, _, .inr ⟨by omega, rfl, rfl⟩⟩
  have tp : (p0 = 1 ∧ p1 = 0 ∧ 0 ≤ b0) ∨ (p0 ≤ p1 ∧ p0 = b0 ∧ p1 ≤ -1 ∧ (p1 = b1 ∨ p1 = -1) ∧ p1 ≤ b1) := by
    unfold meetP at hp
    have t := ofP_or _ _ _ _ hp
    have m1 := mx_or b0 (-2147483648)
    have m2 := mn_or b1 (-1)
    omega
  have tq : (q0 = 1 ∧ q1 = 0 ∧ b1 ≤ 0) ∨ (q0 ≤ q1 ∧ q1 = b1 ∧ 1 ≤ q0 ∧ (q0 = b0 ∨ q0 = 1) ∧ b0 ≤ q0) := by
    unfold meetP at hq
    have t := ofP_or _ _ _ _ hq
    have m1 := mx_or b0 1
    have m2 := mn_or b1 2147483647
    omega
  have te := ofP_or _ _ _ _ he
  have tf := ofP_or _ _ _ _ hf
  have ne : (e0 = 1 ∧ e1 = 0) ∨ (e0 ≤ e1 ∧ -2147483648 ≤ e0 ∧ e1 ≤ 2147483647) := by omega
  have nf : (f0 = 1 ∧ f1 = 0) ∨ (f0 ≤ f1 ∧ -2147483648 ≤ f0 ∧ f1 ≤ 2147483647) := by omega
  have tu : (p1 < p0 ∧ u0 = 1 ∧ u1 = 0 ∧ uo = false) ∨ (p0 ≤ p1 ∧ u0 = e0 ∧ u1 = e1 ∧ uo = oe) := by
    rcases hu with h | ⟨h, hj, ho⟩
    · exact .inl h
    · rw [join_eq (by decide) (by decide) (by omega) (by omega)] at hj
      have s := join_specs 1 0 e0 e1
      rw [hj] at s
      dsimp only at s
      exact .inr ⟨h, by omega, by omega, by simpa using ho⟩
  have nu : (u0 = 1 ∧ u1 = 0) ∨ (u0 ≤ u1 ∧ -2147483648 ≤ u0 ∧ u1 ≤ 2147483647) := by omega
  have tv : (q1 < q0 ∧ v0 = u0 ∧ v1 = u1 ∧ vo = uo) ∨ (q0 ≤ q1 ∧ ((u1 < u0 ∧ f1 < f0 ∧ v0 = 1 ∧ v1 = 0) ∨ (u1 < u0 ∧ f0 ≤ f1 ∧ v0 = f0 ∧ v1 = f1) ∨ (u0 ≤ u1 ∧ f1 < f0 ∧ v0 = u0 ∧ v1 = u1) ∨ (u0 ≤ u1 ∧ f0 ≤ f1 ∧ v0 ≤ u0 ∧ v0 ≤ f0 ∧ u1 ≤ v1 ∧ f1 ≤ v1 ∧ (v0 = u0 ∨ v0 = f0) ∧ (v1 = u1 ∨ v1 = f1))) ∧ vo = (uo || of)) := by
    rcases hv with h | ⟨h, hj, ho⟩
    · exact .inl h
    · rw [join_eq (by omega) (by omega) (by omega) (by omega)] at hj
      have s := join_specs u0 u1 f0 f1
      have m1 := mn_or u0 f0
      have m2 := mx_or u1 f1
      rw [hj] at s
      dsimp only at s
      exact .inr ⟨h, by omega, ho⟩
  have hin0 : ∀ x y, a0 ≤ x → x ≤ a1 → b0 ≤ y → y < 0 → bot Int.tdiv a0 a1 p0 p1 ≤ x.tdiv y ∧ x.tdiv y ≤ top Int.tdiv a0 a1 p0 p1 ∨ b1 < y := fun x y h0 h1 h2 h3 => by
    by_cases hy : b1 < y
    · exact .inr hy
    · exact .inl (quo_in a0 a1 p0 p1 x y (.inr (by omega)) h0 h1 (by omega) (by omega))
  have hin1 : ∀ x y, a0 ≤ x → x ≤ a1 → y ≤ b1 → 0 < y → bot Int.tdiv a0 a1 q0 q1 ≤ x.tdiv y ∧ x.tdiv y ≤ top Int.tdiv a0 a1 q0 q1 ∨ y < b0 := fun x y h0 h1 h2 h3 => by
    by_cases hy : y < b0
    · exact .inr hy
    · exact .inl (quo_in a0 a1 q0 q1 x y (.inl (by omega)) h0 h1 (by omega) (by omega))
  refine ⟨v0, v1, vo, decide (b0 ≤ 0 ∧ 0 ≤ b1), fun W => do_7 a0 a1 b0 b1 v0 v1 vo _ W ha hb (fun W => ?_), ?_⟩
  · exact div_gen a0 a1 b0 b1 (fun k => if k = 0 then p0 else q0) (fun k => if k = 0 then p1 else q1) (fun k => if k = 0 then 1 else if k = 1 then u0 else v0) (fun k => if k = 0 then 0 else if k = 1 then u1 else v1) (fun k => if k = 0 then e0 else f0) (fun k => if k = 0 then e1 else f1) (fun k => if k = 0 then false else if k = 1 then uo else vo) (fun k => if k = 0 then oe else of) W
      (fun W => by have t := meet_any b0 b1 (-2147483648) (-1) W; rw [hp] at t; exact t)
      (fun W => by have t := meet_any b0 b1 1 2147483647 W; rw [hq] at t; exact t)
      ⟨rfl, rfl, rfl⟩
      (fun k hk hem => by
        match k, hk with
        | 0, _ => replace hem : p1 < p0 := hem; exact ⟨show u0 = 1 by omega, show u1 = 0 by omega, show uo = false by rcases tu with h | h; exact h.2.2.2; omega⟩
        | 1, _ => replace hem : q1 < q0 := hem; exact ⟨show v0 = u0 by omega, show v1 = u1 by omega, show vo = uo by rcases tv with h | h; exact h.2.2.2; omega⟩)
      (fun k hk hem W => by
        match k, hk with
        | 0, _ =>
          replace hem : p0 ≤ p1 := hem
          have t := ends_quo Int.tdiv a0 a1 p0 p1 W (fun x y W hx hy => by have := td_abs x y 2147483648 (by omega) (by omega) (by omega); exact quo_fn x y W (by omega) (by omega) (by omega))
          rw [he, ← hoe] at t
          exact t
        | 1, _ =>
          replace hem : q0 ≤ q1 := hem
          have t := ends_quo Int.tdiv a0 a1 q0 q1 W (fun x y W hx hy => by have := td_abs x y 2147483648 (by omega) (by omega) (by omega); exact quo_fn x y W (by omega) (by omega) (by omega))
          rw [hf, ← hof] at t
          exact t)
      (fun k hk hem W => by
        match k, hk with
        | 0, _ =>
          replace hem : p0 ≤ p1 := hem
          have t := join_any 1 0 e0 e1 W
          have hj : joinP 1 0 e0 e1 = (u0, u1) := by rcases hu with h | h; omega; exact h.2.1
          rw [hj] at t
          exact t
        | 1, _ =>
          replace hem : q0 ≤ q1 := hem
          have t := join_any u0 u1 f0 f1 W
          have hj : joinP u0 u1 f0 f1 = (v0, v1) := by rcases hv with h | h; omega; exact h.2.1
          rw [hj] at t
          exact t)
      (fun k hk hem => by
        match k, hk with
        | 0, _ => replace hem : p0 ≤ p1 := hem; exact show uo = (false || oe) by rcases hu with h | h; omega; exact h.2.2
        | 1, _ => replace hem : q0 ≤ q1 := hem; exact show vo = (uo || of) by rcases hv with h | h; omega; exact h.2.2)
  · clear hu hv hp hq he hf
    have eo : oe = true ↔ bot Int.tdiv a0 a1 p0 p1 < -2147483648 ∨ 2147483647 < top Int.tdiv a0 a1 p0 p1 := by rw [hoe]; simp
    have fo : of = true ↔ bot Int.tdiv a0 a1 q0 q1 < -2147483648 ∨ 2147483647 < top Int.tdiv a0 a1 q0 q1 := by rw [hof]; simp
    clear hoe hof
    have vt : vo = true ↔ (p0 ≤ p1 ∧ oe = true) ∨ (q0 ≤ q1 ∧ of = true) := by
      have ut : uo = true ↔ (p0 ≤ p1 ∧ oe = true) := by
        rcases tu with ⟨h, _, _, h2⟩ | ⟨h, _, _, h2⟩
        · rw [h2]; simp; omega
        · rw [h2]; simp [h]
      rcases tv with ⟨h, _, _, h2⟩ | ⟨h, _, h2⟩
      · rw [h2, ut]; constructor
        · exact .inl
        · rintro (h3 | h3)
          · exact h3
          · omega
      · rw [h2]; simp only [Bool.or_eq_true, ut, h, true_and]
    refine ⟨by omega, fun x y x0 x1 y0 y1 h => ?_, fun x y x0 x1 y0 y1 h => ?_, by simp, fun hs ht => ?_, fun hal => ?_⟩
    · have v := errP_or 7 x y
      have e : valP 7 x y = x.tdiv y := rfl
      rw [e] at v ⊢
      have u := hin0 x y x0 x1 y0
      have u' := hin1 x y x0 x1 y1
      clear hin0 hin1 eo fo vt
      omega
    · have v := errP_or 7 x y
      have e : valP 7 x y = x.tdiv y := rfl
      rw [e] at v
      have u := hin0 x y x0 x1 y0
      have u' := hin1 x y x0 x1 y1
      rw [vt, eo, fo]
      clear hin0 hin1 eo fo vt
      omega
    · rcases hs with h | ⟨rfl, rfl⟩
      · omega
      · refine ⟨a0, b0, by omega, by omega, by omega, by omega, ?_⟩
        rw [vt, eo, fo] at ht
        have v := errP_or 7 a0 b0
        have e : valP 7 a0 b0 = a0.tdiv b0 := rfl
        rw [e] at v
        have zp : p0 ≤ p1 → bot Int.tdiv a0 a0 p0 p1 = a0.tdiv b0 ∧ top Int.tdiv a0 a0 p0 p1 = a0.tdiv b0 := fun h => by
          obtain rfl : p0 = b0 := by omega
          obtain rfl : p1 = p0 := by omega
          exact ⟨bot_one _ _ _, top_one _ _ _⟩
        have zq : q0 ≤ q1 → bot Int.tdiv a0 a0 q0 q1 = a0.tdiv b0 ∧ top Int.tdiv a0 a0 q0 q1 = a0.tdiv b0 := fun h => by
          obtain rfl : q1 = b0 := by omega
          obtain rfl : q0 = q1 := by omega
          exact ⟨bot_one _ _ _, top_one _ _ _⟩
        clear hin0 hin1 eo fo vt
        omega
    · obtain ⟨rfl, rfl⟩ := hal
      have v := errP_or 7 a0 b0
      have e : valP 7 a0 b0 = a0.tdiv b0 := rfl
      rw [e] at v ⊢
      have zp : p0 ≤ p1 → bot Int.tdiv a0 a0 p0 p1 = a0.tdiv b0 ∧ top Int.tdiv a0 a0 p0 p1 = a0.tdiv b0 := fun h => by
        obtain rfl : p0 = b0 := by omega
        obtain rfl : p1 = p0 := by omega
        exact ⟨bot_one _ _ _, top_one _ _ _⟩
      have zq : q0 ≤ q1 → bot Int.tdiv a0 a0 q0 q1 = a0.tdiv b0 ∧ top Int.tdiv a0 a0 q0 q1 = a0.tdiv b0 := fun h => by
        obtain rfl : q1 = b0 := by omega
        obtain rfl : q0 = q1 := by omega
        exact ⟨bot_one _ _ _, top_one _ _ _⟩
      clear hin0 hin1 eo fo vt
      exact ⟨fun h => by omega, fun h => by omega⟩
theorem mod_ok : ∃ z0 z1 ov dz, DoIs 8 a0 a1 b0 b1 z0 z1 ov dz ∧ DoOk 8 a0 a1 b0 b1 z0 z1 ov dz := by
  have e8 : ∀ x y, valP 8 x y = x.tmod y := fun x y => (show valP 8 x y = x - x.tdiv y * y from rfl).trans (rest_eq x y)
  by_cases hz : b0 = 0 ∧ b1 = 0
  · obtain ⟨rfl, rfl⟩ := hz
    refine ⟨1, 0, false, true, fun W => do_8 a0 a1 0 0 1 0 false true W ha hb (fun W => rest_0 a0 a1 0 0 true W (by decide) ⟨by decide, by decide⟩), ⟨.inl ⟨rfl, rfl⟩, fun x y x0 x1 y0 y1 h => ?_, fun x y x0 x1 y0 y1 h => ?_, by simp, fun _ h => (by cases h), fun _ => ⟨fun _ => ⟨rfl, rfl⟩, fun h => ?_⟩⟩⟩
    · have v := errP_or 8 x y; omega
    · have v := errP_or 8 x y; omega
    · have v := errP_or 8 a0 0; omega
  by_cases hal : a0 = a1 ∧ b0 = b1
  · obtain ⟨rfl, rfl⟩ := hal
    have hb0 : b0 ≠ 0 := by omega
    have t := tm_any a0 b0 2147483648 hb0 (by omega) (by omega)
    have v := errP_or 8 a0 b0
    rw [e8] at v
    refine ⟨a0.tmod b0, a0.tmod b0, false, decide (b0 ≤ 0 ∧ 0 ≤ b0), fun W => do_8 a0 a0 b0 b0 _ _ false _ W ha hb (fun W => rest_1 a0 a0 b0 b0 (a0.tmod b0) _ W rfl hb0 ⟨by rw [beq_eq_false_iff_ne]; exact hb0, by simp, by simp⟩ (wr64 _ (by omega) (by omega)) rfl (fun W => const_in _ W (by omega) (by omega))), ⟨.inr ⟨Int.le_refl _, by omega, by omega⟩, fun x y x0 x1 y0 y1 h => ?_, fun x y x0 x1 y0 y1 h => ?_, by simp, fun _ h => (by cases h), fun _ => ⟨fun h => by omega, fun h => ⟨(e8 a0 b0).symm, (e8 a0 b0).symm⟩⟩⟩⟩
    · obtain rfl : x = a0 := by omega
      obtain rfl : y = b0 := by omega
      rw [e8]
      omega
    · obtain rfl : x = a0 := by omega
      obtain rfl : y = b0 := by omega
      omega
  · have key : ∀ (l h : Int), ofP (mx (-(mx (-b0) b1 - 1)) (mn a0 0)) (mn (mx (-b0) b1 - 1) (mx a1 0)) = (l, h) → DoOk 8 a0 a1 b0 b1 l h false (decide (b0 ≤ 0 ∧ 0 ≤ b1)) := by
      intro l h e
      have t := ofP_or _ _ _ _ e
      have s1 := mx_or (-b0) b1
      have s2 := mx_or (-(mx (-b0) b1 - 1)) (mn a0 0)
      have s3 := mn_or (mx (-b0) b1 - 1) (mx a1 0)
      have s4 := mn_or a0 0
      have s5 := mx_or a1 0
      refine ⟨by omega, fun x y x0 x1 y0 y1 h => ?_, fun x y x0 x1 y0 y1 h => ?_, by simp, fun _ h => (by cases h), fun h => absurd h hal⟩
      · have v := errP_or 8 x y
        rw [e8] at v ⊢
        have u := tm_any x y (mx (-b0) b1) (by omega) (by omega) (by omega)
        omega
      · have v := errP_or 8 x y
        rw [e8] at v
        have u := tm_any x y (mx (-b0) b1) (by omega) (by omega) (by omega)
        omega
    obtain ⟨l, h, e⟩ : ∃ l h, ofP (mx (-(mx (-b0) b1 - 1)) (mn a0 0)) (mn (mx (-b0) b1 - 1) (mx a1 0)) = (l, h) := ⟨_, _, rfl⟩
    refine ⟨l, h, false, decide (b0 ≤ 0 ∧ 0 ≤ b1), fun W => do_8 a0 a1 b0 b1 l h false _ W ha hb (fun W => ?_), key l h e⟩
    have s1 := mx_or (-b0) b1
    have co : ∀ W, Calls Tryz.prog 21 #[.int .i64 (mx (-(mx (-b0) b1 - 1)) (mn a0 0)), .int .i64 (mn (mx (-b0) b1 - 1) (mx a1 0))] W fun e w' => e = .returned (.agg #[.int .i64 l, .int .i64 h]) ∧ Below W.heap.size W w' := fun W => by
      have t := of_any (mx (-(mx (-b0) b1 - 1)) (mn a0 0)) (mn (mx (-b0) b1 - 1) (mx a1 0)) W
      rw [e] at t
      exact t
    have bq : ∀ (x y : Int), x = y → (x == y) = true := fun x y h => by rw [beq_iff_eq]; exact h
    have bn : ∀ (x y : Int), x ≠ y → (x == y) = false := fun x y h => by rw [beq_eq_false_iff_ne]; exact h
    by_cases g0 : b0 = 0
    · by_cases g1 : a0 = a1
      · exact rest_2b2 a0 a1 b0 b1 l h _ _ _ _ _ _ _ W rfl ⟨bq _ _ g0, bn _ _ (by omega), bq _ _ g1, bn _ _ (by omega)⟩ r3 (by omega) (by omega) r4 rfl (by omega) (by omega) (wr64 _ (by omega) (by omega)) rfl rfl rfl rfl co
      · exact rest_2b1 a0 a1 b0 b1 l h _ _ _ _ _ _ _ W rfl ⟨bq _ _ g0, bn _ _ (by omega), bn _ _ g1⟩ r3 (by omega) (by omega) r4 rfl (by omega) (by omega) (wr64 _ (by omega) (by omega)) rfl rfl rfl rfl co
    · by_cases g1 : a0 = a1
      · exact rest_2a2 a0 a1 b0 b1 l h _ _ _ _ _ _ _ W rfl ⟨bn _ _ g0, bq _ _ g1, bn _ _ (by omega)⟩ r3 (by omega) (by omega) r4 rfl (by omega) (by omega) (wr64 _ (by omega) (by omega)) rfl rfl rfl rfl co
      · exact rest_2a1 a0 a1 b0 b1 l h _ _ _ _ _ _ _ W rfl ⟨bn _ _ g0, bn _ _ g1⟩ r3 (by omega) (by omega) r4 rfl (by omega) (by omega) (wr64 _ (by omega) (by omega)) rfl rfl rfl rfl co
theorem do_ok (k : Int) (k4 : 4 ≤ k) (k8 : k ≤ 8) : ∃ z0 z1 ov dz, DoIs k a0 a1 b0 b1 z0 z1 ov dz ∧ DoOk k a0 a1 b0 b1 z0 z1 ov dz := by
  have hk : k = 4 ∨ k = 5 ∨ k = 6 ∨ k = 7 ∨ k = 8 := by omega
  rcases hk with rfl | rfl | rfl | rfl | rfl
  · exact add_ok a0 a1 b0 b1 ha hb r1 r2 r3 r4
  · exact sub_ok a0 a1 b0 b1 ha hb r1 r2 r3 r4
  · exact mul_ok a0 a1 b0 b1 ha hb r1 r2 r3 r4
  · exact div_ok a0 a1 b0 b1 ha hb r1 r2 r3 r4
  · exact mod_ok a0 a1 b0 b1 ha hb r1 r2 r3 r4
end
end Go.Proofs.YtlgmofjjjhbgkaaGreat
