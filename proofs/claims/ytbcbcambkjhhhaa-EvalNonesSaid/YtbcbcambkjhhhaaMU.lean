/-
  Either, widening, narrowing, plainly: what they have.
-/
import Derived.Test.YtbcbcambkjhhhaaChecked
import Derived.Test.YtbcbcambkjhhhaaProg
import Derived.Deep.CutRange
import Derived.WalkKit
import Derived.ProofKit
import Derived.Below
import Derived.Handy
import Derived.Lib.Hide
import Derived.IntWalk
import Derived.Deep.WholeRow
import Derived.Deep.Cut
import Derived.Deep.RegionHeld3
import Derived.RegionTactic
import Derived.Laws.Bits64
import Derived.ChangeArms
import Derived.OpenShut
import Derived.WideShapes
import Derived.ChangeShapes
import Derived.Carry
import Derived.DataReads
import Derived.KernelRfl
import Derived.Deep.LoopGhost
import Derived.Laws.Append
import Derived.Laws.AppendOwn
import Derived.Laws.MakeOwn
import Derived.Laws.StructEq
import Derived.Laws.Cells
import Derived.Laws.CopyRow
import Derived.Laws.Rows
import Derived.Orders
import Derived.ChangeKeysEq
import Derived.Test.YtbcbcambkjhhhaaMA
import Derived.Test.YtbcbcambkjhhhaaMB
import Derived.Test.YtbcbcambkjhhhaaMC
import Derived.Test.YtbcbcambkjhhhaaMD
import Derived.Test.YtbcbcambkjhhhaaME
import Derived.Test.YtbcbcambkjhhhaaMF
import Derived.Test.YtbcbcambkjhhhaaMG
import Derived.Test.YtbcbcambkjhhhaaMH
import Derived.Test.YtbcbcambkjhhhaaMI
import Derived.Test.YtbcbcambkjhhhaaMJ
import Derived.Test.YtbcbcambkjhhhaaMK
import Derived.Test.YtbcbcambkjhhhaaML
import Derived.Test.YtbcbcambkjhhhaaMM
import Derived.Test.YtbcbcambkjhhhaaMj1
import Derived.Test.YtbcbcambkjhhhaaMN
import Derived.Test.YtbcbcambkjhhhaaMR
import Derived.Test.YtbcbcambkjhhhaaMS
import Derived.Test.YtbcbcambkjhhhaaMT
namespace Go.Proofs.Ytbcbcambkjhhhaa
open Go.RowKit
theorem mxs_eq {x y z : Int} (h : (x < y ∧ z = y) ∨ (y ≤ x ∧ z = x)) : mx x y = z := by unfold mx; split <;> omega
theorem mns_eq {x y z : Int} (h : (y < x ∧ z = y) ∨ (x ≤ y ∧ z = x)) : mn x y = z := by unfold mn; split <;> omega
theorem mxs (x y : Int) : (x < y ∧ mx x y = y) ∨ (y ≤ x ∧ mx x y = x) := by unfold mx; split <;> omega
theorem mns (x y : Int) : (y < x ∧ mn x y = y) ∨ (x ≤ y ∧ mn x y = x) := by unfold mn; split <;> omega
theorem nrms (l h : Int) : (h < l ∧ (nrm l h).1 = 1 ∧ (nrm l h).2 = 0) ∨ (l ≤ h ∧ (nrm l h).1 = l ∧ (nrm l h).2 = h) := by
  unfold nrm
  by_cases hc : h < l
  · rw [if_pos hc]; exact .inl ⟨hc, rfl, rfl⟩
  · rw [if_neg hc]; exact .inr ⟨by omega, rfl, rfl⟩
theorem ofP_nrm {l h : Int} (l1 : -2147483648 ≤ l) (h2 : h ≤ 2147483647) : ofP l h = nrm l h := by
  unfold ofP
  rw [mxs_eq (z := l) (by omega), mns_eq (z := h) (by omega)]
theorem join_eq {a0 a1 b0 b1 : Int} (r1 : -2147483648 ≤ a0) (r2 : a1 ≤ 2147483647) (r3 : -2147483648 ≤ b0) (r4 : b1 ≤ 2147483647) : joinP a0 a1 b0 b1 = rjoinP a0 a1 b0 b1 := by
  unfold joinP rjoinP
  by_cases h : a1 < a0
  · rw [if_pos h, if_pos h]; exact ofP_nrm r3 r4
  · rw [if_neg h, if_neg h]
    by_cases h2 : b1 < b0
    · rw [if_pos h2, if_pos h2]; exact ofP_in _ _ r1 r2 (by omega)
    · rw [if_neg h2, if_neg h2]
      have := mns a0 b0
      have := mxs a1 b1
      exact ofP_in _ _ (by omega) (by omega) (by omega)
theorem join_specs (a0 a1 b0 b1 : Int) : (a1 < a0 ∧ b1 < b0 ∧ (rjoinP a0 a1 b0 b1).1 = 1 ∧ (rjoinP a0 a1 b0 b1).2 = 0) ∨ (a1 < a0 ∧ b0 ≤ b1 ∧ (rjoinP a0 a1 b0 b1).1 = b0 ∧ (rjoinP a0 a1 b0 b1).2 = b1) ∨ (a0 ≤ a1 ∧ b1 < b0 ∧ (rjoinP a0 a1 b0 b1).1 = a0 ∧ (rjoinP a0 a1 b0 b1).2 = a1) ∨ (a0 ≤ a1 ∧ b0 ≤ b1 ∧ (rjoinP a0 a1 b0 b1).1 = mn a0 b0 ∧ (rjoinP a0 a1 b0 b1).2 = mx a1 b1) := by
  unfold rjoinP
  by_cases h : a1 < a0
  · rw [if_pos h]
    have := nrms b0 b1
    omega
  · rw [if_neg h]
    by_cases h2 : b1 < b0
    · rw [if_pos h2]; exact .inr (.inr (.inl ⟨by omega, h2, rfl, rfl⟩))
    · rw [if_neg h2]; exact .inr (.inr (.inr ⟨by omega, by omega, rfl, rfl⟩))
end Go.Proofs.Ytbcbcambkjhhhaa
namespace Go.Proofs.Ytbcbcambkjhhhaa
open Go.RowKit
theorem bot_one (f : Int → Int → Int) (x y : Int) : bot f x x y y = f x y := by unfold bot mn; simp
theorem top_one (f : Int → Int → Int) (x y : Int) : top f x x y y = f x y := by unfold top mx; simp
/-- Do answers so, in every world. -/
def DoIs (k a0 a1 b0 b1 z0 z1 : Int) (ov dz : Bool) : Prop := ∀ W, Calls Try.prog 112 #[.int .i64 k, .agg #[.int .i64 a0, .int .i64 a1], .agg #[.int .i64 b0, .int .i64 b1]] W fun e w' => e = .returned (.tuple #[.agg #[.int .i64 z0, .int .i64 z1], .agg #[.bool ov, .bool dz]]) ∧ Below W.heap.size W w'
theorem mul_big (x y : Int) (h0 : -2147483648 ≤ x) (h1 : x ≤ 2147483648) (h2 : -2147483648 ≤ y) (h3 : y ≤ 2147483648) : -9223372036854775808 ≤ x * y ∧ x * y ≤ 9223372036854775807 := by
  have t := mul_btw (-2147483648) 2147483648 x y h0 h1
  unfold Btw at t
  omega
section
variable (a0 a1 b0 b1 : Int) (ha : a0 ≤ a1) (hb : b0 ≤ b1) (r1 : -2147483648 ≤ a0) (r2 : a1 ≤ 2147483647) (r3 : -2147483648 ≤ b0) (r4 : b1 ≤ 2147483647)
include ha hb r1 r2 r3 r4
theorem add_ok : ∃ z0 z1 ov dz, DoIs 4 a0 a1 b0 b1 z0 z1 ov dz ∧ DoOk 4 a0 a1 b0 b1 z0 z1 ov dz :=
  ⟨_, _, _, _, fun W => do_add a0 a1 b0 b1 W ha hb r1 r2 r3 r4, ends_ok 4 a0 a1 b0 b1 (a0 + b0) (a1 + b1) _ _ _ _ ha hb (by simp) (by decide) rfl rfl (fun x y h0 h1 h2 h3 => by have e : valP 4 x y = x + y := rfl; omega)
    (fun _ => ⟨a0, b0, a1, b1, by omega, by omega, by omega, by omega, rfl, by omega, by omega, by omega, by omega, rfl⟩)⟩
theorem sub_ok : ∃ z0 z1 ov dz, DoIs 5 a0 a1 b0 b1 z0 z1 ov dz ∧ DoOk 5 a0 a1 b0 b1 z0 z1 ov dz :=
  ⟨_, _, _, _, fun W => do_sub a0 a1 b0 b1 W ha hb r1 r2 r3 r4, ends_ok 5 a0 a1 b0 b1 (a0 - b1) (a1 - b0) _ _ _ _ ha hb (by simp) (by decide) rfl rfl (fun x y h0 h1 h2 h3 => by have e : valP 5 x y = x - y := rfl; omega)
    (fun _ => ⟨a0, b1, a1, b0, by omega, by omega, by omega, by omega, rfl, by omega, by omega, by omega, by omega, rfl⟩)⟩
theorem mul_ok : ∃ z0 z1 ov dz, DoIs 6 a0 a1 b0 b1 z0 z1 ov dz ∧ DoOk 6 a0 a1 b0 b1 z0 z1 ov dz := by
  have hf : FnOk 140 (fun x y => x * y) a0 a1 b0 b1 := fun x y W hx hy => by
    have t := mul_big x y (by omega) (by omega) (by omega) (by omega)
    exact mul_fn x y W t.1 t.2
  refine ⟨_, _, _, _, fun W => do_6 a0 a1 b0 b1 _ _ _ _ W ha hb (fun W => ends_mul (fun x y => x * y) a0 a1 b0 b1 W hf), ends_ok 6 a0 a1 b0 b1 _ _ _ _ _ _ ha hb (by simp) (by decide) rfl rfl (fun x y h0 h1 h2 h3 => ?_) (fun h => ?_)⟩
  · have e : valP 6 x y = x * y := rfl
    rw [e]
    exact mul_in a0 a1 b0 b1 x y h0 h1 h2 h3
  · rcases h with h | ⟨rfl, rfl⟩
    · omega
    · exact ⟨a0, b0, a0, b0, by omega, by omega, by omega, by omega, (bot_one _ a0 b0).symm, by omega, by omega, by omega, by omega, (top_one _ a0 b0).symm⟩
set_option maxHeartbeats 4000000 in
theorem div_ok : ∃ z0 z1 ov dz, DoIs 7 a0 a1 b0 b1 z0 z1 ov dz ∧ DoOk 7 a0 a1 b0 b1 z0 z1 ov dz := by
  obtain ⟨p0, p1, hp⟩ : ∃ x y, meetP b0 b1 (-2147483648) (-1) = (x, y) := ⟨_, _, rfl⟩
  obtain ⟨q0, q1, hq⟩ : ∃ x y, meetP b0 b1 1 2147483647 = (x, y) := ⟨_, _, rfl⟩
  obtain ⟨e0, e1, he⟩ : ∃ x y, ofP (bot Int.tdiv a0 a1 p0 p1) (top Int.tdiv a0 a1 p0 p1) = (x, y) := ⟨_, _, rfl⟩
  obtain ⟨f0, f1, hf⟩ : ∃ x y, ofP (bot Int.tdiv a0 a1 q0 q1) (top Int.tdiv a0 a1 q0 q1) = (x, y) := ⟨_, _, rfl⟩
  obtain ⟨oe, hoe⟩ : ∃ o, o = (decide (bot Int.tdiv a0 a1 p0 p1 < -2147483648) || decide (2147483647 < top Int.tdiv a0 a1 p0 p1)) := ⟨_, rfl⟩
  obtain ⟨of, hof⟩ : ∃ o, o = (decide (bot Int.tdiv a0 a1 q0 q1 < -2147483648) || decide (2147483647 < top Int.tdiv a0 a1 q0 q1)) := ⟨_, rfl⟩
  obtain ⟨u0, u1, uo, hu⟩ : ∃ (u0 u1 : Int) (uo : Bool), (p1 < p0 ∧ u0 = 1 ∧ u1 = 0 ∧ uo = false) ∨ (p0 ≤ p1 ∧ joinP 1 0 e0 e1 = (u0, u1) ∧ uo = (false || oe)) := by
    by_cases h : p1 < p0
    · exact ⟨_, _, _, .inl ⟨h, rfl, rfl, rfl⟩⟩
    · exact ⟨_, _, _, .inr ⟨by omega, rfl, rfl⟩⟩
  obtain ⟨v0, v1, vo, hv⟩ : ∃ (v0 v1 : Int) (vo : Bool), (q1 < q0 ∧ v0 = u0 ∧ v1 = u1 ∧ vo = uo) ∨ (q0 ≤ q1 ∧ joinP u0 u1 f0 f1 = (v0, v1) ∧ vo = (uo || of)) := by
    by_cases h : q1 < q0
    · exact ⟨_, _, _, .inl ⟨h, rfl, rfl, rfl⟩⟩
    · exact ⟨_, _, _, .inr ⟨by omega, rfl, rfl⟩⟩
  have tp : (p0 = 1 ∧ p1 = 0 ∧ 0 ≤ b0) ∨ (p0 ≤ p1 ∧ p0 = b0 ∧ p1 ≤ -1 ∧ (p1 = b1 ∨ p1 = -1) ∧ p1 ≤ b1) := by
    unfold meetP at hp
    have t := ofP_or _ _ _ _ hp
    have m1 := mx_or b0 (-2147483648)
    have m2 := mn_or b1 (-1)
    omega
  have tq : (q0 = 1 ∧ q1 = 0 ∧ b1 ≤ 0) ∨ (q0 ≤ q1 ∧ q1 = b1 ∧ 1 ≤ q0 ∧ (q0 = b0 ∨ q0 = 1) ∧ b0 ≤ q0) := by
    unfold meetP at hq
    have t := ofP_or _ _ _ _ hq
    have m1 := mx_or b0 1
    have m2 := mn_or b1 2147483647
    omega
  have te := ofP_or _ _ _ _ he
  have tf := ofP_or _ _ _ _ hf
  have ne : (e0 = 1 ∧ e1 = 0) ∨ (e0 ≤ e1 ∧ -2147483648 ≤ e0 ∧ e1 ≤ 2147483647) := by omega
  have nf : (f0 = 1 ∧ f1 = 0) ∨ (f0 ≤ f1 ∧ -2147483648 ≤ f0 ∧ f1 ≤ 2147483647) := by omega
  have tu : (p1 < p0 ∧ u0 = 1 ∧ u1 = 0 ∧ uo = false) ∨ (p0 ≤ p1 ∧ u0 = e0 ∧ u1 = e1 ∧ uo = oe) := by
    rcases hu with h | ⟨h, hj, ho⟩
    · exact .inl h
    · rw [join_eq (by decide) (by decide) (by omega) (by omega)] at hj
      have s := join_specs 1 0 e0 e1
      rw [hj] at s
      dsimp only at s
      exact .inr ⟨h, by omega, by omega, by simpa using ho⟩
  have nu : (u0 = 1 ∧ u1 = 0) ∨ (u0 ≤ u1 ∧ -2147483648 ≤ u0 ∧ u1 ≤ 2147483647) := by omega
  have tv : (q1 < q0 ∧ v0 = u0 ∧ v1 = u1 ∧ vo = uo) ∨ (q0 ≤ q1 ∧ ((u1 < u0 ∧ f1 < f0 ∧ v0 = 1 ∧ v1 = 0) ∨ (u1 < u0 ∧ f0 ≤ f1 ∧ v0 = f0 ∧ v1 = f1) ∨ (u0 ≤ u1 ∧ f1 < f0 ∧ v0 = u0 ∧ v1 = u1) ∨ (u0 ≤ u1 ∧ f0 ≤ f1 ∧ v0 ≤ u0 ∧ v0 ≤ f0 ∧ u1 ≤ v1 ∧ f1 ≤ v1 ∧ (v0 = u0 ∨ v0 = f0) ∧ (v1 = u1 ∨ v1 = f1))) ∧ vo = (uo || of)) := by
    rcases hv with h | ⟨h, hj, ho⟩
    · exact .inl h
    · rw [join_eq (by omega) (by omega) (by omega) (by omega)] at hj
      have s := join_specs u0 u1 f0 f1
      have m1 := mn_or u0 f0
      have m2 := mx_or u1 f1
      rw [hj] at s
      dsimp only at s
      exact .inr ⟨h, by omega, ho⟩
  have hin0 : ∀ x y, a0 ≤ x → x ≤ a1 → b0 ≤ y → y < 0 → bot Int.tdiv a0 a1 p0 p1 ≤ x.tdiv y ∧ x.tdiv y ≤ top Int.tdiv a0 a1 p0 p1 ∨ b1 < y := fun x y h0 h1 h2 h3 => by
    by_cases hy : b1 < y
    · exact .inr hy
    · exact .inl (quo_in a0 a1 p0 p1 x y (.inr (by omega)) h0 h1 (by omega) (by omega))
  have hin1 : ∀ x y, a0 ≤ x → x ≤ a1 → y ≤ b1 → 0 < y → bot Int.tdiv a0 a1 q0 q1 ≤ x.tdiv y ∧ x.tdiv y ≤ top Int.tdiv a0 a1 q0 q1 ∨ y < b0 := fun x y h0 h1 h2 h3 => by
    by_cases hy : y < b0
    · exact .inr hy
    · exact .inl (quo_in a0 a1 q0 q1 x y (.inl (by omega)) h0 h1 (by omega) (by omega))
  refine ⟨v0, v1, vo, decide (b0 ≤ 0 ∧ 0 ≤ b1), fun W => do_7 a0 a1 b0 b1 v0 v1 vo _ W ha hb (fun W => ?_), ?_⟩
  · exact div_gen a0 a1 b0 b1 (fun k => if k = 0 then p0 else q0) (fun k => if k = 0 then p1 else q1) (fun k => if k = 0 then 1 else if k = 1 then u0 else v0) (fun k => if k = 0 then 0 else if k = 1 then u1 else v1) (fun k => if k = 0 then e0 else f0) (fun k => if k = 0 then e1 else f1) (fun k => if k = 0 then false else if k = 1 then uo else vo) (fun k => if k = 0 then oe else of) W
      (fun W => by have t := meet_any b0 b1 (-2147483648) (-1) W; rw [hp] at t; exact t)
      (fun W => by have t := meet_any b0 b1 1 2147483647 W; rw [hq] at t; exact t)
      ⟨rfl, rfl, rfl⟩
      (fun k hk hem => by
        match k, hk with
        | 0, _ => replace hem : p1 < p0 := hem; exact ⟨show u0 = 1 by omega, show u1 = 0 by omega, show uo = false by rcases tu with h | h; exact h.2.2.2; omega⟩
        | 1, _ => replace hem : q1 < q0 := hem; exact ⟨show v0 = u0 by omega, show v1 = u1 by omega, show vo = uo by rcases tv with h | h; exact h.2.2.2; omega⟩)
      (fun k hk hem W => by
        match k, hk with
        | 0, _ =>
          replace hem : p0 ≤ p1 := hem
          have t := ends_quo Int.tdiv a0 a1 p0 p1 W (fun x y W hx hy => by have := td_abs x y 2147483648 (by omega) (by omega) (by omega); exact quo_fn x y W (by omega) (by omega) (by omega))
          rw [he, ← hoe] at t
          exact t
        | 1, _ =>
          replace hem : q0 ≤ q1 := hem
          have t := ends_quo Int.tdiv a0 a1 q0 q1 W (fun x y W hx hy => by have := td_abs x y 2147483648 (by omega) (by omega) (by omega); exact quo_fn x y W (by omega) (by omega) (by omega))
          rw [hf, ← hof] at t
          exact t)
      (fun k hk hem W => by
        match k, hk with
        | 0, _ =>
          replace hem : p0 ≤ p1 := hem
          have t := join_any 1 0 e0 e1 W
          have hj : joinP 1 0 e0 e1 = (u0, u1) := by rcases hu with h | h; omega; exact h.2.1
          rw [hj] at t
          exact t
        | 1, _ =>
          replace hem : q0 ≤ q1 := hem
          have t := join_any u0 u1 f0 f1 W
          have hj : joinP u0 u1 f0 f1 = (v0, v1) := by rcases hv with h | h; omega; exact h.2.1
          rw [hj] at t
          exact t)
      (fun k hk hem => by
        match k, hk with
        | 0, _ => replace hem : p0 ≤ p1 := hem; exact show uo = (false || oe) by rcases hu with h | h; omega; exact h.2.2
        | 1, _ => replace hem : q0 ≤ q1 := hem; exact show vo = (uo || of) by rcases hv with h | h; omega; exact h.2.2)
  · clear hu hv hp hq he hf
    have eo : oe = true ↔ bot Int.tdiv a0 a1 p0 p1 < -2147483648 ∨ 2147483647 < top Int.tdiv a0 a1 p0 p1 := by rw [hoe]; simp
    have fo : of = true ↔ bot Int.tdiv a0 a1 q0 q1 < -2147483648 ∨ 2147483647 < top Int.tdiv a0 a1 q0 q1 := by rw [hof]; simp
    clear hoe hof
    have vt : vo = true ↔ (p0 ≤ p1 ∧ oe = true) ∨ (q0 ≤ q1 ∧ of = true) := by
      have ut : uo = true ↔ (p0 ≤ p1 ∧ oe = true) := by
        rcases tu with ⟨h, _, _, h2⟩ | ⟨h, _, _, h2⟩
        · rw [h2]; simp; omega
        · rw [h2]; simp [h]
      rcases tv with ⟨h, _, _, h2⟩ | ⟨h, _, h2⟩
      · rw [h2, ut]; constructor
        · exact .inl
        · rintro (h3 | h3)
          · exact h3
          · omega
      · rw [h2]; simp only [Bool.or_eq_true, ut, h, true_and]
    refine ⟨by omega, fun x y x0 x1 y0 y1 h => ?_, fun x y x0 x1 y0 y1 h => ?_, by simp, fun hs ht => ?_, fun hal => ?_⟩
    · have v := errP_or 7 x y
      have e : valP 7 x y = x.tdiv y := rfl
      rw [e] at v ⊢
      have u := hin0 x y x0 x1 y0
      have u' := hin1 x y x0 x1 y1
      clear hin0 hin1 eo fo vt
      omega
    · have v := errP_or 7 x y
      have e : valP 7 x y = x.tdiv y := rfl
      rw [e] at v
      have u := hin0 x y x0 x1 y0
      have u' := hin1 x y x0 x1 y1
      rw [vt, eo, fo]
      clear hin0 hin1 eo fo vt
      omega
    · rcases hs with h | ⟨rfl, rfl⟩
      · omega
      · refine ⟨a0, b0, by omega, by omega, by omega, by omega, ?_⟩
        rw [vt, eo, fo] at ht
        have v := errP_or 7 a0 b0
        have e : valP 7 a0 b0 = a0.tdiv b0 := rfl
        rw [e] at v
        have zp : p0 ≤ p1 → bot Int.tdiv a0 a0 p0 p1 = a0.tdiv b0 ∧ top Int.tdiv a0 a0 p0 p1 = a0.tdiv b0 := fun h => by
          obtain rfl : p0 = b0 := by omega
          obtain rfl : p1 = p0 := by omega
          exact ⟨bot_one _ _ _, top_one _ _ _⟩
        have zq : q0 ≤ q1 → bot Int.tdiv a0 a0 q0 q1 = a0.tdiv b0 ∧ top Int.tdiv a0 a0 q0 q1 = a0.tdiv b0 := fun h => by
          obtain rfl : q1 = b0 := by omega
          obtain rfl : q0 = q1 := by omega
          exact ⟨bot_one _ _ _, top_one _ _ _⟩
        clear hin0 hin1 eo fo vt
        omega
    · obtain ⟨rfl, rfl⟩ := hal
      have v := errP_or 7 a0 b0
      have e : valP 7 a0 b0 = a0.tdiv b0 := rfl
      rw [e] at v ⊢
      have zp : p0 ≤ p1 → bot Int.tdiv a0 a0 p0 p1 = a0.tdiv b0 ∧ top Int.tdiv a0 a0 p0 p1 = a0.tdiv b0 := fun h => by
        obtain rfl : p0 = b0 := by omega
        obtain rfl : p1 = p0 := by omega
        exact ⟨bot_one _ _ _, top_one _ _ _⟩
      have zq : q0 ≤ q1 → bot Int.tdiv a0 a0 q0 q1 = a0.tdiv b0 ∧ top Int.tdiv a0 a0 q0 q1 = a0.tdiv b0 := fun h => by
        obtain rfl : q1 = b0 := by omega
        obtain rfl : q0 = q1 := by omega
        exact ⟨bot_one _ _ _, top_one _ _ _⟩
      clear hin0 hin1 eo fo vt
      exact ⟨fun h => by omega, fun h => by omega⟩
theorem mod_ok : ∃ z0 z1 ov dz, DoIs 8 a0 a1 b0 b1 z0 z1 ov dz ∧ DoOk 8 a0 a1 b0 b1 z0 z1 ov dz := by
  have e8 : ∀ x y, valP 8 x y = x.tmod y := fun x y => (show valP 8 x y = x - x.tdiv y * y from rfl).trans (rest_eq x y)
  by_cases hz : b0 = 0 ∧ b1 = 0
  · obtain ⟨rfl, rfl⟩ := hz
    refine ⟨1, 0, false, true, fun W => do_8 a0 a1 0 0 1 0 false true W ha hb (fun W => rest_0 a0 a1 0 0 true W (by decide) ⟨by decide, by decide⟩), ⟨.inl ⟨rfl, rfl⟩, fun x y x0 x1 y0 y1 h => ?_, fun x y x0 x1 y0 y1 h => ?_, by simp, fun _ h => (by cases h), fun _ => ⟨fun _ => ⟨rfl, rfl⟩, fun h => ?_⟩⟩⟩
    · have v := errP_or 8 x y; omega
    · have v := errP_or 8 x y; omega
    · have v := errP_or 8 a0 0; omega
  by_cases hal : a0 = a1 ∧ b0 = b1
  · obtain ⟨rfl, rfl⟩ := hal
    have hb0 : b0 ≠ 0 := by omega
    have t := tm_any a0 b0 2147483648 hb0 (by omega) (by omega)
    have v := errP_or 8 a0 b0
    rw [e8] at v
    refine ⟨a0.tmod b0, a0.tmod b0, false, decide (b0 ≤ 0 ∧ 0 ≤ b0), fun W => do_8 a0 a0 b0 b0 _ _ false _ W ha hb (fun W => rest_1 a0 a0 b0 b0 (a0.tmod b0) _ W rfl hb0 ⟨by rw [beq_eq_false_iff_ne]; exact hb0, by simp, by simp⟩ (wr64 _ (by omega) (by omega)) rfl (fun W => const_in _ W (by omega) (by omega))), ⟨.inr ⟨Int.le_refl _, by omega, by omega⟩, fun x y x0 x1 y0 y1 h => ?_, fun x y x0 x1 y0 y1 h => ?_, by simp, fun _ h => (by cases h), fun _ => ⟨fun h => by omega, fun h => ⟨(e8 a0 b0).symm, (e8 a0 b0).symm⟩⟩⟩⟩
    · obtain rfl : x = a0 := by omega
      obtain rfl : y = b0 := by omega
      rw [e8]
      omega
    · obtain rfl : x = a0 := by omega
      obtain rfl : y = b0 := by omega
      omega
  · have key : ∀ (l h : Int), ofP (mx (-(mx (-b0) b1 - 1)) (mn a0 0)) (mn (mx (-b0) b1 - 1) (mx a1 0)) = (l, h) → DoOk 8 a0 a1 b0 b1 l h false (decide (b0 ≤ 0 ∧ 0 ≤ b1)) := by
      intro l h e
      have t := ofP_or _ _ _ _ e
      have s1 := mx_or (-b0) b1
      have s2 := mx_or (-(mx (-b0) b1 - 1)) (mn a0 0)
      have s3 := mn_or (mx (-b0) b1 - 1) (mx a1 0)
      have s4 := mn_or a0 0
      have s5 := mx_or a1 0
      refine ⟨by omega, fun x y x0 x1 y0 y1 h => ?_, fun x y x0 x1 y0 y1 h => ?_, by simp, fun _ h => (by cases h), fun h => absurd h hal⟩
      · have v := errP_or 8 x y
        rw [e8] at v ⊢
        have u := tm_any x y (mx (-b0) b1) (by omega) (by omega) (by omega)
        omega
      · have v := errP_or 8 x y
        rw [e8] at v
        have u := tm_any x y (mx (-b0) b1) (by omega) (by omega) (by omega)
        omega
    obtain ⟨l, h, e⟩ : ∃ l h, ofP (mx (-(mx (-b0) b1 - 1)) (mn a0 0)) (mn (mx (-b0) b1 - 1) (mx a1 0)) = (l, h) := ⟨_, _, rfl⟩
    refine ⟨l, h, false, decide (b0 ≤ 0 ∧ 0 ≤ b1), fun W => do_8 a0 a1 b0 b1 l h false _ W ha hb (fun W => ?_), key l h e⟩
    have s1 := mx_or (-b0) b1
    have co : ∀ W, Calls Try.prog 68 #[.int .i64 (mx (-(mx (-b0) b1 - 1)) (mn a0 0)), .int .i64 (mn (mx (-b0) b1 - 1) (mx a1 0))] W fun e w' => e = .returned (.agg #[.int .i64 l, .int .i64 h]) ∧ Below W.heap.size W w' := fun W => by
      have t := of_any (mx (-(mx (-b0) b1 - 1)) (mn a0 0)) (mn (mx (-b0) b1 - 1) (mx a1 0)) W
      rw [e] at t
      exact t
    have bq : ∀ (x y : Int), x = y → (x == y) = true := fun x y h => by rw [beq_iff_eq]; exact h
    have bn : ∀ (x y : Int), x ≠ y → (x == y) = false := fun x y h => by rw [beq_eq_false_iff_ne]; exact h
    by_cases g0 : b0 = 0
    · by_cases g1 : a0 = a1
      · exact rest_2b2 a0 a1 b0 b1 l h _ _ _ _ _ _ _ W rfl ⟨bq _ _ g0, bn _ _ (by omega), bq _ _ g1, bn _ _ (by omega)⟩ r3 (by omega) (by omega) r4 rfl (by omega) (by omega) (wr64 _ (by omega) (by omega)) rfl rfl rfl rfl co
      · exact rest_2b1 a0 a1 b0 b1 l h _ _ _ _ _ _ _ W rfl ⟨bq _ _ g0, bn _ _ (by omega), bn _ _ g1⟩ r3 (by omega) (by omega) r4 rfl (by omega) (by omega) (wr64 _ (by omega) (by omega)) rfl rfl rfl rfl co
    · by_cases g1 : a0 = a1
      · exact rest_2a2 a0 a1 b0 b1 l h _ _ _ _ _ _ _ W rfl ⟨bn _ _ g0, bq _ _ g1, bn _ _ (by omega)⟩ r3 (by omega) (by omega) r4 rfl (by omega) (by omega) (wr64 _ (by omega) (by omega)) rfl rfl rfl rfl co
      · exact rest_2a1 a0 a1 b0 b1 l h _ _ _ _ _ _ _ W rfl ⟨bn _ _ g0, bn _ _ g1⟩ r3 (by omega) (by omega) r4 rfl (by omega) (by omega) (wr64 _ (by omega) (by omega)) rfl rfl rfl rfl co
theorem do_ok (k : Int) (k4 : 4 ≤ k) (k8 : k ≤ 8) : ∃ z0 z1 ov dz, DoIs k a0 a1 b0 b1 z0 z1 ov dz ∧ DoOk k a0 a1 b0 b1 z0 z1 ov dz := by
  have hk : k = 4 ∨ k = 5 ∨ k = 6 ∨ k = 7 ∨ k = 8 := by omega
  rcases hk with rfl | rfl | rfl | rfl | rfl
  · exact add_ok a0 a1 b0 b1 ha hb r1 r2 r3 r4
  · exact sub_ok a0 a1 b0 b1 ha hb r1 r2 r3 r4
  · exact mul_ok a0 a1 b0 b1 ha hb r1 r2 r3 r4
  · exact div_ok a0 a1 b0 b1 ha hb r1 r2 r3 r4
  · exact mod_ok a0 a1 b0 b1 ha hb r1 r2 r3 r4
end
end Go.Proofs.Ytbcbcambkjhhhaa
namespace Go.Proofs.Ytbcbcambkjhhhaa.Sx.Z
open Go.RowKit
abbrev IE := (Int × Int) × (Bool × Bool)
/-- Empty, or of numbers that may be. -/
def Rg (p : Int × Int) : Prop := p.2 < p.1 ∨ (-2147483648 ≤ p.1 ∧ p.2 ≤ 2147483647)
theorem Nm.rg {p : Int × Int} (h : Nm p) : Rg p := by
  rcases h with rfl | h
  · exact .inl (by decide)
  · exact .inr ⟨h.1, h.2.2⟩
def NoDo (k : Int) (a b : Int × Int) : Prop := a.2 < a.1 ∨ b.2 < b.1 ∨ k < 4 ∨ 8 < k
theorem do_spec (k : Int) (a b : Int × Int) : ∃ r : IE, (NoDo k a b → r = ((1, 0), (false, false))) ∧ (¬ NoDo k a b → Rg a → Rg b → DoIs k a.1 a.2 b.1 b.2 r.1.1 r.1.2 r.2.1 r.2.2 ∧ DoOk k a.1 a.2 b.1 b.2 r.1.1 r.1.2 r.2.1 r.2.2) ∧ Nm r.1 ∧ (k = 4 → ¬ NoDo k a b → Rg a → Rg b → r = (ofP (a.1 + b.1) (a.2 + b.2), (decide (a.1 + b.1 < -2147483648) || decide (2147483647 < a.2 + b.2), false))) := by
  by_cases h : NoDo k a b
  · exact ⟨((1, 0), (false, false)), fun _ => rfl, fun c => absurd h c, .inl rfl, fun _ c => absurd h c⟩
  · by_cases hr : Rg a ∧ Rg b
    · obtain ⟨z0, z1, ov, dz, h1, h2⟩ := ((do_ok a.1 a.2 b.1 b.2 (by unfold NoDo at h; omega) (by unfold NoDo at h; omega) (by have := hr.1; unfold NoDo at h; unfold Rg at this; omega) (by have := hr.1; unfold NoDo at h; unfold Rg at this; omega) (by have := hr.2; unfold NoDo at h; unfold Rg at this; omega) (by have := hr.2; unfold NoDo at h; unfold Rg at this; omega) k (by unfold NoDo at h; omega) (by unfold NoDo at h; omega)) : ∃ z0 z1 ov dz, DoIs k a.1 a.2 b.1 b.2 z0 z1 ov dz ∧ DoOk k a.1 a.2 b.1 b.2 z0 z1 ov dz)
      have nm : ∀ {z0 z1 : Int} {ov dz : Bool}, DoOk k a.1 a.2 b.1 b.2 z0 z1 ov dz → Nm (z0, z1) := fun h2 => by
        rcases h2.norm with ⟨e1, e2⟩ | q
        · left; rw [e1, e2]
        · right; dsimp only; omega
      by_cases k4 : k = 4
      · subst k4
        have ra := hr.1
        have rb := hr.2
        unfold NoDo at h
        unfold Rg at ra rb
        have ok : DoOk 4 a.1 a.2 b.1 b.2 (ofP (a.1 + b.1) (a.2 + b.2)).1 (ofP (a.1 + b.1) (a.2 + b.2)).2 (decide (a.1 + b.1 < -2147483648) || decide (2147483647 < a.2 + b.2)) false :=
          ends_ok 4 a.1 a.2 b.1 b.2 (a.1 + b.1) (a.2 + b.2) _ _ _ _ (by omega) (by omega) (by simp) (by decide) rfl rfl (fun x y h0 h1 h2 h3 => by have e : valP 4 x y = x + y := rfl; omega)
            (fun _ => ⟨a.1, b.1, a.2, b.2, by omega, by omega, by omega, by omega, rfl, by omega, by omega, by omega, by omega, rfl⟩)
        exact ⟨(ofP (a.1 + b.1) (a.2 + b.2), (decide (a.1 + b.1 < -2147483648) || decide (2147483647 < a.2 + b.2), false)), fun c => absurd c h, fun _ _ _ => ⟨fun W => do_add a.1 a.2 b.1 b.2 W (by omega) (by omega) (by omega) (by omega) (by omega) (by omega), ok⟩, nm ok, fun _ _ _ _ => rfl⟩
      · exact ⟨((z0, z1), (ov, dz)), fun c => absurd c h, fun _ _ _ => ⟨h1, h2⟩, nm h2, fun c => absurd c k4⟩
    · exact ⟨((1, 0), (false, false)), fun _ => rfl, fun _ ha hb => absurd ⟨ha, hb⟩ hr, .inl rfl, fun _ _ ha hb => absurd ⟨ha, hb⟩ hr⟩
noncomputable def doI (k : Int) (a b : Int × Int) : IE := Classical.choose (do_spec k a b)
theorem doI_nm (k : Int) (a b : Int × Int) : Nm (doI k a b).1 := (Classical.choose_spec (do_spec k a b)).2.2.1
theorem doI_add {a b : Int × Int} (h : ¬ NoDo 4 a b) (ha : Rg a) (hb : Rg b) : doI 4 a b = (ofP (a.1 + b.1) (a.2 + b.2), (decide (a.1 + b.1 < -2147483648) || decide (2147483647 < a.2 + b.2), false)) := (Classical.choose_spec (do_spec 4 a b)).2.2.2 rfl h ha hb
theorem doI_none {k : Int} {a b : Int × Int} (h : NoDo k a b) : doI k a b = ((1, 0), (false, false)) := (Classical.choose_spec (do_spec k a b)).1 h
theorem doI_ok {k : Int} {a b : Int × Int} (h : ¬ NoDo k a b) (ha : Rg a) (hb : Rg b) : DoIs k a.1 a.2 b.1 b.2 (doI k a b).1.1 (doI k a b).1.2 (doI k a b).2.1 (doI k a b).2.2 ∧ DoOk k a.1 a.2 b.1 b.2 (doI k a b).1.1 (doI k a b).1.2 (doI k a b).2.1 (doI k a b).2.2 :=
  (Classical.choose_spec (do_spec k a b)).2.1 h ha hb
noncomputable def dononeS : FSpec := fun ds _ => match ds with
  | [.i k, .i a, .i b, .i c, .i d] => some { val := .tup [.agg [.c (.int .i64 (.sym (doI k (a, b) (c, d)).1.1)), .c (.int .i64 (.sym (doI k (a, b) (c, d)).1.2))], .agg [.c (.bool (.sym (doI k (a, b) (c, d)).2.1)), .c (.bool (.sym (doI k (a, b) (c, d)).2.2))]], vc := [NoDo k (a, b) (c, d)] }
  | _ => none
noncomputable def dononeC : Con := con [iA, itvA, itvA] dononeS
theorem donone_ok : ConOK Try.prog 112 dononeC := by
  refine fn_ob tt_ok mixed Try.func112 rfl (fun _ _ => by kernel_rfl) (A := fun ds => ⟨fun _ => Cons.of [(46, emptyC), (78, inoneC)], fun _ => none, fun _ => none⟩) (fun _ _ => (cons_cons empty_ok (cons_cons inone_ok cons_nil))) (by kernel_rfl) ?_
  intro ds fr
  unfold dononeS
  split
  · rename_i k a b c d
    refine kmp (q := NoDo k (a, b) (c, d) →
 ((decide (b < a) || decide (d < c)) = true →
 (1 : Int) = (doI k (a, b) (c, d)).fst.fst ∧
 (0 : Int) = (doI k (a, b) (c, d)).fst.snd ∧ false = (doI k (a, b) (c, d)).snd.fst ∧ false = (doI k (a, b) (c, d)).snd.snd) ∧
 ((decide (b < a) || decide (d < c)) = false →
 ((k == (4 : Int)) = true → False) ∧
 ((k == (4 : Int)) = false →
 ((k == (5 : Int)) = true → False) ∧
 ((k == (5 : Int)) = false →
 ((k == (6 : Int)) = true → False) ∧
 ((k == (6 : Int)) = false →
 ((k == (7 : Int)) = true → False) ∧
 ((k == (7 : Int)) = false →
 ((k == (8 : Int)) = true → False) ∧
 ((k == (8 : Int)) = false →
 (1 : Int) = (doI k (a, b) (c, d)).fst.fst ∧
 (0 : Int) = (doI k (a, b) (c, d)).fst.snd ∧ false = (doI k (a, b) (c, d)).snd.fst ∧ false = (doI k (a, b) (c, d)).snd.snd))))))) (by kernel_rfl) ?_
    intro h
    rw [doI_none h]
    have h' : b < a ∨ d < c ∨ k < 4 ∨ 8 < k := h
    simp
    omega
  · trivial
noncomputable def doS : FSpec := fun ds _ => match ds with
  | [.i k, .i a, .i b, .i c, .i d] => some { val := .tup [.agg [.c (.int .i64 (.sym (doI k (a, b) (c, d)).1.1)), .c (.int .i64 (.sym (doI k (a, b) (c, d)).1.2))], .agg [.c (.bool (.sym (doI k (a, b) (c, d)).2.1)), .c (.bool (.sym (doI k (a, b) (c, d)).2.2))]], vc := [Rg (a, b), Rg (c, d)] }
  | _ => none
noncomputable def doC : Con := con [iA, itvA, itvA] doS
/-- A call that tells numbers and truths, and leaves memory as it was. -/
theorem con_plain {P : Program} {f : FuncId} {aps : List AP} {spec : FSpec} (hen : ∀ (args : Array Value) (w : World), (callFunc f args).run P w = .ok (.enter f args) w)
    (H : ∀ ds fr e, spec ds fr = some e → All e.vc → e.nw = [] ∧ plainE e = true ∧ ∀ svs h id ρ vs, unP aps ds 0 = some (svs, h, id) → ArgsRel ρ svs vs → ∀ w, ∃ v, (∀ ρ, UR ρ e.val v) ∧ Calls P f vs.toArray w fun en w' => en = .returned v ∧ Below w.heap.size w w') : ConOK P f (con aps spec) := by
  refine ⟨hen, fun hp fr args e he hv w0 w ρ vs hw _ ha => ?_⟩
  unfold con at he
  split at he
  · rename_i ds ps hds
    split at he
    · rename_i e1 he1
      obtain rfl := by simpa using he
      obtain ⟨hp1, hp2⟩ := all_append.1 hv
      obtain ⟨svs, h, ρ1, id, hun, _, _, hrel⟩ := unP_spec hw aps args ds ps hds hp1 vs ha (ids := keepOwn hp (idsL args)) (fun i hi ho => keepOwn_mem.2 ⟨hi, ho⟩) 0
      obtain ⟨h1, h2, h3⟩ := H ds fr e1 he1 hp2
      obtain ⟨v, hv, hc⟩ := h3 svs h id ρ1 vs hun hrel w
      refine hc.mono ?_
      rintro en w' ⟨rfl, hb⟩
      refine ⟨ρ, v, rfl, hv ρ, ⟨⟨fun _ _ h => h, fun _ _ => rfl, fun _ _ h => h, rfl, rfl⟩, fun _ _ => rfl, hb.mono (Nat.zero_le _), fun b hlt _ => hb.block b hlt, fun i x h => ?_, fun i x h => ?_, fun i j x y h => ?_, fun _ _ h => .inl h⟩⟩
      · rw [h2] at h; simp [look] at h
      · have h : look e1.nw i = some x := h
        rw [h1] at h; simp [look] at h
      · have h : look e1.nw i = some x := h
        rw [h1] at h; simp [look] at h
    · cases he
  · cases he
theorem agg2 {ρ : Map} {a b : Int} {v : Value} (h : UR ρ (.one (.agg [.c (.int .i64 (.sym a)), .c (.int .i64 (.sym b))])) v) : v = .agg #[.int .i64 a, .int .i64 b] := by
  obtain ⟨cs, rfl, h1, h2⟩ := h
  obtain ⟨l⟩ := cs
  match l, h1 with
  | [x, y], _ =>
    have e1 := h2 0 _ x rfl rfl
    have e2 := h2 1 _ y rfl rfl
    have e1 : x = .int .i64 a := e1
    have e2 : y = .int .i64 b := e2
    rw [e1, e2]
theorem do_con : ConOK Try.prog 112 doC := by
  classical
  · refine ⟨fun _ _ => by kernel_rfl, fun hp fr args e he hv => ?_⟩
    have he0 := he
    unfold doC con at he
    split at he
    · rename_i ds ps hds
      split at he
      · rename_i e1 he1
        unfold doS at he1
        split at he1
        · rename_i k a b c d
          obtain rfl := Option.some.inj he1
          obtain rfl := Option.some.inj he
          obtain ⟨v1, v2⟩ := all_append.1 hv
          by_cases hn : NoDo k (a, b) (c, d)
          · have hd : dononeC hp fr args = some { val := .tup [.agg [.c (.int .i64 (.sym (doI k (a, b) (c, d)).1.1)), .c (.int .i64 (.sym (doI k (a, b) (c, d)).1.2))], .agg [.c (.bool (.sym (doI k (a, b) (c, d)).2.1)), .c (.bool (.sym (doI k (a, b) (c, d)).2.2))]], vc := ps ++ [NoDo k (a, b) (c, d)], st := [] } := by
              unfold dononeC con
              rw [hds]
              rfl
            intro w0 w ρ vs hw hf ha
            exact (donone_ok.calls hp fr args _ hd (all_append.2 ⟨v1, hn, trivial⟩) w0 w ρ vs hw hf ha).mono fun en w' h => by
              obtain ⟨ρ', v, h1, h2, h3⟩ := h
              exact ⟨ρ', v, h1, h2, ⟨h3.ext, h3.only, h3.below, h3.keep, h3.st, h3.nw, h3.apart, h3.fz⟩⟩
          · refine (con_plain (spec := fun ds fr => if ds = [.i k, .i a, .i b, .i c, .i d] then doS ds fr else none) (aps := [iA, itvA, itvA]) (fun _ _ => by kernel_rfl) ?_).calls hp fr args _ ?_ hv
            · intro ds' fr' e' h1 h2
              split at h1
              · rename_i hds'
                subst hds'
                obtain rfl := Option.some.inj h1
                refine ⟨rfl, rfl, fun svs h id ρ vs hun ha w => ?_⟩
                obtain ⟨rfl, rfl, rfl⟩ : svs = _ ∧ h = _ ∧ id = _ := by
                  have := Option.some.inj hun
                  exact ⟨(congrArg Prod.fst this).symm, (congrArg (fun x => x.2.1) this).symm, (congrArg (fun x => x.2.2) this).symm⟩
                match vs, ha with
                | [x, y, z], ⟨e1, e2, e3, _⟩ =>
                  have e1 : x = .int .i64 k := e1
                  rw [e1, agg2 e2, agg2 e3]
                  refine ⟨_, fun ρ => ?_, ((doI_ok hn h2.1 h2.2.1).1 w)⟩
                  refine ⟨_, rfl, ⟨_, rfl, rfl, fun i x v hx hv => ?_⟩, ⟨_, rfl, rfl, fun i x v hx hv => ?_⟩, trivial⟩
                  · match i with
                    | 0 => obtain rfl := Option.some.inj hx; obtain rfl := Option.some.inj hv; rfl
                    | 1 => obtain rfl := Option.some.inj hx; obtain rfl := Option.some.inj hv; rfl
                    | i + 2 => cases hx
                  · match i with
                    | 0 => obtain rfl := Option.some.inj hx; obtain rfl := Option.some.inj hv; rfl
                    | 1 => obtain rfl := Option.some.inj hx; obtain rfl := Option.some.inj hv; rfl
                    | i + 2 => cases hx
              · cases h1
            · unfold con
              rw [hds]
              simp only [if_true]
              rfl
        · cases he1
      · cases he
    · cases he
end Go.Proofs.Ytbcbcambkjhhhaa.Sx.Z
