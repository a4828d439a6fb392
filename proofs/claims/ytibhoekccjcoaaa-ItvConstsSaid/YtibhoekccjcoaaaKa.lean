/-
  ItvConsts: of all two numbers of 32 bits, and of each comparison: joins, meets and tests of the two numbers alone are told as the numbers are; and what every law of layer 8 asks of Do, Empty, None and Has.
  Conditions: none.
-/
import Derived.Test.YtibhoekccjcoaaaRows
import Derived.Test.YtibhoekccjcoaaaIk
import Derived.Test.YtibhoekccjcoaaaIv
import Derived.WalkKit
import Derived.ProofKit
import Derived.OpenShut
import Derived.ShutString
import Derived.ChangeOld
import Derived.Below
namespace Go.Proofs.Ytibhoekccjcoaaa
open Go.ChangeShapes Go.WideShapes Go.ChangeAt Go.RowKit
open Go.ChangeMaps (open_string shut_string)

theorem w32 (x : Int) (h1 : -2147483648 ≤ x) (h2 : x ≤ 2147483647) : wrap64 x = x := by unfold wrap64; omega
theorem sixth (op : Int) : 1 ≤ wrap64 (1 + wrap64 ((IntKind.u64.wrap op).tmod 6)) ∧ wrap64 (1 + wrap64 ((IntKind.u64.wrap op).tmod 6)) ≤ 6 := by
  have h0 : 0 ≤ IntKind.u64.wrap op := by simp [IntKind.wrap, IntKind.bits, IntKind.signed]; omega
  generalize IntKind.u64.wrap op = u at *
  have h1 := Int.tmod_nonneg 6 h0
  have h2 : u.tmod 6 < 6 := by rw [Int.tmod_eq_emod_of_nonneg h0]; omega
  unfold wrap64
  omega
theorem itvConsts_walk (x y op : Int) (hx : (Lit.int .i32 x).wf = true) (hy : (Lit.int .i32 y).wf = true) (_hop : (Lit.int .i64 op).wf = true) (w : World) :
    Calls Try.prog 9 #[.int .i32 x, .int .i32 y, .int .i64 op] w fun e w' => e = .returned (.bool true) ∧ Below w.heap.size w w' := by
  have x0 : -2147483648 ≤ x ∧ x ≤ 2147483647 := by simp [Lit.wf, IntKind.min, IntKind.max, IntKind.bits, IntKind.signed] at hx; omega
  have y0 : -2147483648 ≤ y ∧ y ≤ 2147483647 := by simp [Lit.wf, IntKind.min, IntKind.max, IntKind.bits, IntKind.signed] at hy; omega
  obtain ⟨x1, x2⟩ := x0
  obtain ⟨y1, y2⟩ := y0
  have hl : (if y < x then y else x) = mn x y := rfl
  have hh : (if x < y then y else x) = mx x y := rfl
  have ho : ofP (mn x y) (mx x y) = (mn x y, mx x y) := ofP_in _ _ (by unfold mn; split <;> omega) (by unfold mx; split <;> omega) (by unfold mn mx; split <;> split <;> omega)
  have hj : joinP x x y y = (mn x y, mx x y) := by
    unfold joinP
    rw [if_neg (by omega), if_neg (by omega)]
    exact ho
  have hm : meetP x x y y = ((meetP x x y y).1, (meetP x x y y).2) := rfl
  have hme : decide ((meetP x x y y).2 < (meetP x x y y).1) = decide (x ≠ y) := by
    by_cases h : x = y
    · rw [meet_yes x y x1 x2 h]; simp [h]
    · rw [meet_no x y h]; simp [h]
  have hw : withinB x x y y = decide (x = y) := by
    unfold withinB
    by_cases h : x = y
    · simp [h]
    · have : ¬ (y ≤ x ∧ x ≤ y) := by omega
      simp [h]
      omega
  obtain ⟨k1, k2⟩ := sixth op
  generalize hk : wrap64 (1 + wrap64 ((IntKind.u64.wrap op).tmod 6)) = k at k1 k2
  have yes : ∀ (_ : ∀ W, Calls Try.prog 33 #[.int .i64 k, .agg #[.int .i64 x, .int .i64 x], .agg #[.int .i64 y, .int .i64 y]] W fun e w' => e = .returned (.tuple #[.agg #[.int .i64 x, .int .i64 x], .agg #[.int .i64 y, .int .i64 y]]) ∧ Below W.heap.size W w') (_ : ∀ W, Calls Try.prog 37 #[.int .i64 k, .int .i64 x, .int .i64 y] W fun e w' => e = .returned (.bool true) ∧ W = w'), Calls Try.prog 9 #[.int .i32 x, .int .i32 y, .int .i64 op] w fun e w' => e = .returned (.bool true) ∧ Below w.heap.size w w' :=
    fun c1 c2 => consts_true x y op k _ _ _ _ w (w32 x x1 x2) (w32 y y1 y2) hk x1 x2 y1 y2 c1 c2 hl hh hj ho hm hme hw
  have no : ∀ (_ : ∀ W, Calls Try.prog 33 #[.int .i64 k, .agg #[.int .i64 x, .int .i64 x], .agg #[.int .i64 y, .int .i64 y]] W fun e w' => e = .returned (.tuple #[.agg #[.int .i64 1, .int .i64 0], .agg #[.int .i64 1, .int .i64 0]]) ∧ Below W.heap.size W w') (_ : ∀ W, Calls Try.prog 37 #[.int .i64 k, .int .i64 x, .int .i64 y] W fun e w' => e = .returned (.bool false) ∧ W = w'), Calls Try.prog 9 #[.int .i32 x, .int .i32 y, .int .i64 op] w fun e w' => e = .returned (.bool true) ∧ Below w.heap.size w w' :=
    fun c1 c2 => consts_false x y op k _ _ _ _ w (w32 x x1 x2) (w32 y y1 y2) hk x1 x2 y1 y2 c1 c2 hl hh hj ho hm hme hw
  clear hl hh ho hj hm hme hw hk
  have hk6 : k = 1 ∨ k = 2 ∨ k = 3 ∨ k = 4 ∨ k = 5 ∨ k = 6 := by omega
  rcases hk6 with rfl | rfl | rfl | rfl | rfl | rfl
  · by_cases h : x = y
    · exact yes (tell_1_yes x y x1 x2 y1 y2 h) (fun W => by have t := holds_1 x y W; rwa [decide_eq_true h] at t)
    · exact no (tell_1_no x y x1 x2 y1 y2 h) (fun W => by have t := holds_1 x y W; rwa [decide_eq_false h] at t)
  · by_cases h : x ≠ y
    · exact yes (tell_2_yes x y x1 x2 y1 y2 h) (fun W => by have t := holds_2 x y W; rwa [decide_eq_true h] at t)
    · exact no (tell_2_no x y x1 x2 y1 y2 h) (fun W => by have t := holds_2 x y W; rwa [decide_eq_false h] at t)
  · by_cases h : x < y
    · exact yes (tell_3_yes x y x1 x2 y1 y2 h) (fun W => by have t := holds_3 x y W; rwa [decide_eq_true h] at t)
    · exact no (tell_3_no x y x1 x2 y1 y2 h) (fun W => by have t := holds_3 x y W; rwa [decide_eq_false h] at t)
  · by_cases h : x ≤ y
    · exact yes (tell_4_yes x y x1 x2 y1 y2 h) (fun W => by have t := holds_4 x y W; rwa [decide_eq_true h] at t)
    · exact no (tell_4_no x y x1 x2 y1 y2 h) (fun W => by have t := holds_4 x y W; rwa [decide_eq_false h] at t)
  · by_cases h : y < x
    · exact yes (tell_5_yes x y x1 x2 y1 y2 h) (fun W => by have t := holds_5 x y W; rwa [decide_eq_true h] at t)
    · exact no (tell_5_no x y x1 x2 y1 y2 h) (fun W => by have t := holds_5 x y W; rwa [decide_eq_false h] at t)
  · by_cases h : y ≤ x
    · exact yes (tell_6_yes x y x1 x2 y1 y2 h) (fun W => by have t := holds_6 x y W; rwa [decide_eq_true h] at t)
    · exact no (tell_6_no x y x1 x2 y1 y2 h) (fun W => by have t := holds_6 x y W; rwa [decide_eq_false h] at t)

theorem itvConsts_own : ownKnob Try.prog.godebug = none := by kernel_rfl
set_option maxRecDepth 100000 in
theorem itvConsts_lifted (os : Os) (started : os.Started) (H : Type) (enc : TypeId × Value → H) :
    ReturnsInHanded {} Try.checked os 9 .any (Rows.itvConstsSpec.pre6 enc Try.prog Try.f9 Rows.itvConstsRow.domain false) (Rows.itvConstsSpec.post enc Try.prog Try.f9 false true false false) := by
  refine returnsInHanded_of_change (C := Try.checked) itvConsts_own started (by kernel_rfl) Try.func9
    (ChangeSpec.witness6 (enc := enc) (C := Try.checked) false ⟨#[], #[.int .i32 0, .int .i32 0, .int .i64 0], []⟩ 8 (by kernel_rfl) (by kernel_rfl) (by kernel_rfl) (by kernel_rfl)) ?_
  intro W base args ds gs before hval0 hW _ _
  have hval : ∀ (j : Nat) t v, Try.f9.params[j]? = some t → args[j]? = some v → Value.okWide Try.prog W .any base t v := hval0
  have hW' := hW
  obtain ⟨p, q, hA0, hV, rfl, _, _⟩ := hW
  have hA : DataW.TrodAll enc Try.prog W 0 (fun _ => true) true Try.f9.params.toList args.toList ds p := hA0
  rw [Try.params9] at hA hval
  obtain ⟨v0, vs0, d0, ds0, p0, q0, hargs, rfl, rfl, h0, r0⟩ := trodAll_cons hA
  obtain ⟨v1, vs1, d1, ds1, p1, q1, rfl, rfl, rfl, h1, r1⟩ := trodAll_cons r0
  obtain ⟨v2, vs2, d2, ds2, p2, q2, rfl, rfl, rfl, h2, r2⟩ := trodAll_cons r1
  obtain ⟨rfl, rfl, rfl⟩ := trodAll_nil r2
  obtain rfl : args = #[v0, v1, v2] := by cases args; simp_all
  obtain ⟨rfl, rfl⟩ := trodVars_none hV
  obtain ⟨a0, rfl, rfl, rfl, w0⟩ := open_int Try.underlying21 (hval 0 21 v0 rfl rfl) h0
  obtain ⟨a1, rfl, rfl, rfl, w1⟩ := open_int Try.underlying21 (hval 1 21 v1 rfl rfl) h1
  obtain ⟨a2, rfl, rfl, rfl, w2⟩ := open_int Try.underlying3 (hval 2 3 v2 rfl rfl) h2
  clear hA0 hval0
  refine (itvConsts_walk a0 a1 a2 w0 w1 w2 W).mono fun e W' ⟨he, bel⟩ => ?_
  subst he
  exact ⟨_, rfl, _, _, _, [], _, [], hW', trodAll_mk1 (shut_bool Try.underlying4 _), (trodAll_cons_mk (shut_int Try.underlying21 w0) (trodAll_cons_mk (shut_int Try.underlying21 w1) (trodAll_cons_mk (shut_int Try.underlying3 w2) trodAll_mk0))), rfl, bel.frame _, fun h => by cases h⟩

theorem itvConsts_holds : Rows.ItvConstsSaid :=
  OpenClaim.holds_of_wide 9 Try.f9 rfl rfl rfl rfl rfl rfl rfl ⟨rfl, rfl, rfl, rfl, rfl⟩ rfl rfl rfl rfl rfl (by kernel_rfl) Try.func9 (by kernel_rfl)
    (of_decide_eq_true (by kernel_rfl)) (by unfold Func.isWrapper; first | (rw [if_pos (by decide +kernel)]; kernel_rfl) | (rw [if_neg (by decide +kernel)]; exact ⟨rfl, rfl⟩))
    (fun os started H enc _ => itvConsts_lifted os started H enc)

#print axioms itvConsts_holds
end Go.Proofs.Ytibhoekccjcoaaa
