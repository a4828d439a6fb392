/-
  FlowNots: for every number flow.Not tells what the document's answer tells, and Not of that is the number again, unless it is 0.
  Conditions: none.
-/
import Derived.Test.YtdnniilffgojoaaRows
import Derived.Test.YtdnniilffgojoaaFr
import Derived.WalkKit
import Derived.ProofKit
import Derived.OpenShut
import Derived.ShutString
import Derived.ChangeOld
import Derived.Below
namespace Go.Proofs.Ytdnniilffgojoaa
open Go.ChangeShapes Go.WideShapes Go.ChangeAt Go.RowKit
open Go.ChangeMaps (open_string shut_string)

/-- A comparison and its opposite. -/
def Opp (op r : Int) : Prop := (op = 1 ∧ r = 2) ∨ (op = 2 ∧ r = 1) ∨ (op = 3 ∧ r = 6) ∨ (op = 4 ∧ r = 5) ∨ (op = 5 ∧ r = 4) ∨ (op = 6 ∧ r = 3)
theorem Opp.back {op r : Int} (h : Opp op r) : Opp r op := by unfold Opp at *; omega
theorem not_val (op r : Int) (w : World) (h : Opp op r) : Calls Try.prog 6 #[.int .i64 op] w fun e w' => e = .returned (.int .i64 r) ∧ w = w' := by
  unfold Opp at h
  rcases h with ⟨rfl, rfl⟩ | ⟨rfl, rfl⟩ | ⟨rfl, rfl⟩ | ⟨rfl, rfl⟩ | ⟨rfl, rfl⟩ | ⟨rfl, rfl⟩
  all_goals
    go_enter Try.func6, Try.ntmps6
    go_wp2
    go_ret
    exact ⟨rfl, rfl⟩
theorem ref_val (op r : Int) (w : World) (h : Opp op r) : Calls Try.prog 8 #[.int .i64 op] w fun e w' => e = .returned (.int .i64 r) ∧ Below w.heap.size w w' := by
  unfold Opp at h
  rcases h with ⟨rfl, rfl⟩ | ⟨rfl, rfl⟩ | ⟨rfl, rfl⟩ | ⟨rfl, rfl⟩ | ⟨rfl, rfl⟩ | ⟨rfl, rfl⟩
  all_goals
    go_enter Try.func8, Try.ntmps8
    go_wp2
    go_ret
    exact ⟨rfl, (Below.refl _ _).alloc (Nat.le_refl _) _⟩
theorem not_other (op : Int) (w : World) (h : op < 1 ∨ 6 < op) : Calls Try.prog 6 #[.int .i64 op] w fun e w' => e = .returned (.int .i64 0) ∧ w = w' := by
  have h1 : (op == 1) = false := by rw [beq_eq_false_iff_ne]; omega
  have h2 : (op == 2) = false := by rw [beq_eq_false_iff_ne]; omega
  have h3 : (op == 3) = false := by rw [beq_eq_false_iff_ne]; omega
  have h4 : (op == 4) = false := by rw [beq_eq_false_iff_ne]; omega
  have h5 : (op == 5) = false := by rw [beq_eq_false_iff_ne]; omega
  have h6 : (op == 6) = false := by rw [beq_eq_false_iff_ne]; omega
  clear h
  go_enter Try.func6, Try.ntmps6
  go_wp2
  go_ret
  exact ⟨rfl, rfl⟩
theorem ref_other (op : Int) (w : World) (h : op < 1 ∨ 6 < op) : Calls Try.prog 8 #[.int .i64 op] w fun e w' => e = .returned (.int .i64 0) ∧ w = w' := by
  rcases h with h | h
  · go_enter Try.func8, Try.ntmps8
    go_wp2
    go_ret
    exact ⟨rfl, rfl⟩
  · have h1 : decide (op < 1) = false := by simp; omega
    go_enter Try.func8, Try.ntmps8
    go_wp2
    go_ret
    exact ⟨rfl, rfl⟩

set_option maxRecDepth 100000 in
set_option maxHeartbeats 2000000 in
theorem flowNots_walk (op : Int) (_ : (Lit.int .i64 op).wf = true) (w : World) :
    Calls Try.prog 3 #[.int .i64 op] w fun e w' => e = .returned (.bool true) ∧ Below w.heap.size w w' := by
  by_cases hc : 1 ≤ op ∧ op ≤ 6
  · obtain ⟨r, hr, hr0⟩ : ∃ r, Opp op r ∧ (r == 0) = false := by
      have : op = 1 ∨ op = 2 ∨ op = 3 ∨ op = 4 ∨ op = 5 ∨ op = 6 := by omega
      rcases this with rfl | rfl | rfl | rfl | rfl | rfl
      · exact ⟨2, by unfold Opp; omega, rfl⟩
      · exact ⟨1, by unfold Opp; omega, rfl⟩
      · exact ⟨6, by unfold Opp; omega, rfl⟩
      · exact ⟨5, by unfold Opp; omega, rfl⟩
      · exact ⟨4, by unfold Opp; omega, rfl⟩
      · exact ⟨3, by unfold Opp; omega, rfl⟩
    clear hc
    go_enter Try.func3, Try.ntmps3
    go_wp2_with fail
    refine (not_val op r w hr).mono ?_
    rintro e w1 ⟨rfl, rfl⟩
    go_wp2_with fail
    refine (builds_any w).mono ?_
    rintro e w1 ⟨rfl, hb1⟩
    go_wp2_with fail
    refine (ref_val op r w1 hr).mono ?_
    rintro e w2 ⟨rfl, hb2⟩
    go_wp2_with fail
    refine (not_val r op w2 hr.back).mono ?_
    rintro e w3 ⟨rfl, rfl⟩
    go_wp2_with fail
    go_ret
    exact ⟨by simp, hb1.trans (hb2.mono hb1.size)⟩
  · have ho : op < 1 ∨ 6 < op := by omega
    clear hc
    go_enter Try.func3, Try.ntmps3
    go_wp2_with fail
    refine (not_other op w ho).mono ?_
    rintro e w1 ⟨rfl, rfl⟩
    go_wp2_with fail
    refine (builds_any w).mono ?_
    rintro e w1 ⟨rfl, hb1⟩
    go_wp2_with fail
    refine (ref_other op w1 ho).mono ?_
    rintro e w2 ⟨rfl, rfl⟩
    go_wp2_with fail
    go_ret
    exact ⟨by simp, hb1⟩

theorem flowNots_own : ownKnob Try.prog.godebug = none := by kernel_rfl
set_option maxRecDepth 100000 in
theorem flowNots_lifted (os : Os) (started : os.Started) (H : Type) (enc : TypeId × Value → H) :
    ReturnsInHanded {} Try.checked os 3 .any (Rows.flowNotsSpec.pre6 enc Try.prog Try.f3 Rows.flowNotsRow.domain false) (Rows.flowNotsSpec.post enc Try.prog Try.f3 false true false false) := by
  refine returnsInHanded_of_change (C := Try.checked) flowNots_own started (by kernel_rfl) Try.func3
    (ChangeSpec.witness6 (enc := enc) (C := Try.checked) false ⟨#[], #[.int .i64 0], []⟩ 8 (by kernel_rfl) (by kernel_rfl) (by kernel_rfl) (by kernel_rfl)) ?_
  intro W base args ds gs before hval0 hW _ _
  have hval : ∀ (j : Nat) t v, Try.f3.params[j]? = some t → args[j]? = some v → Value.okWide Try.prog W .any base t v := hval0
  have hW' := hW
  obtain ⟨p, q, hA0, hV, rfl, _, _⟩ := hW
  have hA : DataW.TrodAll enc Try.prog W 0 (fun _ => true) true Try.f3.params.toList args.toList ds p := hA0
  rw [Try.params3] at hA hval
  obtain ⟨v0, vs0, d0, ds0, p0, q0, hargs, rfl, rfl, h0, r0⟩ := trodAll_cons hA
  obtain ⟨rfl, rfl, rfl⟩ := trodAll_nil r0
  obtain rfl : args = #[v0] := by cases args; simp_all
  obtain ⟨rfl, rfl⟩ := trodVars_none hV
  obtain ⟨a0, rfl, rfl, rfl, w0⟩ := open_int Try.underlying3 (hval 0 3 v0 rfl rfl) h0
  clear hA0 hval0
  refine (flowNots_walk a0 w0 W).mono fun e W' ⟨he, bel⟩ => ?_
  subst he
  exact ⟨_, rfl, _, _, _, [], _, [], hW', trodAll_mk1 (shut_bool Try.underlying4 _), (trodAll_cons_mk (shut_int Try.underlying3 w0) trodAll_mk0), rfl, bel.frame _, fun h => by cases h⟩

theorem flowNots_holds : Rows.FlowNotsSaid :=
  OpenClaim.holds_of_wide 3 Try.f3 rfl rfl rfl rfl rfl rfl rfl ⟨rfl, rfl, rfl, rfl, rfl⟩ rfl rfl rfl rfl rfl (by kernel_rfl) Try.func3 (by kernel_rfl)
    (of_decide_eq_true (by kernel_rfl)) (by unfold Func.isWrapper; first | (rw [if_pos (by decide +kernel)]; kernel_rfl) | (rw [if_neg (by decide +kernel)]; exact ⟨rfl, rfl⟩))
    (fun os started H enc _ => flowNots_lifted os started H enc)

#print axioms flowNots_holds
end Go.Proofs.Ytdnniilffgojoaa
