/-
  ItvFew: of two Itvs of few numbers, and of each operation: all numbers that it makes are ones of what is told; errors are told just if there are some; of nought as a divisor, too; of numbers alone just theirs.
  Conditions: none.
-/
import Derived.Test.YtkicilkegeckeaaRows
import Derived.Test.YtkicilkegeckeaaFe
import Derived.WalkKit
import Derived.ProofKit
import Derived.OpenShut
import Derived.ShutString
import Derived.ChangeOld
import Derived.Below
import Derived.Lib.SmallJoins
import Derived.Laws.IdiomArrays
namespace Go.Proofs.Ytkicilkegeckeaa
open Go.ChangeShapes Go.WideShapes Go.ChangeAt Go.RowKit Go.Joins

theorem okWide_array {P : Program} {w : World} {r : Reach} {base n : Nat} {t e : TypeId} {v : Value} (ht : P.underlying t = some (.array n e)) (h : Value.okWide P w r base t v) : ∃ cs, v = .agg cs ∧ cs.size = P.cellsOf t := by
  simp only [Value.okWide, ht] at h
  obtain ⟨cs, h1, h2, _⟩ := h
  exact ⟨cs, h1, h2⟩
theorem trod_array2 {H : Type} {enc : TypeId × Value → H} {P : Program} {w : World} {base : Nat} {spare : Nat → Bool} {held : Bool} {t e : TypeId} {fuel : Nat} {c0 c1 : Value} {x : DataW H × List MemPlace} (ht : P.underlying t = some (.array 2 e)) (hce : P.cellsOf e = 1)
    (h : DataW.trod enc P w base spare held fuel t [c0, c1] = some x) :
    ∃ y0 y1 n, x = (.agg [y0.1, y1.1], y0.2 ++ y1.2) ∧ DataW.trod enc P w base spare held n e [c0] = some y0 ∧ DataW.trod enc P w base spare held n e [c1] = some y1 := by
  cases fuel with
  | zero => simp [DataW.trod] at h
  | succ n =>
    unfold DataW.trod at h
    rw [ht] at h
    have r2 : List.range 2 = [0, 1] := rfl
    simp [r2, hce] at h
    obtain ⟨_, h⟩ := h
    cases h0 : DataW.trod enc P w base spare held n e [c0] with
    | none => simp [h0] at h
    | some y0 =>
      cases h1 : DataW.trod enc P w base spare held n e [c1] with
      | none => simp [h0, h1] at h
      | some y1 =>
        simp [h0, h1] at h
        exact ⟨y0, y1, n, h.symm, h0, h1⟩
theorem fifth (op : Int) : 4 ≤ wrap64 (4 + wrap64 ((IntKind.u64.wrap op).tmod 5)) ∧ wrap64 (4 + wrap64 ((IntKind.u64.wrap op).tmod 5)) ≤ 8 := by
  have h0 : 0 ≤ IntKind.u64.wrap op := by simp [IntKind.wrap, IntKind.bits, IntKind.signed]; omega
  generalize IntKind.u64.wrap op = u at *
  have h1 := Int.tmod_nonneg 5 h0
  have h2 : u.tmod 5 < 5 := by rw [Int.tmod_eq_emod_of_nonneg h0]; omega
  unfold wrap64
  omega
theorem seventh (op : Int) : 0 ≤ (IntKind.u64.wrap op).tmod 7 ∧ (IntKind.u64.wrap op).tmod 7 ≤ 6 := by
  have h0 : 0 ≤ IntKind.u64.wrap op := by simp [IntKind.wrap, IntKind.bits, IntKind.signed]; omega
  generalize IntKind.u64.wrap op = u at *
  have h1 := Int.tmod_nonneg 7 h0
  have h2 : u.tmod 7 < 7 := by rw [Int.tmod_eq_emod_of_nonneg h0]; omega
  omega
theorem itvFew_walk (l0 l1 s0 s1 op : Int) (_h0 : (Lit.int .i64 l0).wf = true) (_h1 : (Lit.int .i64 l1).wf = true) (_g0 : (Lit.int .i64 s0).wf = true) (_g1 : (Lit.int .i64 s1).wf = true) (_hop : (Lit.int .i64 op).wf = true) (w : World) :
    Calls Try.prog 5 #[.agg #[.int .i64 l0, .int .i64 l1], .agg #[.int .i64 s0, .int .i64 s1], .int .i64 op] w fun e w' => e = .returned (.bool true) ∧ Below w.heap.size w w' := by
  have a := wrap_in l0
  have b := wrap_in l1
  have c := seventh s0
  have d := seventh s1
  exact few_probe l0 l1 s0 s1 op _ _ _ _ _ _ _ w rfl (fifth op).1 (fifth op).2 rfl rfl rfl rfl c.1 c.2 d.1 d.2 a b rfl rfl ⟨by split <;> omega, by split <;> omega⟩ ⟨by split <;> omega, by split <;> omega⟩

theorem itvFew_own : ownKnob Try.prog.godebug = none := by kernel_rfl
theorem itvFew_laidOut : laidOutB Try.prog = true := by kernel_rfl
set_option maxRecDepth 100000 in
theorem itvFew_lifted (os : Os) (started : os.Started) (H : Type) (enc : TypeId × Value → H) :
    ReturnsInHanded {} Try.checked os 5 .any (Rows.itvFewSpec.pre6 enc Try.prog Try.f5 Rows.itvFewRow.domain false) (Rows.itvFewSpec.post enc Try.prog Try.f5 false true false false) := by
  refine returnsInHanded_of_change (C := Try.checked) itvFew_own started (by kernel_rfl) Try.func5
    (ChangeSpec.witness6 (enc := enc) (C := Try.checked) false ⟨#[], #[.agg #[.int .i64 0, .int .i64 0], .agg #[.int .i64 0, .int .i64 0], .int .i64 0], []⟩ 8 (by kernel_rfl) (by kernel_rfl) (by kernel_rfl) (by kernel_rfl)) ?_
  intro W base args ds gs before hval0 hW _ _
  have hval : ∀ (j : Nat) t v, Try.f5.params[j]? = some t → args[j]? = some v → Value.okWide Try.prog W .any base t v := hval0
  have hW' := hW
  obtain ⟨p, q, hA0, hV, rfl, _, _⟩ := hW
  have hA : DataW.TrodAll enc Try.prog W 0 (fun _ => true) true Try.f5.params.toList args.toList ds p := hA0
  rw [Try.params5] at hA hval
  obtain ⟨v0, vs0, d0, ds0, p0, q0, hargs, rfl, rfl, h0, r0⟩ := trodAll_cons hA
  obtain ⟨v1, vs1, d1, ds1, p1, q1, rfl, rfl, rfl, h1, r1⟩ := trodAll_cons r0
  obtain ⟨v2, vs2, d2, ds2, p2, q2, rfl, rfl, rfl, h2, r2⟩ := trodAll_cons r1
  obtain ⟨rfl, rfl, rfl⟩ := trodAll_nil r2
  obtain rfl : args = #[v0, v1, v2] := by cases args; simp_all
  obtain ⟨rfl, rfl⟩ := trodVars_none hV
  have k0 := h0
  have lt0 : ∀ x ∈ p0, x.block < W.heap.size := by obtain ⟨m, hm⟩ := k0; exact DataW.trod_lt m _ _ _ hm
  obtain ⟨cs0, rfl, hsz0⟩ := okWide_array Try.underlying47 (hval 0 47 v0 rfl rfl)
  obtain ⟨c0_0, c0_1, rfl⟩ := Go.Joins.array2 (hsz0.trans (show _ = 2 by kernel_rfl))
  obtain ⟨fu0, hf0⟩ := k0
  obtain ⟨y0_0, y0_1, m0, _, hy0_0, hy0_1⟩ := trod_array2 Try.underlying47 (by kernel_rfl) hf0
  obtain ⟨x0_0, ex0_0, _, wx0_0⟩ := DataW.trod_int Try.underlying3 hy0_0
  obtain rfl : c0_0 = .int .i64 x0_0 := by simpa using ex0_0
  obtain ⟨x0_1, ex0_1, _, wx0_1⟩ := DataW.trod_int Try.underlying3 hy0_1
  obtain rfl : c0_1 = .int .i64 x0_1 := by simpa using ex0_1
  have k1 := h1
  have lt1 : ∀ x ∈ p1, x.block < W.heap.size := by obtain ⟨m, hm⟩ := k1; exact DataW.trod_lt m _ _ _ hm
  obtain ⟨cs1, rfl, hsz1⟩ := okWide_array Try.underlying47 (hval 1 47 v1 rfl rfl)
  obtain ⟨c1_0, c1_1, rfl⟩ := Go.Joins.array2 (hsz1.trans (show _ = 2 by kernel_rfl))
  obtain ⟨fu1, hf1⟩ := k1
  obtain ⟨y1_0, y1_1, m1, _, hy1_0, hy1_1⟩ := trod_array2 Try.underlying47 (by kernel_rfl) hf1
  obtain ⟨x1_0, ex1_0, _, wx1_0⟩ := DataW.trod_int Try.underlying3 hy1_0
  obtain rfl : c1_0 = .int .i64 x1_0 := by simpa using ex1_0
  obtain ⟨x1_1, ex1_1, _, wx1_1⟩ := DataW.trod_int Try.underlying3 hy1_1
  obtain rfl : c1_1 = .int .i64 x1_1 := by simpa using ex1_1
  obtain ⟨a2, rfl, rfl, rfl, w2⟩ := open_int Try.underlying3 (hval 2 3 v2 rfl rfl) h2
  clear hA0 hval0
  refine (itvFew_walk x0_0 x0_1 x1_0 x1_1 a2 wx0_0 wx0_1 wx1_0 wx1_1 w2 W).mono fun e W' ⟨he, bel⟩ => ?_
  subst he
  exact ⟨_, rfl, _, _, _, [], _, [], hW', trodAll_mk1 (shut_bool Try.underlying4 _), (trodAll_cons_mk (Below.trod itvFew_laidOut (by kernel_rfl) (of_decide_eq_true (by kernel_rfl)) h0 bel lt0) (trodAll_cons_mk (Below.trod itvFew_laidOut (by kernel_rfl) (of_decide_eq_true (by kernel_rfl)) h1 bel lt1) (trodAll_cons_mk (shut_int Try.underlying3 w2) trodAll_mk0))), rfl, bel.frame _, fun h => by cases h⟩

theorem itvFew_holds : Rows.ItvFewSaid :=
  OpenClaim.holds_of_wide 5 Try.f5 rfl rfl rfl rfl rfl rfl rfl ⟨rfl, rfl, rfl, rfl, rfl⟩ rfl rfl rfl rfl rfl (by kernel_rfl) Try.func5 (by kernel_rfl)
    (of_decide_eq_true (by kernel_rfl)) (by unfold Func.isWrapper; first | (rw [if_pos (by decide +kernel)]; kernel_rfl) | (rw [if_neg (by decide +kernel)]; exact ⟨rfl, rfl⟩))
    (fun os started H enc _ => itvFew_lifted os started H enc)

#print axioms itvFew_holds
end Go.Proofs.Ytkicilkegeckeaa
