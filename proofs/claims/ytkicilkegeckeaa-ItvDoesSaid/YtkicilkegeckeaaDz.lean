/-
  ItvDoes: of one number of each of two Itvs, and of each operation: what it makes of them is one of what it makes of the Itvs, or the error is told; nought as a divisor is told just if it is there.
  Conditions: none.
-/
import Derived.Test.YtkicilkegeckeaaRows
import Derived.Test.YtkicilkegeckeaaDd
import Derived.WalkKit
import Derived.ProofKit
import Derived.OpenShut
import Derived.ShutString
import Derived.ChangeOld
import Derived.Below
import Derived.Lib.SmallJoins
import Derived.Laws.IdiomArrays
namespace Go.Proofs.Ytkicilkegeckeaa
open Go.ChangeShapes Go.WideShapes Go.ChangeAt Go.RowKit Go.Joins

theorem okWide_array {P : Program} {w : World} {r : Reach} {base n : Nat} {t e : TypeId} {v : Value} (ht : P.underlying t = some (.array n e)) (h : Value.okWide P w r base t v) : ∃ cs, v = .agg cs ∧ cs.size = P.cellsOf t := by
  simp only [Value.okWide, ht] at h
  obtain ⟨cs, h1, h2, _⟩ := h
  exact ⟨cs, h1, h2⟩
theorem fifth (op : Int) : 4 ≤ wrap64 (4 + wrap64 ((IntKind.u64.wrap op).tmod 5)) ∧ wrap64 (4 + wrap64 ((IntKind.u64.wrap op).tmod 5)) ≤ 8 := by
  have h0 : 0 ≤ IntKind.u64.wrap op := by simp [IntKind.wrap, IntKind.bits, IntKind.signed]; omega
  generalize IntKind.u64.wrap op = u at *
  have h1 := Int.tmod_nonneg 5 h0
  have h2 : u.tmod 5 < 5 := by rw [Int.tmod_eq_emod_of_nonneg h0]; omega
  unfold wrap64
  omega
theorem i32_in {x : Int} (h : (Lit.int .i32 x).wf = true) : -2147483648 ≤ x ∧ x ≤ 2147483647 := by simp [Lit.wf, IntKind.min, IntKind.max, IntKind.bits, IntKind.signed] at h; omega
theorem itvDoes_walk (x0 x1 x2 y0 y1 y2 op : Int) (h0 : (Lit.int .i32 x0).wf = true) (h1 : (Lit.int .i32 x1).wf = true) (h2 : (Lit.int .i32 x2).wf = true) (g0 : (Lit.int .i32 y0).wf = true) (g1 : (Lit.int .i32 y1).wf = true) (g2 : (Lit.int .i32 y2).wf = true) (_hop : (Lit.int .i64 op).wf = true) (w : World) :
    Calls Try.prog 4 #[.agg #[.int .i32 x0, .int .i32 x1, .int .i32 x2], .agg #[.int .i32 y0, .int .i32 y1, .int .i32 y2], .int .i64 op] w fun e w' => e = .returned (.bool true) ∧ Below w.heap.size w w' :=
  does_probe x0 x1 x2 y0 y1 y2 op _ w (i32_in h0).1 (i32_in h0).2 (i32_in h1).1 (i32_in h1).2 (i32_in h2).1 (i32_in h2).2 (i32_in g0).1 (i32_in g0).2 (i32_in g1).1 (i32_in g1).2 (i32_in g2).1 (i32_in g2).2 rfl (fifth op).1 (fifth op).2

theorem itvDoes_own : ownKnob Try.prog.godebug = none := by kernel_rfl
theorem itvDoes_laidOut : laidOutB Try.prog = true := by kernel_rfl
set_option maxRecDepth 100000 in
theorem itvDoes_lifted (os : Os) (started : os.Started) (H : Type) (enc : TypeId × Value → H) :
    ReturnsInHanded {} Try.checked os 4 .any (Rows.itvDoesSpec.pre6 enc Try.prog Try.f4 Rows.itvDoesRow.domain false) (Rows.itvDoesSpec.post enc Try.prog Try.f4 false true false false) := by
  refine returnsInHanded_of_change (C := Try.checked) itvDoes_own started (by kernel_rfl) Try.func4
    (ChangeSpec.witness6 (enc := enc) (C := Try.checked) false ⟨#[], #[.agg #[.int .i32 0, .int .i32 0, .int .i32 0], .agg #[.int .i32 0, .int .i32 0, .int .i32 0], .int .i64 0], []⟩ 8 (by kernel_rfl) (by kernel_rfl) (by kernel_rfl) (by kernel_rfl)) ?_
  intro W base args ds gs before hval0 hW _ _
  have hval : ∀ (j : Nat) t v, Try.f4.params[j]? = some t → args[j]? = some v → Value.okWide Try.prog W .any base t v := hval0
  have hW' := hW
  obtain ⟨p, q, hA0, hV, rfl, _, _⟩ := hW
  have hA : DataW.TrodAll enc Try.prog W 0 (fun _ => true) true Try.f4.params.toList args.toList ds p := hA0
  rw [Try.params4] at hA hval
  obtain ⟨v0, vs0, d0, ds0, p0, q0, hargs, rfl, rfl, h0, r0⟩ := trodAll_cons hA
  obtain ⟨v1, vs1, d1, ds1, p1, q1, rfl, rfl, rfl, h1, r1⟩ := trodAll_cons r0
  obtain ⟨v2, vs2, d2, ds2, p2, q2, rfl, rfl, rfl, h2, r2⟩ := trodAll_cons r1
  obtain ⟨rfl, rfl, rfl⟩ := trodAll_nil r2
  obtain rfl : args = #[v0, v1, v2] := by cases args; simp_all
  obtain ⟨rfl, rfl⟩ := trodVars_none hV
  have k0 := h0
  have lt0 : ∀ x ∈ p0, x.block < W.heap.size := by obtain ⟨m, hm⟩ := k0; exact DataW.trod_lt m _ _ _ hm
  obtain ⟨cs0, rfl, hsz0⟩ := okWide_array Try.underlying36 (hval 0 36 v0 rfl rfl)
  obtain ⟨c0_0, c0_1, c0_2, rfl⟩ := Go.Joins.array3 (hsz0.trans (show _ = 3 by kernel_rfl))
  obtain ⟨fu0, hf0⟩ := k0
  obtain ⟨y0_0, y0_1, y0_2, m0, _, hy0_0, hy0_1, hy0_2⟩ := trod_array3 Try.underlying36 (by kernel_rfl) hf0
  obtain ⟨x0_0, ex0_0, _, wx0_0⟩ := DataW.trod_int Try.underlying21 hy0_0
  obtain rfl : c0_0 = .int .i32 x0_0 := by simpa using ex0_0
  obtain ⟨x0_1, ex0_1, _, wx0_1⟩ := DataW.trod_int Try.underlying21 hy0_1
  obtain rfl : c0_1 = .int .i32 x0_1 := by simpa using ex0_1
  obtain ⟨x0_2, ex0_2, _, wx0_2⟩ := DataW.trod_int Try.underlying21 hy0_2
  obtain rfl : c0_2 = .int .i32 x0_2 := by simpa using ex0_2
  have k1 := h1
  have lt1 : ∀ x ∈ p1, x.block < W.heap.size := by obtain ⟨m, hm⟩ := k1; exact DataW.trod_lt m _ _ _ hm
  obtain ⟨cs1, rfl, hsz1⟩ := okWide_array Try.underlying36 (hval 1 36 v1 rfl rfl)
  obtain ⟨c1_0, c1_1, c1_2, rfl⟩ := Go.Joins.array3 (hsz1.trans (show _ = 3 by kernel_rfl))
  obtain ⟨fu1, hf1⟩ := k1
  obtain ⟨y1_0, y1_1, y1_2, m1, _, hy1_0, hy1_1, hy1_2⟩ := trod_array3 Try.underlying36 (by kernel_rfl) hf1
  obtain ⟨x1_0, ex1_0, _, wx1_0⟩ := DataW.trod_int Try.underlying21 hy1_0
  obtain rfl : c1_0 = .int .i32 x1_0 := by simpa using ex1_0
  obtain ⟨x1_1, ex1_1, _, wx1_1⟩ := DataW.trod_int Try.underlying21 hy1_1
  obtain rfl : c1_1 = .int .i32 x1_1 := by simpa using ex1_1
  obtain ⟨x1_2, ex1_2, _, wx1_2⟩ := DataW.trod_int Try.underlying21 hy1_2
  obtain rfl : c1_2 = .int .i32 x1_2 := by simpa using ex1_2
  obtain ⟨a2, rfl, rfl, rfl, w2⟩ := open_int Try.underlying3 (hval 2 3 v2 rfl rfl) h2
  clear hA0 hval0
  refine (itvDoes_walk x0_0 x0_1 x0_2 x1_0 x1_1 x1_2 a2 wx0_0 wx0_1 wx0_2 wx1_0 wx1_1 wx1_2 w2 W).mono fun e W' ⟨he, bel⟩ => ?_
  subst he
  exact ⟨_, rfl, _, _, _, [], _, [], hW', trodAll_mk1 (shut_bool Try.underlying4 _), (trodAll_cons_mk (Below.trod itvDoes_laidOut (by kernel_rfl) (of_decide_eq_true (by kernel_rfl)) h0 bel lt0) (trodAll_cons_mk (Below.trod itvDoes_laidOut (by kernel_rfl) (of_decide_eq_true (by kernel_rfl)) h1 bel lt1) (trodAll_cons_mk (shut_int Try.underlying3 w2) trodAll_mk0))), rfl, bel.frame _, fun h => by cases h⟩

theorem itvDoes_holds : Rows.ItvDoesSaid :=
  OpenClaim.holds_of_wide 4 Try.f4 rfl rfl rfl rfl rfl rfl rfl ⟨rfl, rfl, rfl, rfl, rfl⟩ rfl rfl rfl rfl rfl (by kernel_rfl) Try.func4 (by kernel_rfl)
    (of_decide_eq_true (by kernel_rfl)) (by unfold Func.isWrapper; first | (rw [if_pos (by decide +kernel)]; kernel_rfl) | (rw [if_neg (by decide +kernel)]; exact ⟨rfl, rfl⟩))
    (fun os started H enc _ => itvDoes_lifted os started H enc)

#print axioms itvDoes_holds
end Go.Proofs.Ytkicilkegeckeaa
