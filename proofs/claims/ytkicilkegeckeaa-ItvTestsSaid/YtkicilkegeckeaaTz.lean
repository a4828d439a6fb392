/-
  ItvTests: of all Itvs, and of each comparison: those where it holds are told, the least ones; nothing of kinds that are no comparison, and of nothing.
  Conditions: none.
-/
import Derived.Test.YtkicilkegeckeaaRows
import Derived.Test.YtkicilkegeckeaaTwY
import Derived.Test.YtkicilkegeckeaaTwN
import Derived.WalkKit
import Derived.ProofKit
import Derived.OpenShut
import Derived.ShutString
import Derived.ChangeOld
import Derived.Below
import Derived.Lib.SmallJoins
namespace Go.Proofs.Ytkicilkegeckeaa
open Go.ChangeShapes Go.WideShapes Go.ChangeAt Go.RowKit Go.Joins

theorem eighth (op : Int) : 0 ≤ wrap64 ((IntKind.u64.wrap op).tmod 8) ∧ wrap64 ((IntKind.u64.wrap op).tmod 8) ≤ 7 := by
  have h0 : 0 ≤ IntKind.u64.wrap op := by simp [IntKind.wrap, IntKind.bits, IntKind.signed]; omega
  generalize IntKind.u64.wrap op = u at *
  have h1 := Int.tmod_nonneg 8 h0
  have h2 : u.tmod 8 < 8 := by rw [Int.tmod_eq_emod_of_nonneg h0]; omega
  unfold wrap64
  omega
theorem meet_sym (a0 a1 b0 b1 : Int) : meetP a0 a1 b0 b1 = meetP b0 b1 a0 a1 := by
  unfold meetP
  have h1 : mx a0 b0 = mx b0 a0 := by unfold mx; split <;> split <;> omega
  have h2 : mn a1 b1 = mn b1 a1 := by unfold mn; split <;> split <;> omega
  rw [h1, h2]
theorem some_any (k b0 b1 : Int) (h1 : 1 ≤ k) (h6 : k ≤ 6) (n : Int) (w : World) : Calls Try.prog 49 #[.int .i64 k, .int .i64 n, .agg #[.int .i64 b0, .int .i64 b1]] w fun e w' => e = .returned (.bool (okP k b0 b1 n)) ∧ Below w.heap.size w w' := by
  have hk : k = 1 ∨ k = 2 ∨ k = 3 ∨ k = 4 ∨ k = 5 ∨ k = 6 := by omega
  rcases hk with rfl | rfl | rfl | rfl | rfl | rfl
  · exact some_1 n b0 b1 w
  · have e : okP 2 b0 b1 n = (b0 != n || b1 != n) := rfl
    rw [e]
    by_cases h : b0 = n
    · have t := some_2a n b0 b1 w h
      have e2 : (b0 != n || b1 != n) = (b1 != n) := by simp [h]
      rwa [e2]
    · have t := some_2b n b0 b1 w h
      have e2 : (b0 != n || b1 != n) = true := by simp [h]
      rwa [e2]
  · exact some_3 n b0 b1 w
  · exact some_4 n b0 b1 w
  · exact some_5 n b0 b1 w
  · exact some_6 n b0 b1 w
theorem edges_in (k a0 a1 b0 b1 x0 x1 : Int) (h1 : 1 ≤ k) (h6 : k ≤ 6) (ha : a0 ≤ a1) (hb : b0 ≤ b1) (r1 : -2147483648 ≤ a0) (r2 : a1 ≤ 2147483647) (r3 : -2147483648 ≤ b0) (r4 : b1 ≤ 2147483647) (e : testP k a0 a1 b0 b1 = (x0, x1)) (W : World) :
    Calls Try.prog 17 #[.int .i64 k, .agg #[.int .i64 a0, .int .i64 a1], .agg #[.int .i64 b0, .int .i64 b1], .agg #[.int .i64 x0, .int .i64 x1]] W fun e w' => e = .returned (.bool true) ∧ Below W.heap.size W w' := by
  have t := edg_any k a0 a1 b0 b1 h1 h6 ha hb r1 r2 r3 r4
  rw [e] at t
  exact edges_any k a0 a1 b0 b1 x0 x1 _ W (some_any k b0 b1 h1 h6) t.1 t.2.1 t.2.2
theorem itvTests_walk (a0 a1 b0 b1 op : Int) (_hop : (Lit.int .i64 op).wf = true) (w : World) :
    Calls Try.prog 3 #[.agg #[.int .i64 a0, .int .i64 a1], .agg #[.int .i64 b0, .int .i64 b1], .int .i64 op] w fun e w' => e = .returned (.bool true) ∧ Below w.heap.size w w' := by
  obtain ⟨ra1, ra2⟩ := wrap_in a0
  obtain ⟨ra3, ra4⟩ := wrap_in a1
  obtain ⟨rb1, rb2⟩ := wrap_in b0
  obtain ⟨rb3, rb4⟩ := wrap_in b1
  obtain ⟨k1, k2⟩ := eighth op
  generalize ea0 : wrap32 a0 = A0 at *
  generalize ea1 : wrap32 a1 = A1 at *
  generalize eb0 : wrap32 b0 = B0 at *
  generalize eb1 : wrap32 b1 = B1 at *
  generalize hk : wrap64 ((IntKind.u64.wrap op).tmod 8) = K at k1 k2
  have no : ∀ (_ : ∀ W, Calls Try.prog 13 #[.int .i64 K, .agg #[.int .i64 A0, .int .i64 A1], .agg #[.int .i64 B0, .int .i64 B1]] W fun e w' => e = .returned (.tuple #[.agg #[.int .i64 1, .int .i64 0], .agg #[.int .i64 1, .int .i64 0]]) ∧ Below W.heap.size W w') (_ : K = 0 ∨ (K ≠ 0 ∧ (K = 7 ∨ (K ≠ 7 ∧ (A1 < A0 ∨ (A0 ≤ A1 ∧ B1 < B0)))))), Calls Try.prog 3 #[.agg #[.int .i64 a0, .int .i64 a1], .agg #[.int .i64 b0, .int .i64 b1], .int .i64 op] w fun e w' => e = .returned (.bool true) ∧ Below w.heap.size w w' :=
    fun cc hno => tests_no a0 a1 b0 b1 A0 A1 B0 B1 op K w ea0 ea1 eb0 eb1 hk cc hno
  by_cases hA : A1 < A0
  · exact no (fun W => test_none1 K A0 A1 B0 B1 W hA) (by omega)
  by_cases hB : B1 < B0
  · exact no (fun W => test_none2 K A0 A1 B0 B1 W (by omega) hB) (by omega)
  have gA : A0 ≤ A1 := by omega
  have gB : B0 ≤ B1 := by omega
  have yes : ∀ (T x0 x1 y0 y1 : Int) (_ : 1 ≤ K) (_ : K ≤ 6) (_ : 1 ≤ T) (_ : T ≤ 6) (_ : ∀ W, Calls Try.prog 13 #[.int .i64 K, .agg #[.int .i64 A0, .int .i64 A1], .agg #[.int .i64 B0, .int .i64 B1]] W fun e w' => e = .returned (.tuple #[.agg #[.int .i64 x0, .int .i64 x1], .agg #[.int .i64 y0, .int .i64 y1]]) ∧ Below W.heap.size W w') (_ : testP K A0 A1 B0 B1 = (x0, x1)) (_ : testP T B0 B1 A0 A1 = (y0, y1)) (_ : ∀ W, Calls Try.prog 19 #[.int .i64 K] W fun e w' => e = .returned (.int .i64 T) ∧ Below W.heap.size W w'), Calls Try.prog 3 #[.agg #[.int .i64 a0, .int .i64 a1], .agg #[.int .i64 b0, .int .i64 b1], .int .i64 op] w fun e w' => e = .returned (.bool true) ∧ Below w.heap.size w w' :=
    fun T x0 x1 y0 y1 h1 h6 t1 t6 cc ex ey ct => tests_yes a0 a1 b0 b1 A0 A1 B0 B1 op K T x0 x1 y0 y1 w ea0 ea1 eb0 eb1 hk cc ⟨by omega, by omega, gA, gB⟩
      (fun W => edges_in K A0 A1 B0 B1 x0 x1 h1 h6 gA gB ra1 ra4 rb1 rb4 ex W) (fun W => edges_in T B0 B1 A0 A1 y0 y1 t1 t6 gB gA rb1 rb4 ra1 ra4 ey W) ct
  clear hk
  have hk8 : K = 0 ∨ K = 1 ∨ K = 2 ∨ K = 3 ∨ K = 4 ∨ K = 5 ∨ K = 6 ∨ K = 7 := by omega
  rcases hk8 with rfl | rfl | rfl | rfl | rfl | rfl | rfl | rfl
  · exact no (fun W => test_0 A0 A1 B0 B1 W gA gB) (.inl rfl)
  · exact yes 1 _ _ _ _ (by decide) (by decide) (by decide) (by decide) (fun W => test_1 A0 A1 B0 B1 W gA gB) rfl (meet_sym B0 B1 A0 A1) (fun W => turn_1 W)
  · exact yes 2 _ _ _ _ (by decide) (by decide) (by decide) (by decide) (fun W => test_2 A0 A1 B0 B1 W gA gB ra1 ra4 rb1 rb4) rfl rfl (fun W => turn_2 W)
  · exact yes 5 _ _ _ _ (by decide) (by decide) (by decide) (by decide) (fun W => test_3 A0 A1 B0 B1 W gA gB ra1 ra4 rb1 rb4) rfl rfl (fun W => turn_3 W)
  · exact yes 6 _ _ _ _ (by decide) (by decide) (by decide) (by decide) (fun W => test_4 A0 A1 B0 B1 W gA gB ra1 ra4 rb1 rb4) rfl rfl (fun W => turn_4 W)
  · exact yes 3 _ _ _ _ (by decide) (by decide) (by decide) (by decide) (fun W => test_5 A0 A1 B0 B1 W gA gB ra1 ra4 rb1 rb4) rfl rfl (fun W => turn_5 W)
  · exact yes 4 _ _ _ _ (by decide) (by decide) (by decide) (by decide) (fun W => test_6 A0 A1 B0 B1 W gA gB ra1 ra4 rb1 rb4) rfl rfl (fun W => turn_6 W)
  · exact no (fun W => test_7 A0 A1 B0 B1 W gA gB) (by omega)

theorem itvTests_own : ownKnob Try.prog.godebug = none := by kernel_rfl
theorem itvTests_laidOut : laidOutB Try.prog = true := by kernel_rfl
set_option maxRecDepth 100000 in
theorem itvTests_lifted (os : Os) (started : os.Started) (H : Type) (enc : TypeId × Value → H) :
    ReturnsInHanded {} Try.checked os 3 .any (Rows.itvTestsSpec.pre6 enc Try.prog Try.f3 Rows.itvTestsRow.domain false) (Rows.itvTestsSpec.post enc Try.prog Try.f3 false true false false) := by
  refine returnsInHanded_of_change (C := Try.checked) itvTests_own started (by kernel_rfl) Try.func3
    (ChangeSpec.witness6 (enc := enc) (C := Try.checked) false ⟨#[], #[.agg #[.int .i64 0, .int .i64 0], .agg #[.int .i64 0, .int .i64 0], .int .i64 0], []⟩ 8 (by kernel_rfl) (by kernel_rfl) (by kernel_rfl) (by kernel_rfl)) ?_
  intro W base args ds gs before hval0 hW _ _
  have hval : ∀ (j : Nat) t v, Try.f3.params[j]? = some t → args[j]? = some v → Value.okWide Try.prog W .any base t v := hval0
  have hW' := hW
  obtain ⟨p, q, hA0, hV, rfl, _, _⟩ := hW
  have hA : DataW.TrodAll enc Try.prog W 0 (fun _ => true) true Try.f3.params.toList args.toList ds p := hA0
  rw [Try.params3] at hA hval
  obtain ⟨v0, vs0, d0, ds0, p0, q0, hargs, rfl, rfl, h0, r0⟩ := trodAll_cons hA
  obtain ⟨v1, vs1, d1, ds1, p1, q1, rfl, rfl, rfl, h1, r1⟩ := trodAll_cons r0
  obtain ⟨v2, vs2, d2, ds2, p2, q2, rfl, rfl, rfl, h2, r2⟩ := trodAll_cons r1
  obtain ⟨rfl, rfl, rfl⟩ := trodAll_nil r2
  obtain rfl : args = #[v0, v1, v2] := by cases args; simp_all
  obtain ⟨rfl, rfl⟩ := trodVars_none hV
  have k0 := h0
  have lt0 : ∀ x ∈ p0, x.block < W.heap.size := by obtain ⟨m, hm⟩ := k0; exact DataW.trod_lt m _ _ _ hm
  obtain ⟨u0, t0, y0, z0, n0, rfl, rfl, rfl, g0, e0⟩ := open_agg2 Try.underlying23 (by kernel_rfl) (by kernel_rfl) (hval 0 23 v0 rfl rfl) h0
  obtain ⟨a0, ha0, rfl, _⟩ := DataW.trod_int Try.underlying3 g0
  obtain ⟨b0, hb0, rfl, _⟩ := DataW.trod_int Try.underlying3 e0
  obtain rfl : u0 = .int .i64 a0 := by simpa using ha0
  obtain rfl : t0 = .int .i64 b0 := by simpa using hb0
  have k1 := h1
  have lt1 : ∀ x ∈ p1, x.block < W.heap.size := by obtain ⟨m, hm⟩ := k1; exact DataW.trod_lt m _ _ _ hm
  obtain ⟨u1, t1, y1, z1, n1, rfl, rfl, rfl, g1, e1⟩ := open_agg2 Try.underlying23 (by kernel_rfl) (by kernel_rfl) (hval 1 23 v1 rfl rfl) h1
  obtain ⟨a1, ha1, rfl, _⟩ := DataW.trod_int Try.underlying3 g1
  obtain ⟨b1, hb1, rfl, _⟩ := DataW.trod_int Try.underlying3 e1
  obtain rfl : u1 = .int .i64 a1 := by simpa using ha1
  obtain rfl : t1 = .int .i64 b1 := by simpa using hb1
  obtain ⟨a2, rfl, rfl, rfl, w2⟩ := open_int Try.underlying3 (hval 2 3 v2 rfl rfl) h2
  clear hA0 hval0
  refine (itvTests_walk a0 b0 a1 b1 a2 w2 W).mono fun e W' ⟨he, bel⟩ => ?_
  subst he
  exact ⟨_, rfl, _, _, _, [], _, [], hW', trodAll_mk1 (shut_bool Try.underlying4 _), (trodAll_cons_mk (Below.trod itvTests_laidOut (by kernel_rfl) (of_decide_eq_true (by kernel_rfl)) k0 bel lt0) (trodAll_cons_mk (Below.trod itvTests_laidOut (by kernel_rfl) (of_decide_eq_true (by kernel_rfl)) k1 bel lt1) (trodAll_cons_mk (shut_int Try.underlying3 w2) trodAll_mk0))), rfl, bel.frame _, fun h => by cases h⟩

theorem itvTests_holds : Rows.ItvTestsSaid :=
  OpenClaim.holds_of_wide 3 Try.f3 rfl rfl rfl rfl rfl rfl rfl ⟨rfl, rfl, rfl, rfl, rfl⟩ rfl rfl rfl rfl rfl (by kernel_rfl) Try.func3 (by kernel_rfl)
    (of_decide_eq_true (by kernel_rfl)) (by unfold Func.isWrapper; first | (rw [if_pos (by decide +kernel)]; kernel_rfl) | (rw [if_neg (by decide +kernel)]; exact ⟨rfl, rfl⟩))
    (fun os started H enc _ => itvTests_lifted os started H enc)

#print axioms itvTests_holds
end Go.Proofs.Ytkicilkegeckeaa
