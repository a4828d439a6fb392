/-
  ItvSums: of all Itvs: the least one that has all sums, differences and opposites is told, and whether one is too great.
  Conditions: none.
-/
import Derived.Test.YtibhoekccjcoaaaRows
import Derived.Test.YtibhoekccjcoaaaSuA
import Derived.Test.YtibhoekccjcoaaaSuB
import Derived.Test.YtibhoekccjcoaaaSuN
import Derived.WalkKit
import Derived.ProofKit
import Derived.OpenShut
import Derived.ShutString
import Derived.ChangeOld
import Derived.Below
import Derived.Lib.SmallJoins
namespace Go.Proofs.Ytibhoekccjcoaaa
open Go.ChangeShapes Go.WideShapes Go.ChangeAt Go.RowKit Go.Joins

theorem w64 {x y : Int} (h : x = y) (h1 : -9223372036854775808 ≤ x) (h2 : x ≤ 9223372036854775807) : wrap64 x = y := by unfold wrap64; omega
theorem itvSums_walk (a0 a1 b0 b1 : Int) (w : World) :
    Calls Try.prog 4 #[.agg #[.int .i64 a0, .int .i64 a1], .agg #[.int .i64 b0, .int .i64 b1]] w fun e w' => e = .returned (.bool true) ∧ Below w.heap.size w w' := by
  obtain ⟨ra1, ra2⟩ := wrap_in a0
  obtain ⟨ra3, ra4⟩ := wrap_in a1
  obtain ⟨rb1, rb2⟩ := wrap_in b0
  obtain ⟨rb3, rb4⟩ := wrap_in b1
  generalize ea0 : wrap32 a0 = A0 at *
  generalize ea1 : wrap32 a1 = A1 at *
  generalize eb0 : wrap32 b0 = B0 at *
  generalize eb1 : wrap32 b1 = B1 at *
  have hu0 : wrap64 (-A1) = 0 - A1 := w64 (by omega) (by omega) (by omega)
  have hu1 : wrap64 (-A0) = 0 - A0 := w64 (by omega) (by omega) (by omega)
  by_cases hA : A1 < A0
  · exact sums_a a0 a1 b0 b1 A0 A1 B0 B1 _ _ _ _ _ w hA ea0 ea1 eb0 eb1 hu0 hu1 (fun W => do_none 4 A0 A1 B0 B1 W (.inl hA)) (fun W => do_none 5 A0 A1 B0 B1 W (.inl hA)) (fun W => neg_none A0 A1 W hA) (fun W => cut_any (0 - A1) (0 - A0) W)
  · have fN := fun W => neg_any A0 A1 W (by omega) (by omega) (by omega)
    by_cases hB : B1 < B0
    · exact sums_b a0 a1 b0 b1 A0 A1 B0 B1 _ _ _ _ _ w (by omega) hB ea0 ea1 eb0 eb1 hu0 hu1 (fun W => do_none 4 A0 A1 B0 B1 W (.inr hB)) (fun W => do_none 5 A0 A1 B0 B1 W (.inr hB)) fN (fun W => cut_any (0 - A1) (0 - A0) W)
    · exact sums_n a0 a1 b0 b1 A0 A1 B0 B1 _ _ _ _ _ _ _ _ (A0 + B0) (A1 + B1) (A0 - B1) (A1 - B0) _ _ _ w (by omega) (by omega) ea0 ea1 eb0 eb1 hu0 hu1 (w64 rfl (by omega) (by omega)) (w64 rfl (by omega) (by omega)) (w64 rfl (by omega) (by omega)) (w64 rfl (by omega) (by omega))
        (fun W => do_add A0 A1 B0 B1 W (by omega) (by omega) (by omega) (by omega) (by omega) (by omega)) (fun W => do_sub A0 A1 B0 B1 W (by omega) (by omega) (by omega) (by omega) (by omega) (by omega)) fN (fun W => cut_any (0 - A1) (0 - A0) W) (fun W => cut_any (A0 + B0) (A1 + B1) W) (fun W => cut_any (A0 - B1) (A1 - B0) W)

theorem itvSums_own : ownKnob Try.prog.godebug = none := by kernel_rfl
theorem itvSums_laidOut : laidOutB Try.prog = true := by kernel_rfl
set_option maxRecDepth 100000 in
theorem itvSums_lifted (os : Os) (started : os.Started) (H : Type) (enc : TypeId × Value → H) :
    ReturnsInHanded {} Try.checked os 4 .any (Rows.itvSumsSpec.pre6 enc Try.prog Try.f4 Rows.itvSumsRow.domain false) (Rows.itvSumsSpec.post enc Try.prog Try.f4 false true false false) := by
  refine returnsInHanded_of_change (C := Try.checked) itvSums_own started (by kernel_rfl) Try.func4
    (ChangeSpec.witness6 (enc := enc) (C := Try.checked) false ⟨#[], #[.agg #[.int .i64 0, .int .i64 0], .agg #[.int .i64 0, .int .i64 0]], []⟩ 8 (by kernel_rfl) (by kernel_rfl) (by kernel_rfl) (by kernel_rfl)) ?_
  intro W base args ds gs before hval0 hW _ _
  have hval : ∀ (j : Nat) t v, Try.f4.params[j]? = some t → args[j]? = some v → Value.okWide Try.prog W .any base t v := hval0
  have hW' := hW
  obtain ⟨p, q, hA0, hV, rfl, _, _⟩ := hW
  have hA : DataW.TrodAll enc Try.prog W 0 (fun _ => true) true Try.f4.params.toList args.toList ds p := hA0
  rw [Try.params4] at hA hval
  obtain ⟨v0, vs0, d0, ds0, p0, q0, hargs, rfl, rfl, h0, r0⟩ := trodAll_cons hA
  obtain ⟨v1, vs1, d1, ds1, p1, q1, rfl, rfl, rfl, h1, r1⟩ := trodAll_cons r0
  obtain ⟨rfl, rfl, rfl⟩ := trodAll_nil r1
  obtain rfl : args = #[v0, v1] := by cases args; simp_all
  obtain ⟨rfl, rfl⟩ := trodVars_none hV
  have k0 := h0
  have lt0 : ∀ x ∈ p0, x.block < W.heap.size := by obtain ⟨m, hm⟩ := k0; exact DataW.trod_lt m _ _ _ hm
  obtain ⟨u0, t0, y0, z0, n0, rfl, rfl, rfl, g0, e0⟩ := open_agg2 Try.underlying23 (by kernel_rfl) (by kernel_rfl) (hval 0 23 v0 rfl rfl) h0
  obtain ⟨a0, ha0, rfl, _⟩ := DataW.trod_int Try.underlying3 g0
  obtain ⟨b0, hb0, rfl, _⟩ := DataW.trod_int Try.underlying3 e0
  obtain rfl : u0 = .int .i64 a0 := by simpa using ha0
  obtain rfl : t0 = .int .i64 b0 := by simpa using hb0
  have k1 := h1
  have lt1 : ∀ x ∈ p1, x.block < W.heap.size := by obtain ⟨m, hm⟩ := k1; exact DataW.trod_lt m _ _ _ hm
  obtain ⟨u1, t1, y1, z1, n1, rfl, rfl, rfl, g1, e1⟩ := open_agg2 Try.underlying23 (by kernel_rfl) (by kernel_rfl) (hval 1 23 v1 rfl rfl) h1
  obtain ⟨a1, ha1, rfl, _⟩ := DataW.trod_int Try.underlying3 g1
  obtain ⟨b1, hb1, rfl, _⟩ := DataW.trod_int Try.underlying3 e1
  obtain rfl : u1 = .int .i64 a1 := by simpa using ha1
  obtain rfl : t1 = .int .i64 b1 := by simpa using hb1
  clear hA0 hval0
  refine (itvSums_walk a0 b0 a1 b1 W).mono fun e W' ⟨he, bel⟩ => ?_
  subst he
  exact ⟨_, rfl, _, _, _, [], _, [], hW', trodAll_mk1 (shut_bool Try.underlying4 _), (trodAll_cons_mk (Below.trod itvSums_laidOut (by kernel_rfl) (of_decide_eq_true (by kernel_rfl)) k0 bel lt0) (trodAll_cons_mk (Below.trod itvSums_laidOut (by kernel_rfl) (of_decide_eq_true (by kernel_rfl)) k1 bel lt1) trodAll_mk0)), rfl, bel.frame _, fun h => by cases h⟩

theorem itvSums_holds : Rows.ItvSumsSaid :=
  OpenClaim.holds_of_wide 4 Try.f4 rfl rfl rfl rfl rfl rfl rfl ⟨rfl, rfl, rfl, rfl, rfl⟩ rfl rfl rfl rfl rfl (by kernel_rfl) Try.func4 (by kernel_rfl)
    (of_decide_eq_true (by kernel_rfl)) (by unfold Func.isWrapper; first | (rw [if_pos (by decide +kernel)]; kernel_rfl) | (rw [if_neg (by decide +kernel)]; exact ⟨rfl, rfl⟩))
    (fun os started H enc _ => itvSums_lifted os started H enc)

#print axioms itvSums_holds
end Go.Proofs.Ytibhoekccjcoaaa
