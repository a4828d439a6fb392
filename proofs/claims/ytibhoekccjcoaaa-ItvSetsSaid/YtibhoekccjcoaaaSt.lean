/-
  ItvSets: of all Itvs it is told what they have, what either has, what both have, and what widening and narrowing makes of them.
  Conditions: none.
-/
import Derived.Test.YtibhoekccjcoaaaRows
import Derived.Test.YtibhoekccjcoaaaSe
import Derived.Test.YtibhoekccjcoaaaIy
import Derived.WalkKit
import Derived.ProofKit
import Derived.OpenShut
import Derived.ShutString
import Derived.ChangeOld
import Derived.Below
import Derived.Lib.SmallJoins
namespace Go.Proofs.Ytibhoekccjcoaaa
open Go.ChangeShapes Go.WideShapes Go.ChangeAt Go.RowKit Go.Joins

theorem itvSets_walk (a0 a1 b0 b1 n : Int) (_hn : (Lit.int .i64 n).wf = true) (w : World) :
    Calls Try.prog 3 #[.agg #[.int .i64 a0, .int .i64 a1], .agg #[.int .i64 b0, .int .i64 b1], .int .i64 n] w fun e w' => e = .returned (.bool true) ∧ Below w.heap.size w w' := by
  obtain ⟨ra1, ra2⟩ := wrap_in a0
  obtain ⟨ra3, ra4⟩ := wrap_in a1
  obtain ⟨rb1, rb2⟩ := wrap_in b0
  obtain ⟨rb3, rb4⟩ := wrap_in b1
  generalize ea0 : wrap32 a0 = A0 at *
  generalize ea1 : wrap32 a1 = A1 at *
  generalize eb0 : wrap32 b0 = B0 at *
  generalize eb1 : wrap32 b1 = B1 at *
  have s1 := mxs A0 B0
  have s2 := mns A1 B1
  have s3 := nrms (mx A0 B0) (mn A1 B1)
  have s4 := mns A0 B0
  have s5 := mxs A1 B1
  have sj := join_specs A0 A1 B0 B1
  have sv := widen_specs A0 A1 B0 B1
  have hj : joinP A0 A1 B0 B1 = ((rjoinP A0 A1 B0 B1).1, (rjoinP A0 A1 B0 B1).2) := join_eq ra1 ra4 rb1 rb4
  have hv : widenP A0 A1 B0 B1 = ((rwidenP A0 A1 B0 B1).1, (rwidenP A0 A1 B0 B1).2) := widen_eq ra1 ra4 rb1 rb4
  have hnr : narrowP A0 A1 B0 B1 = ((rnarrowP A0 A1 B0 B1).1, (rnarrowP A0 A1 B0 B1).2) := narrow_eq ra1 ra4 rb1 rb4
  have hmt : meetP A0 A1 B0 B1 = ((nrm (mx A0 B0) (mn A1 B1)).1, (nrm (mx A0 B0) (mn A1 B1)).2) := ofP_nrm (by omega) (by omega)
  have hof : ofP A0 B1 = ((nrm A0 B1).1, (nrm A0 B1).2) := ofP_nrm ra1 rb4
  have hcm : (ofP n n).2 < (ofP n n).1 ↔ n ≠ wrap32 n := by
    have q1 := mxs n (-2147483648)
    have q2 := mns n 2147483647
    have q3 := nrms (mx n (-2147483648)) (mn n 2147483647)
    change (_ ∧ (ofP n n).1 = 1 ∧ (ofP n n).2 = 0) ∨ (_ ∧ (ofP n n).1 = _ ∧ (ofP n n).2 = _) at q3
    unfold wrap32
    omega
  refine sets_probe a0 a1 b0 b1 n A0 A1 B0 B1 (wrap32 n) _ _ _ _ _ _ (mx A0 B0) (mn A1 B1) _ _ _ _ _ _ _ _ w ea0 ea1 eb0 eb1 (wrap_wrap n) hj hv (Prod.eta _).symm rfl rfl rfl rfl (Prod.eta _).symm ?_ (Prod.eta _).symm (Prod.eta _).symm hnr (Prod.eta _).symm hmt (withins ?_) (withins ?_) (withins ?_) hof (Prod.eta _).symm hcm
  · intro h
    omega
  · omega
  · omega
  · omega

theorem itvSets_own : ownKnob Try.prog.godebug = none := by kernel_rfl
theorem itvSets_laidOut : laidOutB Try.prog = true := by kernel_rfl
set_option maxRecDepth 100000 in
theorem itvSets_lifted (os : Os) (started : os.Started) (H : Type) (enc : TypeId × Value → H) :
    ReturnsInHanded {} Try.checked os 3 .any (Rows.itvSetsSpec.pre6 enc Try.prog Try.f3 Rows.itvSetsRow.domain false) (Rows.itvSetsSpec.post enc Try.prog Try.f3 false true false false) := by
  refine returnsInHanded_of_change (C := Try.checked) itvSets_own started (by kernel_rfl) Try.func3
    (ChangeSpec.witness6 (enc := enc) (C := Try.checked) false ⟨#[], #[.agg #[.int .i64 0, .int .i64 0], .agg #[.int .i64 0, .int .i64 0], .int .i64 0], []⟩ 8 (by kernel_rfl) (by kernel_rfl) (by kernel_rfl) (by kernel_rfl)) ?_
  intro W base args ds gs before hval0 hW _ _
  have hval : ∀ (j : Nat) t v, Try.f3.params[j]? = some t → args[j]? = some v → Value.okWide Try.prog W .any base t v := hval0
  have hW' := hW
  obtain ⟨p, q, hA0, hV, rfl, _, _⟩ := hW
  have hA : DataW.TrodAll enc Try.prog W 0 (fun _ => true) true Try.f3.params.toList args.toList ds p := hA0
  rw [Try.params3] at hA hval
  obtain ⟨v0, vs0, d0, ds0, p0, q0, hargs, rfl, rfl, h0, r0⟩ := trodAll_cons hA
  obtain ⟨v1, vs1, d1, ds1, p1, q1, rfl, rfl, rfl, h1, r1⟩ := trodAll_cons r0
  obtain ⟨v2, vs2, d2, ds2, p2, q2, rfl, rfl, rfl, h2, r2⟩ := trodAll_cons r1
  obtain ⟨rfl, rfl, rfl⟩ := trodAll_nil r2
  obtain rfl : args = #[v0, v1, v2] := by cases args; simp_all
  obtain ⟨rfl, rfl⟩ := trodVars_none hV
  have k0 := h0
  have lt0 : ∀ x ∈ p0, x.block < W.heap.size := by obtain ⟨m, hm⟩ := k0; exact DataW.trod_lt m _ _ _ hm
  obtain ⟨u0, t0, y0, z0, n0, rfl, rfl, rfl, g0, e0⟩ := open_agg2 Try.underlying23 (by kernel_rfl) (by kernel_rfl) (hval 0 23 v0 rfl rfl) h0
  obtain ⟨a0, ha0, rfl, _⟩ := DataW.trod_int Try.underlying3 g0
  obtain ⟨b0, hb0, rfl, _⟩ := DataW.trod_int Try.underlying3 e0
  obtain rfl : u0 = .int .i64 a0 := by simpa using ha0
  obtain rfl : t0 = .int .i64 b0 := by simpa using hb0
  have k1 := h1
  have lt1 : ∀ x ∈ p1, x.block < W.heap.size := by obtain ⟨m, hm⟩ := k1; exact DataW.trod_lt m _ _ _ hm
  obtain ⟨u1, t1, y1, z1, n1, rfl, rfl, rfl, g1, e1⟩ := open_agg2 Try.underlying23 (by kernel_rfl) (by kernel_rfl) (hval 1 23 v1 rfl rfl) h1
  obtain ⟨a1, ha1, rfl, _⟩ := DataW.trod_int Try.underlying3 g1
  obtain ⟨b1, hb1, rfl, _⟩ := DataW.trod_int Try.underlying3 e1
  obtain rfl : u1 = .int .i64 a1 := by simpa using ha1
  obtain rfl : t1 = .int .i64 b1 := by simpa using hb1
  obtain ⟨a2, rfl, rfl, rfl, w2⟩ := open_int Try.underlying3 (hval 2 3 v2 rfl rfl) h2
  clear hA0 hval0
  refine (itvSets_walk a0 b0 a1 b1 a2 w2 W).mono fun e W' ⟨he, bel⟩ => ?_
  subst he
  exact ⟨_, rfl, _, _, _, [], _, [], hW', trodAll_mk1 (shut_bool Try.underlying4 _), (trodAll_cons_mk (Below.trod itvSets_laidOut (by kernel_rfl) (of_decide_eq_true (by kernel_rfl)) k0 bel lt0) (trodAll_cons_mk (Below.trod itvSets_laidOut (by kernel_rfl) (of_decide_eq_true (by kernel_rfl)) k1 bel lt1) (trodAll_cons_mk (shut_int Try.underlying3 w2) trodAll_mk0))), rfl, bel.frame _, fun h => by cases h⟩

theorem itvSets_holds : Rows.ItvSetsSaid :=
  OpenClaim.holds_of_wide 3 Try.f3 rfl rfl rfl rfl rfl rfl rfl ⟨rfl, rfl, rfl, rfl, rfl⟩ rfl rfl rfl rfl rfl (by kernel_rfl) Try.func3 (by kernel_rfl)
    (of_decide_eq_true (by kernel_rfl)) (by unfold Func.isWrapper; first | (rw [if_pos (by decide +kernel)]; kernel_rfl) | (rw [if_neg (by decide +kernel)]; exact ⟨rfl, rfl⟩))
    (fun os started H enc _ => itvSets_lifted os started H enc)

#print axioms itvSets_holds
end Go.Proofs.Ytibhoekccjcoaaa
