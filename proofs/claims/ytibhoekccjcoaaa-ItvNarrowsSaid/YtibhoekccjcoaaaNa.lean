/-
  ItvNarrows: of all Itvs: what is narrowed is within what it was, and has all of the second one that was within it; narrowed again it is the same.
  Conditions: none.
-/
import Derived.Test.YtibhoekccjcoaaaRows
import Derived.Test.YtibhoekccjcoaaaIn
import Derived.WalkKit
import Derived.ProofKit
import Derived.OpenShut
import Derived.ShutString
import Derived.ChangeOld
import Derived.Below
import Derived.Lib.SmallJoins
namespace Go.Proofs.Ytibhoekccjcoaaa
open Go.ChangeShapes Go.WideShapes Go.ChangeAt Go.RowKit Go.Joins

theorem ofP_spec {l h : Int} (l1 : -2147483648 ≤ l) (h2 : h ≤ 2147483647) : (h < l ∧ (ofP l h).1 = 1 ∧ (ofP l h).2 = 0) ∨ (l ≤ h ∧ (ofP l h).1 = l ∧ (ofP l h).2 = h) := by
  by_cases hc : h < l
  · refine .inl ⟨hc, ?_, ?_⟩ <;> (unfold ofP; rw [show nrm _ _ = ((1 : Int), (0 : Int)) from if_pos (by unfold mx mn; split <;> split <;> omega)])
  · refine .inr ⟨by omega, ?_, ?_⟩ <;> rw [ofP_in l h l1 h2 (by omega)]
theorem nrm_spec (l h : Int) : (h < l ∧ (nrm l h).1 = 1 ∧ (nrm l h).2 = 0) ∨ (l ≤ h ∧ (nrm l h).1 = l ∧ (nrm l h).2 = h) := by
  unfold nrm
  by_cases hc : h < l
  · rw [if_pos hc]; exact .inl ⟨hc, rfl, rfl⟩
  · rw [if_neg hc]; exact .inr ⟨by omega, rfl, rfl⟩
theorem mx_spec (x y : Int) : (x < y ∧ mx x y = y) ∨ (y ≤ x ∧ mx x y = x) := by unfold mx; split <;> omega
theorem mn_spec (x y : Int) : (y < x ∧ mn x y = y) ∨ (x ≤ y ∧ mn x y = x) := by unfold mn; split <;> omega
/-- An end of what is narrowed. -/
def Pick (c a b l : Int) : Prop := (a = c ∧ l = b) ∨ (a ≠ c ∧ l = a)
theorem narrow_spec {a0 a1 b0 b1 : Int} (r1 : -2147483648 ≤ a0) (r2 : a1 ≤ 2147483647) (r3 : -2147483648 ≤ b0) (r4 : b1 ≤ 2147483647) :
    ((a1 < a0 ∨ b1 < b0) ∧ (narrowP a0 a1 b0 b1).1 = 1 ∧ (narrowP a0 a1 b0 b1).2 = 0) ∨ (a0 ≤ a1 ∧ b0 ≤ b1 ∧ ∃ l h, Pick (-2147483648) a0 b0 l ∧ Pick 2147483647 a1 b1 h ∧ ((h < l ∧ (narrowP a0 a1 b0 b1).1 = 1 ∧ (narrowP a0 a1 b0 b1).2 = 0) ∨ (l ≤ h ∧ (narrowP a0 a1 b0 b1).1 = l ∧ (narrowP a0 a1 b0 b1).2 = h))) := by
  unfold narrowP
  by_cases hc : a1 < a0 ∨ b1 < b0
  · rw [if_pos hc]; exact .inl ⟨hc, rfl, rfl⟩
  · rw [if_neg hc]
    refine .inr ⟨by omega, by omega, _, _, ?_, ?_, ofP_spec ?_ ?_⟩
    · unfold Pick; split <;> omega
    · unfold Pick; split <;> omega
    · split <;> omega
    · split <;> omega
theorem within_of {a0 a1 b0 b1 : Int} (h : a1 < a0 ∨ (b0 ≤ a0 ∧ a1 ≤ b1)) : withinB a0 a1 b0 b1 = true := by
  unfold withinB
  rcases h with h | h
  · simp [h]
  · simp [h.1, h.2]
theorem itvNarrows_walk (a0 a1 b0 b1 : Int) (w : World) :
    Calls Try.prog 10 #[.agg #[.int .i64 a0, .int .i64 a1], .agg #[.int .i64 b0, .int .i64 b1]] w fun e w' => e = .returned (.bool true) ∧ Below w.heap.size w w' := by
  obtain ⟨ra1, ra2⟩ := wrap_in a0
  obtain ⟨ra3, ra4⟩ := wrap_in a1
  obtain ⟨rb1, rb2⟩ := wrap_in b0
  obtain ⟨rb3, rb4⟩ := wrap_in b1
  have sx := nrm_spec (wrap32 a0) (wrap32 a1)
  have sy := nrm_spec (wrap32 b0) (wrap32 b1)
  have main := narrows_probe a0 a1 b0 b1 _ _ _ _ _ _ _ _ _ _ w (Prod.eta _).symm (Prod.eta _).symm (Prod.eta _).symm (Prod.eta _).symm (Prod.eta _).symm
  generalize (nrm (wrap32 a0) (wrap32 a1)).1 = x0 at *
  generalize (nrm (wrap32 a0) (wrap32 a1)).2 = x1 at *
  generalize (nrm (wrap32 b0) (wrap32 b1)).1 = y0 at *
  generalize (nrm (wrap32 b0) (wrap32 b1)).2 = y1 at *
  have s1 := mx_spec x0 y0
  have s2 := mn_spec x1 y1
  have sm := ofP_spec (l := mx x0 y0) (h := mn x1 y1) (by omega) (by omega)
  change (_ ∧ (meetP x0 x1 y0 y1).1 = _ ∧ (meetP x0 x1 y0 y1).2 = _) ∨ (_ ∧ (meetP x0 x1 y0 y1).1 = _ ∧ (meetP x0 x1 y0 y1).2 = _) at sm
  generalize (meetP x0 x1 y0 y1).1 = m0 at *
  generalize (meetP x0 x1 y0 y1).2 = m1 at *
  have sn := narrow_spec (a0 := x0) (a1 := x1) (b0 := m0) (b1 := m1) (by omega) (by omega) (by omega) (by omega)
  generalize (narrowP x0 x1 m0 m1).1 = n0 at *
  generalize (narrowP x0 x1 m0 m1).2 = n1 at *
  unfold Pick at sn
  have rn : (-2147483648 ≤ n0 ∧ n1 ≤ 2147483647) ∧ (n1 < n0 ∨ (x0 ≤ n0 ∧ n1 ≤ x1)) ∧ (m1 < m0 ∨ (n0 ≤ m0 ∧ m1 ≤ n1)) := by
    rcases sn with ⟨_, _, _⟩ | ⟨_, _, l, h, hl, hh, hp⟩
    · omega
    · omega
  clear sn
  have sq := narrow_spec (a0 := n0) (a1 := n1) (b0 := m0) (b1 := m1) (by omega) (by omega) (by omega) (by omega)
  refine main ?_ (within_of rn.2.1) (within_of rn.2.2)
  have rq : -2147483648 ≤ (narrowP n0 n1 m0 m1).1 ∧ (narrowP n0 n1 m0 m1).2 ≤ 2147483647 := by
    unfold Pick at sq
    rcases sq with ⟨_, _, _⟩ | ⟨_, _, l, h, hl, hh, hp⟩
    · omega
    · omega
  have sr := narrow_spec (a0 := n0) (a1 := n1) (b0 := (narrowP n0 n1 m0 m1).1) (b1 := (narrowP n0 n1 m0 m1).2) (by omega) (by omega) rq.1 rq.2
  generalize (narrowP n0 n1 m0 m1).1 = q0 at *
  generalize (narrowP n0 n1 m0 m1).2 = q1 at *
  unfold Pick at sq sr
  refine Prod.ext ?_ ?_
  · show (narrowP n0 n1 q0 q1).1 = q0
    rcases sq with ⟨_, _, _⟩ | ⟨_, _, l, h, hl, hh, hp⟩ <;> rcases sr with ⟨_, _, _⟩ | ⟨_, _, l2, h2, hl2, hh2, hp2⟩ <;> omega
  · show (narrowP n0 n1 q0 q1).2 = q1
    rcases sq with ⟨_, _, _⟩ | ⟨_, _, l, h, hl, hh, hp⟩ <;> rcases sr with ⟨_, _, _⟩ | ⟨_, _, l2, h2, hl2, hh2, hp2⟩ <;> omega

theorem itvNarrows_own : ownKnob Try.prog.godebug = none := by kernel_rfl
theorem itvNarrows_laidOut : laidOutB Try.prog = true := by kernel_rfl
set_option maxRecDepth 100000 in
theorem itvNarrows_lifted (os : Os) (started : os.Started) (H : Type) (enc : TypeId × Value → H) :
    ReturnsInHanded {} Try.checked os 10 .any (Rows.itvNarrowsSpec.pre6 enc Try.prog Try.f10 Rows.itvNarrowsRow.domain false) (Rows.itvNarrowsSpec.post enc Try.prog Try.f10 false true false false) := by
  refine returnsInHanded_of_change (C := Try.checked) itvNarrows_own started (by kernel_rfl) Try.func10
    (ChangeSpec.witness6 (enc := enc) (C := Try.checked) false ⟨#[], #[.agg #[.int .i64 0, .int .i64 0], .agg #[.int .i64 0, .int .i64 0]], []⟩ 8 (by kernel_rfl) (by kernel_rfl) (by kernel_rfl) (by kernel_rfl)) ?_
  intro W base args ds gs before hval0 hW _ _
  have hval : ∀ (j : Nat) t v, Try.f10.params[j]? = some t → args[j]? = some v → Value.okWide Try.prog W .any base t v := hval0
  have hW' := hW
  obtain ⟨p, q, hA0, hV, rfl, _, _⟩ := hW
  have hA : DataW.TrodAll enc Try.prog W 0 (fun _ => true) true Try.f10.params.toList args.toList ds p := hA0
  rw [Try.params10] at hA hval
  obtain ⟨v0, vs0, d0, ds0, p0, q0, hargs, rfl, rfl, h0, r0⟩ := trodAll_cons hA
  obtain ⟨v1, vs1, d1, ds1, p1, q1, rfl, rfl, rfl, h1, r1⟩ := trodAll_cons r0
  obtain ⟨rfl, rfl, rfl⟩ := trodAll_nil r1
  obtain rfl : args = #[v0, v1] := by cases args; simp_all
  obtain ⟨rfl, rfl⟩ := trodVars_none hV
  have k0 := h0
  have lt0 : ∀ x ∈ p0, x.block < W.heap.size := by obtain ⟨m, hm⟩ := k0; exact DataW.trod_lt m _ _ _ hm
  obtain ⟨u0, t0, y0, z0, n0, rfl, rfl, rfl, g0, e0⟩ := open_agg2 Try.underlying23 (by kernel_rfl) (by kernel_rfl) (hval 0 23 v0 rfl rfl) h0
  obtain ⟨a0, ha0, rfl, _⟩ := DataW.trod_int Try.underlying3 g0
  obtain ⟨b0, hb0, rfl, _⟩ := DataW.trod_int Try.underlying3 e0
  obtain rfl : u0 = .int .i64 a0 := by simpa using ha0
  obtain rfl : t0 = .int .i64 b0 := by simpa using hb0
  have k1 := h1
  have lt1 : ∀ x ∈ p1, x.block < W.heap.size := by obtain ⟨m, hm⟩ := k1; exact DataW.trod_lt m _ _ _ hm
  obtain ⟨u1, t1, y1, z1, n1, rfl, rfl, rfl, g1, e1⟩ := open_agg2 Try.underlying23 (by kernel_rfl) (by kernel_rfl) (hval 1 23 v1 rfl rfl) h1
  obtain ⟨a1, ha1, rfl, _⟩ := DataW.trod_int Try.underlying3 g1
  obtain ⟨b1, hb1, rfl, _⟩ := DataW.trod_int Try.underlying3 e1
  obtain rfl : u1 = .int .i64 a1 := by simpa using ha1
  obtain rfl : t1 = .int .i64 b1 := by simpa using hb1
  clear hA0 hval0
  refine (itvNarrows_walk a0 b0 a1 b1 W).mono fun e W' ⟨he, bel⟩ => ?_
  subst he
  exact ⟨_, rfl, _, _, _, [], _, [], hW', trodAll_mk1 (shut_bool Try.underlying4 _), (trodAll_cons_mk (Below.trod itvNarrows_laidOut (by kernel_rfl) (of_decide_eq_true (by kernel_rfl)) k0 bel lt0) (trodAll_cons_mk (Below.trod itvNarrows_laidOut (by kernel_rfl) (of_decide_eq_true (by kernel_rfl)) k1 bel lt1) trodAll_mk0)), rfl, bel.frame _, fun h => by cases h⟩

theorem itvNarrows_holds : Rows.ItvNarrowsSaid :=
  OpenClaim.holds_of_wide 10 Try.f10 rfl rfl rfl rfl rfl rfl rfl ⟨rfl, rfl, rfl, rfl, rfl⟩ rfl rfl rfl rfl rfl (by kernel_rfl) Try.func10 (by kernel_rfl)
    (of_decide_eq_true (by kernel_rfl)) (by unfold Func.isWrapper; first | (rw [if_pos (by decide +kernel)]; kernel_rfl) | (rw [if_neg (by decide +kernel)]; exact ⟨rfl, rfl⟩))
    (fun os started H enc _ => itvNarrows_lifted os started H enc)

#print axioms itvNarrows_holds
end Go.Proofs.Ytibhoekccjcoaaa
