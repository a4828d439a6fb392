/-
  ZoneOrders: bounds that come in another order tell the same; a bound that is there already changes nothing.
  Conditions: none.
-/
import Derived.Test.YtofipommnjhpoaaRows
import Derived.Test.YtofipommnjhpoaaZj
import Derived.Test.YtofipommnjhpoaaZk
import Derived.WalkKit
import Derived.ProofKit
import Derived.OpenShut
import Derived.ShutString
import Derived.ChangeOld
import Derived.Below
import Derived.Lib.SmallJoins
import Derived.Laws.IdiomArrays
namespace Go.Proofs.Ytofipommnjhpoaa
open Go.ChangeShapes Go.WideShapes Go.ChangeAt Go.RowKit
open Go.ChangeMaps (open_string shut_string)
theorem zoneOrders_walk (t0 l0 u0 s0 t1 l1 u1 s1 t2 l2 u2 s2 : Int) (w : World) :
    Calls Try.prog 10 #[.agg #[.int .i64 t0, .int .i64 l0, .int .i64 u0, .int .i64 s0], .agg #[.int .i64 t1, .int .i64 l1, .int .i64 u1, .int .i64 s1], .agg #[.int .i64 t2, .int .i64 l2, .int .i64 u2, .int .i64 s2]] w fun e w' => e = .returned (.bool true) ∧ Below w.heap.size w w' := by
  have four : ∀ a b c d : Int, Sx.UR (fun _ => none) (.one (.agg [.c (.int .i64 (.sym a)), .c (.int .i64 (.sym b)), .c (.int .i64 (.sym c)), .c (.int .i64 (.sym d))])) (.agg #[.int .i64 a, .int .i64 b, .int .i64 c, .int .i64 d]) := fun a b c d => Sx.Z.agg4 _ a b c d
  exact Sx.law_of Sx.Z.zorders_ok (args := [.one (.agg [.c (.int .i64 (.sym t0)), .c (.int .i64 (.sym l0)), .c (.int .i64 (.sym u0)), .c (.int .i64 (.sym s0))]), .one (.agg [.c (.int .i64 (.sym t1)), .c (.int .i64 (.sym l1)), .c (.int .i64 (.sym u1)), .c (.int .i64 (.sym s1))]), .one (.agg [.c (.int .i64 (.sym t2)), .c (.int .i64 (.sym l2)), .c (.int .i64 (.sym u2)), .c (.int .i64 (.sym s2))])]) (vc := []) (by kernel_rfl) trivial (vs := [.agg #[.int .i64 t0, .int .i64 l0, .int .i64 u0, .int .i64 s0], .agg #[.int .i64 t1, .int .i64 l1, .int .i64 u1, .int .i64 s1], .agg #[.int .i64 t2, .int .i64 l2, .int .i64 u2, .int .i64 s2]]) (Sx.wh_nil w) ⟨four .., four .., four .., trivial⟩
theorem zoneOrders_own : ownKnob Try.prog.godebug = none := by kernel_rfl
theorem zoneOrders_laidOut : laidOutB Try.prog = true := by kernel_rfl
set_option maxRecDepth 100000 in
theorem zoneOrders_lifted (os : Os) (started : os.Started) (H : Type) (enc : TypeId × Value → H) :
    ReturnsInHanded {} Try.checked os 10 .any (Rows.zoneOrdersSpec.pre6 enc Try.prog Try.f10 Rows.zoneOrdersRow.domain false) (Rows.zoneOrdersSpec.post enc Try.prog Try.f10 false true false false) := by
  refine returnsInHanded_of_change (C := Try.checked) zoneOrders_own started (by kernel_rfl) Try.func10
    (ChangeSpec.witness6 (enc := enc) (C := Try.checked) false ⟨#[], #[.agg #[.int .i64 0, .int .i64 0, .int .i64 0, .int .i64 0], .agg #[.int .i64 0, .int .i64 0, .int .i64 0, .int .i64 0], .agg #[.int .i64 0, .int .i64 0, .int .i64 0, .int .i64 0]], []⟩ 8 (by kernel_rfl) (by kernel_rfl) (by kernel_rfl) (by kernel_rfl)) ?_
  intro W base args ds gs before hval0 hW _ _
  have hval : ∀ (j : Nat) t v, Try.f10.params[j]? = some t → args[j]? = some v → Value.okWide Try.prog W .any base t v := hval0
  have hW' := hW
  obtain ⟨p, q, hA0, hV, rfl, _, _⟩ := hW
  have hA : DataW.TrodAll enc Try.prog W 0 (fun _ => true) true Try.f10.params.toList args.toList ds p := hA0
  rw [Try.params10] at hA hval
  obtain ⟨v0, vs0, d0, ds0, p0, q0, hargs, rfl, rfl, h0, r0⟩ := trodAll_cons hA
  obtain ⟨v1, vs1, d1, ds1, p1, q1, rfl, rfl, rfl, h1, r1⟩ := trodAll_cons r0
  obtain ⟨v2, vs2, d2, ds2, p2, q2, rfl, rfl, rfl, h2, r2⟩ := trodAll_cons r1
  obtain ⟨rfl, rfl, rfl⟩ := trodAll_nil r2
  obtain rfl : args = #[v0, v1, v2] := by cases args; simp_all
  obtain ⟨rfl, rfl⟩ := trodVars_none hV
  have k0 := h0
  have lt0 : ∀ x ∈ p0, x.block < W.heap.size := by obtain ⟨m, hm⟩ := k0; exact DataW.trod_lt m _ _ _ hm
  obtain ⟨t0, l0, u0, s0, rfl⟩ := act_of (hval 0 44 v0 rfl rfl) h0
  have k1 := h1
  have lt1 : ∀ x ∈ p1, x.block < W.heap.size := by obtain ⟨m, hm⟩ := k1; exact DataW.trod_lt m _ _ _ hm
  obtain ⟨t1, l1, u1, s1, rfl⟩ := act_of (hval 1 44 v1 rfl rfl) h1
  have k2 := h2
  have lt2 : ∀ x ∈ p2, x.block < W.heap.size := by obtain ⟨m, hm⟩ := k2; exact DataW.trod_lt m _ _ _ hm
  obtain ⟨t2, l2, u2, s2, rfl⟩ := act_of (hval 2 44 v2 rfl rfl) h2
  clear hA0 hval0
  refine (zoneOrders_walk t0 l0 u0 s0 t1 l1 u1 s1 t2 l2 u2 s2 W).mono fun e W' ⟨he, bel⟩ => ?_
  subst he
  exact ⟨_, rfl, _, _, _, [], _, [], hW', trodAll_mk1 (shut_bool Try.underlying4 _), (trodAll_cons_mk (Below.trod zoneOrders_laidOut (by kernel_rfl) (of_decide_eq_true (by kernel_rfl)) k0 bel lt0) (trodAll_cons_mk (Below.trod zoneOrders_laidOut (by kernel_rfl) (of_decide_eq_true (by kernel_rfl)) k1 bel lt1) (trodAll_cons_mk (Below.trod zoneOrders_laidOut (by kernel_rfl) (of_decide_eq_true (by kernel_rfl)) k2 bel lt2) trodAll_mk0))), rfl, bel.frame _, fun h => by cases h⟩

theorem zoneOrders_holds : Rows.ZoneOrdersSaid :=
  OpenClaim.holds_of_wide 10 Try.f10 rfl rfl rfl rfl rfl rfl rfl ⟨rfl, rfl, rfl, rfl, rfl⟩ rfl rfl rfl rfl rfl (by kernel_rfl) Try.func10 (by kernel_rfl)
    (of_decide_eq_true (by kernel_rfl)) (by unfold Func.isWrapper; first | (rw [if_pos (by decide +kernel)]; kernel_rfl) | (rw [if_neg (by decide +kernel)]; exact ⟨rfl, rfl⟩))
    (fun os started H enc _ => zoneOrders_lifted os started H enc)

end Go.Proofs.Ytofipommnjhpoaa
