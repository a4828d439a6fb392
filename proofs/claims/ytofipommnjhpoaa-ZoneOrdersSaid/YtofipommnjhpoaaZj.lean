/-
  ZoneOrders: bounds in another order.
-/
import Derived.Test.YtofipommnjhpoaaZg
import Derived.Test.YtofipommnjhpoaaZh
namespace Go.Proofs.Ytofipommnjhpoaa.Sx.Z
open Go.RowKit
theorem agg4 (ρ : Map) (a b c d : Int) : UR ρ (.one (.agg [.c (.int .i64 (.sym a)), .c (.int .i64 (.sym b)), .c (.int .i64 (.sym c)), .c (.int .i64 (.sym d))])) (.agg #[.int .i64 a, .int .i64 b, .int .i64 c, .int .i64 d]) := by
  refine ⟨_, rfl, rfl, fun i x v hx hv => ?_⟩
  match i, hx, hv with
  | 0, hx, hv => simp [cellsOf, Seg.cells] at hx hv; subst hx hv; rfl
  | 1, hx, hv => simp [cellsOf, Seg.cells] at hx hv; subst hx hv; rfl
  | 2, hx, hv => simp [cellsOf, Seg.cells] at hx hv; subst hx hv; rfl
  | 3, hx, hv => simp [cellsOf, Seg.cells] at hx hv; subst hx hv; rfl
  | i + 4, hx, hv => simp [cellsOf, Seg.cells] at hx
theorem peta (z : Zs) : (z.1, z.2) = z := rfl
theorem good_lb {n : Int} {z : Zs} (h : Good n z) (x y b : Int) : Good n (lbZ n x y b z) := by
  unfold lbZ
  split
  · exact h
  · exact good_bnd h _ _ _
def LbOk (x y b : Int) (v : Nat → Int) : Prop := lbX x = lbY y ∨ v (lbX x + 1).toNat - v (lbY y + 1).toNat ≤ lbB b
theorem lb_pt {z : Zs} (h : Good (topN 4) z) (x y b : Int) (v : Nat → Int) : Pt (topN 4) (lbZ (topN 4) x y b z) v ↔ Pt (topN 4) z v ∧ LbOk x y b v := by
  have hx := lbX_in x
  have hy := lbY_in y
  unfold lbZ LbOk
  by_cases e : lbX x = lbY y
  · rw [if_pos (beq_iff_eq.2 e)]
    exact ⟨fun hp => ⟨hp, .inl e⟩, fun hp => hp.1⟩
  · rw [if_neg (fun hh => e (beq_iff_eq.1 hh)), bnd_pt h (end4 (by omega)) (end4 hy)]
    exact ⟨fun hp => ⟨hp.1, .inr hp.2⟩, fun hp => ⟨hp.1, hp.2.resolve_left e⟩⟩
theorem within_of {n : Int} {z w : Zs} (h : Good n z) (hp : ∀ v, Pt n z v → Pt n w v) : withinP n z.1 z.2 n w.1 w.2 = true := by
  unfold withinP
  cases hz : z.1 with
  | true => simp
  | false =>
    obtain ⟨hw, hle⟩ := good_le h hp hz
    rw [hw, if_neg (by simp)]
    refine allB_iff.2 fun o ho hr => ?_
    obtain ⟨e, _, _⟩ := at7 ho rfl rfl
    have := hle _ _ hr.1 hr.2
    rw [← e] at this
    exact decide_eq_true this
theorem eqZ {n : Int} {z w : Zs} (h : Good n z) (k : Good n w) (hp : ∀ v, Pt n z v ↔ Pt n w v) : (z.1 == w.1) = true ∧ decide (∀ (o : Nat), o < (49 : Nat) → z.2 o = w.2 o) = true := by
  obtain ⟨e1, e2⟩ := good_ext h k hp
  exact ⟨beq_iff_eq.2 e1, decide_eq_true e2⟩
def zordersS : FSpec := fun ds _ => match ds with
  | [.i w1, .i x1, .i y1, .i b1, .i w2, .i x2, .i y2, .i b2, .i w3, .i x3, .i y3, .i b3] => some { val := .one (.sc (.bool (.sym (true)))), vc := [] }
  | _ => none
def zordersC : Con := con [.agg [.c (.int .i64), .c (.int .i64), .c (.int .i64), .c (.int .i64)], .agg [.c (.int .i64), .c (.int .i64), .c (.int .i64), .c (.int .i64)], .agg [.c (.int .i64), .c (.int .i64), .c (.int .i64), .c (.int .i64)]] zordersS
theorem zorders_ok : ConOK Try.prog 10 zordersC := by
  refine fn_ob tt_ok mixed Try.func10 rfl (fun _ _ => by kernel_rfl) (A := fun ds => ⟨fun _ => Cons.of [(16, copiesC), (29, zrightC), (12, topC), (34, lboundC), (30, withinC)], fun _ => none⟩) (fun _ _ => (cons_cons copies_ok (cons_cons zright_ok (cons_cons top_ok (cons_cons lbound_ok (cons_cons within_ok cons_nil)))))) (by kernel_rfl) ?_
  intro ds fr
  unfold zordersS
  split
  · rename_i w1 x1 y1 b1 w2 x2 y2 b2 w3 x3 y3 b3
    refine kmp (q := Good (topN (4 : Int)) (false, topF (4 : Int)) ∧
 Good (topN (4 : Int)) ((lbZ (topN (4 : Int)) x1 y1 b1 (false, topF (4 : Int))).fst, (lbZ (topN (4 : Int)) x1 y1 b1 (false, topF (4 : Int))).snd) ∧
 Good (topN (4 : Int))
 ((lbZ (topN (4 : Int)) x2 y2 b2
 ((lbZ (topN (4 : Int)) x1 y1 b1 (false, topF (4 : Int))).fst, (lbZ (topN (4 : Int)) x1 y1 b1 (false, topF (4 : Int))).snd)).fst,
 (lbZ (topN (4 : Int)) x2 y2 b2
 ((lbZ (topN (4 : Int)) x1 y1 b1 (false, topF (4 : Int))).fst, (lbZ (topN (4 : Int)) x1 y1 b1 (false, topF (4 : Int))).snd)).snd) ∧
 Good (topN (4 : Int)) (false, topF (4 : Int)) ∧
 Good (topN (4 : Int)) ((lbZ (topN (4 : Int)) x3 y3 b3 (false, topF (4 : Int))).fst, (lbZ (topN (4 : Int)) x3 y3 b3 (false, topF (4 : Int))).snd) ∧
 Good (topN (4 : Int))
 ((lbZ (topN (4 : Int)) x1 y1 b1
 ((lbZ (topN (4 : Int)) x3 y3 b3 (false, topF (4 : Int))).fst, (lbZ (topN (4 : Int)) x3 y3 b3 (false, topF (4 : Int))).snd)).fst,
 (lbZ (topN (4 : Int)) x1 y1 b1
 ((lbZ (topN (4 : Int)) x3 y3 b3 (false, topF (4 : Int))).fst, (lbZ (topN (4 : Int)) x3 y3 b3 (false, topF (4 : Int))).snd)).snd) ∧
 ((true &&
 (topN (4 : Int) == topN (4 : Int) &&
 ((lbZ (topN (4 : Int)) x3 y3 b3
 ((lbZ (topN (4 : Int)) x2 y2 b2
 ((lbZ (topN (4 : Int)) x1 y1 b1 (false, topF (4 : Int))).fst,
 (lbZ (topN (4 : Int)) x1 y1 b1 (false, topF (4 : Int))).snd)).fst,
 (lbZ (topN (4 : Int)) x2 y2 b2
 ((lbZ (topN (4 : Int)) x1 y1 b1 (false, topF (4 : Int))).fst,
 (lbZ (topN (4 : Int)) x1 y1 b1 (false, topF (4 : Int))).snd)).snd)).fst ==
 (lbZ (topN (4 : Int)) x2 y2 b2
 ((lbZ (topN (4 : Int)) x1 y1 b1
 ((lbZ (topN (4 : Int)) x3 y3 b3 (false, topF (4 : Int))).fst,
 (lbZ (topN (4 : Int)) x3 y3 b3 (false, topF (4 : Int))).snd)).fst,
 (lbZ (topN (4 : Int)) x1 y1 b1
 ((lbZ (topN (4 : Int)) x3 y3 b3 (false, topF (4 : Int))).fst,
 (lbZ (topN (4 : Int)) x3 y3 b3 (false, topF (4 : Int))).snd)).snd)).fst &&
 (decide
 (∀ (o : Nat),
 o < (49 : Nat) →
 (lbZ (topN (4 : Int)) x3 y3 b3
 ((lbZ (topN (4 : Int)) x2 y2 b2
 ((lbZ (topN (4 : Int)) x1 y1 b1 (false, topF (4 : Int))).fst,
 (lbZ (topN (4 : Int)) x1 y1 b1 (false, topF (4 : Int))).snd)).fst,
 (lbZ (topN (4 : Int)) x2 y2 b2
 ((lbZ (topN (4 : Int)) x1 y1 b1 (false, topF (4 : Int))).fst,
 (lbZ (topN (4 : Int)) x1 y1 b1 (false, topF (4 : Int))).snd)).snd)).snd
 o =
 (lbZ (topN (4 : Int)) x2 y2 b2
 ((lbZ (topN (4 : Int)) x1 y1 b1
 ((lbZ (topN (4 : Int)) x3 y3 b3 (false, topF (4 : Int))).fst,
 (lbZ (topN (4 : Int)) x3 y3 b3 (false, topF (4 : Int))).snd)).fst,
 (lbZ (topN (4 : Int)) x1 y1 b1
 ((lbZ (topN (4 : Int)) x3 y3 b3 (false, topF (4 : Int))).fst,
 (lbZ (topN (4 : Int)) x3 y3 b3 (false, topF (4 : Int))).snd)).snd)).snd
 o) &&
 true)))) =
 true ∧
 True →
 Good (topN (4 : Int))
 ((lbZ (topN (4 : Int)) x3 y3 b3
 ((lbZ (topN (4 : Int)) x2 y2 b2
 ((lbZ (topN (4 : Int)) x1 y1 b1 (false, topF (4 : Int))).fst, (lbZ (topN (4 : Int)) x1 y1 b1 (false, topF (4 : Int))).snd)).fst,
 (lbZ (topN (4 : Int)) x2 y2 b2
 ((lbZ (topN (4 : Int)) x1 y1 b1 (false, topF (4 : Int))).fst,
 (lbZ (topN (4 : Int)) x1 y1 b1 (false, topF (4 : Int))).snd)).snd)).fst,
 (lbZ (topN (4 : Int)) x3 y3 b3
 ((lbZ (topN (4 : Int)) x2 y2 b2
 ((lbZ (topN (4 : Int)) x1 y1 b1 (false, topF (4 : Int))).fst, (lbZ (topN (4 : Int)) x1 y1 b1 (false, topF (4 : Int))).snd)).fst,
 (lbZ (topN (4 : Int)) x2 y2 b2
 ((lbZ (topN (4 : Int)) x1 y1 b1 (false, topF (4 : Int))).fst,
 (lbZ (topN (4 : Int)) x1 y1 b1 (false, topF (4 : Int))).snd)).snd)).snd)) ∧
 ((true &&
 (topN (4 : Int) == topN (4 : Int) &&
 ((lbZ (topN (4 : Int)) x3 y3 b3
 ((lbZ (topN (4 : Int)) x2 y2 b2
 ((lbZ (topN (4 : Int)) x1 y1 b1 (false, topF (4 : Int))).fst,
 (lbZ (topN (4 : Int)) x1 y1 b1 (false, topF (4 : Int))).snd)).fst,
 (lbZ (topN (4 : Int)) x2 y2 b2
 ((lbZ (topN (4 : Int)) x1 y1 b1 (false, topF (4 : Int))).fst,
 (lbZ (topN (4 : Int)) x1 y1 b1 (false, topF (4 : Int))).snd)).snd)).fst ==
 (lbZ (topN (4 : Int)) x2 y2 b2
 ((lbZ (topN (4 : Int)) x1 y1 b1
 ((lbZ (topN (4 : Int)) x3 y3 b3 (false, topF (4 : Int))).fst,
 (lbZ (topN (4 : Int)) x3 y3 b3 (false, topF (4 : Int))).snd)).fst,
 (lbZ (topN (4 : Int)) x1 y1 b1
 ((lbZ (topN (4 : Int)) x3 y3 b3 (false, topF (4 : Int))).fst,
 (lbZ (topN (4 : Int)) x3 y3 b3 (false, topF (4 : Int))).snd)).snd)).fst &&
 (decide
 (∀ (o : Nat),
 o < (49 : Nat) →
 (lbZ (topN (4 : Int)) x3 y3 b3
 ((lbZ (topN (4 : Int)) x2 y2 b2
 ((lbZ (topN (4 : Int)) x1 y1 b1 (false, topF (4 : Int))).fst,
 (lbZ (topN (4 : Int)) x1 y1 b1 (false, topF (4 : Int))).snd)).fst,
 (lbZ (topN (4 : Int)) x2 y2 b2
 ((lbZ (topN (4 : Int)) x1 y1 b1 (false, topF (4 : Int))).fst,
 (lbZ (topN (4 : Int)) x1 y1 b1 (false, topF (4 : Int))).snd)).snd)).snd
 o =
 (lbZ (topN (4 : Int)) x2 y2 b2
 ((lbZ (topN (4 : Int)) x1 y1 b1
 ((lbZ (topN (4 : Int)) x3 y3 b3 (false, topF (4 : Int))).fst,
 (lbZ (topN (4 : Int)) x3 y3 b3 (false, topF (4 : Int))).snd)).fst,
 (lbZ (topN (4 : Int)) x1 y1 b1
 ((lbZ (topN (4 : Int)) x3 y3 b3 (false, topF (4 : Int))).fst,
 (lbZ (topN (4 : Int)) x3 y3 b3 (false, topF (4 : Int))).snd)).snd)).snd
 o) &&
 true))) &&
 (topN (4 : Int) == topN (4 : Int) &&
 ((lbZ (topN (4 : Int)) x2 y2 b2
 ((lbZ (topN (4 : Int)) x3 y3 b3
 ((lbZ (topN (4 : Int)) x2 y2 b2
 ((lbZ (topN (4 : Int)) x1 y1 b1 (false, topF (4 : Int))).fst,
 (lbZ (topN (4 : Int)) x1 y1 b1 (false, topF (4 : Int))).snd)).fst,
 (lbZ (topN (4 : Int)) x2 y2 b2
 ((lbZ (topN (4 : Int)) x1 y1 b1 (false, topF (4 : Int))).fst,
 (lbZ (topN (4 : Int)) x1 y1 b1 (false, topF (4 : Int))).snd)).snd)).fst,
 (lbZ (topN (4 : Int)) x3 y3 b3
 ((lbZ (topN (4 : Int)) x2 y2 b2
 ((lbZ (topN (4 : Int)) x1 y1 b1 (false, topF (4 : Int))).fst,
 (lbZ (topN (4 : Int)) x1 y1 b1 (false, topF (4 : Int))).snd)).fst,
 (lbZ (topN (4 : Int)) x2 y2 b2
 ((lbZ (topN (4 : Int)) x1 y1 b1 (false, topF (4 : Int))).fst,
 (lbZ (topN (4 : Int)) x1 y1 b1 (false, topF (4 : Int))).snd)).snd)).snd)).fst ==
 (lbZ (topN (4 : Int)) x3 y3 b3
 ((lbZ (topN (4 : Int)) x2 y2 b2
 ((lbZ (topN (4 : Int)) x1 y1 b1 (false, topF (4 : Int))).fst,
 (lbZ (topN (4 : Int)) x1 y1 b1 (false, topF (4 : Int))).snd)).fst,
 (lbZ (topN (4 : Int)) x2 y2 b2
 ((lbZ (topN (4 : Int)) x1 y1 b1 (false, topF (4 : Int))).fst,
 (lbZ (topN (4 : Int)) x1 y1 b1 (false, topF (4 : Int))).snd)).snd)).fst &&
 (decide
 (∀ (o : Nat),
 o < (49 : Nat) →
 (lbZ (topN (4 : Int)) x2 y2 b2
 ((lbZ (topN (4 : Int)) x3 y3 b3
 ((lbZ (topN (4 : Int)) x2 y2 b2
 ((lbZ (topN (4 : Int)) x1 y1 b1 (false, topF (4 : Int))).fst,
 (lbZ (topN (4 : Int)) x1 y1 b1 (false, topF (4 : Int))).snd)).fst,
 (lbZ (topN (4 : Int)) x2 y2 b2
 ((lbZ (topN (4 : Int)) x1 y1 b1 (false, topF (4 : Int))).fst,
 (lbZ (topN (4 : Int)) x1 y1 b1 (false, topF (4 : Int))).snd)).snd)).fst,
 (lbZ (topN (4 : Int)) x3 y3 b3
 ((lbZ (topN (4 : Int)) x2 y2 b2
 ((lbZ (topN (4 : Int)) x1 y1 b1 (false, topF (4 : Int))).fst,
 (lbZ (topN (4 : Int)) x1 y1 b1 (false, topF (4 : Int))).snd)).fst,
 (lbZ (topN (4 : Int)) x2 y2 b2
 ((lbZ (topN (4 : Int)) x1 y1 b1 (false, topF (4 : Int))).fst,
 (lbZ (topN (4 : Int)) x1 y1 b1 (false, topF (4 : Int))).snd)).snd)).snd)).snd
 o =
 (lbZ (topN (4 : Int)) x3 y3 b3
 ((lbZ (topN (4 : Int)) x2 y2 b2
 ((lbZ (topN (4 : Int)) x1 y1 b1 (false, topF (4 : Int))).fst,
 (lbZ (topN (4 : Int)) x1 y1 b1 (false, topF (4 : Int))).snd)).fst,
 (lbZ (topN (4 : Int)) x2 y2 b2
 ((lbZ (topN (4 : Int)) x1 y1 b1 (false, topF (4 : Int))).fst,
 (lbZ (topN (4 : Int)) x1 y1 b1 (false, topF (4 : Int))).snd)).snd)).snd
 o) &&
 true)))) =
 true ∧
 True →
 Good (topN (4 : Int)) (false, topF (4 : Int))) ∧
 (true &&
 (topN (4 : Int) == topN (4 : Int) &&
 ((lbZ (topN (4 : Int)) x3 y3 b3
 ((lbZ (topN (4 : Int)) x2 y2 b2
 ((lbZ (topN (4 : Int)) x1 y1 b1 (false, topF (4 : Int))).fst,
 (lbZ (topN (4 : Int)) x1 y1 b1 (false, topF (4 : Int))).snd)).fst,
 (lbZ (topN (4 : Int)) x2 y2 b2
 ((lbZ (topN (4 : Int)) x1 y1 b1 (false, topF (4 : Int))).fst,
 (lbZ (topN (4 : Int)) x1 y1 b1 (false, topF (4 : Int))).snd)).snd)).fst ==
 (lbZ (topN (4 : Int)) x2 y2 b2
 ((lbZ (topN (4 : Int)) x1 y1 b1
 ((lbZ (topN (4 : Int)) x3 y3 b3 (false, topF (4 : Int))).fst,
 (lbZ (topN (4 : Int)) x3 y3 b3 (false, topF (4 : Int))).snd)).fst,
 (lbZ (topN (4 : Int)) x1 y1 b1
 ((lbZ (topN (4 : Int)) x3 y3 b3 (false, topF (4 : Int))).fst,
 (lbZ (topN (4 : Int)) x3 y3 b3 (false, topF (4 : Int))).snd)).snd)).fst &&
 (decide
 (∀ (o : Nat),
 o < (49 : Nat) →
 (lbZ (topN (4 : Int)) x3 y3 b3
 ((lbZ (topN (4 : Int)) x2 y2 b2
 ((lbZ (topN (4 : Int)) x1 y1 b1 (false, topF (4 : Int))).fst,
 (lbZ (topN (4 : Int)) x1 y1 b1 (false, topF (4 : Int))).snd)).fst,
 (lbZ (topN (4 : Int)) x2 y2 b2
 ((lbZ (topN (4 : Int)) x1 y1 b1 (false, topF (4 : Int))).fst,
 (lbZ (topN (4 : Int)) x1 y1 b1 (false, topF (4 : Int))).snd)).snd)).snd
 o =
 (lbZ (topN (4 : Int)) x2 y2 b2
 ((lbZ (topN (4 : Int)) x1 y1 b1
 ((lbZ (topN (4 : Int)) x3 y3 b3 (false, topF (4 : Int))).fst,
 (lbZ (topN (4 : Int)) x3 y3 b3 (false, topF (4 : Int))).snd)).fst,
 (lbZ (topN (4 : Int)) x1 y1 b1
 ((lbZ (topN (4 : Int)) x3 y3 b3 (false, topF (4 : Int))).fst,
 (lbZ (topN (4 : Int)) x3 y3 b3 (false, topF (4 : Int))).snd)).snd)).snd
 o) &&
 true))) &&
 (topN (4 : Int) == topN (4 : Int) &&
 ((lbZ (topN (4 : Int)) x2 y2 b2
 ((lbZ (topN (4 : Int)) x3 y3 b3
 ((lbZ (topN (4 : Int)) x2 y2 b2
 ((lbZ (topN (4 : Int)) x1 y1 b1 (false, topF (4 : Int))).fst,
 (lbZ (topN (4 : Int)) x1 y1 b1 (false, topF (4 : Int))).snd)).fst,
 (lbZ (topN (4 : Int)) x2 y2 b2
 ((lbZ (topN (4 : Int)) x1 y1 b1 (false, topF (4 : Int))).fst,
 (lbZ (topN (4 : Int)) x1 y1 b1 (false, topF (4 : Int))).snd)).snd)).fst,
 (lbZ (topN (4 : Int)) x3 y3 b3
 ((lbZ (topN (4 : Int)) x2 y2 b2
 ((lbZ (topN (4 : Int)) x1 y1 b1 (false, topF (4 : Int))).fst,
 (lbZ (topN (4 : Int)) x1 y1 b1 (false, topF (4 : Int))).snd)).fst,
 (lbZ (topN (4 : Int)) x2 y2 b2
 ((lbZ (topN (4 : Int)) x1 y1 b1 (false, topF (4 : Int))).fst,
 (lbZ (topN (4 : Int)) x1 y1 b1 (false, topF (4 : Int))).snd)).snd)).snd)).fst ==
 (lbZ (topN (4 : Int)) x3 y3 b3
 ((lbZ (topN (4 : Int)) x2 y2 b2
 ((lbZ (topN (4 : Int)) x1 y1 b1 (false, topF (4 : Int))).fst,
 (lbZ (topN (4 : Int)) x1 y1 b1 (false, topF (4 : Int))).snd)).fst,
 (lbZ (topN (4 : Int)) x2 y2 b2
 ((lbZ (topN (4 : Int)) x1 y1 b1 (false, topF (4 : Int))).fst,
 (lbZ (topN (4 : Int)) x1 y1 b1 (false, topF (4 : Int))).snd)).snd)).fst &&
 (decide
 (∀ (o : Nat),
 o < (49 : Nat) →
 (lbZ (topN (4 : Int)) x2 y2 b2
 ((lbZ (topN (4 : Int)) x3 y3 b3
 ((lbZ (topN (4 : Int)) x2 y2 b2
 ((lbZ (topN (4 : Int)) x1 y1 b1 (false, topF (4 : Int))).fst,
 (lbZ (topN (4 : Int)) x1 y1 b1 (false, topF (4 : Int))).snd)).fst,
 (lbZ (topN (4 : Int)) x2 y2 b2
 ((lbZ (topN (4 : Int)) x1 y1 b1 (false, topF (4 : Int))).fst,
 (lbZ (topN (4 : Int)) x1 y1 b1 (false, topF (4 : Int))).snd)).snd)).fst,
 (lbZ (topN (4 : Int)) x3 y3 b3
 ((lbZ (topN (4 : Int)) x2 y2 b2
 ((lbZ (topN (4 : Int)) x1 y1 b1 (false, topF (4 : Int))).fst,
 (lbZ (topN (4 : Int)) x1 y1 b1 (false, topF (4 : Int))).snd)).fst,
 (lbZ (topN (4 : Int)) x2 y2 b2
 ((lbZ (topN (4 : Int)) x1 y1 b1 (false, topF (4 : Int))).fst,
 (lbZ (topN (4 : Int)) x1 y1 b1 (false, topF (4 : Int))).snd)).snd)).snd)).snd
 o =
 (lbZ (topN (4 : Int)) x3 y3 b3
 ((lbZ (topN (4 : Int)) x2 y2 b2
 ((lbZ (topN (4 : Int)) x1 y1 b1 (false, topF (4 : Int))).fst,
 (lbZ (topN (4 : Int)) x1 y1 b1 (false, topF (4 : Int))).snd)).fst,
 (lbZ (topN (4 : Int)) x2 y2 b2
 ((lbZ (topN (4 : Int)) x1 y1 b1 (false, topF (4 : Int))).fst,
 (lbZ (topN (4 : Int)) x1 y1 b1 (false, topF (4 : Int))).snd)).snd)).snd
 o) &&
 true))) &&
 withinP (topN (4 : Int))
 (lbZ (topN (4 : Int)) x3 y3 b3
 ((lbZ (topN (4 : Int)) x2 y2 b2
 ((lbZ (topN (4 : Int)) x1 y1 b1 (false, topF (4 : Int))).fst,
 (lbZ (topN (4 : Int)) x1 y1 b1 (false, topF (4 : Int))).snd)).fst,
 (lbZ (topN (4 : Int)) x2 y2 b2
 ((lbZ (topN (4 : Int)) x1 y1 b1 (false, topF (4 : Int))).fst,
 (lbZ (topN (4 : Int)) x1 y1 b1 (false, topF (4 : Int))).snd)).snd)).fst
 (lbZ (topN (4 : Int)) x3 y3 b3
 ((lbZ (topN (4 : Int)) x2 y2 b2
 ((lbZ (topN (4 : Int)) x1 y1 b1 (false, topF (4 : Int))).fst,
 (lbZ (topN (4 : Int)) x1 y1 b1 (false, topF (4 : Int))).snd)).fst,
 (lbZ (topN (4 : Int)) x2 y2 b2
 ((lbZ (topN (4 : Int)) x1 y1 b1 (false, topF (4 : Int))).fst,
 (lbZ (topN (4 : Int)) x1 y1 b1 (false, topF (4 : Int))).snd)).snd)).snd
 (topN (4 : Int)) (lbZ (topN (4 : Int)) x1 y1 b1 (false, topF (4 : Int))).fst
 (lbZ (topN (4 : Int)) x1 y1 b1 (false, topF (4 : Int))).snd &&
 ((lbZ (topN (4 : Int)) x3 y3 b3
 ((lbZ (topN (4 : Int)) x2 y2 b2
 ((lbZ (topN (4 : Int)) x1 y1 b1 (false, topF (4 : Int))).fst, (lbZ (topN (4 : Int)) x1 y1 b1 (false, topF (4 : Int))).snd)).fst,
 (lbZ (topN (4 : Int)) x2 y2 b2
 ((lbZ (topN (4 : Int)) x1 y1 b1 (false, topF (4 : Int))).fst,
 (lbZ (topN (4 : Int)) x1 y1 b1 (false, topF (4 : Int))).snd)).snd)).fst ||
 rightP (topN (4 : Int))
 (lbZ (topN (4 : Int)) x3 y3 b3
 ((lbZ (topN (4 : Int)) x2 y2 b2
 ((lbZ (topN (4 : Int)) x1 y1 b1 (false, topF (4 : Int))).fst,
 (lbZ (topN (4 : Int)) x1 y1 b1 (false, topF (4 : Int))).snd)).fst,
 (lbZ (topN (4 : Int)) x2 y2 b2
 ((lbZ (topN (4 : Int)) x1 y1 b1 (false, topF (4 : Int))).fst,
 (lbZ (topN (4 : Int)) x1 y1 b1 (false, topF (4 : Int))).snd)).snd)).fst
 (lbZ (topN (4 : Int)) x3 y3 b3
 ((lbZ (topN (4 : Int)) x2 y2 b2
 ((lbZ (topN (4 : Int)) x1 y1 b1 (false, topF (4 : Int))).fst,
 (lbZ (topN (4 : Int)) x1 y1 b1 (false, topF (4 : Int))).snd)).fst,
 (lbZ (topN (4 : Int)) x2 y2 b2
 ((lbZ (topN (4 : Int)) x1 y1 b1 (false, topF (4 : Int))).fst,
 (lbZ (topN (4 : Int)) x1 y1 b1 (false, topF (4 : Int))).snd)).snd)).snd)) =
 true) (by kernel_rfl) ?_
    simp only [peta]
    have g0 := good_top 4
    have ga := good_lb g0 x1 y1 b1
    have gb := good_lb ga x2 y2 b2
    have g1 := good_lb gb x3 y3 b3
    have hc := good_lb g0 x3 y3 b3
    have hd := good_lb hc x1 y1 b1
    have h1 := good_lb hd x2 y2 b2
    have k1 := good_lb g1 x2 y2 b2
    obtain ⟨e1, e2⟩ := eqZ g1 h1 fun v => by rw [lb_pt gb, lb_pt ga, lb_pt g0, lb_pt hd, lb_pt hc, lb_pt g0]; exact ⟨fun h => ⟨⟨⟨h.1.1.1, h.2⟩, h.1.1.2⟩, h.1.2⟩, fun h => ⟨⟨⟨h.1.1.1, h.1.2⟩, h.2⟩, h.1.1.2⟩⟩
    obtain ⟨e3, e4⟩ := eqZ k1 g1 fun v => by rw [lb_pt g1, lb_pt gb, lb_pt ga]; exact ⟨fun h => h.1, fun h => ⟨h, h.1.2⟩⟩
    have e5 := within_of g1 (w := lbZ (topN 4) x1 y1 b1 (false, topF 4)) fun v => by rw [lb_pt gb, lb_pt ga]; exact fun h => h.1.1
    have e6 := good_right g1
    and_intros
    all_goals first | exact g0 | exact ga | exact gb | exact hc | exact hd | exact fun _ => g1 | exact fun _ => g0 | simp only [e1, e2, e3, e4, e5, e6, beq_self_eq_true, Bool.and_true, Bool.true_and, Bool.or_true]
  · trivial
end Go.Proofs.Ytofipommnjhpoaa.Sx.Z
