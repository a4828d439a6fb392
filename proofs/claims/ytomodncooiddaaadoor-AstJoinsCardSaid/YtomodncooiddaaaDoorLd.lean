/-
  ast: what right systems are.
-/
import Derived.Test.YtomodncooiddaaaDoorLc
namespace Go.Proofs.YtomodncooiddaaaDoor.Sx.Z
open Go.RowKit
def lNs : AP := .sc (.rows 9)
def lCh : AP := .agg [.c .str, .c (.int .i64), .c (.int .i64), .c .str, .c .str, .c (.rows 9)]
def lRu : AP := .agg [.c .str, .c (.rows 112)]
def lSy : AP := .agg [.c (.rows 108), .c (.rows 111), .c (.rows 116)]
def nsE (d : D) (i : Nat) : Bool := nmB (d.el i 0).toS
def nsA (d : D) : Bool := allB d.len (nsE d)
def chB (nm : ByteArray) (k sz : Int) (f t : ByteArray) (tg : D) : Bool := nmB nm && decide (k ≥ 0) && decide (k ≤ 2) && nuB sz && nmB f && nmB t && decide ((tg.len : Int) > 0) && nsA tg
def mvE (d : D) (i : Nat) : Bool := nuB (d.el i 0).toI && nmB (d.el i 1).toS && nuB (d.el i 2).toI
def ruB (nm : ByteArray) (mv : D) : Bool := allB mv.len (mvE mv) && nmB nm
def chE (d : D) (i : Nat) : Bool := chB (d.el i 0).toS (d.el i 1).toI (d.el i 2).toI (d.el i 3).toS (d.el i 4).toS (d.el i 5)
def ruE (d : D) (i : Nat) : Bool := ruB (d.el i 0).toS (d.el i 1)
def prE (d : D) (i : Nat) : Bool := nmB (d.el i 0).toS && nsA (d.el i 1) && bA (d.el i 2)
def syB (ch ru pr : D) : Bool := allB ch.len (chE ch) && (allB ru.len (ruE ru) && allB pr.len (prE pr))
/-- No row is too long to be counted. -/
structure SyOK (ch ru pr : D) : Prop where
  c : ch.len ≤ 3000000000000
  ct : ∀ i, i < ch.len → (ch.el i 5).len ≤ 3000000000000
  r : ru.len ≤ 3000000000000
  rm : ∀ i, i < ru.len → (ru.el i 1).len ≤ 3000000000000
  p : pr.len ≤ 3000000000000
  pv : ∀ i, i < pr.len → (pr.el i 1).len ≤ 3000000000000
  pb : ∀ i, i < pr.len → sOK (pr.el i 2)
noncomputable def nsrS : FSpec := fun ds _ => match ds with
  | [.d d] => some { val := .one (.sc (.bool (.sym (nsA d)))), vc := [d.len ≤ 3000000000000] }
  | _ => none
noncomputable def nsrC : Con := con [lNs] nsrS
theorem nsr_ok : ConOK Tryd.prog 46 nsrC := by
  refine fn_ob tt_ok mixed Tryd.func46 rfl (fun _ _ => by kernel_rfl) (A := fun ds => ⟨fun _ => Cons.of [(45, nmrC)], fun k => match k, ds with | 2, [.d d] => some { ι := Nat, pre := fun _ i => i ≤ d.len ∧ ∀ j, j < i → nsE d j = true, μ := fun i => d.len - i, st := fun s i => famR s [(7, .one (.sc (.int .i64 (.sym ((i : Int))))))] [5, 6] [] [] } | _, _ => none, fun _ => none⟩) (fun _ _ => (cons_cons nmr_ok cons_nil)) (by kernel_rfl) ?_
  intro ds fr
  unfold nsrS
  split
  · rename_i d
    refine kmp (q := d.len ≤ (3000000000000 : Nat) →
 (∃ (i : Nat), (i ≤ d.len ∧ ∀ (j : Nat), j < i → nsE d j = true) ∧ (0 : Int) = (↑i : Int) ∧ d.rows = d.rows ∧ (↑d.len : Int) = (↑d.len : Int)) ∧
 ∀ (i : Nat),
 (i ≤ d.len ∧ ∀ (j : Nat), j < i → nsE d j = true) →
 (decide ((↑i : Int) < (↑d.len : Int)) = true →
 ((0 : Int) ≤ (↑i : Int) ∧ (↑i : Int) < (↑d.len : Int)) ∧
 ((!nmB (d.el (↑i : Int).toNat (0 : Nat)).toS) = true → false = nsA d) ∧
 ((!nmB (d.el (↑i : Int).toNat (0 : Nat)).toS) = false →
 ∃ (j : Nat),
 (j ≤ d.len ∧ ∀ (j_1 : Nat), j_1 < j → nsE d j_1 = true) ∧
 d.len - j < d.len - i ∧ IntKind.i64.wrap ((↑i : Int) + (1 : Int)) = (↑j : Int) ∧ d.rows = d.rows ∧ (↑d.len : Int) = (↑d.len : Int))) ∧
 (decide ((↑i : Int) < (↑d.len : Int)) = false → true = nsA d)) (by kernel_rfl) ?_
    intro hd
    have e0 : ∀ (i : Nat), ((i : Int)).toNat = i := fun i => Int.toNat_natCast i
    simp only [e0]
    unfold nsA
    refine ⟨⟨0, ⟨Nat.zero_le _, fun j hj => absurd hj (Nat.not_lt_zero j)⟩, by (repeat' apply And.intro) <;> first | trivial | rfl | (intro _ _; rfl) | (intro _ _; trivial)⟩, fun i hp => ⟨fun hl => ?_, fun hl => ?_⟩⟩
    · have hl := of_decide_eq_true hl
      have hb := hd
      have hi : i < d.len := by omega
      have hw : IntKind.i64.wrap ((i : Int) + 1) = ((i + 1 : Nat) : Int) := by rw [IntWalk.i64_in _ (by omega)]; omega
      skip
      refine ⟨⟨by omega, by omega⟩, fun hq => ?_, fun hq => ?_⟩
      · have hq : nsE d i = false := by rw [Bool.not_eq_true'] at hq; exact hq
        exact (allB_no hi hq).symm
      · have hq : nsE d i = true := by rw [Bool.not_eq_false'] at hq; exact hq
        refine ⟨i + 1, ⟨by omega, fun j hj => ?_⟩, by omega, hw, by (repeat' apply And.intro) <;> first | trivial | rfl | (intro _ _; rfl) | (intro _ _; trivial)⟩
        rcases Nat.lt_or_ge j i with h | h
        · exact hp.2 j h
        · obtain rfl : j = i := by omega
          exact hq
    · have hl := of_decide_eq_false hl
      have hall : allB d.len (nsE d) = true := allB_yes fun j hj => hp.2 j (by omega)
      exact hall.symm
  · trivial
noncomputable def chrS : FSpec := fun ds _ => match ds with
  | [.s nm, .i k, .i sz, .s f, .s t, .d tg] => some { val := .one (.sc (.bool (.sym (chB nm k sz f t tg)))), vc := [tg.len ≤ 3000000000000] }
  | _ => none
noncomputable def chrC : Con := con [lCh] chrS
theorem chr_ok : ConOK Tryd.prog 43 chrC := by
  refine fn_ob tt_ok mixed Tryd.func43 rfl (fun _ _ => by kernel_rfl) (A := fun ds => ⟨fun _ => Cons.of [(45, nmrC), (66, nurC), (46, nsrC)], fun _ => none, fun _ => none⟩) (fun _ _ => (cons_cons nmr_ok (cons_cons nur_ok (cons_cons nsr_ok cons_nil)))) (by kernel_rfl) ?_
  intro ds fr
  unfold chrS
  split
  · rename_i nm k sz f t tg
    refine kmp (q := tg.len ≤ (3000000000000 : Nat) →
 ((nmB nm && decide (k ≥ (0 : Int)) && decide (k ≤ (2 : Int)) && nuB sz && nmB f && nmB t && decide ((↑tg.len : Int) > (0 : Int))) = true ∧ True →
 tg.len ≤ (3000000000000 : Nat)) ∧
 (nmB nm && decide (k ≥ (0 : Int)) && decide (k ≤ (2 : Int)) && nuB sz && nmB f && nmB t && decide ((↑tg.len : Int) > (0 : Int)) && nsA tg) =
 chB nm k sz f t tg) (by kernel_rfl) ?_
    intro ht
    exact ⟨fun _ => ht, rfl⟩
  · trivial
noncomputable def rurS : FSpec := fun ds _ => match ds with
  | [.s nm, .d d] => some { val := .one (.sc (.bool (.sym (ruB nm d)))), vc := [d.len ≤ 3000000000000] }
  | _ => none
noncomputable def rurC : Con := con [lRu] rurS
theorem rur_ok : ConOK Tryd.prog 44 rurC := by
  refine fn_ob tt_ok mixed Tryd.func44 rfl (fun _ _ => by kernel_rfl) (A := fun ds => ⟨fun _ => Cons.of [(45, nmrC), (66, nurC)], fun k => match k, ds with | 2, [.s nm, .d d] => some { ι := Nat, pre := fun _ i => i ≤ d.len ∧ ∀ j, j < i → mvE d j = true, μ := fun i => d.len - i, st := fun s i => famR s [(8, .one (.sc (.int .i64 (.sym ((i : Int))))))] [1, 6, 7] [] [1] } | _, _ => none, fun _ => none⟩) (fun _ _ => (cons_cons nmr_ok (cons_cons nur_ok cons_nil))) (by kernel_rfl) ?_
  intro ds fr
  unfold rurS
  split
  · rename_i nm d
    refine kmp (q := d.len ≤ (3000000000000 : Nat) →
 (∃ (i : Nat),
 (i ≤ d.len ∧ ∀ (j : Nat), j < i → mvE d j = true) ∧
 (0 : Int) = (↑i : Int) ∧ d.rows = d.rows ∧ (↑d.len : Int) = (↑d.len : Int) ∧ Value.string nm = Value.string nm ∧ d.rows = d.rows) ∧
 ∀ (i : Nat),
 (i ≤ d.len ∧ ∀ (j : Nat), j < i → mvE d j = true) →
 (decide ((↑i : Int) < (↑d.len : Int)) = true →
 ((0 : Int) ≤ (↑i : Int) ∧ (↑i : Int) < (↑d.len : Int)) ∧
 ((!nuB (d.el (↑i : Int).toNat (0 : Nat)).toI || !nmB (d.el (↑i : Int).toNat ((0 : Nat) + (1 : Nat))).toS ||
 !nuB (d.el (↑i : Int).toNat ((0 : Nat) + (1 : Nat) + (1 : Nat))).toI) =
 true →
 false = ruB nm d) ∧
 ((!nuB (d.el (↑i : Int).toNat (0 : Nat)).toI || !nmB (d.el (↑i : Int).toNat ((0 : Nat) + (1 : Nat))).toS ||
 !nuB (d.el (↑i : Int).toNat ((0 : Nat) + (1 : Nat) + (1 : Nat))).toI) =
 false →
 ∃ (j : Nat),
 (j ≤ d.len ∧ ∀ (j_1 : Nat), j_1 < j → mvE d j_1 = true) ∧
 d.len - j < d.len - i ∧
 IntKind.i64.wrap ((↑i : Int) + (1 : Int)) = (↑j : Int) ∧
 d.rows = d.rows ∧ (↑d.len : Int) = (↑d.len : Int) ∧ Value.string nm = Value.string nm ∧ d.rows = d.rows)) ∧
 (decide ((↑i : Int) < (↑d.len : Int)) = false → nmB nm = ruB nm d)) (by kernel_rfl) ?_
    intro hd
    have e0 : ∀ (i : Nat), ((i : Int)).toNat = i := fun i => Int.toNat_natCast i
    simp only [Nat.zero_add, Nat.reduceAdd, e0]
    unfold ruB
    refine ⟨⟨0, ⟨Nat.zero_le _, fun j hj => absurd hj (Nat.not_lt_zero j)⟩, by (repeat' apply And.intro) <;> first | trivial | rfl | (intro _ _; rfl) | (intro _ _; trivial)⟩, fun i hp => ⟨fun hl => ?_, fun hl => ?_⟩⟩
    · have hl := of_decide_eq_true hl
      have hb := hd
      have hi : i < d.len := by omega
      have hw : IntKind.i64.wrap ((i : Int) + 1) = ((i + 1 : Nat) : Int) := by rw [IntWalk.i64_in _ (by omega)]; omega
      have er : mvE d i = !(!nuB (d.el i 0).toI || !nmB (d.el i 1).toS || !nuB (d.el i 2).toI) := by unfold mvE; simp
      refine ⟨⟨by omega, by omega⟩, fun hq => ?_, fun hq => ?_⟩
      · have hq : mvE d i = false := by rw [er, hq]; rfl
        rw [allB_no hi hq]; rfl
      · have hq : mvE d i = true := by rw [er, hq]; rfl
        refine ⟨i + 1, ⟨by omega, fun j hj => ?_⟩, by omega, hw, by (repeat' apply And.intro) <;> first | trivial | rfl | (intro _ _; rfl) | (intro _ _; trivial)⟩
        rcases Nat.lt_or_ge j i with h | h
        · exact hp.2 j h
        · obtain rfl : j = i := by omega
          exact hq
    · have hl := of_decide_eq_false hl
      have hall : allB d.len (mvE d) = true := allB_yes fun j hj => hp.2 j (by omega)
      rw [hall]; rfl
  · trivial
noncomputable def syrS : FSpec := fun ds _ => match ds with
  | [.d ch, .d ru, .d pr] => some { val := .one (.sc (.bool (.sym (syB ch ru pr)))), vc := [SyOK ch ru pr] }
  | _ => none
noncomputable def syrC : Con := con [lSy] syrS
theorem syr_ok : ConOK Tryd.prog 22 syrC := by
  refine fn_ob tt_ok mixed Tryd.func22 rfl (fun _ _ => by kernel_rfl) (A := fun ds => ⟨fun _ => Cons.of [(45, nmrC), (46, nsrC), (47, bdrC), (43, chrC), (44, rurC)], fun k => match k, ds with | 2, [.d ch, .d ru, .d pr] => some { ι := Nat, pre := fun _ i => i ≤ ch.len ∧ ∀ j, j < i → chE ch j = true, μ := fun i => ch.len - i, st := fun s i => famR s [(12, .one (.sc (.int .i64 (.sym ((i : Int))))))] [1, 10, 11] [] [1] } | 8, [.d ch, .d ru, .d pr] => some { ι := Nat, pre := fun _ i => i ≤ ru.len ∧ ∀ j, j < i → ruE ru j = true, μ := fun i => ru.len - i, st := fun s i => famR s [(23, .one (.sc (.int .i64 (.sym ((i : Int))))))] [1, 21, 22] [] [1] } | 14, [.d ch, .d ru, .d pr] => some { ι := Nat, pre := fun _ i => i ≤ pr.len ∧ ∀ j, j < i → prE pr j = true, μ := fun i => pr.len - i, st := fun s i => famR s [(34, .one (.sc (.int .i64 (.sym ((i : Int))))))] [1, 32, 33] [] [1] } | _, _ => none, fun _ => none⟩) (fun _ _ => (cons_cons nmr_ok (cons_cons nsr_ok (cons_cons bdr_ok (cons_cons chr_ok (cons_cons rur_ok cons_nil)))))) (by kernel_rfl) ?_
  intro ds fr
  unfold syrS
  split
  · rename_i ch ru pr
    refine kmp (q := SyOK ch ru pr →
 (∃ (i : Nat),
 (i ≤ ch.len ∧ ∀ (j : Nat), j < i → chE ch j = true) ∧
 (0 : Int) = (↑i : Int) ∧ ch.rows = ch.rows ∧ (↑ch.len : Int) = (↑ch.len : Int) ∧ ch.rows = ch.rows ∧ ru.rows = ru.rows ∧ pr.rows = pr.rows) ∧
 ∀ (i : Nat),
 (i ≤ ch.len ∧ ∀ (j : Nat), j < i → chE ch j = true) →
 (decide ((↑i : Int) < (↑ch.len : Int)) = true →
 ((0 : Int) ≤ (↑i : Int) ∧ (↑i : Int) < (↑ch.len : Int)) ∧
 (ch.el (↑i : Int).toNat ((0 : Nat) + (1 : Nat) + (1 : Nat) + (1 : Nat) + (1 : Nat) + (1 : Nat))).len ≤ (3000000000000 : Nat) ∧
 ((!chB (ch.el (↑i : Int).toNat (0 : Nat)).toS (ch.el (↑i : Int).toNat ((0 : Nat) + (1 : Nat))).toI
 (ch.el (↑i : Int).toNat ((0 : Nat) + (1 : Nat) + (1 : Nat))).toI
 (ch.el (↑i : Int).toNat ((0 : Nat) + (1 : Nat) + (1 : Nat) + (1 : Nat))).toS
 (ch.el (↑i : Int).toNat ((0 : Nat) + (1 : Nat) + (1 : Nat) + (1 : Nat) + (1 : Nat))).toS
 (ch.el (↑i : Int).toNat ((0 : Nat) + (1 : Nat) + (1 : Nat) + (1 : Nat) + (1 : Nat) + (1 : Nat)))) =
 true →
 false = syB ch ru pr) ∧
 ((!chB (ch.el (↑i : Int).toNat (0 : Nat)).toS (ch.el (↑i : Int).toNat ((0 : Nat) + (1 : Nat))).toI
 (ch.el (↑i : Int).toNat ((0 : Nat) + (1 : Nat) + (1 : Nat))).toI
 (ch.el (↑i : Int).toNat ((0 : Nat) + (1 : Nat) + (1 : Nat) + (1 : Nat))).toS
 (ch.el (↑i : Int).toNat ((0 : Nat) + (1 : Nat) + (1 : Nat) + (1 : Nat) + (1 : Nat))).toS
 (ch.el (↑i : Int).toNat ((0 : Nat) + (1 : Nat) + (1 : Nat) + (1 : Nat) + (1 : Nat) + (1 : Nat)))) =
 false →
 ∃ (j : Nat),
 (j ≤ ch.len ∧ ∀ (j_1 : Nat), j_1 < j → chE ch j_1 = true) ∧
 ch.len - j < ch.len - i ∧
 IntKind.i64.wrap ((↑i : Int) + (1 : Int)) = (↑j : Int) ∧
 ch.rows = ch.rows ∧ (↑ch.len : Int) = (↑ch.len : Int) ∧ ch.rows = ch.rows ∧ ru.rows = ru.rows ∧ pr.rows = pr.rows)) ∧
 (decide ((↑i : Int) < (↑ch.len : Int)) = false →
 (∃ (i : Nat),
 (i ≤ ru.len ∧ ∀ (j : Nat), j < i → ruE ru j = true) ∧
 (0 : Int) = (↑i : Int) ∧ ru.rows = ru.rows ∧ (↑ru.len : Int) = (↑ru.len : Int) ∧ ch.rows = ch.rows ∧ ru.rows = ru.rows ∧ pr.rows = pr.rows) ∧
 ∀ (i : Nat),
 (i ≤ ru.len ∧ ∀ (j : Nat), j < i → ruE ru j = true) →
 (decide ((↑i : Int) < (↑ru.len : Int)) = true →
 ((0 : Int) ≤ (↑i : Int) ∧ (↑i : Int) < (↑ru.len : Int)) ∧
 (ru.el (↑i : Int).toNat ((0 : Nat) + (1 : Nat))).len ≤ (3000000000000 : Nat) ∧
 ((!ruB (ru.el (↑i : Int).toNat (0 : Nat)).toS (ru.el (↑i : Int).toNat ((0 : Nat) + (1 : Nat)))) = true → false = syB ch ru pr) ∧
 ((!ruB (ru.el (↑i : Int).toNat (0 : Nat)).toS (ru.el (↑i : Int).toNat ((0 : Nat) + (1 : Nat)))) = false →
 ∃ (j : Nat),
 (j ≤ ru.len ∧ ∀ (j_1 : Nat), j_1 < j → ruE ru j_1 = true) ∧
 ru.len - j < ru.len - i ∧
 IntKind.i64.wrap ((↑i : Int) + (1 : Int)) = (↑j : Int) ∧
 ru.rows = ru.rows ∧ (↑ru.len : Int) = (↑ru.len : Int) ∧ ch.rows = ch.rows ∧ ru.rows = ru.rows ∧ pr.rows = pr.rows)) ∧
 (decide ((↑i : Int) < (↑ru.len : Int)) = false →
 (∃ (i : Nat),
 (i ≤ pr.len ∧ ∀ (j : Nat), j < i → prE pr j = true) ∧
 (0 : Int) = (↑i : Int) ∧
 pr.rows = pr.rows ∧ (↑pr.len : Int) = (↑pr.len : Int) ∧ ch.rows = ch.rows ∧ ru.rows = ru.rows ∧ pr.rows = pr.rows) ∧
 ∀ (i : Nat),
 (i ≤ pr.len ∧ ∀ (j : Nat), j < i → prE pr j = true) →
 (decide ((↑i : Int) < (↑pr.len : Int)) = true →
 ((0 : Int) ≤ (↑i : Int) ∧ (↑i : Int) < (↑pr.len : Int)) ∧
 ((!nmB (pr.el (↑i : Int).toNat (0 : Nat)).toS) = false ∧ True →
 (pr.el (↑i : Int).toNat ((0 : Nat) + (1 : Nat))).len ≤ (3000000000000 : Nat)) ∧
 ((!nmB (pr.el (↑i : Int).toNat (0 : Nat)).toS || !nsA (pr.el (↑i : Int).toNat ((0 : Nat) + (1 : Nat)))) = false ∧ True →
 sOK (pr.el (↑i : Int).toNat ((0 : Nat) + (1 : Nat) + (1 : Nat)))) ∧
 ((!nmB (pr.el (↑i : Int).toNat (0 : Nat)).toS || !nsA (pr.el (↑i : Int).toNat ((0 : Nat) + (1 : Nat))) ||
 !bA (pr.el (↑i : Int).toNat ((0 : Nat) + (1 : Nat) + (1 : Nat)))) =
 true →
 false = syB ch ru pr) ∧
 ((!nmB (pr.el (↑i : Int).toNat (0 : Nat)).toS || !nsA (pr.el (↑i : Int).toNat ((0 : Nat) + (1 : Nat))) ||
 !bA (pr.el (↑i : Int).toNat ((0 : Nat) + (1 : Nat) + (1 : Nat)))) =
 false →
 ∃ (j : Nat),
 (j ≤ pr.len ∧ ∀ (j_1 : Nat), j_1 < j → prE pr j_1 = true) ∧
 pr.len - j < pr.len - i ∧
 IntKind.i64.wrap ((↑i : Int) + (1 : Int)) = (↑j : Int) ∧
 pr.rows = pr.rows ∧
 (↑pr.len : Int) = (↑pr.len : Int) ∧ ch.rows = ch.rows ∧ ru.rows = ru.rows ∧ pr.rows = pr.rows)) ∧
 (decide ((↑i : Int) < (↑pr.len : Int)) = false → true = syB ch ru pr)))) (by kernel_rfl) ?_
    intro hs
    have e0 : ∀ (i : Nat), ((i : Int)).toNat = i := fun i => Int.toNat_natCast i
    simp only [Nat.zero_add, Nat.reduceAdd, e0]
    unfold syB
    refine ⟨⟨0, ⟨Nat.zero_le _, fun j hj => absurd hj (Nat.not_lt_zero j)⟩, by (repeat' apply And.intro) <;> first | trivial | rfl | (intro _ _; rfl) | (intro _ _; trivial)⟩, fun i hp => ⟨fun hl => ?_, fun hl => ?_⟩⟩
    · have hl := of_decide_eq_true hl
      have hb := hs.c
      have hi : i < ch.len := by omega
      have hw : IntKind.i64.wrap ((i : Int) + 1) = ((i + 1 : Nat) : Int) := by rw [IntWalk.i64_in _ (by omega)]; omega
      have v1 := hs.ct i hi
      refine ⟨⟨by omega, by omega⟩, v1, fun hq => ?_, fun hq => ?_⟩
      · have hq : chE ch i = false := by rw [Bool.not_eq_true'] at hq; exact hq
        rw [allB_no hi hq]; rfl
      · have hq : chE ch i = true := by rw [Bool.not_eq_false'] at hq; exact hq
        refine ⟨i + 1, ⟨by omega, fun j hj => ?_⟩, by omega, hw, by (repeat' apply And.intro) <;> first | trivial | rfl | (intro _ _; rfl) | (intro _ _; trivial)⟩
        rcases Nat.lt_or_ge j i with h | h
        · exact hp.2 j h
        · obtain rfl : j = i := by omega
          exact hq
    · have hl := of_decide_eq_false hl
      have hall : allB ch.len (chE ch) = true := allB_yes fun j hj => hp.2 j (by omega)
      have hc := hall
      refine ⟨⟨0, ⟨Nat.zero_le _, fun j hj => absurd hj (Nat.not_lt_zero j)⟩, by (repeat' apply And.intro) <;> first | trivial | rfl | (intro _ _; rfl) | (intro _ _; trivial)⟩, fun i hp => ⟨fun hl => ?_, fun hl => ?_⟩⟩
      · have hl := of_decide_eq_true hl
        have hb := hs.r
        have hi : i < ru.len := by omega
        have hw : IntKind.i64.wrap ((i : Int) + 1) = ((i + 1 : Nat) : Int) := by rw [IntWalk.i64_in _ (by omega)]; omega
        have v1 := hs.rm i hi
        refine ⟨⟨by omega, by omega⟩, v1, fun hq => ?_, fun hq => ?_⟩
        · have hq : ruE ru i = false := by rw [Bool.not_eq_true'] at hq; exact hq
          rw [hc, allB_no hi hq]; rfl
        · have hq : ruE ru i = true := by rw [Bool.not_eq_false'] at hq; exact hq
          refine ⟨i + 1, ⟨by omega, fun j hj => ?_⟩, by omega, hw, by (repeat' apply And.intro) <;> first | trivial | rfl | (intro _ _; rfl) | (intro _ _; trivial)⟩
          rcases Nat.lt_or_ge j i with h | h
          · exact hp.2 j h
          · obtain rfl : j = i := by omega
            exact hq
      · have hl := of_decide_eq_false hl
        have hall : allB ru.len (ruE ru) = true := allB_yes fun j hj => hp.2 j (by omega)
        have hr := hall
        refine ⟨⟨0, ⟨Nat.zero_le _, fun j hj => absurd hj (Nat.not_lt_zero j)⟩, by (repeat' apply And.intro) <;> first | trivial | rfl | (intro _ _; rfl) | (intro _ _; trivial)⟩, fun i hp => ⟨fun hl => ?_, fun hl => ?_⟩⟩
        · have hl := of_decide_eq_true hl
          have hb := hs.p
          have hi : i < pr.len := by omega
          have hw : IntKind.i64.wrap ((i : Int) + 1) = ((i + 1 : Nat) : Int) := by rw [IntWalk.i64_in _ (by omega)]; omega
          have er : prE pr i = !(!nmB (pr.el i 0).toS || !nsA (pr.el i 1) || !bA (pr.el i 2)) := by unfold prE; simp
          have v1 := hs.pv i hi
          have v2 := hs.pb i hi
          refine ⟨⟨by omega, by omega⟩, fun _ => v1, fun _ => v2, fun hq => ?_, fun hq => ?_⟩
          · have hq : prE pr i = false := by rw [er, hq]; rfl
            rw [hc, hr, allB_no hi hq]; rfl
          · have hq : prE pr i = true := by rw [er, hq]; rfl
            refine ⟨i + 1, ⟨by omega, fun j hj => ?_⟩, by omega, hw, by (repeat' apply And.intro) <;> first | trivial | rfl | (intro _ _; rfl) | (intro _ _; trivial)⟩
            rcases Nat.lt_or_ge j i with h | h
            · exact hp.2 j h
            · obtain rfl : j = i := by omega
              exact hq
        · have hl := of_decide_eq_false hl
          have hall : allB pr.len (prE pr) = true := allB_yes fun j hj => hp.2 j (by omega)
          rw [hall, hc, hr]; rfl
  · trivial
end Go.Proofs.YtomodncooiddaaaDoor.Sx.Z
