/-
  ast: how deep expressions are.
-/
import Derived.Test.YtomodncooiddaaaDoorLd
namespace Go.Proofs.YtomodncooiddaaaDoor.Sx.Z
open Go.RowKit
def suB (k : Int) : Bool := k == 4 || k == 5
/-- Does the kid i, of kind q, stand in ( and )? -/
def brB (k i q : Int) : Bool := if k = 3 then biB q else if k = 4 ∨ k = 5 then i == 1 && suB q else if k = 6 ∨ k = 7 ∨ k = 8 then suB q || (i == 1 && biB q) else false
def inB (b : Bool) : Int := if b = true then 1 else 0
/-- Not too deep. -/
def xNb (k dp : Int) (q : Nat → Int) (f : Nat → Int → Bool) : Bool :=
  if dp > 24 then false else if k = 3 then f 0 (dp + 1 + inB (brB 3 0 (q 0))) else if biB k = true then f 0 (dp + inB (brB k 0 (q 0))) && f 1 (dp + inB (brB k 1 (q 1))) else true
def kN (d : D) (i : Nat) (dp : Int) : Bool := if _h : i < d.len then xNb (d.el i 0).toI dp (fun j => ((d.el i 3).el j 0).toI) (fun j q => kN (d.el i 3) j q) else true
  termination_by SizeOf.sizeOf d
  decreasing_by exact lel_lt (by assumption)
def xN (k : Int) (d : D) (dp : Int) : Bool := xNb k dp (fun j => (d.el j 0).toI) (kN d)
theorem kN_eq {d : D} {i : Nat} (h : i < d.len) (dp : Int) : kN d i dp = xN (d.el i 0).toI (d.el i 3) dp := by
  rw [kN, dif_pos h]; rfl
theorem aX_kids {k n : Int} {s : ByteArray} {d : D} (h : aX k n s d = true) : (k = 3 → d.len = 1 ∧ aE d 0 = true) ∧ (biB k = true → d.len = 2 ∧ aE d 0 = true ∧ aE d 1 = true) := by
  constructor
  · rintro rfl
    have e : aX 3 n s d = ((d.len : Int) == 1 && aE d 0) := rfl
    rw [e] at h
    simp only [Bool.and_eq_true, beq_iff_eq] at h
    exact ⟨by omega, h.2⟩
  · intro hb
    rw [aX_bin hb] at h
    simp only [Bool.and_eq_true, beq_iff_eq] at h
    exact ⟨by omega, h.1.2, h.2⟩
noncomputable def isumS : FSpec := fun ds _ => match ds with
  | [.i k] => some { val := .one (.sc (.bool (.sym (suB k)))), vc := [] }
  | _ => none
noncomputable def isumC : Con := con [lI] isumS
theorem isum_ok : ConOK Tryd.prog 105 isumC := by
  refine fn_ob tt_ok mixed Tryd.func105 rfl (fun _ _ => by kernel_rfl) (A := fun ds => ⟨fun _ => Cons.of [], fun _ => none, fun _ => none⟩) (fun _ _ => cons_nil) (by kernel_rfl) ?_
  intro ds fr
  unfold isumS
  split
  · rename_i k
    refine kmp (q := (k == (4 : Int) || k == (5 : Int)) = suB k) (by kernel_rfl) ?_
    unfold suB
    cases hk : (k == 4) <;> simp
  · trivial
noncomputable def brrS : FSpec := fun ds _ => match ds with
  | [.i k, .i _n, .s _s, .d d, .i i] => some { val := .one (.sc (.bool (.sym (brB k i (d.el i.toNat 0).toI)))), vc := [0 ≤ i ∧ i < d.len] }
  | _ => none
noncomputable def brrC : Con := con [lX, lI] brrS
theorem brr_ok : ConOK Tryd.prog 99 brrC := by
  refine fn_ob tt_ok mixed Tryd.func99 rfl (fun _ _ => by kernel_rfl) (A := fun ds => ⟨fun _ => Cons.of [(88, isbinC), (105, isumC)], fun _ => none, fun _ => none⟩) (fun _ _ => (cons_cons isbin_ok (cons_cons isum_ok cons_nil))) (by kernel_rfl) ?_
  intro ds fr
  unfold brrS
  split
  · rename_i k n s d i
    refine kmp (q := (0 : Int) ≤ i ∧ i < (↑d.len : Int) →
 ((0 : Int) ≤ i ∧ i < (↑d.len : Int)) ∧
 ((k == (3 : Int)) = true → biB (d.el i.toNat ((0 : Nat) + (0 : Nat))).toI = brB k i (d.el i.toNat (0 : Nat)).toI) ∧
 ((k == (3 : Int)) = false →
 ((k == (4 : Int)) = true →
 ((k == (4 : Int)) = true → (i == (1 : Int) && suB (d.el i.toNat ((0 : Nat) + (0 : Nat))).toI) = brB k i (d.el i.toNat (0 : Nat)).toI) ∧
 ((k == (4 : Int)) = false →
 ((k == (6 : Int)) = true →
 ((k == (6 : Int)) = true →
 (suB (d.el i.toNat ((0 : Nat) + (0 : Nat))).toI || i == (1 : Int) && biB (d.el i.toNat ((0 : Nat) + (0 : Nat))).toI) =
 brB k i (d.el i.toNat (0 : Nat)).toI) ∧
 ((k == (6 : Int)) = false → false = brB k i (d.el i.toNat (0 : Nat)).toI)) ∧
 ((k == (6 : Int)) = false →
 ((k == (7 : Int)) = true →
 ((k == (7 : Int)) = true →
 (suB (d.el i.toNat ((0 : Nat) + (0 : Nat))).toI || i == (1 : Int) && biB (d.el i.toNat ((0 : Nat) + (0 : Nat))).toI) =
 brB k i (d.el i.toNat (0 : Nat)).toI) ∧
 ((k == (7 : Int)) = false → false = brB k i (d.el i.toNat (0 : Nat)).toI)) ∧
 ((k == (7 : Int)) = false →
 ((k == (8 : Int)) = true →
 (suB (d.el i.toNat ((0 : Nat) + (0 : Nat))).toI || i == (1 : Int) && biB (d.el i.toNat ((0 : Nat) + (0 : Nat))).toI) =
 brB k i (d.el i.toNat (0 : Nat)).toI) ∧
 ((k == (8 : Int)) = false → false = brB k i (d.el i.toNat (0 : Nat)).toI))))) ∧
 ((k == (4 : Int)) = false →
 ((k == (5 : Int)) = true → (i == (1 : Int) && suB (d.el i.toNat ((0 : Nat) + (0 : Nat))).toI) = brB k i (d.el i.toNat (0 : Nat)).toI) ∧
 ((k == (5 : Int)) = false →
 ((k == (6 : Int)) = true →
 ((k == (6 : Int)) = true →
 (suB (d.el i.toNat ((0 : Nat) + (0 : Nat))).toI || i == (1 : Int) && biB (d.el i.toNat ((0 : Nat) + (0 : Nat))).toI) =
 brB k i (d.el i.toNat (0 : Nat)).toI) ∧
 ((k == (6 : Int)) = false → false = brB k i (d.el i.toNat (0 : Nat)).toI)) ∧
 ((k == (6 : Int)) = false →
 ((k == (7 : Int)) = true →
 ((k == (7 : Int)) = true →
 (suB (d.el i.toNat ((0 : Nat) + (0 : Nat))).toI || i == (1 : Int) && biB (d.el i.toNat ((0 : Nat) + (0 : Nat))).toI) =
 brB k i (d.el i.toNat (0 : Nat)).toI) ∧
 ((k == (7 : Int)) = false → false = brB k i (d.el i.toNat (0 : Nat)).toI)) ∧
 ((k == (7 : Int)) = false →
 ((k == (8 : Int)) = true →
 (suB (d.el i.toNat ((0 : Nat) + (0 : Nat))).toI || i == (1 : Int) && biB (d.el i.toNat ((0 : Nat) + (0 : Nat))).toI) =
 brB k i (d.el i.toNat (0 : Nat)).toI) ∧
 ((k == (8 : Int)) = false → false = brB k i (d.el i.toNat (0 : Nat)).toI))))))) (by kernel_rfl) ?_
    intro hi
    refine ⟨hi, ?_⟩
    by_cases h3 : k = 3
    · subst h3; exact ⟨fun _ => rfl, fun h => (by cases h)⟩
    by_cases h4 : k = 4
    · subst h4; exact ⟨fun h => (by cases h), fun _ => ⟨fun _ => ⟨fun _ => rfl, fun h => (by cases h)⟩, fun h => (by cases h)⟩⟩
    by_cases h5 : k = 5
    · subst h5; exact ⟨fun h => (by cases h), fun _ => ⟨fun h => (by cases h), fun _ => ⟨fun _ => rfl, fun h => (by cases h)⟩⟩⟩
    have n3 : (k == (3 : Int)) = false := beq_false_of_ne h3
    have n4 : (k == (4 : Int)) = false := beq_false_of_ne h4
    have n5 : (k == (5 : Int)) = false := beq_false_of_ne h5
    by_cases h6 : k = 6
    · subst h6; exact ⟨fun h => (by cases h), fun _ => ⟨fun h => (by cases h), fun _ => ⟨fun h => (by cases h), fun _ => ⟨fun _ => ⟨fun _ => rfl, fun h => (by cases h)⟩, fun h => (by cases h)⟩⟩⟩⟩
    by_cases h7 : k = 7
    · subst h7; exact ⟨fun h => (by cases h), fun _ => ⟨fun h => (by cases h), fun _ => ⟨fun h => (by cases h), fun _ => ⟨fun h => (by cases h), fun _ => ⟨fun _ => ⟨fun _ => rfl, fun h => (by cases h)⟩, fun h => (by cases h)⟩⟩⟩⟩⟩
    by_cases h8 : k = 8
    · subst h8; exact ⟨fun h => (by cases h), fun _ => ⟨fun h => (by cases h), fun _ => ⟨fun h => (by cases h), fun _ => ⟨fun h => (by cases h), fun _ => ⟨fun h => (by cases h), fun _ => ⟨fun _ => rfl, fun h => (by cases h)⟩⟩⟩⟩⟩⟩
    have n6 : (k == (6 : Int)) = false := beq_false_of_ne h6
    have n7 : (k == (7 : Int)) = false := beq_false_of_ne h7
    have n8 : (k == (8 : Int)) = false := beq_false_of_ne h8
    have e : brB k i (d.el i.toNat 0).toI = false := by
      unfold brB
      rw [if_neg h3, if_neg (by omega), if_neg (by omega)]
    rw [n3, n4, n5, n6, n7, n8, e]
    simp
  · trivial
noncomputable def xdrS : FSpec := fun ds _ => match ds with
  | [.i k, .i n, .s s, .d d, .i dp] => some { val := .one (.sc (.bool (.sym (!xN k d dp)))), vc := [aX k n s d = true, 0 ≤ dp ∧ dp ≤ 30] }
  | _ => none
noncomputable def xdrC : Con := con [lX, lI] xdrS
noncomputable def xdrM : List Dat → Nat := fun ds => match ds with
  | [.i _k, .i _n, .s _s, .d d, .i _dp] => SizeOf.sizeOf d
  | _ => 0
noncomputable def xdrSu (m : Nat) : FSpec := fun ds _ => match ds with
  | [.i k, .i n, .s s, .d d, .i dp] => some { val := .one (.sc (.bool (.sym (!xN k d dp)))), vc := [SizeOf.sizeOf d < m, aX k n s d = true, 0 ≤ dp ∧ dp ≤ 30] }
  | _ => none
theorem xdr_under (m : Nat) : xdrS.under xdrM m = xdrSu m := by
  funext ds fr
  unfold FSpec.under xdrS xdrM xdrSu
  split
  · rename_i e h
    split at h
    · obtain rfl := Option.some.inj h; rfl
    · cases h
  · rename_i h
    split at h
    · cases h
    · rfl
noncomputable def kdrS (m : Nat) : FSpec := fun ds _ => match ds with
  | [.i k, .i _n, .s _s, .d d, .i i, .i dp] => some { val := .one (.sc (.bool (.sym (!kN d i.toNat (dp + inB (brB k i (d.el i.toNat 0).toI)))))), vc := [SizeOf.sizeOf d < m + 1, 0 ≤ i ∧ i < d.len, aE d i.toNat = true, 0 ≤ dp ∧ dp ≤ 29] }
  | _ => none
noncomputable def kdrC (m : Nat) : Con := con [lX, lI, lI] (kdrS m)
theorem kdr_ok {m : Nat} (ih : ConOK Tryd.prog 79 (con [lX, lI] (xdrSu m))) : ConOK Tryd.prog 89 (kdrC m) := by
  refine fn_ob tt_ok mixed Tryd.func89 rfl (fun _ _ => by kernel_rfl) (A := fun ds => ⟨fun _ => Cons.of [(99, brrC), (79, con [lX, lI] (xdrSu m))], fun _ => none, fun _ => none⟩) (fun _ _ => (cons_cons brr_ok (cons_cons ih cons_nil))) (by kernel_rfl) ?_
  intro ds fr
  unfold kdrS
  split
  · rename_i k n s d i dp
    refine kmp (q := SizeOf.sizeOf d < m + (1 : Nat) →
 (0 : Int) ≤ i ∧ i < (↑d.len : Int) →
 aE d i.toNat = true →
 (0 : Int) ≤ dp ∧ dp ≤ (29 : Int) →
 ((0 : Int) ≤ i ∧ i < (↑d.len : Int)) ∧
 (brB k i (d.el i.toNat (0 : Nat)).toI = true →
 ((0 : Int) ≤ i ∧ i < (↑d.len : Int)) ∧
 SizeOf.sizeOf (d.el i.toNat ((0 : Nat) + (1 : Nat) + (1 : Nat) + (1 : Nat))) < m ∧
 aX (d.el i.toNat (0 : Nat)).toI (d.el i.toNat ((0 : Nat) + (1 : Nat))).toI (d.el i.toNat ((0 : Nat) + (1 : Nat) + (1 : Nat))).toS
 (d.el i.toNat ((0 : Nat) + (1 : Nat) + (1 : Nat) + (1 : Nat))) =
 true ∧
 ((0 : Int) ≤ IntKind.i64.wrap (dp + (1 : Int)) ∧ IntKind.i64.wrap (dp + (1 : Int)) ≤ (30 : Int)) ∧
 (!xN (d.el i.toNat (0 : Nat)).toI (d.el i.toNat ((0 : Nat) + (1 : Nat) + (1 : Nat) + (1 : Nat))) (IntKind.i64.wrap (dp + (1 : Int)))) =
 !kN d i.toNat (dp + inB (brB k i (d.el i.toNat (0 : Nat)).toI))) ∧
 (brB k i (d.el i.toNat (0 : Nat)).toI = false →
 ((0 : Int) ≤ i ∧ i < (↑d.len : Int)) ∧
 SizeOf.sizeOf (d.el i.toNat ((0 : Nat) + (1 : Nat) + (1 : Nat) + (1 : Nat))) < m ∧
 aX (d.el i.toNat (0 : Nat)).toI (d.el i.toNat ((0 : Nat) + (1 : Nat))).toI (d.el i.toNat ((0 : Nat) + (1 : Nat) + (1 : Nat))).toS
 (d.el i.toNat ((0 : Nat) + (1 : Nat) + (1 : Nat) + (1 : Nat))) =
 true ∧
 ((0 : Int) ≤ dp ∧ dp ≤ (30 : Int)) ∧
 (!xN (d.el i.toNat (0 : Nat)).toI (d.el i.toNat ((0 : Nat) + (1 : Nat) + (1 : Nat) + (1 : Nat))) dp) =
 !kN d i.toNat (dp + inB (brB k i (d.el i.toNat (0 : Nat)).toI)))) (by kernel_rfl) ?_
    intro hm hi ha hd
    have hl : i.toNat < d.len := by omega
    have z := lel_lt (j := 3) hl
    have ha' := ha
    rw [aE_eq hl] at ha'
    refine ⟨hi, fun hb => ⟨hi, by simp only [Nat.reduceAdd, Nat.zero_add]; omega, ha', ?_, ?_⟩, fun hb => ⟨hi, by simp only [Nat.reduceAdd, Nat.zero_add]; omega, ha', by omega, ?_⟩⟩
    · rw [IntWalk.i64_in _ (by omega)]; omega
    · rw [IntWalk.i64_in _ (by omega), kN_eq hl, hb]; rfl
    · rw [kN_eq hl, hb]
      show _ = !xN _ _ (dp + 0)
      rw [Int.add_zero]
  · trivial
theorem xdr_step (m : Nat) (ih : ConOK Tryd.prog 79 (con [lX, lI] (xdrSu m))) : ConOK Tryd.prog 79 (con [lX, lI] (xdrSu (m + 1))) := by
  refine fn_ob tt_ok mixed Tryd.func79 rfl (fun _ _ => by kernel_rfl) (A := fun ds => ⟨fun _ => Cons.of [(88, isbinC), (89, (kdrC m))], fun _ => none, fun _ => none⟩) (fun _ _ => (cons_cons isbin_ok (cons_cons (kdr_ok ih) cons_nil))) (by kernel_rfl) ?_
  intro ds fr
  unfold xdrSu
  split
  · rename_i k n s d dp
    refine kmp (q := SizeOf.sizeOf d < m + (1 : Nat) →
 aX k n s d = true →
 (0 : Int) ≤ dp ∧ dp ≤ (30 : Int) →
 (decide (dp > (24 : Int)) = true → true = !xN k d dp) ∧
 (decide (dp > (24 : Int)) = false →
 ((k == (3 : Int)) = true →
 SizeOf.sizeOf d < m + (1 : Nat) ∧
 ((0 : Int) ≤ (0 : Int) ∧ (0 : Int) < (↑d.len : Int)) ∧
 aE d (Int.toNat (0 : Int)) = true ∧
 ((0 : Int) ≤ IntKind.i64.wrap (dp + (1 : Int)) ∧ IntKind.i64.wrap (dp + (1 : Int)) ≤ (29 : Int)) ∧
 (!kN d (Int.toNat (0 : Int)) (IntKind.i64.wrap (dp + (1 : Int)) + inB (brB k (0 : Int) (d.el (Int.toNat (0 : Int)) (0 : Nat)).toI))) =
 !xN k d dp) ∧
 ((k == (3 : Int)) = false →
 (biB k = true →
 SizeOf.sizeOf d < m + (1 : Nat) ∧
 ((0 : Int) ≤ (0 : Int) ∧ (0 : Int) < (↑d.len : Int)) ∧
 aE d (Int.toNat (0 : Int)) = true ∧
 ((0 : Int) ≤ dp ∧ dp ≤ (29 : Int)) ∧
 ((!kN d (Int.toNat (0 : Int)) (dp + inB (brB k (0 : Int) (d.el (Int.toNat (0 : Int)) (0 : Nat)).toI))) = false ∧ True →
 SizeOf.sizeOf d < m + (1 : Nat)) ∧
 ((!kN d (Int.toNat (0 : Int)) (dp + inB (brB k (0 : Int) (d.el (Int.toNat (0 : Int)) (0 : Nat)).toI))) = false ∧ True →
 (0 : Int) ≤ (1 : Int) ∧ (1 : Int) < (↑d.len : Int)) ∧
 ((!kN d (Int.toNat (0 : Int)) (dp + inB (brB k (0 : Int) (d.el (Int.toNat (0 : Int)) (0 : Nat)).toI))) = false ∧ True →
 aE d (Int.toNat (1 : Int)) = true) ∧
 ((!kN d (Int.toNat (0 : Int)) (dp + inB (brB k (0 : Int) (d.el (Int.toNat (0 : Int)) (0 : Nat)).toI))) = false ∧ True →
 (0 : Int) ≤ dp ∧ dp ≤ (29 : Int)) ∧
 (!kN d (Int.toNat (0 : Int)) (dp + inB (brB k (0 : Int) (d.el (Int.toNat (0 : Int)) (0 : Nat)).toI)) ||
 !kN d (Int.toNat (1 : Int)) (dp + inB (brB k (1 : Int) (d.el (Int.toNat (1 : Int)) (0 : Nat)).toI))) =
 !xN k d dp) ∧
 (biB k = false → false = !xN k d dp)))) (by kernel_rfl) ?_
    intro hm ha hd
    have hk := aX_kids ha
    refine ⟨fun h => ?_, fun h => ?_⟩
    · have h := of_decide_eq_true h
      unfold xN xNb
      rw [if_pos h]; rfl
    · have h := of_decide_eq_false h
      have hw : IntKind.i64.wrap (dp + 1) = dp + 1 := IntWalk.i64_in _ (by omega)
      rw [hw]
      refine ⟨fun h3 => ?_, fun h3 => ⟨fun hb => ?_, fun hb => ?_⟩⟩
      · obtain rfl := eq_of_beq h3
        have k1 := hk.1 rfl
        refine ⟨hm, by omega, k1.2, by omega, ?_⟩
        unfold xN xNb
        rw [if_neg h, if_pos rfl]; rfl
      · have k2 := hk.2 hb
        refine ⟨hm, by omega, k2.2.1, by omega, fun _ => hm, fun _ => by omega, fun _ => k2.2.2, fun _ => by omega, ?_⟩
        unfold xN xNb
        rw [if_neg h, if_neg (ne_of_beq_false h3), if_pos hb, Bool.not_and]; rfl
      · unfold xN xNb
        rw [if_neg h, if_neg (ne_of_beq_false h3), if_neg (by rw [hb]; decide)]; rfl
  · trivial
theorem xdr_ok : ConOK Tryd.prog 79 xdrC :=
  con_rec xdrM (fun _ _ => by kernel_rfl) fun m ih => by
    rw [xdr_under] at ih ⊢
    exact xdr_step m ih
end Go.Proofs.YtomodncooiddaaaDoor.Sx.Z
