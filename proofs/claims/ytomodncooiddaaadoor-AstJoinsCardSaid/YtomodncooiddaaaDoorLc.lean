/-
  ast: what right statements are.
-/
import Derived.Test.YtomodncooiddaaaDoorLb
namespace Go.Proofs.YtomodncooiddaaaDoor.Sx.Z
open Go.RowKit
def lBo : AP := .sc (.rows 156)
def lAm : AP := .sc (.rows 158)
def allB (n : Nat) (f : Nat → Bool) : Bool := (List.range n).all f
theorem allB_iff {n : Nat} {f : Nat → Bool} : allB n f = true ↔ ∀ i, i < n → f i = true := by
  unfold allB
  rw [List.all_eq_true]
  exact ⟨fun h i hi => h i (List.mem_range.2 hi), fun h i hi => h i (List.mem_range.1 hi)⟩
theorem allB_yes {n : Nat} {f : Nat → Bool} (h : ∀ i, i < n → f i = true) : allB n f = true := allB_iff.2 h
theorem allB_no {n i : Nat} {f : Nat → Bool} (hi : i < n) (h : f i = false) : allB n f = false := by
  cases hc : allB n f with
  | false => rfl
  | true => rw [allB_iff.1 hc i hi] at h; cases h
theorem allF_eq {n : Nat} (f : Nat → Bool) : ((List.finRange n).all fun i => f i.1) = allB n f := by
  have h1 : ((List.finRange n).all fun i => f i.1) = true ↔ allB n f = true := by
    rw [allB_iff, List.all_eq_true]
    exact ⟨fun h i hi => h ⟨i, hi⟩ (List.mem_finRange _), fun h i _ => h i.1 i.2⟩
  cases hc : allB n f with
  | true => exact h1.2 hc
  | false =>
    cases hd : ((List.finRange n).all fun i => f i.1) with
    | false => rfl
    | true => rw [h1.1 hd] at hc; cases hc
def aC (op lk ln : Int) (ls : ByteArray) (ld : D) (rk rn : Int) (rs : ByteArray) (rd : D) : Bool := decide (op ≥ 1) && decide (op ≤ 6) && aX lk ln ls ld && aX rk rn rs rd
/-- A statement, of whose parts it is known whether they are right. -/
def aStF (k : Int) (nm tg : ByteArray) (e c b el : Bool) (al : Int) (a : Bool) : Bool :=
  if k = 1 then nmB nm && e else if k = 2 then c && b && el else if k = 3 then c && b else if k = 4 then nmB nm && nmB tg && e else if k = 5 then nmB nm && decide (al > 0) && a else if k = 6 then c else if k = 7 then nmB nm else false
def bA (d : D) : Bool := (List.finRange d.len).all fun (i : Fin d.len) => aStF (d.el i 0).toI (d.el i 1).toS (d.el i 2).toS (aX (d.el i 3).toI (d.el i 4).toI (d.el i 5).toS (d.el i 6)) (aC (d.el i 7).toI (d.el i 8).toI (d.el i 9).toI (d.el i 10).toS (d.el i 11) (d.el i 12).toI (d.el i 13).toI (d.el i 14).toS (d.el i 15)) (bA (d.el i 16)) (bA (d.el i 17)) (d.el i 18).len
    ((List.finRange (d.el i 18).len).all fun (j : Fin (d.el i 18).len) => nmB ((d.el i 18).el j 0).toS && nmB ((d.el i 18).el j 1).toS && bA ((d.el i 18).el j 2))
  termination_by SizeOf.sizeOf d
  decreasing_by
    · exact lel_lt i.isLt
    · exact lel_lt i.isLt
    · exact Nat.lt_trans (lel_lt j.isLt) (lel_lt i.isLt)
def arE (am : D) (j : Nat) : Bool := nmB (am.el j 0).toS && nmB (am.el j 1).toS && bA (am.el j 2)
def amA (am : D) : Bool := allB am.len (arE am)
def stA (k : Int) (nm tg : ByteArray) (ek en : Int) (es : ByteArray) (ed : D) (op lk ln : Int) (ls : ByteArray) (ld : D) (rk rn : Int) (rs : ByteArray) (rd bd eb am : D) : Bool :=
  aStF k nm tg (aX ek en es ed) (aC op lk ln ls ld rk rn rs rd) (bA bd) (bA eb) am.len (amA am)
def stE (d : D) (i : Nat) : Bool := stA (d.el i 0).toI (d.el i 1).toS (d.el i 2).toS (d.el i 3).toI (d.el i 4).toI (d.el i 5).toS (d.el i 6) (d.el i 7).toI (d.el i 8).toI (d.el i 9).toI (d.el i 10).toS (d.el i 11) (d.el i 12).toI (d.el i 13).toI (d.el i 14).toS (d.el i 15) (d.el i 16) (d.el i 17) (d.el i 18)
theorem bA_eq (d : D) : bA d = allB d.len (stE d) := by
  rw [bA, ← allF_eq]
  congr 1
  funext i
  unfold stE stA amA
  rw [← allF_eq]
  rfl
/-- No row is too long to be counted. -/
def sOK (d : D) : Prop := d.len ≤ 3000000000000 ∧ ∀ i : Fin d.len, sOK (d.el i 16) ∧ sOK (d.el i 17) ∧ (d.el i 18).len ≤ 3000000000000 ∧ ∀ j : Fin (d.el i 18).len, sOK ((d.el i 18).el j 2)
  termination_by SizeOf.sizeOf d
  decreasing_by
    · exact lel_lt i.isLt
    · exact lel_lt i.isLt
    · exact Nat.lt_trans (lel_lt j.isLt) (lel_lt i.isLt)
def amOK (am : D) : Prop := am.len ≤ 3000000000000 ∧ ∀ j, j < am.len → sOK (am.el j 2)
theorem sOK_iff (d : D) : sOK d ↔ d.len ≤ 3000000000000 ∧ ∀ i, i < d.len → sOK (d.el i 16) ∧ sOK (d.el i 17) ∧ amOK (d.el i 18) := by
  rw [sOK]
  constructor
  · rintro ⟨h, k⟩
    refine ⟨h, fun i hi => ?_⟩
    obtain ⟨a, b, c, e⟩ := k ⟨i, hi⟩
    exact ⟨a, b, c, fun j hj => e ⟨j, hj⟩⟩
  · rintro ⟨h, k⟩
    refine ⟨h, fun i => ?_⟩
    obtain ⟨a, b, c, e⟩ := k i.1 i.2
    exact ⟨a, b, c, fun j => e j.1 j.2⟩
noncomputable def acrS : FSpec := fun ds _ => match ds with
  | [.i op, .i lk, .i ln, .s ls, .d ld, .i rk, .i rn, .s rs, .d rd] => some { val := .one (.sc (.bool (.sym (aC op lk ln ls ld rk rn rs rd)))), vc := [] }
  | _ => none
noncomputable def acrC : Con := con [lCo] acrS
theorem acr_ok : ConOK Tryd.prog 77 acrC := by
  refine fn_ob tt_ok mixed Tryd.func77 rfl (fun _ _ => by kernel_rfl) (A := fun ds => ⟨fun _ => Cons.of [(76, axrC)], fun _ => none, fun _ => none⟩) (fun _ _ => (cons_cons axr_ok cons_nil)) (by kernel_rfl) ?_
  intro ds fr
  unfold acrS
  split
  · rename_i op lk ln ls ld rk rn rs rd
    refine kmp (q := (decide (op ≥ (1 : Int)) && decide (op ≤ (6 : Int)) && aX lk ln ls ld && aX rk rn rs rd) = aC op lk ln ls ld rk rn rs rd) (by kernel_rfl) ?_
    exact rfl
  · trivial
noncomputable def bdrS : FSpec := fun ds _ => match ds with
  | [.d d] => some { val := .one (.sc (.bool (.sym (bA d)))), vc := [sOK d] }
  | _ => none
noncomputable def bdrC : Con := con [lBo] bdrS
noncomputable def bdrM : List Dat → Nat := fun ds => match ds with
  | [.d d] => SizeOf.sizeOf d
  | _ => 0
noncomputable def bdrSu (m : Nat) : FSpec := fun ds _ => match ds with
  | [.d d] => some { val := .one (.sc (.bool (.sym (bA d)))), vc := [SizeOf.sizeOf d < m, sOK d] }
  | _ => none
theorem bdr_under (m : Nat) : bdrS.under bdrM m = bdrSu m := by
  funext ds fr
  unfold FSpec.under bdrS bdrM bdrSu
  split
  · rename_i e h
    split at h
    · obtain rfl := Option.some.inj h; rfl
    · cases h
  · rename_i h
    split at h
    · cases h
    · rfl
noncomputable def amrS (m : Nat) : FSpec := fun ds _ => match ds with
  | [.d d] => some { val := .one (.sc (.bool (.sym (amA d)))), vc := [SizeOf.sizeOf d < m, amOK d] }
  | _ => none
noncomputable def amrC (m : Nat) : Con := con [lAm] (amrS m)
theorem amr_ok {m : Nat} (ih : ConOK Tryd.prog 47 (con [lBo] (bdrSu m))) : ConOK Tryd.prog 78 (amrC m) := by
  refine fn_ob tt_ok mixed Tryd.func78 rfl (fun _ _ => by kernel_rfl) (A := fun ds => ⟨fun _ => Cons.of [(45, nmrC), (47, con [lBo] (bdrSu m))], fun k => match k, ds with | 2, [.d d] => some { ι := Nat, pre := fun _ i => i ≤ d.len ∧ ∀ j, j < i → arE d j = true, μ := fun i => d.len - i, st := fun s i => famR s [(7, .one (.sc (.int .i64 (.sym ((i : Int))))))] [5, 6] [] [] } | _, _ => none, fun _ => none⟩) (fun _ _ => (cons_cons nmr_ok (cons_cons ih cons_nil))) (by kernel_rfl) ?_
  intro ds fr
  unfold amrS
  split
  · rename_i d
    refine kmp (q := SizeOf.sizeOf d < m →
 amOK d →
 (∃ (i : Nat), (i ≤ d.len ∧ ∀ (j : Nat), j < i → arE d j = true) ∧ (0 : Int) = (↑i : Int) ∧ d.rows = d.rows ∧ (↑d.len : Int) = (↑d.len : Int)) ∧
 ∀ (i : Nat),
 (i ≤ d.len ∧ ∀ (j : Nat), j < i → arE d j = true) →
 (decide ((↑i : Int) < (↑d.len : Int)) = true →
 ((0 : Int) ≤ (↑i : Int) ∧ (↑i : Int) < (↑d.len : Int)) ∧
 ((!nmB (d.el (↑i : Int).toNat (0 : Nat)).toS || !nmB (d.el (↑i : Int).toNat ((0 : Nat) + (1 : Nat))).toS) = false ∧ True →
 SizeOf.sizeOf (d.el (↑i : Int).toNat ((0 : Nat) + (1 : Nat) + (1 : Nat))) < m) ∧
 ((!nmB (d.el (↑i : Int).toNat (0 : Nat)).toS || !nmB (d.el (↑i : Int).toNat ((0 : Nat) + (1 : Nat))).toS) = false ∧ True →
 sOK (d.el (↑i : Int).toNat ((0 : Nat) + (1 : Nat) + (1 : Nat)))) ∧
 ((!nmB (d.el (↑i : Int).toNat (0 : Nat)).toS || !nmB (d.el (↑i : Int).toNat ((0 : Nat) + (1 : Nat))).toS ||
 !bA (d.el (↑i : Int).toNat ((0 : Nat) + (1 : Nat) + (1 : Nat)))) =
 true →
 false = amA d) ∧
 ((!nmB (d.el (↑i : Int).toNat (0 : Nat)).toS || !nmB (d.el (↑i : Int).toNat ((0 : Nat) + (1 : Nat))).toS ||
 !bA (d.el (↑i : Int).toNat ((0 : Nat) + (1 : Nat) + (1 : Nat)))) =
 false →
 ∃ (j : Nat),
 (j ≤ d.len ∧ ∀ (j_1 : Nat), j_1 < j → arE d j_1 = true) ∧
 d.len - j < d.len - i ∧
 IntKind.i64.wrap ((↑i : Int) + (1 : Int)) = (↑j : Int) ∧ d.rows = d.rows ∧ (↑d.len : Int) = (↑d.len : Int))) ∧
 (decide ((↑i : Int) < (↑d.len : Int)) = false → true = amA d)) (by kernel_rfl) ?_
    intro hm hs
    have e0 : ∀ (i : Nat), ((i : Int)).toNat = i := fun i => Int.toNat_natCast i
    simp only [Nat.zero_add, Nat.reduceAdd, e0]
    have hb := hs.1
    unfold amA
    refine ⟨⟨0, ⟨Nat.zero_le _, fun j hj => absurd hj (Nat.not_lt_zero j)⟩, rfl, trivial, trivial⟩, fun i hp => ⟨fun hl => ?_, fun hl => ?_⟩⟩
    · have hl := of_decide_eq_true hl
      have hi : i < d.len := by omega
      have hw : IntKind.i64.wrap ((i : Int) + 1) = ((i + 1 : Nat) : Int) := by rw [IntWalk.i64_in _ (by omega)]; omega
      have z1 := lel_lt (j := 2) hi
      have s1 := hs.2 i hi
      have er : arE d i = !(!nmB (d.el i 0).toS || !nmB (d.el i 1).toS || !bA (d.el i 2)) := by unfold arE; simp
      refine ⟨⟨by omega, by omega⟩, fun _ => by omega, fun _ => s1, fun hq => ?_, fun hq => ?_⟩
      · have hq : arE d i = false := by rw [er, hq]; rfl
        exact (allB_no hi hq).symm
      · have hq : arE d i = true := by rw [er, hq]; rfl
        refine ⟨i + 1, ⟨by omega, fun j hj => ?_⟩, by omega, hw, trivial, trivial⟩
        rcases Nat.lt_or_ge j i with h | h
        · exact hp.2 j h
        · obtain rfl : j = i := by omega
          exact hq
    · have hl := of_decide_eq_false hl
      exact (allB_yes fun j hj => hp.2 j (by omega)).symm
  · trivial
noncomputable def strS (m : Nat) : FSpec := fun ds _ => match ds with
  | [.i k, .s nm, .s tg, .i ek, .i en, .s es, .d ed, .i op, .i lk, .i ln, .s ls, .d ld, .i rk, .i rn, .s rs, .d rd, .d bd, .d eb, .d am] => some { val := .one (.sc (.bool (.sym (stA k nm tg ek en es ed op lk ln ls ld rk rn rs rd bd eb am)))), vc := [SizeOf.sizeOf bd < m, SizeOf.sizeOf eb < m, SizeOf.sizeOf am < m, sOK bd, sOK eb, amOK am] }
  | _ => none
noncomputable def strC (m : Nat) : Con := con [lSt] (strS m)
theorem str_ok {m : Nat} (ih : ConOK Tryd.prog 47 (con [lBo] (bdrSu m))) : ConOK Tryd.prog 67 (strC m) := by
  refine fn_ob tt_ok mixed Tryd.func67 rfl (fun _ _ => by kernel_rfl) (A := fun ds => ⟨fun _ => Cons.of [(45, nmrC), (76, axrC), (77, acrC), (78, (amrC m)), (47, con [lBo] (bdrSu m))], fun _ => none, fun _ => none⟩) (fun _ _ => (cons_cons nmr_ok (cons_cons axr_ok (cons_cons acr_ok (cons_cons (amr_ok ih) (cons_cons ih cons_nil)))))) (by kernel_rfl) ?_
  intro ds fr
  unfold strS
  split
  · rename_i k nm tg ek en es ed op lk ln ls ld rk rn rs rd bd eb am
    refine kmp (q := SizeOf.sizeOf bd < m →
 SizeOf.sizeOf eb < m →
 SizeOf.sizeOf am < m →
 sOK bd →
 sOK eb →
 amOK am →
 ((k == (1 : Int)) = true → (nmB nm && aX ek en es ed) = stA k nm tg ek en es ed op lk ln ls ld rk rn rs rd bd eb am) ∧
 ((k == (1 : Int)) = false →
 ((k == (2 : Int)) = true →
 (aC op lk ln ls ld rk rn rs rd = true ∧ True → SizeOf.sizeOf bd < m) ∧
 (aC op lk ln ls ld rk rn rs rd = true ∧ True → sOK bd) ∧
 ((aC op lk ln ls ld rk rn rs rd && bA bd) = true ∧ True → SizeOf.sizeOf eb < m) ∧
 ((aC op lk ln ls ld rk rn rs rd && bA bd) = true ∧ True → sOK eb) ∧
 (aC op lk ln ls ld rk rn rs rd && bA bd && bA eb) = stA k nm tg ek en es ed op lk ln ls ld rk rn rs rd bd eb am) ∧
 ((k == (2 : Int)) = false →
 ((k == (3 : Int)) = true →
 (aC op lk ln ls ld rk rn rs rd = true ∧ True → SizeOf.sizeOf bd < m) ∧
 (aC op lk ln ls ld rk rn rs rd = true ∧ True → sOK bd) ∧
 (aC op lk ln ls ld rk rn rs rd && bA bd) = stA k nm tg ek en es ed op lk ln ls ld rk rn rs rd bd eb am) ∧
 ((k == (3 : Int)) = false →
 ((k == (4 : Int)) = true → (nmB nm && nmB tg && aX ek en es ed) = stA k nm tg ek en es ed op lk ln ls ld rk rn rs rd bd eb am) ∧
 ((k == (4 : Int)) = false →
 ((k == (5 : Int)) = true →
 ((nmB nm && decide ((↑am.len : Int) > (0 : Int))) = true ∧ True → SizeOf.sizeOf am < m) ∧
 ((nmB nm && decide ((↑am.len : Int) > (0 : Int))) = true ∧ True → amOK am) ∧
 (nmB nm && decide ((↑am.len : Int) > (0 : Int)) && amA am) = stA k nm tg ek en es ed op lk ln ls ld rk rn rs rd bd eb am) ∧
 ((k == (5 : Int)) = false →
 ((k == (6 : Int)) = true → aC op lk ln ls ld rk rn rs rd = stA k nm tg ek en es ed op lk ln ls ld rk rn rs rd bd eb am) ∧
 ((k == (6 : Int)) = false →
 ((k == (7 : Int)) = true → nmB nm = stA k nm tg ek en es ed op lk ln ls ld rk rn rs rd bd eb am) ∧
 ((k == (7 : Int)) = false → false = stA k nm tg ek en es ed op lk ln ls ld rk rn rs rd bd eb am)))))))) (by kernel_rfl) ?_
    intro h1 h2 h3 h4 h5 h6
    refine ⟨fun h => ?_, fun n1 => ⟨fun h => ⟨fun _ => h1, fun _ => h4, fun _ => h2, fun _ => h5, ?_⟩, fun n2 => ⟨fun h => ⟨fun _ => h1, fun _ => h4, ?_⟩, fun n3 => ⟨fun h => ?_, fun n4 => ⟨fun h => ⟨fun _ => h3, fun _ => h6, ?_⟩, fun n5 => ⟨fun h => ?_, fun n6 => ⟨fun h => ?_, fun n7 => ?_⟩⟩⟩⟩⟩⟩⟩
    iterate 7 (obtain rfl := eq_of_beq h; rfl)
    unfold stA aStF
    rw [if_neg (ne_of_beq_false n1), if_neg (ne_of_beq_false n2), if_neg (ne_of_beq_false n3), if_neg (ne_of_beq_false n4), if_neg (ne_of_beq_false n5), if_neg (ne_of_beq_false n6), if_neg (ne_of_beq_false n7)]
  · trivial
theorem bdr_step (m : Nat) (ih : ConOK Tryd.prog 47 (con [lBo] (bdrSu m))) : ConOK Tryd.prog 47 (con [lBo] (bdrSu (m + 1))) := by
  refine fn_ob tt_ok mixed Tryd.func47 rfl (fun _ _ => by kernel_rfl) (A := fun ds => ⟨fun _ => Cons.of [(67, (strC m))], fun k => match k, ds with | 2, [.d d] => some { ι := Nat, pre := fun _ i => i ≤ d.len ∧ ∀ j, j < i → stE d j = true, μ := fun i => d.len - i, st := fun s i => famR s [(7, .one (.sc (.int .i64 (.sym ((i : Int))))))] [5, 6] [] [] } | _, _ => none, fun _ => none⟩) (fun _ _ => (cons_cons (str_ok ih) cons_nil)) (by kernel_rfl) ?_
  intro ds fr
  unfold bdrSu
  split
  · rename_i d
    refine kmp (q := SizeOf.sizeOf d < m + (1 : Nat) →
 sOK d →
 (∃ (i : Nat), (i ≤ d.len ∧ ∀ (j : Nat), j < i → stE d j = true) ∧ (0 : Int) = (↑i : Int) ∧ d.rows = d.rows ∧ (↑d.len : Int) = (↑d.len : Int)) ∧
 ∀ (i : Nat),
 (i ≤ d.len ∧ ∀ (j : Nat), j < i → stE d j = true) →
 (decide ((↑i : Int) < (↑d.len : Int)) = true →
 ((0 : Int) ≤ (↑i : Int) ∧ (↑i : Int) < (↑d.len : Int)) ∧
 SizeOf.sizeOf
 (d.el (↑i : Int).toNat
 ((0 : Nat) + (1 : Nat) + (1 : Nat) + (1 : Nat) + (1 : Nat) + (1 : Nat) + (1 : Nat) + (1 : Nat) + (1 : Nat) + (1 : Nat) + (1 : Nat) +
 (1 : Nat) +
 (1 : Nat) +
 (1 : Nat) +
 (1 : Nat) +
 (1 : Nat) +
 (1 : Nat))) <
 m ∧
 SizeOf.sizeOf
 (d.el (↑i : Int).toNat
 ((0 : Nat) + (1 : Nat) + (1 : Nat) + (1 : Nat) + (1 : Nat) + (1 : Nat) + (1 : Nat) + (1 : Nat) + (1 : Nat) + (1 : Nat) + (1 : Nat) +
 (1 : Nat) +
 (1 : Nat) +
 (1 : Nat) +
 (1 : Nat) +
 (1 : Nat) +
 (1 : Nat) +
 (1 : Nat))) <
 m ∧
 SizeOf.sizeOf
 (d.el (↑i : Int).toNat
 ((0 : Nat) + (1 : Nat) + (1 : Nat) + (1 : Nat) + (1 : Nat) + (1 : Nat) + (1 : Nat) + (1 : Nat) + (1 : Nat) + (1 : Nat) + (1 : Nat) +
 (1 : Nat) +
 (1 : Nat) +
 (1 : Nat) +
 (1 : Nat) +
 (1 : Nat) +
 (1 : Nat) +
 (1 : Nat) +
 (1 : Nat))) <
 m ∧
 sOK
 (d.el (↑i : Int).toNat
 ((0 : Nat) + (1 : Nat) + (1 : Nat) + (1 : Nat) + (1 : Nat) + (1 : Nat) + (1 : Nat) + (1 : Nat) + (1 : Nat) + (1 : Nat) + (1 : Nat) +
 (1 : Nat) +
 (1 : Nat) +
 (1 : Nat) +
 (1 : Nat) +
 (1 : Nat) +
 (1 : Nat))) ∧
 sOK
 (d.el (↑i : Int).toNat
 ((0 : Nat) + (1 : Nat) + (1 : Nat) + (1 : Nat) + (1 : Nat) + (1 : Nat) + (1 : Nat) + (1 : Nat) + (1 : Nat) + (1 : Nat) +
 (1 : Nat) +
 (1 : Nat) +
 (1 : Nat) +
 (1 : Nat) +
 (1 : Nat) +
 (1 : Nat) +
 (1 : Nat) +
 (1 : Nat))) ∧
 amOK
 (d.el (↑i : Int).toNat
 ((0 : Nat) + (1 : Nat) + (1 : Nat) + (1 : Nat) + (1 : Nat) + (1 : Nat) + (1 : Nat) + (1 : Nat) + (1 : Nat) + (1 : Nat) +
 (1 : Nat) +
 (1 : Nat) +
 (1 : Nat) +
 (1 : Nat) +
 (1 : Nat) +
 (1 : Nat) +
 (1 : Nat) +
 (1 : Nat) +
 (1 : Nat))) ∧
 ((!stA (d.el (↑i : Int).toNat (0 : Nat)).toI (d.el (↑i : Int).toNat ((0 : Nat) + (1 : Nat))).toS
 (d.el (↑i : Int).toNat ((0 : Nat) + (1 : Nat) + (1 : Nat))).toS
 (d.el (↑i : Int).toNat ((0 : Nat) + (1 : Nat) + (1 : Nat) + (1 : Nat))).toI
 (d.el (↑i : Int).toNat ((0 : Nat) + (1 : Nat) + (1 : Nat) + (1 : Nat) + (1 : Nat))).toI
 (d.el (↑i : Int).toNat ((0 : Nat) + (1 : Nat) + (1 : Nat) + (1 : Nat) + (1 : Nat) + (1 : Nat))).toS
 (d.el (↑i : Int).toNat ((0 : Nat) + (1 : Nat) + (1 : Nat) + (1 : Nat) + (1 : Nat) + (1 : Nat) + (1 : Nat)))
 (d.el (↑i : Int).toNat
 ((0 : Nat) + (1 : Nat) + (1 : Nat) + (1 : Nat) + (1 : Nat) + (1 : Nat) + (1 : Nat) + (1 : Nat))).toI
 (d.el (↑i : Int).toNat
 ((0 : Nat) + (1 : Nat) + (1 : Nat) + (1 : Nat) + (1 : Nat) + (1 : Nat) + (1 : Nat) + (1 : Nat) + (1 : Nat))).toI
 (d.el (↑i : Int).toNat
 ((0 : Nat) + (1 : Nat) + (1 : Nat) + (1 : Nat) + (1 : Nat) + (1 : Nat) + (1 : Nat) + (1 : Nat) + (1 : Nat) +
 (1 : Nat))).toI
 (d.el (↑i : Int).toNat
 ((0 : Nat) + (1 : Nat) + (1 : Nat) + (1 : Nat) + (1 : Nat) + (1 : Nat) + (1 : Nat) + (1 : Nat) + (1 : Nat) +
 (1 : Nat) +
 (1 : Nat))).toS
 (d.el (↑i : Int).toNat
 ((0 : Nat) + (1 : Nat) + (1 : Nat) + (1 : Nat) + (1 : Nat) + (1 : Nat) + (1 : Nat) + (1 : Nat) + (1 : Nat) + (1 : Nat) +
 (1 : Nat) +
 (1 : Nat)))
 (d.el (↑i : Int).toNat
 ((0 : Nat) + (1 : Nat) + (1 : Nat) + (1 : Nat) + (1 : Nat) + (1 : Nat) + (1 : Nat) + (1 : Nat) + (1 : Nat) +
 (1 : Nat) +
 (1 : Nat) +
 (1 : Nat) +
 (1 : Nat))).toI
 (d.el (↑i : Int).toNat
 ((0 : Nat) + (1 : Nat) + (1 : Nat) + (1 : Nat) + (1 : Nat) + (1 : Nat) + (1 : Nat) + (1 : Nat) + (1 : Nat) +
 (1 : Nat) +
 (1 : Nat) +
 (1 : Nat) +
 (1 : Nat) +
 (1 : Nat))).toI
 (d.el (↑i : Int).toNat
 ((0 : Nat) + (1 : Nat) + (1 : Nat) + (1 : Nat) + (1 : Nat) + (1 : Nat) + (1 : Nat) + (1 : Nat) + (1 : Nat) +
 (1 : Nat) +
 (1 : Nat) +
 (1 : Nat) +
 (1 : Nat) +
 (1 : Nat) +
 (1 : Nat))).toS
 (d.el (↑i : Int).toNat
 ((0 : Nat) + (1 : Nat) + (1 : Nat) + (1 : Nat) + (1 : Nat) + (1 : Nat) + (1 : Nat) + (1 : Nat) + (1 : Nat) + (1 : Nat) +
 (1 : Nat) +
 (1 : Nat) +
 (1 : Nat) +
 (1 : Nat) +
 (1 : Nat) +
 (1 : Nat)))
 (d.el (↑i : Int).toNat
 ((0 : Nat) + (1 : Nat) + (1 : Nat) + (1 : Nat) + (1 : Nat) + (1 : Nat) + (1 : Nat) + (1 : Nat) + (1 : Nat) + (1 : Nat) +
 (1 : Nat) +
 (1 : Nat) +
 (1 : Nat) +
 (1 : Nat) +
 (1 : Nat) +
 (1 : Nat) +
 (1 : Nat)))
 (d.el (↑i : Int).toNat
 ((0 : Nat) + (1 : Nat) + (1 : Nat) + (1 : Nat) + (1 : Nat) + (1 : Nat) + (1 : Nat) + (1 : Nat) + (1 : Nat) + (1 : Nat) +
 (1 : Nat) +
 (1 : Nat) +
 (1 : Nat) +
 (1 : Nat) +
 (1 : Nat) +
 (1 : Nat) +
 (1 : Nat) +
 (1 : Nat)))
 (d.el (↑i : Int).toNat
 ((0 : Nat) + (1 : Nat) + (1 : Nat) + (1 : Nat) + (1 : Nat) + (1 : Nat) + (1 : Nat) + (1 : Nat) + (1 : Nat) + (1 : Nat) +
 (1 : Nat) +
 (1 : Nat) +
 (1 : Nat) +
 (1 : Nat) +
 (1 : Nat) +
 (1 : Nat) +
 (1 : Nat) +
 (1 : Nat) +
 (1 : Nat)))) =
 true →
 false = bA d) ∧
 ((!stA (d.el (↑i : Int).toNat (0 : Nat)).toI (d.el (↑i : Int).toNat ((0 : Nat) + (1 : Nat))).toS
 (d.el (↑i : Int).toNat ((0 : Nat) + (1 : Nat) + (1 : Nat))).toS
 (d.el (↑i : Int).toNat ((0 : Nat) + (1 : Nat) + (1 : Nat) + (1 : Nat))).toI
 (d.el (↑i : Int).toNat ((0 : Nat) + (1 : Nat) + (1 : Nat) + (1 : Nat) + (1 : Nat))).toI
 (d.el (↑i : Int).toNat ((0 : Nat) + (1 : Nat) + (1 : Nat) + (1 : Nat) + (1 : Nat) + (1 : Nat))).toS
 (d.el (↑i : Int).toNat ((0 : Nat) + (1 : Nat) + (1 : Nat) + (1 : Nat) + (1 : Nat) + (1 : Nat) + (1 : Nat)))
 (d.el (↑i : Int).toNat
 ((0 : Nat) + (1 : Nat) + (1 : Nat) + (1 : Nat) + (1 : Nat) + (1 : Nat) + (1 : Nat) + (1 : Nat))).toI
 (d.el (↑i : Int).toNat
 ((0 : Nat) + (1 : Nat) + (1 : Nat) + (1 : Nat) + (1 : Nat) + (1 : Nat) + (1 : Nat) + (1 : Nat) + (1 : Nat))).toI
 (d.el (↑i : Int).toNat
 ((0 : Nat) + (1 : Nat) + (1 : Nat) + (1 : Nat) + (1 : Nat) + (1 : Nat) + (1 : Nat) + (1 : Nat) + (1 : Nat) +
 (1 : Nat))).toI
 (d.el (↑i : Int).toNat
 ((0 : Nat) + (1 : Nat) + (1 : Nat) + (1 : Nat) + (1 : Nat) + (1 : Nat) + (1 : Nat) + (1 : Nat) + (1 : Nat) +
 (1 : Nat) +
 (1 : Nat))).toS
 (d.el (↑i : Int).toNat
 ((0 : Nat) + (1 : Nat) + (1 : Nat) + (1 : Nat) + (1 : Nat) + (1 : Nat) + (1 : Nat) + (1 : Nat) + (1 : Nat) + (1 : Nat) +
 (1 : Nat) +
 (1 : Nat)))
 (d.el (↑i : Int).toNat
 ((0 : Nat) + (1 : Nat) + (1 : Nat) + (1 : Nat) + (1 : Nat) + (1 : Nat) + (1 : Nat) + (1 : Nat) + (1 : Nat) +
 (1 : Nat) +
 (1 : Nat) +
 (1 : Nat) +
 (1 : Nat))).toI
 (d.el (↑i : Int).toNat
 ((0 : Nat) + (1 : Nat) + (1 : Nat) + (1 : Nat) + (1 : Nat) + (1 : Nat) + (1 : Nat) + (1 : Nat) + (1 : Nat) +
 (1 : Nat) +
 (1 : Nat) +
 (1 : Nat) +
 (1 : Nat) +
 (1 : Nat))).toI
 (d.el (↑i : Int).toNat
 ((0 : Nat) + (1 : Nat) + (1 : Nat) + (1 : Nat) + (1 : Nat) + (1 : Nat) + (1 : Nat) + (1 : Nat) + (1 : Nat) +
 (1 : Nat) +
 (1 : Nat) +
 (1 : Nat) +
 (1 : Nat) +
 (1 : Nat) +
 (1 : Nat))).toS
 (d.el (↑i : Int).toNat
 ((0 : Nat) + (1 : Nat) + (1 : Nat) + (1 : Nat) + (1 : Nat) + (1 : Nat) + (1 : Nat) + (1 : Nat) + (1 : Nat) + (1 : Nat) +
 (1 : Nat) +
 (1 : Nat) +
 (1 : Nat) +
 (1 : Nat) +
 (1 : Nat) +
 (1 : Nat)))
 (d.el (↑i : Int).toNat
 ((0 : Nat) + (1 : Nat) + (1 : Nat) + (1 : Nat) + (1 : Nat) + (1 : Nat) + (1 : Nat) + (1 : Nat) + (1 : Nat) + (1 : Nat) +
 (1 : Nat) +
 (1 : Nat) +
 (1 : Nat) +
 (1 : Nat) +
 (1 : Nat) +
 (1 : Nat) +
 (1 : Nat)))
 (d.el (↑i : Int).toNat
 ((0 : Nat) + (1 : Nat) + (1 : Nat) + (1 : Nat) + (1 : Nat) + (1 : Nat) + (1 : Nat) + (1 : Nat) + (1 : Nat) + (1 : Nat) +
 (1 : Nat) +
 (1 : Nat) +
 (1 : Nat) +
 (1 : Nat) +
 (1 : Nat) +
 (1 : Nat) +
 (1 : Nat) +
 (1 : Nat)))
 (d.el (↑i : Int).toNat
 ((0 : Nat) + (1 : Nat) + (1 : Nat) + (1 : Nat) + (1 : Nat) + (1 : Nat) + (1 : Nat) + (1 : Nat) + (1 : Nat) + (1 : Nat) +
 (1 : Nat) +
 (1 : Nat) +
 (1 : Nat) +
 (1 : Nat) +
 (1 : Nat) +
 (1 : Nat) +
 (1 : Nat) +
 (1 : Nat) +
 (1 : Nat)))) =
 false →
 ∃ (j : Nat),
 (j ≤ d.len ∧ ∀ (j_1 : Nat), j_1 < j → stE d j_1 = true) ∧
 d.len - j < d.len - i ∧
 IntKind.i64.wrap ((↑i : Int) + (1 : Int)) = (↑j : Int) ∧ d.rows = d.rows ∧ (↑d.len : Int) = (↑d.len : Int))) ∧
 (decide ((↑i : Int) < (↑d.len : Int)) = false → true = bA d)) (by kernel_rfl) ?_
    intro hm hs
    have e0 : ∀ (i : Nat), ((i : Int)).toNat = i := fun i => Int.toNat_natCast i
    simp only [Nat.zero_add, Nat.reduceAdd, e0]
    have hb := ((sOK_iff d).1 hs).1
    rw [bA_eq]
    refine ⟨⟨0, ⟨Nat.zero_le _, fun j hj => absurd hj (Nat.not_lt_zero j)⟩, rfl, trivial, trivial⟩, fun i hp => ⟨fun hl => ?_, fun hl => ?_⟩⟩
    · have hl := of_decide_eq_true hl
      have hi : i < d.len := by omega
      have hw : IntKind.i64.wrap ((i : Int) + 1) = ((i + 1 : Nat) : Int) := by rw [IntWalk.i64_in _ (by omega)]; omega
      have z1 := lel_lt (j := 16) hi
      have z2 := lel_lt (j := 17) hi
      have z3 := lel_lt (j := 18) hi
      obtain ⟨s1, s2, s3⟩ := ((sOK_iff d).1 hs).2 i hi
      refine ⟨⟨by omega, by omega⟩, by omega, by omega, by omega, s1, s2, s3, fun hq => ?_, fun hq => ?_⟩
      · have hq : stE d i = false := by rw [Bool.not_eq_true'] at hq; exact hq
        exact (allB_no hi hq).symm
      · have hq : stE d i = true := by rw [Bool.not_eq_false'] at hq; exact hq
        refine ⟨i + 1, ⟨by omega, fun j hj => ?_⟩, by omega, hw, trivial, trivial⟩
        rcases Nat.lt_or_ge j i with h | h
        · exact hp.2 j h
        · obtain rfl : j = i := by omega
          exact hq
    · have hl := of_decide_eq_false hl
      exact (allB_yes fun j hj => hp.2 j (by omega)).symm
  · trivial
theorem bdr_ok : ConOK Tryd.prog 47 bdrC :=
  con_rec bdrM (fun _ _ => by kernel_rfl) fun m ih => by
    rw [bdr_under] at ih ⊢
    exact bdr_step m ih
end Go.Proofs.YtomodncooiddaaaDoor.Sx.Z
