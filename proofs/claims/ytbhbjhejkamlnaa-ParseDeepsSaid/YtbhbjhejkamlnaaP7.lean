/-
  ParseDeeps' contract.
-/
import Derived.Test.YtbhbjhejkamlnaaP6
namespace Go.Proofs.Ytbhbjhejkamlnaa.Sx.Z
open Go.RowKit
def k9 (a : Int) : Nat := 20 + (IntKind.u64.wrap a).toNat % 9
def w3 (a : Int) : Nat := (IntKind.u64.wrap a).toNat % 3
theorem k9_in (a : Int) : 20 ≤ k9 a ∧ k9 a ≤ 28 := by unfold k9; omega
theorem w3_in (a : Int) : w3 a < 3 := Nat.mod_lt _ (by decide)
theorem k9_eq (a : Int) : IntKind.i64.wrap (20 + IntKind.i64.wrap ((IntKind.u64.wrap a).tmod 9)) = (k9 a : Int) := by
  have h0 : 0 ≤ IntKind.u64.wrap a := by rw [IntKind.wrap_u64]; omega
  have e : (IntKind.u64.wrap a).tmod 9 = ((IntKind.u64.wrap a).toNat % 9 : Nat) := by
    rw [Int.tmod_eq_emod_of_nonneg h0]
    omega
  rw [e, IntWalk.i64_in (((IntKind.u64.wrap a).toNat % 9 : Nat) : Int) (by omega), IntWalk.i64_in _ (by omega)]
  unfold k9
  omega
theorem w3_eq (a : Int) : IntKind.i64.wrap ((IntKind.u64.wrap a).tmod 3) = (w3 a : Int) := by
  have h0 : 0 ≤ IntKind.u64.wrap a := by rw [IntKind.wrap_u64]; omega
  have e : (IntKind.u64.wrap a).tmod 3 = ((IntKind.u64.wrap a).toNat % 3 : Nat) := by
    rw [Int.tmod_eq_emod_of_nonneg h0]
    omega
  rw [e, IntWalk.i64_in _ (by omega)]; rfl
def oS (w : Nat) : ByteArray := ((D.l [[.s ⟨#[45]⟩], [.s ⟨#[40]⟩], [.s ⟨#[119, 104, 105, 108, 101, 40, 49, 61, 61, 49, 41, 123]⟩]]).el w 0).toS
def bS0 (w : Nat) : ByteArray := if w < 2 then ⟨#[112, 114, 111, 99, 32, 112, 123]⟩ ++ ⟨#[120, 61]⟩ else ⟨#[112, 114, 111, 99, 32, 112, 123]⟩
def tx1 (w : Nat) : Nat → ByteArray
  | 0 => bS0 w
  | i + 1 => tx1 w i ++ oS w
def tx2 (k : Nat) : Nat → ByteArray
  | 0 => tx1 1 k ++ ⟨#[49]⟩
  | i + 1 => tx2 k i ++ clB
def tx3 (k : Nat) : Nat → ByteArray
  | 0 => tx1 2 k
  | i + 1 => tx3 k i ++ cbB
theorem oS_sz : ∀ w, w < 3 → (oS w).size ≤ 12 ∧ (bS0 w).size ≤ 9
  | 0, _ => by decide
  | 1, _ => by decide
  | 2, _ => by decide
theorem tx1_sz {w : Nat} (hw : w < 3) : ∀ i, (tx1 w i).size ≤ 9 + 12 * i
  | 0 => (oS_sz w hw).2
  | i + 1 => by
    have := tx1_sz hw i
    have := (oS_sz w hw).1
    rw [tx1, ByteArray.size_append]; omega
theorem tx2_sz (k : Nat) : ∀ i, (tx2 k i).size ≤ 10 + 12 * k + i
  | 0 => by
    have := tx1_sz (w := 1) (by decide) k
    rw [tx2, ByteArray.size_append]
    show (tx1 1 k).size + 1 ≤ _
    omega
  | i + 1 => by
    have := tx2_sz k i
    rw [tx2, ByteArray.size_append]
    show (tx2 k i).size + 1 ≤ _
    omega
theorem tx3_sz (k : Nat) : ∀ i, (tx3 k i).size ≤ 9 + 12 * k + i
  | 0 => tx1_sz (w := 2) (by decide) k
  | i + 1 => by
    have := tx3_sz k i
    rw [tx3, ByteArray.size_append]
    show (tx3 k i).size + 1 ≤ _
    omega
theorem bs_of : ∀ w, w < 3 → (bS0 w).size = (if w < 2 then 9 else 7) ∧ (oS w).size = (if w < 2 then 1 else 12)
  | 0, _ => by decide
  | 1, _ => by decide
  | 2, _ => by decide
/-- What is asked of the answer. -/
def pdQ (k : Nat) (c : Int) (t : ByteArray) : Bool := if k ≤ 24 then paE t == 0 else paE t == 6 && paA t == c
set_option maxRecDepth 100000 in
theorem pd_A : ∀ j : Fin 9, pdQ (20 + j) 33 (tx1 0 (20 + j) ++ ⟨#[49, 59, 125]⟩) = true := by decide +kernel
set_option maxRecDepth 100000 in
theorem pd_B : ∀ j : Fin 9, pdQ (20 + j) 33 (tx2 (20 + j) (20 + j) ++ ⟨#[59, 125]⟩) = true := by decide +kernel
def dl2 (k : Nat) : List UInt8 := [112, 114, 111, 99, 32, 112, 123] ++ (List.replicate k [119, 104, 105, 108, 101, 40, 49, 61, 61, 49, 41, 123]).flatten
theorem tx1_l : ∀ i, (tx1 2 i).data.toList = dl2 i
  | 0 => rfl
  | i + 1 => by
    rw [tx1, ByteArray.data_append, Array.toList_append, tx1_l i]
    unfold dl2
    rw [List.replicate_succ', List.flatten_append, List.append_assoc]; rfl
theorem tx3_l (k : Nat) : ∀ i, (tx3 k i).data.toList = dl2 k ++ List.replicate i 125
  | 0 => by
    rw [tx3, tx1_l, List.replicate_zero, List.append_nil]
  | i + 1 => by
    rw [tx3, ByteArray.data_append, Array.toList_append, tx3_l k i, List.replicate_succ', List.append_assoc]; rfl
def tC (k : Nat) : ByteArray := ⟨(dl2 k ++ List.replicate (k + 1) 125).toArray⟩
theorem tx3_C (k : Nat) : tx3 k k ++ cbB = tC k := ByteArray.ext (Array.toList_inj.1 (tx3_l k (k + 1)))
set_option maxRecDepth 100000 in
theorem pd_C20 : pdQ 20 306 (tC 20) = true := by decide +kernel
set_option maxRecDepth 100000 in
theorem pd_C21 : pdQ 21 306 (tC 21) = true := by decide +kernel
set_option maxRecDepth 100000 in
theorem pd_C22 : pdQ 22 306 (tC 22) = true := by decide +kernel
set_option maxRecDepth 100000 in
theorem pd_C23 : pdQ 23 306 (tC 23) = true := by decide +kernel
set_option maxRecDepth 100000 in
theorem pd_C24 : pdQ 24 306 (tC 24) = true := by decide +kernel
set_option maxRecDepth 100000 in
theorem pd_C25 : pdQ 25 306 (tC 25) = true := by decide +kernel
set_option maxRecDepth 100000 in
theorem pd_C26 : pdQ 26 306 (tC 26) = true := by decide +kernel
set_option maxRecDepth 100000 in
theorem pd_C27 : pdQ 27 306 (tC 27) = true := by decide +kernel
set_option maxRecDepth 100000 in
theorem pd_C28 : pdQ 28 306 (tC 28) = true := by decide +kernel
theorem pd_C0 : ∀ j : Fin 9, pdQ (20 + j) 306 (tC (20 + j)) = true
  | 0 => pd_C20
  | 1 => pd_C21
  | 2 => pd_C22
  | 3 => pd_C23
  | 4 => pd_C24
  | 5 => pd_C25
  | 6 => pd_C26
  | 7 => pd_C27
  | 8 => pd_C28
theorem pd_C (j : Fin 9) : pdQ (20 + j) 306 (tx3 (20 + j) (20 + j) ++ cbB) = true := by rw [tx3_C]; exact pd_C0 j
theorem fin_of {P : Nat → Prop} {k : Nat} (h : ∀ j : Fin 9, P (20 + j)) (a : 20 ≤ k) (b : k ≤ 28) : P k := by
  have := h ⟨k - 20, by omega⟩
  rwa [show 20 + (k - 20) = k by omega] at this
theorem pdQ_yes {k : Nat} {c : Int} {t : ByteArray} (h : pdQ k c t = true) (hk : decide ((k : Int) ≤ 24) = true) : (true && paE t == 0) = true := by
  have hk := of_decide_eq_true hk
  unfold pdQ at h
  rwa [if_pos (by omega)] at h
theorem pdQ_no {k : Nat} {c : Int} {t : ByteArray} (h : pdQ k c t = true) (hk : decide ((k : Int) ≤ 24) = false) : (true && paE t == 6 && paA t == c) = true := by
  have hk := of_decide_eq_false hk
  unfold pdQ at h
  rwa [if_neg (by omega)] at h
theorem mx_i : IntKind.i64.max = 9223372036854775807 := by decide

noncomputable def pdeS : FSpec := fun ds _ => match ds with
  | [.i a, .i b] => some { val := .one (.sc (.bool (.lit true))), vc := [] }
  | _ => none
noncomputable def pdeC : Con := con [.sc (.int .i64), .sc (.int .i64)] pdeS
theorem pde_ok : ConOK Try.prog 5 pdeC := by
  refine fn_ob tt_ok mixed Try.func5 rfl (fun _ _ => by kernel_rfl) (A := fun ds => ⟨fun _ => Cons.of [(7, parC), (9, prsC)], fun k => match k, ds with | 9, [.i a, .i b] => some { ι := Nat, pre := fun _ i => i ≤ k9 a ∧ True, μ := fun i => 30 - i, st := fun s i => famR s [(10, .one (.sc (.int .i64 (.sym ((i : Nat)))))), (5, .one (.sc (.int .i64 (.sym ((k9 a : Nat)))))), (6, .one (.sc (.raw (.string (oS (w3 b)))))), (7, .one (.sc (.raw (.string (tx1 (w3 b) i))))), (9, .one (.sc (.int .i64 (.sym (((bS0 (w3 b)).size : Nat))))))] [0, 1] [] [] } | 23, [.i a, .i b] => some { ι := Nat, pre := fun _ i => i ≤ k9 a ∧ w3 b = 1, μ := fun i => 30 - i, st := fun s i => famR s [(11, .one (.sc (.int .i64 (.sym ((i : Nat)))))), (7, .one (.sc (.raw (.string (tx2 (k9 a) i)))))] [0, 1, 5, 6, 9] [] [] } | 14, [.i a, .i b] => some { ι := Nat, pre := fun _ i => i ≤ k9 a ∧ w3 b = 2, μ := fun i => 30 - i, st := fun s i => famR s [(12, .one (.sc (.int .i64 (.sym ((i : Nat)))))), (7, .one (.sc (.raw (.string (tx3 (k9 a) i)))))] [0, 1, 5, 6, 9] [] [] } | _, _ => none, fun k => match k, ds with | 7, [.i a, .i b] => some { ι := Bool, pre := fun _ _ => True, μ := fun _ => 0, st := fun s _ => famR s [(5, .one (.sc (.int .i64 (.sym ((k9 a : Nat)))))), (6, .one (.sc (.raw (.string (oS (w3 b)))))), (7, .one (.sc (.raw (.string (bS0 (w3 b))))))] [0, 1] [] [] } | _, _ => none⟩) (fun _ _ => (cons_cons par_ok (cons_cons prs_ok cons_nil))) (by kernel_rfl) ?_
  intro ds fr
  unfold pdeS
  split
  · rename_i a b
    refine kmp (q := ((0 : Int) ≤ IntKind.i64.wrap ((IntKind.u64.wrap b).tmod (3 : Int)) ∧ IntKind.i64.wrap ((IntKind.u64.wrap b).tmod (3 : Int)) < (↑(3 : Nat) : Int)) ∧
 (IntKind.i64.wrap ((IntKind.u64.wrap b).tmod (3 : Int))).toNat <
 (D.l
 [[D.s miB], [D.s opB],
 [D.s
 (ByteArray.mk #[(119 : UInt8), (104 : UInt8), (105 : UInt8), (108 : UInt8), (101 : UInt8), (40 : UInt8), (49 : UInt8), (61 : UInt8), (61 : UInt8),
 (49 : UInt8), (41 : UInt8), (123 : UInt8)])]]).len ∧
 ((decide (IntKind.i64.wrap ((IntKind.u64.wrap b).tmod (3 : Int)) < (2 : Int)) = true →
 (↑((ByteArray.mk #[(112 : UInt8), (114 : UInt8), (111 : UInt8), (99 : UInt8), (32 : UInt8), (112 : UInt8), (123 : UInt8)]).size +
 (ByteArray.mk #[(120 : UInt8), (61 : UInt8)]).size) :
 Int) ≤
 IntKind.i64.max ∧
 ∃ (i : Bool),
 True ∧
 IntKind.i64.wrap ((20 : Int) + IntKind.i64.wrap ((IntKind.u64.wrap a).tmod (9 : Int))) = (↑(k9 a) : Int) ∧
 Value.string
 ((D.l
 [[D.s miB], [D.s opB],
 [D.s
 (ByteArray.mk #[(119 : UInt8), (104 : UInt8), (105 : UInt8), (108 : UInt8), (101 : UInt8), (40 : UInt8), (49 : UInt8), (61 : UInt8),
 (61 : UInt8), (49 : UInt8), (41 : UInt8), (123 : UInt8)])]]).el
 (IntKind.i64.wrap ((IntKind.u64.wrap b).tmod (3 : Int))).toNat (0 : Nat)).toS =
 Value.string (oS (w3 b)) ∧
 Value.string
 ((ByteArray.mk #[(112 : UInt8), (114 : UInt8), (111 : UInt8), (99 : UInt8), (32 : UInt8), (112 : UInt8), (123 : UInt8)]) ++
 (ByteArray.mk #[(120 : UInt8), (61 : UInt8)])) =
 Value.string (bS0 (w3 b)) ∧
 a = a ∧ b = b) ∧
 (decide (IntKind.i64.wrap ((IntKind.u64.wrap b).tmod (3 : Int)) < (2 : Int)) = false →
 ∃ (i : Bool),
 True ∧
 IntKind.i64.wrap ((20 : Int) + IntKind.i64.wrap ((IntKind.u64.wrap a).tmod (9 : Int))) = (↑(k9 a) : Int) ∧
 Value.string
 ((D.l
 [[D.s miB], [D.s opB],
 [D.s
 (ByteArray.mk #[(119 : UInt8), (104 : UInt8), (105 : UInt8), (108 : UInt8), (101 : UInt8), (40 : UInt8), (49 : UInt8), (61 : UInt8),
 (61 : UInt8), (49 : UInt8), (41 : UInt8), (123 : UInt8)])]]).el
 (IntKind.i64.wrap ((IntKind.u64.wrap b).tmod (3 : Int))).toNat (0 : Nat)).toS =
 Value.string (oS (w3 b)) ∧
 Value.string (ByteArray.mk #[(112 : UInt8), (114 : UInt8), (111 : UInt8), (99 : UInt8), (32 : UInt8), (112 : UInt8), (123 : UInt8)]) =
 Value.string (bS0 (w3 b)) ∧
 a = a ∧ b = b)) ∧
 ∀ (i : Bool),
 True →
 (∃ (i : Nat),
 (i ≤ k9 a ∧ True) ∧
 (0 : Int) = (↑i : Int) ∧
 (↑(k9 a) : Int) = (↑(k9 a) : Int) ∧
 Value.string (oS (w3 b)) = Value.string (oS (w3 b)) ∧
 Value.string (bS0 (w3 b)) = Value.string (tx1 (w3 b) i) ∧ (↑(bS0 (w3 b)).size : Int) = (↑(bS0 (w3 b)).size : Int) ∧ a = a ∧ b = b) ∧
 ∀ (i : Nat),
 i ≤ k9 a ∧ True →
 (decide ((↑i : Int) < (↑(k9 a) : Int)) = true →
 (↑((tx1 (w3 b) i).size + (oS (w3 b)).size) : Int) ≤ IntKind.i64.max ∧
 ∃ (j : Nat),
 (j ≤ k9 a ∧ True) ∧
 (30 : Nat) - j < (30 : Nat) - i ∧
 IntKind.i64.wrap ((↑i : Int) + (1 : Int)) = (↑j : Int) ∧
 (↑(k9 a) : Int) = (↑(k9 a) : Int) ∧
 Value.string (oS (w3 b)) = Value.string (oS (w3 b)) ∧
 Value.string (tx1 (w3 b) i ++ oS (w3 b)) = Value.string (tx1 (w3 b) j) ∧
 (↑(bS0 (w3 b)).size : Int) = (↑(bS0 (w3 b)).size : Int) ∧ a = a ∧ b = b) ∧
 (decide ((↑i : Int) < (↑(k9 a) : Int)) = false →
 ((IntKind.i64.wrap ((IntKind.u64.wrap b).tmod (3 : Int)) == (0 : Int)) = true →
 (↑((tx1 (w3 b) i).size + (ByteArray.mk #[(49 : UInt8), (59 : UInt8), (125 : UInt8)]).size) : Int) ≤ IntKind.i64.max ∧
 (tx1 (w3 b) i ++ (ByteArray.mk #[(49 : UInt8), (59 : UInt8), (125 : UInt8)])).size ≤ (140737488351232 : Nat) ∧
 (decide ((↑(k9 a) : Int) ≤ (24 : Int)) = true →
 (true && paE (tx1 (w3 b) i ++ (ByteArray.mk #[(49 : UInt8), (59 : UInt8), (125 : UInt8)])) == (0 : Int)) = true) ∧
 (decide ((↑(k9 a) : Int) ≤ (24 : Int)) = false →
 (true && paE (tx1 (w3 b) i ++ (ByteArray.mk #[(49 : UInt8), (59 : UInt8), (125 : UInt8)])) == (6 : Int) &&
 paA (tx1 (w3 b) i ++ (ByteArray.mk #[(49 : UInt8), (59 : UInt8), (125 : UInt8)])) ==
 IntKind.i64.wrap
 (IntKind.i64.wrap
 (IntKind.i64.wrap ((↑(bS0 (w3 b)).size : Int) + IntKind.i64.wrap ((24 : Int) * (↑(oS (w3 b)).size : Int))) +
 (↑(oS (w3 b)).size : Int)) -
 (1 : Int))) =
 true)) ∧
 ((IntKind.i64.wrap ((IntKind.u64.wrap b).tmod (3 : Int)) == (0 : Int)) = false →
 ((IntKind.i64.wrap ((IntKind.u64.wrap b).tmod (3 : Int)) == (1 : Int)) = true →
 (↑((tx1 (w3 b) i).size + (ByteArray.mk #[(49 : UInt8)]).size) : Int) ≤ IntKind.i64.max ∧
 (∃ (i_1 : Nat),
 (i_1 ≤ k9 a ∧ w3 b = (1 : Nat)) ∧
 (0 : Int) = (↑i_1 : Int) ∧
 Value.string (tx1 (w3 b) i ++ (ByteArray.mk #[(49 : UInt8)])) = Value.string (tx2 (k9 a) i_1) ∧
 a = a ∧
 b = b ∧
 (↑(k9 a) : Int) = (↑(k9 a) : Int) ∧
 Value.string (oS (w3 b)) = Value.string (oS (w3 b)) ∧ (↑(bS0 (w3 b)).size : Int) = (↑(bS0 (w3 b)).size : Int)) ∧
 ∀ (i : Nat),
 i ≤ k9 a ∧ w3 b = (1 : Nat) →
 (decide ((↑i : Int) < (↑(k9 a) : Int)) = true →
 (↑((tx2 (k9 a) i).size + clB.size) : Int) ≤ IntKind.i64.max ∧
 ∃ (j : Nat),
 (j ≤ k9 a ∧ w3 b = (1 : Nat)) ∧
 (30 : Nat) - j < (30 : Nat) - i ∧
 IntKind.i64.wrap ((↑i : Int) + (1 : Int)) = (↑j : Int) ∧
 Value.string (tx2 (k9 a) i ++ clB) = Value.string (tx2 (k9 a) j) ∧
 a = a ∧
 b = b ∧
 (↑(k9 a) : Int) = (↑(k9 a) : Int) ∧
 Value.string (oS (w3 b)) = Value.string (oS (w3 b)) ∧
 (↑(bS0 (w3 b)).size : Int) = (↑(bS0 (w3 b)).size : Int)) ∧
 (decide ((↑i : Int) < (↑(k9 a) : Int)) = false →
 (↑((tx2 (k9 a) i).size + (ByteArray.mk #[(59 : UInt8), (125 : UInt8)]).size) : Int) ≤ IntKind.i64.max ∧
 (tx2 (k9 a) i ++ (ByteArray.mk #[(59 : UInt8), (125 : UInt8)])).size ≤ (140737488351232 : Nat) ∧
 (decide ((↑(k9 a) : Int) ≤ (24 : Int)) = true →
 (true && paE (tx2 (k9 a) i ++ (ByteArray.mk #[(59 : UInt8), (125 : UInt8)])) == (0 : Int)) = true) ∧
 (decide ((↑(k9 a) : Int) ≤ (24 : Int)) = false →
 (true && paE (tx2 (k9 a) i ++ (ByteArray.mk #[(59 : UInt8), (125 : UInt8)])) == (6 : Int) &&
 paA (tx2 (k9 a) i ++ (ByteArray.mk #[(59 : UInt8), (125 : UInt8)])) ==
 IntKind.i64.wrap
 (IntKind.i64.wrap
 (IntKind.i64.wrap
 ((↑(bS0 (w3 b)).size : Int) + IntKind.i64.wrap ((24 : Int) * (↑(oS (w3 b)).size : Int))) +
 (↑(oS (w3 b)).size : Int)) -
 (1 : Int))) =
 true))) ∧
 ((IntKind.i64.wrap ((IntKind.u64.wrap b).tmod (3 : Int)) == (1 : Int)) = false →
 (∃ (i_1 : Nat),
 (i_1 ≤ k9 a ∧ w3 b = (2 : Nat)) ∧
 (0 : Int) = (↑i_1 : Int) ∧
 Value.string (tx1 (w3 b) i) = Value.string (tx3 (k9 a) i_1) ∧
 a = a ∧
 b = b ∧
 (↑(k9 a) : Int) = (↑(k9 a) : Int) ∧
 Value.string (oS (w3 b)) = Value.string (oS (w3 b)) ∧ (↑(bS0 (w3 b)).size : Int) = (↑(bS0 (w3 b)).size : Int)) ∧
 ∀ (i : Nat),
 i ≤ k9 a ∧ w3 b = (2 : Nat) →
 (decide ((↑i : Int) < (↑(k9 a) : Int)) = true →
 (↑((tx3 (k9 a) i).size + cbB.size) : Int) ≤ IntKind.i64.max ∧
 ∃ (j : Nat),
 (j ≤ k9 a ∧ w3 b = (2 : Nat)) ∧
 (30 : Nat) - j < (30 : Nat) - i ∧
 IntKind.i64.wrap ((↑i : Int) + (1 : Int)) = (↑j : Int) ∧
 Value.string (tx3 (k9 a) i ++ cbB) = Value.string (tx3 (k9 a) j) ∧
 a = a ∧
 b = b ∧
 (↑(k9 a) : Int) = (↑(k9 a) : Int) ∧
 Value.string (oS (w3 b)) = Value.string (oS (w3 b)) ∧
 (↑(bS0 (w3 b)).size : Int) = (↑(bS0 (w3 b)).size : Int)) ∧
 (decide ((↑i : Int) < (↑(k9 a) : Int)) = false →
 (↑((tx3 (k9 a) i).size + cbB.size) : Int) ≤ IntKind.i64.max ∧
 (tx3 (k9 a) i ++ cbB).size ≤ (140737488351232 : Nat) ∧
 (decide ((↑(k9 a) : Int) ≤ (24 : Int)) = true →
 (true && paE (tx3 (k9 a) i ++ cbB) == (0 : Int)) = true) ∧
 (decide ((↑(k9 a) : Int) ≤ (24 : Int)) = false →
 (true && paE (tx3 (k9 a) i ++ cbB) == (6 : Int) &&
 paA (tx3 (k9 a) i ++ cbB) ==
 IntKind.i64.wrap
 (IntKind.i64.wrap
 (IntKind.i64.wrap
 ((↑(bS0 (w3 b)).size : Int) + IntKind.i64.wrap ((24 : Int) * (↑(oS (w3 b)).size : Int))) +
 (↑(oS (w3 b)).size : Int)) -
 (1 : Int))) =
 true)))))) (by kernel_rfl) ?_
    have hk := k9_in a
    have hw := w3_in b
    simp only [k9_eq, w3_eq, mx_i]
    generalize k9 a = k at hk ⊢
    generalize w3 b = w at hw ⊢
    obtain ⟨z1, z2⟩ := oS_sz w hw
    obtain ⟨y1, y2⟩ := bs_of w hw
    have en : (w : Int).toNat = w := Int.toNat_natCast w
    rw [en]
    have hpl : IntKind.i64.wrap (IntKind.i64.wrap (IntKind.i64.wrap (((bS0 w).size : Int) + IntKind.i64.wrap (24 * ((oS w).size : Int))) + ((oS w).size : Int)) - 1) = (bS0 w).size + 24 * (oS w).size + (oS w).size - 1 := by
      rw [IntWalk.i64_in (24 * ((oS w).size : Int)) (by omega), IntWalk.i64_in (((bS0 w).size : Int) + 24 * ((oS w).size : Int)) (by omega), IntWalk.i64_in (((bS0 w).size : Int) + 24 * ((oS w).size : Int) + ((oS w).size : Int)) (by omega), IntWalk.i64_in _ (by omega)]
    simp only [hpl]
    refine ⟨⟨by omega, by omega⟩, hw, ⟨fun hc => ?_, fun hc => ?_⟩, fun _ _ => ?_⟩
    · have hc := of_decide_eq_true hc
      refine ⟨by decide, true, trivial, trivial, rfl, ?_, by simp only [and_self]⟩
      unfold bS0
      rw [if_pos (by omega)]
    · have hc := of_decide_eq_false hc
      refine ⟨true, trivial, trivial, rfl, ?_, by simp only [and_self]⟩
      unfold bS0
      rw [if_neg (by omega)]
    refine ⟨⟨0, ⟨Nat.zero_le _, trivial⟩, rfl, by simp only [and_self, tx1]⟩, fun i hi => ⟨fun hc => ?_, fun hc => ?_⟩⟩
    · have hc := of_decide_eq_true hc
      have s1 := tx1_sz hw i
      have hw2 : IntKind.i64.wrap ((i : Int) + 1) = ((i + 1 : Nat) : Int) := by rw [IntWalk.i64_in _ (by omega)]; omega
      exact ⟨by omega, i + 1, ⟨by omega, trivial⟩, by omega, hw2, by simp only [and_self, tx1, tx2, tx3]⟩
    have hc := of_decide_eq_false hc
    obtain rfl : i = k := by have := hi.1; omega
    have s1 := tx1_sz hw i
    refine ⟨fun h0 => ?_, fun h0 => ⟨fun h1 => ?_, fun h1 => ?_⟩⟩
    · have h0 : (w : Int) = 0 := eq_of_beq h0
      obtain rfl : w = 0 := by omega
      have f := fin_of (P := fun k => pdQ k 33 (tx1 0 k ++ ⟨#[49, 59, 125]⟩) = true) pd_A hk.1 hk.2
      have s2 : (tx1 0 i ++ ⟨#[49, 59, 125]⟩).size ≤ 9 + 12 * i + 3 := by rw [ByteArray.size_append]; show (tx1 0 i).size + 3 ≤ _; omega
      have s3 : (⟨#[49, 59, 125]⟩ : ByteArray).size = 3 := rfl
      refine ⟨by omega, by omega, fun hq => pdQ_yes f hq, fun hq => ?_⟩
      have f := pdQ_no f hq
      rw [y1, y2]
      exact f
    · have h1 : (w : Int) = 1 := eq_of_beq h1
      obtain rfl : w = 1 := by omega
      have s3 : (⟨#[49]⟩ : ByteArray).size = 1 := rfl
      refine ⟨by omega, ⟨0, ⟨Nat.zero_le _, rfl⟩, rfl, by simp only [and_self, tx2, tx3]⟩, fun j hj => ⟨fun hd => ?_, fun hd => ?_⟩⟩
      · have hd := of_decide_eq_true hd
        have s2 := tx2_sz i j
        have s3 : clB.size = 1 := rfl
        have hw2 : IntKind.i64.wrap ((j : Int) + 1) = ((j + 1 : Nat) : Int) := by rw [IntWalk.i64_in _ (by omega)]; omega
        exact ⟨by omega, j + 1, ⟨by omega, rfl⟩, by omega, hw2, by simp only [and_self, tx1, tx2, tx3]⟩
      · have hd := of_decide_eq_false hd
        obtain rfl : j = i := by have := hj.1; omega
        have f := fin_of (P := fun k => pdQ k 33 (tx2 k k ++ ⟨#[59, 125]⟩) = true) pd_B hk.1 hk.2
        have s2 := tx2_sz j j
        have s4 : (tx2 j j ++ ⟨#[59, 125]⟩).size = (tx2 j j).size + 2 := ByteArray.size_append
        have s3 : (⟨#[59, 125]⟩ : ByteArray).size = 2 := rfl
        refine ⟨by omega, by omega, fun hq => pdQ_yes f hq, fun hq => ?_⟩
        have f := pdQ_no f hq
        rw [y1, y2]
        exact f
    · have h0 : (w : Int) ≠ 0 := ne_of_beq_false h0
      have h1 : (w : Int) ≠ 1 := ne_of_beq_false h1
      obtain rfl : w = 2 := by omega
      refine ⟨⟨0, ⟨Nat.zero_le _, rfl⟩, rfl, by simp only [and_self, tx2, tx3]⟩, fun j hj => ⟨fun hd => ?_, fun hd => ?_⟩⟩
      · have hd := of_decide_eq_true hd
        have s2 := tx3_sz i j
        have s3 : cbB.size = 1 := rfl
        have hw2 : IntKind.i64.wrap ((j : Int) + 1) = ((j + 1 : Nat) : Int) := by rw [IntWalk.i64_in _ (by omega)]; omega
        exact ⟨by omega, j + 1, ⟨by omega, rfl⟩, by omega, hw2, by simp only [and_self, tx1, tx2, tx3]⟩
      · have hd := of_decide_eq_false hd
        obtain rfl : j = i := by have := hj.1; omega
        have f := fin_of (P := fun k => pdQ k 306 (tx3 k k ++ cbB) = true) pd_C hk.1 hk.2
        have s2 := tx3_sz j j
        have s4 : (tx3 j j ++ cbB).size = (tx3 j j).size + 1 := ByteArray.size_append
        have s3 : cbB.size = 1 := rfl
        refine ⟨by omega, by omega, fun hq => pdQ_yes f hq, fun hq => ?_⟩
        have f := pdQ_no f hq
        rw [y1, y2]
        exact f
  · trivial
end Go.Proofs.Ytbhbjhejkamlnaa.Sx.Z
