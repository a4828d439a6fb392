/-
  eval.Linear.
-/
import Derived.Test.YtbcbcambkjhhhaaProg
import Derived.ChangeArms
import Derived.OpenShut
import Derived.WideShapes
import Derived.ChangeShapes
import Derived.Carry
import Derived.DataReads
import Derived.KernelRfl
import Derived.Deep.LoopGhost
import Derived.Laws.Append
import Derived.Laws.AppendOwn
import Derived.Laws.MakeOwn
import Derived.Laws.StructEq
import Derived.Laws.Cells
import Derived.Laws.CopyRow
import Derived.Laws.Rows
import Derived.Below
import Derived.Orders
import Derived.ChangeKeysEq
import Derived.IntWalk
import Derived.Laws.Bits64
import Derived.Test.YtbcbcambkjhhhaaMA
import Derived.Test.YtbcbcambkjhhhaaMB
import Derived.Test.YtbcbcambkjhhhaaMC
import Derived.Test.YtbcbcambkjhhhaaMD
import Derived.Test.YtbcbcambkjhhhaaME
import Derived.Test.YtbcbcambkjhhhaaMF
import Derived.Test.YtbcbcambkjhhhaaMG
import Derived.Test.YtbcbcambkjhhhaaMH
import Derived.Test.YtbcbcambkjhhhaaMI
import Derived.Test.YtbcbcambkjhhhaaMJ
import Derived.Test.YtbcbcambkjhhhaaMK
import Derived.Test.YtbcbcambkjhhhaaML
import Derived.Test.YtbcbcambkjhhhaaMM
import Derived.Test.YtbcbcambkjhhhaaMj1
import Derived.Test.YtbcbcambkjhhhaaMN
namespace Go.Proofs.Ytbcbcambkjhhhaa.Sx.Z
open Go.RowKit
def xpA : AP := .agg [.c (.int .i64), .c (.int .i64), .c (.int .i64), .c (.rows 32)]
def amtP (x b : Int) : Option (Int × Int) := if b < -1099511627776 ∨ b > 1099511627776 then none else some (x, b)
def combP (k : Int) (l r : Option (Int × Int)) : Option (Int × Int) := match l, r with
  | some (x, m), some (y, b) => if k = 5 ∧ y = -1 then amtP x (IntKind.i64.wrap (m - b)) else if k = 4 ∧ y = -1 then amtP x (IntKind.i64.wrap (m + b)) else if k = 4 ∧ x = -1 then amtP y (IntKind.i64.wrap (m + b)) else none
  | _, _ => none
def linP : Xp → Option (Int × Int)
  | .mk k n v kids => if k = 1 then amtP (-1) n else if k = 2 then some (v, 0) else if k = 4 ∨ k = 5 then (match kids with | [a, b] => combP k (linP a) (linP b) | _ => none) else none
theorem lin_eq (k n v : Int) (d : D) : linP (ex k n v d) = if k = 1 then amtP (-1) n else if k = 2 then some (v, 0) else if (k = 4 ∨ k = 5) ∧ d.len = 2 then combP k (linP (exE d 0)) (linP (exE d 1)) else none := by
  show linP (.mk k n v (exs d)) = _
  by_cases h2 : d.len = 2
  · rw [exs_two h2, linP]; simp [h2]
  · rw [linP.eq_2 _ _ _ _ (fun a b => exs_ne2 h2 a b)]; simp [h2]
def oX (o : Option (Int × Int)) : Int := match o with | some p => p.1 | none => 0
def oY (o : Option (Int × Int)) : Int := match o with | some p => p.2 | none => 0
def oB (o : Option (Int × Int)) : Bool := o.isSome
theorem oX_some (p : Int × Int) : oX (some p) = p.1 := rfl
theorem oY_some (p : Int × Int) : oY (some p) = p.2 := rfl
theorem oB_some (p : Int × Int) : oB (some p) = true := rfl
theorem oX_none : oX none = 0 := rfl
theorem oY_none : oY none = 0 := rfl
theorem oB_none : oB none = false := rfl
theorem comb_some (k x m y b : Int) : combP k (some (x, m)) (some (y, b)) = if k = 5 ∧ y = -1 then amtP x (IntKind.i64.wrap (m - b)) else if k = 4 ∧ y = -1 then amtP x (IntKind.i64.wrap (m + b)) else if k = 4 ∧ x = -1 then amtP y (IntKind.i64.wrap (m + b)) else none := rfl
theorem comb_l (k : Int) (r : Option (Int × Int)) : combP k none r = none := rfl
theorem comb_r (k : Int) (l : Option (Int × Int)) : combP k l none = none := by cases l <;> rfl
noncomputable def amountS : FSpec := fun ds _ => match ds with
  | [.i x, .i b] => some { val := .tup [.sc (.int .i64 (.sym (oX (amtP x b)))), .sc (.int .i64 (.sym (oY (amtP x b)))), .sc (.bool (.sym (oB (amtP x b))))], vc := [] }
  | _ => none
noncomputable def amountC : Con := con [iA, iA] amountS
theorem amount_ok : ConOK Try.prog 82 amountC := by
  refine fn_ob tt_ok mixed Try.func82 rfl (fun _ _ => by kernel_rfl) (A := fun ds => ⟨fun _ => Cons.of [], fun _ => none, fun _ => none⟩) (fun _ _ => cons_nil) (by kernel_rfl) ?_
  intro ds fr
  unfold amountS
  split
  · rename_i x b
    refine kmp (q := ((decide (b < (-1099511627776 : Int)) || decide (b > (1099511627776 : Int))) = true →
 (0 : Int) = oX (amtP x b) ∧ (0 : Int) = oY (amtP x b) ∧ false = oB (amtP x b)) ∧
 ((decide (b < (-1099511627776 : Int)) || decide (b > (1099511627776 : Int))) = false → x = oX (amtP x b) ∧ b = oY (amtP x b) ∧ true = oB (amtP x b))) (by kernel_rfl) ?_
    unfold amtP
    by_cases h : b < -1099511627776 ∨ b > 1099511627776
    · rw [if_pos h]; simp [oX, oY, oB]; omega
    · rw [if_neg h]; simp [oX, oY, oB]; omega
  · trivial
noncomputable def linS : FSpec := fun ds _ => match ds with
  | [.i k, .i n, .i v, .d d] => some { val := .tup [.sc (.int .i64 (.sym (oX (linP (ex k n v d))))), .sc (.int .i64 (.sym (oY (linP (ex k n v d))))), .sc (.bool (.sym (oB (linP (ex k n v d)))))], vc := [] }
  | _ => none
noncomputable def linC : Con := con [xpA] linS
noncomputable def linM : List Dat → Nat := fun ds => match ds with
  | [.i _k, .i _n, .i _v, .d d] => SizeOf.sizeOf d
  | _ => 0
noncomputable def linSu (m : Nat) : FSpec := fun ds _ => match ds with
  | [.i k, .i n, .i v, .d d] => some { val := .tup [.sc (.int .i64 (.sym (oX (linP (ex k n v d))))), .sc (.int .i64 (.sym (oY (linP (ex k n v d))))), .sc (.bool (.sym (oB (linP (ex k n v d)))))], vc := [SizeOf.sizeOf d < m] }
  | _ => none
theorem lin_under (m : Nat) : linS.under linM m = linSu m := by
  funext ds fr
  unfold FSpec.under linS linM linSu
  split
  · rename_i e h
    split at h
    · obtain rfl := Option.some.inj h; rfl
    · cases h
  · rename_i h
    split at h
    · cases h
    · rfl
noncomputable def combinedS (m : Nat) : FSpec := fun ds _ => match ds with
  | [.i c, .i k, .i n, .i v, .d d, .i k2, .i n2, .i v2, .d d2] => some { val := .tup [.sc (.int .i64 (.sym (oX (combP c (linP (ex k n v d)) (linP (ex k2 n2 v2 d2)))))), .sc (.int .i64 (.sym (oY (combP c (linP (ex k n v d)) (linP (ex k2 n2 v2 d2)))))), .sc (.bool (.sym (oB (combP c (linP (ex k n v d)) (linP (ex k2 n2 v2 d2))))))], vc := [SizeOf.sizeOf d < m, SizeOf.sizeOf d2 < m] }
  | _ => none
noncomputable def combinedC (m : Nat) : Con := con [iA, xpA, xpA] (combinedS m)
theorem combined_ok {m : Nat} (ih : ConOK Try.prog 37 (con [xpA] (linSu m))) : ConOK Try.prog 83 (combinedC m) := by
  refine fn_ob tt_ok mixed Try.func83 rfl (fun _ _ => by kernel_rfl) (A := fun ds => ⟨fun _ => Cons.of [(37, con [xpA] (linSu m)), (82, amountC)], fun _ => none, fun _ => none⟩) (fun _ _ => (cons_cons ih (cons_cons amount_ok cons_nil))) (by kernel_rfl) ?_
  intro ds fr
  unfold combinedS
  split
  · rename_i c k n v d k2 n2 v2 d2
    refine kmp (q := SizeOf.sizeOf d < m →
 SizeOf.sizeOf d2 < m →
 SizeOf.sizeOf d < m ∧
 SizeOf.sizeOf d2 < m ∧
 ((!oB (linP (ex k n v d)) || !oB (linP (ex k2 n2 v2 d2))) = true →
 (0 : Int) = oX (combP c (linP (ex k n v d)) (linP (ex k2 n2 v2 d2))) ∧
 (0 : Int) = oY (combP c (linP (ex k n v d)) (linP (ex k2 n2 v2 d2))) ∧ false = oB (combP c (linP (ex k n v d)) (linP (ex k2 n2 v2 d2)))) ∧
 ((!oB (linP (ex k n v d)) || !oB (linP (ex k2 n2 v2 d2))) = false →
 ((c == (5 : Int) && oX (linP (ex k2 n2 v2 d2)) == (-1 : Int)) = true →
 oX (amtP (oX (linP (ex k n v d))) (IntKind.i64.wrap (oY (linP (ex k n v d)) - oY (linP (ex k2 n2 v2 d2))))) =
 oX (combP c (linP (ex k n v d)) (linP (ex k2 n2 v2 d2))) ∧
 oY (amtP (oX (linP (ex k n v d))) (IntKind.i64.wrap (oY (linP (ex k n v d)) - oY (linP (ex k2 n2 v2 d2))))) =
 oY (combP c (linP (ex k n v d)) (linP (ex k2 n2 v2 d2))) ∧
 oB (amtP (oX (linP (ex k n v d))) (IntKind.i64.wrap (oY (linP (ex k n v d)) - oY (linP (ex k2 n2 v2 d2))))) =
 oB (combP c (linP (ex k n v d)) (linP (ex k2 n2 v2 d2)))) ∧
 ((c == (5 : Int) && oX (linP (ex k2 n2 v2 d2)) == (-1 : Int)) = false →
 ((c == (4 : Int) && oX (linP (ex k2 n2 v2 d2)) == (-1 : Int)) = true →
 oX (amtP (oX (linP (ex k n v d))) (IntKind.i64.wrap (oY (linP (ex k n v d)) + oY (linP (ex k2 n2 v2 d2))))) =
 oX (combP c (linP (ex k n v d)) (linP (ex k2 n2 v2 d2))) ∧
 oY (amtP (oX (linP (ex k n v d))) (IntKind.i64.wrap (oY (linP (ex k n v d)) + oY (linP (ex k2 n2 v2 d2))))) =
 oY (combP c (linP (ex k n v d)) (linP (ex k2 n2 v2 d2))) ∧
 oB (amtP (oX (linP (ex k n v d))) (IntKind.i64.wrap (oY (linP (ex k n v d)) + oY (linP (ex k2 n2 v2 d2))))) =
 oB (combP c (linP (ex k n v d)) (linP (ex k2 n2 v2 d2)))) ∧
 ((c == (4 : Int) && oX (linP (ex k2 n2 v2 d2)) == (-1 : Int)) = false →
 ((c == (4 : Int) && oX (linP (ex k n v d)) == (-1 : Int)) = true →
 oX (amtP (oX (linP (ex k2 n2 v2 d2))) (IntKind.i64.wrap (oY (linP (ex k n v d)) + oY (linP (ex k2 n2 v2 d2))))) =
 oX (combP c (linP (ex k n v d)) (linP (ex k2 n2 v2 d2))) ∧
 oY (amtP (oX (linP (ex k2 n2 v2 d2))) (IntKind.i64.wrap (oY (linP (ex k n v d)) + oY (linP (ex k2 n2 v2 d2))))) =
 oY (combP c (linP (ex k n v d)) (linP (ex k2 n2 v2 d2))) ∧
 oB (amtP (oX (linP (ex k2 n2 v2 d2))) (IntKind.i64.wrap (oY (linP (ex k n v d)) + oY (linP (ex k2 n2 v2 d2))))) =
 oB (combP c (linP (ex k n v d)) (linP (ex k2 n2 v2 d2)))) ∧
 ((c == (4 : Int) && oX (linP (ex k n v d)) == (-1 : Int)) = false →
 (0 : Int) = oX (combP c (linP (ex k n v d)) (linP (ex k2 n2 v2 d2))) ∧
 (0 : Int) = oY (combP c (linP (ex k n v d)) (linP (ex k2 n2 v2 d2))) ∧
 false = oB (combP c (linP (ex k n v d)) (linP (ex k2 n2 v2 d2)))))))) (by kernel_rfl) ?_
    intro h1 h2
    refine ⟨h1, h2, ?_⟩
    generalize linP (ex k n v d) = L
    generalize linP (ex k2 n2 v2 d2) = R
    rcases L with _ | ⟨x, a⟩ <;> rcases R with _ | ⟨y, b⟩ <;> simp only [comb_l, comb_r, comb_some, oX_some, oY_some, oB_some, oX_none, oY_none, oB_none] <;> (repeat' first | apply And.intro | intro _) <;> grind [oX_none, oY_none, oB_none]
  · trivial
theorem lin_step (m : Nat) (ih : ConOK Try.prog 37 (con [xpA] (linSu m))) : ConOK Try.prog 37 (con [xpA] (linSu (m + 1))) := by
  refine fn_ob tt_ok mixed Try.func37 rfl (fun _ _ => by kernel_rfl) (A := fun ds => ⟨fun _ => Cons.of [(83, (combinedC m)), (82, amountC)], fun _ => none, fun _ => none⟩) (fun _ _ => (cons_cons (combined_ok ih) (cons_cons amount_ok cons_nil))) (by kernel_rfl) ?_
  intro ds fr
  unfold linSu
  split
  · rename_i k n v d
    refine kmp (q := SizeOf.sizeOf d < m + (1 : Nat) →
 ((k == (1 : Int)) = true →
 oX (amtP (-1 : Int) n) = oX (linP (ex k n v d)) ∧ oY (amtP (-1 : Int) n) = oY (linP (ex k n v d)) ∧ oB (amtP (-1 : Int) n) = oB (linP (ex k n v d))) ∧
 ((k == (1 : Int)) = false →
 ((k == (2 : Int)) = true → v = oX (linP (ex k n v d)) ∧ (0 : Int) = oY (linP (ex k n v d)) ∧ true = oB (linP (ex k n v d))) ∧
 ((k == (2 : Int)) = false →
 (((k == (4 : Int) || k == (5 : Int)) && (↑d.len : Int) == (2 : Int)) = true →
 nat_lit 0 < d.len ∧
 nat_lit 1 < d.len ∧
 SizeOf.sizeOf (d.el (nat_lit 0) ((0 : Nat) + (1 : Nat) + (1 : Nat) + (1 : Nat))) < m ∧
 SizeOf.sizeOf (d.el (nat_lit 1) ((0 : Nat) + (1 : Nat) + (1 : Nat) + (1 : Nat))) < m ∧
 oX
 (combP k
 (linP
 (ex (d.el (nat_lit 0) (0 : Nat)).toI (d.el (nat_lit 0) ((0 : Nat) + (1 : Nat))).toI
 (d.el (nat_lit 0) ((0 : Nat) + (1 : Nat) + (1 : Nat))).toI
 (d.el (nat_lit 0) ((0 : Nat) + (1 : Nat) + (1 : Nat) + (1 : Nat)))))
 (linP
 (ex (d.el (nat_lit 1) (0 : Nat)).toI (d.el (nat_lit 1) ((0 : Nat) + (1 : Nat))).toI
 (d.el (nat_lit 1) ((0 : Nat) + (1 : Nat) + (1 : Nat))).toI
 (d.el (nat_lit 1) ((0 : Nat) + (1 : Nat) + (1 : Nat) + (1 : Nat)))))) =
 oX (linP (ex k n v d)) ∧
 oY
 (combP k
 (linP
 (ex (d.el (nat_lit 0) (0 : Nat)).toI (d.el (nat_lit 0) ((0 : Nat) + (1 : Nat))).toI
 (d.el (nat_lit 0) ((0 : Nat) + (1 : Nat) + (1 : Nat))).toI
 (d.el (nat_lit 0) ((0 : Nat) + (1 : Nat) + (1 : Nat) + (1 : Nat)))))
 (linP
 (ex (d.el (nat_lit 1) (0 : Nat)).toI (d.el (nat_lit 1) ((0 : Nat) + (1 : Nat))).toI
 (d.el (nat_lit 1) ((0 : Nat) + (1 : Nat) + (1 : Nat))).toI
 (d.el (nat_lit 1) ((0 : Nat) + (1 : Nat) + (1 : Nat) + (1 : Nat)))))) =
 oY (linP (ex k n v d)) ∧
 oB
 (combP k
 (linP
 (ex (d.el (nat_lit 0) (0 : Nat)).toI (d.el (nat_lit 0) ((0 : Nat) + (1 : Nat))).toI
 (d.el (nat_lit 0) ((0 : Nat) + (1 : Nat) + (1 : Nat))).toI
 (d.el (nat_lit 0) ((0 : Nat) + (1 : Nat) + (1 : Nat) + (1 : Nat)))))
 (linP
 (ex (d.el (nat_lit 1) (0 : Nat)).toI (d.el (nat_lit 1) ((0 : Nat) + (1 : Nat))).toI
 (d.el (nat_lit 1) ((0 : Nat) + (1 : Nat) + (1 : Nat))).toI
 (d.el (nat_lit 1) ((0 : Nat) + (1 : Nat) + (1 : Nat) + (1 : Nat)))))) =
 oB (linP (ex k n v d))) ∧
 (((k == (4 : Int) || k == (5 : Int)) && (↑d.len : Int) == (2 : Int)) = false →
 (0 : Int) = oX (linP (ex k n v d)) ∧ (0 : Int) = oY (linP (ex k n v d)) ∧ false = oB (linP (ex k n v d)))))) (by kernel_rfl) ?_
    intro hm
    have e0 : ∀ i, ex (d.el i 0).toI (d.el i (0 + 1)).toI (d.el i (0 + 1 + 1)).toI (d.el i (0 + 1 + 1 + 1)) = exE d i := fun i => rfl
    simp only [e0, lin_eq k n v d]
    have z : ∀ i, i < d.len → SizeOf.sizeOf (d.el i (0 + 1 + 1 + 1)) < m := fun i hi => by have := el_lt (j := 0 + 1 + 1 + 1) hi; omega
    (repeat' first | apply And.intro | intro _) <;> grind [oX_some, oY_some, oB_some, oX_none, oY_none, oB_none]
  · trivial
theorem lin_ok : ConOK Try.prog 37 linC :=
  con_rec linM (fun _ _ => by kernel_rfl) fun m ih => by
    rw [lin_under] at ih ⊢
    exact lin_step m ih
end Go.Proofs.Ytbcbcambkjhhhaa.Sx.Z
namespace Go.Proofs.Ytbcbcambkjhhhaa.Sx.Z
open Go.RowKit
def rxpA : AP := .agg [.c (.int .i64), .c (.int .i64), .c (.int .i64), .c (.rows 24)]
def kid (e : Xp) (i : Nat) : Xp := e.kids.getD i (.mk 0 0 0 [])
theorem kid_ex {k n v : Int} {d : D} {i : Nat} (h : i < d.len) : kid (ex k n v d) i = exE d i := by
  show (exs d).getD i _ = _
  rw [List.getD_eq_getElem?_getD, exs_get h]; rfl
theorem kids_len (k n v : Int) (d : D) : (ex k n v d).kids.length = d.len := exs_len d
/-- No expression has too many parts. -/
inductive Small : Xp → Prop
  | mk (k n v : Int) (kids : List Xp) : kids.length ≤ 1000000 → (∀ x, x ∈ kids → Small x) → Small (.mk k n v kids)
theorem small_ex {k n v : Int} {d : D} (h : Small (ex k n v d)) : d.len ≤ 1000000 ∧ ∀ i, i < d.len → Small (exE d i) := by
  cases h with
  | mk _ _ _ _ h1 h2 =>
    rw [exs_len] at h1
    exact ⟨h1, fun i hi => h2 _ (List.mem_of_getElem? (exs_get hi))⟩
def modU (a b : Int) : Int := IntKind.i64.wrap ((IntKind.u64.wrap a).tmod (IntKind.u64.wrap b))
def leafT (w : Int) (e : Xp) : Xp := if e.k = 2 then .mk 2 0 (modU e.v w) [] else .mk 1 (modU e.n 2147483648) 0 []
def tamP (w : Int) : Nat → Xp → Xp
  | 0, e => leafT w e
  | m + 1, e => if (4 ≤ e.k ∧ e.k ≤ 8) ∧ e.kids.length = 2 then .mk e.k 0 0 [tamP w m (kid e 0), tamP w m (kid e 1)] else if e.k = 3 ∧ e.kids.length = 1 then .mk 3 0 0 [tamP w m (kid e 0)] else leafT w e
theorem tam_eq (w : Int) (m : Nat) (k n v : Int) (d : D) : tamP w m (ex k n v d) = if (4 ≤ k ∧ k ≤ 8) ∧ d.len = 2 ∧ 0 < m then .mk k 0 0 [tamP w (m - 1) (exE d 0), tamP w (m - 1) (exE d 1)] else if k = 3 ∧ d.len = 1 ∧ 0 < m then .mk 3 0 0 [tamP w (m - 1) (exE d 0)] else if k = 2 then .mk 2 0 (modU v w) [] else .mk 1 (modU n 2147483648) 0 [] := by
  have ek : (ex k n v d).k = k := rfl
  have en : (ex k n v d).n = n := rfl
  have ev : (ex k n v d).v = v := rfl
  cases m with
  | zero => simp [tamP, leafT, ek, en, ev]
  | succ m =>
    simp only [tamP, leafT, ek, en, ev, kids_len, Nat.succ_sub_one, Nat.zero_lt_succ, and_true]
    by_cases h : (4 ≤ k ∧ k ≤ 8) ∧ d.len = 2
    · rw [if_pos h, if_pos h, kid_ex (by omega), kid_ex (by omega)]
    · rw [if_neg h, if_neg h]
      by_cases h1 : k = 3 ∧ d.len = 1
      · rw [if_pos h1, if_pos h1, kid_ex (by omega)]
      · rw [if_neg h1, if_neg h1]
noncomputable def tameS : FSpec := fun ds _ => match ds with
  | [.i k, .i n, .i v, .d d, .i q, .i w] => some { val := .one (.agg [.c (.int .i64 (.sym (tamP w q.toNat (ex k n v d) : Xp).k)), .c (.int .i64 (.sym (tamP w q.toNat (ex k n v d) : Xp).n)), .c (.int .i64 (.sym (tamP w q.toNat (ex k n v d) : Xp).v)), .c (.rows 24 (dE (tamP w q.toNat (ex k n v d) : Xp).kids))]), vc := [0 ≤ q ∧ q ≤ 100, 1 ≤ w ∧ w ≤ 6] }
  | _ => none
noncomputable def tameC : Con := con [rxpA, iA, iA] tameS
noncomputable def tameM : List Dat → Nat := fun ds => match ds with
  | [.i _k, .i _n, .i _v, .d _d, .i q, .i _w] => q.toNat
  | _ => 0
noncomputable def tameSu (m : Nat) : FSpec := fun ds _ => match ds with
  | [.i k, .i n, .i v, .d d, .i q, .i w] => some { val := .one (.agg [.c (.int .i64 (.sym (tamP w q.toNat (ex k n v d) : Xp).k)), .c (.int .i64 (.sym (tamP w q.toNat (ex k n v d) : Xp).n)), .c (.int .i64 (.sym (tamP w q.toNat (ex k n v d) : Xp).v)), .c (.rows 24 (dE (tamP w q.toNat (ex k n v d) : Xp).kids))]), vc := [q.toNat < m, 0 ≤ q ∧ q ≤ 100, 1 ≤ w ∧ w ≤ 6] }
  | _ => none
theorem tame_under (m : Nat) : tameS.under tameM m = tameSu m := by
  funext ds fr
  unfold FSpec.under tameS tameM tameSu
  split
  · rename_i e h
    split at h
    · obtain rfl := Option.some.inj h; rfl
    · cases h
  · rename_i h
    split at h
    · cases h
    · rfl
theorem tame_step (m : Nat) (ih : ConOK Try.prog 36 (con [rxpA, iA, iA] (tameSu m))) : ConOK Try.prog 36 (con [rxpA, iA, iA] (tameSu (m + 1))) := by
  refine fn_ob tt_ok mixed Try.func36 rfl (fun _ _ => by kernel_rfl) (A := fun ds => ⟨fun _ => Cons.of [(36, con [rxpA, iA, iA] (tameSu m))], fun _ => none, fun _ => none⟩) (fun _ _ => (cons_cons ih cons_nil)) (by kernel_rfl) ?_
  intro ds fr
  unfold tameSu
  split
  · rename_i k n v d q w
    refine kmp (q := q.toNat < m + (1 : Nat) →
 (0 : Int) ≤ q ∧ q ≤ (100 : Int) →
 (1 : Int) ≤ w ∧ w ≤ (6 : Int) →
 ((decide (k ≥ (4 : Int)) && decide (k ≤ (8 : Int)) && (↑d.len : Int) == (2 : Int) && decide (q > (0 : Int))) = true →
 nat_lit 0 < d.len ∧
 (IntKind.i64.wrap (q - (1 : Int))).toNat < m ∧
 ((0 : Int) ≤ IntKind.i64.wrap (q - (1 : Int)) ∧ IntKind.i64.wrap (q - (1 : Int)) ≤ (100 : Int)) ∧
 ((1 : Int) ≤ w ∧ w ≤ (6 : Int)) ∧
 nat_lit 1 < d.len ∧
 (IntKind.i64.wrap (q - (1 : Int))).toNat < m ∧
 ((0 : Int) ≤ IntKind.i64.wrap (q - (1 : Int)) ∧ IntKind.i64.wrap (q - (1 : Int)) ≤ (100 : Int)) ∧
 ((1 : Int) ≤ w ∧ w ≤ (6 : Int)) ∧
 nat_lit 0 + nat_lit 2 ≤
 (D.l
 [[D.i
 (tamP w (IntKind.i64.wrap (q - (1 : Int))).toNat
 (ex (d.el (nat_lit 0) (0 : Nat)).toI (d.el (nat_lit 0) ((0 : Nat) + (1 : Nat))).toI
 (d.el (nat_lit 0) ((0 : Nat) + (1 : Nat) + (1 : Nat))).toI
 (d.el (nat_lit 0) ((0 : Nat) + (1 : Nat) + (1 : Nat) + (1 : Nat))))).k,
 D.i
 (tamP w (IntKind.i64.wrap (q - (1 : Int))).toNat
 (ex (d.el (nat_lit 0) (0 : Nat)).toI (d.el (nat_lit 0) ((0 : Nat) + (1 : Nat))).toI
 (d.el (nat_lit 0) ((0 : Nat) + (1 : Nat) + (1 : Nat))).toI
 (d.el (nat_lit 0) ((0 : Nat) + (1 : Nat) + (1 : Nat) + (1 : Nat))))).n,
 D.i
 (tamP w (IntKind.i64.wrap (q - (1 : Int))).toNat
 (ex (d.el (nat_lit 0) (0 : Nat)).toI (d.el (nat_lit 0) ((0 : Nat) + (1 : Nat))).toI
 (d.el (nat_lit 0) ((0 : Nat) + (1 : Nat) + (1 : Nat))).toI
 (d.el (nat_lit 0) ((0 : Nat) + (1 : Nat) + (1 : Nat) + (1 : Nat))))).v,
 dE
 (tamP w (IntKind.i64.wrap (q - (1 : Int))).toNat
 (ex (d.el (nat_lit 0) (0 : Nat)).toI (d.el (nat_lit 0) ((0 : Nat) + (1 : Nat))).toI
 (d.el (nat_lit 0) ((0 : Nat) + (1 : Nat) + (1 : Nat))).toI
 (d.el (nat_lit 0) ((0 : Nat) + (1 : Nat) + (1 : Nat) + (1 : Nat))))).kids],
 [D.i
 (tamP w (IntKind.i64.wrap (q - (1 : Int))).toNat
 (ex (d.el (nat_lit 1) (0 : Nat)).toI (d.el (nat_lit 1) ((0 : Nat) + (1 : Nat))).toI
 (d.el (nat_lit 1) ((0 : Nat) + (1 : Nat) + (1 : Nat))).toI
 (d.el (nat_lit 1) ((0 : Nat) + (1 : Nat) + (1 : Nat) + (1 : Nat))))).k,
 D.i
 (tamP w (IntKind.i64.wrap (q - (1 : Int))).toNat
 (ex (d.el (nat_lit 1) (0 : Nat)).toI (d.el (nat_lit 1) ((0 : Nat) + (1 : Nat))).toI
 (d.el (nat_lit 1) ((0 : Nat) + (1 : Nat) + (1 : Nat))).toI
 (d.el (nat_lit 1) ((0 : Nat) + (1 : Nat) + (1 : Nat) + (1 : Nat))))).n,
 D.i
 (tamP w (IntKind.i64.wrap (q - (1 : Int))).toNat
 (ex (d.el (nat_lit 1) (0 : Nat)).toI (d.el (nat_lit 1) ((0 : Nat) + (1 : Nat))).toI
 (d.el (nat_lit 1) ((0 : Nat) + (1 : Nat) + (1 : Nat))).toI
 (d.el (nat_lit 1) ((0 : Nat) + (1 : Nat) + (1 : Nat) + (1 : Nat))))).v,
 dE
 (tamP w (IntKind.i64.wrap (q - (1 : Int))).toNat
 (ex (d.el (nat_lit 1) (0 : Nat)).toI (d.el (nat_lit 1) ((0 : Nat) + (1 : Nat))).toI
 (d.el (nat_lit 1) ((0 : Nat) + (1 : Nat) + (1 : Nat))).toI
 (d.el (nat_lit 1) ((0 : Nat) + (1 : Nat) + (1 : Nat) + (1 : Nat))))).kids]]).len ∧
 k = (tamP w q.toNat (ex k n v d)).k ∧
 (0 : Int) = (tamP w q.toNat (ex k n v d)).n ∧
 (0 : Int) = (tamP w q.toNat (ex k n v d)).v ∧
 List.drop (nat_lit 0)
 (List.take (nat_lit 0 + nat_lit 2)
 [[D.i
 (tamP w (IntKind.i64.wrap (q - (1 : Int))).toNat
 (ex (d.el (nat_lit 0) (0 : Nat)).toI (d.el (nat_lit 0) ((0 : Nat) + (1 : Nat))).toI
 (d.el (nat_lit 0) ((0 : Nat) + (1 : Nat) + (1 : Nat))).toI
 (d.el (nat_lit 0) ((0 : Nat) + (1 : Nat) + (1 : Nat) + (1 : Nat))))).k,
 D.i
 (tamP w (IntKind.i64.wrap (q - (1 : Int))).toNat
 (ex (d.el (nat_lit 0) (0 : Nat)).toI (d.el (nat_lit 0) ((0 : Nat) + (1 : Nat))).toI
 (d.el (nat_lit 0) ((0 : Nat) + (1 : Nat) + (1 : Nat))).toI
 (d.el (nat_lit 0) ((0 : Nat) + (1 : Nat) + (1 : Nat) + (1 : Nat))))).n,
 D.i
 (tamP w (IntKind.i64.wrap (q - (1 : Int))).toNat
 (ex (d.el (nat_lit 0) (0 : Nat)).toI (d.el (nat_lit 0) ((0 : Nat) + (1 : Nat))).toI
 (d.el (nat_lit 0) ((0 : Nat) + (1 : Nat) + (1 : Nat))).toI
 (d.el (nat_lit 0) ((0 : Nat) + (1 : Nat) + (1 : Nat) + (1 : Nat))))).v,
 dE
 (tamP w (IntKind.i64.wrap (q - (1 : Int))).toNat
 (ex (d.el (nat_lit 0) (0 : Nat)).toI (d.el (nat_lit 0) ((0 : Nat) + (1 : Nat))).toI
 (d.el (nat_lit 0) ((0 : Nat) + (1 : Nat) + (1 : Nat))).toI
 (d.el (nat_lit 0) ((0 : Nat) + (1 : Nat) + (1 : Nat) + (1 : Nat))))).kids],
 [D.i
 (tamP w (IntKind.i64.wrap (q - (1 : Int))).toNat
 (ex (d.el (nat_lit 1) (0 : Nat)).toI (d.el (nat_lit 1) ((0 : Nat) + (1 : Nat))).toI
 (d.el (nat_lit 1) ((0 : Nat) + (1 : Nat) + (1 : Nat))).toI
 (d.el (nat_lit 1) ((0 : Nat) + (1 : Nat) + (1 : Nat) + (1 : Nat))))).k,
 D.i
 (tamP w (IntKind.i64.wrap (q - (1 : Int))).toNat
 (ex (d.el (nat_lit 1) (0 : Nat)).toI (d.el (nat_lit 1) ((0 : Nat) + (1 : Nat))).toI
 (d.el (nat_lit 1) ((0 : Nat) + (1 : Nat) + (1 : Nat))).toI
 (d.el (nat_lit 1) ((0 : Nat) + (1 : Nat) + (1 : Nat) + (1 : Nat))))).n,
 D.i
 (tamP w (IntKind.i64.wrap (q - (1 : Int))).toNat
 (ex (d.el (nat_lit 1) (0 : Nat)).toI (d.el (nat_lit 1) ((0 : Nat) + (1 : Nat))).toI
 (d.el (nat_lit 1) ((0 : Nat) + (1 : Nat) + (1 : Nat))).toI
 (d.el (nat_lit 1) ((0 : Nat) + (1 : Nat) + (1 : Nat) + (1 : Nat))))).v,
 dE
 (tamP w (IntKind.i64.wrap (q - (1 : Int))).toNat
 (ex (d.el (nat_lit 1) (0 : Nat)).toI (d.el (nat_lit 1) ((0 : Nat) + (1 : Nat))).toI
 (d.el (nat_lit 1) ((0 : Nat) + (1 : Nat) + (1 : Nat))).toI
 (d.el (nat_lit 1) ((0 : Nat) + (1 : Nat) + (1 : Nat) + (1 : Nat))))).kids]]) =
 List.map encE (tamP w q.toNat (ex k n v d)).kids) ∧
 ((decide (k ≥ (4 : Int)) && decide (k ≤ (8 : Int)) && (↑d.len : Int) == (2 : Int) && decide (q > (0 : Int))) = false →
 ((k == (3 : Int) && (↑d.len : Int) == (1 : Int) && decide (q > (0 : Int))) = true →
 nat_lit 0 < d.len ∧
 (IntKind.i64.wrap (q - (1 : Int))).toNat < m ∧
 ((0 : Int) ≤ IntKind.i64.wrap (q - (1 : Int)) ∧ IntKind.i64.wrap (q - (1 : Int)) ≤ (100 : Int)) ∧
 ((1 : Int) ≤ w ∧ w ≤ (6 : Int)) ∧
 nat_lit 0 + nat_lit 1 ≤
 (D.l
 [[D.i
 (tamP w (IntKind.i64.wrap (q - (1 : Int))).toNat
 (ex (d.el (nat_lit 0) (0 : Nat)).toI (d.el (nat_lit 0) ((0 : Nat) + (1 : Nat))).toI
 (d.el (nat_lit 0) ((0 : Nat) + (1 : Nat) + (1 : Nat))).toI
 (d.el (nat_lit 0) ((0 : Nat) + (1 : Nat) + (1 : Nat) + (1 : Nat))))).k,
 D.i
 (tamP w (IntKind.i64.wrap (q - (1 : Int))).toNat
 (ex (d.el (nat_lit 0) (0 : Nat)).toI (d.el (nat_lit 0) ((0 : Nat) + (1 : Nat))).toI
 (d.el (nat_lit 0) ((0 : Nat) + (1 : Nat) + (1 : Nat))).toI
 (d.el (nat_lit 0) ((0 : Nat) + (1 : Nat) + (1 : Nat) + (1 : Nat))))).n,
 D.i
 (tamP w (IntKind.i64.wrap (q - (1 : Int))).toNat
 (ex (d.el (nat_lit 0) (0 : Nat)).toI (d.el (nat_lit 0) ((0 : Nat) + (1 : Nat))).toI
 (d.el (nat_lit 0) ((0 : Nat) + (1 : Nat) + (1 : Nat))).toI
 (d.el (nat_lit 0) ((0 : Nat) + (1 : Nat) + (1 : Nat) + (1 : Nat))))).v,
 dE
 (tamP w (IntKind.i64.wrap (q - (1 : Int))).toNat
 (ex (d.el (nat_lit 0) (0 : Nat)).toI (d.el (nat_lit 0) ((0 : Nat) + (1 : Nat))).toI
 (d.el (nat_lit 0) ((0 : Nat) + (1 : Nat) + (1 : Nat))).toI
 (d.el (nat_lit 0) ((0 : Nat) + (1 : Nat) + (1 : Nat) + (1 : Nat))))).kids]]).len ∧
 (3 : Int) = (tamP w q.toNat (ex k n v d)).k ∧
 (0 : Int) = (tamP w q.toNat (ex k n v d)).n ∧
 (0 : Int) = (tamP w q.toNat (ex k n v d)).v ∧
 List.drop (nat_lit 0)
 (List.take (nat_lit 0 + nat_lit 1)
 [[D.i
 (tamP w (IntKind.i64.wrap (q - (1 : Int))).toNat
 (ex (d.el (nat_lit 0) (0 : Nat)).toI (d.el (nat_lit 0) ((0 : Nat) + (1 : Nat))).toI
 (d.el (nat_lit 0) ((0 : Nat) + (1 : Nat) + (1 : Nat))).toI
 (d.el (nat_lit 0) ((0 : Nat) + (1 : Nat) + (1 : Nat) + (1 : Nat))))).k,
 D.i
 (tamP w (IntKind.i64.wrap (q - (1 : Int))).toNat
 (ex (d.el (nat_lit 0) (0 : Nat)).toI (d.el (nat_lit 0) ((0 : Nat) + (1 : Nat))).toI
 (d.el (nat_lit 0) ((0 : Nat) + (1 : Nat) + (1 : Nat))).toI
 (d.el (nat_lit 0) ((0 : Nat) + (1 : Nat) + (1 : Nat) + (1 : Nat))))).n,
 D.i
 (tamP w (IntKind.i64.wrap (q - (1 : Int))).toNat
 (ex (d.el (nat_lit 0) (0 : Nat)).toI (d.el (nat_lit 0) ((0 : Nat) + (1 : Nat))).toI
 (d.el (nat_lit 0) ((0 : Nat) + (1 : Nat) + (1 : Nat))).toI
 (d.el (nat_lit 0) ((0 : Nat) + (1 : Nat) + (1 : Nat) + (1 : Nat))))).v,
 dE
 (tamP w (IntKind.i64.wrap (q - (1 : Int))).toNat
 (ex (d.el (nat_lit 0) (0 : Nat)).toI (d.el (nat_lit 0) ((0 : Nat) + (1 : Nat))).toI
 (d.el (nat_lit 0) ((0 : Nat) + (1 : Nat) + (1 : Nat))).toI
 (d.el (nat_lit 0) ((0 : Nat) + (1 : Nat) + (1 : Nat) + (1 : Nat))))).kids]]) =
 List.map encE (tamP w q.toNat (ex k n v d)).kids) ∧
 ((k == (3 : Int) && (↑d.len : Int) == (1 : Int) && decide (q > (0 : Int))) = false →
 ((k == (2 : Int)) = true →
 IntKind.u64.wrap w ≠ (0 : Int) ∧
 (2 : Int) = (tamP w q.toNat (ex k n v d)).k ∧
 (0 : Int) = (tamP w q.toNat (ex k n v d)).n ∧
 IntKind.i64.wrap ((IntKind.u64.wrap v).tmod (IntKind.u64.wrap w)) = (tamP w q.toNat (ex k n v d)).v ∧
 List.map encE (tamP w q.toNat (ex k n v d)).kids = []) ∧
 ((k == (2 : Int)) = false →
 (1 : Int) = (tamP w q.toNat (ex k n v d)).k ∧
 IntKind.i64.wrap ((IntKind.u64.wrap n).tmod (2147483648 : Int)) = (tamP w q.toNat (ex k n v d)).n ∧
 (0 : Int) = (tamP w q.toNat (ex k n v d)).v ∧ List.map encE (tamP w q.toNat (ex k n v d)).kids = [])))) (by kernel_rfl) ?_
    intro hm h1 h2
    have e0 : ∀ i, ex (d.el i 0).toI (d.el i (0 + 1)).toI (d.el i (0 + 1 + 1)).toI (d.el i (0 + 1 + 1 + 1)) = exE d i := fun i => rfl
    have enc : ∀ t : Xp, [D.i t.k, D.i t.n, D.i t.v, dE t.kids] = encE t := fun t => (encE_eq t).symm
    simp only [e0, enc, tam_eq w q.toNat k n v d]
    by_cases c1 : (4 ≤ k ∧ k ≤ 8) ∧ d.len = 2 ∧ 0 < q.toNat
    · have hw : IntKind.i64.wrap (q - 1) = q - 1 := wr _ (by omega)
      have ht : (q - 1).toNat = q.toNat - 1 := by omega
      have cc : (decide (k ≥ 4) && decide (k ≤ 8) && (d.len : Int) == 2 && decide (q > 0)) = true := by simp; omega
      simp only [if_pos c1, hw, ht, cc, true_implies, Bool.true_eq_false, false_implies, and_true]
      refine ⟨by omega, by omega, by omega, h2, by omega, by omega, by omega, h2, by simp [D.len, D.rows], rfl, rfl, rfl, rfl⟩
    · have cc : (decide (k ≥ 4) && decide (k ≤ 8) && (d.len : Int) == 2 && decide (q > 0)) = false := by
        cases hb : (decide (k ≥ 4) && decide (k ≤ 8) && (d.len : Int) == 2 && decide (q > 0)) with
        | false => rfl
        | true => exfalso; simp at hb; omega
      simp only [if_neg c1, cc, true_implies, Bool.false_eq_true, false_implies, true_and]
      by_cases c2 : k = 3 ∧ d.len = 1 ∧ 0 < q.toNat
      · have hw : IntKind.i64.wrap (q - 1) = q - 1 := wr _ (by omega)
        have ht : (q - 1).toNat = q.toNat - 1 := by omega
        have cc : (k == 3 && (d.len : Int) == 1 && decide (q > 0)) = true := by simp; omega
        simp only [if_pos c2, hw, ht, cc, true_implies, Bool.true_eq_false, false_implies, and_true]
        refine ⟨by omega, by omega, by omega, h2, by simp [D.len, D.rows], rfl, rfl, rfl, rfl⟩
      · have cc : (k == 3 && (d.len : Int) == 1 && decide (q > 0)) = false := by
          cases hb : (k == 3 && (d.len : Int) == 1 && decide (q > 0)) with
          | false => rfl
          | true => exfalso; simp at hb; omega
        simp only [if_neg c2, cc, true_implies, Bool.false_eq_true, false_implies, true_and]
        have hw0 : IntKind.u64.wrap w ≠ 0 := by rw [IntKind.wrap_u64]; omega
        have hu : IntKind.u64.wrap 2147483648 = 2147483648 := by decide
        refine ⟨fun c3 => ?_, fun c3 => ?_⟩
        · have c3 : k = 2 := by simpa using c3
          simp only [if_pos c3]
          exact ⟨hw0, rfl, rfl, rfl, rfl⟩
        · have c3 : ¬ k = 2 := by simpa using c3
          simp only [if_neg c3]
          exact ⟨rfl, by show _ = modU n 2147483648; unfold modU; rw [hu], rfl, rfl⟩
  · trivial
theorem tame_ok : ConOK Try.prog 36 tameC :=
  con_rec tameM (fun _ _ => by kernel_rfl) fun m ih => by
    rw [tame_under] at ih ⊢
    exact tame_step m ih
noncomputable def copyXS : FSpec := fun ds _ => match ds with
  | [.i k, .i n, .i v, .d d] => some { val := .one (.agg [.c (.int .i64 (.sym (ex k n v d : Xp).k)), .c (.int .i64 (.sym (ex k n v d : Xp).n)), .c (.int .i64 (.sym (ex k n v d : Xp).v)), .c (.rows 32 (dE (ex k n v d : Xp).kids))]), vc := [Small (ex k n v d)] }
  | _ => none
noncomputable def copyXC : Con := con [rxpA] copyXS
noncomputable def copyXM : List Dat → Nat := fun ds => match ds with
  | [.i _k, .i _n, .i _v, .d d] => SizeOf.sizeOf d
  | _ => 0
noncomputable def copyXSu (m : Nat) : FSpec := fun ds _ => match ds with
  | [.i k, .i n, .i v, .d d] => some { val := .one (.agg [.c (.int .i64 (.sym (ex k n v d : Xp).k)), .c (.int .i64 (.sym (ex k n v d : Xp).n)), .c (.int .i64 (.sym (ex k n v d : Xp).v)), .c (.rows 32 (dE (ex k n v d : Xp).kids))]), vc := [SizeOf.sizeOf d < m, Small (ex k n v d)] }
  | _ => none
theorem copyX_under (m : Nat) : copyXS.under copyXM m = copyXSu m := by
  funext ds fr
  unfold FSpec.under copyXS copyXM copyXSu
  split
  · rename_i e h
    split at h
    · obtain rfl := Option.some.inj h; rfl
    · cases h
  · rename_i h
    split at h
    · cases h
    · rfl
theorem copyX_step (m : Nat) (ih : ConOK Try.prog 15 (con [rxpA] (copyXSu m))) : ConOK Try.prog 15 (con [rxpA] (copyXSu (m + 1))) := by
  refine fn_ob tt_ok mixed Try.func15 rfl (fun _ _ => by kernel_rfl) (A := fun ds => ⟨fun _ => Cons.of [(15, con [rxpA] (copyXSu m))], fun k => match k, ds with | 3, [.i k, .i n, .i v, .d d] => some { ι := Nat, pre := fun _ i => i ≤ d.len, μ := fun i => d.len + 1 - i, st := fun s i => famR s [(4, .one (.sc (.int .i64 (.sym ((i : Nat))))))] [1, 2, 3] [(idOf s 3, .own 32 ([.c (.int .i64 (.sym k)), .c (.int .i64 (.sym n)), .c (.int .i64 (.sym v)), .c (.osl 32 (s.nx - 1) (.lit 0) (.sym i))])), (s.nx - 1, .orow 32 (dE ((exs d).take i)))] [1, 2] } | _, _ => none, fun _ => none⟩) (fun _ _ => (cons_cons ih cons_nil)) (by kernel_rfl) ?_
  intro ds fr
  unfold copyXSu
  split
  · rename_i k n v d
    refine kmp (q := SizeOf.sizeOf d < m + (1 : Nat) →
 Small (ex k n v d) →
 (∃ (i : Nat),
 i.le d.len ∧
 (0 : Int) = (↑i : Int) ∧
 k = k ∧
 n = n ∧
 v = v ∧
 i = (0 : Nat) ∧
 List.map encE (List.take i (exs d)) = [] ∧
 k = k ∧ n = n ∧ v = v ∧ d.rows = d.rows ∧ (0 : Int) = (0 : Int) ∧ (0 : Int) = (0 : Int) ∧ (0 : Int) = (0 : Int)) ∧
 ∀ (i : Nat),
 i.le d.len →
 (decide ((↑i : Int) < (↑d.len : Int)) = true →
 ((0 : Int) ≤ (↑i : Int) ∧ (↑i : Int) < (↑d.len : Int)) ∧
 SizeOf.sizeOf (d.el (↑i : Int).toNat ((0 : Nat) + (1 : Nat) + (1 : Nat) + (1 : Nat))) < m ∧
 Small
 (ex (d.el (↑i : Int).toNat (0 : Nat)).toI (d.el (↑i : Int).toNat ((0 : Nat) + (1 : Nat))).toI
 (d.el (↑i : Int).toNat ((0 : Nat) + (1 : Nat) + (1 : Nat))).toI
 (d.el (↑i : Int).toNat ((0 : Nat) + (1 : Nat) + (1 : Nat) + (1 : Nat)))) ∧
 i = (dE (List.take i (exs d))).len ∧
 (i +
 ((D.l
 [[D.i
 (ex (d.el (↑i : Int).toNat (0 : Nat)).toI (d.el (↑i : Int).toNat ((0 : Nat) + (1 : Nat))).toI
 (d.el (↑i : Int).toNat ((0 : Nat) + (1 : Nat) + (1 : Nat))).toI
 (d.el (↑i : Int).toNat ((0 : Nat) + (1 : Nat) + (1 : Nat) + (1 : Nat)))).k,
 D.i
 (ex (d.el (↑i : Int).toNat (0 : Nat)).toI (d.el (↑i : Int).toNat ((0 : Nat) + (1 : Nat))).toI
 (d.el (↑i : Int).toNat ((0 : Nat) + (1 : Nat) + (1 : Nat))).toI
 (d.el (↑i : Int).toNat ((0 : Nat) + (1 : Nat) + (1 : Nat) + (1 : Nat)))).n,
 D.i
 (ex (d.el (↑i : Int).toNat (0 : Nat)).toI (d.el (↑i : Int).toNat ((0 : Nat) + (1 : Nat))).toI
 (d.el (↑i : Int).toNat ((0 : Nat) + (1 : Nat) + (1 : Nat))).toI
 (d.el (↑i : Int).toNat ((0 : Nat) + (1 : Nat) + (1 : Nat) + (1 : Nat)))).v,
 dE
 (ex (d.el (↑i : Int).toNat (0 : Nat)).toI (d.el (↑i : Int).toNat ((0 : Nat) + (1 : Nat))).toI
 (d.el (↑i : Int).toNat ((0 : Nat) + (1 : Nat) + (1 : Nat))).toI
 (d.el (↑i : Int).toNat ((0 : Nat) + (1 : Nat) + (1 : Nat) + (1 : Nat)))).kids]]).sub
 (0 : Nat) ((0 : Nat) + (1 : Nat))).len) *
 (48 : Nat) ≤
 (140737488355328 : Nat) ∧
 (0 : Nat) + (1 : Nat) ≤
 (D.l
 [[D.i
 (ex (d.el (↑i : Int).toNat (0 : Nat)).toI (d.el (↑i : Int).toNat ((0 : Nat) + (1 : Nat))).toI
 (d.el (↑i : Int).toNat ((0 : Nat) + (1 : Nat) + (1 : Nat))).toI
 (d.el (↑i : Int).toNat ((0 : Nat) + (1 : Nat) + (1 : Nat) + (1 : Nat)))).k,
 D.i
 (ex (d.el (↑i : Int).toNat (0 : Nat)).toI (d.el (↑i : Int).toNat ((0 : Nat) + (1 : Nat))).toI
 (d.el (↑i : Int).toNat ((0 : Nat) + (1 : Nat) + (1 : Nat))).toI
 (d.el (↑i : Int).toNat ((0 : Nat) + (1 : Nat) + (1 : Nat) + (1 : Nat)))).n,
 D.i
 (ex (d.el (↑i : Int).toNat (0 : Nat)).toI (d.el (↑i : Int).toNat ((0 : Nat) + (1 : Nat))).toI
 (d.el (↑i : Int).toNat ((0 : Nat) + (1 : Nat) + (1 : Nat))).toI
 (d.el (↑i : Int).toNat ((0 : Nat) + (1 : Nat) + (1 : Nat) + (1 : Nat)))).v,
 dE
 (ex (d.el (↑i : Int).toNat (0 : Nat)).toI (d.el (↑i : Int).toNat ((0 : Nat) + (1 : Nat))).toI
 (d.el (↑i : Int).toNat ((0 : Nat) + (1 : Nat) + (1 : Nat))).toI
 (d.el (↑i : Int).toNat ((0 : Nat) + (1 : Nat) + (1 : Nat) + (1 : Nat)))).kids]]).len ∧
 ∃ (j : Nat),
 j.le d.len ∧
 d.len + (1 : Nat) - j < d.len + (1 : Nat) - i ∧
 IntKind.i64.wrap ((↑i : Int) + (1 : Int)) = (↑j : Int) ∧
 k = k ∧
 n = n ∧
 v = v ∧
 i +
 ((D.l
 [[D.i
 (ex (d.el (↑i : Int).toNat (0 : Nat)).toI (d.el (↑i : Int).toNat ((0 : Nat) + (1 : Nat))).toI
 (d.el (↑i : Int).toNat ((0 : Nat) + (1 : Nat) + (1 : Nat))).toI
 (d.el (↑i : Int).toNat ((0 : Nat) + (1 : Nat) + (1 : Nat) + (1 : Nat)))).k,
 D.i
 (ex (d.el (↑i : Int).toNat (0 : Nat)).toI (d.el (↑i : Int).toNat ((0 : Nat) + (1 : Nat))).toI
 (d.el (↑i : Int).toNat ((0 : Nat) + (1 : Nat) + (1 : Nat))).toI
 (d.el (↑i : Int).toNat ((0 : Nat) + (1 : Nat) + (1 : Nat) + (1 : Nat)))).n,
 D.i
 (ex (d.el (↑i : Int).toNat (0 : Nat)).toI (d.el (↑i : Int).toNat ((0 : Nat) + (1 : Nat))).toI
 (d.el (↑i : Int).toNat ((0 : Nat) + (1 : Nat) + (1 : Nat))).toI
 (d.el (↑i : Int).toNat ((0 : Nat) + (1 : Nat) + (1 : Nat) + (1 : Nat)))).v,
 dE
 (ex (d.el (↑i : Int).toNat (0 : Nat)).toI (d.el (↑i : Int).toNat ((0 : Nat) + (1 : Nat))).toI
 (d.el (↑i : Int).toNat ((0 : Nat) + (1 : Nat) + (1 : Nat))).toI
 (d.el (↑i : Int).toNat ((0 : Nat) + (1 : Nat) + (1 : Nat) + (1 : Nat)))).kids]]).sub
 (0 : Nat) ((0 : Nat) + (1 : Nat))).len =
 j ∧
 List.map encE (List.take i (exs d)) ++
 List.drop (0 : Nat)
 (List.take ((0 : Nat) + (1 : Nat))
 [[D.i
 (ex (d.el (↑i : Int).toNat (0 : Nat)).toI (d.el (↑i : Int).toNat ((0 : Nat) + (1 : Nat))).toI
 (d.el (↑i : Int).toNat ((0 : Nat) + (1 : Nat) + (1 : Nat))).toI
 (d.el (↑i : Int).toNat ((0 : Nat) + (1 : Nat) + (1 : Nat) + (1 : Nat)))).k,
 D.i
 (ex (d.el (↑i : Int).toNat (0 : Nat)).toI (d.el (↑i : Int).toNat ((0 : Nat) + (1 : Nat))).toI
 (d.el (↑i : Int).toNat ((0 : Nat) + (1 : Nat) + (1 : Nat))).toI
 (d.el (↑i : Int).toNat ((0 : Nat) + (1 : Nat) + (1 : Nat) + (1 : Nat)))).n,
 D.i
 (ex (d.el (↑i : Int).toNat (0 : Nat)).toI (d.el (↑i : Int).toNat ((0 : Nat) + (1 : Nat))).toI
 (d.el (↑i : Int).toNat ((0 : Nat) + (1 : Nat) + (1 : Nat))).toI
 (d.el (↑i : Int).toNat ((0 : Nat) + (1 : Nat) + (1 : Nat) + (1 : Nat)))).v,
 dE
 (ex (d.el (↑i : Int).toNat (0 : Nat)).toI (d.el (↑i : Int).toNat ((0 : Nat) + (1 : Nat))).toI
 (d.el (↑i : Int).toNat ((0 : Nat) + (1 : Nat) + (1 : Nat))).toI
 (d.el (↑i : Int).toNat ((0 : Nat) + (1 : Nat) + (1 : Nat) + (1 : Nat)))).kids]]) =
 List.map encE (List.take j (exs d)) ∧
 k = k ∧ n = n ∧ v = v ∧ d.rows = d.rows ∧ (0 : Int) = (0 : Int) ∧ (0 : Int) = (0 : Int) ∧ (0 : Int) = (0 : Int)) ∧
 (decide ((↑i : Int) < (↑d.len : Int)) = false →
 nat_lit 0 + i ≤ (dE (List.take i (exs d))).len ∧
 k = (ex k n v d).k ∧
 n = (ex k n v d).n ∧
 v = (ex k n v d).v ∧
 List.drop (nat_lit 0) (List.take (nat_lit 0 + i) (List.map encE (List.take i (exs d)))) = List.map encE (ex k n v d).kids)) (by kernel_rfl) ?_
    intro hm hS
    have e0 : ∀ i, ex (d.el i 0).toI (d.el i (0 + 1)).toI (d.el i (0 + 1 + 1)).toI (d.el i (0 + 1 + 1 + 1)) = exE d i := fun i => rfl
    have enc : ∀ t : Xp, [D.i t.k, D.i t.n, D.i t.v, dE t.kids] = encE t := fun t => (encE_eq t).symm
    simp only [e0, enc]
    obtain ⟨hl, hk⟩ := small_ex hS
    have tl : ∀ i, i ≤ d.len → (dE ((exs d).take i)).len = i := fun i hi => by rw [dE_len, List.length_take, exs_len]; omega
    have one : ∀ t : Xp, (D.l [encE t]).len = 1 := fun _ => rfl
    have s1 : ∀ t : Xp, ((D.l [encE t]).sub 0 (0 + 1)).len = 1 := fun _ => rfl
    have st : ∀ i, i < d.len → (exs d).take (i + 1) = (exs d).take i ++ [exE d i] := fun i hi => by
      rw [List.take_add_one, exs_get hi]; rfl
    simp only [Int.toNat_natCast, one, s1]
    refine ⟨⟨0, Nat.zero_le _, rfl, trivial, trivial, trivial, rfl, rfl, trivial, trivial, trivial, trivial, trivial, trivial, trivial⟩, fun i hi => ⟨fun h => ?_, fun h => ?_⟩⟩
    · have hi' : i < d.len := by simpa using h
      refine ⟨by omega, by have := el_lt (j := 0 + 1 + 1 + 1) hi'; omega, hk i hi', (tl i (by omega)).symm, by omega, by omega, i + 1, hi', by omega, wr _ (by omega), trivial, trivial, trivial, rfl, ?_, trivial, trivial, trivial, trivial, trivial, trivial, trivial⟩
      rw [st i hi', List.map_append]; rfl
    · have hi' : ¬ i < d.len := by simpa using h
      have e : i = d.len := by have : i ≤ d.len := hi; omega
      refine ⟨by rw [tl i hi]; omega, rfl, rfl, rfl, ?_⟩
      rw [e, ← exs_len d, List.take_length]
      show ((List.map encE (exs d)).take (0 + (exs d).length)).drop 0 = List.map encE (exs d)
      rw [Nat.zero_add, List.drop_zero, List.take_of_length_le (by simp)]
  · trivial
theorem copyX_ok : ConOK Try.prog 15 copyXC :=
  con_rec copyXM (fun _ _ => by kernel_rfl) fun m ih => by
    rw [copyX_under] at ih ⊢
    exact copyX_step m ih
end Go.Proofs.Ytbcbcambkjhhhaa.Sx.Z
namespace Go.Proofs.Ytbcbcambkjhhhaa.Sx.Z
open Go.RowKit
/-- What Tame tells: of so many variables. -/
inductive Tm (w : Int) : Xp → Prop
  | num (n : Int) : 0 ≤ n → n ≤ 2147483647 → Tm w (.mk 1 n 0 [])
  | var (v : Int) : 0 ≤ v → v < w → Tm w (.mk 2 0 v [])
  | neg (a : Xp) : Tm w a → Tm w (.mk 3 0 0 [a])
  | bin (k : Int) (a b : Xp) : 4 ≤ k → k ≤ 8 → Tm w a → Tm w b → Tm w (.mk k 0 0 [a, b])
theorem modU_in {a b : Int} (h : 0 < b ∧ b ≤ 2147483648) : 0 ≤ modU a b ∧ modU a b < b := by
  have e : IntKind.u64.wrap b = b := by rw [IntKind.wrap_u64]; omega
  have h1 : 0 ≤ IntKind.u64.wrap a := by rw [IntKind.wrap_u64]; omega
  have h2 := Int.tmod_nonneg b h1
  have h3 := Int.tmod_lt_of_pos (IntKind.u64.wrap a) h.1
  unfold modU
  rw [e, wr _ (by omega)]
  exact ⟨h2, h3⟩
theorem leaf_tm {w : Int} (h : 1 ≤ w ∧ w ≤ 6) (e : Xp) : Tm w (leafT w e) := by
  unfold leafT
  split
  · have := modU_in (a := e.v) (b := w) (by omega)
    exact .var _ this.1 this.2
  · have := modU_in (a := e.n) (b := 2147483648) (by omega)
    exact .num _ this.1 (by omega)
theorem tam_tm {w : Int} (h : 1 ≤ w ∧ w ≤ 6) : ∀ (m : Nat) (e : Xp), Tm w (tamP w m e)
  | 0, e => leaf_tm h e
  | m + 1, e => by
    unfold tamP
    split
    · rename_i c; exact .bin _ _ _ c.1.1 c.1.2 (tam_tm h m _) (tam_tm h m _)
    · split
      · exact .neg _ (tam_tm h m _)
      · exact leaf_tm h e
theorem tm_small {w : Int} {e : Xp} (h : Tm w e) : Small e := by
  induction h with
  | num n _ _ => exact .mk _ _ _ _ (Nat.zero_le _) (fun x hx => by cases hx)
  | var v _ _ => exact .mk _ _ _ _ (Nat.zero_le _) (fun x hx => by cases hx)
  | neg a _ ih => exact .mk _ _ _ _ (by simp) (fun x hx => by rw [List.mem_singleton.1 hx]; exact ih)
  | bin k a b _ _ _ _ ia ib => exact .mk _ _ _ _ (by simp) (fun x hx => by
      rcases List.mem_cons.1 hx with rfl | hx
      · exact ia
      · rw [List.mem_singleton.1 hx]; exact ib)
def rcomb (k : Int) (l r : Option (Int × Int)) : Option (Int × Int) := match l, r with
  | some (x, m), some (y, b) => if (0 ≤ x ∧ 0 ≤ y) ∨ (k = 5 ∧ 0 ≤ y) then none else some (max x y, if k = 5 then IntKind.i64.wrap (m - b) else IntKind.i64.wrap (m + b))
  | _, _ => none
def rcut (o : Option (Int × Int)) : Option (Int × Int) := match o with
  | some (x, n) => if n > 1099511627776 ∨ n < -1099511627776 then none else some (x, n)
  | none => none
def rlinP : Xp → Option (Int × Int)
  | .mk k n v kids => rcut (if k = 1 ∧ kids.length = 0 then some (-1, n) else if k = 2 ∧ kids.length = 0 then some (v, 0) else if k = 4 ∨ k = 5 then (match kids with | [a, b] => rcomb k (rlinP a) (rlinP b) | _ => none) else none)
theorem rlin_eq (k n v : Int) (d : D) : rlinP (ex k n v d) = rcut (if k = 1 ∧ d.len = 0 then some (-1, n) else if k = 2 ∧ d.len = 0 then some (v, 0) else if (k = 4 ∨ k = 5) ∧ d.len = 2 then rcomb k (rlinP (exE d 0)) (rlinP (exE d 1)) else none) := by
  show rlinP (.mk k n v (exs d)) = _
  by_cases h2 : d.len = 2
  · rw [exs_two h2, rlinP]; simp [h2]
  · rw [rlinP.eq_2 _ _ _ _ (fun a b => exs_ne2 h2 a b), exs_len]; simp [h2]
theorem rcomb_some (k x m y b : Int) : rcomb k (some (x, m)) (some (y, b)) = if (0 ≤ x ∧ 0 ≤ y) ∨ (k = 5 ∧ 0 ≤ y) then none else some (max x y, if k = 5 then IntKind.i64.wrap (m - b) else IntKind.i64.wrap (m + b)) := rfl
theorem rcomb_l (k : Int) (r : Option (Int × Int)) : rcomb k none r = none := rfl
theorem rcomb_r (k : Int) (l : Option (Int × Int)) : rcomb k l none = none := by cases l <;> rfl
theorem rcut_some (x n : Int) : rcut (some (x, n)) = if n > 1099511627776 ∨ n < -1099511627776 then none else some (x, n) := rfl
theorem rcut_none : rcut none = none := rfl
/-- Of what Tame tells both are the same. -/
theorem lin_same {w : Int} (hw : 1 ≤ w) {e : Xp} (h : Tm w e) : rlinP e = linP e ∧ ∀ x n, linP e = some (x, n) → -1 ≤ x ∧ x < w ∧ -1099511627776 ≤ n ∧ n ≤ 1099511627776 := by
  induction h with
  | num n h0 h1 =>
    rw [rlinP.eq_2 _ _ _ _ (fun a b h => by cases h), linP.eq_2 _ _ _ _ (fun a b h => by cases h)]
    simp only [List.length_nil, and_self, if_true, rcut_some, amtP]
    rw [if_neg (by omega), if_neg (by omega)]
    exact ⟨rfl, fun x m e => by obtain ⟨rfl, rfl⟩ := Prod.mk.inj (Option.some.inj e); omega⟩
  | var v h0 h1 =>
    rw [rlinP.eq_2 _ _ _ _ (fun a b h => by cases h), linP.eq_2 _ _ _ _ (fun a b h => by cases h)]
    refine ⟨rfl, fun x m e => ?_⟩
    have e : some (v, (0 : Int)) = some (x, m) := e
    obtain ⟨rfl, rfl⟩ := Prod.mk.inj (Option.some.inj e); omega
  | neg a _ _ =>
    rw [rlinP.eq_2 _ _ _ _ (fun a b h => by cases h), linP.eq_2 _ _ _ _ (fun a b h => by cases h)]
    exact ⟨rfl, fun x m e => by cases e⟩
  | bin k a b h4 h8 _ _ ia ib =>
    obtain ⟨ea, ba⟩ := ia
    obtain ⟨eb, bb⟩ := ib
    rw [rlinP, linP, ea, eb]
    have k1 : ¬ (k = 1 ∧ [a, b].length = 0) := by simp
    have k2 : ¬ (k = 2 ∧ [a, b].length = 0) := by simp
    rw [if_neg k1, if_neg k2, if_neg (show ¬ k = 1 by omega), if_neg (show ¬ k = 2 by omega)]
    by_cases k45 : k = 4 ∨ k = 5
    · rw [if_pos k45, if_pos k45]
      generalize linP a = L at *
      generalize linP b = R at *
      rcases L with _ | ⟨x, m⟩
      · rw [rcomb_l, comb_l]; exact ⟨rfl, fun x m e => by cases e⟩
      · rcases R with _ | ⟨y, p⟩
        · rw [rcomb_r, comb_r]; exact ⟨rfl, fun x m e => by cases e⟩
        · have hx := ba x m rfl
          have hy := bb y p rfl
          have w1 : IntKind.i64.wrap (m - p) = m - p := wr _ (by omega)
          have w2 : IntKind.i64.wrap (m + p) = m + p := wr _ (by omega)
          rw [rcomb_some, comb_some, w1, w2]
          unfold amtP rcut
          constructor <;> grind
    · rw [if_neg k45, if_neg k45]; exact ⟨rfl, fun x m e => by cases e⟩
noncomputable def rlinS : FSpec := fun ds _ => match ds with
  | [.i k, .i n, .i v, .d d] => some { val := .tup [.sc (.int .i64 (.sym (oX (rlinP (ex k n v d))))), .sc (.int .i64 (.sym (oY (rlinP (ex k n v d))))), .sc (.bool (.sym (oB (rlinP (ex k n v d)))))], vc := [] }
  | _ => none
noncomputable def rlinC : Con := con [rxpA] rlinS
noncomputable def rlinM : List Dat → Nat := fun ds => match ds with
  | [.i _k, .i _n, .i _v, .d d] => SizeOf.sizeOf d
  | _ => 0
noncomputable def rlinSu (m : Nat) : FSpec := fun ds _ => match ds with
  | [.i k, .i n, .i v, .d d] => some { val := .tup [.sc (.int .i64 (.sym (oX (rlinP (ex k n v d))))), .sc (.int .i64 (.sym (oY (rlinP (ex k n v d))))), .sc (.bool (.sym (oB (rlinP (ex k n v d)))))], vc := [SizeOf.sizeOf d < m] }
  | _ => none
theorem rlin_under (m : Nat) : rlinS.under rlinM m = rlinSu m := by
  funext ds fr
  unfold FSpec.under rlinS rlinM rlinSu
  split
  · rename_i e h
    split at h
    · obtain rfl := Option.some.inj h; rfl
    · cases h
  · rename_i h
    split at h
    · cases h
    · rfl
theorem rlin_step (m : Nat) (ih : ConOK Try.prog 38 (con [rxpA] (rlinSu m))) : ConOK Try.prog 38 (con [rxpA] (rlinSu (m + 1))) := by
  refine fn_ob tt_ok mixed Try.func38 rfl (fun _ _ => by kernel_rfl) (A := fun ds => ⟨fun _ => Cons.of [(38, con [rxpA] (rlinSu m))], fun _ => none, fun _ => none⟩) (fun _ _ => (cons_cons ih cons_nil)) (by kernel_rfl) ?_
  intro ds fr
  unfold rlinSu
  split
  · rename_i k n v d
    refine kmp (q := SizeOf.sizeOf d < m + (1 : Nat) →
 ((k == (1 : Int) && (↑d.len : Int) == (0 : Int)) = true →
 ((decide (n > (1099511627776 : Int)) || decide (n < (-1099511627776 : Int))) = true →
 (0 : Int) = oX (rlinP (ex k n v d)) ∧ (0 : Int) = oY (rlinP (ex k n v d)) ∧ false = oB (rlinP (ex k n v d))) ∧
 ((decide (n > (1099511627776 : Int)) || decide (n < (-1099511627776 : Int))) = false →
 (-1 : Int) = oX (rlinP (ex k n v d)) ∧ n = oY (rlinP (ex k n v d)) ∧ true = oB (rlinP (ex k n v d)))) ∧
 ((k == (1 : Int) && (↑d.len : Int) == (0 : Int)) = false →
 ((k == (2 : Int) && (↑d.len : Int) == (0 : Int)) = true →
 v = oX (rlinP (ex k n v d)) ∧ (0 : Int) = oY (rlinP (ex k n v d)) ∧ true = oB (rlinP (ex k n v d))) ∧
 ((k == (2 : Int) && (↑d.len : Int) == (0 : Int)) = false →
 (((k == (4 : Int) || k == (5 : Int)) && (↑d.len : Int) == (2 : Int)) = true →
 nat_lit 0 < d.len ∧
 SizeOf.sizeOf (d.el (nat_lit 0) ((0 : Nat) + (1 : Nat) + (1 : Nat) + (1 : Nat))) < m ∧
 nat_lit 1 < d.len ∧
 SizeOf.sizeOf (d.el (nat_lit 1) ((0 : Nat) + (1 : Nat) + (1 : Nat) + (1 : Nat))) < m ∧
 ((!oB
 (rlinP
 (ex (d.el (nat_lit 0) (0 : Nat)).toI (d.el (nat_lit 0) ((0 : Nat) + (1 : Nat))).toI
 (d.el (nat_lit 0) ((0 : Nat) + (1 : Nat) + (1 : Nat))).toI
 (d.el (nat_lit 0) ((0 : Nat) + (1 : Nat) + (1 : Nat) + (1 : Nat))))) ||
 !oB
 (rlinP
 (ex (d.el (nat_lit 1) (0 : Nat)).toI (d.el (nat_lit 1) ((0 : Nat) + (1 : Nat))).toI
 (d.el (nat_lit 1) ((0 : Nat) + (1 : Nat) + (1 : Nat))).toI
 (d.el (nat_lit 1) ((0 : Nat) + (1 : Nat) + (1 : Nat) + (1 : Nat))))) ||
 decide
 (oX
 (rlinP
 (ex (d.el (nat_lit 0) (0 : Nat)).toI (d.el (nat_lit 0) ((0 : Nat) + (1 : Nat))).toI
 (d.el (nat_lit 0) ((0 : Nat) + (1 : Nat) + (1 : Nat))).toI
 (d.el (nat_lit 0) ((0 : Nat) + (1 : Nat) + (1 : Nat) + (1 : Nat))))) ≥
 (0 : Int)) &&
 decide
 (oX
 (rlinP
 (ex (d.el (nat_lit 1) (0 : Nat)).toI (d.el (nat_lit 1) ((0 : Nat) + (1 : Nat))).toI
 (d.el (nat_lit 1) ((0 : Nat) + (1 : Nat) + (1 : Nat))).toI
 (d.el (nat_lit 1) ((0 : Nat) + (1 : Nat) + (1 : Nat) + (1 : Nat))))) ≥
 (0 : Int)) ||
 k == (5 : Int) &&
 decide
 (oX
 (rlinP
 (ex (d.el (nat_lit 1) (0 : Nat)).toI (d.el (nat_lit 1) ((0 : Nat) + (1 : Nat))).toI
 (d.el (nat_lit 1) ((0 : Nat) + (1 : Nat) + (1 : Nat))).toI
 (d.el (nat_lit 1) ((0 : Nat) + (1 : Nat) + (1 : Nat) + (1 : Nat))))) ≥
 (0 : Int))) =
 true →
 (0 : Int) = oX (rlinP (ex k n v d)) ∧ (0 : Int) = oY (rlinP (ex k n v d)) ∧ false = oB (rlinP (ex k n v d))) ∧
 ((!oB
 (rlinP
 (ex (d.el (nat_lit 0) (0 : Nat)).toI (d.el (nat_lit 0) ((0 : Nat) + (1 : Nat))).toI
 (d.el (nat_lit 0) ((0 : Nat) + (1 : Nat) + (1 : Nat))).toI
 (d.el (nat_lit 0) ((0 : Nat) + (1 : Nat) + (1 : Nat) + (1 : Nat))))) ||
 !oB
 (rlinP
 (ex (d.el (nat_lit 1) (0 : Nat)).toI (d.el (nat_lit 1) ((0 : Nat) + (1 : Nat))).toI
 (d.el (nat_lit 1) ((0 : Nat) + (1 : Nat) + (1 : Nat))).toI
 (d.el (nat_lit 1) ((0 : Nat) + (1 : Nat) + (1 : Nat) + (1 : Nat))))) ||
 decide
 (oX
 (rlinP
 (ex (d.el (nat_lit 0) (0 : Nat)).toI (d.el (nat_lit 0) ((0 : Nat) + (1 : Nat))).toI
 (d.el (nat_lit 0) ((0 : Nat) + (1 : Nat) + (1 : Nat))).toI
 (d.el (nat_lit 0) ((0 : Nat) + (1 : Nat) + (1 : Nat) + (1 : Nat))))) ≥
 (0 : Int)) &&
 decide
 (oX
 (rlinP
 (ex (d.el (nat_lit 1) (0 : Nat)).toI (d.el (nat_lit 1) ((0 : Nat) + (1 : Nat))).toI
 (d.el (nat_lit 1) ((0 : Nat) + (1 : Nat) + (1 : Nat))).toI
 (d.el (nat_lit 1) ((0 : Nat) + (1 : Nat) + (1 : Nat) + (1 : Nat))))) ≥
 (0 : Int)) ||
 k == (5 : Int) &&
 decide
 (oX
 (rlinP
 (ex (d.el (nat_lit 1) (0 : Nat)).toI (d.el (nat_lit 1) ((0 : Nat) + (1 : Nat))).toI
 (d.el (nat_lit 1) ((0 : Nat) + (1 : Nat) + (1 : Nat))).toI
 (d.el (nat_lit 1) ((0 : Nat) + (1 : Nat) + (1 : Nat) + (1 : Nat))))) ≥
 (0 : Int))) =
 false →
 ((k == (5 : Int)) = true →
 ((decide
 (IntKind.i64.wrap
 (oY
 (rlinP
 (ex (d.el (nat_lit 0) (0 : Nat)).toI (d.el (nat_lit 0) ((0 : Nat) + (1 : Nat))).toI
 (d.el (nat_lit 0) ((0 : Nat) + (1 : Nat) + (1 : Nat))).toI
 (d.el (nat_lit 0) ((0 : Nat) + (1 : Nat) + (1 : Nat) + (1 : Nat))))) -
 oY
 (rlinP
 (ex (d.el (nat_lit 1) (0 : Nat)).toI (d.el (nat_lit 1) ((0 : Nat) + (1 : Nat))).toI
 (d.el (nat_lit 1) ((0 : Nat) + (1 : Nat) + (1 : Nat))).toI
 (d.el (nat_lit 1) ((0 : Nat) + (1 : Nat) + (1 : Nat) + (1 : Nat)))))) >
 (1099511627776 : Int)) ||
 decide
 (IntKind.i64.wrap
 (oY
 (rlinP
 (ex (d.el (nat_lit 0) (0 : Nat)).toI (d.el (nat_lit 0) ((0 : Nat) + (1 : Nat))).toI
 (d.el (nat_lit 0) ((0 : Nat) + (1 : Nat) + (1 : Nat))).toI
 (d.el (nat_lit 0) ((0 : Nat) + (1 : Nat) + (1 : Nat) + (1 : Nat))))) -
 oY
 (rlinP
 (ex (d.el (nat_lit 1) (0 : Nat)).toI (d.el (nat_lit 1) ((0 : Nat) + (1 : Nat))).toI
 (d.el (nat_lit 1) ((0 : Nat) + (1 : Nat) + (1 : Nat))).toI
 (d.el (nat_lit 1) ((0 : Nat) + (1 : Nat) + (1 : Nat) + (1 : Nat)))))) <
 (-1099511627776 : Int))) =
 true →
 (0 : Int) = oX (rlinP (ex k n v d)) ∧ (0 : Int) = oY (rlinP (ex k n v d)) ∧ false = oB (rlinP (ex k n v d))) ∧
 ((decide
 (IntKind.i64.wrap
 (oY
 (rlinP
 (ex (d.el (nat_lit 0) (0 : Nat)).toI (d.el (nat_lit 0) ((0 : Nat) + (1 : Nat))).toI
 (d.el (nat_lit 0) ((0 : Nat) + (1 : Nat) + (1 : Nat))).toI
 (d.el (nat_lit 0) ((0 : Nat) + (1 : Nat) + (1 : Nat) + (1 : Nat))))) -
 oY
 (rlinP
 (ex (d.el (nat_lit 1) (0 : Nat)).toI (d.el (nat_lit 1) ((0 : Nat) + (1 : Nat))).toI
 (d.el (nat_lit 1) ((0 : Nat) + (1 : Nat) + (1 : Nat))).toI
 (d.el (nat_lit 1) ((0 : Nat) + (1 : Nat) + (1 : Nat) + (1 : Nat)))))) >
 (1099511627776 : Int)) ||
 decide
 (IntKind.i64.wrap
 (oY
 (rlinP
 (ex (d.el (nat_lit 0) (0 : Nat)).toI (d.el (nat_lit 0) ((0 : Nat) + (1 : Nat))).toI
 (d.el (nat_lit 0) ((0 : Nat) + (1 : Nat) + (1 : Nat))).toI
 (d.el (nat_lit 0) ((0 : Nat) + (1 : Nat) + (1 : Nat) + (1 : Nat))))) -
 oY
 (rlinP
 (ex (d.el (nat_lit 1) (0 : Nat)).toI (d.el (nat_lit 1) ((0 : Nat) + (1 : Nat))).toI
 (d.el (nat_lit 1) ((0 : Nat) + (1 : Nat) + (1 : Nat))).toI
 (d.el (nat_lit 1) ((0 : Nat) + (1 : Nat) + (1 : Nat) + (1 : Nat)))))) <
 (-1099511627776 : Int))) =
 false →
 (if
 oX
 (rlinP
 (ex (d.el (nat_lit 1) (0 : Nat)).toI (d.el (nat_lit 1) ((0 : Nat) + (1 : Nat))).toI
 (d.el (nat_lit 1) ((0 : Nat) + (1 : Nat) + (1 : Nat))).toI
 (d.el (nat_lit 1) ((0 : Nat) + (1 : Nat) + (1 : Nat) + (1 : Nat))))) >
 oX
 (rlinP
 (ex (d.el (nat_lit 0) (0 : Nat)).toI (d.el (nat_lit 0) ((0 : Nat) + (1 : Nat))).toI
 (d.el (nat_lit 0) ((0 : Nat) + (1 : Nat) + (1 : Nat))).toI
 (d.el (nat_lit 0) ((0 : Nat) + (1 : Nat) + (1 : Nat) + (1 : Nat))))) then
 oX
 (rlinP
 (ex (d.el (nat_lit 1) (0 : Nat)).toI (d.el (nat_lit 1) ((0 : Nat) + (1 : Nat))).toI
 (d.el (nat_lit 1) ((0 : Nat) + (1 : Nat) + (1 : Nat))).toI
 (d.el (nat_lit 1) ((0 : Nat) + (1 : Nat) + (1 : Nat) + (1 : Nat)))))
 else
 oX
 (rlinP
 (ex (d.el (nat_lit 0) (0 : Nat)).toI (d.el (nat_lit 0) ((0 : Nat) + (1 : Nat))).toI
 (d.el (nat_lit 0) ((0 : Nat) + (1 : Nat) + (1 : Nat))).toI
 (d.el (nat_lit 0) ((0 : Nat) + (1 : Nat) + (1 : Nat) + (1 : Nat)))))) =
 oX (rlinP (ex k n v d)) ∧
 IntKind.i64.wrap
 (oY
 (rlinP
 (ex (d.el (nat_lit 0) (0 : Nat)).toI (d.el (nat_lit 0) ((0 : Nat) + (1 : Nat))).toI
 (d.el (nat_lit 0) ((0 : Nat) + (1 : Nat) + (1 : Nat))).toI
 (d.el (nat_lit 0) ((0 : Nat) + (1 : Nat) + (1 : Nat) + (1 : Nat))))) -
 oY
 (rlinP
 (ex (d.el (nat_lit 1) (0 : Nat)).toI (d.el (nat_lit 1) ((0 : Nat) + (1 : Nat))).toI
 (d.el (nat_lit 1) ((0 : Nat) + (1 : Nat) + (1 : Nat))).toI
 (d.el (nat_lit 1) ((0 : Nat) + (1 : Nat) + (1 : Nat) + (1 : Nat)))))) =
 oY (rlinP (ex k n v d)) ∧
 true = oB (rlinP (ex k n v d)))) ∧
 ((k == (5 : Int)) = false →
 ((decide
 (IntKind.i64.wrap
 (oY
 (rlinP
 (ex (d.el (nat_lit 0) (0 : Nat)).toI (d.el (nat_lit 0) ((0 : Nat) + (1 : Nat))).toI
 (d.el (nat_lit 0) ((0 : Nat) + (1 : Nat) + (1 : Nat))).toI
 (d.el (nat_lit 0) ((0 : Nat) + (1 : Nat) + (1 : Nat) + (1 : Nat))))) +
 oY
 (rlinP
 (ex (d.el (nat_lit 1) (0 : Nat)).toI (d.el (nat_lit 1) ((0 : Nat) + (1 : Nat))).toI
 (d.el (nat_lit 1) ((0 : Nat) + (1 : Nat) + (1 : Nat))).toI
 (d.el (nat_lit 1) ((0 : Nat) + (1 : Nat) + (1 : Nat) + (1 : Nat)))))) >
 (1099511627776 : Int)) ||
 decide
 (IntKind.i64.wrap
 (oY
 (rlinP
 (ex (d.el (nat_lit 0) (0 : Nat)).toI (d.el (nat_lit 0) ((0 : Nat) + (1 : Nat))).toI
 (d.el (nat_lit 0) ((0 : Nat) + (1 : Nat) + (1 : Nat))).toI
 (d.el (nat_lit 0) ((0 : Nat) + (1 : Nat) + (1 : Nat) + (1 : Nat))))) +
 oY
 (rlinP
 (ex (d.el (nat_lit 1) (0 : Nat)).toI (d.el (nat_lit 1) ((0 : Nat) + (1 : Nat))).toI
 (d.el (nat_lit 1) ((0 : Nat) + (1 : Nat) + (1 : Nat))).toI
 (d.el (nat_lit 1) ((0 : Nat) + (1 : Nat) + (1 : Nat) + (1 : Nat)))))) <
 (-1099511627776 : Int))) =
 true →
 (0 : Int) = oX (rlinP (ex k n v d)) ∧ (0 : Int) = oY (rlinP (ex k n v d)) ∧ false = oB (rlinP (ex k n v d))) ∧
 ((decide
 (IntKind.i64.wrap
 (oY
 (rlinP
 (ex (d.el (nat_lit 0) (0 : Nat)).toI (d.el (nat_lit 0) ((0 : Nat) + (1 : Nat))).toI
 (d.el (nat_lit 0) ((0 : Nat) + (1 : Nat) + (1 : Nat))).toI
 (d.el (nat_lit 0) ((0 : Nat) + (1 : Nat) + (1 : Nat) + (1 : Nat))))) +
 oY
 (rlinP
 (ex (d.el (nat_lit 1) (0 : Nat)).toI (d.el (nat_lit 1) ((0 : Nat) + (1 : Nat))).toI
 (d.el (nat_lit 1) ((0 : Nat) + (1 : Nat) + (1 : Nat))).toI
 (d.el (nat_lit 1) ((0 : Nat) + (1 : Nat) + (1 : Nat) + (1 : Nat)))))) >
 (1099511627776 : Int)) ||
 decide
 (IntKind.i64.wrap
 (oY
 (rlinP
 (ex (d.el (nat_lit 0) (0 : Nat)).toI (d.el (nat_lit 0) ((0 : Nat) + (1 : Nat))).toI
 (d.el (nat_lit 0) ((0 : Nat) + (1 : Nat) + (1 : Nat))).toI
 (d.el (nat_lit 0) ((0 : Nat) + (1 : Nat) + (1 : Nat) + (1 : Nat))))) +
 oY
 (rlinP
 (ex (d.el (nat_lit 1) (0 : Nat)).toI (d.el (nat_lit 1) ((0 : Nat) + (1 : Nat))).toI
 (d.el (nat_lit 1) ((0 : Nat) + (1 : Nat) + (1 : Nat))).toI
 (d.el (nat_lit 1) ((0 : Nat) + (1 : Nat) + (1 : Nat) + (1 : Nat)))))) <
 (-1099511627776 : Int))) =
 false →
 (if
 oX
 (rlinP
 (ex (d.el (nat_lit 1) (0 : Nat)).toI (d.el (nat_lit 1) ((0 : Nat) + (1 : Nat))).toI
 (d.el (nat_lit 1) ((0 : Nat) + (1 : Nat) + (1 : Nat))).toI
 (d.el (nat_lit 1) ((0 : Nat) + (1 : Nat) + (1 : Nat) + (1 : Nat))))) >
 oX
 (rlinP
 (ex (d.el (nat_lit 0) (0 : Nat)).toI (d.el (nat_lit 0) ((0 : Nat) + (1 : Nat))).toI
 (d.el (nat_lit 0) ((0 : Nat) + (1 : Nat) + (1 : Nat))).toI
 (d.el (nat_lit 0) ((0 : Nat) + (1 : Nat) + (1 : Nat) + (1 : Nat))))) then
 oX
 (rlinP
 (ex (d.el (nat_lit 1) (0 : Nat)).toI (d.el (nat_lit 1) ((0 : Nat) + (1 : Nat))).toI
 (d.el (nat_lit 1) ((0 : Nat) + (1 : Nat) + (1 : Nat))).toI
 (d.el (nat_lit 1) ((0 : Nat) + (1 : Nat) + (1 : Nat) + (1 : Nat)))))
 else
 oX
 (rlinP
 (ex (d.el (nat_lit 0) (0 : Nat)).toI (d.el (nat_lit 0) ((0 : Nat) + (1 : Nat))).toI
 (d.el (nat_lit 0) ((0 : Nat) + (1 : Nat) + (1 : Nat))).toI
 (d.el (nat_lit 0) ((0 : Nat) + (1 : Nat) + (1 : Nat) + (1 : Nat)))))) =
 oX (rlinP (ex k n v d)) ∧
 IntKind.i64.wrap
 (oY
 (rlinP
 (ex (d.el (nat_lit 0) (0 : Nat)).toI (d.el (nat_lit 0) ((0 : Nat) + (1 : Nat))).toI
 (d.el (nat_lit 0) ((0 : Nat) + (1 : Nat) + (1 : Nat))).toI
 (d.el (nat_lit 0) ((0 : Nat) + (1 : Nat) + (1 : Nat) + (1 : Nat))))) +
 oY
 (rlinP
 (ex (d.el (nat_lit 1) (0 : Nat)).toI (d.el (nat_lit 1) ((0 : Nat) + (1 : Nat))).toI
 (d.el (nat_lit 1) ((0 : Nat) + (1 : Nat) + (1 : Nat))).toI
 (d.el (nat_lit 1) ((0 : Nat) + (1 : Nat) + (1 : Nat) + (1 : Nat)))))) =
 oY (rlinP (ex k n v d)) ∧
 true = oB (rlinP (ex k n v d)))))) ∧
 (((k == (4 : Int) || k == (5 : Int)) && (↑d.len : Int) == (2 : Int)) = false →
 (0 : Int) = oX (rlinP (ex k n v d)) ∧ (0 : Int) = oY (rlinP (ex k n v d)) ∧ false = oB (rlinP (ex k n v d)))))) (by kernel_rfl) ?_
    intro hm
    have e0 : ∀ i, ex (d.el i 0).toI (d.el i (0 + 1)).toI (d.el i (0 + 1 + 1)).toI (d.el i (0 + 1 + 1 + 1)) = exE d i := fun i => rfl
    simp only [e0, rlin_eq k n v d]
    have z : ∀ i, i < d.len → SizeOf.sizeOf (d.el i (0 + 1 + 1 + 1)) < m := fun i hi => by have := el_lt (j := 0 + 1 + 1 + 1) hi; omega
    generalize rlinP (exE d 0) = L
    generalize rlinP (exE d 1) = R
    rcases L with _ | ⟨x, a⟩ <;> rcases R with _ | ⟨y, b⟩ <;> simp only [oX_some, oY_some, oB_some, oX_none, oY_none, oB_none, rcomb_some, rcomb_l, rcomb_r] <;> (repeat' first | apply And.intro | intro _) <;> grind [rcut_some, rcut_none, oX_some, oY_some, oB_some, oX_none, oY_none, oB_none]
  · trivial
theorem rlin_ok : ConOK Try.prog 38 rlinC :=
  con_rec rlinM (fun _ _ => by kernel_rfl) fun m ih => by
    rw [rlin_under] at ih ⊢
    exact rlin_step m ih
end Go.Proofs.Ytbcbcambkjhhhaa.Sx.Z
