/-
  rule: Step.; Trees of expressions: out of data, and back.; eval.Linear.; The laws' Tame, and their copy of a tree.; The reference's Linear; trees that Tame tells.; Test: those for which a comparison holds.; ItvTests: plain mathematics: where a comparison holds, told by its ends.; Plain mathematics of products, quotients and rests of two Itvs.
-/
import Derived.Test.YtlgmofjjjhbgkaaGreatJo17
import Derived.Test.YtlgmofjjjhbgkaaGreatJo15
import Derived.Test.YtlgmofjjjhbgkaaGreatJo13
import Derived.Laws.Bits64
import Derived.RegionTactic
namespace Go.Proofs.YtlgmofjjjhbgkaaGreat.Sx.Z
open Go.RowKit
def or8 (a b : Int) : Int := IntKind.u8.wrap ↑(BitVec.ofInt IntKind.u8.bits a ||| BitVec.ofInt IntKind.u8.bits b).toNat
def stp (rl : D) (tag : Int) (l : D) : Nat → Int × Bool
  | 0 => (0, false)
  | k + 1 => if (mvI rl (l.el k 0).toI tag).2 = true then (or8 (stp rl tag l k).1 (ofS (mvI rl (l.el k 0).toI tag).1), (stp rl tag l k).2) else ((stp rl tag l k).1, true)
def stpR (rl : D) (s tag : Int) : Int × Bool := if rl.len = 0 then (s, false) else stp rl tag (lsD s 8) (lsD s 8).len
theorem lsD_at {s : Int} {k j : Nat} (h : j < (lsD s k).len) : 0 ≤ ((lsD s k).el j 0).toI ∧ ((lsD s k).el j 0).toI < k := by
  have h' : j < (List.map (fun (j : Nat) => [D.i (j : Int)]) ((List.range k).filter fun (j : Nat) => hasR s (j : Int))).length := h
  rw [List.length_map] at h'
  have e : (lsD s k).rows.getD j [] = [D.i (((List.range k).filter fun (j : Nat) => hasR s (j : Int))[j]'h' : Nat)] := by
    show (List.map _ _).getD j [] = _
    rw [List.getD_eq_getElem?_getD, List.getElem?_map, List.getElem?_eq_getElem h']; rfl
  have hm : ((List.range k).filter fun (j : Nat) => hasR s (j : Int))[j]'h' < k := List.mem_range.1 (List.mem_filter.1 (List.getElem_mem h')).1
  unfold D.el
  rw [e]
  show 0 ≤ ((((List.range k).filter fun (j : Nat) => hasR s (j : Int))[j]'h' : Nat) : Int) ∧ ((((List.range k).filter fun (j : Nat) => hasR s (j : Int))[j]'h' : Nat) : Int) < k
  omega
theorem mv_in {rl : D} {a b : Int} (h : (mvI rl a b).2 = true) : 0 ≤ (mvI rl a b).1 ∧ (mvI rl a b).1 < 8 := by
  unfold mvI at h ⊢
  split at h
  · cases h
  · rename_i c
    rw [if_neg c]
    unfold isSt at h
    simp only [Bool.and_eq_true, decide_eq_true_eq] at h
    exact h
noncomputable def rstepS : FSpec := fun ds _ => match ds with
  | [.i _kd, .i _size, .i _frm, .i _dst, .i _tags, .d rl, .i st, .i tag] => some { val := .tup [.sc (.int .u8 (.sym (stpR rl st tag).1)), .sc (.bool (.sym (stpR rl st tag).2))], vc := [] }
  | _ => none
noncomputable def rstepC : Con := con [chA, .sc (.int .u8), iA] rstepS
theorem rstep_ok : ConOK Tryz.prog 86 rstepC := by
  refine fn_ob tt_ok mixed Tryz.func86 rfl (fun _ _ => by kernel_rfl) (A := fun ds => ⟨fun _ => Cons.of [(114, rlistC), (115, rmoveC), (54, rofC)], fun k => match k, ds with | 6, [.i kd, .i size, .i frm, .i dst, .i tags, .d rl, .i st, .i tag] => some { ι := Nat, pre := fun _ k => k ≤ (lsD st 8).len ∧ ¬ rl.len = 0, μ := fun k => (lsD st 8).len + 1 - k, st := fun s k => famR s [(22, .one (.sc (.int .i64 (.sym ((k : Nat)))))), (8, .one (.sc (.int .u8 (.sym (stp rl tag (lsD st 8) k).1)))), (9, .one (.sc (.bool (.sym ((stp rl tag (lsD st 8) k).2)))))] [1, 2, 3, 6, 7, 20, 21] [] [3] } | _, _ => none, fun _ => none⟩) (fun _ _ => (cons_cons rlist_ok (cons_cons rmove_ok (cons_cons rof_ok cons_nil)))) (by kernel_rfl) ?_
  intro ds fr
  unfold rstepS
  split
  · rename_i _kd _size _frm _dst _tags rl st tag
    refine kmp (q := (((↑rl.len : Int) == (0 : Int)) = true → st = (stpR rl st tag).fst ∧ false = (stpR rl st tag).snd) ∧ (((↑rl.len : Int) == (0 : Int)) = false → (∃ (i : Nat), (i ≤ (lsD st 8).len ∧ ¬rl.len = 0) ∧ (0 : Int) = (↑i : Int) ∧ (0 : Int) = (stp rl tag (lsD st 8) i).fst ∧ false = (stp rl tag (lsD st 8) i).snd ∧ st = st ∧ tag = tag ∧ (0 : Int) = (0 : Int) ∧ false = false ∧ List.map (fun (j : Nat) => [D.i (↑j : Int)]) (List.filter (fun (j : Nat) => hasR st (↑j : Int)) (List.range 8)) = List.map (fun (j : Nat) => [D.i (↑j : Int)]) (List.filter (fun (j : Nat) => hasR st (↑j : Int)) (List.range 8)) ∧ (↑(lsD st 8).len : Int) = (↑(lsD st 8).len : Int) ∧ _kd = _kd ∧ _size = _size ∧ _frm = _frm ∧ _dst = _dst ∧ _tags = _tags ∧ rl.rows = rl.rows) ∧ ∀ (i : Nat), i ≤ (lsD st 8).len ∧ ¬rl.len = 0 → (decide ((↑i : Int) < (↑(lsD st 8).len : Int)) = true → ((0 : Int) ≤ (↑i : Int) ∧ (↑i : Int) < (↑(lsD st 8).len : Int)) ∧ (0 : Int) ≤ ((lsD st 8).el (↑i : Int).toNat 0).toI ∧ ((!(mvI rl ((lsD st 8).el (↑i : Int).toNat 0).toI tag).snd) = true → ∃ (j : Nat), (j ≤ (lsD st 8).len ∧ ¬rl.len = 0) ∧ (lsD st 8).len + 1 - j < (lsD st 8).len + 1 - i ∧ IntKind.i64.wrap ((↑i : Int) + (1 : Int)) = (↑j : Int) ∧ (stp rl tag (lsD st 8) i).fst = (stp rl tag (lsD st 8) j).fst ∧ true = (stp rl tag (lsD st 8) j).snd ∧ st = st ∧ tag = tag ∧ (0 : Int) = (0 : Int) ∧ false = false ∧ List.map (fun (j : Nat) => [D.i (↑j : Int)]) (List.filter (fun (j : Nat) => hasR st (↑j : Int)) (List.range 8)) = List.map (fun (j : Nat) => [D.i (↑j : Int)]) (List.filter (fun (j : Nat) => hasR st (↑j : Int)) (List.range 8)) ∧ (↑(lsD st 8).len : Int) = (↑(lsD st 8).len : Int) ∧ _kd = _kd ∧ _size = _size ∧ _frm = _frm ∧ _dst = _dst ∧ _tags = _tags ∧ rl.rows = rl.rows) ∧ ((!(mvI rl ((lsD st 8).el (↑i : Int).toNat 0).toI tag).snd) = false → ((0 : Int) ≤ (mvI rl ((lsD st 8).el (↑i : Int).toNat 0).toI tag).fst ∧ (mvI rl ((lsD st 8).el (↑i : Int).toNat 0).toI tag).fst < (8 : Int)) ∧ ∃ (j : Nat), (j ≤ (lsD st 8).len ∧ ¬rl.len = 0) ∧ (lsD st 8).len + 1 - j < (lsD st 8).len + 1 - i ∧ IntKind.i64.wrap ((↑i : Int) + (1 : Int)) = (↑j : Int) ∧ IntKind.u8.wrap (↑(BitVec.ofInt IntKind.u8.bits (stp rl tag (lsD st 8) i).fst ||| BitVec.ofInt IntKind.u8.bits (ofS (mvI rl ((lsD st 8).el (↑i : Int).toNat 0).toI tag).fst)).toNat : Int) = (stp rl tag (lsD st 8) j).fst ∧ (stp rl tag (lsD st 8) i).snd = (stp rl tag (lsD st 8) j).snd ∧ st = st ∧ tag = tag ∧ (0 : Int) = (0 : Int) ∧ false = false ∧ List.map (fun (j : Nat) => [D.i (↑j : Int)]) (List.filter (fun (j : Nat) => hasR st (↑j : Int)) (List.range 8)) = List.map (fun (j : Nat) => [D.i (↑j : Int)]) (List.filter (fun (j : Nat) => hasR st (↑j : Int)) (List.range 8)) ∧ (↑(lsD st 8).len : Int) = (↑(lsD st 8).len : Int) ∧ _kd = _kd ∧ _size = _size ∧ _frm = _frm ∧ _dst = _dst ∧ _tags = _tags ∧ rl.rows = rl.rows)) ∧ (decide ((↑i : Int) < (↑(lsD st 8).len : Int)) = false → (stp rl tag (lsD st 8) i).fst = (stpR rl st tag).fst ∧ (stp rl tag (lsD st 8) i).snd = (stpR rl st tag).snd))) (by kernel_rfl) ?_
    simp only [Int.toNat_natCast]
    refine ⟨fun c => ?_, fun c => ⟨⟨0, ⟨Nat.zero_le _, ?_⟩, rfl, ?_⟩, fun i hi => ⟨fun x => ⟨?_, ?_, fun y => ⟨i + 1, ⟨?_, hi.2⟩, ?_, ?_, ?_⟩, fun y => ⟨?_, i + 1, ⟨?_, hi.2⟩, ?_, ?_, ?_⟩⟩, fun x => ?_⟩⟩⟩
    · have c : rl.len = 0 := by have := eq_of_beq c; omega
      unfold stpR
      rw [if_pos c]; exact ⟨rfl, rfl⟩
    · intro e; rw [e] at c; simp at c
    · (repeat' apply And.intro) <;> first | rfl | trivial
    all_goals obtain ⟨hi, hr⟩ := hi
    · have x : i < (lsD st 8).len := by simpa using x
      omega
    · have x : i < (lsD st 8).len := by simpa using x
      exact (lsD_at x).1
    · have x : i < (lsD st 8).len := by simpa using x
      omega
    · omega
    · have hl := lsD_len st 8
      exact wr _ (by omega)
    · have y : ¬ (mvI rl ((lsD st 8).el i 0).toI tag).2 = true := by simpa using y
      have e : stp rl tag (lsD st 8) (i + 1) = ((stp rl tag (lsD st 8) i).1, true) := if_neg y
      rw [e]
      (repeat' apply And.intro) <;> first | rfl | trivial
    · have y : (mvI rl ((lsD st 8).el i 0).toI tag).2 = true := by simpa using y
      exact mv_in y
    · have x : i < (lsD st 8).len := by simpa using x
      omega
    · omega
    · have hl := lsD_len st 8
      exact wr _ (by omega)
    · have y : (mvI rl ((lsD st 8).el i 0).toI tag).2 = true := by simpa using y
      have e : stp rl tag (lsD st 8) (i + 1) = (or8 (stp rl tag (lsD st 8) i).1 (ofS (mvI rl ((lsD st 8).el i 0).toI tag).1), (stp rl tag (lsD st 8) i).2) := if_pos y
      rw [e]
      (repeat' apply And.intro) <;> first | rfl | trivial
    · have x : ¬ i < (lsD st 8).len := by simpa using x
      have e : i = (lsD st 8).len := by omega
      unfold stpR
      rw [if_neg hr, e]
      exact ⟨rfl, rfl⟩
  · trivial
end Go.Proofs.YtlgmofjjjhbgkaaGreat.Sx.Z
namespace Go.Proofs.YtlgmofjjjhbgkaaGreat.Sx.Z
open Go.RowKit
/-- An expression: its kind, its number, its variable, its parts. -/
inductive Xp | mk (k n v : Int) (kids : List Xp)
def Xp.k : Xp → Int | mk k _ _ _ => k
def Xp.n : Xp → Int | mk _ n _ _ => n
def Xp.v : Xp → Int | mk _ _ v _ => v
def Xp.kids : Xp → List Xp | mk _ _ _ l => l
theorem el_lt {d : D} {i j : Nat} (h : i < d.len) : SizeOf.sizeOf (d.el i j) < SizeOf.sizeOf d := by
  cases d with
  | l rows =>
    have h' : i < rows.length := h
    have e : (D.l rows).el i j = (rows[i]).getD j (.i 0) := by
      show (rows.getD i []).getD j (.i 0) = _
      rw [List.getD_eq_getElem?_getD (l := rows), List.getElem?_eq_getElem h', Option.getD_some]
    rw [e, List.getD_eq_getElem?_getD]
    have h1 := List.sizeOf_lt_of_mem (List.getElem_mem h')
    cases hj : (rows[i])[j]? with
    | none =>
      rw [Option.getD_none]
      have : SizeOf.sizeOf (D.i 0) = 1 + SizeOf.sizeOf (0 : Int) := rfl
      have e2 : SizeOf.sizeOf (0 : Int) = 1 := rfl
      have : SizeOf.sizeOf (D.l rows) = 1 + SizeOf.sizeOf rows := by simp
      have h2 : 1 ≤ SizeOf.sizeOf (rows[i]) := by cases rows[i] <;> simp <;> omega
      omega
    | some x =>
      rw [Option.getD_some]
      have h2 := List.sizeOf_lt_of_mem (List.mem_of_getElem? hj)
      have : SizeOf.sizeOf (D.l rows) = 1 + SizeOf.sizeOf rows := by simp
      omega
  | i n => exact absurd h (Nat.not_lt_zero i)
  | b n => exact absurd h (Nat.not_lt_zero i)
  | s n => exact absurd h (Nat.not_lt_zero i)
def exs (d : D) : List Xp := (List.finRange d.len).map fun (i : Fin d.len) => Xp.mk (d.el i 0).toI (d.el i 1).toI (d.el i 2).toI (exs (d.el i 3))
  termination_by SizeOf.sizeOf d
  decreasing_by exact el_lt i.isLt
def ex (k n v : Int) (d : D) : Xp := .mk k n v (exs d)
theorem exs_len (d : D) : (exs d).length = d.len := by rw [exs]; simp
theorem exs_get {d : D} {i : Nat} (h : i < d.len) : (exs d)[i]? = some (ex (d.el i 0).toI (d.el i 1).toI (d.el i 2).toI (d.el i 3)) := by
  rw [exs, List.getElem?_map, List.getElem?_eq_getElem (by simpa using h)]
  simp [ex]
def exE (d : D) (i : Nat) : Xp := ex (d.el i 0).toI (d.el i 1).toI (d.el i 2).toI (d.el i 3)
theorem exs_one {d : D} (h : d.len = 1) : exs d = [exE d 0] := by
  have l := exs_len d
  have g := exs_get (d := d) (i := 0) (by omega)
  match he : exs d with
  | [] => rw [he, h] at l; cases l
  | [a] => rw [he] at g; simp at g; rw [g]; rfl
  | a :: b :: r => rw [he, h] at l; simp at l
theorem exs_two {d : D} (h : d.len = 2) : exs d = [exE d 0, exE d 1] := by
  have l := exs_len d
  have g := exs_get (d := d) (i := 0) (by omega)
  have g1 := exs_get (d := d) (i := 1) (by omega)
  match he : exs d with
  | [] => rw [he, h] at l; cases l
  | [a] => rw [he, h] at l; simp at l
  | [a, b] => rw [he] at g g1; simp at g g1; rw [g, g1]; rfl
  | a :: b :: c :: r => rw [he, h] at l; simp at l
theorem exs_ne2 {d : D} (h : d.len ≠ 2) (a b : Xp) : exs d ≠ [a, b] := fun e => h (by rw [← exs_len, e]; rfl)
theorem exs_ne1 {d : D} (h : d.len ≠ 1) (a : Xp) : exs d ≠ [a] := fun e => h (by rw [← exs_len, e]; rfl)
end Go.Proofs.YtlgmofjjjhbgkaaGreat.Sx.Z
namespace Go.Proofs.YtlgmofjjjhbgkaaGreat.Sx.Z
open Go.RowKit
def xpA : AP := .agg [.c (.int .i64), .c (.int .i64), .c (.int .i64), .c (.rows 25)]
def amtP (x b : Int) : Option (Int × Int) := if b < -1099511627776 ∨ b > 1099511627776 then none else some (x, b)
def combP (k : Int) (l r : Option (Int × Int)) : Option (Int × Int) := match l, r with
  | some (x, m), some (y, b) => if k = 5 ∧ y = -1 then amtP x (IntKind.i64.wrap (m - b)) else if k = 4 ∧ y = -1 then amtP x (IntKind.i64.wrap (m + b)) else if k = 4 ∧ x = -1 then amtP y (IntKind.i64.wrap (m + b)) else none
  | _, _ => none
def linP : Xp → Option (Int × Int)
  | .mk k n v kids => if k = 1 then amtP (-1) n else if k = 2 then some (v, 0) else if k = 4 ∨ k = 5 then (match kids with | [a, b] => combP k (linP a) (linP b) | _ => none) else none
theorem lin_eq (k n v : Int) (d : D) : linP (ex k n v d) = if k = 1 then amtP (-1) n else if k = 2 then some (v, 0) else if (k = 4 ∨ k = 5) ∧ d.len = 2 then combP k (linP (exE d 0)) (linP (exE d 1)) else none := by
  show linP (.mk k n v (exs d)) = _
  by_cases h2 : d.len = 2
  · rw [exs_two h2, linP]; simp [h2]
  · rw [linP.eq_2 _ _ _ _ (fun a b => exs_ne2 h2 a b)]; simp [h2]
def oX (o : Option (Int × Int)) : Int := match o with | some p => p.1 | none => 0
def oY (o : Option (Int × Int)) : Int := match o with | some p => p.2 | none => 0
def oB (o : Option (Int × Int)) : Bool := o.isSome
theorem oX_some (p : Int × Int) : oX (some p) = p.1 := rfl
theorem oY_some (p : Int × Int) : oY (some p) = p.2 := rfl
theorem oB_some (p : Int × Int) : oB (some p) = true := rfl
theorem oX_none : oX none = 0 := rfl
theorem oY_none : oY none = 0 := rfl
theorem oB_none : oB none = false := rfl
theorem comb_some (k x m y b : Int) : combP k (some (x, m)) (some (y, b)) = if k = 5 ∧ y = -1 then amtP x (IntKind.i64.wrap (m - b)) else if k = 4 ∧ y = -1 then amtP x (IntKind.i64.wrap (m + b)) else if k = 4 ∧ x = -1 then amtP y (IntKind.i64.wrap (m + b)) else none := rfl
theorem comb_l (k : Int) (r : Option (Int × Int)) : combP k none r = none := rfl
theorem comb_r (k : Int) (l : Option (Int × Int)) : combP k l none = none := by cases l <;> rfl
noncomputable def amountS : FSpec := fun ds _ => match ds with
  | [.i x, .i b] => some { val := .tup [.sc (.int .i64 (.sym (oX (amtP x b)))), .sc (.int .i64 (.sym (oY (amtP x b)))), .sc (.bool (.sym (oB (amtP x b))))], vc := [] }
  | _ => none
noncomputable def amountC : Con := con [iA, iA] amountS
theorem amount_ok : ConOK Tryz.prog 107 amountC := by
  refine fn_ob tt_ok mixed Tryz.func107 rfl (fun _ _ => by kernel_rfl) (A := fun ds => ⟨fun _ => Cons.of [], fun _ => none, fun _ => none⟩) (fun _ _ => cons_nil) (by kernel_rfl) ?_
  intro ds fr
  unfold amountS
  split
  · rename_i x b
    refine kmp (q := ((decide (b < (-1099511627776 : Int)) || decide (b > (1099511627776 : Int))) = true → (0 : Int) = oX (amtP x b) ∧ (0 : Int) = oY (amtP x b) ∧ false = oB (amtP x b)) ∧ ((decide (b < (-1099511627776 : Int)) || decide (b > (1099511627776 : Int))) = false → x = oX (amtP x b) ∧ b = oY (amtP x b) ∧ true = oB (amtP x b))) (by kernel_rfl) ?_
    unfold amtP
    by_cases h : b < -1099511627776 ∨ b > 1099511627776
    · rw [if_pos h]; simp [oX, oY, oB]; omega
    · rw [if_neg h]; simp [oX, oY, oB]; omega
  · trivial
noncomputable def linS : FSpec := fun ds _ => match ds with
  | [.i k, .i n, .i v, .d d] => some { val := .tup [.sc (.int .i64 (.sym (oX (linP (ex k n v d))))), .sc (.int .i64 (.sym (oY (linP (ex k n v d))))), .sc (.bool (.sym (oB (linP (ex k n v d)))))], vc := [] }
  | _ => none
noncomputable def linC : Con := con [xpA] linS
noncomputable def linM : List Dat → Nat := fun ds => match ds with
  | [.i _k, .i _n, .i _v, .d d] => SizeOf.sizeOf d
  | _ => 0
noncomputable def linSu (m : Nat) : FSpec := fun ds _ => match ds with
  | [.i k, .i n, .i v, .d d] => some { val := .tup [.sc (.int .i64 (.sym (oX (linP (ex k n v d))))), .sc (.int .i64 (.sym (oY (linP (ex k n v d))))), .sc (.bool (.sym (oB (linP (ex k n v d)))))], vc := [SizeOf.sizeOf d < m] }
  | _ => none
theorem lin_under (m : Nat) : linS.under linM m = linSu m := by
  funext ds fr
  unfold FSpec.under linS linM linSu
  split
  · rename_i e h
    split at h
    · obtain rfl := Option.some.inj h; rfl
    · cases h
  · rename_i h
    split at h
    · cases h
    · rfl
noncomputable def combinedS (m : Nat) : FSpec := fun ds _ => match ds with
  | [.i c, .i k, .i n, .i v, .d d, .i k2, .i n2, .i v2, .d d2] => some { val := .tup [.sc (.int .i64 (.sym (oX (combP c (linP (ex k n v d)) (linP (ex k2 n2 v2 d2)))))), .sc (.int .i64 (.sym (oY (combP c (linP (ex k n v d)) (linP (ex k2 n2 v2 d2)))))), .sc (.bool (.sym (oB (combP c (linP (ex k n v d)) (linP (ex k2 n2 v2 d2))))))], vc := [SizeOf.sizeOf d < m, SizeOf.sizeOf d2 < m] }
  | _ => none
noncomputable def combinedC (m : Nat) : Con := con [iA, xpA, xpA] (combinedS m)
theorem combined_ok {m : Nat} (ih : ConOK Tryz.prog 77 (con [xpA] (linSu m))) : ConOK Tryz.prog 108 (combinedC m) := by
  refine fn_ob tt_ok mixed Tryz.func108 rfl (fun _ _ => by kernel_rfl) (A := fun ds => ⟨fun _ => Cons.of [(77, con [xpA] (linSu m)), (107, amountC)], fun _ => none, fun _ => none⟩) (fun _ _ => (cons_cons ih (cons_cons amount_ok cons_nil))) (by kernel_rfl) ?_
  intro ds fr
  unfold combinedS
  split
  · rename_i c k n v d k2 n2 v2 d2
    refine kmp (q := SizeOf.sizeOf d < m → SizeOf.sizeOf d2 < m → SizeOf.sizeOf d < m ∧ SizeOf.sizeOf d2 < m ∧ ((!oB (linP (ex k n v d)) || !oB (linP (ex k2 n2 v2 d2))) = true → (0 : Int) = oX (combP c (linP (ex k n v d)) (linP (ex k2 n2 v2 d2))) ∧ (0 : Int) = oY (combP c (linP (ex k n v d)) (linP (ex k2 n2 v2 d2))) ∧ false = oB (combP c (linP (ex k n v d)) (linP (ex k2 n2 v2 d2)))) ∧ ((!oB (linP (ex k n v d)) || !oB (linP (ex k2 n2 v2 d2))) = false → ((c == (5 : Int) && oX (linP (ex k2 n2 v2 d2)) == (-1 : Int)) = true → oX (amtP (oX (linP (ex k n v d))) (IntKind.i64.wrap (oY (linP (ex k n v d)) - oY (linP (ex k2 n2 v2 d2))))) = oX (combP c (linP (ex k n v d)) (linP (ex k2 n2 v2 d2))) ∧ oY (amtP (oX (linP (ex k n v d))) (IntKind.i64.wrap (oY (linP (ex k n v d)) - oY (linP (ex k2 n2 v2 d2))))) = oY (combP c (linP (ex k n v d)) (linP (ex k2 n2 v2 d2))) ∧ oB (amtP (oX (linP (ex k n v d))) (IntKind.i64.wrap (oY (linP (ex k n v d)) - oY (linP (ex k2 n2 v2 d2))))) = oB (combP c (linP (ex k n v d)) (linP (ex k2 n2 v2 d2)))) ∧ ((c == (5 : Int) && oX (linP (ex k2 n2 v2 d2)) == (-1 : Int)) = false → ((c == (4 : Int) && oX (linP (ex k2 n2 v2 d2)) == (-1 : Int)) = true → oX (amtP (oX (linP (ex k n v d))) (IntKind.i64.wrap (oY (linP (ex k n v d)) + oY (linP (ex k2 n2 v2 d2))))) = oX (combP c (linP (ex k n v d)) (linP (ex k2 n2 v2 d2))) ∧ oY (amtP (oX (linP (ex k n v d))) (IntKind.i64.wrap (oY (linP (ex k n v d)) + oY (linP (ex k2 n2 v2 d2))))) = oY (combP c (linP (ex k n v d)) (linP (ex k2 n2 v2 d2))) ∧ oB (amtP (oX (linP (ex k n v d))) (IntKind.i64.wrap (oY (linP (ex k n v d)) + oY (linP (ex k2 n2 v2 d2))))) = oB (combP c (linP (ex k n v d)) (linP (ex k2 n2 v2 d2)))) ∧ ((c == (4 : Int) && oX (linP (ex k2 n2 v2 d2)) == (-1 : Int)) = false → ((c == (4 : Int) && oX (linP (ex k n v d)) == (-1 : Int)) = true → oX (amtP (oX (linP (ex k2 n2 v2 d2))) (IntKind.i64.wrap (oY (linP (ex k n v d)) + oY (linP (ex k2 n2 v2 d2))))) = oX (combP c (linP (ex k n v d)) (linP (ex k2 n2 v2 d2))) ∧ oY (amtP (oX (linP (ex k2 n2 v2 d2))) (IntKind.i64.wrap (oY (linP (ex k n v d)) + oY (linP (ex k2 n2 v2 d2))))) = oY (combP c (linP (ex k n v d)) (linP (ex k2 n2 v2 d2))) ∧ oB (amtP (oX (linP (ex k2 n2 v2 d2))) (IntKind.i64.wrap (oY (linP (ex k n v d)) + oY (linP (ex k2 n2 v2 d2))))) = oB (combP c (linP (ex k n v d)) (linP (ex k2 n2 v2 d2)))) ∧ ((c == (4 : Int) && oX (linP (ex k n v d)) == (-1 : Int)) = false → (0 : Int) = oX (combP c (linP (ex k n v d)) (linP (ex k2 n2 v2 d2))) ∧ (0 : Int) = oY (combP c (linP (ex k n v d)) (linP (ex k2 n2 v2 d2))) ∧ false = oB (combP c (linP (ex k n v d)) (linP (ex k2 n2 v2 d2)))))))) (by kernel_rfl) ?_
    intro h1 h2
    refine ⟨h1, h2, ?_⟩
    generalize linP (ex k n v d) = L
    generalize linP (ex k2 n2 v2 d2) = R
    rcases L with _ | ⟨x, a⟩ <;> rcases R with _ | ⟨y, b⟩ <;> simp only [comb_l, comb_r, comb_some, oX_some, oY_some, oB_some, oX_none, oY_none, oB_none] <;> (repeat' first | apply And.intro | intro _) <;> grind [oX_none, oY_none, oB_none]
  · trivial
theorem lin_step (m : Nat) (ih : ConOK Tryz.prog 77 (con [xpA] (linSu m))) : ConOK Tryz.prog 77 (con [xpA] (linSu (m + 1))) := by
  refine fn_ob tt_ok mixed Tryz.func77 rfl (fun _ _ => by kernel_rfl) (A := fun ds => ⟨fun _ => Cons.of [(108, (combinedC m)), (107, amountC)], fun _ => none, fun _ => none⟩) (fun _ _ => (cons_cons (combined_ok ih) (cons_cons amount_ok cons_nil))) (by kernel_rfl) ?_
  intro ds fr
  unfold linSu
  split
  · rename_i k n v d
    refine kmp (q := SizeOf.sizeOf d < m + 1 → ((k == (1 : Int)) = true → oX (amtP (-1 : Int) n) = oX (linP (ex k n v d)) ∧ oY (amtP (-1 : Int) n) = oY (linP (ex k n v d)) ∧ oB (amtP (-1 : Int) n) = oB (linP (ex k n v d))) ∧ ((k == (1 : Int)) = false → ((k == (2 : Int)) = true → v = oX (linP (ex k n v d)) ∧ (0 : Int) = oY (linP (ex k n v d)) ∧ true = oB (linP (ex k n v d))) ∧ ((k == (2 : Int)) = false → (((k == (4 : Int) || k == (5 : Int)) && (↑d.len : Int) == (2 : Int)) = true → nat_lit 0 < d.len ∧ nat_lit 1 < d.len ∧ SizeOf.sizeOf (d.el (nat_lit 0) (0 + 1 + 1 + 1)) < m ∧ SizeOf.sizeOf (d.el (nat_lit 1) (0 + 1 + 1 + 1)) < m ∧ oX (combP k (linP (ex (d.el (nat_lit 0) 0).toI (d.el (nat_lit 0) (0 + 1)).toI (d.el (nat_lit 0) (0 + 1 + 1)).toI (d.el (nat_lit 0) (0 + 1 + 1 + 1)))) (linP (ex (d.el (nat_lit 1) 0).toI (d.el (nat_lit 1) (0 + 1)).toI (d.el (nat_lit 1) (0 + 1 + 1)).toI (d.el (nat_lit 1) (0 + 1 + 1 + 1))))) = oX (linP (ex k n v d)) ∧ oY (combP k (linP (ex (d.el (nat_lit 0) 0).toI (d.el (nat_lit 0) (0 + 1)).toI (d.el (nat_lit 0) (0 + 1 + 1)).toI (d.el (nat_lit 0) (0 + 1 + 1 + 1)))) (linP (ex (d.el (nat_lit 1) 0).toI (d.el (nat_lit 1) (0 + 1)).toI (d.el (nat_lit 1) (0 + 1 + 1)).toI (d.el (nat_lit 1) (0 + 1 + 1 + 1))))) = oY (linP (ex k n v d)) ∧ oB (combP k (linP (ex (d.el (nat_lit 0) 0).toI (d.el (nat_lit 0) (0 + 1)).toI (d.el (nat_lit 0) (0 + 1 + 1)).toI (d.el (nat_lit 0) (0 + 1 + 1 + 1)))) (linP (ex (d.el (nat_lit 1) 0).toI (d.el (nat_lit 1) (0 + 1)).toI (d.el (nat_lit 1) (0 + 1 + 1)).toI (d.el (nat_lit 1) (0 + 1 + 1 + 1))))) = oB (linP (ex k n v d))) ∧ (((k == (4 : Int) || k == (5 : Int)) && (↑d.len : Int) == (2 : Int)) = false → (0 : Int) = oX (linP (ex k n v d)) ∧ (0 : Int) = oY (linP (ex k n v d)) ∧ false = oB (linP (ex k n v d)))))) (by kernel_rfl) ?_
    intro hm
    have e0 : ∀ i, ex (d.el i 0).toI (d.el i (0 + 1)).toI (d.el i (0 + 1 + 1)).toI (d.el i (0 + 1 + 1 + 1)) = exE d i := fun i => rfl
    simp only [e0, lin_eq k n v d]
    have z : ∀ i, i < d.len → SizeOf.sizeOf (d.el i (0 + 1 + 1 + 1)) < m := fun i hi => by have := el_lt (j := 0 + 1 + 1 + 1) hi; omega
    (repeat' first | apply And.intro | intro _) <;> grind [oX_some, oY_some, oB_some, oX_none, oY_none, oB_none]
  · trivial
theorem lin_ok : ConOK Tryz.prog 77 linC :=
  con_rec linM (fun _ _ => by kernel_rfl) fun m ih => by
    rw [lin_under] at ih ⊢
    exact lin_step m ih
end Go.Proofs.YtlgmofjjjhbgkaaGreat.Sx.Z
namespace Go.Proofs.YtlgmofjjjhbgkaaGreat.Sx.Z
open Go.RowKit
/-- No expression has too many parts. -/
inductive Small : Xp → Prop
  | mk (k n v : Int) (kids : List Xp) : kids.length ≤ 1000000 → (∀ x, x ∈ kids → Small x) → Small (.mk k n v kids)
end Go.Proofs.YtlgmofjjjhbgkaaGreat.Sx.Z
namespace Go.Proofs.YtlgmofjjjhbgkaaGreat.Sx.Z
open Go.RowKit
/-- What Tame tells: of so many variables. -/
inductive Tm (w : Int) : Xp → Prop
  | num (n : Int) : 0 ≤ n → n ≤ 2147483647 → Tm w (.mk 1 n 0 [])
  | var (v : Int) : 0 ≤ v → v < w → Tm w (.mk 2 0 v [])
  | neg (a : Xp) : Tm w a → Tm w (.mk 3 0 0 [a])
  | bin (k : Int) (a b : Xp) : 4 ≤ k → k ≤ 8 → Tm w a → Tm w b → Tm w (.mk k 0 0 [a, b])
def rcomb (k : Int) (l r : Option (Int × Int)) : Option (Int × Int) := match l, r with
  | some (x, m), some (y, b) => if (0 ≤ x ∧ 0 ≤ y) ∨ (k = 5 ∧ 0 ≤ y) then none else some (max x y, if k = 5 then IntKind.i64.wrap (m - b) else IntKind.i64.wrap (m + b))
  | _, _ => none
def rcut (o : Option (Int × Int)) : Option (Int × Int) := match o with
  | some (x, n) => if n > 1099511627776 ∨ n < -1099511627776 then none else some (x, n)
  | none => none
def rlinP : Xp → Option (Int × Int)
  | .mk k n v kids => rcut (if k = 1 ∧ kids.length = 0 then some (-1, n) else if k = 2 ∧ kids.length = 0 then some (v, 0) else if k = 4 ∨ k = 5 then (match kids with | [a, b] => rcomb k (rlinP a) (rlinP b) | _ => none) else none)
theorem rcomb_some (k x m y b : Int) : rcomb k (some (x, m)) (some (y, b)) = if (0 ≤ x ∧ 0 ≤ y) ∨ (k = 5 ∧ 0 ≤ y) then none else some (max x y, if k = 5 then IntKind.i64.wrap (m - b) else IntKind.i64.wrap (m + b)) := rfl
theorem rcomb_l (k : Int) (r : Option (Int × Int)) : rcomb k none r = none := rfl
theorem rcomb_r (k : Int) (l : Option (Int × Int)) : rcomb k l none = none := by cases l <;> rfl
theorem rcut_some (x n : Int) : rcut (some (x, n)) = if n > 1099511627776 ∨ n < -1099511627776 then none else some (x, n) := rfl
/-- Of what Tame tells both are the same. -/
theorem lin_same {w : Int} (hw : 1 ≤ w) {e : Xp} (h : Tm w e) : rlinP e = linP e ∧ ∀ x n, linP e = some (x, n) → -1 ≤ x ∧ x < w ∧ -1099511627776 ≤ n ∧ n ≤ 1099511627776 := by
  induction h with
  | num n h0 h1 =>
    rw [rlinP.eq_2 _ _ _ _ (fun a b h => by cases h), linP.eq_2 _ _ _ _ (fun a b h => by cases h)]
    simp only [List.length_nil, and_self, if_true, rcut_some, amtP]
    rw [if_neg (by omega), if_neg (by omega)]
    exact ⟨rfl, fun x m e => by obtain ⟨rfl, rfl⟩ := Prod.mk.inj (Option.some.inj e); omega⟩
  | var v h0 h1 =>
    rw [rlinP.eq_2 _ _ _ _ (fun a b h => by cases h), linP.eq_2 _ _ _ _ (fun a b h => by cases h)]
    refine ⟨rfl, fun x m e => ?_⟩
    have e : some (v, (0 : Int)) = some (x, m) := e
    obtain ⟨rfl, rfl⟩ := Prod.mk.inj (Option.some.inj e); omega
  | neg a _ _ =>
    rw [rlinP.eq_2 _ _ _ _ (fun a b h => by cases h), linP.eq_2 _ _ _ _ (fun a b h => by cases h)]
    exact ⟨rfl, fun x m e => by cases e⟩
  | bin k a b h4 h8 _ _ ia ib =>
    obtain ⟨ea, ba⟩ := ia
    obtain ⟨eb, bb⟩ := ib
    rw [rlinP, linP, ea, eb]
    have k1 : ¬ (k = 1 ∧ [a, b].length = 0) := by simp
    have k2 : ¬ (k = 2 ∧ [a, b].length = 0) := by simp
    rw [if_neg k1, if_neg k2, if_neg (show ¬ k = 1 by omega), if_neg (show ¬ k = 2 by omega)]
    by_cases k45 : k = 4 ∨ k = 5
    · rw [if_pos k45, if_pos k45]
      generalize linP a = L at *
      generalize linP b = R at *
      rcases L with _ | ⟨x, m⟩
      · rw [rcomb_l, comb_l]; exact ⟨rfl, fun x m e => by cases e⟩
      · rcases R with _ | ⟨y, p⟩
        · rw [rcomb_r, comb_r]; exact ⟨rfl, fun x m e => by cases e⟩
        · have hx := ba x m rfl
          have hy := bb y p rfl
          have w1 : IntKind.i64.wrap (m - p) = m - p := wr _ (by omega)
          have w2 : IntKind.i64.wrap (m + p) = m + p := wr _ (by omega)
          rw [rcomb_some, comb_some, w1, w2]
          unfold amtP rcut
          constructor <;> grind
    · rw [if_neg k45, if_neg k45]; exact ⟨rfl, fun x m e => by cases e⟩
end Go.Proofs.YtlgmofjjjhbgkaaGreat.Sx.Z
namespace Go.Proofs.YtlgmofjjjhbgkaaGreat
open Go.RowKit

theorem wr64 (x : Int) (h1 : -9223372036854775808 ≤ x) (h2 : x ≤ 9223372036854775807) : IntKind.i64.wrap x = x := by
  simp [IntKind.wrap, IntKind.bits, IntKind.signed]
  omega
end Go.Proofs.YtlgmofjjjhbgkaaGreat
namespace Go.Proofs.YtlgmofjjjhbgkaaGreat
open Go.RowKit

theorem ofP_or (l h L H : Int) (e : ofP l h = (L, H)) : (L = 1 ∧ H = 0 ∧ (h < l ∨ h < -2147483648 ∨ 2147483647 < l)) ∨ (L ≤ H ∧ (L = l ∧ -2147483648 ≤ l ∨ L = -2147483648 ∧ l < -2147483648) ∧ (H = h ∧ h ≤ 2147483647 ∨ H = 2147483647 ∧ 2147483647 < h)) := by
  unfold ofP nrm mx mn at e
  by_cases h1 : l < -2147483648 <;> by_cases h2 : 2147483647 < h <;> simp only [h1, h2, if_true, if_false] at e <;> split at e <;> (injection e with e1 e2; omega)
theorem mn_or (x y : Int) : (mn x y = x ∧ x ≤ y) ∨ (mn x y = y ∧ y ≤ x) := by unfold mn; split <;> omega
theorem mx_or (x y : Int) : (mx x y = x ∧ y ≤ x) ∨ (mx x y = y ∧ x ≤ y) := by unfold mx; split <;> omega
end Go.Proofs.YtlgmofjjjhbgkaaGreat
namespace Go.Proofs.YtlgmofjjjhbgkaaGreat
open Go.RowKit

theorem bot_le (f : Int → Int → Int) (a0 a1 b0 b1 : Int) : bot f a0 a1 b0 b1 ≤ f a0 b0 ∧ bot f a0 a1 b0 b1 ≤ f a0 b1 ∧ bot f a0 a1 b0 b1 ≤ f a1 b0 ∧ bot f a0 a1 b0 b1 ≤ f a1 b1 := by
  unfold bot mn
  repeat' split
  all_goals omega
theorem le_top (f : Int → Int → Int) (a0 a1 b0 b1 : Int) : f a0 b0 ≤ top f a0 a1 b0 b1 ∧ f a0 b1 ≤ top f a0 a1 b0 b1 ∧ f a1 b0 ≤ top f a0 a1 b0 b1 ∧ f a1 b1 ≤ top f a0 a1 b0 b1 := by
  unfold top mx
  repeat' split
  all_goals omega
/-- What lies between two, whichever is the lesser one. -/
def Btw (x n y : Int) : Prop := (x ≤ n ∧ n ≤ y) ∨ (y ≤ n ∧ n ≤ x)
/-- The ends tell what is between. -/
theorem corner (f : Int → Int → Int) (a0 a1 b0 b1 x y : Int) (hx : Btw (f a0 y) (f x y) (f a1 y)) (h0 : Btw (f a0 b0) (f a0 y) (f a0 b1)) (h1 : Btw (f a1 b0) (f a1 y) (f a1 b1)) :
    bot f a0 a1 b0 b1 ≤ f x y ∧ f x y ≤ top f a0 a1 b0 b1 := by
  have l := bot_le f a0 a1 b0 b1
  have t := le_top f a0 a1 b0 b1
  unfold Btw at *
  omega
theorem mul_btw (a0 a1 x y : Int) (h0 : a0 ≤ x) (h1 : x ≤ a1) : Btw (a0 * y) (x * y) (a1 * y) := by
  rcases Int.le_total 0 y with hy | hy
  · exact .inl ⟨Int.mul_le_mul_of_nonneg_right h0 hy, Int.mul_le_mul_of_nonneg_right h1 hy⟩
  · exact .inr ⟨Int.mul_le_mul_of_nonpos_right h1 hy, Int.mul_le_mul_of_nonpos_right h0 hy⟩
theorem mul_in (a0 a1 b0 b1 x y : Int) (h0 : a0 ≤ x) (h1 : x ≤ a1) (g0 : b0 ≤ y) (g1 : y ≤ b1) : bot (fun x y => x * y) a0 a1 b0 b1 ≤ x * y ∧ x * y ≤ top (fun x y => x * y) a0 a1 b0 b1 := by
  refine corner (fun x y => x * y) a0 a1 b0 b1 x y (mul_btw a0 a1 x y h0 h1) ?_ ?_
  · have t := mul_btw b0 b1 y a0 g0 g1
    simp only [Int.mul_comm] at t ⊢
    exact t
  · have t := mul_btw b0 b1 y a1 g0 g1
    simp only [Int.mul_comm] at t ⊢
    exact t
/-- Quotients of what is not below nought. -/
theorem td_pos (x x' y y' : Int) (h0 : 0 ≤ x) (h1 : x ≤ x') (g0 : 0 < y') (g1 : y' ≤ y) : 0 ≤ x.tdiv y ∧ x.tdiv y ≤ x'.tdiv y' ∧ x.tdiv y ≤ x := by
  obtain ⟨X, rfl⟩ := Int.eq_ofNat_of_zero_le h0
  obtain ⟨X', rfl⟩ := Int.eq_ofNat_of_zero_le (Int.le_trans h0 h1)
  obtain ⟨Y', rfl⟩ := Int.eq_ofNat_of_zero_le (Int.le_of_lt g0)
  obtain ⟨Y, rfl⟩ := Int.eq_ofNat_of_zero_le (Int.le_trans (Int.le_of_lt g0) g1)
  have e1 : (X : Int).tdiv Y = ((X / Y : Nat) : Int) := rfl
  have e2 : (X' : Int).tdiv Y' = ((X' / Y' : Nat) : Int) := rfl
  rw [e1, e2]
  have t := Nat.div_le_div (a := X) (b := X') (c := Y) (d := Y') (by omega) (by omega) (by omega)
  have u := Nat.div_le_self X Y
  clear e1 e2
  generalize X / Y = q at *
  generalize X' / Y' = q' at *
  omega
theorem td_neg_l (x y : Int) : (-x).tdiv y = -(x.tdiv y) := Int.neg_tdiv ..
theorem td_neg_r (x y : Int) : x.tdiv (-y) = -(x.tdiv y) := Int.tdiv_neg ..
/-- By a number above nought: it rises with what is divided. -/
theorem td_mono (x x' y : Int) (h1 : x ≤ x') (g0 : 0 < y) : x.tdiv y ≤ x'.tdiv y := by
  by_cases hx : 0 ≤ x
  · exact (td_pos x x' y y hx h1 g0 (Int.le_refl _)).2.1
  · have t := td_pos 0 (-x) y y (by omega) (by omega) g0 (Int.le_refl _)
    have t2 := td_neg_l x y
    by_cases hx' : 0 ≤ x'
    · have u := td_pos x' x' y y hx' (Int.le_refl _) g0 (Int.le_refl _)
      omega
    · have v := td_pos (-x') (-x) y y (by omega) (by omega) g0 (Int.le_refl _)
      have v2 := td_neg_l x' y
      omega
theorem td_btw_x (a0 a1 x y : Int) (h0 : a0 ≤ x) (h1 : x ≤ a1) (hy : y ≠ 0) : Btw (a0.tdiv y) (x.tdiv y) (a1.tdiv y) := by
  by_cases g : 0 < y
  · exact .inl ⟨td_mono _ _ _ h0 g, td_mono _ _ _ h1 g⟩
  · have e : ∀ z : Int, z.tdiv y = -(z.tdiv (-y)) := fun z => by have := td_neg_r z (-y); rw [Int.neg_neg] at this; exact this
    rw [e a0, e x, e a1]
    have p := td_mono a0 x (-y) h0 (by omega)
    have q := td_mono x a1 (-y) h1 (by omega)
    exact .inr (by omega)
theorem td_btw_pos (x b0 b1 y : Int) (g : 0 < b0) (h0 : b0 ≤ y) (h1 : y ≤ b1) : Btw (x.tdiv b0) (x.tdiv y) (x.tdiv b1) := by
  by_cases hx : 0 ≤ x
  · exact .inr ⟨(td_pos x x b1 y hx (Int.le_refl _) (by omega) h1).2.1, (td_pos x x y b0 hx (Int.le_refl _) g h0).2.1⟩
  · have e : ∀ z : Int, x.tdiv z = -((-x).tdiv z) := fun z => by have := td_neg_l (-x) z; rw [Int.neg_neg] at this; exact this
    rw [e b0, e y, e b1]
    have p := (td_pos (-x) (-x) b1 y (by omega) (Int.le_refl _) (by omega) h1).2.1
    have q := (td_pos (-x) (-x) y b0 (by omega) (Int.le_refl _) g h0).2.1
    exact .inl (by omega)
theorem td_btw_y (x b0 b1 y : Int) (g : 0 < b0 ∨ b1 < 0) (h0 : b0 ≤ y) (h1 : y ≤ b1) : Btw (x.tdiv b0) (x.tdiv y) (x.tdiv b1) := by
  rcases g with g | g
  · exact td_btw_pos x b0 b1 y g h0 h1
  · have e : ∀ z : Int, x.tdiv z = -(x.tdiv (-z)) := fun z => by have := td_neg_r x (-z); rw [Int.neg_neg] at this; exact this
    rw [e b0, e y, e b1]
    have t := td_btw_pos x (-b1) (-b0) (-y) (by omega) (by omega) (by omega)
    unfold Btw at *
    omega
theorem quo_in (a0 a1 b0 b1 x y : Int) (g : 0 < b0 ∨ b1 < 0) (h0 : a0 ≤ x) (h1 : x ≤ a1) (g0 : b0 ≤ y) (g1 : y ≤ b1) : bot Int.tdiv a0 a1 b0 b1 ≤ x.tdiv y ∧ x.tdiv y ≤ top Int.tdiv a0 a1 b0 b1 :=
  corner Int.tdiv a0 a1 b0 b1 x y (td_btw_x a0 a1 x y h0 h1 (by omega)) (td_btw_y a0 b0 b1 y g g0 g1) (td_btw_y a1 b0 b1 y g g0 g1)
/-- A quotient is no farther from nought than what is divided. -/
theorem td_abs (x y : Int) (m : Int) (h0 : -m ≤ x) (h1 : x ≤ m) (hy : y ≠ 0) : -m ≤ x.tdiv y ∧ x.tdiv y ≤ m := by
  have p : ∀ z : Int, 0 < z → -m ≤ x.tdiv z ∧ x.tdiv z ≤ m := fun z hz => by
    by_cases hx : 0 ≤ x
    · have t := td_pos x x z z hx (Int.le_refl _) hz (Int.le_refl _); omega
    · have t := td_pos (-x) (-x) z z (by omega) (Int.le_refl _) hz (Int.le_refl _)
      have := td_neg_l x z
      omega
  by_cases g : 0 < y
  · exact p y g
  · have t := p (-y) (by omega)
    have := td_neg_r x y
    omega
/-- Rests. -/
theorem tm_pos (x y : Int) (h : 0 ≤ x) (g : 0 < y) : 0 ≤ x.tmod y ∧ x.tmod y < y ∧ x.tmod y ≤ x := by
  obtain ⟨X, rfl⟩ := Int.eq_ofNat_of_zero_le h
  obtain ⟨Y, rfl⟩ := Int.eq_ofNat_of_zero_le (Int.le_of_lt g)
  have e : (X : Int).tmod Y = ((X % Y : Nat) : Int) := rfl
  rw [e]
  have t := Nat.mod_lt X (y := Y) (by omega)
  have u := Nat.mod_le X Y
  clear e
  generalize X % Y = q at *
  omega
theorem tm_any (x y m : Int) (hy : y ≠ 0) (h0 : -m ≤ y) (h1 : y ≤ m) : -(m - 1) ≤ x.tmod y ∧ x.tmod y ≤ m - 1 ∧ ((0 ≤ x ∧ 0 ≤ x.tmod y ∧ x.tmod y ≤ x) ∨ (x ≤ 0 ∧ x ≤ x.tmod y ∧ x.tmod y ≤ 0)) := by
  have p : ∀ z : Int, 0 < z → z ≤ m → -(m - 1) ≤ x.tmod z ∧ x.tmod z ≤ m - 1 ∧ ((0 ≤ x ∧ 0 ≤ x.tmod z ∧ x.tmod z ≤ x) ∨ (x ≤ 0 ∧ x ≤ x.tmod z ∧ x.tmod z ≤ 0)) := fun z hz hm => by
    by_cases hx : 0 ≤ x
    · have t := tm_pos x z hx hz; omega
    · have t := tm_pos (-x) z (by omega) hz
      have e : (-x).tmod z = -(x.tmod z) := Int.neg_tmod ..
      omega
  by_cases g : 0 < y
  · exact p y g h1
  · have t := p (-y) (by omega) (by omega)
    have e : x.tmod (-y) = x.tmod y := Int.tmod_neg ..
    rw [e] at t
    exact t
theorem rest_eq (x y : Int) : x - x.tdiv y * y = x.tmod y := by
  have := Int.tmod_add_tdiv_mul x y
  omega
/-- What a kind makes of two numbers: the number, and which error. -/
def valP (k x y : Int) : Int := if k = 4 then x + y else if k = 5 then x - y else if k = 6 then x * y else if k = 7 then x.tdiv y else x - x.tdiv y * y
def errP (k x y : Int) : Int := if 7 ≤ k ∧ y = 0 then 3 else if valP k x y < -2147483648 ∨ 2147483647 < valP k x y then 2 else 0
theorem errP_or (k x y : Int) : (errP k x y = 3 ∧ 7 ≤ k ∧ y = 0) ∨ (errP k x y = 2 ∧ ¬ (7 ≤ k ∧ y = 0) ∧ (valP k x y < -2147483648 ∨ 2147483647 < valP k x y)) ∨ (errP k x y = 0 ∧ ¬ (7 ≤ k ∧ y = 0) ∧ -2147483648 ≤ valP k x y ∧ valP k x y ≤ 2147483647) := by
  unfold errP
  by_cases h : 7 ≤ k ∧ y = 0
  · rw [if_pos h]; exact .inl ⟨rfl, h⟩
  · rw [if_neg h]
    by_cases g : valP k x y < -2147483648 ∨ 2147483647 < valP k x y
    · rw [if_pos g]; exact .inr (.inl ⟨rfl, h, g⟩)
    · rw [if_neg g]; exact .inr (.inr ⟨rfl, h, by omega, by omega⟩)
/-- What Do tells of a kind and two Itvs, in words. -/
structure DoOk (k a0 a1 b0 b1 z0 z1 : Int) (ov dz : Bool) : Prop where
  norm : (z0 = 1 ∧ z1 = 0) ∨ (z0 ≤ z1 ∧ -2147483648 ≤ z0 ∧ z1 ≤ 2147483647)
  has : ∀ x y, a0 ≤ x → x ≤ a1 → b0 ≤ y → y ≤ b1 → errP k x y = 0 → z0 ≤ valP k x y ∧ valP k x y ≤ z1
  over : ∀ x y, a0 ≤ x → x ≤ a1 → b0 ≤ y → y ≤ b1 → errP k x y = 2 → ov = true
  zero : dz = (decide (7 ≤ k) && decide (b0 ≤ 0 ∧ 0 ≤ b1))
  sure : k ≤ 5 ∨ (a0 = a1 ∧ b0 = b1) → ov = true → ∃ x y, a0 ≤ x ∧ x ≤ a1 ∧ b0 ≤ y ∧ y ≤ b1 ∧ errP k x y = 2
  alone : a0 = a1 ∧ b0 = b1 → (errP k a0 b0 ≠ 0 → z0 = 1 ∧ z1 = 0) ∧ (errP k a0 b0 = 0 → z0 = valP k a0 b0 ∧ z1 = valP k a0 b0)
/-- From the ends' least and greatest one on. -/
theorem ends_ok (k a0 a1 b0 b1 L H z0 z1 : Int) (ov dz : Bool) (ha : a0 ≤ a1) (hb : b0 ≤ b1) (hz : dz = (decide (7 ≤ k) && decide (b0 ≤ 0 ∧ 0 ≤ b1))) (hk : k ≤ 6) (e : ofP L H = (z0, z1)) (ho : ov = (decide (L < -2147483648) || decide (2147483647 < H)))
    (hin : ∀ x y, a0 ≤ x → x ≤ a1 → b0 ≤ y → y ≤ b1 → L ≤ valP k x y ∧ valP k x y ≤ H)
    (hw : k ≤ 5 ∨ (a0 = a1 ∧ b0 = b1) → ∃ x y x' y', a0 ≤ x ∧ x ≤ a1 ∧ b0 ≤ y ∧ y ≤ b1 ∧ valP k x y = L ∧ a0 ≤ x' ∧ x' ≤ a1 ∧ b0 ≤ y' ∧ y' ≤ b1 ∧ valP k x' y' = H) : DoOk k a0 a1 b0 b1 z0 z1 ov dz := by
  have t := ofP_or L H z0 z1 e
  have e0 : ov = true ↔ L < -2147483648 ∨ 2147483647 < H := by rw [ho]; simp
  refine ⟨by omega, fun x y x0 x1 y0 y1 h => ?_, fun x y x0 x1 y0 y1 h => ?_, hz, fun hs ht => ?_, fun hal => ?_⟩
  · have u := hin x y x0 x1 y0 y1
    have v := errP_or k x y
    omega
  · have u := hin x y x0 x1 y0 y1
    have v := errP_or k x y
    exact e0.2 (by omega)
  · obtain ⟨x, y, x', y', g0, g1, g2, g3, g4, g5, g6, g7, g8, g9⟩ := hw hs
    rcases e0.1 ht with h | h
    · exact ⟨x, y, g0, g1, g2, g3, by have v := errP_or k x y; omega⟩
    · exact ⟨x', y', g5, g6, g7, g8, by have v := errP_or k x' y'; omega⟩
  · obtain ⟨x, y, x', y', g0, g1, g2, g3, g4, g5, g6, g7, g8, g9⟩ := hw (.inr hal)
    obtain ⟨rfl, rfl⟩ := hal
    obtain rfl : x = a0 := by omega
    obtain rfl : y = b0 := by omega
    obtain rfl : x' = x := by omega
    obtain rfl : y' = y := by omega
    clear hin hw e0 e ho hz
    have v := errP_or k x' y'
    exact ⟨fun h => by omega, fun h => by omega⟩
end Go.Proofs.YtlgmofjjjhbgkaaGreat
