/-
  trans: who goes over an edge: tell, tellErrs, assert, pass.; Trees of expressions: out of data, and back.; eval.Linear.; The laws' Tame, and their copy of a tree.; The reference's Linear; trees that Tame tells.; Itvs joined, widened: the program's, and the reference's.; itv's small calls: what they tell, plainly.; itv's and the reference's calls of two: within, either, both, as far as may be, back again.; The least and the greatest of four numbers; what is made of the ends of two.; Do of sums and differences, and of nothing; Neg; what every law of layer 8 asks.; Regions that draw their order, where two blocks are made beside calls: what is carried through.; Test: those for which a comparison holds.; ItvTests: plain mathematics: where a comparison holds, told by its ends.; A block that is made behind two stores.; Plain mathematics of products, quotients and rests of two Itvs.
-/
import Derived.Test.YtlgmofjjjhbgkaaGreatM15
import Derived.Test.YtlgmofjjjhbgkaaGreatM14
import Derived.Laws.Bits64
import Derived.Test.YtlgmofjjjhbgkaaGreatChecked
import Derived.WalkKit
import Derived.ProofKit
import Derived.Below
import Derived.Handy
import Derived.Lib.Hide
import Derived.IntWalk
import Derived.Deep.WholeRow
import Derived.Deep.Cut
import Derived.Deep.RegionHeld3
import Derived.Deep.CutRange
import Derived.RegionTactic
namespace Go.Proofs.YtlgmofjjjhbgkaaGreat.Sx.Z
open Go.RowKit
def kD (ks : D) (k : Int) (is : Bool) : D := if is = true then .l (ks.rows ++ [[.i k]]) else ks
theorem kD_len (ks : D) (k : Int) (is : Bool) : (kD ks k is).len ≤ ks.len + 1 := by
  unfold kD
  split
  · show (ks.rows ++ [[D.i k]]).length ≤ _
    simp [D.len]
  · omega
def kE (ks : D) (er : Bool × Bool) : D := kD (kD ks 2 er.1) 3 er.2
noncomputable def ttellS : List Dat → Option (Eff × List Seg) := fun ds => match ds with
  | [.d ch, .d gr, .d va, .d el, .d df, .i gn, .d ge, .d gh, .i ed, .b c, .d I, .i n, .b e, .f f, .d cn, .d ru, .i sc, .i sg, .i s0, .i s1, .d ks, .i k, .b is] => some ({ val := .tup [], vc := [ks.len ≤ 1000], nw := [(0, .orow 3 (kD ks k is))] }, [.c (.rows 73 (ch)), .c (.rows 35 (gr)), .c (.rows 3 (va)), .c (.rows 75 (el)), .c (.rows 4 (df)), .c (.int .i64 (.sym gn)), .c (.rows 31 (ge)), .c (.rows 3 (gh)), .c (.int .i64 (.sym ed)), .c (.bool (.sym c)), .c (.rows 53 (I)), .c (.int .i64 (.sym n)), .c (.bool (.sym e)), .ints .i64 (.lit 49) f, .c (.rows 53 (cn)), .c (.rows 93 (ru)), .c (.int .i64 (.sym (sc))), .c (.int .i64 (.sym (sg))), .c (.int .i64 (.sym (s0))), .c (.int .i64 (.sym (s1))), .c (.osl 3 0 (.lit 0) (.sym (kD ks k is).len))])
  | _ => none
noncomputable def ttellC : Con := conM 101 [.c (.rows 73), .c (.rows 35), .c (.rows 3), .c (.rows 75), .c (.rows 4), .c (.int .i64), .c (.rows 31), .c (.rows 3), .c (.int .i64), .c .bool, .c (.rows 53), .c (.int .i64), .c .bool, .ints .i64 49, .c (.rows 53), .c (.rows 93), .c (.int .i64), .c (.int .i64), .c (.int .i64), .c (.int .i64), .own 3] [iA, .sc .bool] ttellS
theorem ttell_ok : ConOK Tryz.prog 80 ttellC := by
  refine fn_obM tt_ok mixed Tryz.func80 rfl (fun _ _ => by kernel_rfl) (A := fun ds => ⟨fun _ => Cons.of [], fun _ => none, fun _ => none⟩) (fun _ _ => cons_nil) (by kernel_rfl) ?_
  intro ds
  unfold ttellS
  split
  · rename_i ch gr va el df gn ge gh ed c I n e f cn ru sc sg s0 s1 ks k is
    refine kmp (q := ks.len ≤ (1000 : Nat) →
 (is = true →
 ks.len = ks.len ∧
 (ks.len + ((D.l [[D.i k]]).sub (0 : Nat) ((0 : Nat) + (1 : Nat))).len) * (8 : Nat) ≤ (140737488355328 : Nat) ∧
 (0 : Nat) + (1 : Nat) ≤ (D.l [[D.i k]]).len ∧
 ch.rows = ch.rows ∧
 gr.rows = gr.rows ∧
 va.rows = va.rows ∧
 el.rows = el.rows ∧
 df.rows = df.rows ∧
 gn = gn ∧
 ge.rows = ge.rows ∧
 gh.rows = gh.rows ∧
 ed = ed ∧
 c = c ∧
 I.rows = I.rows ∧
 n = n ∧
 e = e ∧
 (∀ (o : Nat), o < nat_lit 49 → f o = f o) ∧
 cn.rows = cn.rows ∧
 ru.rows = ru.rows ∧
 sc = sc ∧
 sg = sg ∧
 s0 = s0 ∧
 s1 = s1 ∧
 ks.len + ((D.l [[D.i k]]).sub (0 : Nat) ((0 : Nat) + (1 : Nat))).len = (kD ks k is).len ∧
 ks.rows ++ List.drop (0 : Nat) (List.take ((0 : Nat) + (1 : Nat)) [[D.i k]]) = (kD ks k is).rows) ∧
 (is = false →
 ch.rows = ch.rows ∧
 gr.rows = gr.rows ∧
 va.rows = va.rows ∧
 el.rows = el.rows ∧
 df.rows = df.rows ∧
 gn = gn ∧
 ge.rows = ge.rows ∧
 gh.rows = gh.rows ∧
 ed = ed ∧
 c = c ∧
 I.rows = I.rows ∧
 n = n ∧
 e = e ∧
 (∀ (o : Nat), o < nat_lit 49 → f o = f o) ∧
 cn.rows = cn.rows ∧
 ru.rows = ru.rows ∧ sc = sc ∧ sg = sg ∧ s0 = s0 ∧ s1 = s1 ∧ ks.len = (kD ks k is).len ∧ ks.rows = (kD ks k is).rows)) (by kernel_rfl) ?_
    intro hc
    have hc2 := hc
    have l2 : ((D.l [[D.i k]]).sub 0 (0 + 1)).len = 1 := rfl
    cases is with
    | true =>
      refine ⟨fun _ => ?_, fun h => absurd h (by decide)⟩
      have ek : kD ks k true = D.l (ks.rows ++ [[D.i k]]) := if_pos rfl
      rw [l2, ek]
      have hl : (D.l (ks.rows ++ [[D.i k]])).len = ks.len + 1 := by
        show (ks.rows ++ [[D.i k]]).length = _
        rw [List.length_append]; rfl
      rw [hl]
      (repeat' apply And.intro) <;> first | rfl | omega | (intro _ _; rfl) | exact Nat.le_refl _
    | false =>
      refine ⟨fun h => absurd h (by decide), fun _ => ?_⟩
      have ek : kD ks k false = ks := if_neg (by decide)
      rw [ek]
      (repeat' apply And.intro) <;> first | rfl | (intro _ _; rfl)
  · trivial
noncomputable def ttellES : List Dat → Option (Eff × List Seg) := fun ds => match ds with
  | [.d ch, .d gr, .d va, .d el, .d df, .i gn, .d ge, .d gh, .i ed, .b c, .d I, .i n, .b e, .f f, .d cn, .d ru, .i sc, .i sg, .i s0, .i s1, .d ks, .b o, .b z] => some ({ val := .tup [], vc := [ks.len ≤ 998], nw := [(0, .orow 3 (kE ks (o, z)))] }, [.c (.rows 73 (ch)), .c (.rows 35 (gr)), .c (.rows 3 (va)), .c (.rows 75 (el)), .c (.rows 4 (df)), .c (.int .i64 (.sym gn)), .c (.rows 31 (ge)), .c (.rows 3 (gh)), .c (.int .i64 (.sym ed)), .c (.bool (.sym c)), .c (.rows 53 (I)), .c (.int .i64 (.sym n)), .c (.bool (.sym e)), .ints .i64 (.lit 49) f, .c (.rows 53 (cn)), .c (.rows 93 (ru)), .c (.int .i64 (.sym (sc))), .c (.int .i64 (.sym (sg))), .c (.int .i64 (.sym (s0))), .c (.int .i64 (.sym (s1))), .c (.osl 3 0 (.lit 0) (.sym (kE ks (o, z)).len))])
  | _ => none
noncomputable def ttellEC : Con := conM 101 [.c (.rows 73), .c (.rows 35), .c (.rows 3), .c (.rows 75), .c (.rows 4), .c (.int .i64), .c (.rows 31), .c (.rows 3), .c (.int .i64), .c .bool, .c (.rows 53), .c (.int .i64), .c .bool, .ints .i64 49, .c (.rows 53), .c (.rows 93), .c (.int .i64), .c (.int .i64), .c (.int .i64), .c (.int .i64), .own 3] [.agg [.c .bool, .c .bool]] ttellES
theorem ttellE_ok : ConOK Tryz.prog 61 ttellEC := by
  refine fn_obM tt_ok mixed Tryz.func61 rfl (fun _ _ => by kernel_rfl) (A := fun ds => ⟨fun _ => Cons.of [(80, ttellC)], fun _ => none, fun _ => none⟩) (fun _ _ => (cons_cons ttell_ok cons_nil)) (by kernel_rfl) ?_
  intro ds
  unfold ttellES
  split
  · rename_i ch gr va el df gn ge gh ed c I n e f cn ru sc sg s0 s1 ks o z
    refine kmp (q := ks.len ≤ (998 : Nat) →
 (0 : Nat) = (0 : Nat) ∧
 ks.len = ks.len ∧
 ks.len ≤ (1000 : Nat) ∧
 nat_lit 0 = (0 : Nat) ∧
 (kD ks (2 : Int) o).len = (kD ks (2 : Int) o).len ∧
 (kD ks (2 : Int) o).len ≤ (1000 : Nat) ∧
 ch.rows = ch.rows ∧
 gr.rows = gr.rows ∧
 va.rows = va.rows ∧
 el.rows = el.rows ∧
 df.rows = df.rows ∧
 gn = gn ∧
 ge.rows = ge.rows ∧
 gh.rows = gh.rows ∧
 ed = ed ∧
 c = c ∧
 I.rows = I.rows ∧
 n = n ∧
 e = e ∧
 (∀ (o : Nat), o < nat_lit 49 → f o = f o) ∧
 cn.rows = cn.rows ∧
 ru.rows = ru.rows ∧
 sc = sc ∧
 sg = sg ∧
 s0 = s0 ∧
 s1 = s1 ∧
 (kD (kD ks (2 : Int) o) (3 : Int) z).len = (kE ks (o, z)).len ∧
 (kD (kD ks (2 : Int) o) (3 : Int) z).rows = (kE ks (o, z)).rows) (by kernel_rfl) ?_
    unfold kE
    intro hc
    have := kD_len ks 2 o
    (repeat' apply And.intro) <;> first | rfl | omega | (intro _ _; rfl)
  · trivial
end Go.Proofs.YtlgmofjjjhbgkaaGreat.Sx.Z
namespace Go.Proofs.YtlgmofjjjhbgkaaGreat.Sx.Z
open Go.RowKit
/-- An expression: its kind, its number, its variable, its parts. -/
inductive Xp | mk (k n v : Int) (kids : List Xp)
def Xp.k : Xp → Int | mk k _ _ _ => k
def Xp.n : Xp → Int | mk _ n _ _ => n
def Xp.v : Xp → Int | mk _ _ v _ => v
def Xp.kids : Xp → List Xp | mk _ _ _ l => l
theorem el_lt {d : D} {i j : Nat} (h : i < d.len) : SizeOf.sizeOf (d.el i j) < SizeOf.sizeOf d := by
  cases d with
  | l rows =>
    have h' : i < rows.length := h
    have e : (D.l rows).el i j = (rows[i]).getD j (.i 0) := by
      show (rows.getD i []).getD j (.i 0) = _
      rw [List.getD_eq_getElem?_getD (l := rows), List.getElem?_eq_getElem h', Option.getD_some]
    rw [e, List.getD_eq_getElem?_getD]
    have h1 := List.sizeOf_lt_of_mem (List.getElem_mem h')
    cases hj : (rows[i])[j]? with
    | none =>
      rw [Option.getD_none]
      have : SizeOf.sizeOf (D.i 0) = 1 + SizeOf.sizeOf (0 : Int) := rfl
      have e2 : SizeOf.sizeOf (0 : Int) = 1 := rfl
      have : SizeOf.sizeOf (D.l rows) = 1 + SizeOf.sizeOf rows := by simp
      have h2 : 1 ≤ SizeOf.sizeOf (rows[i]) := by cases rows[i] <;> simp <;> omega
      omega
    | some x =>
      rw [Option.getD_some]
      have h2 := List.sizeOf_lt_of_mem (List.mem_of_getElem? hj)
      have : SizeOf.sizeOf (D.l rows) = 1 + SizeOf.sizeOf rows := by simp
      omega
  | i n => exact absurd h (Nat.not_lt_zero i)
  | b n => exact absurd h (Nat.not_lt_zero i)
  | s n => exact absurd h (Nat.not_lt_zero i)
def exs (d : D) : List Xp := (List.finRange d.len).map fun (i : Fin d.len) => Xp.mk (d.el i 0).toI (d.el i 1).toI (d.el i 2).toI (exs (d.el i 3))
  termination_by SizeOf.sizeOf d
  decreasing_by exact el_lt i.isLt
def ex (k n v : Int) (d : D) : Xp := .mk k n v (exs d)
theorem exs_len (d : D) : (exs d).length = d.len := by rw [exs]; simp
theorem exs_get {d : D} {i : Nat} (h : i < d.len) : (exs d)[i]? = some (ex (d.el i 0).toI (d.el i 1).toI (d.el i 2).toI (d.el i 3)) := by
  rw [exs, List.getElem?_map, List.getElem?_eq_getElem (by simpa using h)]
  simp [ex]
def exE (d : D) (i : Nat) : Xp := ex (d.el i 0).toI (d.el i 1).toI (d.el i 2).toI (d.el i 3)
theorem exs_one {d : D} (h : d.len = 1) : exs d = [exE d 0] := by
  have l := exs_len d
  have g := exs_get (d := d) (i := 0) (by omega)
  match he : exs d with
  | [] => rw [he, h] at l; cases l
  | [a] => rw [he] at g; simp at g; rw [g]; rfl
  | a :: b :: r => rw [he, h] at l; simp at l
theorem exs_two {d : D} (h : d.len = 2) : exs d = [exE d 0, exE d 1] := by
  have l := exs_len d
  have g := exs_get (d := d) (i := 0) (by omega)
  have g1 := exs_get (d := d) (i := 1) (by omega)
  match he : exs d with
  | [] => rw [he, h] at l; cases l
  | [a] => rw [he, h] at l; simp at l
  | [a, b] => rw [he] at g g1; simp at g g1; rw [g, g1]; rfl
  | a :: b :: c :: r => rw [he, h] at l; simp at l
theorem exs_ne2 {d : D} (h : d.len ≠ 2) (a b : Xp) : exs d ≠ [a, b] := fun e => h (by rw [← exs_len, e]; rfl)
theorem exs_ne1 {d : D} (h : d.len ≠ 1) (a : Xp) : exs d ≠ [a] := fun e => h (by rw [← exs_len, e]; rfl)
end Go.Proofs.YtlgmofjjjhbgkaaGreat.Sx.Z
namespace Go.Proofs.YtlgmofjjjhbgkaaGreat.Sx.Z
open Go.RowKit
def xpA : AP := .agg [.c (.int .i64), .c (.int .i64), .c (.int .i64), .c (.rows 25)]
def amtP (x b : Int) : Option (Int × Int) := if b < -1099511627776 ∨ b > 1099511627776 then none else some (x, b)
def combP (k : Int) (l r : Option (Int × Int)) : Option (Int × Int) := match l, r with
  | some (x, m), some (y, b) => if k = 5 ∧ y = -1 then amtP x (IntKind.i64.wrap (m - b)) else if k = 4 ∧ y = -1 then amtP x (IntKind.i64.wrap (m + b)) else if k = 4 ∧ x = -1 then amtP y (IntKind.i64.wrap (m + b)) else none
  | _, _ => none
def linP : Xp → Option (Int × Int)
  | .mk k n v kids => if k = 1 then amtP (-1) n else if k = 2 then some (v, 0) else if k = 4 ∨ k = 5 then (match kids with | [a, b] => combP k (linP a) (linP b) | _ => none) else none
theorem lin_eq (k n v : Int) (d : D) : linP (ex k n v d) = if k = 1 then amtP (-1) n else if k = 2 then some (v, 0) else if (k = 4 ∨ k = 5) ∧ d.len = 2 then combP k (linP (exE d 0)) (linP (exE d 1)) else none := by
  show linP (.mk k n v (exs d)) = _
  by_cases h2 : d.len = 2
  · rw [exs_two h2, linP]; simp [h2]
  · rw [linP.eq_2 _ _ _ _ (fun a b => exs_ne2 h2 a b)]; simp [h2]
def oX (o : Option (Int × Int)) : Int := match o with | some p => p.1 | none => 0
def oY (o : Option (Int × Int)) : Int := match o with | some p => p.2 | none => 0
def oB (o : Option (Int × Int)) : Bool := o.isSome
theorem oX_some (p : Int × Int) : oX (some p) = p.1 := rfl
theorem oY_some (p : Int × Int) : oY (some p) = p.2 := rfl
theorem oB_some (p : Int × Int) : oB (some p) = true := rfl
theorem oX_none : oX none = 0 := rfl
theorem oY_none : oY none = 0 := rfl
theorem oB_none : oB none = false := rfl
theorem comb_some (k x m y b : Int) : combP k (some (x, m)) (some (y, b)) = if k = 5 ∧ y = -1 then amtP x (IntKind.i64.wrap (m - b)) else if k = 4 ∧ y = -1 then amtP x (IntKind.i64.wrap (m + b)) else if k = 4 ∧ x = -1 then amtP y (IntKind.i64.wrap (m + b)) else none := rfl
theorem comb_l (k : Int) (r : Option (Int × Int)) : combP k none r = none := rfl
theorem comb_r (k : Int) (l : Option (Int × Int)) : combP k l none = none := by cases l <;> rfl
noncomputable def amountS : FSpec := fun ds _ => match ds with
  | [.i x, .i b] => some { val := .tup [.sc (.int .i64 (.sym (oX (amtP x b)))), .sc (.int .i64 (.sym (oY (amtP x b)))), .sc (.bool (.sym (oB (amtP x b))))], vc := [] }
  | _ => none
noncomputable def amountC : Con := con [iA, iA] amountS
theorem amount_ok : ConOK Tryz.prog 107 amountC := by
  refine fn_ob tt_ok mixed Tryz.func107 rfl (fun _ _ => by kernel_rfl) (A := fun ds => ⟨fun _ => Cons.of [], fun _ => none, fun _ => none⟩) (fun _ _ => cons_nil) (by kernel_rfl) ?_
  intro ds fr
  unfold amountS
  split
  · rename_i x b
    refine kmp (q := ((decide (b < (-1099511627776 : Int)) || decide (b > (1099511627776 : Int))) = true →
 (0 : Int) = oX (amtP x b) ∧ (0 : Int) = oY (amtP x b) ∧ false = oB (amtP x b)) ∧
 ((decide (b < (-1099511627776 : Int)) || decide (b > (1099511627776 : Int))) = false → x = oX (amtP x b) ∧ b = oY (amtP x b) ∧ true = oB (amtP x b))) (by kernel_rfl) ?_
    unfold amtP
    by_cases h : b < -1099511627776 ∨ b > 1099511627776
    · rw [if_pos h]; simp [oX, oY, oB]; omega
    · rw [if_neg h]; simp [oX, oY, oB]; omega
  · trivial
noncomputable def linS : FSpec := fun ds _ => match ds with
  | [.i k, .i n, .i v, .d d] => some { val := .tup [.sc (.int .i64 (.sym (oX (linP (ex k n v d))))), .sc (.int .i64 (.sym (oY (linP (ex k n v d))))), .sc (.bool (.sym (oB (linP (ex k n v d)))))], vc := [] }
  | _ => none
noncomputable def linC : Con := con [xpA] linS
noncomputable def linM : List Dat → Nat := fun ds => match ds with
  | [.i k, .i n, .i v, .d d] => SizeOf.sizeOf d
  | _ => 0
noncomputable def linSu (m : Nat) : FSpec := fun ds _ => match ds with
  | [.i k, .i n, .i v, .d d] => some { val := .tup [.sc (.int .i64 (.sym (oX (linP (ex k n v d))))), .sc (.int .i64 (.sym (oY (linP (ex k n v d))))), .sc (.bool (.sym (oB (linP (ex k n v d)))))], vc := [SizeOf.sizeOf d < m] }
  | _ => none
theorem lin_under (m : Nat) : linS.under linM m = linSu m := by
  funext ds fr
  unfold FSpec.under linS linM linSu
  split
  · rename_i e h
    split at h
    · obtain rfl := Option.some.inj h; rfl
    · cases h
  · rename_i h
    split at h
    · cases h
    · rfl
noncomputable def combinedS (m : Nat) : FSpec := fun ds _ => match ds with
  | [.i c, .i k, .i n, .i v, .d d, .i k2, .i n2, .i v2, .d d2] => some { val := .tup [.sc (.int .i64 (.sym (oX (combP c (linP (ex k n v d)) (linP (ex k2 n2 v2 d2)))))), .sc (.int .i64 (.sym (oY (combP c (linP (ex k n v d)) (linP (ex k2 n2 v2 d2)))))), .sc (.bool (.sym (oB (combP c (linP (ex k n v d)) (linP (ex k2 n2 v2 d2))))))], vc := [SizeOf.sizeOf d < m, SizeOf.sizeOf d2 < m] }
  | _ => none
noncomputable def combinedC (m : Nat) : Con := con [iA, xpA, xpA] (combinedS m)
theorem combined_ok {m : Nat} (ih : ConOK Tryz.prog 77 (con [xpA] (linSu m))) : ConOK Tryz.prog 108 (combinedC m) := by
  refine fn_ob tt_ok mixed Tryz.func108 rfl (fun _ _ => by kernel_rfl) (A := fun ds => ⟨fun _ => Cons.of [(77, con [xpA] (linSu m)), (107, amountC)], fun _ => none, fun _ => none⟩) (fun _ _ => (cons_cons ih (cons_cons amount_ok cons_nil))) (by kernel_rfl) ?_
  intro ds fr
  unfold combinedS
  split
  · rename_i c k n v d k2 n2 v2 d2
    refine kmp (q := SizeOf.sizeOf d < m →
 SizeOf.sizeOf d2 < m →
 SizeOf.sizeOf d < m ∧
 SizeOf.sizeOf d2 < m ∧
 ((!oB (linP (ex k n v d)) || !oB (linP (ex k2 n2 v2 d2))) = true →
 (0 : Int) = oX (combP c (linP (ex k n v d)) (linP (ex k2 n2 v2 d2))) ∧
 (0 : Int) = oY (combP c (linP (ex k n v d)) (linP (ex k2 n2 v2 d2))) ∧ false = oB (combP c (linP (ex k n v d)) (linP (ex k2 n2 v2 d2)))) ∧
 ((!oB (linP (ex k n v d)) || !oB (linP (ex k2 n2 v2 d2))) = false →
 ((c == (5 : Int) && oX (linP (ex k2 n2 v2 d2)) == (-1 : Int)) = true →
 oX (amtP (oX (linP (ex k n v d))) (IntKind.i64.wrap (oY (linP (ex k n v d)) - oY (linP (ex k2 n2 v2 d2))))) =
 oX (combP c (linP (ex k n v d)) (linP (ex k2 n2 v2 d2))) ∧
 oY (amtP (oX (linP (ex k n v d))) (IntKind.i64.wrap (oY (linP (ex k n v d)) - oY (linP (ex k2 n2 v2 d2))))) =
 oY (combP c (linP (ex k n v d)) (linP (ex k2 n2 v2 d2))) ∧
 oB (amtP (oX (linP (ex k n v d))) (IntKind.i64.wrap (oY (linP (ex k n v d)) - oY (linP (ex k2 n2 v2 d2))))) =
 oB (combP c (linP (ex k n v d)) (linP (ex k2 n2 v2 d2)))) ∧
 ((c == (5 : Int) && oX (linP (ex k2 n2 v2 d2)) == (-1 : Int)) = false →
 ((c == (4 : Int) && oX (linP (ex k2 n2 v2 d2)) == (-1 : Int)) = true →
 oX (amtP (oX (linP (ex k n v d))) (IntKind.i64.wrap (oY (linP (ex k n v d)) + oY (linP (ex k2 n2 v2 d2))))) =
 oX (combP c (linP (ex k n v d)) (linP (ex k2 n2 v2 d2))) ∧
 oY (amtP (oX (linP (ex k n v d))) (IntKind.i64.wrap (oY (linP (ex k n v d)) + oY (linP (ex k2 n2 v2 d2))))) =
 oY (combP c (linP (ex k n v d)) (linP (ex k2 n2 v2 d2))) ∧
 oB (amtP (oX (linP (ex k n v d))) (IntKind.i64.wrap (oY (linP (ex k n v d)) + oY (linP (ex k2 n2 v2 d2))))) =
 oB (combP c (linP (ex k n v d)) (linP (ex k2 n2 v2 d2)))) ∧
 ((c == (4 : Int) && oX (linP (ex k2 n2 v2 d2)) == (-1 : Int)) = false →
 ((c == (4 : Int) && oX (linP (ex k n v d)) == (-1 : Int)) = true →
 oX (amtP (oX (linP (ex k2 n2 v2 d2))) (IntKind.i64.wrap (oY (linP (ex k n v d)) + oY (linP (ex k2 n2 v2 d2))))) =
 oX (combP c (linP (ex k n v d)) (linP (ex k2 n2 v2 d2))) ∧
 oY (amtP (oX (linP (ex k2 n2 v2 d2))) (IntKind.i64.wrap (oY (linP (ex k n v d)) + oY (linP (ex k2 n2 v2 d2))))) =
 oY (combP c (linP (ex k n v d)) (linP (ex k2 n2 v2 d2))) ∧
 oB (amtP (oX (linP (ex k2 n2 v2 d2))) (IntKind.i64.wrap (oY (linP (ex k n v d)) + oY (linP (ex k2 n2 v2 d2))))) =
 oB (combP c (linP (ex k n v d)) (linP (ex k2 n2 v2 d2)))) ∧
 ((c == (4 : Int) && oX (linP (ex k n v d)) == (-1 : Int)) = false →
 (0 : Int) = oX (combP c (linP (ex k n v d)) (linP (ex k2 n2 v2 d2))) ∧
 (0 : Int) = oY (combP c (linP (ex k n v d)) (linP (ex k2 n2 v2 d2))) ∧
 false = oB (combP c (linP (ex k n v d)) (linP (ex k2 n2 v2 d2)))))))) (by kernel_rfl) ?_
    intro h1 h2
    refine ⟨h1, h2, ?_⟩
    generalize linP (ex k n v d) = L
    generalize linP (ex k2 n2 v2 d2) = R
    rcases L with _ | ⟨x, a⟩ <;> rcases R with _ | ⟨y, b⟩ <;> simp only [comb_l, comb_r, comb_some, oX_some, oY_some, oB_some, oX_none, oY_none, oB_none] <;> (repeat' first | apply And.intro | intro _) <;> grind [oX_none, oY_none, oB_none]
  · trivial
theorem lin_step (m : Nat) (ih : ConOK Tryz.prog 77 (con [xpA] (linSu m))) : ConOK Tryz.prog 77 (con [xpA] (linSu (m + 1))) := by
  refine fn_ob tt_ok mixed Tryz.func77 rfl (fun _ _ => by kernel_rfl) (A := fun ds => ⟨fun _ => Cons.of [(108, (combinedC m)), (107, amountC)], fun _ => none, fun _ => none⟩) (fun _ _ => (cons_cons (combined_ok ih) (cons_cons amount_ok cons_nil))) (by kernel_rfl) ?_
  intro ds fr
  unfold linSu
  split
  · rename_i k n v d
    refine kmp (q := SizeOf.sizeOf d < m + (1 : Nat) →
 ((k == (1 : Int)) = true →
 oX (amtP (-1 : Int) n) = oX (linP (ex k n v d)) ∧ oY (amtP (-1 : Int) n) = oY (linP (ex k n v d)) ∧ oB (amtP (-1 : Int) n) = oB (linP (ex k n v d))) ∧
 ((k == (1 : Int)) = false →
 ((k == (2 : Int)) = true → v = oX (linP (ex k n v d)) ∧ (0 : Int) = oY (linP (ex k n v d)) ∧ true = oB (linP (ex k n v d))) ∧
 ((k == (2 : Int)) = false →
 (((k == (4 : Int) || k == (5 : Int)) && (↑d.len : Int) == (2 : Int)) = true →
 nat_lit 0 < d.len ∧
 nat_lit 1 < d.len ∧
 SizeOf.sizeOf (d.el (nat_lit 0) ((0 : Nat) + (1 : Nat) + (1 : Nat) + (1 : Nat))) < m ∧
 SizeOf.sizeOf (d.el (nat_lit 1) ((0 : Nat) + (1 : Nat) + (1 : Nat) + (1 : Nat))) < m ∧
 oX
 (combP k
 (linP
 (ex (d.el (nat_lit 0) (0 : Nat)).toI (d.el (nat_lit 0) ((0 : Nat) + (1 : Nat))).toI
 (d.el (nat_lit 0) ((0 : Nat) + (1 : Nat) + (1 : Nat))).toI
 (d.el (nat_lit 0) ((0 : Nat) + (1 : Nat) + (1 : Nat) + (1 : Nat)))))
 (linP
 (ex (d.el (nat_lit 1) (0 : Nat)).toI (d.el (nat_lit 1) ((0 : Nat) + (1 : Nat))).toI
 (d.el (nat_lit 1) ((0 : Nat) + (1 : Nat) + (1 : Nat))).toI
 (d.el (nat_lit 1) ((0 : Nat) + (1 : Nat) + (1 : Nat) + (1 : Nat)))))) =
 oX (linP (ex k n v d)) ∧
 oY
 (combP k
 (linP
 (ex (d.el (nat_lit 0) (0 : Nat)).toI (d.el (nat_lit 0) ((0 : Nat) + (1 : Nat))).toI
 (d.el (nat_lit 0) ((0 : Nat) + (1 : Nat) + (1 : Nat))).toI
 (d.el (nat_lit 0) ((0 : Nat) + (1 : Nat) + (1 : Nat) + (1 : Nat)))))
 (linP
 (ex (d.el (nat_lit 1) (0 : Nat)).toI (d.el (nat_lit 1) ((0 : Nat) + (1 : Nat))).toI
 (d.el (nat_lit 1) ((0 : Nat) + (1 : Nat) + (1 : Nat))).toI
 (d.el (nat_lit 1) ((0 : Nat) + (1 : Nat) + (1 : Nat) + (1 : Nat)))))) =
 oY (linP (ex k n v d)) ∧
 oB
 (combP k
 (linP
 (ex (d.el (nat_lit 0) (0 : Nat)).toI (d.el (nat_lit 0) ((0 : Nat) + (1 : Nat))).toI
 (d.el (nat_lit 0) ((0 : Nat) + (1 : Nat) + (1 : Nat))).toI
 (d.el (nat_lit 0) ((0 : Nat) + (1 : Nat) + (1 : Nat) + (1 : Nat)))))
 (linP
 (ex (d.el (nat_lit 1) (0 : Nat)).toI (d.el (nat_lit 1) ((0 : Nat) + (1 : Nat))).toI
 (d.el (nat_lit 1) ((0 : Nat) + (1 : Nat) + (1 : Nat))).toI
 (d.el (nat_lit 1) ((0 : Nat) + (1 : Nat) + (1 : Nat) + (1 : Nat)))))) =
 oB (linP (ex k n v d))) ∧
 (((k == (4 : Int) || k == (5 : Int)) && (↑d.len : Int) == (2 : Int)) = false →
 (0 : Int) = oX (linP (ex k n v d)) ∧ (0 : Int) = oY (linP (ex k n v d)) ∧ false = oB (linP (ex k n v d)))))) (by kernel_rfl) ?_
    intro hm
    have e0 : ∀ i, ex (d.el i 0).toI (d.el i (0 + 1)).toI (d.el i (0 + 1 + 1)).toI (d.el i (0 + 1 + 1 + 1)) = exE d i := fun i => rfl
    simp only [e0, lin_eq k n v d]
    have z : ∀ i, i < d.len → SizeOf.sizeOf (d.el i (0 + 1 + 1 + 1)) < m := fun i hi => by have := el_lt (j := 0 + 1 + 1 + 1) hi; omega
    (repeat' first | apply And.intro | intro _) <;> grind [oX_some, oY_some, oB_some, oX_none, oY_none, oB_none]
  · trivial
theorem lin_ok : ConOK Tryz.prog 77 linC :=
  con_rec linM (fun _ _ => by kernel_rfl) fun m ih => by
    rw [lin_under] at ih ⊢
    exact lin_step m ih
end Go.Proofs.YtlgmofjjjhbgkaaGreat.Sx.Z
namespace Go.Proofs.YtlgmofjjjhbgkaaGreat.Sx.Z
open Go.RowKit
/-- No expression has too many parts. -/
inductive Small : Xp → Prop
  | mk (k n v : Int) (kids : List Xp) : kids.length ≤ 1000000 → (∀ x, x ∈ kids → Small x) → Small (.mk k n v kids)
end Go.Proofs.YtlgmofjjjhbgkaaGreat.Sx.Z
namespace Go.Proofs.YtlgmofjjjhbgkaaGreat.Sx.Z
open Go.RowKit
/-- What Tame tells: of so many variables. -/
inductive Tm (w : Int) : Xp → Prop
  | num (n : Int) : 0 ≤ n → n ≤ 2147483647 → Tm w (.mk 1 n 0 [])
  | var (v : Int) : 0 ≤ v → v < w → Tm w (.mk 2 0 v [])
  | neg (a : Xp) : Tm w a → Tm w (.mk 3 0 0 [a])
  | bin (k : Int) (a b : Xp) : 4 ≤ k → k ≤ 8 → Tm w a → Tm w b → Tm w (.mk k 0 0 [a, b])
def rcomb (k : Int) (l r : Option (Int × Int)) : Option (Int × Int) := match l, r with
  | some (x, m), some (y, b) => if (0 ≤ x ∧ 0 ≤ y) ∨ (k = 5 ∧ 0 ≤ y) then none else some (max x y, if k = 5 then IntKind.i64.wrap (m - b) else IntKind.i64.wrap (m + b))
  | _, _ => none
def rcut (o : Option (Int × Int)) : Option (Int × Int) := match o with
  | some (x, n) => if n > 1099511627776 ∨ n < -1099511627776 then none else some (x, n)
  | none => none
def rlinP : Xp → Option (Int × Int)
  | .mk k n v kids => rcut (if k = 1 ∧ kids.length = 0 then some (-1, n) else if k = 2 ∧ kids.length = 0 then some (v, 0) else if k = 4 ∨ k = 5 then (match kids with | [a, b] => rcomb k (rlinP a) (rlinP b) | _ => none) else none)
theorem rcomb_some (k x m y b : Int) : rcomb k (some (x, m)) (some (y, b)) = if (0 ≤ x ∧ 0 ≤ y) ∨ (k = 5 ∧ 0 ≤ y) then none else some (max x y, if k = 5 then IntKind.i64.wrap (m - b) else IntKind.i64.wrap (m + b)) := rfl
theorem rcomb_l (k : Int) (r : Option (Int × Int)) : rcomb k none r = none := rfl
theorem rcomb_r (k : Int) (l : Option (Int × Int)) : rcomb k l none = none := by cases l <;> rfl
theorem rcut_some (x n : Int) : rcut (some (x, n)) = if n > 1099511627776 ∨ n < -1099511627776 then none else some (x, n) := rfl
/-- Of what Tame tells both are the same. -/
theorem lin_same {w : Int} (hw : 1 ≤ w) {e : Xp} (h : Tm w e) : rlinP e = linP e ∧ ∀ x n, linP e = some (x, n) → -1 ≤ x ∧ x < w ∧ -1099511627776 ≤ n ∧ n ≤ 1099511627776 := by
  induction h with
  | num n h0 h1 =>
    rw [rlinP.eq_2 _ _ _ _ (fun a b h => by cases h), linP.eq_2 _ _ _ _ (fun a b h => by cases h)]
    simp only [List.length_nil, and_self, if_true, rcut_some, amtP]
    rw [if_neg (by omega), if_neg (by omega)]
    exact ⟨rfl, fun x m e => by obtain ⟨rfl, rfl⟩ := Prod.mk.inj (Option.some.inj e); omega⟩
  | var v h0 h1 =>
    rw [rlinP.eq_2 _ _ _ _ (fun a b h => by cases h), linP.eq_2 _ _ _ _ (fun a b h => by cases h)]
    refine ⟨rfl, fun x m e => ?_⟩
    have e : some (v, (0 : Int)) = some (x, m) := e
    obtain ⟨rfl, rfl⟩ := Prod.mk.inj (Option.some.inj e); omega
  | neg a _ _ =>
    rw [rlinP.eq_2 _ _ _ _ (fun a b h => by cases h), linP.eq_2 _ _ _ _ (fun a b h => by cases h)]
    exact ⟨rfl, fun x m e => by cases e⟩
  | bin k a b h4 h8 _ _ ia ib =>
    obtain ⟨ea, ba⟩ := ia
    obtain ⟨eb, bb⟩ := ib
    rw [rlinP, linP, ea, eb]
    have k1 : ¬ (k = 1 ∧ [a, b].length = 0) := by simp
    have k2 : ¬ (k = 2 ∧ [a, b].length = 0) := by simp
    rw [if_neg k1, if_neg k2, if_neg (show ¬ k = 1 by omega), if_neg (show ¬ k = 2 by omega)]
    by_cases k45 : k = 4 ∨ k = 5
    · rw [if_pos k45, if_pos k45]
      generalize linP a = L at *
      generalize linP b = R at *
      rcases L with _ | ⟨x, m⟩
      · rw [rcomb_l, comb_l]; exact ⟨rfl, fun x m e => by cases e⟩
      · rcases R with _ | ⟨y, p⟩
        · rw [rcomb_r, comb_r]; exact ⟨rfl, fun x m e => by cases e⟩
        · have hx := ba x m rfl
          have hy := bb y p rfl
          have w1 : IntKind.i64.wrap (m - p) = m - p := wr _ (by omega)
          have w2 : IntKind.i64.wrap (m + p) = m + p := wr _ (by omega)
          rw [rcomb_some, comb_some, w1, w2]
          unfold amtP rcut
          constructor <;> grind
    · rw [if_neg k45, if_neg k45]; exact ⟨rfl, fun x m e => by cases e⟩
end Go.Proofs.YtlgmofjjjhbgkaaGreat.Sx.Z
namespace Go.Proofs.YtlgmofjjjhbgkaaGreat.Sx.Z
open Go.RowKit
def ofI (a b : Int) : Int × Int := (ofLo a b, ofHi a b)
def nrm (a : Int × Int) : Int × Int := if a.1 > a.2 then (1, 0) else a
/-- As every call tells it. -/
def Nm (p : Int × Int) : Prop := p = (1, 0) ∨ (-2147483648 ≤ p.1 ∧ p.1 ≤ p.2 ∧ p.2 ≤ 2147483647)
theorem ofI_cases (a b : Int) : (min b 2147483647 < max a (-2147483648) ∧ ofI a b = (1, 0)) ∨ (max a (-2147483648) ≤ min b 2147483647 ∧ ofI a b = (max a (-2147483648), min b 2147483647)) := by
  unfold ofI ofLo ofHi
  by_cases h : min b 2147483647 < max a (-2147483648)
  · left; simp [h]
  · right; simp [h]; omega
theorem nm_of (a b : Int) : Nm (ofI a b) := by
  rcases ofI_cases a b with ⟨_, e⟩ | ⟨h, e⟩
  · exact .inl e
  · right; rw [e]; dsimp only; omega
theorem nm_id {p : Int × Int} (h : Nm p) : ofI p.1 p.2 = p := by
  rcases h with rfl | h
  · rfl
  · obtain ⟨a, b⟩ := p
    dsimp only at h
    rcases ofI_cases a b with ⟨h1, e⟩ | ⟨h1, e⟩
    · exfalso; omega
    · rw [e]; ext <;> dsimp only <;> omega
def iwithinS : FSpec := fun ds _ => match ds with
  | [.i a, .i b, .i c, .i d] => some { val := .one (.sc (.bool (.sym (decide (b < a) || (decide (c ≤ a) && decide (b ≤ d)))))), vc := [] }
  | _ => none
def iwithinC : Con := con [itvA, itvA] iwithinS
theorem iwithin_ok : ConOK Tryz.prog 46 iwithinC := by
  refine fn_ob tt_ok mixed Tryz.func46 rfl (fun _ _ => by kernel_rfl) (A := fun ds => ⟨fun _ => Cons.of [(48, emptyC)], fun _ => none, fun _ => none⟩) (fun _ _ => (cons_cons empty_ok cons_nil)) (by kernel_rfl) ?_
  intro ds fr
  unfold iwithinS
  split
  · rename_i a b c d
    refine kmp (q := (decide (b < a) || decide (c ≤ a) && decide (b ≤ d)) = (decide (b < a) || decide (c ≤ a) && decide (b ≤ d))) (by kernel_rfl) ?_
    rfl
  · trivial
end Go.Proofs.YtlgmofjjjhbgkaaGreat.Sx.Z
namespace Go.Proofs.YtlgmofjjjhbgkaaGreat
open Go.RowKit

theorem blk_lt {W : World} {b : Nat} {x : Obj} (h : W.heap[b]? = some x) : b < W.heap.size := by
  rcases Nat.lt_or_ge b W.heap.size with h1 | h1
  · exact h1
  · rw [Array.getElem?_eq_none h1] at h; cases h
theorem blkA (W : World) (x : Obj) {b : Nat} (h : W.heap.size = b) : (W.alloc x).heap[b]? = some x := by
  subst h
  exact heap_alloc_new W x
theorem blk_keep {W W1 : World} {b : Nat} {x : Obj} (hb : Below W.heap.size W W1) (h : W.heap[b]? = some x) : W1.heap[b]? = some x := (hb.block b (blk_lt h)).trans h
theorem blkUp {W : World} {b : Nat} {x : Obj} (h : W.heap[b]? = some x) (ob : Obj) : (W.alloc ob).heap[b]? = some x := blk_keep ((Below.refl _ W).alloc (Nat.le_refl _) ob) h
theorem row_of {W : World} {b : Nat} {R : Array Value} {t : TypeId} {fr : Nat × Nat} (h : W.heap[b]? = some (.cells R t fr)) : ∀ o, W.cell? ⟨b, o, none⟩ = R[o]? := fun o => cell_of_row W b o R t fr h
theorem frozen_of {W : World} {b : Nat} {R : Array Value} {t : TypeId} (h : W.heap[b]? = some (.cells R t (0, 0))) (o : Nat) : W.frozen? ⟨b, o, none⟩ = false := by simp [World.frozen?, h]
theorem wp_world {P : Program} {c : Code} {Q : Exit → Act → World → Prop} {a : Act} {w : World} (F : World → Prop) (hF : F w) (h : ∀ W, F W → c.wp P Q a W) : c.wp P Q a w := h w hF

theorem blk_set {W : World} {b g o : Nat} {x : Obj} {v : Value} (h : W.heap[b]? = some x) (hne : b ≠ g) : (W.setCell ⟨g, o, none⟩ v).heap[b]? = some x := by
  rw [Below.heap_setCell _ _ _ _ hne]
  exact h
theorem seta {W : World} {n : Nat} {t : TypeId} {a b v : Value} (h : W.heap[n]? = some (.cells #[a, b] t (0, 0))) : (W.setCell ⟨n, 0, none⟩ v).heap[n]? = some (.cells #[v, b] t (0, 0)) := by simp [World.setCell, Array.getElem?_modify, h]
/-- A pair is stored into a block: the block, all others. -/
theorem put2 {W WF : World} {n : Nat} {t : TypeId} {d0 d1 : Value} (h : W.heap[n]? = some (.cells #[d0, d1] t (0, 0))) (v0 v1 : Value) (hW : WF = (W.setCell ⟨n, 0, none⟩ v0).setCell ⟨n, 1, none⟩ v1) :
    WF.heap[n]? = some (.cells #[v0, v1] t (0, 0)) ∧ (∀ (b : Nat) (x : Obj), b ≠ n → W.heap[b]? = some x → WF.heap[b]? = some x) ∧ (∀ B, B ≤ n → Below B W WF) ∧ WF.heap.size = W.heap.size := by
  subst hW
  refine ⟨by simp [World.setCell, Array.getElem?_modify, h], fun b x hb hx => blk_set (blk_set hx hb) hb, fun B hB => ?_, by simp [World.setCell]⟩
  exact ((Below.refl _ W).setCell (p := ⟨n, 0, none⟩) hB v0).setCell (p := ⟨n, 1, none⟩) hB v1

/-- The empty one is from 1 to 0. -/
def nrm (l h : Int) : Int × Int := if h < l then (1, 0) else (l, h)
/-- The greater one, the lesser one: as the language's words reckon them. -/
def mx (x y : Int) : Int := if x < y then y else x
def mn (x y : Int) : Int := if y < x then y else x
/-- Those from one to another one that a variable may be. -/
def ofP (l h : Int) : Int × Int := nrm (mx l (-2147483648)) (mn h 2147483647)

theorem empty_any (l h : Int) (w : World) :
    Calls Tryz.prog 48 #[.agg #[.int .i64 l, .int .i64 h]] w fun e w' => e = .returned (.bool (decide (h < l))) ∧ Below w.heap.size w w' := by
  go_enter Tryz.func48, Tryz.ntmps48
  go_wp2
  go_ret
  exact ⟨by simp, by go_grown⟩

theorem none_any (w : World) :
    Calls Tryz.prog 37 #[] w fun e w' => e = .returned (.agg #[.int .i64 1, .int .i64 0]) ∧ Below w.heap.size w w' := by
  go_enter Tryz.func37, Tryz.ntmps37
  go_wp2
  exact bodyPost_ret (v := .agg #[.int .i64 1, .int .i64 0]) (by simp [results, Tryz.results37, go_sem]) rfl ⟨rfl, by go_grown⟩

theorem has_any (l h n : Int) (w : World) :
    Calls Tryz.prog 34 #[.agg #[.int .i64 l, .int .i64 h], .int .i64 n] w fun e w' => e = .returned (.bool (decide (l ≤ n ∧ n ≤ h))) ∧ Below w.heap.size w w' := by
  by_cases hc : l ≤ n
  · have hd := decide_eq_true hc
    go_enter Tryz.func34, Tryz.ntmps34
    go_wp2
    go_ret
    exact ⟨by simp [hc], by go_grown⟩
  · have hd := decide_eq_false hc
    go_enter Tryz.func34, Tryz.ntmps34
    go_wp2
    go_ret
    exact ⟨by simp, by go_grown⟩

theorem of_gen (l h L H : Int) (hL : (if l < -2147483648 then -2147483648 else l) = L) (hH : (if 2147483647 < h then 2147483647 else h) = H) (w : World) :
    Calls Tryz.prog 21 #[.int .i64 l, .int .i64 h] w fun e w' => e = .returned (.agg #[.int .i64 (nrm L H).1, .int .i64 (nrm L H).2]) ∧ Below w.heap.size w w' := by
  go_enter Tryz.func21, Tryz.ntmps21
  go_upto_region 2 with fail
  refine wp_world (fun W => W.heap[w.heap.size]? = some (.cells #[.int .i64 0, .int .i64 0] 53 (0, 0)) ∧ W.heap[w.heap.size + 1]? = some (.cells #[.int .i64 L, .int .i64 H] 53 (0, 0)) ∧ Below w.heap.size w W) ⟨blkUp (blkA _ _ rfl) _, blkA _ _ (by simp), ((Below.refl _ _).alloc (Nat.le_refl _) _).alloc (by simp) _⟩ ?_
  clear hL hH
  rintro w1 ⟨k0, k1, hB1⟩
  have z0 := blk_lt k0
  have z1 := blk_lt k1
  have r1 := row_of k1
  go_wp2_with fail
  refine (empty_any _ _ _).mono ?_
  rintro e w2 ⟨rfl, hb2⟩
  replace k0 := blk_keep hb2 k0
  replace k1 := blk_keep hb2 k1
  have hB2 := hB1.trans (hb2.mono hB1.size)
  clear hb2 hB1 r1 z0 z1
  have r0 := row_of k0
  have r1 := row_of k1
  have f0 := frozen_of k0
  have z0 := blk_lt k0
  have z1 := blk_lt k1
  by_cases hc : H < L
  · have hd := decide_eq_true hc
    go_wp2_with fail
    refine (none_any _).mono ?_
    rintro e w3 ⟨rfl, hb3⟩
    replace k0 := blk_keep hb3 k0
    have hB3 := hB2.trans (hb3.mono hB2.size)
    clear hb3 hB2 r0 r1 z0 z1 k1 f0
    have r0 := row_of k0
    have f0 := frozen_of k0
    have z0 := blk_lt k0
    go_wp2_with fail
    generalize hWF : (World.setCell (World.setCell _ _ _) _ _) = WF
    obtain ⟨kF, _, bF, _⟩ := put2 k0 _ _ hWF.symm
    clear hWF
    have rF := row_of kF
    exact bodyPost_ret (v := .agg #[.int .i64 (nrm L H).1, .int .i64 (nrm L H).2]) (by simp [results, Tryz.results21, go_sem, rF, nrm, hc]) rfl ⟨rfl, hB3.trans (bF _ (Nat.le_refl _))⟩
  · have hd := decide_eq_false hc
    have hn : nrm L H = (L, H) := if_neg hc
    go_wp2_with fail
    generalize hWF : (World.setCell (World.setCell _ _ _) _ _) = WF
    obtain ⟨kF, _, bF, _⟩ := put2 k0 _ _ hWF.symm
    clear hWF
    have rF := row_of kF
    exact bodyPost_ret (v := .agg #[.int .i64 L, .int .i64 H]) (by simp [results, Tryz.results21, go_sem, rF]) rfl ⟨by rw [hn], hB2.trans (bF _ (Nat.le_refl _))⟩

theorem of_any (l h : Int) (w : World) :
    Calls Tryz.prog 21 #[.int .i64 l, .int .i64 h] w fun e w' => e = .returned (.agg #[.int .i64 (ofP l h).1, .int .i64 (ofP l h).2]) ∧ Below w.heap.size w w' := of_gen l h _ _ rfl rfl w
theorem const_any (n : Int) (w : World) :
    Calls Tryz.prog 16 #[.int .i64 n] w fun e w' => e = .returned (.agg #[.int .i64 (ofP n n).1, .int .i64 (ofP n n).2]) ∧ Below w.heap.size w w' := by
  go_enter Tryz.func16, Tryz.ntmps16
  go_upto_region 1 with fail
  refine wp_world (fun W => W.heap[w.heap.size]? = some (.cells #[.int .i64 0, .int .i64 0] 53 (0, 0)) ∧ Below w.heap.size w W) ⟨blkA _ _ rfl, (Below.refl _ _).alloc (Nat.le_refl _) _⟩ ?_
  rintro w1 ⟨k0, hB1⟩
  go_wp2_with fail
  refine (of_any _ _ _).mono ?_
  rintro e w2 ⟨rfl, hb2⟩
  replace k0 := blk_keep hb2 k0
  have hB2 := hB1.trans (hb2.mono hB1.size)
  have r0 := row_of k0
  have f0 := frozen_of k0
  have z0 := blk_lt k0
  go_wp2_with fail
  generalize hWF : (World.setCell (World.setCell _ _ _) _ _) = WF
  obtain ⟨kF, _, bF, _⟩ := put2 k0 _ _ hWF.symm
  clear hWF
  have rF := row_of kF
  exact bodyPost_ret (v := .agg #[.int .i64 (ofP n n).1, .int .i64 (ofP n n).2]) (by simp [results, Tryz.results16, go_sem, rF]) rfl ⟨rfl, hB2.trans (bF _ (Nat.le_refl _))⟩
end Go.Proofs.YtlgmofjjjhbgkaaGreat
namespace Go.Proofs.YtlgmofjjjhbgkaaGreat
open Go.RowKit

def joinP (a0 a1 b0 b1 : Int) : Int × Int := if a1 < a0 then ofP b0 b1 else if b1 < b0 then ofP a0 a1 else ofP (mn a0 b0) (mx a1 b1)
def meetP (a0 a1 b0 b1 : Int) : Int × Int := ofP (mx a0 b0) (mn a1 b1)
def rjoinP (a0 a1 b0 b1 : Int) : Int × Int := if a1 < a0 then nrm b0 b1 else if b1 < b0 then (a0, a1) else (mn a0 b0, mx a1 b1)
theorem join_1 (a0 a1 b0 b1 : Int) (w : World) (h : a1 < a0) :
    Calls Tryz.prog 51 #[.agg #[.int .i64 a0, .int .i64 a1], .agg #[.int .i64 b0, .int .i64 b1]] w fun e w' => e = .returned (.agg #[.int .i64 (ofP b0 b1).1, .int .i64 (ofP b0 b1).2]) ∧ Below w.heap.size w w' := by
  go_enter Tryz.func51, Tryz.ntmps51
  go_upto_region 1 with fail
  refine wp_world (fun W => W.heap[w.heap.size]? = some (.cells #[.int .i64 a0, .int .i64 a1] 53 (0, 0)) ∧ W.heap[w.heap.size + 1]? = some (.cells #[.int .i64 b0, .int .i64 b1] 53 (0, 0)) ∧ W.heap[w.heap.size + 2]? = some (.cells #[.int .i64 0, .int .i64 0] 53 (0, 0)) ∧ Below w.heap.size w W) ⟨blkUp (blkUp (blkA _ _ (by first | rfl | simp only [World.size_alloc])) _) _, blkUp (blkA _ _ (by first | rfl | simp only [World.size_alloc])) _, blkA _ _ (by first | rfl | simp only [World.size_alloc]), (((Below.refl _ _).alloc (by first | exact Nat.le_refl _ | (simp only [World.size_alloc]; omega)) _).alloc (by first | exact Nat.le_refl _ | (simp only [World.size_alloc]; omega)) _).alloc (by first | exact Nat.le_refl _ | (simp only [World.size_alloc]; omega)) _⟩ ?_
  rintro w1 ⟨k0, k1, k2, hB⟩
  have r0 := row_of k0
  have f0 := frozen_of k0
  have z0 := blk_lt k0
  have r1 := row_of k1
  have f1 := frozen_of k1
  have z1 := blk_lt k1
  have r2 := row_of k2
  have f2 := frozen_of k2
  have z2 := blk_lt k2
  have hd : decide (a1 < a0) = true := by simp; omega
  go_wp2_with fail
  refine (empty_any _ _ _).mono ?_
  rintro e w2 ⟨rfl, hb⟩
  replace k0 := blk_keep hb k0
  replace k1 := blk_keep hb k1
  replace k2 := blk_keep hb k2
  replace hB := hB.trans (hb.mono hB.size)
  clear r0 f0 z0 r1 f1 z1 r2 f2 z2
  clear hb
  have r0 := row_of k0
  have f0 := frozen_of k0
  have z0 := blk_lt k0
  have r1 := row_of k1
  have f1 := frozen_of k1
  have z1 := blk_lt k1
  have r2 := row_of k2
  have f2 := frozen_of k2
  have z2 := blk_lt k2
  go_wp2_with fail
  refine (of_any _ _ _).mono ?_
  rintro e w3 ⟨rfl, hb⟩
  replace k0 := blk_keep hb k0
  replace k1 := blk_keep hb k1
  replace k2 := blk_keep hb k2
  replace hB := hB.trans (hb.mono hB.size)
  clear r0 f0 z0 r1 f1 z1 r2 f2 z2
  clear hb
  have r0 := row_of k0
  have f0 := frozen_of k0
  have z0 := blk_lt k0
  have r1 := row_of k1
  have f1 := frozen_of k1
  have z1 := blk_lt k1
  have r2 := row_of k2
  have f2 := frozen_of k2
  have z2 := blk_lt k2
  go_wp2_with fail
  generalize hWF : (World.setCell (World.setCell _ _ _) _ _) = WF
  obtain ⟨kF, _, bF, _⟩ := put2 k2 _ _ hWF.symm
  clear r0 f0 z0 r1 f1 z1 r2 f2 z2
  clear hWF
  have rF := row_of kF
  exact bodyPost_ret (v := .agg #[.int .i64 (ofP b0 b1).1, .int .i64 (ofP b0 b1).2]) (by simp [results, Tryz.results51, go_sem, rF]) rfl ⟨rfl, hB.trans (bF _ (by show w.heap.size ≤ w.heap.size + 2; omega))⟩
theorem join_2 (a0 a1 b0 b1 : Int) (w : World) (h : a0 ≤ a1) (h2 : b1 < b0) :
    Calls Tryz.prog 51 #[.agg #[.int .i64 a0, .int .i64 a1], .agg #[.int .i64 b0, .int .i64 b1]] w fun e w' => e = .returned (.agg #[.int .i64 (ofP a0 a1).1, .int .i64 (ofP a0 a1).2]) ∧ Below w.heap.size w w' := by
  go_enter Tryz.func51, Tryz.ntmps51
  go_upto_region 1 with fail
  refine wp_world (fun W => W.heap[w.heap.size]? = some (.cells #[.int .i64 a0, .int .i64 a1] 53 (0, 0)) ∧ W.heap[w.heap.size + 1]? = some (.cells #[.int .i64 b0, .int .i64 b1] 53 (0, 0)) ∧ W.heap[w.heap.size + 2]? = some (.cells #[.int .i64 0, .int .i64 0] 53 (0, 0)) ∧ Below w.heap.size w W) ⟨blkUp (blkUp (blkA _ _ (by first | rfl | simp only [World.size_alloc])) _) _, blkUp (blkA _ _ (by first | rfl | simp only [World.size_alloc])) _, blkA _ _ (by first | rfl | simp only [World.size_alloc]), (((Below.refl _ _).alloc (by first | exact Nat.le_refl _ | (simp only [World.size_alloc]; omega)) _).alloc (by first | exact Nat.le_refl _ | (simp only [World.size_alloc]; omega)) _).alloc (by first | exact Nat.le_refl _ | (simp only [World.size_alloc]; omega)) _⟩ ?_
  rintro w1 ⟨k0, k1, k2, hB⟩
  have r0 := row_of k0
  have f0 := frozen_of k0
  have z0 := blk_lt k0
  have r1 := row_of k1
  have f1 := frozen_of k1
  have z1 := blk_lt k1
  have r2 := row_of k2
  have f2 := frozen_of k2
  have z2 := blk_lt k2
  have hd : decide (a1 < a0) = false := by simp; omega
  have hd2 : decide (b1 < b0) = true := by simp; omega
  go_wp2_with fail
  refine (empty_any _ _ _).mono ?_
  rintro e w2 ⟨rfl, hb⟩
  replace k0 := blk_keep hb k0
  replace k1 := blk_keep hb k1
  replace k2 := blk_keep hb k2
  replace hB := hB.trans (hb.mono hB.size)
  clear r0 f0 z0 r1 f1 z1 r2 f2 z2
  clear hb
  have r0 := row_of k0
  have f0 := frozen_of k0
  have z0 := blk_lt k0
  have r1 := row_of k1
  have f1 := frozen_of k1
  have z1 := blk_lt k1
  have r2 := row_of k2
  have f2 := frozen_of k2
  have z2 := blk_lt k2
  go_wp2_with fail
  refine (empty_any _ _ _).mono ?_
  rintro e w3 ⟨rfl, hb⟩
  replace k0 := blk_keep hb k0
  replace k1 := blk_keep hb k1
  replace k2 := blk_keep hb k2
  replace hB := hB.trans (hb.mono hB.size)
  clear r0 f0 z0 r1 f1 z1 r2 f2 z2
  clear hb
  have r0 := row_of k0
  have f0 := frozen_of k0
  have z0 := blk_lt k0
  have r1 := row_of k1
  have f1 := frozen_of k1
  have z1 := blk_lt k1
  have r2 := row_of k2
  have f2 := frozen_of k2
  have z2 := blk_lt k2
  go_wp2_with fail
  refine (of_any _ _ _).mono ?_
  rintro e w4 ⟨rfl, hb⟩
  replace k0 := blk_keep hb k0
  replace k1 := blk_keep hb k1
  replace k2 := blk_keep hb k2
  replace hB := hB.trans (hb.mono hB.size)
  clear r0 f0 z0 r1 f1 z1 r2 f2 z2
  clear hb
  have r0 := row_of k0
  have f0 := frozen_of k0
  have z0 := blk_lt k0
  have r1 := row_of k1
  have f1 := frozen_of k1
  have z1 := blk_lt k1
  have r2 := row_of k2
  have f2 := frozen_of k2
  have z2 := blk_lt k2
  go_wp2_with fail
  generalize hWF : (World.setCell (World.setCell _ _ _) _ _) = WF
  obtain ⟨kF, _, bF, _⟩ := put2 k2 _ _ hWF.symm
  clear r0 f0 z0 r1 f1 z1 r2 f2 z2
  clear hWF
  have rF := row_of kF
  exact bodyPost_ret (v := .agg #[.int .i64 (ofP a0 a1).1, .int .i64 (ofP a0 a1).2]) (by simp [results, Tryz.results51, go_sem, rF]) rfl ⟨rfl, hB.trans (bF _ (by show w.heap.size ≤ w.heap.size + 2; omega))⟩
theorem join_3 (a0 a1 b0 b1 : Int) (w : World) (h : a0 ≤ a1) (h2 : b0 ≤ b1) :
    Calls Tryz.prog 51 #[.agg #[.int .i64 a0, .int .i64 a1], .agg #[.int .i64 b0, .int .i64 b1]] w fun e w' => e = .returned (.agg #[.int .i64 (ofP (mn a0 b0) (mx a1 b1)).1, .int .i64 (ofP (mn a0 b0) (mx a1 b1)).2]) ∧ Below w.heap.size w w' := by
  go_enter Tryz.func51, Tryz.ntmps51
  go_upto_region 1 with fail
  refine wp_world (fun W => W.heap[w.heap.size]? = some (.cells #[.int .i64 a0, .int .i64 a1] 53 (0, 0)) ∧ W.heap[w.heap.size + 1]? = some (.cells #[.int .i64 b0, .int .i64 b1] 53 (0, 0)) ∧ W.heap[w.heap.size + 2]? = some (.cells #[.int .i64 0, .int .i64 0] 53 (0, 0)) ∧ Below w.heap.size w W) ⟨blkUp (blkUp (blkA _ _ (by first | rfl | simp only [World.size_alloc])) _) _, blkUp (blkA _ _ (by first | rfl | simp only [World.size_alloc])) _, blkA _ _ (by first | rfl | simp only [World.size_alloc]), (((Below.refl _ _).alloc (by first | exact Nat.le_refl _ | (simp only [World.size_alloc]; omega)) _).alloc (by first | exact Nat.le_refl _ | (simp only [World.size_alloc]; omega)) _).alloc (by first | exact Nat.le_refl _ | (simp only [World.size_alloc]; omega)) _⟩ ?_
  rintro w1 ⟨k0, k1, k2, hB⟩
  have r0 := row_of k0
  have f0 := frozen_of k0
  have z0 := blk_lt k0
  have r1 := row_of k1
  have f1 := frozen_of k1
  have z1 := blk_lt k1
  have r2 := row_of k2
  have f2 := frozen_of k2
  have z2 := blk_lt k2
  have hd : decide (a1 < a0) = false := by simp; omega
  have hd2 : decide (b1 < b0) = false := by simp; omega
  go_wp2_with fail
  refine (empty_any _ _ _).mono ?_
  rintro e w2 ⟨rfl, hb⟩
  replace k0 := blk_keep hb k0
  replace k1 := blk_keep hb k1
  replace k2 := blk_keep hb k2
  replace hB := hB.trans (hb.mono hB.size)
  clear r0 f0 z0 r1 f1 z1 r2 f2 z2
  clear hb
  have r0 := row_of k0
  have f0 := frozen_of k0
  have z0 := blk_lt k0
  have r1 := row_of k1
  have f1 := frozen_of k1
  have z1 := blk_lt k1
  have r2 := row_of k2
  have f2 := frozen_of k2
  have z2 := blk_lt k2
  go_wp2_with fail
  refine (empty_any _ _ _).mono ?_
  rintro e w3 ⟨rfl, hb⟩
  replace k0 := blk_keep hb k0
  replace k1 := blk_keep hb k1
  replace k2 := blk_keep hb k2
  replace hB := hB.trans (hb.mono hB.size)
  clear r0 f0 z0 r1 f1 z1 r2 f2 z2
  clear hb
  have r0 := row_of k0
  have f0 := frozen_of k0
  have z0 := blk_lt k0
  have r1 := row_of k1
  have f1 := frozen_of k1
  have z1 := blk_lt k1
  have r2 := row_of k2
  have f2 := frozen_of k2
  have z2 := blk_lt k2
  have hm : (if b0 < a0 then b0 else a0) = mn a0 b0 := rfl
  have hM : (if a1 < b1 then b1 else a1) = mx a1 b1 := rfl
  go_wp2_with fail
  refine (of_any _ _ _).mono ?_
  rintro e w4 ⟨rfl, hb⟩
  replace k0 := blk_keep hb k0
  replace k1 := blk_keep hb k1
  replace k2 := blk_keep hb k2
  replace hB := hB.trans (hb.mono hB.size)
  clear r0 f0 z0 r1 f1 z1 r2 f2 z2
  clear hb
  have r0 := row_of k0
  have f0 := frozen_of k0
  have z0 := blk_lt k0
  have r1 := row_of k1
  have f1 := frozen_of k1
  have z1 := blk_lt k1
  have r2 := row_of k2
  have f2 := frozen_of k2
  have z2 := blk_lt k2
  go_wp2_with fail
  generalize hWF : (World.setCell (World.setCell _ _ _) _ _) = WF
  obtain ⟨kF, _, bF, _⟩ := put2 k2 _ _ hWF.symm
  clear r0 f0 z0 r1 f1 z1 r2 f2 z2
  clear hWF
  have rF := row_of kF
  exact bodyPost_ret (v := .agg #[.int .i64 (ofP (mn a0 b0) (mx a1 b1)).1, .int .i64 (ofP (mn a0 b0) (mx a1 b1)).2]) (by simp [results, Tryz.results51, go_sem, rF]) rfl ⟨rfl, hB.trans (bF _ (by show w.heap.size ≤ w.heap.size + 2; omega))⟩
theorem join_any (a0 a1 b0 b1 : Int) (w : World) :
    Calls Tryz.prog 51 #[.agg #[.int .i64 a0, .int .i64 a1], .agg #[.int .i64 b0, .int .i64 b1]] w fun e w' => e = .returned (.agg #[.int .i64 (joinP a0 a1 b0 b1).1, .int .i64 (joinP a0 a1 b0 b1).2]) ∧ Below w.heap.size w w' := by
  unfold joinP
  by_cases h : a1 < a0
  · simpa [h] using join_1 a0 a1 b0 b1 w h
  · by_cases h2 : b1 < b0
    · simpa [h, h2] using join_2 a0 a1 b0 b1 w (by omega) h2
    · simpa [h, h2] using join_3 a0 a1 b0 b1 w (by omega) (by omega)
theorem meet_any (a0 a1 b0 b1 : Int) (w : World) :
    Calls Tryz.prog 85 #[.agg #[.int .i64 a0, .int .i64 a1], .agg #[.int .i64 b0, .int .i64 b1]] w fun e w' => e = .returned (.agg #[.int .i64 (meetP a0 a1 b0 b1).1, .int .i64 (meetP a0 a1 b0 b1).2]) ∧ Below w.heap.size w w' := by
  go_enter Tryz.func85, Tryz.ntmps85
  unfold meetP
  go_upto_region 1 with fail
  refine wp_world (fun W => W.heap[w.heap.size]? = some (.cells #[.int .i64 a0, .int .i64 a1] 53 (0, 0)) ∧ W.heap[w.heap.size + 1]? = some (.cells #[.int .i64 b0, .int .i64 b1] 53 (0, 0)) ∧ W.heap[w.heap.size + 2]? = some (.cells #[.int .i64 0, .int .i64 0] 53 (0, 0)) ∧ Below w.heap.size w W) ⟨blkUp (blkUp (blkA _ _ (by first | rfl | simp only [World.size_alloc])) _) _, blkUp (blkA _ _ (by first | rfl | simp only [World.size_alloc])) _, blkA _ _ (by first | rfl | simp only [World.size_alloc]), (((Below.refl _ _).alloc (by first | exact Nat.le_refl _ | (simp only [World.size_alloc]; omega)) _).alloc (by first | exact Nat.le_refl _ | (simp only [World.size_alloc]; omega)) _).alloc (by first | exact Nat.le_refl _ | (simp only [World.size_alloc]; omega)) _⟩ ?_
  rintro w1 ⟨k0, k1, k2, hB⟩
  have r0 := row_of k0
  have f0 := frozen_of k0
  have z0 := blk_lt k0
  have r1 := row_of k1
  have f1 := frozen_of k1
  have z1 := blk_lt k1
  have r2 := row_of k2
  have f2 := frozen_of k2
  have z2 := blk_lt k2
  have hm : (if a0 < b0 then b0 else a0) = mx a0 b0 := rfl
  have hM : (if b1 < a1 then b1 else a1) = mn a1 b1 := rfl
  go_wp2_with fail
  refine (of_any _ _ _).mono ?_
  rintro e w2 ⟨rfl, hb⟩
  replace k0 := blk_keep hb k0
  replace k1 := blk_keep hb k1
  replace k2 := blk_keep hb k2
  replace hB := hB.trans (hb.mono hB.size)
  clear r0 f0 z0 r1 f1 z1 r2 f2 z2
  clear hb
  have r0 := row_of k0
  have f0 := frozen_of k0
  have z0 := blk_lt k0
  have r1 := row_of k1
  have f1 := frozen_of k1
  have z1 := blk_lt k1
  have r2 := row_of k2
  have f2 := frozen_of k2
  have z2 := blk_lt k2
  go_wp2_with fail
  generalize hWF : (World.setCell (World.setCell _ _ _) _ _) = WF
  obtain ⟨kF, _, bF, _⟩ := put2 k2 _ _ hWF.symm
  clear r0 f0 z0 r1 f1 z1 r2 f2 z2
  clear hWF
  have rF := row_of kF
  exact bodyPost_ret (v := .agg #[.int .i64 (ofP (mx a0 b0) (mn a1 b1)).1, .int .i64 (ofP (mx a0 b0) (mn a1 b1)).2]) (by simp [results, Tryz.results85, go_sem, rF]) rfl ⟨rfl, hB.trans (bF _ (by show w.heap.size ≤ w.heap.size + 2; omega))⟩
end Go.Proofs.YtlgmofjjjhbgkaaGreat
namespace Go.Proofs.YtlgmofjjjhbgkaaGreat
open Go.RowKit
/-- Two pairs are stored, each into a block. -/
theorem put22 {W WF : World} {n m : Nat} {t u : TypeId} {d0 d1 c0 c1 : Value} (hne : n ≠ m) (h : W.heap[n]? = some (.cells #[d0, d1] t (0, 0))) (g : W.heap[m]? = some (.cells #[c0, c1] u (0, 0))) (v0 v1 u0 u1 : Value) (hW : WF = (((W.setCell ⟨n, 0, none⟩ v0).setCell ⟨n, 1, none⟩ v1).setCell ⟨m, 0, none⟩ u0).setCell ⟨m, 1, none⟩ u1) :
    WF.heap[n]? = some (.cells #[v0, v1] t (0, 0)) ∧ WF.heap[m]? = some (.cells #[u0, u1] u (0, 0)) ∧ (∀ B, B ≤ n → B ≤ m → Below B W WF) := by
  obtain ⟨h1, h2, h3, _⟩ := put2 h v0 v1 rfl
  have g1 := h2 m _ (Ne.symm hne) g
  obtain ⟨g2, g3, g4, _⟩ := put2 g1 u0 u1 hW
  exact ⟨g3 n _ hne h1, g2, fun B b1 b2 => (h3 B b1).trans (g4 B b2)⟩

set_option maxRecDepth 100000 in
theorem min4 (b : Nat) (e0 e1 e2 e3 : Int) (w : World) (_hb : b < w.heap.size) (c0 : w.cell? ⟨b, 0, none⟩ = some (.int .i64 e0)) (c1 : w.cell? ⟨b, 1, none⟩ = some (.int .i64 e1)) (c2 : w.cell? ⟨b, 2, none⟩ = some (.int .i64 e2)) (c3 : w.cell? ⟨b, 3, none⟩ = some (.int .i64 e3)) :
    Calls Tryz.prog 145 #[.slice (some ⟨b, 0, none⟩) 4 4] w fun e w' => e = .returned (.int .i64 (mn (mn (mn e0 e1) e2) e3)) ∧ w = w' := by
  have h1 : (if e1 < e0 then e1 else e0) = mn e0 e1 := rfl
  generalize hm1 : mn e0 e1 = m1 at *
  have h2 : (if e2 < m1 then e2 else m1) = mn m1 e2 := rfl
  generalize hm2 : mn m1 e2 = m2 at *
  have h3 : (if e3 < m2 then e3 else m2) = mn m2 e3 := rfl
  generalize hm3 : mn m2 e3 = m3 at *
  go_enter Tryz.func145, Tryz.ntmps145
  go_wp2_with fail
  refine wp_loop_rounds 4 ?_
  rw [rounds_succ]
  go_wp2_with fail
  rw [rounds_succ]
  go_wp2_with fail
  rw [rounds_succ]
  go_wp2_with fail
  rw [rounds_succ]
  go_wp2_with fail
  go_ret
  exact ⟨rfl, rfl⟩

set_option maxRecDepth 100000 in
theorem max4 (b : Nat) (e0 e1 e2 e3 : Int) (w : World) (_hb : b < w.heap.size) (c0 : w.cell? ⟨b, 0, none⟩ = some (.int .i64 e0)) (c1 : w.cell? ⟨b, 1, none⟩ = some (.int .i64 e1)) (c2 : w.cell? ⟨b, 2, none⟩ = some (.int .i64 e2)) (c3 : w.cell? ⟨b, 3, none⟩ = some (.int .i64 e3)) :
    Calls Tryz.prog 146 #[.slice (some ⟨b, 0, none⟩) 4 4] w fun e w' => e = .returned (.int .i64 (mx (mx (mx e0 e1) e2) e3)) ∧ w = w' := by
  have h1 : (if e0 < e1 then e1 else e0) = mx e0 e1 := rfl
  generalize hm1 : mx e0 e1 = m1 at *
  have h2 : (if m1 < e2 then e2 else m1) = mx m1 e2 := rfl
  generalize hm2 : mx m1 e2 = m2 at *
  have h3 : (if m2 < e3 then e3 else m2) = mx m2 e3 := rfl
  generalize hm3 : mx m2 e3 = m3 at *
  go_enter Tryz.func146, Tryz.ntmps146
  go_wp2_with fail
  refine wp_loop_rounds 4 ?_
  rw [rounds_succ]
  go_wp2_with fail
  rw [rounds_succ]
  go_wp2_with fail
  rw [rounds_succ]
  go_wp2_with fail
  rw [rounds_succ]
  go_wp2_with fail
  go_ret
  exact ⟨rfl, rfl⟩

theorem add_fn (x y : Int) (w : World) (h1 : -9223372036854775808 ≤ x + y) (h2 : x + y ≤ 9223372036854775807) :
    Calls Tryz.prog 139 #[.int .i64 x, .int .i64 y] w fun e w' => e = .returned (.int .i64 (x + y)) ∧ w = w' := by
  go_enter Tryz.func139, Tryz.ntmps139
  go_wp2
  go_ret
  exact ⟨by simp <;> (unfold wrap64; omega), rfl⟩

theorem sub_fn (x y : Int) (w : World) (h1 : -9223372036854775808 ≤ x - y) (h2 : x - y ≤ 9223372036854775807) :
    Calls Tryz.prog 140 #[.int .i64 x, .int .i64 y] w fun e w' => e = .returned (.int .i64 (x - y)) ∧ w = w' := by
  go_enter Tryz.func140, Tryz.ntmps140
  go_wp2
  go_ret
  exact ⟨by simp <;> (unfold wrap64; omega), rfl⟩

theorem mul_fn (x y : Int) (w : World) (h1 : -9223372036854775808 ≤ x * y) (h2 : x * y ≤ 9223372036854775807) :
    Calls Tryz.prog 141 #[.int .i64 x, .int .i64 y] w fun e w' => e = .returned (.int .i64 (x * y)) ∧ w = w' := by
  go_enter Tryz.func141, Tryz.ntmps141
  go_wp2
  go_ret
  exact ⟨by simp <;> (unfold wrap64; omega), rfl⟩

def bot (f : Int → Int → Int) (a0 a1 b0 b1 : Int) : Int := mn (mn (mn (f a0 b0) (f a0 b1)) (f a1 b0)) (f a1 b1)
def top (f : Int → Int → Int) (a0 a1 b0 b1 : Int) : Int := mx (mx (mx (f a0 b0) (f a0 b1)) (f a1 b0)) (f a1 b1)
def FnOk (n : Nat) (f : Int → Int → Int) (a0 a1 b0 b1 : Int) : Prop := ∀ (x y : Int) (w : World), (x = a0 ∨ x = a1) → (y = b0 ∨ y = b1) → Calls Tryz.prog n #[.int .i64 x, .int .i64 y] w fun e w' => e = .returned (.int .i64 (f x y)) ∧ w = w'

set_option maxRecDepth 100000 in
set_option maxHeartbeats 2000000 in
theorem ends_add (f : Int → Int → Int) (a0 a1 b0 b1 : Int) (w : World) (hf : FnOk 139 f a0 a1 b0 b1) :
    Calls Tryz.prog 138 #[.agg #[.int .i64 a0, .int .i64 a1], .agg #[.int .i64 b0, .int .i64 b1], .func (.func 139) #[] #[]] w fun e w' => e = .returned (.tuple #[.agg #[.int .i64 (ofP (bot f a0 a1 b0 b1) (top f a0 a1 b0 b1)).1, .int .i64 (ofP (bot f a0 a1 b0 b1) (top f a0 a1 b0 b1)).2], .agg #[.bool (decide (bot f a0 a1 b0 b1 < -2147483648) || decide (2147483647 < top f a0 a1 b0 b1)), .bool false]]) ∧ Below w.heap.size w w' := by
  replace hf := Lib.hid hf
  go_enter Tryz.func138, Tryz.ntmps138
  go_upto_region 1 with fail
  refine wp_world (fun W => W.heap[w.heap.size]? = some (.cells #[.int .i64 a0, .int .i64 a1] 53 (0, 0)) ∧ W.heap[w.heap.size + 1]? = some (.cells #[.int .i64 b0, .int .i64 b1] 53 (0, 0)) ∧ W.heap[w.heap.size + 2]? = some (.cells #[.int .i64 0, .int .i64 0] 53 (0, 0)) ∧ W.heap[w.heap.size + 3]? = some (.cells #[.bool false, .bool false] 128 (0, 0)) ∧ Below w.heap.size w W) ⟨blkUp (blkUp (blkUp (blkA _ _ (by first | rfl | simp only [World.size_alloc])) _) _) _, blkUp (blkUp (blkA _ _ (by first | rfl | simp only [World.size_alloc])) _) _, blkUp (blkA _ _ (by first | rfl | simp only [World.size_alloc])) _, blkA _ _ (by first | rfl | simp only [World.size_alloc]), ((((Below.refl _ _).alloc (by first | exact Nat.le_refl _ | (simp only [World.size_alloc]; omega)) _).alloc (by first | exact Nat.le_refl _ | (simp only [World.size_alloc]; omega)) _).alloc (by first | exact Nat.le_refl _ | (simp only [World.size_alloc]; omega)) _).alloc (by first | exact Nat.le_refl _ | (simp only [World.size_alloc]; omega)) _⟩ ?_
  rintro w1 ⟨k0, k1, k2, k3, hB⟩
  have r0 := row_of k0
  have f0 := frozen_of k0
  have z0 := blk_lt k0
  have r1 := row_of k1
  have f1 := frozen_of k1
  have z1 := blk_lt k1
  have r2 := row_of k2
  have f2 := frozen_of k2
  have z2 := blk_lt k2
  have r3 := row_of k3
  have f3 := frozen_of k3
  have z3 := blk_lt k3
  have hS : w1.cell? ⟨w.heap.size, 0, none⟩ = some (.int .i64 a0) ∧ w1.cell? ⟨w.heap.size, 1, none⟩ = some (.int .i64 a1) ∧ w1.cell? ⟨w.heap.size + 1, 0, none⟩ = some (.int .i64 b0) ∧ w1.cell? ⟨w.heap.size + 1, 1, none⟩ = some (.int .i64 b1) := ⟨row_of k0 0, row_of k0 1, row_of k1 0, row_of k1 1⟩
  have hS2 := hS
  obtain ⟨q0, q1, q2, q3⟩ := hS2
  clear r0 f0 z0 r1 f1 z1 r2 f2 z2 r3 f3 z3
  go_region_held3 (fun W => W.cell? ⟨w.heap.size, 0, none⟩ = some (.int .i64 a0) ∧ W.cell? ⟨w.heap.size, 1, none⟩ = some (.int .i64 a1) ∧ W.cell? ⟨w.heap.size + 1, 0, none⟩ = some (.int .i64 b0) ∧ W.cell? ⟨w.heap.size + 1, 1, none⟩ = some (.int .i64 b1)) (first | assumption | exact hS | go_keep) (first | (go_at_call 139; refine (hf.out _ _ _ (by simp) (by simp)).mono ?_; rintro e wn ⟨rfl, rfl⟩))
  go_upto_region 2 with fail
  clear hS q0 q1 q2 q3
  have hz1 : w.heap.size + 3 < w1.heap.size := blk_lt k3
  refine wp_world (fun W => W.heap[w.heap.size]? = some (.cells #[.int .i64 a0, .int .i64 a1] 53 (0, 0)) ∧ W.heap[w.heap.size + 1]? = some (.cells #[.int .i64 b0, .int .i64 b1] 53 (0, 0)) ∧ W.heap[w.heap.size + 2]? = some (.cells #[.int .i64 0, .int .i64 0] 53 (0, 0)) ∧ W.heap[w.heap.size + 3]? = some (.cells #[.bool false, .bool false] 128 (0, 0)) ∧ W.heap[w1.heap.size]? = some (.cells #[.int .i64 (f a0 b0), .int .i64 (f a0 b1), .int .i64 (f a1 b0), .int .i64 (f a1 b1)] 3 (0, 0)) ∧ Below w.heap.size w W) ⟨blkUp (k0) _, blkUp (k1) _, blkUp (k2) _, blkUp (k3) _, blkA _ _ (by first | rfl | simp only [World.size_alloc]), ((hB).alloc (by first | exact hB.size | (simp only [World.size_alloc]; omega)) _).drew⟩ ?_
  rintro w2 ⟨k0, k1, k2, k3, k4, hB⟩
  have r0 := row_of k0
  have f0 := frozen_of k0
  have z0 := blk_lt k0
  have r1 := row_of k1
  have f1 := frozen_of k1
  have z1 := blk_lt k1
  have r2 := row_of k2
  have f2 := frozen_of k2
  have z2 := blk_lt k2
  have r3 := row_of k3
  have f3 := frozen_of k3
  have z3 := blk_lt k3
  have r4 := row_of k4
  have f4 := frozen_of k4
  have z4 := blk_lt k4
  clear k0 r0 f0 z0 k1 r1 f1 z1
  go_wp2_with fail
  refine (min4 _ _ _ _ _ _ z4 (row_of k4 0) (row_of k4 1) (row_of k4 2) (row_of k4 3)).mono ?_
  rw [show mn (mn (mn (f a0 b0) (f a0 b1)) (f a1 b0)) (f a1 b1) = bot f a0 a1 b0 b1 from rfl]
  rintro e wq ⟨rfl, rfl⟩
  go_wp2_with fail
  refine (max4 _ _ _ _ _ _ z4 (row_of k4 0) (row_of k4 1) (row_of k4 2) (row_of k4 3)).mono ?_
  rw [show mx (mx (mx (f a0 b0) (f a0 b1)) (f a1 b0)) (f a1 b1) = top f a0 a1 b0 b1 from rfl]
  rintro e wq ⟨rfl, rfl⟩
  clear k4 r4 f4 z4
  generalize hLd : bot f a0 a1 b0 b1 = L
  generalize hHd : top f a0 a1 b0 b1 = H
  go_upto_region 3 with fail
  clear hf
  by_cases hL : L < -2147483648
  · have hd := decide_eq_true hL
    go_wp2_with fail
    refine (of_any _ _ _).mono ?_
    rintro e w3 ⟨rfl, hb⟩
    replace k2 := blk_keep hb k2
    replace k3 := blk_keep hb k3
    replace hB := hB.trans (hb.mono hB.size)
    clear r2 f2 z2 r3 f3 z3
    clear hb
    have r2 := row_of k2
    have f2 := frozen_of k2
    have z2 := blk_lt k2
    have r3 := row_of k3
    have f3 := frozen_of k3
    have z3 := blk_lt k3
    go_wp2_with fail
    generalize hWF : (World.setCell (World.setCell (World.setCell (World.setCell _ _ _) _ _) _ _) _ _) = WF
    obtain ⟨kF, kG, bF⟩ := put22 (by omega) k2 k3 _ _ _ _ hWF.symm
    clear r2 f2 z2 r3 f3 z3
    clear hWF
    have rF := row_of kF
    have rG := row_of kG
    exact bodyPost_ret (v := .tuple #[.agg #[.int .i64 (ofP L H).1, .int .i64 (ofP L H).2], .agg #[.bool (true), .bool false]]) (by simp [results, Tryz.results138, go_sem, rF, rG]) rfl ⟨by subst hLd hHd; rw [hd]; rfl, hB.trans (bF _ (by show w.heap.size ≤ w.heap.size + 2; omega) (by show w.heap.size ≤ w.heap.size + 3; omega))⟩
  · have hd := decide_eq_false hL
    go_wp2_with fail
    refine (of_any _ _ _).mono ?_
    rintro e w3 ⟨rfl, hb⟩
    replace k2 := blk_keep hb k2
    replace k3 := blk_keep hb k3
    replace hB := hB.trans (hb.mono hB.size)
    clear r2 f2 z2 r3 f3 z3
    clear hb
    have r2 := row_of k2
    have f2 := frozen_of k2
    have z2 := blk_lt k2
    have r3 := row_of k3
    have f3 := frozen_of k3
    have z3 := blk_lt k3
    go_wp2_with fail
    generalize hWF : (World.setCell (World.setCell (World.setCell (World.setCell _ _ _) _ _) _ _) _ _) = WF
    obtain ⟨kF, kG, bF⟩ := put22 (by omega) k2 k3 _ _ _ _ hWF.symm
    clear r2 f2 z2 r3 f3 z3
    clear hWF
    have rF := row_of kF
    have rG := row_of kG
    exact bodyPost_ret (v := .tuple #[.agg #[.int .i64 (ofP L H).1, .int .i64 (ofP L H).2], .agg #[.bool (decide (2147483647 < H)), .bool false]]) (by simp [results, Tryz.results138, go_sem, rF, rG]) rfl ⟨by subst hLd hHd; rw [hd]; rfl, hB.trans (bF _ (by show w.heap.size ≤ w.heap.size + 2; omega) (by show w.heap.size ≤ w.heap.size + 3; omega))⟩
set_option maxRecDepth 100000 in
set_option maxHeartbeats 2000000 in
theorem ends_sub (f : Int → Int → Int) (a0 a1 b0 b1 : Int) (w : World) (hf : FnOk 140 f a0 a1 b0 b1) :
    Calls Tryz.prog 138 #[.agg #[.int .i64 a0, .int .i64 a1], .agg #[.int .i64 b0, .int .i64 b1], .func (.func 140) #[] #[]] w fun e w' => e = .returned (.tuple #[.agg #[.int .i64 (ofP (bot f a0 a1 b0 b1) (top f a0 a1 b0 b1)).1, .int .i64 (ofP (bot f a0 a1 b0 b1) (top f a0 a1 b0 b1)).2], .agg #[.bool (decide (bot f a0 a1 b0 b1 < -2147483648) || decide (2147483647 < top f a0 a1 b0 b1)), .bool false]]) ∧ Below w.heap.size w w' := by
  replace hf := Lib.hid hf
  go_enter Tryz.func138, Tryz.ntmps138
  go_upto_region 1 with fail
  refine wp_world (fun W => W.heap[w.heap.size]? = some (.cells #[.int .i64 a0, .int .i64 a1] 53 (0, 0)) ∧ W.heap[w.heap.size + 1]? = some (.cells #[.int .i64 b0, .int .i64 b1] 53 (0, 0)) ∧ W.heap[w.heap.size + 2]? = some (.cells #[.int .i64 0, .int .i64 0] 53 (0, 0)) ∧ W.heap[w.heap.size + 3]? = some (.cells #[.bool false, .bool false] 128 (0, 0)) ∧ Below w.heap.size w W) ⟨blkUp (blkUp (blkUp (blkA _ _ (by first | rfl | simp only [World.size_alloc])) _) _) _, blkUp (blkUp (blkA _ _ (by first | rfl | simp only [World.size_alloc])) _) _, blkUp (blkA _ _ (by first | rfl | simp only [World.size_alloc])) _, blkA _ _ (by first | rfl | simp only [World.size_alloc]), ((((Below.refl _ _).alloc (by first | exact Nat.le_refl _ | (simp only [World.size_alloc]; omega)) _).alloc (by first | exact Nat.le_refl _ | (simp only [World.size_alloc]; omega)) _).alloc (by first | exact Nat.le_refl _ | (simp only [World.size_alloc]; omega)) _).alloc (by first | exact Nat.le_refl _ | (simp only [World.size_alloc]; omega)) _⟩ ?_
  rintro w1 ⟨k0, k1, k2, k3, hB⟩
  have r0 := row_of k0
  have f0 := frozen_of k0
  have z0 := blk_lt k0
  have r1 := row_of k1
  have f1 := frozen_of k1
  have z1 := blk_lt k1
  have r2 := row_of k2
  have f2 := frozen_of k2
  have z2 := blk_lt k2
  have r3 := row_of k3
  have f3 := frozen_of k3
  have z3 := blk_lt k3
  have hS : w1.cell? ⟨w.heap.size, 0, none⟩ = some (.int .i64 a0) ∧ w1.cell? ⟨w.heap.size, 1, none⟩ = some (.int .i64 a1) ∧ w1.cell? ⟨w.heap.size + 1, 0, none⟩ = some (.int .i64 b0) ∧ w1.cell? ⟨w.heap.size + 1, 1, none⟩ = some (.int .i64 b1) := ⟨row_of k0 0, row_of k0 1, row_of k1 0, row_of k1 1⟩
  have hS2 := hS
  obtain ⟨q0, q1, q2, q3⟩ := hS2
  clear r0 f0 z0 r1 f1 z1 r2 f2 z2 r3 f3 z3
  go_region_held3 (fun W => W.cell? ⟨w.heap.size, 0, none⟩ = some (.int .i64 a0) ∧ W.cell? ⟨w.heap.size, 1, none⟩ = some (.int .i64 a1) ∧ W.cell? ⟨w.heap.size + 1, 0, none⟩ = some (.int .i64 b0) ∧ W.cell? ⟨w.heap.size + 1, 1, none⟩ = some (.int .i64 b1)) (first | assumption | exact hS | go_keep) (first | (go_at_call 140; refine (hf.out _ _ _ (by simp) (by simp)).mono ?_; rintro e wn ⟨rfl, rfl⟩))
  go_upto_region 2 with fail
  clear hS q0 q1 q2 q3
  have hz1 : w.heap.size + 3 < w1.heap.size := blk_lt k3
  refine wp_world (fun W => W.heap[w.heap.size]? = some (.cells #[.int .i64 a0, .int .i64 a1] 53 (0, 0)) ∧ W.heap[w.heap.size + 1]? = some (.cells #[.int .i64 b0, .int .i64 b1] 53 (0, 0)) ∧ W.heap[w.heap.size + 2]? = some (.cells #[.int .i64 0, .int .i64 0] 53 (0, 0)) ∧ W.heap[w.heap.size + 3]? = some (.cells #[.bool false, .bool false] 128 (0, 0)) ∧ W.heap[w1.heap.size]? = some (.cells #[.int .i64 (f a0 b0), .int .i64 (f a0 b1), .int .i64 (f a1 b0), .int .i64 (f a1 b1)] 3 (0, 0)) ∧ Below w.heap.size w W) ⟨blkUp (k0) _, blkUp (k1) _, blkUp (k2) _, blkUp (k3) _, blkA _ _ (by first | rfl | simp only [World.size_alloc]), ((hB).alloc (by first | exact hB.size | (simp only [World.size_alloc]; omega)) _).drew⟩ ?_
  rintro w2 ⟨k0, k1, k2, k3, k4, hB⟩
  have r0 := row_of k0
  have f0 := frozen_of k0
  have z0 := blk_lt k0
  have r1 := row_of k1
  have f1 := frozen_of k1
  have z1 := blk_lt k1
  have r2 := row_of k2
  have f2 := frozen_of k2
  have z2 := blk_lt k2
  have r3 := row_of k3
  have f3 := frozen_of k3
  have z3 := blk_lt k3
  have r4 := row_of k4
  have f4 := frozen_of k4
  have z4 := blk_lt k4
  clear k0 r0 f0 z0 k1 r1 f1 z1
  go_wp2_with fail
  refine (min4 _ _ _ _ _ _ z4 (row_of k4 0) (row_of k4 1) (row_of k4 2) (row_of k4 3)).mono ?_
  rw [show mn (mn (mn (f a0 b0) (f a0 b1)) (f a1 b0)) (f a1 b1) = bot f a0 a1 b0 b1 from rfl]
  rintro e wq ⟨rfl, rfl⟩
  go_wp2_with fail
  refine (max4 _ _ _ _ _ _ z4 (row_of k4 0) (row_of k4 1) (row_of k4 2) (row_of k4 3)).mono ?_
  rw [show mx (mx (mx (f a0 b0) (f a0 b1)) (f a1 b0)) (f a1 b1) = top f a0 a1 b0 b1 from rfl]
  rintro e wq ⟨rfl, rfl⟩
  clear k4 r4 f4 z4
  generalize hLd : bot f a0 a1 b0 b1 = L
  generalize hHd : top f a0 a1 b0 b1 = H
  go_upto_region 3 with fail
  clear hf
  by_cases hL : L < -2147483648
  · have hd := decide_eq_true hL
    go_wp2_with fail
    refine (of_any _ _ _).mono ?_
    rintro e w3 ⟨rfl, hb⟩
    replace k2 := blk_keep hb k2
    replace k3 := blk_keep hb k3
    replace hB := hB.trans (hb.mono hB.size)
    clear r2 f2 z2 r3 f3 z3
    clear hb
    have r2 := row_of k2
    have f2 := frozen_of k2
    have z2 := blk_lt k2
    have r3 := row_of k3
    have f3 := frozen_of k3
    have z3 := blk_lt k3
    go_wp2_with fail
    generalize hWF : (World.setCell (World.setCell (World.setCell (World.setCell _ _ _) _ _) _ _) _ _) = WF
    obtain ⟨kF, kG, bF⟩ := put22 (by omega) k2 k3 _ _ _ _ hWF.symm
    clear r2 f2 z2 r3 f3 z3
    clear hWF
    have rF := row_of kF
    have rG := row_of kG
    exact bodyPost_ret (v := .tuple #[.agg #[.int .i64 (ofP L H).1, .int .i64 (ofP L H).2], .agg #[.bool (true), .bool false]]) (by simp [results, Tryz.results138, go_sem, rF, rG]) rfl ⟨by subst hLd hHd; rw [hd]; rfl, hB.trans (bF _ (by show w.heap.size ≤ w.heap.size + 2; omega) (by show w.heap.size ≤ w.heap.size + 3; omega))⟩
  · have hd := decide_eq_false hL
    go_wp2_with fail
    refine (of_any _ _ _).mono ?_
    rintro e w3 ⟨rfl, hb⟩
    replace k2 := blk_keep hb k2
    replace k3 := blk_keep hb k3
    replace hB := hB.trans (hb.mono hB.size)
    clear r2 f2 z2 r3 f3 z3
    clear hb
    have r2 := row_of k2
    have f2 := frozen_of k2
    have z2 := blk_lt k2
    have r3 := row_of k3
    have f3 := frozen_of k3
    have z3 := blk_lt k3
    go_wp2_with fail
    generalize hWF : (World.setCell (World.setCell (World.setCell (World.setCell _ _ _) _ _) _ _) _ _) = WF
    obtain ⟨kF, kG, bF⟩ := put22 (by omega) k2 k3 _ _ _ _ hWF.symm
    clear r2 f2 z2 r3 f3 z3
    clear hWF
    have rF := row_of kF
    have rG := row_of kG
    exact bodyPost_ret (v := .tuple #[.agg #[.int .i64 (ofP L H).1, .int .i64 (ofP L H).2], .agg #[.bool (decide (2147483647 < H)), .bool false]]) (by simp [results, Tryz.results138, go_sem, rF, rG]) rfl ⟨by subst hLd hHd; rw [hd]; rfl, hB.trans (bF _ (by show w.heap.size ≤ w.heap.size + 2; omega) (by show w.heap.size ≤ w.heap.size + 3; omega))⟩
end Go.Proofs.YtlgmofjjjhbgkaaGreat
namespace Go.Proofs.YtlgmofjjjhbgkaaGreat
open Go.RowKit
theorem nrm_in (l h : Int) (hh : l ≤ h) : nrm l h = (l, h) := if_neg (by omega)
theorem ofP_in (l h : Int) (h1 : -2147483648 ≤ l) (h2 : h ≤ 2147483647) (hh : l ≤ h) : ofP l h = (l, h) := by
  unfold ofP mx mn
  rw [nrm_in _ _ (by split <;> split <;> omega)]
  congr 1 <;> split <;> omega
theorem const_in (n : Int) (w : World) (h1 : -2147483648 ≤ n) (h2 : n ≤ 2147483647) :
    Calls Tryz.prog 16 #[.int .i64 n] w fun e w' => e = .returned (.agg #[.int .i64 n, .int .i64 n]) ∧ Below w.heap.size w w' := by
  have h := const_any n w
  rwa [ofP_in n n h1 h2 (Int.le_refl n)] at h
theorem of_in (l h : Int) (w : World) (h1 : -2147483648 ≤ l) (h2 : h ≤ 2147483647) (hh : l ≤ h) :
    Calls Tryz.prog 21 #[.int .i64 l, .int .i64 h] w fun e w' => e = .returned (.agg #[.int .i64 l, .int .i64 h]) ∧ Below w.heap.size w w' := by
  have h := of_any l h w
  rwa [ofP_in l _ h1 h2 hh] at h

set_option maxRecDepth 100000 in
theorem do_fadd (f : Int → Int → Int) (a0 a1 b0 b1 : Int) (w : World) (ha : a0 ≤ a1) (hb : b0 ≤ b1) (hf : FnOk 139 f a0 a1 b0 b1) :
    Calls Tryz.prog 128 #[.int .i64 4, .agg #[.int .i64 a0, .int .i64 a1], .agg #[.int .i64 b0, .int .i64 b1]] w fun e w' => e = .returned (.tuple #[.agg #[.int .i64 (ofP (bot f a0 a1 b0 b1) (top f a0 a1 b0 b1)).1, .int .i64 (ofP (bot f a0 a1 b0 b1) (top f a0 a1 b0 b1)).2], .agg #[.bool (decide (bot f a0 a1 b0 b1 < -2147483648) || decide (2147483647 < top f a0 a1 b0 b1)), .bool false]]) ∧ Below w.heap.size w w' := by
  have hd1 : decide (a1 < a0) = false := by simp; omega
  have hd2 : decide (b1 < b0) = false := by simp; omega
  replace hf := Lib.hid hf
  clear ha hb
  go_enter Tryz.func128, Tryz.ntmps128
  go_upto_region 1 with fail
  refine wp_world (fun W => W.heap[w.heap.size]? = some (.cells #[.int .i64 a0, .int .i64 a1] 53 (0, 0)) ∧ W.heap[w.heap.size + 1]? = some (.cells #[.int .i64 b0, .int .i64 b1] 53 (0, 0)) ∧ W.heap[w.heap.size + 2]? = some (.cells #[.int .i64 0, .int .i64 0] 53 (0, 0)) ∧ W.heap[w.heap.size + 3]? = some (.cells #[.bool false, .bool false] 128 (0, 0)) ∧ Below w.heap.size w W) ⟨blkUp (blkUp (blkUp (blkA _ _ (by first | rfl | simp only [World.size_alloc])) _) _) _, blkUp (blkUp (blkA _ _ (by first | rfl | simp only [World.size_alloc])) _) _, blkUp (blkA _ _ (by first | rfl | simp only [World.size_alloc])) _, blkA _ _ (by first | rfl | simp only [World.size_alloc]), ((((Below.refl _ _).alloc (by first | exact Nat.le_refl _ | (simp only [World.size_alloc]; omega)) _).alloc (by first | exact Nat.le_refl _ | (simp only [World.size_alloc]; omega)) _).alloc (by first | exact Nat.le_refl _ | (simp only [World.size_alloc]; omega)) _).alloc (by first | exact Nat.le_refl _ | (simp only [World.size_alloc]; omega)) _⟩ ?_
  rintro w1 ⟨k0, k1, k2, k3, hB⟩
  have r0 := row_of k0
  have f0 := frozen_of k0
  have z0 := blk_lt k0
  have r1 := row_of k1
  have f1 := frozen_of k1
  have z1 := blk_lt k1
  have r2 := row_of k2
  have f2 := frozen_of k2
  have z2 := blk_lt k2
  have r3 := row_of k3
  have f3 := frozen_of k3
  have z3 := blk_lt k3
  go_wp2_with fail
  refine (empty_any _ _ _).mono ?_
  rintro e w2 ⟨rfl, hb⟩
  replace k0 := blk_keep hb k0
  replace k1 := blk_keep hb k1
  replace k2 := blk_keep hb k2
  replace k3 := blk_keep hb k3
  replace hB := hB.trans (hb.mono hB.size)
  clear r0 f0 z0 r1 f1 z1 r2 f2 z2 r3 f3 z3
  clear hb
  have r0 := row_of k0
  have f0 := frozen_of k0
  have z0 := blk_lt k0
  have r1 := row_of k1
  have f1 := frozen_of k1
  have z1 := blk_lt k1
  have r2 := row_of k2
  have f2 := frozen_of k2
  have z2 := blk_lt k2
  have r3 := row_of k3
  have f3 := frozen_of k3
  have z3 := blk_lt k3
  go_wp2_with fail
  refine (empty_any _ _ _).mono ?_
  rintro e w3 ⟨rfl, hb⟩
  replace k0 := blk_keep hb k0
  replace k1 := blk_keep hb k1
  replace k2 := blk_keep hb k2
  replace k3 := blk_keep hb k3
  replace hB := hB.trans (hb.mono hB.size)
  clear r0 f0 z0 r1 f1 z1 r2 f2 z2 r3 f3 z3
  clear hb
  have r0 := row_of k0
  have f0 := frozen_of k0
  have z0 := blk_lt k0
  have r1 := row_of k1
  have f1 := frozen_of k1
  have z1 := blk_lt k1
  have r2 := row_of k2
  have f2 := frozen_of k2
  have z2 := blk_lt k2
  have r3 := row_of k3
  have f3 := frozen_of k3
  have z3 := blk_lt k3
  go_wp2_with fail
  refine (ends_add f _ _ _ _ _ hf.out).mono ?_
  rintro e w4 ⟨rfl, hb⟩
  replace k0 := blk_keep hb k0
  replace k1 := blk_keep hb k1
  replace k2 := blk_keep hb k2
  replace k3 := blk_keep hb k3
  replace hB := hB.trans (hb.mono hB.size)
  clear r0 f0 z0 r1 f1 z1 r2 f2 z2 r3 f3 z3
  clear hb
  have r0 := row_of k0
  have f0 := frozen_of k0
  have z0 := blk_lt k0
  have r1 := row_of k1
  have f1 := frozen_of k1
  have z1 := blk_lt k1
  have r2 := row_of k2
  have f2 := frozen_of k2
  have z2 := blk_lt k2
  have r3 := row_of k3
  have f3 := frozen_of k3
  have z3 := blk_lt k3
  go_wp2_with fail
  generalize hWF : (World.setCell (World.setCell (World.setCell (World.setCell _ _ _) _ _) _ _) _ _) = WF
  obtain ⟨kF, kG, bF⟩ := put22 (by omega) k2 k3 _ _ _ _ hWF.symm
  clear r0 f0 z0 r1 f1 z1 r2 f2 z2 r3 f3 z3
  clear hWF
  have rF := row_of kF
  have rG := row_of kG
  exact bodyPost_ret (v := .tuple #[.agg #[.int .i64 (ofP (bot f a0 a1 b0 b1) (top f a0 a1 b0 b1)).1, .int .i64 (ofP (bot f a0 a1 b0 b1) (top f a0 a1 b0 b1)).2], .agg #[.bool (decide (bot f a0 a1 b0 b1 < -2147483648) || decide (2147483647 < top f a0 a1 b0 b1)), .bool false]]) (by simp [results, Tryz.results128, go_sem, rF, rG]) rfl ⟨rfl, hB.trans (bF _ (by show w.heap.size ≤ w.heap.size + 2; omega) (by show w.heap.size ≤ w.heap.size + 3; omega))⟩
set_option maxRecDepth 100000 in
theorem do_fsub (f : Int → Int → Int) (a0 a1 b0 b1 : Int) (w : World) (ha : a0 ≤ a1) (hb : b0 ≤ b1) (hf : FnOk 140 f a0 a1 b0 b1) :
    Calls Tryz.prog 128 #[.int .i64 5, .agg #[.int .i64 a0, .int .i64 a1], .agg #[.int .i64 b0, .int .i64 b1]] w fun e w' => e = .returned (.tuple #[.agg #[.int .i64 (ofP (bot f a0 a1 b0 b1) (top f a0 a1 b0 b1)).1, .int .i64 (ofP (bot f a0 a1 b0 b1) (top f a0 a1 b0 b1)).2], .agg #[.bool (decide (bot f a0 a1 b0 b1 < -2147483648) || decide (2147483647 < top f a0 a1 b0 b1)), .bool false]]) ∧ Below w.heap.size w w' := by
  have hd1 : decide (a1 < a0) = false := by simp; omega
  have hd2 : decide (b1 < b0) = false := by simp; omega
  replace hf := Lib.hid hf
  clear ha hb
  go_enter Tryz.func128, Tryz.ntmps128
  go_upto_region 1 with fail
  refine wp_world (fun W => W.heap[w.heap.size]? = some (.cells #[.int .i64 a0, .int .i64 a1] 53 (0, 0)) ∧ W.heap[w.heap.size + 1]? = some (.cells #[.int .i64 b0, .int .i64 b1] 53 (0, 0)) ∧ W.heap[w.heap.size + 2]? = some (.cells #[.int .i64 0, .int .i64 0] 53 (0, 0)) ∧ W.heap[w.heap.size + 3]? = some (.cells #[.bool false, .bool false] 128 (0, 0)) ∧ Below w.heap.size w W) ⟨blkUp (blkUp (blkUp (blkA _ _ (by first | rfl | simp only [World.size_alloc])) _) _) _, blkUp (blkUp (blkA _ _ (by first | rfl | simp only [World.size_alloc])) _) _, blkUp (blkA _ _ (by first | rfl | simp only [World.size_alloc])) _, blkA _ _ (by first | rfl | simp only [World.size_alloc]), ((((Below.refl _ _).alloc (by first | exact Nat.le_refl _ | (simp only [World.size_alloc]; omega)) _).alloc (by first | exact Nat.le_refl _ | (simp only [World.size_alloc]; omega)) _).alloc (by first | exact Nat.le_refl _ | (simp only [World.size_alloc]; omega)) _).alloc (by first | exact Nat.le_refl _ | (simp only [World.size_alloc]; omega)) _⟩ ?_
  rintro w1 ⟨k0, k1, k2, k3, hB⟩
  have r0 := row_of k0
  have f0 := frozen_of k0
  have z0 := blk_lt k0
  have r1 := row_of k1
  have f1 := frozen_of k1
  have z1 := blk_lt k1
  have r2 := row_of k2
  have f2 := frozen_of k2
  have z2 := blk_lt k2
  have r3 := row_of k3
  have f3 := frozen_of k3
  have z3 := blk_lt k3
  go_wp2_with fail
  refine (empty_any _ _ _).mono ?_
  rintro e w2 ⟨rfl, hb⟩
  replace k0 := blk_keep hb k0
  replace k1 := blk_keep hb k1
  replace k2 := blk_keep hb k2
  replace k3 := blk_keep hb k3
  replace hB := hB.trans (hb.mono hB.size)
  clear r0 f0 z0 r1 f1 z1 r2 f2 z2 r3 f3 z3
  clear hb
  have r0 := row_of k0
  have f0 := frozen_of k0
  have z0 := blk_lt k0
  have r1 := row_of k1
  have f1 := frozen_of k1
  have z1 := blk_lt k1
  have r2 := row_of k2
  have f2 := frozen_of k2
  have z2 := blk_lt k2
  have r3 := row_of k3
  have f3 := frozen_of k3
  have z3 := blk_lt k3
  go_wp2_with fail
  refine (empty_any _ _ _).mono ?_
  rintro e w3 ⟨rfl, hb⟩
  replace k0 := blk_keep hb k0
  replace k1 := blk_keep hb k1
  replace k2 := blk_keep hb k2
  replace k3 := blk_keep hb k3
  replace hB := hB.trans (hb.mono hB.size)
  clear r0 f0 z0 r1 f1 z1 r2 f2 z2 r3 f3 z3
  clear hb
  have r0 := row_of k0
  have f0 := frozen_of k0
  have z0 := blk_lt k0
  have r1 := row_of k1
  have f1 := frozen_of k1
  have z1 := blk_lt k1
  have r2 := row_of k2
  have f2 := frozen_of k2
  have z2 := blk_lt k2
  have r3 := row_of k3
  have f3 := frozen_of k3
  have z3 := blk_lt k3
  go_wp2_with fail
  refine (ends_sub f _ _ _ _ _ hf.out).mono ?_
  rintro e w4 ⟨rfl, hb⟩
  replace k0 := blk_keep hb k0
  replace k1 := blk_keep hb k1
  replace k2 := blk_keep hb k2
  replace k3 := blk_keep hb k3
  replace hB := hB.trans (hb.mono hB.size)
  clear r0 f0 z0 r1 f1 z1 r2 f2 z2 r3 f3 z3
  clear hb
  have r0 := row_of k0
  have f0 := frozen_of k0
  have z0 := blk_lt k0
  have r1 := row_of k1
  have f1 := frozen_of k1
  have z1 := blk_lt k1
  have r2 := row_of k2
  have f2 := frozen_of k2
  have z2 := blk_lt k2
  have r3 := row_of k3
  have f3 := frozen_of k3
  have z3 := blk_lt k3
  go_wp2_with fail
  generalize hWF : (World.setCell (World.setCell (World.setCell (World.setCell _ _ _) _ _) _ _) _ _) = WF
  obtain ⟨kF, kG, bF⟩ := put22 (by omega) k2 k3 _ _ _ _ hWF.symm
  clear r0 f0 z0 r1 f1 z1 r2 f2 z2 r3 f3 z3
  clear hWF
  have rF := row_of kF
  have rG := row_of kG
  exact bodyPost_ret (v := .tuple #[.agg #[.int .i64 (ofP (bot f a0 a1 b0 b1) (top f a0 a1 b0 b1)).1, .int .i64 (ofP (bot f a0 a1 b0 b1) (top f a0 a1 b0 b1)).2], .agg #[.bool (decide (bot f a0 a1 b0 b1 < -2147483648) || decide (2147483647 < top f a0 a1 b0 b1)), .bool false]]) (by simp [results, Tryz.results128, go_sem, rF, rG]) rfl ⟨rfl, hB.trans (bF _ (by show w.heap.size ≤ w.heap.size + 2; omega) (by show w.heap.size ≤ w.heap.size + 3; omega))⟩
theorem do_add (a0 a1 b0 b1 : Int) (w : World) (ha : a0 ≤ a1) (hb : b0 ≤ b1) (h1 : -2147483648 ≤ a0) (h2 : a1 ≤ 2147483647) (h3 : -2147483648 ≤ b0) (h4 : b1 ≤ 2147483647) :
    Calls Tryz.prog 128 #[.int .i64 4, .agg #[.int .i64 a0, .int .i64 a1], .agg #[.int .i64 b0, .int .i64 b1]] w fun e w' => e = .returned (.tuple #[.agg #[.int .i64 (ofP (a0 + b0) (a1 + b1)).1, .int .i64 (ofP (a0 + b0) (a1 + b1)).2], .agg #[.bool (decide (a0 + b0 < -2147483648) || decide (2147483647 < a1 + b1)), .bool false]]) ∧ Below w.heap.size w w' := by
  have h := do_fadd (fun x y => x + y) a0 a1 b0 b1 w ha hb (fun x y w hx hy => add_fn x y w (by omega) (by omega))
  have eL : bot (fun x y => x + y) a0 a1 b0 b1 = a0 + b0 := by unfold bot mn; dsimp only; repeat' split
                                                               all_goals omega
  have eH : top (fun x y => x + y) a0 a1 b0 b1 = a1 + b1 := by unfold top mx; dsimp only; repeat' split
                                                               all_goals omega
  rwa [eL, eH] at h
theorem do_sub (a0 a1 b0 b1 : Int) (w : World) (ha : a0 ≤ a1) (hb : b0 ≤ b1) (h1 : -2147483648 ≤ a0) (h2 : a1 ≤ 2147483647) (h3 : -2147483648 ≤ b0) (h4 : b1 ≤ 2147483647) :
    Calls Tryz.prog 128 #[.int .i64 5, .agg #[.int .i64 a0, .int .i64 a1], .agg #[.int .i64 b0, .int .i64 b1]] w fun e w' => e = .returned (.tuple #[.agg #[.int .i64 (ofP (a0 - b1) (a1 - b0)).1, .int .i64 (ofP (a0 - b1) (a1 - b0)).2], .agg #[.bool (decide (a0 - b1 < -2147483648) || decide (2147483647 < a1 - b0)), .bool false]]) ∧ Below w.heap.size w w' := by
  have h := do_fsub (fun x y => x - y) a0 a1 b0 b1 w ha hb (fun x y w hx hy => sub_fn x y w (by omega) (by omega))
  have eL : bot (fun x y => x - y) a0 a1 b0 b1 = a0 - b1 := by unfold bot mn; dsimp only; repeat' split
                                                               all_goals omega
  have eH : top (fun x y => x - y) a0 a1 b0 b1 = a1 - b0 := by unfold top mx; dsimp only; repeat' split
                                                               all_goals omega
  rwa [eL, eH] at h
end Go.Proofs.YtlgmofjjjhbgkaaGreat
namespace Go.Proofs.YtlgmofjjjhbgkaaGreat
open Go.RowKit

theorem below_undrew {W W' : World} (h : Below W.drew.heap.size W.drew W') : Below W.heap.size W W' := (Below.refl _ W).drew.trans h
theorem below_al {W0 W : World} (h : Below W0.heap.size W0 W) (x : Obj) : Below W0.heap.size W0 (W.alloc x) := h.alloc h.size x
theorem below_tr {W0 W W' : World} (h : Below W0.heap.size W0 W) (hb : Below W.heap.size W W') : Below W0.heap.size W0 W' := h.trans (hb.mono h.size)
theorem below_put {W0 W : World} {g : Nat} {u v : Value} (h : Below W0.heap.size W0 W) (hg : W0.heap.size ≤ g) : Below W0.heap.size W0 ((W.setCell ⟨g, 0, none⟩ u).setCell ⟨g, 1, none⟩ v) := (h.setCell (p := ⟨g, 0, none⟩) hg u).setCell (p := ⟨g, 1, none⟩) hg v
theorem blkT1 {W W' : World} {x : Obj} (h : Below (W.alloc x).heap.size (W.alloc x) W') : W'.heap[W.heap.size]? = some x := blk_keep h (blkA W x rfl)
theorem blkT2a {W W' : World} {x y : Obj} (h : Below ((W.alloc x).alloc y).heap.size ((W.alloc x).alloc y) W') : W'.heap[W.heap.size]? = some x := blk_keep h (blkUp (blkA W x rfl) y)
theorem blkT2b {W W' : World} {x y : Obj} (h : Below ((W.alloc x).alloc y).heap.size ((W.alloc x).alloc y) W') : W'.heap[W.heap.size + 1]? = some y := blk_keep h (blkA (W.alloc x) y (by simp only [World.size_alloc]))
theorem setab {W : World} {n : Nat} {t : TypeId} {a b u v : Value} (h : W.heap[n]? = some (.cells #[a, b] t (0, 0))) : ((W.setCell ⟨n, 0, none⟩ u).setCell ⟨n, 1, none⟩ v).heap[n]? = some (.cells #[u, v] t (0, 0)) := (put2 h u v rfl).1
theorem setno {W : World} {n g : Nat} {x : Obj} {u v : Value} (h : W.heap[n]? = some x) (hne : n ≠ g) : ((W.setCell ⟨g, 0, none⟩ u).setCell ⟨g, 1, none⟩ v).heap[n]? = some x := blk_set (blk_set h hne) hne
/-- Two new blocks of two cells; all that was there is as it was. -/
def TwoCut (W0 : World) (t u : TypeId) (a b c d : Value) (e5 e6 : Value) (wx : World) : Prop := ∃ n m : Nat, e5 = .pointer (some ⟨n, 0, none⟩) ∧ e6 = .pointer (some ⟨m, 0, none⟩) ∧ n ≠ m ∧ W0.heap.size ≤ n ∧ W0.heap.size ≤ m ∧ wx.heap[n]? = some (.cells #[a, b] t (0, 0)) ∧ wx.heap[m]? = some (.cells #[c, d] u (0, 0)) ∧ Below W0.heap.size W0 wx
theorem four_of {W0 : World} {n m : Nat} {a b c d : Value} {t u : TypeId} (h : W0.heap[n]? = some (.cells #[a, b] t (0, 0))) (g : W0.heap[m]? = some (.cells #[c, d] u (0, 0))) (W : World) (hB : Below W0.heap.size W0 W) :
    W.cell? ⟨n, 0, none⟩ = some a ∧ W.cell? ⟨n, 1, none⟩ = some b ∧ W.cell? ⟨m, 0, none⟩ = some c ∧ W.cell? ⟨m, 1, none⟩ = some d := by
  have h' := blk_keep hB h
  have g' := blk_keep hB g
  exact ⟨row_of h' 0, row_of h' 1, row_of g' 0, row_of g' 1⟩
end Go.Proofs.YtlgmofjjjhbgkaaGreat
namespace Go.Proofs.YtlgmofjjjhbgkaaGreat
open Go.RowKit

theorem wr64 (x : Int) (h1 : -9223372036854775808 ≤ x) (h2 : x ≤ 9223372036854775807) : IntKind.i64.wrap x = x := by
  simp [IntKind.wrap, IntKind.bits, IntKind.signed]
  omega
end Go.Proofs.YtlgmofjjjhbgkaaGreat
namespace Go.Proofs.YtlgmofjjjhbgkaaGreat
open Go.RowKit

theorem ofP_or (l h L H : Int) (e : ofP l h = (L, H)) : (L = 1 ∧ H = 0 ∧ (h < l ∨ h < -2147483648 ∨ 2147483647 < l)) ∨ (L ≤ H ∧ (L = l ∧ -2147483648 ≤ l ∨ L = -2147483648 ∧ l < -2147483648) ∧ (H = h ∧ h ≤ 2147483647 ∨ H = 2147483647 ∧ 2147483647 < h)) := by
  unfold ofP nrm mx mn at e
  by_cases h1 : l < -2147483648 <;> by_cases h2 : 2147483647 < h <;> simp only [h1, h2, if_true, if_false] at e <;> split at e <;> (injection e with e1 e2; omega)
theorem mn_or (x y : Int) : (mn x y = x ∧ x ≤ y) ∨ (mn x y = y ∧ y ≤ x) := by unfold mn; split <;> omega
theorem mx_or (x y : Int) : (mx x y = x ∧ y ≤ x) ∨ (mx x y = y ∧ x ≤ y) := by unfold mx; split <;> omega
end Go.Proofs.YtlgmofjjjhbgkaaGreat
namespace Go.Proofs.YtlgmofjjjhbgkaaGreat
open Go.RowKit
theorem blkP (W : World) (g : Nat) (u v : Value) (x : Obj) : (((W.setCell ⟨g, 0, none⟩ u).setCell ⟨g, 1, none⟩ v).alloc x).heap[W.heap.size]? = some x := blkA _ _ (by simp [World.setCell])
end Go.Proofs.YtlgmofjjjhbgkaaGreat
namespace Go.Proofs.YtlgmofjjjhbgkaaGreat
open Go.RowKit

theorem bot_le (f : Int → Int → Int) (a0 a1 b0 b1 : Int) : bot f a0 a1 b0 b1 ≤ f a0 b0 ∧ bot f a0 a1 b0 b1 ≤ f a0 b1 ∧ bot f a0 a1 b0 b1 ≤ f a1 b0 ∧ bot f a0 a1 b0 b1 ≤ f a1 b1 := by
  unfold bot mn
  repeat' split
  all_goals omega
theorem le_top (f : Int → Int → Int) (a0 a1 b0 b1 : Int) : f a0 b0 ≤ top f a0 a1 b0 b1 ∧ f a0 b1 ≤ top f a0 a1 b0 b1 ∧ f a1 b0 ≤ top f a0 a1 b0 b1 ∧ f a1 b1 ≤ top f a0 a1 b0 b1 := by
  unfold top mx
  repeat' split
  all_goals omega
/-- What lies between two, whichever is the lesser one. -/
def Btw (x n y : Int) : Prop := (x ≤ n ∧ n ≤ y) ∨ (y ≤ n ∧ n ≤ x)
/-- The ends tell what is between. -/
theorem corner (f : Int → Int → Int) (a0 a1 b0 b1 x y : Int) (hx : Btw (f a0 y) (f x y) (f a1 y)) (h0 : Btw (f a0 b0) (f a0 y) (f a0 b1)) (h1 : Btw (f a1 b0) (f a1 y) (f a1 b1)) :
    bot f a0 a1 b0 b1 ≤ f x y ∧ f x y ≤ top f a0 a1 b0 b1 := by
  have l := bot_le f a0 a1 b0 b1
  have t := le_top f a0 a1 b0 b1
  unfold Btw at *
  omega
theorem mul_btw (a0 a1 x y : Int) (h0 : a0 ≤ x) (h1 : x ≤ a1) : Btw (a0 * y) (x * y) (a1 * y) := by
  rcases Int.le_total 0 y with hy | hy
  · exact .inl ⟨Int.mul_le_mul_of_nonneg_right h0 hy, Int.mul_le_mul_of_nonneg_right h1 hy⟩
  · exact .inr ⟨Int.mul_le_mul_of_nonpos_right h1 hy, Int.mul_le_mul_of_nonpos_right h0 hy⟩
theorem mul_in (a0 a1 b0 b1 x y : Int) (h0 : a0 ≤ x) (h1 : x ≤ a1) (g0 : b0 ≤ y) (g1 : y ≤ b1) : bot (fun x y => x * y) a0 a1 b0 b1 ≤ x * y ∧ x * y ≤ top (fun x y => x * y) a0 a1 b0 b1 := by
  refine corner (fun x y => x * y) a0 a1 b0 b1 x y (mul_btw a0 a1 x y h0 h1) ?_ ?_
  · have t := mul_btw b0 b1 y a0 g0 g1
    simp only [Int.mul_comm] at t ⊢
    exact t
  · have t := mul_btw b0 b1 y a1 g0 g1
    simp only [Int.mul_comm] at t ⊢
    exact t
/-- Quotients of what is not below nought. -/
theorem td_pos (x x' y y' : Int) (h0 : 0 ≤ x) (h1 : x ≤ x') (g0 : 0 < y') (g1 : y' ≤ y) : 0 ≤ x.tdiv y ∧ x.tdiv y ≤ x'.tdiv y' ∧ x.tdiv y ≤ x := by
  obtain ⟨X, rfl⟩ := Int.eq_ofNat_of_zero_le h0
  obtain ⟨X', rfl⟩ := Int.eq_ofNat_of_zero_le (Int.le_trans h0 h1)
  obtain ⟨Y', rfl⟩ := Int.eq_ofNat_of_zero_le (Int.le_of_lt g0)
  obtain ⟨Y, rfl⟩ := Int.eq_ofNat_of_zero_le (Int.le_trans (Int.le_of_lt g0) g1)
  have e1 : (X : Int).tdiv Y = ((X / Y : Nat) : Int) := rfl
  have e2 : (X' : Int).tdiv Y' = ((X' / Y' : Nat) : Int) := rfl
  rw [e1, e2]
  have t := Nat.div_le_div (a := X) (b := X') (c := Y) (d := Y') (by omega) (by omega) (by omega)
  have u := Nat.div_le_self X Y
  clear e1 e2
  generalize X / Y = q at *
  generalize X' / Y' = q' at *
  omega
theorem td_neg_l (x y : Int) : (-x).tdiv y = -(x.tdiv y) := Int.neg_tdiv ..
theorem td_neg_r (x y : Int) : x.tdiv (-y) = -(x.tdiv y) := Int.tdiv_neg ..
/-- By a number above nought: it rises with what is divided. -/
theorem td_mono (x x' y : Int) (h1 : x ≤ x') (g0 : 0 < y) : x.tdiv y ≤ x'.tdiv y := by
  by_cases hx : 0 ≤ x
  · exact (td_pos x x' y y hx h1 g0 (Int.le_refl _)).2.1
  · have t := td_pos 0 (-x) y y (by omega) (by omega) g0 (Int.le_refl _)
    have t2 := td_neg_l x y
    by_cases hx' : 0 ≤ x'
    · have u := td_pos x' x' y y hx' (Int.le_refl _) g0 (Int.le_refl _)
      omega
    · have v := td_pos (-x') (-x) y y (by omega) (by omega) g0 (Int.le_refl _)
      have v2 := td_neg_l x' y
      omega
theorem td_btw_x (a0 a1 x y : Int) (h0 : a0 ≤ x) (h1 : x ≤ a1) (hy : y ≠ 0) : Btw (a0.tdiv y) (x.tdiv y) (a1.tdiv y) := by
  by_cases g : 0 < y
  · exact .inl ⟨td_mono _ _ _ h0 g, td_mono _ _ _ h1 g⟩
  · have e : ∀ z : Int, z.tdiv y = -(z.tdiv (-y)) := fun z => by have := td_neg_r z (-y); rw [Int.neg_neg] at this; exact this
    rw [e a0, e x, e a1]
    have p := td_mono a0 x (-y) h0 (by omega)
    have q := td_mono x a1 (-y) h1 (by omega)
    exact .inr (by omega)
theorem td_btw_pos (x b0 b1 y : Int) (g : 0 < b0) (h0 : b0 ≤ y) (h1 : y ≤ b1) : Btw (x.tdiv b0) (x.tdiv y) (x.tdiv b1) := by
  by_cases hx : 0 ≤ x
  · exact .inr ⟨(td_pos x x b1 y hx (Int.le_refl _) (by omega) h1).2.1, (td_pos x x y b0 hx (Int.le_refl _) g h0).2.1⟩
  · have e : ∀ z : Int, x.tdiv z = -((-x).tdiv z) := fun z => by have := td_neg_l (-x) z; rw [Int.neg_neg] at this; exact this
    rw [e b0, e y, e b1]
    have p := (td_pos (-x) (-x) b1 y (by omega) (Int.le_refl _) (by omega) h1).2.1
    have q := (td_pos (-x) (-x) y b0 (by omega) (Int.le_refl _) g h0).2.1
    exact .inl (by omega)
theorem td_btw_y (x b0 b1 y : Int) (g : 0 < b0 ∨ b1 < 0) (h0 : b0 ≤ y) (h1 : y ≤ b1) : Btw (x.tdiv b0) (x.tdiv y) (x.tdiv b1) := by
  rcases g with g | g
  · exact td_btw_pos x b0 b1 y g h0 h1
  · have e : ∀ z : Int, x.tdiv z = -(x.tdiv (-z)) := fun z => by have := td_neg_r x (-z); rw [Int.neg_neg] at this; exact this
    rw [e b0, e y, e b1]
    have t := td_btw_pos x (-b1) (-b0) (-y) (by omega) (by omega) (by omega)
    unfold Btw at *
    omega
theorem quo_in (a0 a1 b0 b1 x y : Int) (g : 0 < b0 ∨ b1 < 0) (h0 : a0 ≤ x) (h1 : x ≤ a1) (g0 : b0 ≤ y) (g1 : y ≤ b1) : bot Int.tdiv a0 a1 b0 b1 ≤ x.tdiv y ∧ x.tdiv y ≤ top Int.tdiv a0 a1 b0 b1 :=
  corner Int.tdiv a0 a1 b0 b1 x y (td_btw_x a0 a1 x y h0 h1 (by omega)) (td_btw_y a0 b0 b1 y g g0 g1) (td_btw_y a1 b0 b1 y g g0 g1)
/-- A quotient is no farther from nought than what is divided. -/
theorem td_abs (x y : Int) (m : Int) (h0 : -m ≤ x) (h1 : x ≤ m) (hy : y ≠ 0) : -m ≤ x.tdiv y ∧ x.tdiv y ≤ m := by
  have p : ∀ z : Int, 0 < z → -m ≤ x.tdiv z ∧ x.tdiv z ≤ m := fun z hz => by
    by_cases hx : 0 ≤ x
    · have t := td_pos x x z z hx (Int.le_refl _) hz (Int.le_refl _); omega
    · have t := td_pos (-x) (-x) z z (by omega) (Int.le_refl _) hz (Int.le_refl _)
      have := td_neg_l x z
      omega
  by_cases g : 0 < y
  · exact p y g
  · have t := p (-y) (by omega)
    have := td_neg_r x y
    omega
/-- Rests. -/
theorem tm_pos (x y : Int) (h : 0 ≤ x) (g : 0 < y) : 0 ≤ x.tmod y ∧ x.tmod y < y ∧ x.tmod y ≤ x := by
  obtain ⟨X, rfl⟩ := Int.eq_ofNat_of_zero_le h
  obtain ⟨Y, rfl⟩ := Int.eq_ofNat_of_zero_le (Int.le_of_lt g)
  have e : (X : Int).tmod Y = ((X % Y : Nat) : Int) := rfl
  rw [e]
  have t := Nat.mod_lt X (y := Y) (by omega)
  have u := Nat.mod_le X Y
  clear e
  generalize X % Y = q at *
  omega
theorem tm_any (x y m : Int) (hy : y ≠ 0) (h0 : -m ≤ y) (h1 : y ≤ m) : -(m - 1) ≤ x.tmod y ∧ x.tmod y ≤ m - 1 ∧ ((0 ≤ x ∧ 0 ≤ x.tmod y ∧ x.tmod y ≤ x) ∨ (x ≤ 0 ∧ x ≤ x.tmod y ∧ x.tmod y ≤ 0)) := by
  have p : ∀ z : Int, 0 < z → z ≤ m → -(m - 1) ≤ x.tmod z ∧ x.tmod z ≤ m - 1 ∧ ((0 ≤ x ∧ 0 ≤ x.tmod z ∧ x.tmod z ≤ x) ∨ (x ≤ 0 ∧ x ≤ x.tmod z ∧ x.tmod z ≤ 0)) := fun z hz hm => by
    by_cases hx : 0 ≤ x
    · have t := tm_pos x z hx hz; omega
    · have t := tm_pos (-x) z (by omega) hz
      have e : (-x).tmod z = -(x.tmod z) := Int.neg_tmod ..
      omega
  by_cases g : 0 < y
  · exact p y g h1
  · have t := p (-y) (by omega) (by omega)
    have e : x.tmod (-y) = x.tmod y := Int.tmod_neg ..
    rw [e] at t
    exact t
theorem rest_eq (x y : Int) : x - x.tdiv y * y = x.tmod y := by
  have := Int.tmod_add_tdiv_mul x y
  omega
/-- What a kind makes of two numbers: the number, and which error. -/
def valP (k x y : Int) : Int := if k = 4 then x + y else if k = 5 then x - y else if k = 6 then x * y else if k = 7 then x.tdiv y else x - x.tdiv y * y
def errP (k x y : Int) : Int := if 7 ≤ k ∧ y = 0 then 3 else if valP k x y < -2147483648 ∨ 2147483647 < valP k x y then 2 else 0
theorem errP_or (k x y : Int) : (errP k x y = 3 ∧ 7 ≤ k ∧ y = 0) ∨ (errP k x y = 2 ∧ ¬ (7 ≤ k ∧ y = 0) ∧ (valP k x y < -2147483648 ∨ 2147483647 < valP k x y)) ∨ (errP k x y = 0 ∧ ¬ (7 ≤ k ∧ y = 0) ∧ -2147483648 ≤ valP k x y ∧ valP k x y ≤ 2147483647) := by
  unfold errP
  by_cases h : 7 ≤ k ∧ y = 0
  · rw [if_pos h]; exact .inl ⟨rfl, h⟩
  · rw [if_neg h]
    by_cases g : valP k x y < -2147483648 ∨ 2147483647 < valP k x y
    · rw [if_pos g]; exact .inr (.inl ⟨rfl, h, g⟩)
    · rw [if_neg g]; exact .inr (.inr ⟨rfl, h, by omega, by omega⟩)
/-- What Do tells of a kind and two Itvs, in words. -/
structure DoOk (k a0 a1 b0 b1 z0 z1 : Int) (ov dz : Bool) : Prop where
  norm : (z0 = 1 ∧ z1 = 0) ∨ (z0 ≤ z1 ∧ -2147483648 ≤ z0 ∧ z1 ≤ 2147483647)
  has : ∀ x y, a0 ≤ x → x ≤ a1 → b0 ≤ y → y ≤ b1 → errP k x y = 0 → z0 ≤ valP k x y ∧ valP k x y ≤ z1
  over : ∀ x y, a0 ≤ x → x ≤ a1 → b0 ≤ y → y ≤ b1 → errP k x y = 2 → ov = true
  zero : dz = (decide (7 ≤ k) && decide (b0 ≤ 0 ∧ 0 ≤ b1))
  sure : k ≤ 5 ∨ (a0 = a1 ∧ b0 = b1) → ov = true → ∃ x y, a0 ≤ x ∧ x ≤ a1 ∧ b0 ≤ y ∧ y ≤ b1 ∧ errP k x y = 2
  alone : a0 = a1 ∧ b0 = b1 → (errP k a0 b0 ≠ 0 → z0 = 1 ∧ z1 = 0) ∧ (errP k a0 b0 = 0 → z0 = valP k a0 b0 ∧ z1 = valP k a0 b0)
/-- From the ends' least and greatest one on. -/
theorem ends_ok (k a0 a1 b0 b1 L H z0 z1 : Int) (ov dz : Bool) (ha : a0 ≤ a1) (hb : b0 ≤ b1) (hz : dz = (decide (7 ≤ k) && decide (b0 ≤ 0 ∧ 0 ≤ b1))) (hk : k ≤ 6) (e : ofP L H = (z0, z1)) (ho : ov = (decide (L < -2147483648) || decide (2147483647 < H)))
    (hin : ∀ x y, a0 ≤ x → x ≤ a1 → b0 ≤ y → y ≤ b1 → L ≤ valP k x y ∧ valP k x y ≤ H)
    (hw : k ≤ 5 ∨ (a0 = a1 ∧ b0 = b1) → ∃ x y x' y', a0 ≤ x ∧ x ≤ a1 ∧ b0 ≤ y ∧ y ≤ b1 ∧ valP k x y = L ∧ a0 ≤ x' ∧ x' ≤ a1 ∧ b0 ≤ y' ∧ y' ≤ b1 ∧ valP k x' y' = H) : DoOk k a0 a1 b0 b1 z0 z1 ov dz := by
  have t := ofP_or L H z0 z1 e
  have e0 : ov = true ↔ L < -2147483648 ∨ 2147483647 < H := by rw [ho]; simp
  refine ⟨by omega, fun x y x0 x1 y0 y1 h => ?_, fun x y x0 x1 y0 y1 h => ?_, hz, fun hs ht => ?_, fun hal => ?_⟩
  · have u := hin x y x0 x1 y0 y1
    have v := errP_or k x y
    omega
  · have u := hin x y x0 x1 y0 y1
    have v := errP_or k x y
    exact e0.2 (by omega)
  · obtain ⟨x, y, x', y', g0, g1, g2, g3, g4, g5, g6, g7, g8, g9⟩ := hw hs
    rcases e0.1 ht with h | h
    · exact ⟨x, y, g0, g1, g2, g3, by have v := errP_or k x y; omega⟩
    · exact ⟨x', y', g5, g6, g7, g8, by have v := errP_or k x' y'; omega⟩
  · obtain ⟨x, y, x', y', g0, g1, g2, g3, g4, g5, g6, g7, g8, g9⟩ := hw (.inr hal)
    obtain ⟨rfl, rfl⟩ := hal
    obtain rfl : x = a0 := by omega
    obtain rfl : y = b0 := by omega
    obtain rfl : x' = x := by omega
    obtain rfl : y' = y := by omega
    clear hin hw e0 e ho hz
    have v := errP_or k x' y'
    exact ⟨fun h => by omega, fun h => by omega⟩
end Go.Proofs.YtlgmofjjjhbgkaaGreat
