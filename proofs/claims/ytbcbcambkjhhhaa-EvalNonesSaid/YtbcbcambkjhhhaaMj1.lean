/-
  The types at hand.
-/
import Derived.Test.YtbcbcambkjhhhaaProg
import Derived.Test.YtbcbcambkjhhhaaChecked
import Derived.ChangeArms
import Derived.OpenShut
import Derived.WideShapes
import Derived.ChangeShapes
import Derived.Carry
import Derived.DataReads
import Derived.KernelRfl
import Derived.Deep.LoopGhost
import Derived.Laws.Append
import Derived.Laws.AppendOwn
import Derived.Laws.MakeOwn
import Derived.Laws.StructEq
import Derived.Laws.Cells
import Derived.Laws.CopyRow
import Derived.Laws.Rows
import Derived.Below
import Derived.Orders
import Derived.ChangeKeysEq
import Derived.RegionTactic
import Derived.Deep.CutRange
import Derived.WalkKit
import Derived.ProofKit
import Derived.Handy
import Derived.Lib.Hide
import Derived.IntWalk
import Derived.Deep.WholeRow
import Derived.Deep.Cut
import Derived.Deep.RegionHeld3
import Derived.Test.YtbcbcambkjhhhaaMA
import Derived.Test.YtbcbcambkjhhhaaMB
import Derived.Test.YtbcbcambkjhhhaaMC
import Derived.Test.YtbcbcambkjhhhaaMD
import Derived.Test.YtbcbcambkjhhhaaME
import Derived.Test.YtbcbcambkjhhhaaMF
import Derived.Test.YtbcbcambkjhhhaaMG
import Derived.Test.YtbcbcambkjhhhaaMH
import Derived.Test.YtbcbcambkjhhhaaMI
import Derived.Test.YtbcbcambkjhhhaaMJ
import Derived.Test.YtbcbcambkjhhhaaMK
import Derived.Test.YtbcbcambkjhhhaaML
import Derived.Test.YtbcbcambkjhhhaaMM
namespace Go.Proofs.Ytbcbcambkjhhhaa.Sx.Z
def tt : TT := [(2, ⟨.int .i64, 1, none, [.c (.int .i64 (.lit 0))], none, none, 8⟩),
  (3, ⟨.int .i64, 1, none, [.c (.int .i64 (.lit 0))], none, some ([.int .i64]), 8⟩),
  (4, ⟨.bool, 1, none, [.c (.bool (.lit false))], none, none, 1⟩),
  (5, ⟨.int .u8, 1, none, [.c (.int .u8 (.lit 0))], none, some ([.int .u8]), 1⟩),
  (9, ⟨.string, 1, none, [.c (.raw (.string ByteArray.empty))], none, none, 16⟩),
  (21, ⟨.int .i32, 1, none, [.c (.int .i32 (.lit 0))], none, some ([.int .i32]), 4⟩),
  (22, ⟨.slice 24, 1, none, [.c .nils], none, none, 24⟩),
  (24, ⟨.struct [(3, 0), (3, 1), (3, 2), (22, 3)], 4, some [.c, .c, .c, .c], [.c (.int .i64 (.lit 0)), .c (.int .i64 (.lit 0)), .c (.int .i64 (.lit 0)), .c .nils], none, some ([.int .i64, .int .i64, .int .i64, .slice 24]), 48⟩),
  (25, ⟨.array 3 21, 3, some [.ints .i32 3], [.ints .i32 (.lit 3) (fun _ => 0)], some [(.i .i32, 3)], none, 12⟩),
  (26, ⟨.slice 3, 1, none, [.c .nils], none, some ([.slice 3]), 24⟩),
  (30, ⟨.slice 32, 1, none, [.c .nils], none, none, 24⟩),
  (32, ⟨.struct [(3, 0), (3, 1), (3, 2), (30, 3)], 4, some [.c, .c, .c, .c], [.c (.int .i64 (.lit 0)), .c (.int .i64 (.lit 0)), .c (.int .i64 (.lit 0)), .c .nils], none, some ([.int .i64, .int .i64, .int .i64, .slice 32]), 48⟩),
  (39, ⟨.struct [(3, 0), (32, 1), (32, 5)], 9, some [.c, .c, .c, .c, .c, .c, .c, .c, .c], [.c (.int .i64 (.lit 0)), .c (.int .i64 (.lit 0)), .c (.int .i64 (.lit 0)), .c (.int .i64 (.lit 0)), .c .nils, .c (.int .i64 (.lit 0)), .c (.int .i64 (.lit 0)), .c (.int .i64 (.lit 0)), .c .nils], none, none, 104⟩),
  (42, ⟨.struct [(3, 0), (24, 1), (24, 5)], 9, some [.c, .c, .c, .c, .c, .c, .c, .c, .c], [.c (.int .i64 (.lit 0)), .c (.int .i64 (.lit 0)), .c (.int .i64 (.lit 0)), .c (.int .i64 (.lit 0)), .c .nils, .c (.int .i64 (.lit 0)), .c (.int .i64 (.lit 0)), .c (.int .i64 (.lit 0)), .c .nils], none, none, 104⟩),
  (45, ⟨.slice 149, 1, none, [.c .nils], none, none, 24⟩),
  (46, ⟨.slice 60, 1, none, [.c .nils], none, none, 24⟩),
  (48, ⟨.struct [(3, 0), (3, 1)], 2, some [.c, .c], [.c (.int .i64 (.lit 0)), .c (.int .i64 (.lit 0))], some [(.i .i64, 1), (.i .i64, 1)], some ([.int .i64, .int .i64]), 16⟩),
  (49, ⟨.slice 48, 1, none, [.c .nils], none, none, 24⟩),
  (51, ⟨.struct [(48, 0), (49, 2)], 3, some [.c, .c, .c], [.c (.int .i64 (.lit 0)), .c (.int .i64 (.lit 0)), .c .nils], none, none, 40⟩),
  (52, ⟨.struct [(3, 0), (3, 1)], 2, some [.c, .c], [.c (.int .i64 (.lit 0)), .c (.int .i64 (.lit 0))], some [(.i .i64, 1), (.i .i64, 1)], some ([.int .i64, .int .i64]), 16⟩),
  (53, ⟨.slice 52, 1, none, [.c .nils], none, none, 24⟩),
  (55, ⟨.struct [(52, 0), (53, 2)], 3, some [.c, .c, .c], [.c (.int .i64 (.lit 0)), .c (.int .i64 (.lit 0)), .c .nils], none, none, 40⟩),
  (58, ⟨.slice 61, 1, none, [.c .nils], none, some ([.slice 61]), 24⟩),
  (60, ⟨.struct [(3, 0), (3, 1)], 2, some [.c, .c], [.c (.int .i64 (.lit 0)), .c (.int .i64 (.lit 0))], some [(.i .i64, 1), (.i .i64, 1)], some ([.int .i64, .int .i64]), 16⟩),
  (61, ⟨.struct [(3, 0), (3, 1)], 2, some [.c, .c], [.c (.int .i64 (.lit 0)), .c (.int .i64 (.lit 0))], some [(.i .i64, 1), (.i .i64, 1)], some ([.int .i64, .int .i64]), 16⟩),
  (69, ⟨.slice 26, 1, none, [.c .nils], none, none, 24⟩),
  (71, ⟨.struct [(3, 0), (3, 1), (3, 2), (3, 3), (3, 4), (69, 5)], 6, some [.c, .c, .c, .c, .c, .c], [.c (.int .i64 (.lit 0)), .c (.int .i64 (.lit 0)), .c (.int .i64 (.lit 0)), .c (.int .i64 (.lit 0)), .c (.int .i64 (.lit 0)), .c .nils], none, some ([.int .i64, .int .i64, .int .i64, .int .i64, .int .i64, .slice 26]), 64⟩),
  (85, ⟨.struct [(25, 0), (25, 3), (4, 6)], 7, some [.ints .i32 3, .ints .i32 3, .c], [.ints .i32 (.lit 3) (fun _ => 0), .ints .i32 (.lit 3) (fun _ => 0), .c (.bool (.lit false))], some [(.i .i32, 3), (.i .i32, 3), (.b, 1)], none, 28⟩),
  (86, ⟨.array 7 3, 7, some [.ints .i64 7], [.ints .i64 (.lit 7) (fun _ => 0)], some [(.i .i64, 7)], none, 56⟩),
  (87, ⟨.array 7 86, 49, some [.ints .i64 49], [.ints .i64 (.lit 49) (fun _ => 0)], some [(.i .i64, 49)], none, 392⟩),
  (89, ⟨.struct [(3, 0), (4, 1), (87, 2)], 51, some [.c, .c, .ints .i64 49], [.c (.int .i64 (.lit 0)), .c (.bool (.lit false)), .ints .i64 (.lit 49) (fun _ => 0)], some [(.i .i64, 1), (.b, 1), (.i .i64, 49)], none, 408⟩),
  (91, ⟨.struct [(4, 0), (49, 1), (89, 2)], 53, some [.c, .c, .c, .c, .ints .i64 49], [.c (.bool (.lit false)), .c .nils, .c (.int .i64 (.lit 0)), .c (.bool (.lit false)), .ints .i64 (.lit 49) (fun _ => 0)], none, none, 440⟩),
  (94, ⟨.int .u64, 1, none, [.c (.int .u64 (.lit 0))], none, none, 8⟩),
  (96, ⟨.struct [(4, 0), (4, 1)], 2, some [.c, .c], [.c (.bool (.lit false)), .c (.bool (.lit false))], some [(.b, 1), (.b, 1)], none, 2⟩),
  (115, ⟨.slice 21, 1, none, [.c .nils], none, none, 24⟩),
  (116, ⟨.int .u8, 1, none, [.c (.int .u8 (.lit 0))], none, none, 1⟩),
  (125, ⟨.array 2 3, 2, some [.ints .i64 2], [.ints .i64 (.lit 2) (fun _ => 0)], some [(.i .i64, 2)], none, 16⟩),
  (126, ⟨.slice 194, 1, none, [.c .nils], none, none, 24⟩),
  (134, ⟨.slice 133, 1, none, [.c .nils], none, none, 24⟩),
  (137, ⟨.slice 136, 1, none, [.c .nils], none, none, 24⟩),
  (138, ⟨.slice 71, 1, none, [.c .nils], none, none, 24⟩),
  (143, ⟨.slice 142, 1, none, [.c .nils], none, none, 24⟩),
  (149, ⟨.struct [(3, 0), (52, 1)], 3, some [.c, .c, .c], [.c (.int .i64 (.lit 0)), .c (.int .i64 (.lit 0)), .c (.int .i64 (.lit 0))], some [(.i .i64, 1), (.i .i64, 1), (.i .i64, 1)], some ([.int .i64, .int .i64, .int .i64]), 24⟩),
  (187, ⟨.slice 191, 1, none, [.c .nils], none, none, 24⟩),
  (192, ⟨.slice 58, 1, none, [.c .nils], none, none, 24⟩),
  (223, ⟨.int .u32, 1, none, [.c (.int .u32 (.lit 0))], none, none, 4⟩),
  (243, ⟨.slice 5, 1, none, [.c .nils], none, none, 24⟩),
  (245, ⟨.slice 134, 1, none, [.c .nils], none, none, 24⟩),
  (249, ⟨.slice 254, 1, none, [.c .nils], none, none, 24⟩),
  (252, ⟨.slice 257, 1, none, [.c .nils], none, none, 24⟩),
  (255, ⟨.slice 266, 1, none, [.c .nils], none, none, 24⟩)]
theorem tt_ok : TTOK Try.prog tt := ttAll_ok ⟨by kernel_rfl, trivial, by kernel_rfl, ⟨by kernel_rfl, by kernel_rfl, by kernel_rfl⟩, by kernel_rfl, trivial, by kernel_rfl, ⟨by kernel_rfl, by kernel_rfl, by kernel_rfl⟩, by kernel_rfl, trivial, by kernel_rfl, ⟨by kernel_rfl, by kernel_rfl, by kernel_rfl⟩, by kernel_rfl, trivial, by kernel_rfl, ⟨by kernel_rfl, by kernel_rfl, by kernel_rfl⟩, by kernel_rfl, trivial, by kernel_rfl, ⟨by kernel_rfl, by kernel_rfl, by kernel_rfl⟩, by kernel_rfl, trivial, by kernel_rfl, ⟨by kernel_rfl, by kernel_rfl, by kernel_rfl⟩, by kernel_rfl, trivial, by kernel_rfl, trivial, by kernel_rfl, trivial, by kernel_rfl, trivial, by kernel_rfl, ⟨by kernel_rfl, by kernel_rfl, by kernel_rfl⟩, by kernel_rfl, trivial, by kernel_rfl, trivial, by kernel_rfl, ⟨by kernel_rfl, by kernel_rfl, by kernel_rfl⟩, by kernel_rfl, trivial, by kernel_rfl, trivial, by kernel_rfl, ⟨by kernel_rfl, by kernel_rfl, by kernel_rfl⟩, by kernel_rfl, ⟨by kernel_rfl, by kernel_rfl, by kernel_rfl⟩, by kernel_rfl, ⟨by kernel_rfl, by kernel_rfl, by kernel_rfl⟩, by kernel_rfl, trivial, by kernel_rfl, ⟨by kernel_rfl, by kernel_rfl, by kernel_rfl⟩, by kernel_rfl, trivial, by kernel_rfl, trivial, by kernel_rfl, trivial, by kernel_rfl, trivial, by kernel_rfl, trivial, by kernel_rfl, trivial, by kernel_rfl, trivial, by kernel_rfl, trivial, by kernel_rfl, trivial, by kernel_rfl, trivial, by kernel_rfl, trivial, by kernel_rfl, trivial, by kernel_rfl, trivial, by kernel_rfl, trivial, by kernel_rfl, trivial, by kernel_rfl, ⟨by kernel_rfl, by kernel_rfl, by kernel_rfl⟩, by kernel_rfl, trivial, by kernel_rfl, trivial, by kernel_rfl, trivial, by kernel_rfl, trivial, by kernel_rfl, trivial, by kernel_rfl, trivial, by kernel_rfl, trivial, by kernel_rfl, trivial, trivial⟩
theorem kall : kAll tt = true := by kernel_rfl
theorem mixed : Try.prog.follows .mixedOrders = true := by kernel_rfl
end Go.Proofs.Ytbcbcambkjhhhaa.Sx.Z
namespace Go.Proofs.Ytbcbcambkjhhhaa.Sx
open Go.RowKit
/-- The contract, for what lies under a measure. -/
def FSpec.under (spec : FSpec) (μ : List Dat → Nat) (m : Nat) : FSpec := fun ds fr => match spec ds fr with
  | some e => some { e with vc := (μ ds < m) :: e.vc }
  | none => none
/-- A function that calls itself keeps its contract, if it keeps it for what lies under m + 1 as far as it keeps it for what lies under m. -/
theorem con_rec {P : Program} {f : FuncId} {aps : List AP} {spec : FSpec} (μ : List Dat → Nat) (hen : ∀ (args : Array Value) (w : World), (callFunc f args).run P w = .ok (.enter f args) w) (H : ∀ m, ConOK P f (con aps (spec.under μ m)) → ConOK P f (con aps (spec.under μ (m + 1)))) : ConOK P f (con aps spec) := by
  have all : ∀ m, ConOK P f (con aps (spec.under μ m)) := fun m => by
    induction m with
    | zero =>
      refine ⟨hen, fun hp fr args e he hv => ?_⟩
      exfalso
      unfold con at he
      split at he
      · rename_i ds ps hfl
        split at he
        · rename_i e' hs
          unfold FSpec.under at hs
          split at hs
          · rename_i e2 h2
            simp only [Option.some.injEq] at hs he
            subst hs
            subst he
            exact Nat.not_lt_zero _ (all_append.1 hv).2.1
          · cases hs
        · cases he
      · cases he
    | succ m ih => exact H m ih
  refine ⟨hen, fun hp fr args e he hv => ?_⟩
  have he0 := he
  unfold con at he
  split at he
  · rename_i ds ps hfl
    split at he
    · rename_i e' hs
      simp only [Option.some.injEq] at he
      subst he
      have hu : con aps (spec.under μ (μ ds + 1)) hp fr args = some { e' with vc := ps ++ (μ ds < μ ds + 1) :: e'.vc, st := if plainE e' then [] else kills (keepOwn hp (idsL args)) } := by
        unfold con
        rw [hfl]
        show (match spec.under μ (μ ds + 1) ds fr with | some e => some { e with vc := ps ++ e.vc, st := if plainE e then [] else kills (keepOwn hp (idsL args)) } | none => none) = _
        unfold FSpec.under
        rw [hs]
        rfl
      intro w0 w ρ vs hw hn ha
      have ha2 := all_append.1 hv
      exact ((all (μ ds + 1)).calls hp fr args _ hu (all_append.2 ⟨ha2.1, Nat.lt_succ_self _, ha2.2⟩) w0 w ρ vs hw hn ha).mono fun en w' h => by
        obtain ⟨ρ', v, h1, h2, h3⟩ := h
        exact ⟨ρ', v, h1, h2, ⟨h3.ext, h3.only, h3.below, h3.keep, h3.st, h3.nw, h3.apart, h3.fz⟩⟩
    · cases he
  · cases he
end Go.Proofs.Ytbcbcambkjhhhaa.Sx
namespace Go.Proofs.Ytbcbcambkjhhhaa.Sx.Z
open Go.RowKit
/-- An expression: its kind, its number, its variable, its parts. -/
inductive Xp | mk (k n v : Int) (kids : List Xp)
def Xp.k : Xp → Int | mk k _ _ _ => k
def Xp.n : Xp → Int | mk _ n _ _ => n
def Xp.v : Xp → Int | mk _ _ v _ => v
def Xp.kids : Xp → List Xp | mk _ _ _ l => l
theorem el_lt {d : D} {i j : Nat} (h : i < d.len) : SizeOf.sizeOf (d.el i j) < SizeOf.sizeOf d := by
  cases d with
  | l rows =>
    have h' : i < rows.length := h
    have e : (D.l rows).el i j = (rows[i]).getD j (.i 0) := by
      show (rows.getD i []).getD j (.i 0) = _
      rw [List.getD_eq_getElem?_getD (l := rows), List.getElem?_eq_getElem h', Option.getD_some]
    rw [e, List.getD_eq_getElem?_getD]
    have h1 := List.sizeOf_lt_of_mem (List.getElem_mem h')
    cases hj : (rows[i])[j]? with
    | none =>
      rw [Option.getD_none]
      have : SizeOf.sizeOf (D.i 0) = 1 + SizeOf.sizeOf (0 : Int) := rfl
      have e2 : SizeOf.sizeOf (0 : Int) = 1 := rfl
      have : SizeOf.sizeOf (D.l rows) = 1 + SizeOf.sizeOf rows := by simp
      have h2 : 1 ≤ SizeOf.sizeOf (rows[i]) := by cases rows[i] <;> simp <;> omega
      omega
    | some x =>
      rw [Option.getD_some]
      have h2 := List.sizeOf_lt_of_mem (List.mem_of_getElem? hj)
      have : SizeOf.sizeOf (D.l rows) = 1 + SizeOf.sizeOf rows := by simp
      omega
  | i n => exact absurd h (Nat.not_lt_zero i)
  | b n => exact absurd h (Nat.not_lt_zero i)
  | s n => exact absurd h (Nat.not_lt_zero i)
def exs (d : D) : List Xp := (List.finRange d.len).map fun (i : Fin d.len) => Xp.mk (d.el i 0).toI (d.el i 1).toI (d.el i 2).toI (exs (d.el i 3))
 termination_by SizeOf.sizeOf d decreasing_by
              exact el_lt i.isLt
def ex (k n v : Int) (d : D) : Xp := .mk k n v (exs d)
theorem exs_len (d : D) : (exs d).length = d.len := by rw [exs]; simp
theorem exs_get {d : D} {i : Nat} (h : i < d.len) : (exs d)[i]? = some (ex (d.el i 0).toI (d.el i 1).toI (d.el i 2).toI (d.el i 3)) := by
  rw [exs, List.getElem?_map, List.getElem?_eq_getElem (by simpa using h)]
  simp [ex]
def exE (d : D) (i : Nat) : Xp := ex (d.el i 0).toI (d.el i 1).toI (d.el i 2).toI (d.el i 3)
theorem exs_one {d : D} (h : d.len = 1) : exs d = [exE d 0] := by
  have l := exs_len d
  have g := exs_get (d := d) (i := 0) (by omega)
  match he : exs d with
  | [] => rw [he, h] at l; cases l
  | [a] => rw [he] at g; simp at g; rw [g]; rfl
  | a :: b :: r => rw [he, h] at l; simp at l
theorem exs_two {d : D} (h : d.len = 2) : exs d = [exE d 0, exE d 1] := by
  have l := exs_len d
  have g := exs_get (d := d) (i := 0) (by omega)
  have g1 := exs_get (d := d) (i := 1) (by omega)
  match he : exs d with
  | [] => rw [he, h] at l; cases l
  | [a] => rw [he, h] at l; simp at l
  | [a, b] => rw [he] at g g1; simp at g g1; rw [g, g1]; rfl
  | a :: b :: c :: r => rw [he, h] at l; simp at l
theorem exs_ne2 {d : D} (h : d.len ≠ 2) (a b : Xp) : exs d ≠ [a, b] := fun e => h (by rw [← exs_len, e]; rfl)
theorem exs_ne1 {d : D} (h : d.len ≠ 1) (a : Xp) : exs d ≠ [a] := fun e => h (by rw [← exs_len, e]; rfl)
/-- The data of an expression's parts. -/
def encE : Xp → List D | .mk k n v kids => [.i k, .i n, .i v, .l (kids.map encE)]
def dE (l : List Xp) : D := .l (l.map encE)
theorem dE_len (l : List Xp) : (dE l).len = l.length := by show (l.map encE).length = _; simp
theorem dE_el {l : List Xp} {i : Nat} {e : Xp} (h : l[i]? = some e) : (dE l).el i 0 = .i e.k ∧ (dE l).el i 1 = .i e.n ∧ (dE l).el i 2 = .i e.v ∧ (dE l).el i 3 = dE e.kids := by
  have : (dE l).rows.getD i [] = encE e := by
    show (l.map encE).getD i [] = _
    rw [List.getD_eq_getElem?_getD, List.getElem?_map, h]; rfl
  unfold D.el
  rw [this]
  cases e with
  | mk k n v kids => simp [encE, Xp.k, Xp.n, Xp.v, Xp.kids, dE]
theorem encE_eq (e : Xp) : encE e = [.i e.k, .i e.n, .i e.v, dE e.kids] := by cases e; simp [encE, Xp.k, Xp.n, Xp.v, Xp.kids, dE]
theorem exs_dE : ∀ l : List Xp, exs (dE l) = l := by
  have key : ∀ m (l : List Xp), SizeOf.sizeOf l < m → exs (dE l) = l := fun m => by
    induction m with
    | zero => intro l h; omega
    | succ m ih =>
      intro l h
      apply List.ext_getElem?
      intro i
      by_cases hi : i < l.length
      · rw [exs_get (by rw [dE_len]; exact hi), List.getElem?_eq_getElem hi]
        obtain ⟨h0, h1, h2, h3⟩ := dE_el (List.getElem?_eq_getElem hi)
        rw [h0, h1, h2, h3]
        unfold ex
        have hs := List.sizeOf_lt_of_mem (List.getElem_mem hi)
        have hk : SizeOf.sizeOf (l[i]).kids < m := by
          cases he : l[i] with
          | mk k n v kids =>
            rw [he] at hs
            have : SizeOf.sizeOf (Xp.mk k n v kids) = 1 + SizeOf.sizeOf k + SizeOf.sizeOf n + SizeOf.sizeOf v + SizeOf.sizeOf kids := by simp
            show SizeOf.sizeOf kids < m
            omega
        rw [ih _ hk]
        cases l[i]; rfl
      · rw [List.getElem?_eq_none (by rw [exs_len, dE_len]; omega), List.getElem?_eq_none (by omega)]
  exact fun l => key _ l (Nat.lt_succ_self _)
theorem ex_of (e : Xp) : ex e.k e.n e.v (dE e.kids) = e := by unfold ex; rw [exs_dE]; cases e; rfl
end Go.Proofs.Ytbcbcambkjhhhaa.Sx.Z
namespace Go.Proofs.Ytbcbcambkjhhhaa
open Go.RowKit
def ERel (w : World) (m : Nat) (b0 b1 x0 x1 : Int) (vi : Value) (wr : World) : Prop := ∃ k : Nat, k ≤ 12 ∧ vi = .int .i64 k ∧ wr.heap[w.heap.size + 1]? = some (.cells #[.int .i64 b0, .int .i64 b1] 52 (0, 0)) ∧ wr.heap[w.heap.size + 2]? = some (.cells #[.int .i64 x0, .int .i64 x1] 52 (0, 0)) ∧ (∀ i, i < 12 → ∃ n : Int, wr.cell? ⟨m, i, none⟩ = some (.int .i64 n)) ∧ m < wr.heap.size ∧ Below w.heap.size w wr
end Go.Proofs.Ytbcbcambkjhhhaa
