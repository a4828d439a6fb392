/-
  The types at hand.; Contracts of functions that call themselves.; Trees of expressions: out of data, and back.; The zone's small calls: what they tell.; eval.Linear.; The laws' Tame, and their copy of a tree.; The reference's Linear; trees that Tame tells.; Itvs joined, widened: the program's, and the reference's.
-/
import Derived.Test.YtdagadcflignfaaProg
import Derived.Test.YtdagadcflignfaaB14
import Derived.Test.YtdagadcflignfaaB13
import Derived.IntWalk
import Derived.Laws.Bits64
namespace Go.Proofs.Ytdagadcflignfaa.Sx.Z
def tt : TT := [(2, ⟨.int .i64, 1, none, [.c (.int .i64 (.lit 0))], none, none, 8⟩),
  (3, ⟨.int .i64, 1, none, [.c (.int .i64 (.lit 0))], none, some ([.int .i64]), 8⟩),
  (4, ⟨.bool, 1, none, [.c (.bool (.lit false))], none, none, 1⟩),
  (5, ⟨.int .u8, 1, none, [.c (.int .u8 (.lit 0))], none, some ([.int .u8]), 1⟩),
  (9, ⟨.string, 1, none, [.c (.raw (.string ByteArray.empty))], none, none, 16⟩),
  (21, ⟨.int .i32, 1, none, [.c (.int .i32 (.lit 0))], none, some ([.int .i32]), 4⟩),
  (22, ⟨.int .u64, 1, none, [.c (.int .u64 (.lit 0))], none, none, 8⟩),
  (23, ⟨.slice 25, 1, none, [.c .nils], none, none, 24⟩),
  (25, ⟨.struct [(3, 0), (3, 1), (3, 2), (23, 3)], 4, some [.c, .c, .c, .c], [.c (.int .i64 (.lit 0)), .c (.int .i64 (.lit 0)), .c (.int .i64 (.lit 0)), .c .nils], none, some ([.int .i64, .int .i64, .int .i64, .slice 25]), 48⟩),
  (26, ⟨.slice 32, 1, none, [.c .nils], none, none, 24⟩),
  (29, ⟨.struct [(3, 0), (25, 1), (25, 5)], 9, some [.c, .c, .c, .c, .c, .c, .c, .c, .c], [.c (.int .i64 (.lit 0)), .c (.int .i64 (.lit 0)), .c (.int .i64 (.lit 0)), .c (.int .i64 (.lit 0)), .c .nils, .c (.int .i64 (.lit 0)), .c (.int .i64 (.lit 0)), .c (.int .i64 (.lit 0)), .c .nils], none, none, 104⟩),
  (30, ⟨.slice 206, 1, none, [.c .nils], none, none, 24⟩),
  (33, ⟨.slice 80, 1, none, [.c .nils], none, none, 24⟩),
  (34, ⟨.slice 49, 1, none, [.c .nils], none, none, 24⟩),
  (35, ⟨.slice 3, 1, none, [.c .nils], none, some ([.slice 3]), 24⟩),
  (43, ⟨.slice 42, 1, none, [.c .nils], none, none, 24⟩),
  (47, ⟨.slice 53, 1, none, [.c .nils], none, none, 24⟩),
  (54, ⟨.slice 35, 1, none, [.c .nils], none, none, 24⟩),
  (55, ⟨.slice 89, 1, none, [.c .nils], none, none, 24⟩),
  (62, ⟨.slice 64, 1, none, [.c .nils], none, none, 24⟩),
  (64, ⟨.struct [(3, 0), (3, 1), (3, 2), (62, 3)], 4, some [.c, .c, .c, .c], [.c (.int .i64 (.lit 0)), .c (.int .i64 (.lit 0)), .c (.int .i64 (.lit 0)), .c .nils], none, some ([.int .i64, .int .i64, .int .i64, .slice 64]), 48⟩),
  (65, ⟨.array 3 21, 3, some [.ints .i32 3], [.ints .i32 (.lit 3) (fun _ => 0)], some [(.i .i32, 3)], none, 12⟩),
  (75, ⟨.struct [(3, 0), (64, 1), (64, 5)], 9, some [.c, .c, .c, .c, .c, .c, .c, .c, .c], [.c (.int .i64 (.lit 0)), .c (.int .i64 (.lit 0)), .c (.int .i64 (.lit 0)), .c (.int .i64 (.lit 0)), .c .nils, .c (.int .i64 (.lit 0)), .c (.int .i64 (.lit 0)), .c (.int .i64 (.lit 0)), .c .nils], none, none, 104⟩),
  (78, ⟨.slice 21, 1, none, [.c .nils], none, none, 24⟩),
  (80, ⟨.struct [(3, 0), (3, 1), (3, 2), (3, 3), (3, 4), (54, 5)], 6, some [.c, .c, .c, .c, .c, .c], [.c (.int .i64 (.lit 0)), .c (.int .i64 (.lit 0)), .c (.int .i64 (.lit 0)), .c (.int .i64 (.lit 0)), .c (.int .i64 (.lit 0)), .c .nils], none, some ([.int .i64, .int .i64, .int .i64, .int .i64, .int .i64, .slice 35]), 64⟩),
  (82, ⟨.struct [(3, 0), (3, 1)], 2, some [.c, .c], [.c (.int .i64 (.lit 0)), .c (.int .i64 (.lit 0))], some [(.i .i64, 1), (.i .i64, 1)], some ([.int .i64, .int .i64]), 16⟩),
  (83, ⟨.slice 82, 1, none, [.c .nils], none, none, 24⟩),
  (85, ⟨.struct [(82, 0), (83, 2)], 3, some [.c, .c, .c], [.c (.int .i64 (.lit 0)), .c (.int .i64 (.lit 0)), .c .nils], none, none, 40⟩),
  (87, ⟨.int .u8, 1, none, [.c (.int .u8 (.lit 0))], none, none, 1⟩),
  (89, ⟨.slice 95, 1, none, [.c .nils], none, some ([.slice 95]), 24⟩),
  (95, ⟨.struct [(3, 0), (3, 1)], 2, some [.c, .c], [.c (.int .i64 (.lit 0)), .c (.int .i64 (.lit 0))], some [(.i .i64, 1), (.i .i64, 1)], some ([.int .i64, .int .i64]), 16⟩),
  (116, ⟨.slice 163, 1, none, [.c .nils], none, none, 24⟩),
  (122, ⟨.array 2 3, 2, some [.ints .i64 2], [.ints .i64 (.lit 2) (fun _ => 0)], some [(.i .i64, 2)], none, 16⟩),
  (123, ⟨.slice 57, 1, none, [.c .nils], none, none, 24⟩),
  (130, ⟨.slice 129, 1, none, [.c .nils], none, none, 24⟩),
  (146, ⟨.slice 150, 1, none, [.c .nils], none, none, 24⟩),
  (163, ⟨.slice 164, 1, none, [.c .nils], none, some ([.slice 164]), 24⟩),
  (164, ⟨.struct [(3, 0), (3, 1)], 2, some [.c, .c], [.c (.int .i64 (.lit 0)), .c (.int .i64 (.lit 0))], some [(.i .i64, 1), (.i .i64, 1)], some ([.int .i64, .int .i64]), 16⟩),
  (184, ⟨.slice 47, 1, none, [.c .nils], none, none, 24⟩),
  (194, ⟨.int .u32, 1, none, [.c (.int .u32 (.lit 0))], none, none, 4⟩),
  (225, ⟨.slice 5, 1, none, [.c .nils], none, none, 24⟩)]
theorem tt_ok : TTOK Try.prog tt := ttAll_ok ⟨by kernel_rfl, trivial, by kernel_rfl, ⟨by kernel_rfl, by kernel_rfl, by kernel_rfl⟩, by kernel_rfl, trivial, by kernel_rfl, ⟨by kernel_rfl, by kernel_rfl, by kernel_rfl⟩, by kernel_rfl, trivial, by kernel_rfl, ⟨by kernel_rfl, by kernel_rfl, by kernel_rfl⟩, by kernel_rfl, trivial, by kernel_rfl, trivial, by kernel_rfl, ⟨by kernel_rfl, by kernel_rfl, by kernel_rfl⟩, by kernel_rfl, trivial, by kernel_rfl, trivial, by kernel_rfl, trivial, by kernel_rfl, trivial, by kernel_rfl, trivial, by kernel_rfl, ⟨by kernel_rfl, by kernel_rfl, by kernel_rfl⟩, by kernel_rfl, trivial, by kernel_rfl, trivial, by kernel_rfl, trivial, by kernel_rfl, trivial, by kernel_rfl, trivial, by kernel_rfl, ⟨by kernel_rfl, by kernel_rfl, by kernel_rfl⟩, by kernel_rfl, trivial, by kernel_rfl, trivial, by kernel_rfl, trivial, by kernel_rfl, ⟨by kernel_rfl, by kernel_rfl, by kernel_rfl⟩, by kernel_rfl, ⟨by kernel_rfl, by kernel_rfl, by kernel_rfl⟩, by kernel_rfl, trivial, by kernel_rfl, trivial, by kernel_rfl, trivial, by kernel_rfl, ⟨by kernel_rfl, by kernel_rfl, by kernel_rfl⟩, by kernel_rfl, ⟨by kernel_rfl, by kernel_rfl, by kernel_rfl⟩, by kernel_rfl, trivial, by kernel_rfl, trivial, by kernel_rfl, trivial, by kernel_rfl, trivial, by kernel_rfl, trivial, by kernel_rfl, ⟨by kernel_rfl, by kernel_rfl, by kernel_rfl⟩, by kernel_rfl, ⟨by kernel_rfl, by kernel_rfl, by kernel_rfl⟩, by kernel_rfl, trivial, by kernel_rfl, trivial, by kernel_rfl, trivial, trivial⟩
theorem kall : kAll tt = true := by kernel_rfl
theorem mixed : Try.prog.follows .mixedOrders = true := by kernel_rfl
end Go.Proofs.Ytdagadcflignfaa.Sx.Z
namespace Go.Proofs.Ytdagadcflignfaa.Sx
open Go.RowKit
/-- The contract, for what lies under a measure. -/
def FSpec.under (spec : FSpec) (μ : List Dat → Nat) (m : Nat) : FSpec := fun ds fr => match spec ds fr with
  | some e => some { e with vc := (μ ds < m) :: e.vc }
  | none => none
/-- A function that calls itself keeps its contract, if it keeps it for what lies under m + 1 as far as it keeps it for what lies under m. -/
theorem con_rec {P : Program} {f : FuncId} {aps : List AP} {spec : FSpec} (μ : List Dat → Nat) (hen : ∀ (args : Array Value) (w : World), (callFunc f args).run P w = .ok (.enter f args) w) (H : ∀ m, ConOK P f (con aps (spec.under μ m)) → ConOK P f (con aps (spec.under μ (m + 1)))) : ConOK P f (con aps spec) := by
  have all : ∀ m, ConOK P f (con aps (spec.under μ m)) := fun m => by
    induction m with
    | zero =>
      refine ⟨hen, fun hp fr args e he hv => ?_⟩
      exfalso
      unfold con at he
      split at he
      · rename_i ds ps hfl
        split at he
        · rename_i e' hs
          unfold FSpec.under at hs
          split at hs
          · rename_i e2 h2
            simp only [Option.some.injEq] at hs he
            subst hs
            subst he
            exact Nat.not_lt_zero _ (all_append.1 hv).2.1
          · cases hs
        · cases he
      · cases he
    | succ m ih => exact H m ih
  refine ⟨hen, fun hp fr args e he hv => ?_⟩
  have he0 := he
  unfold con at he
  split at he
  · rename_i ds ps hfl
    split at he
    · rename_i e' hs
      simp only [Option.some.injEq] at he
      subst he
      have hu : con aps (spec.under μ (μ ds + 1)) hp fr args = some { e' with vc := ps ++ (μ ds < μ ds + 1) :: e'.vc, st := if plainE e' then [] else kills (keepOwn hp (idsL args)) } := by
        unfold con
        rw [hfl]
        show (match spec.under μ (μ ds + 1) ds fr with | some e => some { e with vc := ps ++ e.vc, st := if plainE e then [] else kills (keepOwn hp (idsL args)) } | none => none) = _
        unfold FSpec.under
        rw [hs]
        rfl
      intro w0 w ρ vs hw hn ha
      have ha2 := all_append.1 hv
      exact ((all (μ ds + 1)).calls hp fr args _ hu (all_append.2 ⟨ha2.1, Nat.lt_succ_self _, ha2.2⟩) w0 w ρ vs hw hn ha).mono fun en w' h => by
        obtain ⟨ρ', v, h1, h2, h3⟩ := h
        exact ⟨ρ', v, h1, h2, ⟨h3.ext, h3.only, h3.below, h3.keep, h3.st, h3.nw, h3.apart, h3.fz⟩⟩
    · cases he
  · cases he
end Go.Proofs.Ytdagadcflignfaa.Sx
namespace Go.Proofs.Ytdagadcflignfaa.Sx.Z
open Go.RowKit
/-- An expression: its kind, its number, its variable, its parts. -/
inductive Xp | mk (k n v : Int) (kids : List Xp)
def Xp.k : Xp → Int | mk k _ _ _ => k
def Xp.n : Xp → Int | mk _ n _ _ => n
def Xp.v : Xp → Int | mk _ _ v _ => v
def Xp.kids : Xp → List Xp | mk _ _ _ l => l
theorem el_lt {d : D} {i j : Nat} (h : i < d.len) : SizeOf.sizeOf (d.el i j) < SizeOf.sizeOf d := by
  cases d with
  | l rows =>
    have h' : i < rows.length := h
    have e : (D.l rows).el i j = (rows[i]).getD j (.i 0) := by
      show (rows.getD i []).getD j (.i 0) = _
      rw [List.getD_eq_getElem?_getD (l := rows), List.getElem?_eq_getElem h', Option.getD_some]
    rw [e, List.getD_eq_getElem?_getD]
    have h1 := List.sizeOf_lt_of_mem (List.getElem_mem h')
    cases hj : (rows[i])[j]? with
    | none =>
      rw [Option.getD_none]
      have : SizeOf.sizeOf (D.i 0) = 1 + SizeOf.sizeOf (0 : Int) := rfl
      have e2 : SizeOf.sizeOf (0 : Int) = 1 := rfl
      have : SizeOf.sizeOf (D.l rows) = 1 + SizeOf.sizeOf rows := by simp
      have h2 : 1 ≤ SizeOf.sizeOf (rows[i]) := by cases rows[i] <;> simp <;> omega
      omega
    | some x =>
      rw [Option.getD_some]
      have h2 := List.sizeOf_lt_of_mem (List.mem_of_getElem? hj)
      have : SizeOf.sizeOf (D.l rows) = 1 + SizeOf.sizeOf rows := by simp
      omega
  | i n => exact absurd h (Nat.not_lt_zero i)
  | b n => exact absurd h (Nat.not_lt_zero i)
  | s n => exact absurd h (Nat.not_lt_zero i)
def exs (d : D) : List Xp := (List.finRange d.len).map fun (i : Fin d.len) => Xp.mk (d.el i 0).toI (d.el i 1).toI (d.el i 2).toI (exs (d.el i 3))
  termination_by SizeOf.sizeOf d
  decreasing_by exact el_lt i.isLt
def ex (k n v : Int) (d : D) : Xp := .mk k n v (exs d)
theorem exs_len (d : D) : (exs d).length = d.len := by rw [exs]; simp
theorem exs_get {d : D} {i : Nat} (h : i < d.len) : (exs d)[i]? = some (ex (d.el i 0).toI (d.el i 1).toI (d.el i 2).toI (d.el i 3)) := by
  rw [exs, List.getElem?_map, List.getElem?_eq_getElem (by simpa using h)]
  simp [ex]
def exE (d : D) (i : Nat) : Xp := ex (d.el i 0).toI (d.el i 1).toI (d.el i 2).toI (d.el i 3)
theorem exs_one {d : D} (h : d.len = 1) : exs d = [exE d 0] := by
  have l := exs_len d
  have g := exs_get (d := d) (i := 0) (by omega)
  match he : exs d with
  | [] => rw [he, h] at l; cases l
  | [a] => rw [he] at g; simp at g; rw [g]; rfl
  | a :: b :: r => rw [he, h] at l; simp at l
theorem exs_two {d : D} (h : d.len = 2) : exs d = [exE d 0, exE d 1] := by
  have l := exs_len d
  have g := exs_get (d := d) (i := 0) (by omega)
  have g1 := exs_get (d := d) (i := 1) (by omega)
  match he : exs d with
  | [] => rw [he, h] at l; cases l
  | [a] => rw [he, h] at l; simp at l
  | [a, b] => rw [he] at g g1; simp at g g1; rw [g, g1]; rfl
  | a :: b :: c :: r => rw [he, h] at l; simp at l
theorem exs_ne2 {d : D} (h : d.len ≠ 2) (a b : Xp) : exs d ≠ [a, b] := fun e => h (by rw [← exs_len, e]; rfl)
theorem exs_ne1 {d : D} (h : d.len ≠ 1) (a : Xp) : exs d ≠ [a] := fun e => h (by rw [← exs_len, e]; rfl)
/-- The data of an expression's parts. -/
def encE : Xp → List D | .mk k n v kids => [.i k, .i n, .i v, .l (kids.map encE)]
def dE (l : List Xp) : D := .l (l.map encE)
theorem dE_len (l : List Xp) : (dE l).len = l.length := by show (l.map encE).length = _; simp
theorem dE_el {l : List Xp} {i : Nat} {e : Xp} (h : l[i]? = some e) : (dE l).el i 0 = .i e.k ∧ (dE l).el i 1 = .i e.n ∧ (dE l).el i 2 = .i e.v ∧ (dE l).el i 3 = dE e.kids := by
  have : (dE l).rows.getD i [] = encE e := by
    show (l.map encE).getD i [] = _
    rw [List.getD_eq_getElem?_getD, List.getElem?_map, h]; rfl
  unfold D.el
  rw [this]
  cases e with
  | mk k n v kids => simp [encE, Xp.k, Xp.n, Xp.v, Xp.kids, dE]
theorem dE_rows (l : List Xp) : (dE l).rows = l.map encE := rfl
theorem encE_eq (e : Xp) : encE e = [.i e.k, .i e.n, .i e.v, dE e.kids] := by cases e; simp [encE, Xp.k, Xp.n, Xp.v, Xp.kids, dE]
theorem exs_dE : ∀ l : List Xp, exs (dE l) = l := by
  have key : ∀ m (l : List Xp), SizeOf.sizeOf l < m → exs (dE l) = l := fun m => by
    induction m with
    | zero => intro l h; omega
    | succ m ih =>
      intro l h
      apply List.ext_getElem?
      intro i
      by_cases hi : i < l.length
      · rw [exs_get (by rw [dE_len]; exact hi), List.getElem?_eq_getElem hi]
        obtain ⟨h0, h1, h2, h3⟩ := dE_el (List.getElem?_eq_getElem hi)
        rw [h0, h1, h2, h3]
        unfold ex
        have hs := List.sizeOf_lt_of_mem (List.getElem_mem hi)
        have hk : SizeOf.sizeOf (l[i]).kids < m := by
          cases he : l[i] with
          | mk k n v kids =>
            rw [he] at hs
            have : SizeOf.sizeOf (Xp.mk k n v kids) = 1 + SizeOf.sizeOf k + SizeOf.sizeOf n + SizeOf.sizeOf v + SizeOf.sizeOf kids := by simp
            show SizeOf.sizeOf kids < m
            omega
        rw [ih _ hk]
        cases l[i]; rfl
      · rw [List.getElem?_eq_none (by rw [exs_len, dE_len]; omega), List.getElem?_eq_none (by omega)]
  exact fun l => key _ l (Nat.lt_succ_self _)
theorem exE_dE {l : List Xp} {i : Nat} {e : Xp} (h : l[i]? = some e) : exE (dE l) i = e := by
  obtain ⟨h0, h1, h2, h3⟩ := dE_el h
  unfold exE ex
  rw [h0, h1, h2, h3, exs_dE]
  cases e; rfl
theorem ex_of (e : Xp) : ex e.k e.n e.v (dE e.kids) = e := by unfold ex; rw [exs_dE]; cases e; rfl
end Go.Proofs.Ytdagadcflignfaa.Sx.Z
namespace Go.Proofs.Ytdagadcflignfaa.Sx.Z
open Go.RowKit
def zs (n : SI) (b : SB) (D : Nat → Int) : List Seg := [.c (.int .i64 n), .c (.bool b), .ints .i64 (.lit 49) D]
def i0 : Seg := .c (.int .i64 (.lit 0))
def zA : AP := .agg [.c (.int .i64), .c .bool, .ints .i64 49]
def iA : AP := .sc (.int .i64)
def itvA : AP := .agg [.c (.int .i64), .c (.int .i64)]
theorem wr (x : Int) (h : -9223372036854775808 ≤ x ∧ x ≤ 9223372036854775807) : IntKind.i64.wrap x = x := IntWalk.i64_in x h
/-- From one number to another one, as far as a variable may be. -/
def ofLo (a b : Int) : Int := if min b 2147483647 < max a (-2147483648) then 1 else max a (-2147483648)
def ofHi (a b : Int) : Int := if min b 2147483647 < max a (-2147483648) then 0 else min b 2147483647
/-- How many rows. -/
def rowsP (n : Int) : Int := 1 + min (max n 0) 6
theorem rowsP_le (n : Int) : 1 ≤ rowsP n ∧ rowsP n ≤ 7 := by unfold rowsP; omega
def isVarP (n x : Int) : Bool := decide (0 ≤ x) && decide (x < rowsP n - 1)
theorem isVarP_lt {n x : Int} (h : isVarP n x = true) : 0 ≤ x ∧ x < rowsP n - 1 ∧ x ≤ 5 := by
  have := rowsP_le n
  simp only [isVarP, Bool.and_eq_true, decide_eq_true_eq] at h
  omega
def Sm (f : Nat → Int) : Prop := ∀ o, o < 49 → -1099511627776 ≤ f o ∧ f o ≤ 1099511627776
def itvLo (n : Int) (c : Bool) (f : Nat → Int) (x : Int) : Int := if (c || !isVarP n x) = true then 1 else ofLo (0 - f (x + 1).toNat) (f ((x + 1).toNat * 7))
def itvHi (n : Int) (c : Bool) (f : Nat → Int) (x : Int) : Int := if (c || !isVarP n x) = true then 0 else ofHi (0 - f (x + 1).toNat) (f ((x + 1).toNat * 7))
def isEndP (n x : Int) : Bool := (x == -1) || isVarP n x
def emptyS : FSpec := fun ds _ => match ds with
  | [.i a, .i b] => some { val := .one (.sc (.bool (.sym (decide (b < a))))), vc := [] }
  | _ => none
def emptyC : Con := con [itvA] emptyS
theorem empty_ok : ConOK Try.prog 51 emptyC := by
  refine fn_ob tt_ok mixed Try.func51 rfl (fun _ _ => by kernel_rfl) (A := fun ds => ⟨fun _ => Cons.of [], fun _ => none, fun _ => none⟩) (fun _ _ => cons_nil) (by kernel_rfl) ?_
  intro ds fr
  unfold emptyS
  split
  · rename_i a b
    refine kmp (q := decide (a > b) = decide (b < a)) (by kernel_rfl) ?_
    rfl
  · trivial
def inoneS : FSpec := fun ds _ => match ds with
  | [] => some { val := .one (.agg [.c (.int .i64 (.sym (1))), .c (.int .i64 (.sym (0)))]), vc := [] }
  | _ => none
def inoneC : Con := con [] inoneS
theorem inone_ok : ConOK Try.prog 48 inoneC := by
  refine fn_ob tt_ok mixed Try.func48 rfl (fun _ _ => by kernel_rfl) (A := fun ds => ⟨fun _ => Cons.of [], fun _ => none, fun _ => none⟩) (fun _ _ => cons_nil) (by kernel_rfl) ?_
  intro ds fr
  unfold inoneS
  split
  · skip
    refine kmp (q := (1 : Int) = (1 : Int) ∧ (0 : Int) = (0 : Int)) (by kernel_rfl) ?_
    exact ⟨rfl, rfl⟩
  · trivial
def iallS : FSpec := fun ds _ => match ds with
  | [] => some { val := .one (.agg [.c (.int .i64 (.sym (-2147483648))), .c (.int .i64 (.sym (2147483647)))]), vc := [] }
  | _ => none
def iallC : Con := con [] iallS
def iofS : FSpec := fun ds _ => match ds with
  | [.i a, .i b] => some { val := .one (.agg [.c (.int .i64 (.sym (ofLo a b))), .c (.int .i64 (.sym (ofHi a b)))]), vc := [] }
  | _ => none
def iofC : Con := con [iA, iA] iofS
theorem iof_ok : ConOK Try.prog 53 iofC := by
  refine fn_ob tt_ok mixed Try.func53 rfl (fun _ _ => by kernel_rfl) (A := fun ds => ⟨fun _ => Cons.of [(51, emptyC), (48, inoneC)], fun _ => none, fun _ => none⟩) (fun _ _ => (cons_cons empty_ok (cons_cons inone_ok cons_nil))) (by kernel_rfl) ?_
  intro ds fr
  unfold iofS
  split
  · rename_i a b
    refine kmp (q := (decide ((if (2147483647 : Int) < b then (2147483647 : Int) else b) < if (-2147483648 : Int) > a then (-2147483648 : Int) else a) = true →
 (1 : Int) = ofLo a b ∧ (0 : Int) = ofHi a b) ∧
 (decide ((if (2147483647 : Int) < b then (2147483647 : Int) else b) < if (-2147483648 : Int) > a then (-2147483648 : Int) else a) = false →
 (if (-2147483648 : Int) > a then (-2147483648 : Int) else a) = ofLo a b ∧ (if (2147483647 : Int) < b then (2147483647 : Int) else b) = ofHi a b)) (by kernel_rfl) ?_
    unfold ofLo ofHi
    refine ⟨fun h => ?_, fun h => ?_⟩
    · have h := of_decide_eq_true h
      (repeat' split at h) <;> (repeat' split) <;> omega
    · have h := of_decide_eq_false h
      (repeat' split at h) <;> (repeat' split) <;> omega
  · trivial
def iconstS : FSpec := fun ds _ => match ds with
  | [.i a] => some { val := .one (.agg [.c (.int .i64 (.sym (ofLo a a))), .c (.int .i64 (.sym (ofHi a a)))]), vc := [] }
  | _ => none
def iconstC : Con := con [iA] iconstS
theorem iconst_ok : ConOK Try.prog 25 iconstC := by
  refine fn_ob tt_ok mixed Try.func25 rfl (fun _ _ => by kernel_rfl) (A := fun ds => ⟨fun _ => Cons.of [(53, iofC)], fun _ => none, fun _ => none⟩) (fun _ _ => (cons_cons iof_ok cons_nil)) (by kernel_rfl) ?_
  intro ds fr
  unfold iconstS
  split
  · rename_i a
    refine kmp (q := ofLo a a = ofLo a a ∧ ofHi a a = ofHi a a) (by kernel_rfl) ?_
    exact ⟨rfl, rfl⟩
  · trivial
def ihasS : FSpec := fun ds _ => match ds with
  | [.i a, .i b, .i n] => some { val := .one (.sc (.bool (.sym (decide (a ≤ n) && decide (n ≤ b))))), vc := [] }
  | _ => none
def ihasC : Con := con [itvA, iA] ihasS
theorem ihas_ok : ConOK Try.prog 59 ihasC := by
  refine fn_ob tt_ok mixed Try.func59 rfl (fun _ _ => by kernel_rfl) (A := fun ds => ⟨fun _ => Cons.of [], fun _ => none, fun _ => none⟩) (fun _ _ => cons_nil) (by kernel_rfl) ?_
  intro ds fr
  unfold ihasS
  split
  · rename_i a b n
    refine kmp (q := (decide (a ≤ n) && decide (n ≤ b)) = (decide (a ≤ n) && decide (n ≤ b))) (by kernel_rfl) ?_
    rfl
  · trivial
def rowsS : FSpec := fun ds _ => match ds with
  | [.i n, .b _, .f _] => some { val := .one (.sc (.int .i64 (.sym (rowsP n)))), vc := [] }
  | _ => none
def rowsC : Con := con [zA] rowsS
def isVarS : FSpec := fun ds _ => match ds with
  | [.i n, .b _, .f _, .i x] => some { val := .one (.sc (.bool (.sym (isVarP n x)))), vc := [] }
  | _ => none
def isVarC : Con := con [zA, iA] isVarS
def isEndS : FSpec := fun ds _ => match ds with
  | [.i n, .b _, .f _, .i x] => some { val := .one (.sc (.bool (.sym (isEndP n x)))), vc := [] }
  | _ => none
def isEndC : Con := con [zA, iA] isEndS
def zerosS : FSpec := fun ds _ => match ds with
  | [.i n] => some { val := .one (.agg [.c (.int .i64 (.sym (min (max n 0) 6))), .c (.bool (.sym (false))), .ints .i64 (.lit 49) (fun _ => 0)]), vc := [] }
  | _ => none
def zerosC : Con := con [iA] zerosS
def zitvS : FSpec := fun ds _ => match ds with
  | [.i n, .b c, .f f, .i x] => some { val := .one (.agg [.c (.int .i64 (.sym (itvLo n c f x))), .c (.int .i64 (.sym (itvHi n c f x)))]), vc := [Sm f] }
  | _ => none
def zitvC : Con := con [zA, iA] zitvS
def zfromS : FSpec := fun ds _ => match ds with
  | [.i n, .b c, .f f] => some { val := .one (.agg [.c (.int .i64 (.sym (n))), .c (.bool (.sym (c))), .ints .i64 (.lit 49) (f)]), vc := [] }
  | _ => none
def zfromC : Con := con [zA] zfromS
end Go.Proofs.Ytdagadcflignfaa.Sx.Z
namespace Go.Proofs.Ytdagadcflignfaa.Sx.Z
open Go.RowKit
def xpA : AP := .agg [.c (.int .i64), .c (.int .i64), .c (.int .i64), .c (.rows 25)]
def amtP (x b : Int) : Option (Int × Int) := if b < -1099511627776 ∨ b > 1099511627776 then none else some (x, b)
def combP (k : Int) (l r : Option (Int × Int)) : Option (Int × Int) := match l, r with
  | some (x, m), some (y, b) => if k = 5 ∧ y = -1 then amtP x (IntKind.i64.wrap (m - b)) else if k = 4 ∧ y = -1 then amtP x (IntKind.i64.wrap (m + b)) else if k = 4 ∧ x = -1 then amtP y (IntKind.i64.wrap (m + b)) else none
  | _, _ => none
def linP : Xp → Option (Int × Int)
  | .mk k n v kids => if k = 1 then amtP (-1) n else if k = 2 then some (v, 0) else if k = 4 ∨ k = 5 then (match kids with | [a, b] => combP k (linP a) (linP b) | _ => none) else none
theorem lin_eq (k n v : Int) (d : D) : linP (ex k n v d) = if k = 1 then amtP (-1) n else if k = 2 then some (v, 0) else if (k = 4 ∨ k = 5) ∧ d.len = 2 then combP k (linP (exE d 0)) (linP (exE d 1)) else none := by
  show linP (.mk k n v (exs d)) = _
  by_cases h2 : d.len = 2
  · rw [exs_two h2, linP]; simp [h2]
  · rw [linP.eq_2 _ _ _ _ (fun a b => exs_ne2 h2 a b)]; simp [h2]
def oX (o : Option (Int × Int)) : Int := match o with | some p => p.1 | none => 0
def oY (o : Option (Int × Int)) : Int := match o with | some p => p.2 | none => 0
def oB (o : Option (Int × Int)) : Bool := o.isSome
theorem oX_some (p : Int × Int) : oX (some p) = p.1 := rfl
theorem oY_some (p : Int × Int) : oY (some p) = p.2 := rfl
theorem oB_some (p : Int × Int) : oB (some p) = true := rfl
theorem oX_none : oX none = 0 := rfl
theorem oY_none : oY none = 0 := rfl
theorem oB_none : oB none = false := rfl
theorem comb_some (k x m y b : Int) : combP k (some (x, m)) (some (y, b)) = if k = 5 ∧ y = -1 then amtP x (IntKind.i64.wrap (m - b)) else if k = 4 ∧ y = -1 then amtP x (IntKind.i64.wrap (m + b)) else if k = 4 ∧ x = -1 then amtP y (IntKind.i64.wrap (m + b)) else none := rfl
theorem comb_l (k : Int) (r : Option (Int × Int)) : combP k none r = none := rfl
theorem comb_r (k : Int) (l : Option (Int × Int)) : combP k l none = none := by cases l <;> rfl
noncomputable def amountS : FSpec := fun ds _ => match ds with
  | [.i x, .i b] => some { val := .tup [.sc (.int .i64 (.sym (oX (amtP x b)))), .sc (.int .i64 (.sym (oY (amtP x b)))), .sc (.bool (.sym (oB (amtP x b))))], vc := [] }
  | _ => none
noncomputable def amountC : Con := con [iA, iA] amountS
noncomputable def linS : FSpec := fun ds _ => match ds with
  | [.i k, .i n, .i v, .d d] => some { val := .tup [.sc (.int .i64 (.sym (oX (linP (ex k n v d))))), .sc (.int .i64 (.sym (oY (linP (ex k n v d))))), .sc (.bool (.sym (oB (linP (ex k n v d)))))], vc := [] }
  | _ => none
noncomputable def linC : Con := con [xpA] linS
noncomputable def linM : List Dat → Nat := fun ds => match ds with
  | [.i k, .i n, .i v, .d d] => SizeOf.sizeOf d
  | _ => 0
noncomputable def linSu (m : Nat) : FSpec := fun ds _ => match ds with
  | [.i k, .i n, .i v, .d d] => some { val := .tup [.sc (.int .i64 (.sym (oX (linP (ex k n v d))))), .sc (.int .i64 (.sym (oY (linP (ex k n v d))))), .sc (.bool (.sym (oB (linP (ex k n v d)))))], vc := [SizeOf.sizeOf d < m] }
  | _ => none
theorem lin_under (m : Nat) : linS.under linM m = linSu m := by
  funext ds fr
  unfold FSpec.under linS linM linSu
  split
  · rename_i e h
    split at h
    · obtain rfl := Option.some.inj h; rfl
    · cases h
  · rename_i h
    split at h
    · cases h
    · rfl
noncomputable def combinedS (m : Nat) : FSpec := fun ds _ => match ds with
  | [.i c, .i k, .i n, .i v, .d d, .i k2, .i n2, .i v2, .d d2] => some { val := .tup [.sc (.int .i64 (.sym (oX (combP c (linP (ex k n v d)) (linP (ex k2 n2 v2 d2)))))), .sc (.int .i64 (.sym (oY (combP c (linP (ex k n v d)) (linP (ex k2 n2 v2 d2)))))), .sc (.bool (.sym (oB (combP c (linP (ex k n v d)) (linP (ex k2 n2 v2 d2))))))], vc := [SizeOf.sizeOf d < m, SizeOf.sizeOf d2 < m] }
  | _ => none
noncomputable def combinedC (m : Nat) : Con := con [iA, xpA, xpA] (combinedS m)
end Go.Proofs.Ytdagadcflignfaa.Sx.Z
namespace Go.Proofs.Ytdagadcflignfaa.Sx.Z
open Go.RowKit
def rxpA : AP := .agg [.c (.int .i64), .c (.int .i64), .c (.int .i64), .c (.rows 64)]
def kid (e : Xp) (i : Nat) : Xp := e.kids.getD i (.mk 0 0 0 [])
theorem kid_ex {k n v : Int} {d : D} {i : Nat} (h : i < d.len) : kid (ex k n v d) i = exE d i := by
  show (exs d).getD i _ = _
  rw [List.getD_eq_getElem?_getD, exs_get h]; rfl
theorem kids_len (k n v : Int) (d : D) : (ex k n v d).kids.length = d.len := exs_len d
/-- No expression has too many parts. -/
inductive Small : Xp → Prop
  | mk (k n v : Int) (kids : List Xp) : kids.length ≤ 1000000 → (∀ x, x ∈ kids → Small x) → Small (.mk k n v kids)
theorem small_ex {k n v : Int} {d : D} (h : Small (ex k n v d)) : d.len ≤ 1000000 ∧ ∀ i, i < d.len → Small (exE d i) := by
  cases h with
  | mk _ _ _ _ h1 h2 =>
    rw [exs_len] at h1
    exact ⟨h1, fun i hi => h2 _ (List.mem_of_getElem? (exs_get hi))⟩
def modU (a b : Int) : Int := IntKind.i64.wrap ((IntKind.u64.wrap a).tmod (IntKind.u64.wrap b))
def leafT (w : Int) (e : Xp) : Xp := if e.k = 2 then .mk 2 0 (modU e.v w) [] else .mk 1 (modU e.n 2147483648) 0 []
def tamP (w : Int) : Nat → Xp → Xp
  | 0, e => leafT w e
  | m + 1, e => if (4 ≤ e.k ∧ e.k ≤ 8) ∧ e.kids.length = 2 then .mk e.k 0 0 [tamP w m (kid e 0), tamP w m (kid e 1)] else if e.k = 3 ∧ e.kids.length = 1 then .mk 3 0 0 [tamP w m (kid e 0)] else leafT w e
theorem tam_eq (w : Int) (m : Nat) (k n v : Int) (d : D) : tamP w m (ex k n v d) = if (4 ≤ k ∧ k ≤ 8) ∧ d.len = 2 ∧ 0 < m then .mk k 0 0 [tamP w (m - 1) (exE d 0), tamP w (m - 1) (exE d 1)] else if k = 3 ∧ d.len = 1 ∧ 0 < m then .mk 3 0 0 [tamP w (m - 1) (exE d 0)] else if k = 2 then .mk 2 0 (modU v w) [] else .mk 1 (modU n 2147483648) 0 [] := by
  have ek : (ex k n v d).k = k := rfl
  have en : (ex k n v d).n = n := rfl
  have ev : (ex k n v d).v = v := rfl
  cases m with
  | zero => simp [tamP, leafT, ek, en, ev]
  | succ m =>
    simp only [tamP, leafT, ek, en, ev, kids_len, Nat.succ_sub_one, Nat.zero_lt_succ, and_true]
    by_cases h : (4 ≤ k ∧ k ≤ 8) ∧ d.len = 2
    · rw [if_pos h, if_pos h, kid_ex (by omega), kid_ex (by omega)]
    · rw [if_neg h, if_neg h]
      by_cases h1 : k = 3 ∧ d.len = 1
      · rw [if_pos h1, if_pos h1, kid_ex (by omega)]
      · rw [if_neg h1, if_neg h1]
noncomputable def tameS : FSpec := fun ds _ => match ds with
  | [.i k, .i n, .i v, .d d, .i q, .i w] => some { val := .one (.agg [.c (.int .i64 (.sym (tamP w q.toNat (ex k n v d) : Xp).k)), .c (.int .i64 (.sym (tamP w q.toNat (ex k n v d) : Xp).n)), .c (.int .i64 (.sym (tamP w q.toNat (ex k n v d) : Xp).v)), .c (.rows 64 (dE (tamP w q.toNat (ex k n v d) : Xp).kids))]), vc := [0 ≤ q ∧ q ≤ 100, 1 ≤ w ∧ w ≤ 6] }
  | _ => none
noncomputable def tameC : Con := con [rxpA, iA, iA] tameS
noncomputable def tameM : List Dat → Nat := fun ds => match ds with
  | [.i k, .i n, .i v, .d d, .i q, .i w] => q.toNat
  | _ => 0
noncomputable def tameSu (m : Nat) : FSpec := fun ds _ => match ds with
  | [.i k, .i n, .i v, .d d, .i q, .i w] => some { val := .one (.agg [.c (.int .i64 (.sym (tamP w q.toNat (ex k n v d) : Xp).k)), .c (.int .i64 (.sym (tamP w q.toNat (ex k n v d) : Xp).n)), .c (.int .i64 (.sym (tamP w q.toNat (ex k n v d) : Xp).v)), .c (.rows 64 (dE (tamP w q.toNat (ex k n v d) : Xp).kids))]), vc := [q.toNat < m, 0 ≤ q ∧ q ≤ 100, 1 ≤ w ∧ w ≤ 6] }
  | _ => none
theorem tame_under (m : Nat) : tameS.under tameM m = tameSu m := by
  funext ds fr
  unfold FSpec.under tameS tameM tameSu
  split
  · rename_i e h
    split at h
    · obtain rfl := Option.some.inj h; rfl
    · cases h
  · rename_i h
    split at h
    · cases h
    · rfl
noncomputable def copyXS : FSpec := fun ds _ => match ds with
  | [.i k, .i n, .i v, .d d] => some { val := .one (.agg [.c (.int .i64 (.sym (ex k n v d : Xp).k)), .c (.int .i64 (.sym (ex k n v d : Xp).n)), .c (.int .i64 (.sym (ex k n v d : Xp).v)), .c (.rows 25 (dE (ex k n v d : Xp).kids))]), vc := [Small (ex k n v d)] }
  | _ => none
noncomputable def copyXC : Con := con [rxpA] copyXS
noncomputable def copyXM : List Dat → Nat := fun ds => match ds with
  | [.i k, .i n, .i v, .d d] => SizeOf.sizeOf d
  | _ => 0
noncomputable def copyXSu (m : Nat) : FSpec := fun ds _ => match ds with
  | [.i k, .i n, .i v, .d d] => some { val := .one (.agg [.c (.int .i64 (.sym (ex k n v d : Xp).k)), .c (.int .i64 (.sym (ex k n v d : Xp).n)), .c (.int .i64 (.sym (ex k n v d : Xp).v)), .c (.rows 25 (dE (ex k n v d : Xp).kids))]), vc := [SizeOf.sizeOf d < m, Small (ex k n v d)] }
  | _ => none
theorem copyX_under (m : Nat) : copyXS.under copyXM m = copyXSu m := by
  funext ds fr
  unfold FSpec.under copyXS copyXM copyXSu
  split
  · rename_i e h
    split at h
    · obtain rfl := Option.some.inj h; rfl
    · cases h
  · rename_i h
    split at h
    · cases h
    · rfl
theorem copyX_step (m : Nat) (ih : ConOK Try.prog 16 (con [rxpA] (copyXSu m))) : ConOK Try.prog 16 (con [rxpA] (copyXSu (m + 1))) := by
  refine fn_ob tt_ok mixed Try.func16 rfl (fun _ _ => by kernel_rfl) (A := fun ds => ⟨fun _ => Cons.of [(16, con [rxpA] (copyXSu m))], fun k => match k, ds with | 3, [.i k, .i n, .i v, .d d] => some { ι := Nat, pre := fun _ i => i ≤ d.len, μ := fun i => d.len + 1 - i, st := fun s i => famR s [(4, .one (.sc (.int .i64 (.sym ((i : Nat))))))] [1, 2, 3] [(idOf s 3, .own 25 ([.c (.int .i64 (.sym k)), .c (.int .i64 (.sym n)), .c (.int .i64 (.sym v)), .c (.osl 25 (s.nx - 1) (.lit 0) (.sym i))])), (s.nx - 1, .orow 25 (dE ((exs d).take i)))] [1, 2] } | _, _ => none, fun _ => none⟩) (fun _ _ => (cons_cons ih cons_nil)) (by kernel_rfl) ?_
  intro ds fr
  unfold copyXSu
  split
  · rename_i k n v d
    refine kmp (q := SizeOf.sizeOf d < m + (1 : Nat) →
 Small (ex k n v d) →
 (∃ (i : Nat),
 i.le d.len ∧
 (0 : Int) = (↑i : Int) ∧
 k = k ∧
 n = n ∧
 v = v ∧
 i = (0 : Nat) ∧
 List.map encE (List.take i (exs d)) = [] ∧
 k = k ∧ n = n ∧ v = v ∧ d.rows = d.rows ∧ (0 : Int) = (0 : Int) ∧ (0 : Int) = (0 : Int) ∧ (0 : Int) = (0 : Int)) ∧
 ∀ (i : Nat),
 i.le d.len →
 (decide ((↑i : Int) < (↑d.len : Int)) = true →
 ((0 : Int) ≤ (↑i : Int) ∧ (↑i : Int) < (↑d.len : Int)) ∧
 SizeOf.sizeOf (d.el (↑i : Int).toNat ((0 : Nat) + (1 : Nat) + (1 : Nat) + (1 : Nat))) < m ∧
 Small
 (ex (d.el (↑i : Int).toNat (0 : Nat)).toI (d.el (↑i : Int).toNat ((0 : Nat) + (1 : Nat))).toI
 (d.el (↑i : Int).toNat ((0 : Nat) + (1 : Nat) + (1 : Nat))).toI
 (d.el (↑i : Int).toNat ((0 : Nat) + (1 : Nat) + (1 : Nat) + (1 : Nat)))) ∧
 i = (dE (List.take i (exs d))).len ∧
 (i +
 ((D.l
 [[D.i
 (ex (d.el (↑i : Int).toNat (0 : Nat)).toI (d.el (↑i : Int).toNat ((0 : Nat) + (1 : Nat))).toI
 (d.el (↑i : Int).toNat ((0 : Nat) + (1 : Nat) + (1 : Nat))).toI
 (d.el (↑i : Int).toNat ((0 : Nat) + (1 : Nat) + (1 : Nat) + (1 : Nat)))).k,
 D.i
 (ex (d.el (↑i : Int).toNat (0 : Nat)).toI (d.el (↑i : Int).toNat ((0 : Nat) + (1 : Nat))).toI
 (d.el (↑i : Int).toNat ((0 : Nat) + (1 : Nat) + (1 : Nat))).toI
 (d.el (↑i : Int).toNat ((0 : Nat) + (1 : Nat) + (1 : Nat) + (1 : Nat)))).n,
 D.i
 (ex (d.el (↑i : Int).toNat (0 : Nat)).toI (d.el (↑i : Int).toNat ((0 : Nat) + (1 : Nat))).toI
 (d.el (↑i : Int).toNat ((0 : Nat) + (1 : Nat) + (1 : Nat))).toI
 (d.el (↑i : Int).toNat ((0 : Nat) + (1 : Nat) + (1 : Nat) + (1 : Nat)))).v,
 dE
 (ex (d.el (↑i : Int).toNat (0 : Nat)).toI (d.el (↑i : Int).toNat ((0 : Nat) + (1 : Nat))).toI
 (d.el (↑i : Int).toNat ((0 : Nat) + (1 : Nat) + (1 : Nat))).toI
 (d.el (↑i : Int).toNat ((0 : Nat) + (1 : Nat) + (1 : Nat) + (1 : Nat)))).kids]]).sub
 (0 : Nat) ((0 : Nat) + (1 : Nat))).len) *
 (48 : Nat) ≤
 (140737488355328 : Nat) ∧
 (0 : Nat) + (1 : Nat) ≤
 (D.l
 [[D.i
 (ex (d.el (↑i : Int).toNat (0 : Nat)).toI (d.el (↑i : Int).toNat ((0 : Nat) + (1 : Nat))).toI
 (d.el (↑i : Int).toNat ((0 : Nat) + (1 : Nat) + (1 : Nat))).toI
 (d.el (↑i : Int).toNat ((0 : Nat) + (1 : Nat) + (1 : Nat) + (1 : Nat)))).k,
 D.i
 (ex (d.el (↑i : Int).toNat (0 : Nat)).toI (d.el (↑i : Int).toNat ((0 : Nat) + (1 : Nat))).toI
 (d.el (↑i : Int).toNat ((0 : Nat) + (1 : Nat) + (1 : Nat))).toI
 (d.el (↑i : Int).toNat ((0 : Nat) + (1 : Nat) + (1 : Nat) + (1 : Nat)))).n,
 D.i
 (ex (d.el (↑i : Int).toNat (0 : Nat)).toI (d.el (↑i : Int).toNat ((0 : Nat) + (1 : Nat))).toI
 (d.el (↑i : Int).toNat ((0 : Nat) + (1 : Nat) + (1 : Nat))).toI
 (d.el (↑i : Int).toNat ((0 : Nat) + (1 : Nat) + (1 : Nat) + (1 : Nat)))).v,
 dE
 (ex (d.el (↑i : Int).toNat (0 : Nat)).toI (d.el (↑i : Int).toNat ((0 : Nat) + (1 : Nat))).toI
 (d.el (↑i : Int).toNat ((0 : Nat) + (1 : Nat) + (1 : Nat))).toI
 (d.el (↑i : Int).toNat ((0 : Nat) + (1 : Nat) + (1 : Nat) + (1 : Nat)))).kids]]).len ∧
 ∃ (j : Nat),
 j.le d.len ∧
 d.len + (1 : Nat) - j < d.len + (1 : Nat) - i ∧
 IntKind.i64.wrap ((↑i : Int) + (1 : Int)) = (↑j : Int) ∧
 k = k ∧
 n = n ∧
 v = v ∧
 i +
 ((D.l
 [[D.i
 (ex (d.el (↑i : Int).toNat (0 : Nat)).toI (d.el (↑i : Int).toNat ((0 : Nat) + (1 : Nat))).toI
 (d.el (↑i : Int).toNat ((0 : Nat) + (1 : Nat) + (1 : Nat))).toI
 (d.el (↑i : Int).toNat ((0 : Nat) + (1 : Nat) + (1 : Nat) + (1 : Nat)))).k,
 D.i
 (ex (d.el (↑i : Int).toNat (0 : Nat)).toI (d.el (↑i : Int).toNat ((0 : Nat) + (1 : Nat))).toI
 (d.el (↑i : Int).toNat ((0 : Nat) + (1 : Nat) + (1 : Nat))).toI
 (d.el (↑i : Int).toNat ((0 : Nat) + (1 : Nat) + (1 : Nat) + (1 : Nat)))).n,
 D.i
 (ex (d.el (↑i : Int).toNat (0 : Nat)).toI (d.el (↑i : Int).toNat ((0 : Nat) + (1 : Nat))).toI
 (d.el (↑i : Int).toNat ((0 : Nat) + (1 : Nat) + (1 : Nat))).toI
 (d.el (↑i : Int).toNat ((0 : Nat) + (1 : Nat) + (1 : Nat) + (1 : Nat)))).v,
 dE
 (ex (d.el (↑i : Int).toNat (0 : Nat)).toI (d.el (↑i : Int).toNat ((0 : Nat) + (1 : Nat))).toI
 (d.el (↑i : Int).toNat ((0 : Nat) + (1 : Nat) + (1 : Nat))).toI
 (d.el (↑i : Int).toNat ((0 : Nat) + (1 : Nat) + (1 : Nat) + (1 : Nat)))).kids]]).sub
 (0 : Nat) ((0 : Nat) + (1 : Nat))).len =
 j ∧
 List.map encE (List.take i (exs d)) ++
 List.drop (0 : Nat)
 (List.take ((0 : Nat) + (1 : Nat))
 [[D.i
 (ex (d.el (↑i : Int).toNat (0 : Nat)).toI (d.el (↑i : Int).toNat ((0 : Nat) + (1 : Nat))).toI
 (d.el (↑i : Int).toNat ((0 : Nat) + (1 : Nat) + (1 : Nat))).toI
 (d.el (↑i : Int).toNat ((0 : Nat) + (1 : Nat) + (1 : Nat) + (1 : Nat)))).k,
 D.i
 (ex (d.el (↑i : Int).toNat (0 : Nat)).toI (d.el (↑i : Int).toNat ((0 : Nat) + (1 : Nat))).toI
 (d.el (↑i : Int).toNat ((0 : Nat) + (1 : Nat) + (1 : Nat))).toI
 (d.el (↑i : Int).toNat ((0 : Nat) + (1 : Nat) + (1 : Nat) + (1 : Nat)))).n,
 D.i
 (ex (d.el (↑i : Int).toNat (0 : Nat)).toI (d.el (↑i : Int).toNat ((0 : Nat) + (1 : Nat))).toI
 (d.el (↑i : Int).toNat ((0 : Nat) + (1 : Nat) + (1 : Nat))).toI
 (d.el (↑i : Int).toNat ((0 : Nat) + (1 : Nat) + (1 : Nat) + (1 : Nat)))).v,
 dE
 (ex (d.el (↑i : Int).toNat (0 : Nat)).toI (d.el (↑i : Int).toNat ((0 : Nat) + (1 : Nat))).toI
 (d.el (↑i : Int).toNat ((0 : Nat) + (1 : Nat) + (1 : Nat))).toI
 (d.el (↑i : Int).toNat ((0 : Nat) + (1 : Nat) + (1 : Nat) + (1 : Nat)))).kids]]) =
 List.map encE (List.take j (exs d)) ∧
 k = k ∧ n = n ∧ v = v ∧ d.rows = d.rows ∧ (0 : Int) = (0 : Int) ∧ (0 : Int) = (0 : Int) ∧ (0 : Int) = (0 : Int)) ∧
 (decide ((↑i : Int) < (↑d.len : Int)) = false →
 nat_lit 0 + i ≤ (dE (List.take i (exs d))).len ∧
 k = (ex k n v d).k ∧
 n = (ex k n v d).n ∧
 v = (ex k n v d).v ∧
 List.drop (nat_lit 0) (List.take (nat_lit 0 + i) (List.map encE (List.take i (exs d)))) = List.map encE (ex k n v d).kids)) (by kernel_rfl) ?_
    intro hm hS
    have e0 : ∀ i, ex (d.el i 0).toI (d.el i (0 + 1)).toI (d.el i (0 + 1 + 1)).toI (d.el i (0 + 1 + 1 + 1)) = exE d i := fun i => rfl
    have enc : ∀ t : Xp, [D.i t.k, D.i t.n, D.i t.v, dE t.kids] = encE t := fun t => (encE_eq t).symm
    simp only [e0, enc]
    obtain ⟨hl, hk⟩ := small_ex hS
    have tl : ∀ i, i ≤ d.len → (dE ((exs d).take i)).len = i := fun i hi => by rw [dE_len, List.length_take, exs_len]; omega
    have one : ∀ t : Xp, (D.l [encE t]).len = 1 := fun _ => rfl
    have s1 : ∀ t : Xp, ((D.l [encE t]).sub 0 (0 + 1)).len = 1 := fun _ => rfl
    have st : ∀ i, i < d.len → (exs d).take (i + 1) = (exs d).take i ++ [exE d i] := fun i hi => by
      rw [List.take_add_one, exs_get hi]; rfl
    simp only [Int.toNat_natCast, one, s1]
    refine ⟨⟨0, Nat.zero_le _, rfl, trivial, trivial, trivial, rfl, rfl, trivial, trivial, trivial, trivial, trivial, trivial, trivial⟩, fun i hi => ⟨fun h => ?_, fun h => ?_⟩⟩
    · have hi' : i < d.len := by simpa using h
      refine ⟨by omega, by have := el_lt (j := 0 + 1 + 1 + 1) hi'; omega, hk i hi', (tl i (by omega)).symm, by omega, by omega, i + 1, hi', by omega, wr _ (by omega), trivial, trivial, trivial, rfl, ?_, trivial, trivial, trivial, trivial, trivial, trivial, trivial⟩
      rw [st i hi', List.map_append]; rfl
    · have hi' : ¬ i < d.len := by simpa using h
      have e : i = d.len := by have : i ≤ d.len := hi; omega
      refine ⟨by rw [tl i hi]; omega, rfl, rfl, rfl, ?_⟩
      rw [e, ← exs_len d, List.take_length]
      show ((List.map encE (exs d)).take (0 + (exs d).length)).drop 0 = List.map encE (exs d)
      rw [Nat.zero_add, List.drop_zero, List.take_of_length_le (by simp)]
  · trivial
theorem copyX_ok : ConOK Try.prog 16 copyXC :=
  con_rec copyXM (fun _ _ => by kernel_rfl) fun m ih => by
    rw [copyX_under] at ih ⊢
    exact copyX_step m ih
end Go.Proofs.Ytdagadcflignfaa.Sx.Z
namespace Go.Proofs.Ytdagadcflignfaa.Sx.Z
open Go.RowKit
/-- What Tame tells: of so many variables. -/
inductive Tm (w : Int) : Xp → Prop
  | num (n : Int) : 0 ≤ n → n ≤ 2147483647 → Tm w (.mk 1 n 0 [])
  | var (v : Int) : 0 ≤ v → v < w → Tm w (.mk 2 0 v [])
  | neg (a : Xp) : Tm w a → Tm w (.mk 3 0 0 [a])
  | bin (k : Int) (a b : Xp) : 4 ≤ k → k ≤ 8 → Tm w a → Tm w b → Tm w (.mk k 0 0 [a, b])
theorem modU_in {a b : Int} (h : 0 < b ∧ b ≤ 2147483648) : 0 ≤ modU a b ∧ modU a b < b := by
  have e : IntKind.u64.wrap b = b := by rw [IntKind.wrap_u64]; omega
  have h1 : 0 ≤ IntKind.u64.wrap a := by rw [IntKind.wrap_u64]; omega
  have h2 := Int.tmod_nonneg b h1
  have h3 := Int.tmod_lt_of_pos (IntKind.u64.wrap a) h.1
  unfold modU
  rw [e, wr _ (by omega)]
  exact ⟨h2, h3⟩
theorem leaf_tm {w : Int} (h : 1 ≤ w ∧ w ≤ 6) (e : Xp) : Tm w (leafT w e) := by
  unfold leafT
  split
  · have := modU_in (a := e.v) (b := w) (by omega)
    exact .var _ this.1 this.2
  · have := modU_in (a := e.n) (b := 2147483648) (by omega)
    exact .num _ this.1 (by omega)
theorem tam_tm {w : Int} (h : 1 ≤ w ∧ w ≤ 6) : ∀ (m : Nat) (e : Xp), Tm w (tamP w m e)
  | 0, e => leaf_tm h e
  | m + 1, e => by
    unfold tamP
    split
    · rename_i c; exact .bin _ _ _ c.1.1 c.1.2 (tam_tm h m _) (tam_tm h m _)
    · split
      · exact .neg _ (tam_tm h m _)
      · exact leaf_tm h e
theorem tm_small {w : Int} {e : Xp} (h : Tm w e) : Small e := by
  induction h with
  | num n _ _ => exact .mk _ _ _ _ (Nat.zero_le _) (fun x hx => by cases hx)
  | var v _ _ => exact .mk _ _ _ _ (Nat.zero_le _) (fun x hx => by cases hx)
  | neg a _ ih => exact .mk _ _ _ _ (by simp) (fun x hx => by rw [List.mem_singleton.1 hx]; exact ih)
  | bin k a b _ _ _ _ ia ib => exact .mk _ _ _ _ (by simp) (fun x hx => by
      rcases List.mem_cons.1 hx with rfl | hx
      · exact ia
      · rw [List.mem_singleton.1 hx]; exact ib)
def rcomb (k : Int) (l r : Option (Int × Int)) : Option (Int × Int) := match l, r with
  | some (x, m), some (y, b) => if (0 ≤ x ∧ 0 ≤ y) ∨ (k = 5 ∧ 0 ≤ y) then none else some (max x y, if k = 5 then IntKind.i64.wrap (m - b) else IntKind.i64.wrap (m + b))
  | _, _ => none
def rcut (o : Option (Int × Int)) : Option (Int × Int) := match o with
  | some (x, n) => if n > 1099511627776 ∨ n < -1099511627776 then none else some (x, n)
  | none => none
def rlinP : Xp → Option (Int × Int)
  | .mk k n v kids => rcut (if k = 1 ∧ kids.length = 0 then some (-1, n) else if k = 2 ∧ kids.length = 0 then some (v, 0) else if k = 4 ∨ k = 5 then (match kids with | [a, b] => rcomb k (rlinP a) (rlinP b) | _ => none) else none)
theorem rlin_eq (k n v : Int) (d : D) : rlinP (ex k n v d) = rcut (if k = 1 ∧ d.len = 0 then some (-1, n) else if k = 2 ∧ d.len = 0 then some (v, 0) else if (k = 4 ∨ k = 5) ∧ d.len = 2 then rcomb k (rlinP (exE d 0)) (rlinP (exE d 1)) else none) := by
  show rlinP (.mk k n v (exs d)) = _
  by_cases h2 : d.len = 2
  · rw [exs_two h2, rlinP]; simp [h2]
  · rw [rlinP.eq_2 _ _ _ _ (fun a b => exs_ne2 h2 a b), exs_len]; simp [h2]
theorem rcomb_some (k x m y b : Int) : rcomb k (some (x, m)) (some (y, b)) = if (0 ≤ x ∧ 0 ≤ y) ∨ (k = 5 ∧ 0 ≤ y) then none else some (max x y, if k = 5 then IntKind.i64.wrap (m - b) else IntKind.i64.wrap (m + b)) := rfl
theorem rcomb_l (k : Int) (r : Option (Int × Int)) : rcomb k none r = none := rfl
theorem rcomb_r (k : Int) (l : Option (Int × Int)) : rcomb k l none = none := by cases l <;> rfl
theorem rcut_some (x n : Int) : rcut (some (x, n)) = if n > 1099511627776 ∨ n < -1099511627776 then none else some (x, n) := rfl
theorem rcut_none : rcut none = none := rfl
/-- Of what Tame tells both are the same. -/
theorem lin_same {w : Int} (hw : 1 ≤ w) {e : Xp} (h : Tm w e) : rlinP e = linP e ∧ ∀ x n, linP e = some (x, n) → -1 ≤ x ∧ x < w ∧ -1099511627776 ≤ n ∧ n ≤ 1099511627776 := by
  induction h with
  | num n h0 h1 =>
    rw [rlinP.eq_2 _ _ _ _ (fun a b h => by cases h), linP.eq_2 _ _ _ _ (fun a b h => by cases h)]
    simp only [List.length_nil, and_self, if_true, rcut_some, amtP]
    rw [if_neg (by omega), if_neg (by omega)]
    exact ⟨rfl, fun x m e => by obtain ⟨rfl, rfl⟩ := Prod.mk.inj (Option.some.inj e); omega⟩
  | var v h0 h1 =>
    rw [rlinP.eq_2 _ _ _ _ (fun a b h => by cases h), linP.eq_2 _ _ _ _ (fun a b h => by cases h)]
    refine ⟨rfl, fun x m e => ?_⟩
    have e : some (v, (0 : Int)) = some (x, m) := e
    obtain ⟨rfl, rfl⟩ := Prod.mk.inj (Option.some.inj e); omega
  | neg a _ _ =>
    rw [rlinP.eq_2 _ _ _ _ (fun a b h => by cases h), linP.eq_2 _ _ _ _ (fun a b h => by cases h)]
    exact ⟨rfl, fun x m e => by cases e⟩
  | bin k a b h4 h8 _ _ ia ib =>
    obtain ⟨ea, ba⟩ := ia
    obtain ⟨eb, bb⟩ := ib
    rw [rlinP, linP, ea, eb]
    have k1 : ¬ (k = 1 ∧ [a, b].length = 0) := by simp
    have k2 : ¬ (k = 2 ∧ [a, b].length = 0) := by simp
    rw [if_neg k1, if_neg k2, if_neg (show ¬ k = 1 by omega), if_neg (show ¬ k = 2 by omega)]
    by_cases k45 : k = 4 ∨ k = 5
    · rw [if_pos k45, if_pos k45]
      generalize linP a = L at *
      generalize linP b = R at *
      rcases L with _ | ⟨x, m⟩
      · rw [rcomb_l, comb_l]; exact ⟨rfl, fun x m e => by cases e⟩
      · rcases R with _ | ⟨y, p⟩
        · rw [rcomb_r, comb_r]; exact ⟨rfl, fun x m e => by cases e⟩
        · have hx := ba x m rfl
          have hy := bb y p rfl
          have w1 : IntKind.i64.wrap (m - p) = m - p := wr _ (by omega)
          have w2 : IntKind.i64.wrap (m + p) = m + p := wr _ (by omega)
          rw [rcomb_some, comb_some, w1, w2]
          unfold amtP rcut
          constructor <;> grind
    · rw [if_neg k45, if_neg k45]; exact ⟨rfl, fun x m e => by cases e⟩
noncomputable def rlinS : FSpec := fun ds _ => match ds with
  | [.i k, .i n, .i v, .d d] => some { val := .tup [.sc (.int .i64 (.sym (oX (rlinP (ex k n v d))))), .sc (.int .i64 (.sym (oY (rlinP (ex k n v d))))), .sc (.bool (.sym (oB (rlinP (ex k n v d)))))], vc := [] }
  | _ => none
noncomputable def rlinC : Con := con [rxpA] rlinS
noncomputable def rlinM : List Dat → Nat := fun ds => match ds with
  | [.i k, .i n, .i v, .d d] => SizeOf.sizeOf d
  | _ => 0
noncomputable def rlinSu (m : Nat) : FSpec := fun ds _ => match ds with
  | [.i k, .i n, .i v, .d d] => some { val := .tup [.sc (.int .i64 (.sym (oX (rlinP (ex k n v d))))), .sc (.int .i64 (.sym (oY (rlinP (ex k n v d))))), .sc (.bool (.sym (oB (rlinP (ex k n v d)))))], vc := [SizeOf.sizeOf d < m] }
  | _ => none
theorem rlin_under (m : Nat) : rlinS.under rlinM m = rlinSu m := by
  funext ds fr
  unfold FSpec.under rlinS rlinM rlinSu
  split
  · rename_i e h
    split at h
    · obtain rfl := Option.some.inj h; rfl
    · cases h
  · rename_i h
    split at h
    · cases h
    · rfl
end Go.Proofs.Ytdagadcflignfaa.Sx.Z
namespace Go.Proofs.Ytdagadcflignfaa.Sx.Z
open Go.RowKit
def ofI (a b : Int) : Int × Int := (ofLo a b, ofHi a b)
def jnI (a b : Int × Int) : Int × Int := if a.2 < a.1 then ofI b.1 b.2 else if b.2 < b.1 then ofI a.1 a.2 else ofI (min a.1 b.1) (max a.2 b.2)
def wdI (a b : Int × Int) : Int × Int := if a.2 < a.1 ∨ b.2 < b.1 then jnI a b else (if b.1 < a.1 then -2147483648 else (jnI a b).1, if a.2 < b.2 then 2147483647 else (jnI a b).2)
def nrm (a : Int × Int) : Int × Int := if a.1 > a.2 then (1, 0) else a
def rjnI (a b : Int × Int) : Int × Int := if a.1 > a.2 then nrm b else if b.1 > b.2 then a else (min a.1 b.1, max a.2 b.2)
def rwdI (a b : Int × Int) : Int × Int := if a.1 > a.2 then nrm b else if b.1 > b.2 then a else (if b.1 < a.1 then -2147483648 else a.1, if a.2 < b.2 then 2147483647 else a.2)
def bendI (a : Int) : Int := IntKind.i64.wrap (IntKind.i32.wrap a)
theorem bendI_in (a : Int) : -2147483648 ≤ bendI a ∧ bendI a ≤ 2147483647 := by
  unfold bendI
  have : -2147483648 ≤ IntKind.i32.wrap a ∧ IntKind.i32.wrap a ≤ 2147483647 := by
    rw [IntKind.wrap_i32]; omega
  rw [wr _ (by omega)]
  exact this
/-- As every call tells it. -/
def Nm (p : Int × Int) : Prop := p = (1, 0) ∨ (-2147483648 ≤ p.1 ∧ p.1 ≤ p.2 ∧ p.2 ≤ 2147483647)
theorem ofI_cases (a b : Int) : (min b 2147483647 < max a (-2147483648) ∧ ofI a b = (1, 0)) ∨ (max a (-2147483648) ≤ min b 2147483647 ∧ ofI a b = (max a (-2147483648), min b 2147483647)) := by
  unfold ofI ofLo ofHi
  by_cases h : min b 2147483647 < max a (-2147483648)
  · left; simp [h]
  · right; simp [h]; omega
theorem nm_of (a b : Int) : Nm (ofI a b) := by
  rcases ofI_cases a b with ⟨_, e⟩ | ⟨h, e⟩
  · exact .inl e
  · right; rw [e]; dsimp only; omega
theorem nm_id {p : Int × Int} (h : Nm p) : ofI p.1 p.2 = p := by
  rcases h with rfl | h
  · rfl
  · obtain ⟨a, b⟩ := p
    dsimp only at h
    rcases ofI_cases a b with ⟨h1, e⟩ | ⟨h1, e⟩
    · exfalso; omega
    · rw [e]; ext <;> dsimp only <;> omega
theorem nm_jn {a b : Int × Int} : Nm (jnI a b) := by
  unfold jnI
  (repeat' split) <;> exact nm_of _ _
theorem jn_eq {a b : Int × Int} (ha : Nm a) (hb : Nm b) : rjnI a b = jnI a b := by
  unfold rjnI jnI nrm
  by_cases h1 : a.2 < a.1
  · rw [if_pos h1, if_pos h1]
    by_cases h2 : b.1 > b.2
    · rw [if_pos h2]
      rcases hb with rfl | hb
      · rfl
      · omega
    · rw [if_neg h2, nm_id hb]
  · rw [if_neg h1, if_neg h1]
    by_cases h2 : b.2 < b.1
    · rw [if_pos h2, if_pos h2, nm_id ha]
    · rw [if_neg h2, if_neg h2]
      have ha' : -2147483648 ≤ a.1 ∧ a.1 ≤ a.2 ∧ a.2 ≤ 2147483647 := by rcases ha with rfl | h; exact absurd (by decide) h1; exact h
      have hb' : -2147483648 ≤ b.1 ∧ b.1 ≤ b.2 ∧ b.2 ≤ 2147483647 := by rcases hb with rfl | h; exact absurd (by decide) h2; exact h
      exact (nm_id (p := (min a.1 b.1, max a.2 b.2)) (.inr (by dsimp only; omega))).symm
theorem wd_nm {a b : Int × Int} (ha : Nm a) (hb : Nm b) : rwdI a b = wdI a b ∧ Nm (wdI a b) := by
  have j := jn_eq ha hb
  have nj := @nm_jn a b
  obtain ⟨a1, a2⟩ := a
  obtain ⟨b1, b2⟩ := b
  unfold rwdI wdI
  unfold rjnI at j
  dsimp only at j ⊢
  by_cases h1 : a2 < a1
  · rw [if_pos h1] at j
    rw [if_pos h1, if_pos (.inl h1)]
    exact ⟨j, nj⟩
  · rw [if_neg h1] at j
    rw [if_neg h1]
    by_cases h2 : b2 < b1
    · rw [if_pos h2] at j
      rw [if_pos h2, if_pos (.inr h2)]
      exact ⟨j, nj⟩
    · rw [if_neg h2] at j
      rw [if_neg h2, if_neg (show ¬ (a2 < a1 ∨ b2 < b1) by omega), ← j]
      have ha' : -2147483648 ≤ a1 ∧ a1 ≤ a2 ∧ a2 ≤ 2147483647 := by
        rcases ha with h | h
        · obtain ⟨rfl, rfl⟩ := Prod.mk.inj h; exact absurd (by decide) h1
        · exact h
      have hb' : -2147483648 ≤ b1 ∧ b1 ≤ b2 ∧ b2 ≤ 2147483647 := by
        rcases hb with h | h
        · obtain ⟨rfl, rfl⟩ := Prod.mk.inj h; exact absurd (by decide) h2
        · exact h
      have e1 : (if b1 < a1 then (-2147483648 : Int) else a1) = if b1 < a1 then -2147483648 else min a1 b1 := by split <;> omega
      have e2 : (if a2 < b2 then (2147483647 : Int) else a2) = if a2 < b2 then 2147483647 else max a2 b2 := by split <;> omega
      refine ⟨by rw [e1, e2], .inr ?_⟩
      show -2147483648 ≤ (if b1 < a1 then (-2147483648 : Int) else min a1 b1) ∧ (if b1 < a1 then (-2147483648 : Int) else min a1 b1) ≤ (if a2 < b2 then (2147483647 : Int) else max a2 b2) ∧ (if a2 < b2 then (2147483647 : Int) else max a2 b2) ≤ 2147483647
      rw [← e1, ← e2]
      (repeat' split) <;> omega
theorem nrm_nm {a b : Int} (ha : -2147483648 ≤ a ∧ a ≤ 2147483647) (hb : -2147483648 ≤ b ∧ b ≤ 2147483647) : Nm (nrm (a, b)) := by
  unfold nrm
  split
  · exact .inl rfl
  · right; dsimp only at *; omega
theorem jnI_none {a : Int × Int} (h : Nm a) : jnI (1, 0) a = a := by unfold jnI; rw [if_pos (by decide)]; exact nm_id h
def norm8S : FSpec := fun ds _ => match ds with
  | [.i a, .i b] => some { val := .one (.agg [.c (.int .i64 (.sym ((nrm (a, b)).1))), .c (.int .i64 (.sym ((nrm (a, b)).2)))]), vc := [] }
  | _ => none
def norm8C : Con := con [itvA] norm8S
def bend8S : FSpec := fun ds _ => match ds with
  | [.i a, .i b] => some { val := .one (.agg [.c (.int .i64 (.sym (bendI a))), .c (.int .i64 (.sym (bendI b)))]), vc := [] }
  | _ => none
def bend8C : Con := con [itvA] bend8S
def rhas8S : FSpec := fun ds _ => match ds with
  | [.i a, .i b, .i n] => some { val := .one (.sc (.bool (.sym (decide (a ≤ n) && decide (n ≤ b))))), vc := [] }
  | _ => none
def rhas8C : Con := con [itvA, iA] rhas8S
def iwithinS : FSpec := fun ds _ => match ds with
  | [.i a, .i b, .i c, .i d] => some { val := .one (.sc (.bool (.sym (decide (b < a) || (decide (c ≤ a) && decide (b ≤ d)))))), vc := [] }
  | _ => none
def iwithinC : Con := con [itvA, itvA] iwithinS
def ijoinS : FSpec := fun ds _ => match ds with
  | [.i a, .i b, .i c, .i d] => some { val := .one (.agg [.c (.int .i64 (.sym ((jnI (a, b) (c, d)).1))), .c (.int .i64 (.sym ((jnI (a, b) (c, d)).2)))]), vc := [] }
  | _ => none
def ijoinC : Con := con [itvA, itvA] ijoinS
theorem ijoin_ok : ConOK Try.prog 55 ijoinC := by
  refine fn_ob tt_ok mixed Try.func55 rfl (fun _ _ => by kernel_rfl) (A := fun ds => ⟨fun _ => Cons.of [(51, emptyC), (53, iofC)], fun _ => none, fun _ => none⟩) (fun _ _ => (cons_cons empty_ok (cons_cons iof_ok cons_nil))) (by kernel_rfl) ?_
  intro ds fr
  unfold ijoinS
  split
  · rename_i a b c d
    refine kmp (q := (decide (b < a) = true → ofLo c d = (jnI (a, b) (c, d)).fst ∧ ofHi c d = (jnI (a, b) (c, d)).snd) ∧
 (decide (b < a) = false →
 (decide (d < c) = true → ofLo a b = (jnI (a, b) (c, d)).fst ∧ ofHi a b = (jnI (a, b) (c, d)).snd) ∧
 (decide (d < c) = false →
 ofLo (if c < a then c else a) (if d > b then d else b) = (jnI (a, b) (c, d)).fst ∧
 ofHi (if c < a then c else a) (if d > b then d else b) = (jnI (a, b) (c, d)).snd))) (by kernel_rfl) ?_
    (repeat' first | apply And.intro | intro _) <;> grind [nrm, jnI, wdI, rjnI, rwdI, ofI]
  · trivial
def iwidenS : FSpec := fun ds _ => match ds with
  | [.i a, .i b, .i c, .i d] => some { val := .one (.agg [.c (.int .i64 (.sym ((wdI (a, b) (c, d)).1))), .c (.int .i64 (.sym ((wdI (a, b) (c, d)).2)))]), vc := [] }
  | _ => none
def iwidenC : Con := con [itvA, itvA] iwidenS
def rjoin8S : FSpec := fun ds _ => match ds with
  | [.i a, .i b, .i c, .i d] => some { val := .one (.agg [.c (.int .i64 (.sym ((rjnI (a, b) (c, d)).1))), .c (.int .i64 (.sym ((rjnI (a, b) (c, d)).2)))]), vc := [] }
  | _ => none
def rjoin8C : Con := con [itvA, itvA] rjoin8S
def rwiden8S : FSpec := fun ds _ => match ds with
  | [.i a, .i b, .i c, .i d] => some { val := .one (.agg [.c (.int .i64 (.sym ((rwdI (a, b) (c, d)).1))), .c (.int .i64 (.sym ((rwdI (a, b) (c, d)).2)))]), vc := [] }
  | _ => none
def rwiden8C : Con := con [itvA, itvA] rwiden8S
end Go.Proofs.Ytdagadcflignfaa.Sx.Z
