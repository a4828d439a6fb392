/-
  The types at hand.; slices.IndexFunc, slices.ContainsFunc, of edges, graphs, numbers.; The zone's small calls: what they tell.; A bound more: zone.bounded, zone.Bound.; zone.Bound, apart, Top, Forget, shifted: what they tell.; zone.Within, Join, Widen, Has, Right: what they tell.; Zones that calls tell: closed bounds, their points; zone.Copy.; zone.Copy; what Top and Zeros tell is right.; A zone's numbers through all calls; rows of numbers.; What the reference's rounds come to: the least bounds of the same numbers.; Close behind a bound more, a variable that is forgotten, a copy: what the program's calls tell.; Close behind a copy, or a shift: what the program's Copy tells.; Numbers of variables, Zones: what the laws want of them.; The Nums' small calls: what they tell.
-/
import Derived.Test.YtlgmofjjjhbgkaaGreatProg
import Derived.Test.YtlgmofjjjhbgkaaGreatJt14
import Derived.Test.YtlgmofjjjhbgkaaGreatJt13
import Derived.IntWalk
import Derived.Laws.Bits64
namespace Go.Proofs.YtlgmofjjjhbgkaaGreat.Sx.Z
def tt : TT := [(2, ⟨.int .i64, 1, none, [.c (.int .i64 (.lit 0))], none, none, 8⟩),
  (3, ⟨.int .i64, 1, none, [.c (.int .i64 (.lit 0))], none, some ([.int .i64]), 8⟩),
  (4, ⟨.bool, 1, none, [.c (.bool (.lit false))], none, some ([.bool]), 1⟩),
  (5, ⟨.int .u8, 1, none, [.c (.int .u8 (.lit 0))], none, none, 1⟩),
  (9, ⟨.string, 1, none, [.c (.raw (.string ByteArray.empty))], none, none, 16⟩),
  (21, ⟨.int .i32, 1, none, [.c (.int .i32 (.lit 0))], none, some ([.int .i32]), 4⟩),
  (22, ⟨.array 2 21, 2, some [.ints .i32 2], [.ints .i32 (.lit 2) (fun _ => 0)], some [(.i .i32, 2)], none, 8⟩),
  (23, ⟨.slice 25, 1, none, [.c .nils], none, none, 24⟩),
  (25, ⟨.struct [(3, 0), (3, 1), (3, 2), (23, 3)], 4, some [.c, .c, .c, .c], [.c (.int .i64 (.lit 0)), .c (.int .i64 (.lit 0)), .c (.int .i64 (.lit 0)), .c .nils], none, some ([.int .i64, .int .i64, .int .i64, .slice 25]), 48⟩),
  (26, ⟨.int .u32, 1, none, [.c (.int .u32 (.lit 0))], none, none, 4⟩),
  (27, ⟨.int .u64, 1, none, [.c (.int .u64 (.lit 0))], none, none, 8⟩),
  (29, ⟨.struct [(3, 0), (25, 1), (25, 5)], 9, some [.c, .c, .c, .c, .c, .c, .c, .c, .c], [.c (.int .i64 (.lit 0)), .c (.int .i64 (.lit 0)), .c (.int .i64 (.lit 0)), .c (.int .i64 (.lit 0)), .c .nils, .c (.int .i64 (.lit 0)), .c (.int .i64 (.lit 0)), .c (.int .i64 (.lit 0)), .c .nils], none, none, 104⟩),
  (31, ⟨.struct [(3, 0), (3, 1), (3, 2), (3, 3), (3, 4), (3, 5), (25, 6), (29, 10)], 19, some [.c, .c, .c, .c, .c, .c, .c, .c, .c, .c, .c, .c, .c, .c, .c, .c, .c, .c, .c], [.c (.int .i64 (.lit 0)), .c (.int .i64 (.lit 0)), .c (.int .i64 (.lit 0)), .c (.int .i64 (.lit 0)), .c (.int .i64 (.lit 0)), .c (.int .i64 (.lit 0)), .c (.int .i64 (.lit 0)), .c (.int .i64 (.lit 0)), .c (.int .i64 (.lit 0)), .c .nils, .c (.int .i64 (.lit 0)), .c (.int .i64 (.lit 0)), .c (.int .i64 (.lit 0)), .c (.int .i64 (.lit 0)), .c .nils, .c (.int .i64 (.lit 0)), .c (.int .i64 (.lit 0)), .c (.int .i64 (.lit 0)), .c .nils], none, some (List.replicate 9 (.int .i64) ++ [.slice 25, .int .i64, .int .i64, .int .i64, .int .i64, .slice 25, .int .i64, .int .i64, .int .i64, .slice 25]), 200⟩),
  (32, ⟨.slice 31, 1, none, [.c .nils], none, none, 24⟩),
  (33, ⟨.slice 3, 1, none, [.c .nils], none, some ([.slice 3]), 24⟩),
  (35, ⟨.struct [(3, 0), (32, 1), (33, 2)], 3, some [.c, .c, .c], [.c (.int .i64 (.lit 0)), .c .nils, .c .nils], none, some ([.int .i64, .slice 31, .slice 3]), 56⟩),
  (36, ⟨.slice 35, 1, none, [.c .nils], none, none, 24⟩),
  (37, ⟨.slice 73, 1, none, [.c .nils], none, none, 24⟩),
  (39, ⟨.struct [(37, 0), (36, 1), (33, 2)], 3, some [.c, .c, .c], [.c .nils, .c .nils, .c .nils], none, none, 72⟩),
  (40, ⟨.slice 53, 1, none, [.c .nils], none, none, 24⟩),
  (41, ⟨.array 7 3, 7, some [.ints .i64 7], [.ints .i64 (.lit 7) (fun _ => 0)], some [(.i .i64, 7)], none, 56⟩),
  (42, ⟨.array 7 41, 49, some [.ints .i64 49], [.ints .i64 (.lit 49) (fun _ => 0)], some [(.i .i64, 49)], none, 392⟩),
  (44, ⟨.struct [(3, 0), (4, 1), (42, 2)], 51, some [.c, .c, .ints .i64 49], [.c (.int .i64 (.lit 0)), .c (.bool (.lit false)), .ints .i64 (.lit 49) (fun _ => 0)], some [(.i .i64, 1), (.b, 1), (.i .i64, 49)], none, 408⟩),
  (46, ⟨.struct [(4, 0), (40, 1), (44, 2)], 53, some [.c, .c, .c, .c, .ints .i64 49], [.c (.bool (.lit false)), .c .nils, .c (.int .i64 (.lit 0)), .c (.bool (.lit false)), .ints .i64 (.lit 49) (fun _ => 0)], none, none, 440⟩),
  (47, ⟨.slice 93, 1, none, [.c .nils], none, none, 24⟩),
  (49, ⟨.struct [(46, 0), (40, 53), (47, 54)], 55, some [.c, .c, .c, .c, .ints .i64 49, .c, .c], [.c (.bool (.lit false)), .c .nils, .c (.int .i64 (.lit 0)), .c (.bool (.lit false)), .ints .i64 (.lit 49) (fun _ => 0), .c .nils, .c .nils], none, none, 488⟩),
  (53, ⟨.struct [(3, 0), (3, 1)], 2, some [.c, .c], [.c (.int .i64 (.lit 0)), .c (.int .i64 (.lit 0))], some [(.i .i64, 1), (.i .i64, 1)], some ([.int .i64, .int .i64]), 16⟩),
  (55, ⟨.struct [(3, 0), (3, 1), (53, 2)], 4, some [.c, .c, .c, .c], [.c (.int .i64 (.lit 0)), .c (.int .i64 (.lit 0)), .c (.int .i64 (.lit 0)), .c (.int .i64 (.lit 0))], some [(.i .i64, 1), (.i .i64, 1), (.i .i64, 1), (.i .i64, 1)], none, 32⟩),
  (58, ⟨.slice 75, 1, none, [.c .nils], none, none, 24⟩),
  (59, ⟨.slice 4, 1, none, [.c .nils], none, none, 24⟩),
  (61, ⟨.struct [(39, 0), (58, 3), (59, 4)], 5, some [.c, .c, .c, .c, .c], [.c .nils, .c .nils, .c .nils, .c .nils, .c .nils], none, none, 120⟩),
  (64, ⟨.slice 66, 1, none, [.c .nils], none, none, 24⟩),
  (66, ⟨.struct [(3, 0), (3, 1), (3, 2), (64, 3)], 4, some [.c, .c, .c, .c], [.c (.int .i64 (.lit 0)), .c (.int .i64 (.lit 0)), .c (.int .i64 (.lit 0)), .c .nils], none, some ([.int .i64, .int .i64, .int .i64, .slice 66]), 48⟩),
  (71, ⟨.slice 33, 1, none, [.c .nils], none, none, 24⟩),
  (73, ⟨.struct [(3, 0), (3, 1), (3, 2), (3, 3), (3, 4), (71, 5)], 6, some [.c, .c, .c, .c, .c, .c], [.c (.int .i64 (.lit 0)), .c (.int .i64 (.lit 0)), .c (.int .i64 (.lit 0)), .c (.int .i64 (.lit 0)), .c (.int .i64 (.lit 0)), .c .nils], none, some ([.int .i64, .int .i64, .int .i64, .int .i64, .int .i64, .slice 33]), 64⟩),
  (75, ⟨.struct [(53, 0), (40, 2)], 3, some [.c, .c, .c], [.c (.int .i64 (.lit 0)), .c (.int .i64 (.lit 0)), .c .nils], none, some ([.int .i64, .int .i64, .slice 53]), 40⟩),
  (80, ⟨.slice 21, 1, none, [.c .nils], none, none, 24⟩),
  (82, ⟨.struct [(80, 0), (3, 1), (5, 2)], 3, some [.c, .c, .c], [.c .nils, .c (.int .i64 (.lit 0)), .c (.int .u8 (.lit 0))], none, none, 40⟩),
  (93, ⟨.int .u8, 1, none, [.c (.int .u8 (.lit 0))], none, some ([.int .u8]), 1⟩),
  (101, ⟨.struct [(61, 0), (35, 5), (3, 8), (49, 9), (55, 64), (33, 68)], 69, some [.c, .c, .c, .c, .c, .c, .c, .c, .c, .c, .c, .c, .c, .ints .i64 49, .c, .c, .c, .c, .c, .c, .c], [.c .nils, .c .nils, .c .nils, .c .nils, .c .nils, .c (.int .i64 (.lit 0)), .c .nils, .c .nils, .c (.int .i64 (.lit 0)), .c (.bool (.lit false)), .c .nils, .c (.int .i64 (.lit 0)), .c (.bool (.lit false)), .ints .i64 (.lit 49) (fun _ => 0), .c .nils, .c .nils, .c (.int .i64 (.lit 0)), .c (.int .i64 (.lit 0)), .c (.int .i64 (.lit 0)), .c (.int .i64 (.lit 0)), .c .nils], none, none, 728⟩),
  (102, ⟨.other, 1, none, [.c (.raw .nilFunc)], none, none, 8⟩),
  (104, ⟨.array 2 3, 2, some [.ints .i64 2], [.ints .i64 (.lit 2) (fun _ => 0)], some [(.i .i64, 2)], none, 16⟩),
  (128, ⟨.struct [(4, 0), (4, 1)], 2, some [.c, .c], [.c (.bool (.lit false)), .c (.bool (.lit false))], some [(.b, 1), (.b, 1)], none, 2⟩),
  (135, ⟨.int .u64, 1, none, [.c (.int .u64 (.lit 0))], none, none, 8⟩)]
theorem tt_ok : TTOK Tryz.prog tt := ttAll_ok rfl ⟨by kernel_rfl, trivial, by kernel_rfl, ⟨by kernel_rfl, by kernel_rfl, by kernel_rfl⟩, by kernel_rfl, ⟨by kernel_rfl, by kernel_rfl, by kernel_rfl⟩, by kernel_rfl, trivial, by kernel_rfl, trivial, by kernel_rfl, ⟨by kernel_rfl, by kernel_rfl, by kernel_rfl⟩, by kernel_rfl, trivial, by kernel_rfl, trivial, by kernel_rfl, ⟨by kernel_rfl, by kernel_rfl, by kernel_rfl⟩, by kernel_rfl, trivial, by kernel_rfl, trivial, by kernel_rfl, trivial, by kernel_rfl, ⟨by kernel_rfl, by kernel_rfl, by kernel_rfl⟩, by kernel_rfl, trivial, by kernel_rfl, ⟨by kernel_rfl, by kernel_rfl, by kernel_rfl⟩, by kernel_rfl, ⟨by kernel_rfl, by kernel_rfl, by kernel_rfl⟩, by kernel_rfl, trivial, by kernel_rfl, trivial, by kernel_rfl, trivial, by kernel_rfl, trivial, by kernel_rfl, trivial, by kernel_rfl, trivial, by kernel_rfl, trivial, by kernel_rfl, trivial, by kernel_rfl, trivial, by kernel_rfl, trivial, by kernel_rfl, ⟨by kernel_rfl, by kernel_rfl, by kernel_rfl⟩, by kernel_rfl, trivial, by kernel_rfl, trivial, by kernel_rfl, trivial, by kernel_rfl, trivial, by kernel_rfl, trivial, by kernel_rfl, ⟨by kernel_rfl, by kernel_rfl, by kernel_rfl⟩, by kernel_rfl, trivial, by kernel_rfl, ⟨by kernel_rfl, by kernel_rfl, by kernel_rfl⟩, by kernel_rfl, ⟨by kernel_rfl, by kernel_rfl, by kernel_rfl⟩, by kernel_rfl, trivial, by kernel_rfl, trivial, by kernel_rfl, ⟨by kernel_rfl, by kernel_rfl, by kernel_rfl⟩, by kernel_rfl, trivial, by kernel_rfl, trivial, by kernel_rfl, trivial, by kernel_rfl, trivial, by kernel_rfl, trivial, trivial⟩
theorem kall : kAll tt = true := by kernel_rfl
theorem mixed : Tryz.prog.follows .mixedOrders = true := by kernel_rfl
end Go.Proofs.YtlgmofjjjhbgkaaGreat.Sx.Z
namespace Go.Proofs.YtlgmofjjjhbgkaaGreat.Sx.Z
open Go.RowKit
/-- The first place of so many that is such a one. -/
def idxF (q : Nat → Bool) (n : Nat) : Int := match (List.range n).find? q with | some i => (i : Int) | none => -1
theorem idxF_hit {q : Nat → Bool} {n i : Nat} (hi : i < n) (hq : q i = true) (hb : ∀ j, j < i → q j = false) : idxF q n = (i : Int) := by
  have : (List.range n).find? q = some i := by
    rw [List.find?_range_eq_some]
    exact ⟨hq, by simpa using hi, fun j hj => by simpa using hb j hj⟩
  unfold idxF
  rw [this]
theorem idxF_no {q : Nat → Bool} {n : Nat} (h : ∀ j, j < n → q j = false) : idxF q n = -1 := by
  have : (List.range n).find? q = none := by
    rw [List.find?_eq_none]
    intro j hj
    simpa using h j (List.mem_range.1 hj)
  unfold idxF
  rw [this]
/-- Is there one? -/
def anyF (q : Nat → Bool) (n : Nat) : Bool := decide (0 ≤ idxF q n)
/-- An element as a function value sees it. -/
def cEd (d : D) (i : Nat) : List D := [D.i (d.el i 0).toI, D.i (d.el i 1).toI, D.i (d.el i 2).toI, D.i (d.el i 3).toI, D.i (d.el i 4).toI, D.i (d.el i 5).toI, D.i (d.el i 6).toI, D.i (d.el i 7).toI, D.i (d.el i 8).toI, d.el i 9, D.i (d.el i 10).toI, D.i (d.el i 11).toI, D.i (d.el i 12).toI, D.i (d.el i 13).toI, d.el i 14, D.i (d.el i 15).toI, D.i (d.el i 16).toI, D.i (d.el i 17).toI, d.el i 18]
/-- An element as a function value sees it. -/
def cGr (d : D) (i : Nat) : List D := [D.i (d.el i 0).toI, d.el i 1, d.el i 2]
/-- An element as a function value sees it. -/
def cIn (d : D) (i : Nat) : List D := [D.i (d.el i 0).toI]
noncomputable def ixeS : FSpec := fun ds _ => match ds with
  | [.d d, .q p ok] => some { val := .one (.sc (.int .i64 (.sym (idxF (fun i => p (cEd d i)) d.len)))), vc := [d.len ≤ 1000000, ∀ i, i < d.len → ok (cEd d i)] }
  | _ => none
noncomputable def ixeC : Con := con [.sc (.rows 31), .sc (.fn true 31)] ixeS
theorem ixe_ok : ConOK Tryz.prog 71 ixeC := by
  refine fn_ob tt_ok mixed Tryz.func71 rfl (fun _ _ => by kernel_rfl) (A := fun ds => ⟨fun _ => Cons.of [], fun k => match k, ds with | 2, [.d d, .q p ok] => some { ι := Nat, pre := fun _ i => i ≤ d.len ∧ ∀ j, j < i → p (cEd d j) = false, μ := fun i => d.len - i, st := fun s i => famR s [(8, .one (.sc (.int .i64 (.sym ((i : Int))))))] [0, 1, 7] [] [] } | _, _ => none, fun _ => none⟩) (fun _ _ => cons_nil) (by kernel_rfl) ?_
  intro ds fr
  unfold ixeS
  split
  · rename_i d p ok
    refine kmp (q := d.len ≤ 1000000 → (∀ (i : Nat), i < d.len → ok (cEd d i)) → (∃ (i : Nat), (i ≤ d.len ∧ ∀ (j : Nat), j < i → p (cEd d j) = false) ∧ (0 : Int) = (↑i : Int) ∧ d.rows = d.rows ∧ p = p ∧ ok = ok ∧ (↑d.len : Int) = (↑d.len : Int)) ∧ ∀ (i : Nat), (i ≤ d.len ∧ ∀ (j : Nat), j < i → p (cEd d j) = false) → (decide ((↑i : Int) < (↑d.len : Int)) = true → ((0 : Int) ≤ (↑i : Int) ∧ (↑i : Int) < (↑d.len : Int)) ∧ ok [D.i (d.el (↑i : Int).toNat 0).toI, D.i (d.el (↑i : Int).toNat (0 + 1)).toI, D.i (d.el (↑i : Int).toNat (0 + 1 + 1)).toI, D.i (d.el (↑i : Int).toNat (0 + 1 + 1 + 1)).toI, D.i (d.el (↑i : Int).toNat (0 + 1 + 1 + 1 + 1)).toI, D.i (d.el (↑i : Int).toNat (0 + 1 + 1 + 1 + 1 + 1)).toI, D.i (d.el (↑i : Int).toNat (0 + 1 + 1 + 1 + 1 + 1 + 1)).toI, D.i (d.el (↑i : Int).toNat (0 + 1 + 1 + 1 + 1 + 1 + 1 + 1)).toI, D.i (d.el (↑i : Int).toNat (0 + 1 + 1 + 1 + 1 + 1 + 1 + 1 + 1)).toI, d.el (↑i : Int).toNat (0 + 1 + 1 + 1 + 1 + 1 + 1 + 1 + 1 + 1), D.i (d.el (↑i : Int).toNat (0 + 1 + 1 + 1 + 1 + 1 + 1 + 1 + 1 + 1 + 1)).toI, D.i (d.el (↑i : Int).toNat (0 + 1 + 1 + 1 + 1 + 1 + 1 + 1 + 1 + 1 + 1 + 1)).toI, D.i (d.el (↑i : Int).toNat (0 + 1 + 1 + 1 + 1 + 1 + 1 + 1 + 1 + 1 + 1 + 1 + 1)).toI, D.i (d.el (↑i : Int).toNat (0 + 1 + 1 + 1 + 1 + 1 + 1 + 1 + 1 + 1 + 1 + 1 + 1 + 1)).toI, d.el (↑i : Int).toNat (0 + 1 + 1 + 1 + 1 + 1 + 1 + 1 + 1 + 1 + 1 + 1 + 1 + 1 + 1), D.i (d.el (↑i : Int).toNat (0 + 1 + 1 + 1 + 1 + 1 + 1 + 1 + 1 + 1 + 1 + 1 + 1 + 1 + 1 + 1)).toI, D.i (d.el (↑i : Int).toNat (0 + 1 + 1 + 1 + 1 + 1 + 1 + 1 + 1 + 1 + 1 + 1 + 1 + 1 + 1 + 1 + 1)).toI, D.i (d.el (↑i : Int).toNat (0 + 1 + 1 + 1 + 1 + 1 + 1 + 1 + 1 + 1 + 1 + 1 + 1 + 1 + 1 + 1 + 1 + 1)).toI, d.el (↑i : Int).toNat (0 + 1 + 1 + 1 + 1 + 1 + 1 + 1 + 1 + 1 + 1 + 1 + 1 + 1 + 1 + 1 + 1 + 1 + 1)] ∧ (p [D.i (d.el (↑i : Int).toNat 0).toI, D.i (d.el (↑i : Int).toNat (0 + 1)).toI, D.i (d.el (↑i : Int).toNat (0 + 1 + 1)).toI, D.i (d.el (↑i : Int).toNat (0 + 1 + 1 + 1)).toI, D.i (d.el (↑i : Int).toNat (0 + 1 + 1 + 1 + 1)).toI, D.i (d.el (↑i : Int).toNat (0 + 1 + 1 + 1 + 1 + 1)).toI, D.i (d.el (↑i : Int).toNat (0 + 1 + 1 + 1 + 1 + 1 + 1)).toI, D.i (d.el (↑i : Int).toNat (0 + 1 + 1 + 1 + 1 + 1 + 1 + 1)).toI, D.i (d.el (↑i : Int).toNat (0 + 1 + 1 + 1 + 1 + 1 + 1 + 1 + 1)).toI, d.el (↑i : Int).toNat (0 + 1 + 1 + 1 + 1 + 1 + 1 + 1 + 1 + 1), D.i (d.el (↑i : Int).toNat (0 + 1 + 1 + 1 + 1 + 1 + 1 + 1 + 1 + 1 + 1)).toI, D.i (d.el (↑i : Int).toNat (0 + 1 + 1 + 1 + 1 + 1 + 1 + 1 + 1 + 1 + 1 + 1)).toI, D.i (d.el (↑i : Int).toNat (0 + 1 + 1 + 1 + 1 + 1 + 1 + 1 + 1 + 1 + 1 + 1 + 1)).toI, D.i (d.el (↑i : Int).toNat (0 + 1 + 1 + 1 + 1 + 1 + 1 + 1 + 1 + 1 + 1 + 1 + 1 + 1)).toI, d.el (↑i : Int).toNat (0 + 1 + 1 + 1 + 1 + 1 + 1 + 1 + 1 + 1 + 1 + 1 + 1 + 1 + 1), D.i (d.el (↑i : Int).toNat (0 + 1 + 1 + 1 + 1 + 1 + 1 + 1 + 1 + 1 + 1 + 1 + 1 + 1 + 1 + 1)).toI, D.i (d.el (↑i : Int).toNat (0 + 1 + 1 + 1 + 1 + 1 + 1 + 1 + 1 + 1 + 1 + 1 + 1 + 1 + 1 + 1 + 1)).toI, D.i (d.el (↑i : Int).toNat (0 + 1 + 1 + 1 + 1 + 1 + 1 + 1 + 1 + 1 + 1 + 1 + 1 + 1 + 1 + 1 + 1 + 1)).toI, d.el (↑i : Int).toNat (0 + 1 + 1 + 1 + 1 + 1 + 1 + 1 + 1 + 1 + 1 + 1 + 1 + 1 + 1 + 1 + 1 + 1 + 1)] = true → (↑i : Int) = idxF (fun (i : Nat) => p (cEd d i)) d.len) ∧ (p [D.i (d.el (↑i : Int).toNat 0).toI, D.i (d.el (↑i : Int).toNat (0 + 1)).toI, D.i (d.el (↑i : Int).toNat (0 + 1 + 1)).toI, D.i (d.el (↑i : Int).toNat (0 + 1 + 1 + 1)).toI, D.i (d.el (↑i : Int).toNat (0 + 1 + 1 + 1 + 1)).toI, D.i (d.el (↑i : Int).toNat (0 + 1 + 1 + 1 + 1 + 1)).toI, D.i (d.el (↑i : Int).toNat (0 + 1 + 1 + 1 + 1 + 1 + 1)).toI, D.i (d.el (↑i : Int).toNat (0 + 1 + 1 + 1 + 1 + 1 + 1 + 1)).toI, D.i (d.el (↑i : Int).toNat (0 + 1 + 1 + 1 + 1 + 1 + 1 + 1 + 1)).toI, d.el (↑i : Int).toNat (0 + 1 + 1 + 1 + 1 + 1 + 1 + 1 + 1 + 1), D.i (d.el (↑i : Int).toNat (0 + 1 + 1 + 1 + 1 + 1 + 1 + 1 + 1 + 1 + 1)).toI, D.i (d.el (↑i : Int).toNat (0 + 1 + 1 + 1 + 1 + 1 + 1 + 1 + 1 + 1 + 1 + 1)).toI, D.i (d.el (↑i : Int).toNat (0 + 1 + 1 + 1 + 1 + 1 + 1 + 1 + 1 + 1 + 1 + 1 + 1)).toI, D.i (d.el (↑i : Int).toNat (0 + 1 + 1 + 1 + 1 + 1 + 1 + 1 + 1 + 1 + 1 + 1 + 1 + 1)).toI, d.el (↑i : Int).toNat (0 + 1 + 1 + 1 + 1 + 1 + 1 + 1 + 1 + 1 + 1 + 1 + 1 + 1 + 1), D.i (d.el (↑i : Int).toNat (0 + 1 + 1 + 1 + 1 + 1 + 1 + 1 + 1 + 1 + 1 + 1 + 1 + 1 + 1 + 1)).toI, D.i (d.el (↑i : Int).toNat (0 + 1 + 1 + 1 + 1 + 1 + 1 + 1 + 1 + 1 + 1 + 1 + 1 + 1 + 1 + 1 + 1)).toI, D.i (d.el (↑i : Int).toNat (0 + 1 + 1 + 1 + 1 + 1 + 1 + 1 + 1 + 1 + 1 + 1 + 1 + 1 + 1 + 1 + 1 + 1)).toI, d.el (↑i : Int).toNat (0 + 1 + 1 + 1 + 1 + 1 + 1 + 1 + 1 + 1 + 1 + 1 + 1 + 1 + 1 + 1 + 1 + 1 + 1)] = false → ∃ (j : Nat), (j ≤ d.len ∧ ∀ (j_1 : Nat), j_1 < j → p (cEd d j_1) = false) ∧ d.len - j < d.len - i ∧ IntKind.i64.wrap ((↑i : Int) + (1 : Int)) = (↑j : Int) ∧ d.rows = d.rows ∧ p = p ∧ ok = ok ∧ (↑d.len : Int) = (↑d.len : Int))) ∧ (decide ((↑i : Int) < (↑d.len : Int)) = false → (-1 : Int) = idxF (fun (i : Nat) => p (cEd d i)) d.len)) (by kernel_rfl) ?_
    intro hc ho
    have e0 : ∀ (i : Nat), ((i : Int)).toNat = i := fun i => Int.toNat_natCast i
    refine ⟨⟨0, ⟨Nat.zero_le _, fun j hj => absurd hj (Nat.not_lt_zero j)⟩, rfl, rfl, rfl, rfl, rfl⟩, fun i hp => ⟨fun hl => ?_, fun hl => ?_⟩⟩
    · have hi : i < d.len := by have := of_decide_eq_true hl; omega
      refine ⟨⟨by omega, by omega⟩, by simp only [e0]; exact ho i hi, fun hq => ?_, fun hq => ?_⟩
      · simp only [e0] at hq
        exact (idxF_hit hi hq hp.2).symm
      · simp only [e0] at hq
        have hw : IntKind.i64.wrap ((i : Int) + 1) = ((i + 1 : Nat) : Int) := by rw [IntWalk.i64_in _ (by omega)]; omega
        refine ⟨i + 1, ⟨by omega, fun j hj => ?_⟩, by omega, hw, rfl, rfl, rfl, rfl⟩
        rcases Nat.lt_or_ge j i with h | h
        · exact hp.2 j h
        · obtain rfl : j = i := by omega
          exact hq
    · have hi : ¬ i < d.len := by have := of_decide_eq_false hl; omega
      exact (idxF_no fun j hj => hp.2 j (by omega)).symm
  · trivial
noncomputable def ixgS : FSpec := fun ds _ => match ds with
  | [.d d, .q p ok] => some { val := .one (.sc (.int .i64 (.sym (idxF (fun i => p (cGr d i)) d.len)))), vc := [d.len ≤ 1000000, ∀ i, i < d.len → ok (cGr d i)] }
  | _ => none
noncomputable def ixgC : Con := con [.sc (.rows 35), .sc (.fn true 35)] ixgS
theorem ixg_ok : ConOK Tryz.prog 70 ixgC := by
  refine fn_ob tt_ok mixed Tryz.func70 rfl (fun _ _ => by kernel_rfl) (A := fun ds => ⟨fun _ => Cons.of [], fun k => match k, ds with | 2, [.d d, .q p ok] => some { ι := Nat, pre := fun _ i => i ≤ d.len ∧ ∀ j, j < i → p (cGr d j) = false, μ := fun i => d.len - i, st := fun s i => famR s [(8, .one (.sc (.int .i64 (.sym ((i : Int))))))] [0, 1, 7] [] [] } | _, _ => none, fun _ => none⟩) (fun _ _ => cons_nil) (by kernel_rfl) ?_
  intro ds fr
  unfold ixgS
  split
  · rename_i d p ok
    refine kmp (q := d.len ≤ 1000000 → (∀ (i : Nat), i < d.len → ok (cGr d i)) → (∃ (i : Nat), (i ≤ d.len ∧ ∀ (j : Nat), j < i → p (cGr d j) = false) ∧ (0 : Int) = (↑i : Int) ∧ d.rows = d.rows ∧ p = p ∧ ok = ok ∧ (↑d.len : Int) = (↑d.len : Int)) ∧ ∀ (i : Nat), (i ≤ d.len ∧ ∀ (j : Nat), j < i → p (cGr d j) = false) → (decide ((↑i : Int) < (↑d.len : Int)) = true → ((0 : Int) ≤ (↑i : Int) ∧ (↑i : Int) < (↑d.len : Int)) ∧ ok [D.i (d.el (↑i : Int).toNat 0).toI, d.el (↑i : Int).toNat (0 + 1), d.el (↑i : Int).toNat (0 + 1 + 1)] ∧ (p [D.i (d.el (↑i : Int).toNat 0).toI, d.el (↑i : Int).toNat (0 + 1), d.el (↑i : Int).toNat (0 + 1 + 1)] = true → (↑i : Int) = idxF (fun (i : Nat) => p (cGr d i)) d.len) ∧ (p [D.i (d.el (↑i : Int).toNat 0).toI, d.el (↑i : Int).toNat (0 + 1), d.el (↑i : Int).toNat (0 + 1 + 1)] = false → ∃ (j : Nat), (j ≤ d.len ∧ ∀ (j_1 : Nat), j_1 < j → p (cGr d j_1) = false) ∧ d.len - j < d.len - i ∧ IntKind.i64.wrap ((↑i : Int) + (1 : Int)) = (↑j : Int) ∧ d.rows = d.rows ∧ p = p ∧ ok = ok ∧ (↑d.len : Int) = (↑d.len : Int))) ∧ (decide ((↑i : Int) < (↑d.len : Int)) = false → (-1 : Int) = idxF (fun (i : Nat) => p (cGr d i)) d.len)) (by kernel_rfl) ?_
    intro hc ho
    have e0 : ∀ (i : Nat), ((i : Int)).toNat = i := fun i => Int.toNat_natCast i
    refine ⟨⟨0, ⟨Nat.zero_le _, fun j hj => absurd hj (Nat.not_lt_zero j)⟩, rfl, rfl, rfl, rfl, rfl⟩, fun i hp => ⟨fun hl => ?_, fun hl => ?_⟩⟩
    · have hi : i < d.len := by have := of_decide_eq_true hl; omega
      refine ⟨⟨by omega, by omega⟩, by simp only [e0]; exact ho i hi, fun hq => ?_, fun hq => ?_⟩
      · simp only [e0] at hq
        exact (idxF_hit hi hq hp.2).symm
      · simp only [e0] at hq
        have hw : IntKind.i64.wrap ((i : Int) + 1) = ((i + 1 : Nat) : Int) := by rw [IntWalk.i64_in _ (by omega)]; omega
        refine ⟨i + 1, ⟨by omega, fun j hj => ?_⟩, by omega, hw, rfl, rfl, rfl, rfl⟩
        rcases Nat.lt_or_ge j i with h | h
        · exact hp.2 j h
        · obtain rfl : j = i := by omega
          exact hq
    · have hi : ¬ i < d.len := by have := of_decide_eq_false hl; omega
      exact (idxF_no fun j hj => hp.2 j (by omega)).symm
  · trivial
noncomputable def ixnS : FSpec := fun ds _ => match ds with
  | [.d d, .q p ok] => some { val := .one (.sc (.int .i64 (.sym (idxF (fun i => p (cIn d i)) d.len)))), vc := [d.len ≤ 1000000, ∀ i, i < d.len → ok (cIn d i)] }
  | _ => none
noncomputable def ixnC : Con := con [.sc (.rows 3), .sc (.fn false 3)] ixnS
theorem ixn_ok : ConOK Tryz.prog 136 ixnC := by
  refine fn_ob tt_ok mixed Tryz.func136 rfl (fun _ _ => by kernel_rfl) (A := fun ds => ⟨fun _ => Cons.of [], fun k => match k, ds with | 2, [.d d, .q p ok] => some { ι := Nat, pre := fun _ i => i ≤ d.len ∧ ∀ j, j < i → p (cIn d j) = false, μ := fun i => d.len - i, st := fun s i => famR s [(8, .one (.sc (.int .i64 (.sym ((i : Int))))))] [0, 1, 7] [] [] } | _, _ => none, fun _ => none⟩) (fun _ _ => cons_nil) (by kernel_rfl) ?_
  intro ds fr
  unfold ixnS
  split
  · rename_i d p ok
    refine kmp (q := d.len ≤ 1000000 → (∀ (i : Nat), i < d.len → ok (cIn d i)) → (∃ (i : Nat), (i ≤ d.len ∧ ∀ (j : Nat), j < i → p (cIn d j) = false) ∧ (0 : Int) = (↑i : Int) ∧ d.rows = d.rows ∧ p = p ∧ ok = ok ∧ (↑d.len : Int) = (↑d.len : Int)) ∧ ∀ (i : Nat), (i ≤ d.len ∧ ∀ (j : Nat), j < i → p (cIn d j) = false) → (decide ((↑i : Int) < (↑d.len : Int)) = true → ((0 : Int) ≤ (↑i : Int) ∧ (↑i : Int) < (↑d.len : Int)) ∧ ok [D.i (d.el (↑i : Int).toNat 0).toI] ∧ (p [D.i (d.el (↑i : Int).toNat 0).toI] = true → (↑i : Int) = idxF (fun (i : Nat) => p (cIn d i)) d.len) ∧ (p [D.i (d.el (↑i : Int).toNat 0).toI] = false → ∃ (j : Nat), (j ≤ d.len ∧ ∀ (j_1 : Nat), j_1 < j → p (cIn d j_1) = false) ∧ d.len - j < d.len - i ∧ IntKind.i64.wrap ((↑i : Int) + (1 : Int)) = (↑j : Int) ∧ d.rows = d.rows ∧ p = p ∧ ok = ok ∧ (↑d.len : Int) = (↑d.len : Int))) ∧ (decide ((↑i : Int) < (↑d.len : Int)) = false → (-1 : Int) = idxF (fun (i : Nat) => p (cIn d i)) d.len)) (by kernel_rfl) ?_
    intro hc ho
    have e0 : ∀ (i : Nat), ((i : Int)).toNat = i := fun i => Int.toNat_natCast i
    refine ⟨⟨0, ⟨Nat.zero_le _, fun j hj => absurd hj (Nat.not_lt_zero j)⟩, rfl, rfl, rfl, rfl, rfl⟩, fun i hp => ⟨fun hl => ?_, fun hl => ?_⟩⟩
    · have hi : i < d.len := by have := of_decide_eq_true hl; omega
      refine ⟨⟨by omega, by omega⟩, by simp only [e0]; exact ho i hi, fun hq => ?_, fun hq => ?_⟩
      · simp only [e0] at hq
        exact (idxF_hit hi hq hp.2).symm
      · simp only [e0] at hq
        have hw : IntKind.i64.wrap ((i : Int) + 1) = ((i + 1 : Nat) : Int) := by rw [IntWalk.i64_in _ (by omega)]; omega
        refine ⟨i + 1, ⟨by omega, fun j hj => ?_⟩, by omega, hw, rfl, rfl, rfl, rfl⟩
        rcases Nat.lt_or_ge j i with h | h
        · exact hp.2 j h
        · obtain rfl : j = i := by omega
          exact hq
    · have hi : ¬ i < d.len := by have := of_decide_eq_false hl; omega
      exact (idxF_no fun j hj => hp.2 j (by omega)).symm
  · trivial
noncomputable def cfeS : FSpec := fun ds _ => match ds with
  | [.d d, .q p ok] => some { val := .one (.sc (.bool (.sym (anyF (fun i => p (cEd d i)) d.len)))), vc := [d.len ≤ 1000000, ∀ i, i < d.len → ok (cEd d i)] }
  | _ => none
noncomputable def cfeC : Con := con [.sc (.rows 31), .sc (.fn true 31)] cfeS
theorem cfe_ok : ConOK Tryz.prog 41 cfeC := by
  refine fn_ob tt_ok mixed Tryz.func41 rfl (fun _ _ => by kernel_rfl) (A := fun ds => ⟨fun _ => Cons.of [(71, ixeC)], fun _ => none, fun _ => none⟩) (fun _ _ => (cons_cons ixe_ok cons_nil)) (by kernel_rfl) ?_
  intro ds fr
  unfold cfeS
  split
  · rename_i d p ok
    refine kmp (q := d.len ≤ 1000000 → (∀ (i : Nat), i < d.len → ok (cEd d i)) → d.len ≤ 1000000 ∧ (∀ (i : Nat), i < d.len → ok (cEd d i)) ∧ decide (idxF (fun (i : Nat) => p (cEd d i)) d.len ≥ (0 : Int)) = anyF (fun (i : Nat) => p (cEd d i)) d.len) (by kernel_rfl) ?_
    intro hc ho
    exact ⟨hc, ho, rfl⟩
  · trivial
noncomputable def cfgS : FSpec := fun ds _ => match ds with
  | [.d d, .q p ok] => some { val := .one (.sc (.bool (.sym (anyF (fun i => p (cGr d i)) d.len)))), vc := [d.len ≤ 1000000, ∀ i, i < d.len → ok (cGr d i)] }
  | _ => none
noncomputable def cfgC : Con := con [.sc (.rows 35), .sc (.fn true 35)] cfgS
theorem cfg_ok : ConOK Tryz.prog 39 cfgC := by
  refine fn_ob tt_ok mixed Tryz.func39 rfl (fun _ _ => by kernel_rfl) (A := fun ds => ⟨fun _ => Cons.of [(70, ixgC)], fun _ => none, fun _ => none⟩) (fun _ _ => (cons_cons ixg_ok cons_nil)) (by kernel_rfl) ?_
  intro ds fr
  unfold cfgS
  split
  · rename_i d p ok
    refine kmp (q := d.len ≤ 1000000 → (∀ (i : Nat), i < d.len → ok (cGr d i)) → d.len ≤ 1000000 ∧ (∀ (i : Nat), i < d.len → ok (cGr d i)) ∧ decide (idxF (fun (i : Nat) => p (cGr d i)) d.len ≥ (0 : Int)) = anyF (fun (i : Nat) => p (cGr d i)) d.len) (by kernel_rfl) ?_
    intro hc ho
    exact ⟨hc, ho, rfl⟩
  · trivial
noncomputable def cfnS : FSpec := fun ds _ => match ds with
  | [.d d, .q p ok] => some { val := .one (.sc (.bool (.sym (anyF (fun i => p (cIn d i)) d.len)))), vc := [d.len ≤ 1000000, ∀ i, i < d.len → ok (cIn d i)] }
  | _ => none
noncomputable def cfnC : Con := con [.sc (.rows 3), .sc (.fn false 3)] cfnS
theorem cfn_ok : ConOK Tryz.prog 117 cfnC := by
  refine fn_ob tt_ok mixed Tryz.func117 rfl (fun _ _ => by kernel_rfl) (A := fun ds => ⟨fun _ => Cons.of [(136, ixnC)], fun _ => none, fun _ => none⟩) (fun _ _ => (cons_cons ixn_ok cons_nil)) (by kernel_rfl) ?_
  intro ds fr
  unfold cfnS
  split
  · rename_i d p ok
    refine kmp (q := d.len ≤ 1000000 → (∀ (i : Nat), i < d.len → ok (cIn d i)) → d.len ≤ 1000000 ∧ (∀ (i : Nat), i < d.len → ok (cIn d i)) ∧ decide (idxF (fun (i : Nat) => p (cIn d i)) d.len ≥ (0 : Int)) = anyF (fun (i : Nat) => p (cIn d i)) d.len) (by kernel_rfl) ?_
    intro hc ho
    exact ⟨hc, ho, rfl⟩
  · trivial
end Go.Proofs.YtlgmofjjjhbgkaaGreat.Sx.Z
namespace Go.Proofs.YtlgmofjjjhbgkaaGreat.Sx.Z
open Go.RowKit
def zs (n : SI) (b : SB) (D : Nat → Int) : List Seg := [.c (.int .i64 n), .c (.bool b), .ints .i64 (.lit 49) D]
def i0 : Seg := .c (.int .i64 (.lit 0))
def zA : AP := .agg [.c (.int .i64), .c .bool, .ints .i64 49]
def iA : AP := .sc (.int .i64)
def itvA : AP := .agg [.c (.int .i64), .c (.int .i64)]
theorem wr (x : Int) (h : -9223372036854775808 ≤ x ∧ x ≤ 9223372036854775807) : IntKind.i64.wrap x = x := IntWalk.i64_in x h
/-- From one number to another one, as far as a variable may be. -/
def ofLo (a b : Int) : Int := if min b 2147483647 < max a (-2147483648) then 1 else max a (-2147483648)
def ofHi (a b : Int) : Int := if min b 2147483647 < max a (-2147483648) then 0 else min b 2147483647
/-- How many rows. -/
def rowsP (n : Int) : Int := 1 + min (max n 0) 6
theorem rowsP_le (n : Int) : 1 ≤ rowsP n ∧ rowsP n ≤ 7 := by unfold rowsP; omega
def isVarP (n x : Int) : Bool := decide (0 ≤ x) && decide (x < rowsP n - 1)
theorem isVarP_lt {n x : Int} (h : isVarP n x = true) : 0 ≤ x ∧ x < rowsP n - 1 ∧ x ≤ 5 := by
  have := rowsP_le n
  simp only [isVarP, Bool.and_eq_true, decide_eq_true_eq] at h
  omega
def Sm (f : Nat → Int) : Prop := ∀ o, o < 49 → -1099511627776 ≤ f o ∧ f o ≤ 1099511627776
def itvLo (n : Int) (c : Bool) (f : Nat → Int) (x : Int) : Int := if (c || !isVarP n x) = true then 1 else ofLo (0 - f (x + 1).toNat) (f ((x + 1).toNat * 7))
def itvHi (n : Int) (c : Bool) (f : Nat → Int) (x : Int) : Int := if (c || !isVarP n x) = true then 0 else ofHi (0 - f (x + 1).toNat) (f ((x + 1).toNat * 7))
def isEndP (n x : Int) : Bool := (x == -1) || isVarP n x
def emptyS : FSpec := fun ds _ => match ds with
  | [.i a, .i b] => some { val := .one (.sc (.bool (.sym (decide (b < a))))), vc := [] }
  | _ => none
def emptyC : Con := con [itvA] emptyS
theorem empty_ok : ConOK Tryz.prog 48 emptyC := by
  refine fn_ob tt_ok mixed Tryz.func48 rfl (fun _ _ => by kernel_rfl) (A := fun ds => ⟨fun _ => Cons.of [], fun _ => none, fun _ => none⟩) (fun _ _ => cons_nil) (by kernel_rfl) ?_
  intro ds fr
  unfold emptyS
  split
  · rename_i a b
    refine kmp (q := decide (a > b) = decide (b < a)) (by kernel_rfl) ?_
    rfl
  · trivial
def inoneS : FSpec := fun ds _ => match ds with
  | [] => some { val := .one (.agg [.c (.int .i64 (.sym (1))), .c (.int .i64 (.sym (0)))]), vc := [] }
  | _ => none
def inoneC : Con := con [] inoneS
theorem inone_ok : ConOK Tryz.prog 37 inoneC := by
  refine fn_ob tt_ok mixed Tryz.func37 rfl (fun _ _ => by kernel_rfl) (A := fun ds => ⟨fun _ => Cons.of [], fun _ => none, fun _ => none⟩) (fun _ _ => cons_nil) (by kernel_rfl) ?_
  intro ds fr
  unfold inoneS
  split
  · skip
    refine kmp (q := (1 : Int) = (1 : Int) ∧ (0 : Int) = (0 : Int)) (by kernel_rfl) ?_
    exact ⟨rfl, rfl⟩
  · trivial
def iallS : FSpec := fun ds _ => match ds with
  | [] => some { val := .one (.agg [.c (.int .i64 (.sym (-2147483648))), .c (.int .i64 (.sym (2147483647)))]), vc := [] }
  | _ => none
def iallC : Con := con [] iallS
theorem iall_ok : ConOK Tryz.prog 19 iallC := by
  refine fn_ob tt_ok mixed Tryz.func19 rfl (fun _ _ => by kernel_rfl) (A := fun ds => ⟨fun _ => Cons.of [], fun _ => none, fun _ => none⟩) (fun _ _ => cons_nil) (by kernel_rfl) ?_
  intro ds fr
  unfold iallS
  split
  · skip
    refine kmp (q := (-2147483648 : Int) = (-2147483648 : Int) ∧ (2147483647 : Int) = (2147483647 : Int)) (by kernel_rfl) ?_
    exact ⟨rfl, rfl⟩
  · trivial
def iofS : FSpec := fun ds _ => match ds with
  | [.i a, .i b] => some { val := .one (.agg [.c (.int .i64 (.sym (ofLo a b))), .c (.int .i64 (.sym (ofHi a b)))]), vc := [] }
  | _ => none
def iofC : Con := con [iA, iA] iofS
theorem iof_ok : ConOK Tryz.prog 21 iofC := by
  refine fn_ob tt_ok mixed Tryz.func21 rfl (fun _ _ => by kernel_rfl) (A := fun ds => ⟨fun _ => Cons.of [(48, emptyC), (37, inoneC)], fun _ => none, fun _ => none⟩) (fun _ _ => (cons_cons empty_ok (cons_cons inone_ok cons_nil))) (by kernel_rfl) ?_
  intro ds fr
  unfold iofS
  split
  · rename_i a b
    refine kmp (q := (decide ((if (2147483647 : Int) < b then (2147483647 : Int) else b) < if (-2147483648 : Int) > a then (-2147483648 : Int) else a) = true → (1 : Int) = ofLo a b ∧ (0 : Int) = ofHi a b) ∧ (decide ((if (2147483647 : Int) < b then (2147483647 : Int) else b) < if (-2147483648 : Int) > a then (-2147483648 : Int) else a) = false → (if (-2147483648 : Int) > a then (-2147483648 : Int) else a) = ofLo a b ∧ (if (2147483647 : Int) < b then (2147483647 : Int) else b) = ofHi a b)) (by kernel_rfl) ?_
    unfold ofLo ofHi
    refine ⟨fun h => ?_, fun h => ?_⟩
    · have h := of_decide_eq_true h
      (repeat' split at h) <;> (repeat' split) <;> omega
    · have h := of_decide_eq_false h
      (repeat' split at h) <;> (repeat' split) <;> omega
  · trivial
def iconstS : FSpec := fun ds _ => match ds with
  | [.i a] => some { val := .one (.agg [.c (.int .i64 (.sym (ofLo a a))), .c (.int .i64 (.sym (ofHi a a)))]), vc := [] }
  | _ => none
def iconstC : Con := con [iA] iconstS
theorem iconst_ok : ConOK Tryz.prog 16 iconstC := by
  refine fn_ob tt_ok mixed Tryz.func16 rfl (fun _ _ => by kernel_rfl) (A := fun ds => ⟨fun _ => Cons.of [(21, iofC)], fun _ => none, fun _ => none⟩) (fun _ _ => (cons_cons iof_ok cons_nil)) (by kernel_rfl) ?_
  intro ds fr
  unfold iconstS
  split
  · rename_i a
    refine kmp (q := ofLo a a = ofLo a a ∧ ofHi a a = ofHi a a) (by kernel_rfl) ?_
    exact ⟨rfl, rfl⟩
  · trivial
def rowsS : FSpec := fun ds _ => match ds with
  | [.i n, .b _, .f _] => some { val := .one (.sc (.int .i64 (.sym (rowsP n)))), vc := [] }
  | _ => none
def rowsC : Con := con [zA] rowsS
theorem rows_ok : ConOK Tryz.prog 68 rowsC := by
  refine fn_ob tt_ok mixed Tryz.func68 rfl (fun _ _ => by kernel_rfl) (A := fun ds => ⟨fun _ => Cons.of [], fun _ => none, fun _ => none⟩) (fun _ _ => cons_nil) (by kernel_rfl) ?_
  intro ds fr
  unfold rowsS
  split
  · rename_i n c f
    refine kmp (q := IntKind.i64.wrap ((1 : Int) + if (6 : Int) < if (0 : Int) > n then (0 : Int) else n then (6 : Int) else if (0 : Int) > n then (0 : Int) else n) = rowsP n) (by kernel_rfl) ?_
    rw [wr _ (by (repeat' split) <;> omega)]
    unfold rowsP
    (repeat' split) <;> omega
  · trivial
def isVarS : FSpec := fun ds _ => match ds with
  | [.i n, .b _, .f _, .i x] => some { val := .one (.sc (.bool (.sym (isVarP n x)))), vc := [] }
  | _ => none
def isVarC : Con := con [zA, iA] isVarS
theorem isVar_ok : ConOK Tryz.prog 75 isVarC := by
  refine fn_ob tt_ok mixed Tryz.func75 rfl (fun _ _ => by kernel_rfl) (A := fun ds => ⟨fun _ => Cons.of [(68, rowsC)], fun _ => none, fun _ => none⟩) (fun _ _ => (cons_cons rows_ok cons_nil)) (by kernel_rfl) ?_
  intro ds fr
  unfold isVarS
  split
  · rename_i n c f x
    refine kmp (q := (decide (x ≥ (0 : Int)) && decide (x < IntKind.i64.wrap (rowsP n - (1 : Int)))) = isVarP n x) (by kernel_rfl) ?_
    have := rowsP_le n
    rw [wr _ (by omega)]
    rfl
  · trivial
def isEndS : FSpec := fun ds _ => match ds with
  | [.i n, .b _, .f _, .i x] => some { val := .one (.sc (.bool (.sym (isEndP n x)))), vc := [] }
  | _ => none
def isEndC : Con := con [zA, iA] isEndS
theorem isEnd_ok : ConOK Tryz.prog 104 isEndC := by
  refine fn_ob tt_ok mixed Tryz.func104 rfl (fun _ _ => by kernel_rfl) (A := fun ds => ⟨fun _ => Cons.of [(75, isVarC)], fun _ => none, fun _ => none⟩) (fun _ _ => (cons_cons isVar_ok cons_nil)) (by kernel_rfl) ?_
  intro ds fr
  unfold isEndS
  split
  · rename_i n c f x
    refine kmp (q := (x == (-1 : Int) || isVarP n x) = isEndP n x) (by kernel_rfl) ?_
    rfl
  · trivial
def zerosS : FSpec := fun ds _ => match ds with
  | [.i n] => some { val := .one (.agg [.c (.int .i64 (.sym (min (max n 0) 6))), .c (.bool (.sym (false))), .ints .i64 (.lit 49) (fun _ => 0)]), vc := [] }
  | _ => none
def zerosC : Con := con [iA] zerosS
theorem zeros_ok : ConOK Tryz.prog 52 zerosC := by
  refine fn_ob tt_ok mixed Tryz.func52 rfl (fun _ _ => by kernel_rfl) (A := fun ds => ⟨fun _ => Cons.of [], fun _ => none, fun _ => none⟩) (fun _ _ => cons_nil) (by kernel_rfl) ?_
  intro ds fr
  unfold zerosS
  split
  · rename_i n
    refine kmp (q := (if (6 : Int) < if (0 : Int) > n then (0 : Int) else n then (6 : Int) else if (0 : Int) > n then (0 : Int) else n) = min (max n (0 : Int)) (6 : Int) ∧ false = false ∧ ∀ (o : Nat), o < 49 → (0 : Int) = (0 : Int)) (by kernel_rfl) ?_
    exact ⟨by (repeat' split) <;> omega, rfl, fun _ _ => rfl⟩
  · trivial
def zitvS : FSpec := fun ds _ => match ds with
  | [.i n, .b c, .f f, .i x] => some { val := .one (.agg [.c (.int .i64 (.sym (itvLo n c f x))), .c (.int .i64 (.sym (itvHi n c f x)))]), vc := [Sm f] }
  | _ => none
def zitvC : Con := con [zA, iA] zitvS
theorem zitv_ok : ConOK Tryz.prog 72 zitvC := by
  refine fn_ob tt_ok mixed Tryz.func72 rfl (fun _ _ => by kernel_rfl) (A := fun ds => ⟨fun _ => Cons.of [(75, isVarC), (37, inoneC), (21, iofC)], fun _ => none, fun _ => none⟩) (fun _ _ => (cons_cons isVar_ok (cons_cons inone_ok (cons_cons iof_ok cons_nil)))) (by kernel_rfl) ?_
  intro ds fr
  unfold zitvS
  split
  · rename_i n c f x
    refine kmp (q := Sm f → ((c || !isVarP n x) = true → (1 : Int) = itvLo n c f x ∧ (0 : Int) = itvHi n c f x) ∧ ((c || !isVarP n x) = false → ((0 : Int) ≤ IntKind.i64.wrap (x + (1 : Int)) ∧ IntKind.i64.wrap (x + (1 : Int)) < (↑7 : Int)) ∧ nat_lit 0 + (IntKind.i64.wrap (x + (1 : Int))).toNat * 1 < 49 ∧ ((0 : Int) ≤ IntKind.i64.wrap (x + (1 : Int)) ∧ IntKind.i64.wrap (x + (1 : Int)) < (↑7 : Int)) ∧ nat_lit 0 + (IntKind.i64.wrap (x + (1 : Int))).toNat * 7 < 49 ∧ ofLo (IntKind.i64.wrap ((0 : Int) - f (nat_lit 0 + (IntKind.i64.wrap (x + (1 : Int))).toNat * 1))) (f (nat_lit 0 + (IntKind.i64.wrap (x + (1 : Int))).toNat * 7)) = itvLo n c f x ∧ ofHi (IntKind.i64.wrap ((0 : Int) - f (nat_lit 0 + (IntKind.i64.wrap (x + (1 : Int))).toNat * 1))) (f (nat_lit 0 + (IntKind.i64.wrap (x + (1 : Int))).toNat * 7)) = itvHi n c f x)) (by kernel_rfl) ?_
    refine fun hs => ⟨fun h => ?_, fun h => ?_⟩
    · unfold itvLo itvHi; rw [h]; exact ⟨rfl, rfl⟩
    · have hv := isVarP_lt (show isVarP n x = true by revert h; cases c <;> cases isVarP n x <;> simp)
      rw [wr (x + 1) (by omega)]
      have e1 : nat_lit 0 + (x + 1).toNat * 1 = (x + 1).toNat := by rw [Nat.mul_one]; exact Nat.zero_add _
      have e2 : nat_lit 0 + (x + 1).toNat * 7 = (x + 1).toNat * 7 := Nat.zero_add _
      rw [e1, e2]
      have h1 := hs (x + 1).toNat (by omega)
      rw [wr _ (by omega)]
      unfold itvLo itvHi
      rw [h]
      exact ⟨by omega, by omega, by omega, by omega, rfl, rfl⟩
  · trivial
end Go.Proofs.YtlgmofjjjhbgkaaGreat.Sx.Z
namespace Go.Proofs.YtlgmofjjjhbgkaaGreat.Sx.Z
open Go.RowKit
def near (f : Nat → Int) (i j : Nat) (by' : Int) (o : Nat) : Int := min (f o) (f (o / 7 * 7 + i) + by' + f (j * 7 + o % 7))
def nearTo (f : Nat → Int) (i j : Nat) (by' : Int) (r k m : Nat) (o : Nat) : Int := if (o / 7 < k ∨ o / 7 = k ∧ o % 7 < m) ∧ o % 7 < r then near f i j by' o else f o
theorem raw0 (n : Nat) : nat_lit 0 + n = n := Nat.zero_add n
theorem icg {α : Sort _} {p q : Prop} [Decidable p] [Decidable q] {a b x y : α} (h : p ↔ q) (h1 : a = x) (h2 : b = y) : (if p then a else b) = (if q then x else y) := by
  by_cases hp : p
  · rw [if_pos hp, if_pos (h.1 hp), h1]
  · rw [if_neg hp, if_neg (fun k => hp (h.2 k)), h2]
theorem c7 : ((7 : Nat) : Int) = 7 := rfl
theorem at_iff (p o : Nat) : ((p.ble o && o.blt (p + 1)) = true) = (o = p) := propext ⟨fun h => by simp only [Bool.and_eq_true, Nat.ble_eq, Nat.blt_eq] at h; omega, fun h => by subst h; simp [Nat.ble_eq, Nat.blt_eq]⟩
theorem dm7 {k m : Nat} (h : m < 7) : (k * 7 + m) / 7 = k ∧ (k * 7 + m) % 7 = m := by omega
theorem nearTo_zero (f : Nat → Int) (i j : Nat) (by' : Int) (r : Nat) (o : Nat) : nearTo f i j by' r 0 0 o = f o := by unfold nearTo; rw [if_neg (by omega)]
theorem nearTo_next {f : Nat → Int} {i j : Nat} {by' : Int} {r k : Nat} (o : Nat) : nearTo f i j by' r k r o = nearTo f i j by' r (k + 1) 0 o := by
  unfold nearTo
  by_cases h : (o / 7 < k ∨ o / 7 = k ∧ o % 7 < r) ∧ o % 7 < r
  · rw [if_pos h, if_pos (by omega)]
  · rw [if_neg h, if_neg (by omega)]
theorem nearTo_step {f : Nat → Int} {i j : Nat} {by' : Int} {r k m : Nat} (hm : m < r) (hr : r ≤ 7) {V : Int} (hV : V = near f i j by' (k * 7 + m)) (o : Nat) :
    (if o = k * 7 + m then V else nearTo f i j by' r k m o) = nearTo f i j by' r k (m + 1) o := by
  by_cases h : o = k * 7 + m
  · subst h
    rw [if_pos rfl, hV]
    unfold nearTo
    rw [if_pos (by have := dm7 (k := k) (m := m) (by omega); omega)]
  · rw [if_neg h]
    unfold nearTo
    by_cases h2 : (o / 7 < k ∨ o / 7 = k ∧ o % 7 < m) ∧ o % 7 < r
    · rw [if_pos h2, if_pos (by omega)]
    · rw [if_neg h2, if_neg (by omega)]
def bdF (n : Int) (f : Nat → Int) (i j : Nat) (by' : Int) (o : Nat) : Int := if by' ≥ f (i * 7 + j) then f o else if by' < 0 - f (j * 7 + i) then 0 else if o / 7 < (rowsP n).toNat ∧ o % 7 < (rowsP n).toNat then near f i j by' o else f o
def bdC (c : Bool) (f : Nat → Int) (i j : Nat) (by' : Int) : Bool := if by' ≥ f (i * 7 + j) then c else if by' < 0 - f (j * 7 + i) then true else c
def boundedS : FSpec := fun ds _ => match ds with
  | [.i n, .b c, .f f, .i i, .i j, .i by_] => some { val := .one (.agg [.c (.int .i64 (.sym (n))), .c (.bool (.sym (bdC c f i.toNat j.toNat by_))), .ints .i64 (.lit 49) (bdF n f i.toNat j.toNat by_)]), vc := [Sm f, (0 ≤ i ∧ i < 7), (0 ≤ j ∧ j < 7)] }
  | _ => none
def boundedC : Con := con [zA, iA, iA, iA] boundedS
theorem bounded_ok : ConOK Tryz.prog 105 boundedC := by
  refine fn_ob tt_ok mixed Tryz.func105 rfl (fun _ _ => by kernel_rfl) (A := fun ds => ⟨fun _ => Cons.of [(68, rowsC)], fun k => match k, ds with | 7, [.i n, .b c, .f f, .i i, .i j, .i by_] => some { ι := Nat, pre := fun _ k => k ≤ (rowsP n).toNat, μ := fun k => 7 - k, st := fun s k => fam s [(38, .one (.sc (.int .i64 (.sym k))))] [1, 2, 3, 4, 8, 9, 37] 9 (.own 44 (zs (.sym n) (.sym c) (nearTo f i.toNat j.toNat by_ (rowsP n).toNat k 0))) [4, 8] } | 10, [.i n, .b c, .f f, .i i, .i j, .i by_] => some { ι := Nat, pre := fun _ m => m ≤ (rowsP n).toNat, μ := fun m => 7 - m, st := fun s m => fam s [(43, .one (.sc (.int .i64 (.sym m))))] [1, 2, 3, 4, 8, 9, 10, 37, 38, 42] 9 (.own 44 (zs (.sym n) (.sym c) (nearTo f i.toNat j.toNat by_ (rowsP n).toNat (slotN s 38) m))) [4, 8] } | _, _ => none, fun _ => none⟩) (fun _ _ => (cons_cons rows_ok cons_nil)) (by kernel_rfl) ?_
  intro ds fr
  unfold boundedS
  split
  · rename_i n c f i j by_
    refine kmp (q := Sm f → (0 : Int) ≤ i ∧ i < (7 : Int) → (0 : Int) ≤ j ∧ j < (7 : Int) → ((0 : Int) ≤ i ∧ i < (↑7 : Int)) ∧ ((0 : Int) ≤ j ∧ j < (↑7 : Int)) ∧ nat_lit 0 + (i.toNat * 7 + j.toNat * 1) < 49 ∧ (decide (by_ ≥ f (nat_lit 0 + (i.toNat * 7 + j.toNat * 1))) = true → n = n ∧ c = bdC c f i.toNat j.toNat by_ ∧ ∀ (o : Nat), o < 49 → f o = bdF n f i.toNat j.toNat by_ o) ∧ (decide (by_ ≥ f (nat_lit 0 + (i.toNat * 7 + j.toNat * 1))) = false → ((0 : Int) ≤ j ∧ j < (↑7 : Int)) ∧ ((0 : Int) ≤ i ∧ i < (↑7 : Int)) ∧ nat_lit 0 + (j.toNat * 7 + i.toNat * 1) < 49 ∧ (decide (by_ < IntKind.i64.wrap ((0 : Int) - f (nat_lit 0 + (j.toNat * 7 + i.toNat * 1)))) = true → n = n ∧ true = bdC c f i.toNat j.toNat by_ ∧ ∀ (o : Nat), o < 49 → (0 : Int) = bdF n f i.toNat j.toNat by_ o) ∧ (decide (by_ < IntKind.i64.wrap ((0 : Int) - f (nat_lit 0 + (j.toNat * 7 + i.toNat * 1)))) = false → (∃ (i_1 : Nat), i_1.le (rowsP n).toNat ∧ (0 : Int) = (↑i_1 : Int) ∧ i = i ∧ j = j ∧ by_ = by_ ∧ rowsP n = rowsP n ∧ n = n ∧ c = c ∧ (∀ (o : Nat), o < 49 → f o = nearTo f i.toNat j.toNat by_ (rowsP n).toNat i_1 0 o) ∧ n = n ∧ c = c ∧ (∀ (o : Nat), o < 49 → f o = f o) ∧ (0 : Int) = (0 : Int) ∧ false = false ∧ ∀ (o : Nat), o < 49 → (0 : Int) = (0 : Int)) ∧ ∀ (i_1 : Nat), i_1.le (rowsP n).toNat → (decide ((↑i_1 : Int) < rowsP n) = true → (∃ (i_2 : Nat), i_2.le (rowsP n).toNat ∧ (0 : Int) = (↑i_2 : Int) ∧ i = i ∧ j = j ∧ by_ = by_ ∧ (↑i_1 : Int) = (↑i_1 : Int) ∧ rowsP n = rowsP n ∧ (↑i_1 : Int) = (↑i_1 : Int) ∧ rowsP n = rowsP n ∧ n = n ∧ c = c ∧ (∀ (o : Nat), o < 49 → nearTo f i.toNat j.toNat by_ (rowsP n).toNat i_1 0 o = nearTo f i.toNat j.toNat by_ (rowsP n).toNat (↑i_1 : Int).toNat i_2 o) ∧ n = n ∧ c = c ∧ (∀ (o : Nat), o < 49 → f o = f o) ∧ (0 : Int) = (0 : Int) ∧ false = false ∧ ∀ (o : Nat), o < 49 → (0 : Int) = (0 : Int)) ∧ ∀ (i_2 : Nat), i_2.le (rowsP n).toNat → (decide ((↑i_2 : Int) < rowsP n) = true → ((0 : Int) ≤ (↑i_1 : Int) ∧ (↑i_1 : Int) < (↑7 : Int)) ∧ ((0 : Int) ≤ (↑i_2 : Int) ∧ (↑i_2 : Int) < (↑7 : Int)) ∧ nat_lit 0 + ((↑i_1 : Int).toNat * 7 + (↑i_2 : Int).toNat * 1) < 49 ∧ ((0 : Int) ≤ (↑i_1 : Int) ∧ (↑i_1 : Int) < (↑7 : Int)) ∧ ((0 : Int) ≤ i ∧ i < (↑7 : Int)) ∧ nat_lit 0 + ((↑i_1 : Int).toNat * 7 + i.toNat * 1) < 49 ∧ ((0 : Int) ≤ j ∧ j < (↑7 : Int)) ∧ ((0 : Int) ≤ (↑i_2 : Int) ∧ (↑i_2 : Int) < (↑7 : Int)) ∧ nat_lit 0 + (j.toNat * 7 + (↑i_2 : Int).toNat * 1) < 49 ∧ ((0 : Int) ≤ (↑i_1 : Int) ∧ (↑i_1 : Int) < (↑7 : Int)) ∧ ((0 : Int) ≤ (↑i_2 : Int) ∧ (↑i_2 : Int) < (↑7 : Int)) ∧ nat_lit 0 + ((↑i_1 : Int).toNat * 7 + (↑i_2 : Int).toNat * 1) + 1 ≤ 49 ∧ ∃ (j_1 : Nat), j_1.le (rowsP n).toNat ∧ 7 - j_1 < 7 - i_2 ∧ IntKind.i64.wrap ((↑i_2 : Int) + (1 : Int)) = (↑j_1 : Int) ∧ i = i ∧ j = j ∧ by_ = by_ ∧ (↑i_1 : Int) = (↑i_1 : Int) ∧ rowsP n = rowsP n ∧ (↑i_1 : Int) = (↑i_1 : Int) ∧ rowsP n = rowsP n ∧ n = n ∧ c = c ∧ (∀ (o : Nat), o < 49 → (if ((nat_lit 0 + ((↑i_1 : Int).toNat * 7 + (↑i_2 : Int).toNat * 1)).ble o && o.blt (nat_lit 0 + ((↑i_1 : Int).toNat * 7 + (↑i_2 : Int).toNat * 1) + 1)) = true then if IntKind.i64.wrap (IntKind.i64.wrap (f (nat_lit 0 + ((↑i_1 : Int).toNat * 7 + i.toNat * 1)) + by_) + f (nat_lit 0 + (j.toNat * 7 + (↑i_2 : Int).toNat * 1))) < f (nat_lit 0 + ((↑i_1 : Int).toNat * 7 + (↑i_2 : Int).toNat * 1)) then IntKind.i64.wrap (IntKind.i64.wrap (f (nat_lit 0 + ((↑i_1 : Int).toNat * 7 + i.toNat * 1)) + by_) + f (nat_lit 0 + (j.toNat * 7 + (↑i_2 : Int).toNat * 1))) else f (nat_lit 0 + ((↑i_1 : Int).toNat * 7 + (↑i_2 : Int).toNat * 1)) else nearTo f i.toNat j.toNat by_ (rowsP n).toNat (↑i_1 : Int).toNat i_2 o) = nearTo f i.toNat j.toNat by_ (rowsP n).toNat (↑i_1 : Int).toNat j_1 o) ∧ n = n ∧ c = c ∧ (∀ (o : Nat), o < 49 → f o = f o) ∧ (0 : Int) = (0 : Int) ∧ false = false ∧ ∀ (o : Nat), o < 49 → (0 : Int) = (0 : Int)) ∧ (decide ((↑i_2 : Int) < rowsP n) = false → ∃ (j_1 : Nat), j_1.le (rowsP n).toNat ∧ 7 - j_1 < 7 - i_1 ∧ IntKind.i64.wrap ((↑i_1 : Int) + (1 : Int)) = (↑j_1 : Int) ∧ i = i ∧ j = j ∧ by_ = by_ ∧ rowsP n = rowsP n ∧ n = n ∧ c = c ∧ (∀ (o : Nat), o < 49 → nearTo f i.toNat j.toNat by_ (rowsP n).toNat (↑i_1 : Int).toNat i_2 o = nearTo f i.toNat j.toNat by_ (rowsP n).toNat j_1 0 o) ∧ n = n ∧ c = c ∧ (∀ (o : Nat), o < 49 → f o = f o) ∧ (0 : Int) = (0 : Int) ∧ false = false ∧ ∀ (o : Nat), o < 49 → (0 : Int) = (0 : Int))) ∧ (decide ((↑i_1 : Int) < rowsP n) = false → n = n ∧ c = bdC c f i.toNat j.toNat by_ ∧ ∀ (o : Nat), o < 49 → nearTo f i.toNat j.toNat by_ (rowsP n).toNat i_1 0 o = bdF n f i.toNat j.toNat by_ o)))) (by kernel_rfl) ?_
    simp only [raw0, true_and, and_true, implies_true, Nat.mul_one, Int.toNat_natCast, c7, decide_eq_true_eq, decide_eq_false_iff_not, Nat.zero_add, forall_const, Nat.le_eq, at_iff, bne_iff_ne, bne_eq_false_iff_eq, and_self, and_self_left]
    intro hs hi hj
    obtain ⟨a, rfl⟩ := Int.eq_ofNat_of_zero_le hi.1
    obtain ⟨b, rfl⟩ := Int.eq_ofNat_of_zero_le hj.1
    have hr := rowsP_le n
    obtain ⟨r, hre⟩ := Int.eq_ofNat_of_zero_le (show 0 ≤ rowsP n by omega)
    have ha := hs (a * 7 + b) (by omega)
    have hb := hs (b * 7 + a) (by omega)
    unfold bdC bdF
    rw [hre] at hr ⊢
    simp only [Int.toNat_natCast]
    rw [wr (0 - f (b * 7 + a)) (by omega)]
    refine ⟨hi, hj, by omega, fun h1 => ?_, fun h1 => ⟨hj, hi, by omega, fun h2 => ?_, fun h2 => ⟨⟨0, Nat.zero_le _, rfl, fun o _ => (nearTo_zero ..).symm⟩, fun k hk => ⟨fun h3 => ⟨⟨0, Nat.zero_le _, rfl, fun o _ => rfl⟩, fun m hm => ⟨fun h4 => ?_, fun h4 => ?_⟩⟩, fun h3 => ?_⟩⟩⟩⟩
    · simp only [if_pos h1]; exact ⟨trivial, fun _ _ => trivial⟩
    · simp only [if_neg h1, if_pos h2]; exact ⟨trivial, fun _ _ => trivial⟩
    · have hk7 : k * 7 + m < 49 := by omega
      have q1 := hs (k * 7 + a) (by omega)
      have q2 := hs (b * 7 + m) (by omega)
      rw [wr (f (k * 7 + a) + by_) (by omega), wr (f (k * 7 + a) + by_ + f (b * 7 + m)) (by omega), wr ((m : Int) + 1) (by omega)]
      refine ⟨by omega, by omega, by omega, by omega, by omega, by omega, by omega, by omega, by omega, by omega, by omega, by omega, m + 1, by omega, by omega, by omega, fun o ho => nearTo_step (by omega) (by omega) ?_ o⟩
      unfold near
      rw [(dm7 (k := k) (m := m) (by omega)).1, (dm7 (k := k) (m := m) (by omega)).2]
      split <;> omega
    · rw [wr ((k : Int) + 1) (by omega)]
      have : m = r := by omega
      subst this
      exact ⟨k + 1, by omega, by omega, by omega, fun o _ => nearTo_next o⟩
    · simp only [if_neg h1, if_neg h2]
      refine ⟨trivial, fun o ho => ?_⟩
      have : k = r := by omega
      subst this
      unfold nearTo
      by_cases h : (o / 7 < k ∨ o / 7 = k ∧ o % 7 < 0) ∧ o % 7 < k
      · rw [if_pos h, if_pos (by omega)]
      · rw [if_neg h, if_neg (by omega)]
  · trivial
end Go.Proofs.YtlgmofjjjhbgkaaGreat.Sx.Z
namespace Go.Proofs.YtlgmofjjjhbgkaaGreat.Sx.Z
open Go.RowKit
def bndC (n : Int) (c : Bool) (f : Nat → Int) (x y by' : Int) : Bool := if (c || !isEndP n x || !isEndP n y) = true then c else bdC c f (x + 1).toNat (y + 1).toNat by'
def bndF (n : Int) (c : Bool) (f : Nat → Int) (x y by' : Int) (o : Nat) : Int := if (c || !isEndP n x || !isEndP n y) = true then f o else bdF n f (x + 1).toNat (y + 1).toNat by' o
theorem isEndP_lt {n x : Int} (h : isEndP n x = true) : -1 ≤ x ∧ x < rowsP n - 1 ∧ x ≤ 5 := by
  have := rowsP_le n
  unfold isEndP at h
  rcases Bool.or_eq_true_iff.1 h with h | h
  · have := eq_of_beq h; omega
  · have := isVarP_lt h; omega
/-- Of Forget the columns and rows below k. -/
def fgTo (f : Nat → Int) (i k : Nat) (o : Nat) : Int := if o / 7 = i ∧ o % 7 ≠ i ∧ o % 7 < k then 2147483647 + f (o % 7) else if o % 7 = i ∧ o / 7 ≠ i ∧ o / 7 < k then f (o / 7 * 7) + 2147483648 else f o
def forgetF (n : Int) (c : Bool) (f : Nat → Int) (x : Int) (o : Nat) : Int := if (c || !isVarP n x) = true then f o else fgTo f (x + 1).toNat (rowsP n).toNat o
def shTo (f : Nat → Int) (i : Nat) (by' : Int) (k : Nat) (o : Nat) : Int := if o / 7 = i ∧ o % 7 ≠ i ∧ o % 7 < k then f o + by' else if o % 7 = i ∧ o / 7 ≠ i ∧ o / 7 < k then f o - by' else f o
def shiftF (n : Int) (c : Bool) (f : Nat → Int) (i : Nat) (by' : Int) (o : Nat) : Int := if c = true then f o else shTo f i by' (rowsP n).toNat o
def topN (n : Int) : Int := min (max n 0) 6
def boundS : FSpec := fun ds _ => match ds with
  | [.i n, .b c, .f f, .i x, .i y, .i by_] => some { val := .one (.agg [.c (.int .i64 (.sym (n))), .c (.bool (.sym (bndC n c f x y by_))), .ints .i64 (.lit 49) (bndF n c f x y by_)]), vc := [Sm f] }
  | _ => none
def boundC : Con := con [zA, iA, iA, iA] boundS
theorem bound_ok : ConOK Tryz.prog 74 boundC := by
  refine fn_ob tt_ok mixed Tryz.func74 rfl (fun _ _ => by kernel_rfl) (A := fun ds => ⟨fun _ => Cons.of [(104, isEndC), (105, boundedC)], fun _ => none, fun _ => none⟩) (fun _ _ => (cons_cons isEnd_ok (cons_cons bounded_ok cons_nil))) (by kernel_rfl) ?_
  intro ds fr
  unfold boundS
  split
  · rename_i n c f x y by_
    refine kmp (q := Sm f → ((c || !isEndP n x || !isEndP n y) = true → n = n ∧ c = bndC n c f x y by_ ∧ ∀ (o : Nat), o < 49 → f o = bndF n c f x y by_ o) ∧ ((c || !isEndP n x || !isEndP n y) = false → Sm f ∧ ((0 : Int) ≤ IntKind.i64.wrap (x + (1 : Int)) ∧ IntKind.i64.wrap (x + (1 : Int)) < (7 : Int)) ∧ ((0 : Int) ≤ IntKind.i64.wrap (y + (1 : Int)) ∧ IntKind.i64.wrap (y + (1 : Int)) < (7 : Int)) ∧ n = n ∧ bdC c f (IntKind.i64.wrap (x + (1 : Int))).toNat (IntKind.i64.wrap (y + (1 : Int))).toNat by_ = bndC n c f x y by_ ∧ ∀ (o : Nat), o < 49 → bdF n f (IntKind.i64.wrap (x + (1 : Int))).toNat (IntKind.i64.wrap (y + (1 : Int))).toNat by_ o = bndF n c f x y by_ o)) (by kernel_rfl) ?_
    simp only [raw0, true_and, and_true, implies_true, Nat.mul_one, Int.toNat_natCast, c7, decide_eq_true_eq, decide_eq_false_iff_not, Nat.zero_add, forall_const, Nat.le_eq, at_iff, bne_iff_ne, bne_eq_false_iff_eq, and_self, and_self_left]
    intro hs
    refine ⟨fun h => ?_, fun h => ?_⟩
    · unfold bndC bndF; simp only [if_pos h]; exact ⟨trivial, fun _ _ => trivial⟩
    · have hx := isEndP_lt (show isEndP n x = true by revert h; cases c <;> cases isEndP n x <;> simp)
      have hy := isEndP_lt (show isEndP n y = true by revert h; cases c <;> cases isEndP n x <;> cases isEndP n y <;> simp)
      rw [wr (x + 1) (by omega), wr (y + 1) (by omega)]
      unfold bndC bndF
      simp only [h, Bool.false_eq_true, if_false]
      exact ⟨hs, by omega, by omega, trivial, fun _ _ => trivial⟩
  · trivial
def forgetS : FSpec := fun ds _ => match ds with
  | [.i n, .b c, .f f, .i x] => some { val := .one (.agg [.c (.int .i64 (.sym (n))), .c (.bool (.sym (c))), .ints .i64 (.lit 49) (forgetF n c f x)]), vc := [Sm f] }
  | _ => none
def forgetC : Con := con [zA, iA] forgetS
theorem forget_ok : ConOK Tryz.prog 56 forgetC := by
  refine fn_ob tt_ok mixed Tryz.func56 rfl (fun _ _ => by kernel_rfl) (A := fun ds => ⟨fun _ => Cons.of [(75, isVarC), (68, rowsC)], fun k => match k, ds with | 5, [.i n, .b c, .f f, .i x] => some { ι := Nat, pre := fun _ k => k ≤ (rowsP n).toNat, μ := fun k => 7 - k, st := fun s k => fam s [(20, .one (.sc (.int .i64 (.sym (k : Nat)))))] [2, 4, 5, 19] 2 (.own 44 (zs (.sym n) (.sym c) (fgTo f (x + 1).toNat k))) [4] } | _, _ => none, fun _ => none⟩) (fun _ _ => (cons_cons isVar_ok (cons_cons rows_ok cons_nil))) (by kernel_rfl) ?_
  intro ds fr
  unfold forgetS
  split
  · rename_i n c f x
    refine kmp (q := Sm f → ((c || !isVarP n x) = true → n = n ∧ c = c ∧ ∀ (o : Nat), o < 49 → f o = forgetF n c f x o) ∧ ((c || !isVarP n x) = false → (∃ (i : Nat), i.le (rowsP n).toNat ∧ (0 : Int) = (↑i : Int) ∧ IntKind.i64.wrap (x + (1 : Int)) = IntKind.i64.wrap (x + (1 : Int)) ∧ rowsP n = rowsP n ∧ n = n ∧ c = c ∧ (∀ (o : Nat), o < 49 → f o = fgTo f (x + (1 : Int)).toNat i o) ∧ (0 : Int) = (0 : Int) ∧ false = false ∧ ∀ (o : Nat), o < 49 → (0 : Int) = (0 : Int)) ∧ ∀ (i : Nat), i.le (rowsP n).toNat → (decide ((↑i : Int) < rowsP n) = true → (((↑i : Int) != IntKind.i64.wrap (x + (1 : Int))) = true → ((0 : Int) ≤ (↑i : Int) ∧ (↑i : Int) < (↑7 : Int)) ∧ nat_lit 0 + (↑i : Int).toNat * 1 < 49 ∧ ((0 : Int) ≤ IntKind.i64.wrap (x + (1 : Int)) ∧ IntKind.i64.wrap (x + (1 : Int)) < (↑7 : Int)) ∧ ((0 : Int) ≤ (↑i : Int) ∧ (↑i : Int) < (↑7 : Int)) ∧ nat_lit 0 + ((IntKind.i64.wrap (x + (1 : Int))).toNat * 7 + (↑i : Int).toNat * 1) + 1 ≤ 49 ∧ ((0 : Int) ≤ (↑i : Int) ∧ (↑i : Int) < (↑7 : Int)) ∧ nat_lit 0 + (↑i : Int).toNat * 7 < 49 ∧ ((0 : Int) ≤ (↑i : Int) ∧ (↑i : Int) < (↑7 : Int)) ∧ ((0 : Int) ≤ IntKind.i64.wrap (x + (1 : Int)) ∧ IntKind.i64.wrap (x + (1 : Int)) < (↑7 : Int)) ∧ nat_lit 0 + ((↑i : Int).toNat * 7 + (IntKind.i64.wrap (x + (1 : Int))).toNat * 1) + 1 ≤ 49 ∧ ∃ (j : Nat), j.le (rowsP n).toNat ∧ 7 - j < 7 - i ∧ IntKind.i64.wrap ((↑i : Int) + (1 : Int)) = (↑j : Int) ∧ IntKind.i64.wrap (x + (1 : Int)) = IntKind.i64.wrap (x + (1 : Int)) ∧ rowsP n = rowsP n ∧ n = n ∧ c = c ∧ (∀ (o : Nat), o < 49 → (if ((nat_lit 0 + ((↑i : Int).toNat * 7 + (IntKind.i64.wrap (x + (1 : Int))).toNat * 1)).ble o && o.blt (nat_lit 0 + ((↑i : Int).toNat * 7 + (IntKind.i64.wrap (x + (1 : Int))).toNat * 1) + 1)) = true then IntKind.i64.wrap ((if ((nat_lit 0 + ((IntKind.i64.wrap (x + (1 : Int))).toNat * 7 + (↑i : Int).toNat * 1)).ble (nat_lit 0 + (↑i : Int).toNat * 7) && (nat_lit 0 + (↑i : Int).toNat * 7).blt (nat_lit 0 + ((IntKind.i64.wrap (x + (1 : Int))).toNat * 7 + (↑i : Int).toNat * 1) + 1)) = true then IntKind.i64.wrap ((2147483647 : Int) + fgTo f (x + (1 : Int)).toNat i (nat_lit 0 + (↑i : Int).toNat * 1)) else fgTo f (x + (1 : Int)).toNat i (nat_lit 0 + (↑i : Int).toNat * 7)) - (-2147483648 : Int)) else if ((nat_lit 0 + ((IntKind.i64.wrap (x + (1 : Int))).toNat * 7 + (↑i : Int).toNat * 1)).ble o && o.blt (nat_lit 0 + ((IntKind.i64.wrap (x + (1 : Int))).toNat * 7 + (↑i : Int).toNat * 1) + 1)) = true then IntKind.i64.wrap ((2147483647 : Int) + fgTo f (x + (1 : Int)).toNat i (nat_lit 0 + (↑i : Int).toNat * 1)) else fgTo f (x + (1 : Int)).toNat i o) = fgTo f (x + (1 : Int)).toNat j o) ∧ (0 : Int) = (0 : Int) ∧ false = false ∧ ∀ (o : Nat), o < 49 → (0 : Int) = (0 : Int)) ∧ (((↑i : Int) != IntKind.i64.wrap (x + (1 : Int))) = false → ∃ (j : Nat), j.le (rowsP n).toNat ∧ 7 - j < 7 - i ∧ IntKind.i64.wrap ((↑i : Int) + (1 : Int)) = (↑j : Int) ∧ IntKind.i64.wrap (x + (1 : Int)) = IntKind.i64.wrap (x + (1 : Int)) ∧ rowsP n = rowsP n ∧ n = n ∧ c = c ∧ (∀ (o : Nat), o < 49 → fgTo f (x + (1 : Int)).toNat i o = fgTo f (x + (1 : Int)).toNat j o) ∧ (0 : Int) = (0 : Int) ∧ false = false ∧ ∀ (o : Nat), o < 49 → (0 : Int) = (0 : Int))) ∧ (decide ((↑i : Int) < rowsP n) = false → n = n ∧ c = c ∧ ∀ (o : Nat), o < 49 → fgTo f (x + (1 : Int)).toNat i o = forgetF n c f x o))) (by kernel_rfl) ?_
    simp only [raw0, true_and, and_true, implies_true, Nat.mul_one, Int.toNat_natCast, c7, decide_eq_true_eq, decide_eq_false_iff_not, Nat.zero_add, forall_const, Nat.le_eq, at_iff, bne_iff_ne, bne_eq_false_iff_eq, and_self, and_self_left]
    intro hs
    refine ⟨fun h => ?_, fun h => ?_⟩
    · unfold forgetF; simp only [if_pos h]; exact fun _ _ => trivial
    · have hx := isVarP_lt (show isVarP n x = true by revert h; cases c <;> cases isVarP n x <;> simp)
      unfold forgetF
      simp only [h, Bool.false_eq_true, if_false]
      have hr := rowsP_le n
      obtain ⟨r, hre⟩ := Int.eq_ofNat_of_zero_le (show 0 ≤ rowsP n by omega)
      obtain ⟨a, ha⟩ := Int.eq_ofNat_of_zero_le (show 0 ≤ x + 1 by omega)
      rw [hre] at hr hx ⊢
      rw [wr (x + 1) (by omega), ha]
      simp only [Int.toNat_natCast]
      refine ⟨⟨0, by omega, rfl, fun o ho => ?_⟩, fun k hk => ⟨fun h3 => ⟨fun h5 => ?_, fun h5 => ?_⟩, fun h3 o ho => ?_⟩⟩
      · unfold fgTo; rw [if_neg (by omega), if_neg (by omega)]
      · have e1 : fgTo f a k k = f k := by unfold fgTo; rw [if_neg (by omega), if_neg (by omega)]
        have e2 : fgTo f a k (k * 7) = f (k * 7) := by unfold fgTo; rw [if_neg (by omega), if_neg (by omega)]
        have q1 := hs k (by omega)
        have q2 := hs (k * 7) (by omega)
        rw [e1, e2, wr (2147483647 + f k) (by omega), if_neg (show ¬ k * 7 = a * 7 + k by omega), wr (f (k * 7) - -2147483648) (by omega), wr ((k : Int) + 1) (by omega)]
        refine ⟨by omega, by omega, by omega, by omega, by omega, by omega, by omega, by omega, by omega, by omega, k + 1, by omega, by omega, by omega, fun o ho => ?_⟩
        by_cases h6 : o = k * 7 + a
        · rw [if_pos h6]
          subst h6
          unfold fgTo
          rw [if_neg (by omega), if_pos (by omega), (dm7 (k := k) (m := a) (by omega)).1]
          omega
        · rw [if_neg h6]
          by_cases h7 : o = a * 7 + k
          · rw [if_pos h7]
            subst h7
            unfold fgTo
            rw [if_pos (by omega), (dm7 (k := a) (m := k) (by omega)).2]
          · rw [if_neg h7]
            unfold fgTo
            exact icg (by omega) rfl (icg (by omega) rfl rfl)
      · rw [wr ((k : Int) + 1) (by omega)]
        refine ⟨k + 1, by omega, by omega, by omega, fun o ho => ?_⟩
        unfold fgTo
        exact icg (by omega) rfl (icg (by omega) rfl rfl)
      · have : k = r := by omega
        rw [this]
  · trivial
def shiftedS : FSpec := fun ds _ => match ds with
  | [.i n, .b c, .f f, .i i, .i by_] => some { val := .one (.agg [.c (.int .i64 (.sym (n))), .c (.bool (.sym (c))), .ints .i64 (.lit 49) (shiftF n c f i.toNat by_)]), vc := [Sm f, (0 ≤ i ∧ i < 7), (-2199023255552 ≤ by_ ∧ by_ ≤ 2199023255552)] }
  | _ => none
def shiftedC : Con := con [zA, iA, iA] shiftedS
theorem shifted_ok : ConOK Tryz.prog 129 shiftedC := by
  refine fn_ob tt_ok mixed Tryz.func129 rfl (fun _ _ => by kernel_rfl) (A := fun ds => ⟨fun _ => Cons.of [(68, rowsC)], fun k => match k, ds with | 4, [.i n, .b c, .f f, .i i, .i by_] => some { ι := Nat, pre := fun _ k => k ≤ (rowsP n).toNat, μ := fun k => 7 - k, st := fun s k => fam s [(13, .one (.sc (.int .i64 (.sym (k : Nat)))))] [1, 2, 3, 6, 12] 3 (.own 44 (zs (.sym n) (.sym c) (shTo f i.toNat by_ k))) [6] } | _, _ => none, fun _ => none⟩) (fun _ _ => (cons_cons rows_ok cons_nil)) (by kernel_rfl) ?_
  intro ds fr
  unfold shiftedS
  split
  · rename_i n c f i by_
    refine kmp (q := Sm f → (0 : Int) ≤ i ∧ i < (7 : Int) → (-2199023255552 : Int) ≤ by_ ∧ by_ ≤ (2199023255552 : Int) → (c = true → n = n ∧ c = c ∧ ∀ (o : Nat), o < 49 → f o = shiftF n c f i.toNat by_ o) ∧ (c = false → (∃ (i_1 : Nat), i_1.le (rowsP n).toNat ∧ (0 : Int) = (↑i_1 : Int) ∧ i = i ∧ by_ = by_ ∧ rowsP n = rowsP n ∧ n = n ∧ c = c ∧ (∀ (o : Nat), o < 49 → f o = shTo f i.toNat by_ i_1 o) ∧ (0 : Int) = (0 : Int) ∧ false = false ∧ ∀ (o : Nat), o < 49 → (0 : Int) = (0 : Int)) ∧ ∀ (i_1 : Nat), i_1.le (rowsP n).toNat → (decide ((↑i_1 : Int) < rowsP n) = true → (((↑i_1 : Int) != i) = true → ((0 : Int) ≤ i ∧ i < (↑7 : Int)) ∧ ((0 : Int) ≤ (↑i_1 : Int) ∧ (↑i_1 : Int) < (↑7 : Int)) ∧ nat_lit 0 + (i.toNat * 7 + (↑i_1 : Int).toNat * 1) < 49 ∧ ((0 : Int) ≤ i ∧ i < (↑7 : Int)) ∧ ((0 : Int) ≤ (↑i_1 : Int) ∧ (↑i_1 : Int) < (↑7 : Int)) ∧ nat_lit 0 + (i.toNat * 7 + (↑i_1 : Int).toNat * 1) + 1 ≤ 49 ∧ ((0 : Int) ≤ (↑i_1 : Int) ∧ (↑i_1 : Int) < (↑7 : Int)) ∧ ((0 : Int) ≤ i ∧ i < (↑7 : Int)) ∧ nat_lit 0 + ((↑i_1 : Int).toNat * 7 + i.toNat * 1) < 49 ∧ ((0 : Int) ≤ (↑i_1 : Int) ∧ (↑i_1 : Int) < (↑7 : Int)) ∧ ((0 : Int) ≤ i ∧ i < (↑7 : Int)) ∧ nat_lit 0 + ((↑i_1 : Int).toNat * 7 + i.toNat * 1) + 1 ≤ 49 ∧ ∃ (j : Nat), j.le (rowsP n).toNat ∧ 7 - j < 7 - i_1 ∧ IntKind.i64.wrap ((↑i_1 : Int) + (1 : Int)) = (↑j : Int) ∧ i = i ∧ by_ = by_ ∧ rowsP n = rowsP n ∧ n = n ∧ c = c ∧ (∀ (o : Nat), o < 49 → (if ((nat_lit 0 + ((↑i_1 : Int).toNat * 7 + i.toNat * 1)).ble o && o.blt (nat_lit 0 + ((↑i_1 : Int).toNat * 7 + i.toNat * 1) + 1)) = true then IntKind.i64.wrap ((if ((nat_lit 0 + (i.toNat * 7 + (↑i_1 : Int).toNat * 1)).ble (nat_lit 0 + ((↑i_1 : Int).toNat * 7 + i.toNat * 1)) && (nat_lit 0 + ((↑i_1 : Int).toNat * 7 + i.toNat * 1)).blt (nat_lit 0 + (i.toNat * 7 + (↑i_1 : Int).toNat * 1) + 1)) = true then IntKind.i64.wrap (shTo f i.toNat by_ i_1 (nat_lit 0 + (i.toNat * 7 + (↑i_1 : Int).toNat * 1)) + by_) else shTo f i.toNat by_ i_1 (nat_lit 0 + ((↑i_1 : Int).toNat * 7 + i.toNat * 1))) - by_) else if ((nat_lit 0 + (i.toNat * 7 + (↑i_1 : Int).toNat * 1)).ble o && o.blt (nat_lit 0 + (i.toNat * 7 + (↑i_1 : Int).toNat * 1) + 1)) = true then IntKind.i64.wrap (shTo f i.toNat by_ i_1 (nat_lit 0 + (i.toNat * 7 + (↑i_1 : Int).toNat * 1)) + by_) else shTo f i.toNat by_ i_1 o) = shTo f i.toNat by_ j o) ∧ (0 : Int) = (0 : Int) ∧ false = false ∧ ∀ (o : Nat), o < 49 → (0 : Int) = (0 : Int)) ∧ (((↑i_1 : Int) != i) = false → ∃ (j : Nat), j.le (rowsP n).toNat ∧ 7 - j < 7 - i_1 ∧ IntKind.i64.wrap ((↑i_1 : Int) + (1 : Int)) = (↑j : Int) ∧ i = i ∧ by_ = by_ ∧ rowsP n = rowsP n ∧ n = n ∧ c = c ∧ (∀ (o : Nat), o < 49 → shTo f i.toNat by_ i_1 o = shTo f i.toNat by_ j o) ∧ (0 : Int) = (0 : Int) ∧ false = false ∧ ∀ (o : Nat), o < 49 → (0 : Int) = (0 : Int))) ∧ (decide ((↑i_1 : Int) < rowsP n) = false → n = n ∧ c = c ∧ ∀ (o : Nat), o < 49 → shTo f i.toNat by_ i_1 o = shiftF n c f i.toNat by_ o))) (by kernel_rfl) ?_
    simp only [raw0, true_and, and_true, implies_true, Nat.mul_one, Int.toNat_natCast, c7, decide_eq_true_eq, decide_eq_false_iff_not, Nat.zero_add, forall_const, Nat.le_eq, at_iff, bne_iff_ne, bne_eq_false_iff_eq, and_self, and_self_left]
    intro hs hi hb
    refine ⟨fun h => ?_, fun h => ?_⟩
    · unfold shiftF; simp only [if_pos h]; exact fun _ _ => trivial
    · unfold shiftF
      simp only [h, Bool.false_eq_true, if_false]
      have hr := rowsP_le n
      obtain ⟨r, hre⟩ := Int.eq_ofNat_of_zero_le (show 0 ≤ rowsP n by omega)
      obtain ⟨a, rfl⟩ := Int.eq_ofNat_of_zero_le hi.1
      rw [hre] at hr ⊢
      simp only [Int.toNat_natCast]
      refine ⟨⟨0, by omega, rfl, fun o ho => ?_⟩, fun k hk => ⟨fun h3 => ⟨fun h5 => ?_, fun h5 => ?_⟩, fun h3 o ho => ?_⟩⟩
      · unfold shTo; rw [if_neg (by omega), if_neg (by omega)]
      · have e1 : shTo f a by_ k (a * 7 + k) = f (a * 7 + k) := by unfold shTo; rw [if_neg (by omega), if_neg (by omega)]
        have e2 : shTo f a by_ k (k * 7 + a) = f (k * 7 + a) := by unfold shTo; rw [if_neg (by omega), if_neg (by omega)]
        have q1 := hs (a * 7 + k) (by omega)
        have q2 := hs (k * 7 + a) (by omega)
        rw [e1, e2, if_neg (show ¬ k * 7 + a = a * 7 + k by omega), wr (f (a * 7 + k) + by_) (by omega), wr (f (k * 7 + a) - by_) (by omega), wr ((k : Int) + 1) (by omega)]
        refine ⟨by omega, by omega, by omega, by omega, by omega, by omega, by omega, by omega, by omega, by omega, by omega, by omega, k + 1, by omega, by omega, by omega, fun o ho => ?_⟩
        by_cases h6 : o = k * 7 + a
        · rw [if_pos h6]
          subst h6
          unfold shTo
          rw [if_neg (by omega), if_pos (by omega)]
        · rw [if_neg h6]
          by_cases h7 : o = a * 7 + k
          · rw [if_pos h7]
            subst h7
            unfold shTo
            rw [if_pos (by omega)]
          · rw [if_neg h7]
            unfold shTo
            exact icg (by omega) rfl (icg (by omega) rfl rfl)
      · rw [wr ((k : Int) + 1) (by omega)]
        refine ⟨k + 1, by omega, by omega, by omega, fun o ho => ?_⟩
        unfold shTo
        exact icg (by omega) rfl (icg (by omega) rfl rfl)
      · have : k = r := by omega
        rw [this]
  · trivial
end Go.Proofs.YtlgmofjjjhbgkaaGreat.Sx.Z
namespace Go.Proofs.YtlgmofjjjhbgkaaGreat.Sx.Z
open Go.RowKit
/-- Of the cells ahead of one it is so. -/
def up (p : Nat → Bool) (r k m : Nat) : Prop := ∀ o, o < 49 → ((o / 7 < k ∨ o / 7 = k ∧ o % 7 < m) ∧ o % 7 < r) → p o = true
def hv (l : Nat) (g : Nat → Int) : Nat → Int := cpF 1 (Nat.min l 6) g (fun _ => 0)
def tri (f : Nat → Int) (i j k : Nat) : Prop := f (i * 7 + j) ≤ f (i * 7 + k) + f (k * 7 + j)
end Go.Proofs.YtlgmofjjjhbgkaaGreat.Sx.Z
namespace Go.Proofs.YtlgmofjjjhbgkaaGreat.Sx.Z
open Go.RowKit
abbrev Zs := Bool × (Nat → Int)
def R (n : Int) : Nat := (rowsP n).toNat
def bndZ (n x y b : Int) (z : Zs) : Zs := (bndC n z.1 z.2 x y b, bndF n z.1 z.2 x y b)
def fgZ (n x : Int) (z : Zs) : Zs := (z.1, forgetF n z.1 z.2 x)
def shZ (n : Int) (i : Nat) (b : Int) (z : Zs) : Zs := (z.1, shiftF n z.1 z.2 i b)
def cp2 (n y b : Int) (z : Zs) : Zs := bndZ n (-1) y (b + 2147483648) (bndZ n y (-1) (2147483647 - b) z)
def copyZ (n x y b : Int) (z : Zs) : Zs := if (z.1 || !isVarP n x || !isEndP n y) = true then z else if (decide (b > 1099511627776) || decide (b < -1099511627776)) = true then (true, fun _ => 0) else if (x == y) = true then shZ n (x + 1).toNat b (cp2 n y b z) else bndZ n y x (0 - b) (bndZ n x y b (fgZ n x (cp2 n y b z)))
structure Good (n : Int) (z : Zs) : Prop where
  n0 : 0 ≤ n ∧ n ≤ 6
  out : ∀ i j, i < 7 → j < 7 → (R n ≤ i ∨ R n ≤ j) → z.2 (i * 7 + j) = 0
  diag : ∀ i, i < R n → z.2 (i * 7 + i) = 0
  tri : ∀ i j k, i < R n → j < R n → k < R n → tri z.2 i j k
  hi0 : ∀ i, i < R n → z.2 (i * 7) ≤ 2147483647
  hi1 : ∀ i, i < R n → z.2 i ≤ 2147483648
  none : z.1 = true → ∀ o, o < 49 → z.2 o = 0
theorem R_le (n : Int) : 1 ≤ R n ∧ R n ≤ 7 ∧ (R n : Int) = rowsP n := by have := rowsP_le n; unfold R; omega
theorem at7 {i j : Nat} {o : Nat} (h : o < 49) (hi : i = o / 7) (hj : j = o % 7) : o = i * 7 + j ∧ i < 7 ∧ j < 7 := by omega
theorem Good.low {n : Int} {z : Zs} (h : Good n z) {i j : Nat} (hi : i < R n) (hj : j < R n) : -4294967295 ≤ z.2 (i * 7 + j) ∧ z.2 (i * 7 + j) ≤ 4294967295 := by
  have hR := R_le n
  have t1 := h.tri i j 0 hi hj (by omega)
  have t2 := h.tri j i 0 hj hi (by omega)
  have t3 := h.tri i i j hi hi hj
  have d := h.diag i hi
  have a1 := h.hi0 i hi
  have a2 := h.hi0 j hj
  have a3 := h.hi1 i hi
  have a4 := h.hi1 j hj
  unfold Z.tri at t1 t2 t3
  rw [show 0 * 7 + j = j by omega] at t1
  rw [show 0 * 7 + i = i by omega] at t2
  rw [Nat.add_zero] at t1 t2
  omega
theorem Good.sm {n : Int} {z : Zs} (h : Good n z) : Sm z.2 := fun o ho => by
  obtain ⟨e, hi, hj⟩ := at7 ho rfl rfl
  rw [e]
  by_cases hr : o / 7 < R n ∧ o % 7 < R n
  · have := h.low hr.1 hr.2; omega
  · rw [h.out _ _ hi hj (by omega)]; omega
theorem near_at {f : Nat → Int} {a b : Nat} {by' : Int} {i j : Nat} (hj : j < 7) : near f a b by' (i * 7 + j) = min (f (i * 7 + j)) (f (i * 7 + a) + by' + f (b * 7 + j)) := by
  unfold near
  rw [(dm7 (k := i) (m := j) hj).1, (dm7 (k := i) (m := j) hj).2]
theorem isEnd_R {n x : Int} (h : isEndP n x = true) : (x + 1).toNat < R n ∧ ((x + 1).toNat : Int) = x + 1 := by
  have := isEndP_lt h
  have := R_le n
  omega
/-- Bound: the same, nothing, or nearer. -/
theorem bnd_cases (n x y b : Int) (z : Zs) : (bndZ n x y b z = z ∧ (isEndP n x = true → isEndP n y = true → z.1 = false → z.2 ((x + 1).toNat * 7 + (y + 1).toNat) ≤ b)) ∨
    (z.1 = false ∧ isEndP n x = true ∧ isEndP n y = true ∧ b < z.2 ((x + 1).toNat * 7 + (y + 1).toNat) ∧
      ((b < 0 - z.2 ((y + 1).toNat * 7 + (x + 1).toNat) ∧ bndZ n x y b z = (true, fun _ => 0)) ∨
      (0 - z.2 ((y + 1).toNat * 7 + (x + 1).toNat) ≤ b ∧ bndZ n x y b z = (false, fun o => if o / 7 < R n ∧ o % 7 < R n then near z.2 (x + 1).toNat (y + 1).toNat b o else z.2 o)))) := by
  obtain ⟨c, f⟩ := z
  unfold bndZ bndC bndF
  by_cases h : (c || !isEndP n x || !isEndP n y) = true
  · left
    simp only [h, if_true]
    refine ⟨trivial, fun h1 h2 h3 => ?_⟩
    rw [h1, h2, h3] at h; cases h
  · have hc : c = false ∧ isEndP n x = true ∧ isEndP n y = true := by
      revert h; cases c <;> cases isEndP n x <;> cases isEndP n y <;> simp
    simp only [if_neg h]
    unfold bdC bdF
    by_cases h1 : b ≥ f ((x + 1).toNat * 7 + (y + 1).toNat)
    · left
      simp only [if_pos h1]
      exact ⟨trivial, fun _ _ _ => h1⟩
    · right
      refine ⟨hc.1, hc.2.1, hc.2.2, by omega, ?_⟩
      simp only [if_neg h1]
      by_cases h2 : b < 0 - f ((y + 1).toNat * 7 + (x + 1).toNat)
      · left; simp only [if_pos h2]; exact ⟨h2, trivial⟩
      · right; simp only [if_neg h2, hc.1]; exact ⟨by omega, rfl⟩
theorem good_none {n : Int} (h : 0 ≤ n ∧ n ≤ 6) (c : Bool) : Good n (c, fun _ => 0) := ⟨h, fun _ _ _ _ _ => rfl, fun _ _ => rfl, fun _ _ _ _ _ _ => by show (0 : Int) ≤ 0 + 0; omega, fun _ _ => by show (0 : Int) ≤ _; omega, fun _ _ => by show (0 : Int) ≤ _; omega, fun _ _ _ => rfl⟩
theorem near_val {n : Int} {f : Nat → Int} {a b : Nat} {q : Int} {i j : Nat} (hi : i < R n) (hj : j < R n) : (if (i * 7 + j) / 7 < R n ∧ (i * 7 + j) % 7 < R n then near f a b q (i * 7 + j) else f (i * 7 + j)) = min (f (i * 7 + j)) (f (i * 7 + a) + q + f (b * 7 + j)) := by
  have hR := R_le n
  have h7 := dm7 (k := i) (m := j) (by omega)
  rw [if_pos (by omega), near_at (by omega)]
theorem good_bnd {n : Int} {z : Zs} (h : Good n z) (x y b : Int) : Good n (bndZ n x y b z) := by
  have hR := R_le n
  rcases bnd_cases n x y b z with ⟨e, _⟩ | ⟨hc, hx, hy, hlt, ⟨_, e⟩ | ⟨hge, e⟩⟩
  · rw [e]; exact h
  · rw [e]; exact good_none h.n0 true
  · rw [e]
    obtain ⟨ha, _⟩ := isEnd_R hx
    obtain ⟨hb, _⟩ := isEnd_R hy
    generalize (x + 1).toNat = a at *
    generalize (y + 1).toNat = d at *
    obtain ⟨c, f⟩ := z
    dsimp only at hlt hge hc ⊢
    refine ⟨h.n0, fun i j hi hj ho => ?_, fun i hi => ?_, fun i j k hi hj hk => ?_, fun i hi => ?_, fun i hi => ?_, fun h => by cases h⟩
    · dsimp only
      have h7 := dm7 (k := i) (m := j) hj
      rw [if_neg (by omega)]
      exact h.out i j hi hj ho
    · dsimp only
      rw [near_val hi hi]
      have t := h.tri d a i hb ha hi
      have dg := h.diag i hi
      unfold Z.tri at t
      dsimp only at t dg
      omega
    · unfold Z.tri
      dsimp only
      rw [near_val hi hj, near_val hi hk, near_val hk hj]
      have t1 := h.tri i j k hi hj hk
      have t2 := h.tri i a k hi ha hk
      have t3 := h.tri d j k hb hj hk
      have t4 := h.tri d a k hb ha hk
      unfold Z.tri at t1 t2 t3 t4
      dsimp only at t1 t2 t3 t4
      omega
    · dsimp only
      have := near_val (n := n) (f := f) (a := a) (b := d) (q := b) hi (show 0 < R n by omega)
      rw [Nat.add_zero] at this
      rw [this]
      have := h.hi0 i hi
      dsimp only at this
      omega
    · dsimp only
      have := near_val (n := n) (f := f) (a := a) (b := d) (q := b) (show 0 < R n by omega) hi
      rw [show 0 * 7 + i = i by omega] at this
      rw [this]
      have := h.hi1 i hi
      dsimp only at this
      omega
/-- The numbers of a zone. -/
def Pt (n : Int) (z : Zs) (v : Nat → Int) : Prop := z.1 = false ∧ v 0 = 0 ∧ ∀ i j, i < R n → j < R n → v i - v j ≤ z.2 (i * 7 + j)
theorem bnd_pt {n : Int} {z : Zs} (h : Good n z) {x y b : Int} (hx : isEndP n x = true) (hy : isEndP n y = true) (v : Nat → Int) : Pt n (bndZ n x y b z) v ↔ Pt n z v ∧ v (x + 1).toNat - v (y + 1).toNat ≤ b := by
  obtain ⟨ha, _⟩ := isEnd_R hx
  obtain ⟨hb, _⟩ := isEnd_R hy
  rcases bnd_cases n x y b z with ⟨e, h1⟩ | ⟨hc, _, _, hlt, ⟨h2, e⟩ | ⟨hge, e⟩⟩
  · rw [e]
    refine ⟨fun hp => ⟨hp, ?_⟩, fun hp => hp.1⟩
    have := h1 hx hy hp.1
    have := hp.2.2 _ _ ha hb
    omega
  · rw [e]
    refine ⟨fun hp => (by cases hp.1), fun hp => ?_⟩
    have := hp.1.2.2 _ _ hb ha
    omega
  · rw [e]
    generalize (x + 1).toNat = a at *
    generalize (y + 1).toNat = d at *
    constructor
    · rintro ⟨_, h0, hp⟩
      refine ⟨⟨hc, h0, fun i j hi hj => ?_⟩, ?_⟩
      · have := hp i j hi hj
        dsimp only at this
        rw [near_val hi hj] at this
        omega
      · have := hp a d ha hb
        dsimp only at this
        rw [near_val ha hb] at this
        have d1 := h.diag a ha
        have d2 := h.diag d hb
        omega
    · rintro ⟨⟨_, h0, hp⟩, hq⟩
      refine ⟨rfl, h0, fun i j hi hj => ?_⟩
      dsimp only
      rw [near_val hi hj]
      have p1 := hp i j hi hj
      have p2 := hp i a hi ha
      have p3 := hp d j hb hj
      omega
/-- A bound is reached. -/
theorem pt_at {n : Int} {z : Zs} (h : Good n z) (hc : z.1 = false) {j : Nat} (hj : j < R n) : Pt n z (fun k => z.2 (k * 7 + j) - z.2 (0 * 7 + j)) := by
  have hR := R_le n
  refine ⟨hc, by dsimp only; omega, fun i l hi hl => ?_⟩
  have t := h.tri i j l hi hj hl
  unfold Z.tri at t
  dsimp only
  omega
theorem good_le {n : Int} {z w : Zs} (h : Good n z) (hp : ∀ v, Pt n z v → Pt n w v) (hc : z.1 = false) : w.1 = false ∧ ∀ i j, i < R n → j < R n → z.2 (i * 7 + j) ≤ w.2 (i * 7 + j) := by
  have hR := R_le n
  refine ⟨(hp _ (pt_at h hc (show 0 < R n by omega))).1, fun i j hi hj => ?_⟩
  have := (hp _ (pt_at h hc hj)).2.2 i j hi hj
  have d := h.diag j hj
  dsimp only at this
  omega
theorem fg_at {f : Nat → Int} {a r i j : Nat} (hi : i < r) (hj : j < r) (hr : r ≤ 7) : fgTo f a r (i * 7 + j) = if i = a ∧ j ≠ a then 2147483647 + f j else if j = a ∧ i ≠ a then f (i * 7) + 2147483648 else f (i * 7 + j) := by
  have h7 := dm7 (k := i) (m := j) (by omega)
  unfold fgTo
  rw [h7.1, h7.2]
  exact icg (by omega) rfl (icg (by omega) rfl rfl)
theorem good_fg {n : Int} {z : Zs} (h : Good n z) (x : Int) : Good n (fgZ n x z) := by
  have hR := R_le n
  obtain ⟨c, f⟩ := z
  unfold fgZ forgetF
  by_cases hb : (c || !isVarP n x) = true
  · simp only [if_pos hb]; exact h
  · have hv := isVarP_lt (show isVarP n x = true by revert hb; cases c <;> cases isVarP n x <;> simp)
    have hc : c = false := by revert hb; cases c <;> simp
    simp only [if_neg hb]
    show Good n (c, fun o => fgTo f (x + 1).toNat (R n) o)
    have ha : (x + 1).toNat < R n ∧ 1 ≤ (x + 1).toNat := by omega
    generalize (x + 1).toNat = a at *
    refine ⟨h.n0, fun i j hi hj ho => ?_, fun i hi => ?_, fun i j k hi hj hk => ?_, fun i hi => ?_, fun i hi => ?_, fun h => by rw [hc] at h; cases h⟩
    · have h7 := dm7 (k := i) (m := j) hj
      show fgTo f a (R n) (i * 7 + j) = 0
      unfold fgTo
      rw [if_neg (by omega), if_neg (by omega)]
      exact h.out i j hi hj ho
    · show fgTo f a (R n) (i * 7 + i) = 0
      rw [fg_at hi hi hR.2.1, if_neg (by omega), if_neg (by omega)]
      exact h.diag i hi
    · show fgTo f a (R n) (i * 7 + j) ≤ fgTo f a (R n) (i * 7 + k) + fgTo f a (R n) (k * 7 + j)
      rw [fg_at hi hj hR.2.1, fg_at hi hk hR.2.1, fg_at hk hj hR.2.1]
      have t0 := h.tri i j k hi hj hk
      have t1 := h.tri 0 j k (by omega) hj hk
      have t2 := h.tri i 0 k hi (by omega) hk
      have t3 := h.tri i j 0 hi hj (by omega)
      have t4 := h.tri 0 0 k (by omega) (by omega) hk
      have dg := h.diag 0 (by omega)
      unfold Z.tri at t0 t1 t2 t3 t4
      simp only [Nat.zero_mul, Nat.zero_add, Nat.add_zero] at t0 t1 t2 t3 t4 dg
      have di := h.diag i hi
      have dj := h.diag j hj
      dsimp only at di dj
      by_cases e1 : i = a
      · by_cases e2 : j = a
        · by_cases e3 : k = a
          · rw [if_neg (by omega), if_neg (by omega), if_neg (by omega), if_neg (by omega), if_neg (by omega), if_neg (by omega)]; subst e1 e2 e3; omega
          · rw [if_neg (by omega), if_neg (by omega), if_pos (by omega), if_neg (by omega), if_pos (by omega)]; subst e1 e2; omega
        · by_cases e3 : k = a
          · rw [if_pos (by omega), if_neg (by omega), if_neg (by omega), if_pos (by omega)]; subst e1 e3; omega
          · rw [if_pos (by omega), if_pos (by omega), if_neg (by omega), if_neg (by omega)]; omega
      · by_cases e2 : j = a
        · by_cases e3 : k = a
          · rw [if_neg (by omega), if_pos (by omega), if_neg (by omega), if_pos (by omega), if_neg (by omega), if_neg (by omega)]; subst e2 e3; omega
          · rw [if_neg (by omega), if_pos (by omega), if_neg (by omega), if_neg (by omega), if_neg (by omega), if_pos (by omega)]; omega
        · by_cases e3 : k = a
          · rw [if_neg (by omega), if_neg (by omega), if_neg (by omega), if_pos (by omega), if_pos (by omega)]; omega
          · rw [if_neg (by omega), if_neg (by omega), if_neg (by omega), if_neg (by omega), if_neg (by omega), if_neg (by omega)]; omega
    · have e := fg_at (f := f) (a := a) hi (show 0 < R n by omega) hR.2.1
      rw [Nat.add_zero] at e
      show fgTo f a (R n) (i * 7) ≤ _
      rw [e]
      have := h.hi0 i hi
      have dg := h.diag 0 (by omega)
      dsimp only at this dg
      simp only [Nat.zero_mul, Nat.zero_add] at dg
      (repeat' split) <;> omega
    · have e := fg_at (f := f) (a := a) (show 0 < R n by omega) hi hR.2.1
      rw [Nat.zero_mul, Nat.zero_add] at e
      show fgTo f a (R n) i ≤ _
      rw [e]
      have := h.hi1 i hi
      have dg := h.diag 0 (by omega)
      dsimp only at this dg
      simp only [Nat.zero_mul, Nat.zero_add] at dg
      (repeat' split) <;> omega
end Go.Proofs.YtlgmofjjjhbgkaaGreat.Sx.Z
namespace Go.Proofs.YtlgmofjjjhbgkaaGreat.Sx.Z
open Go.RowKit
theorem sh_at {f : Nat → Int} {a r i j : Nat} {b : Int} (hi : i < r) (hj : j < r) (hr : r ≤ 7) : shTo f a b r (i * 7 + j) = if i = a ∧ j ≠ a then f (i * 7 + j) + b else if j = a ∧ i ≠ a then f (i * 7 + j) - b else f (i * 7 + j) := by
  have h7 := dm7 (k := i) (m := j) (by omega)
  unfold shTo
  rw [h7.1, h7.2]
  exact icg (by omega) rfl (icg (by omega) rfl rfl)
theorem good_sh {n : Int} {z : Zs} (h : Good n z) {a : Nat} (ha : a < R n) (ha1 : 1 ≤ a) {b : Int} (hb : z.1 = false → z.2 (a * 7) + b ≤ 2147483647 ∧ z.2 a - b ≤ 2147483648) : Good n (shZ n a b z) := by
  have hR := R_le n
  obtain ⟨c, f⟩ := z
  unfold shZ shiftF
  by_cases hc : c = true
  · simp only [if_pos hc]; exact h
  · have hc : c = false := by revert hc; cases c <;> simp
    subst hc
    obtain ⟨b1, b2⟩ := hb rfl
    simp only [Bool.false_eq_true, if_false]
    show Good n (false, fun o => shTo f a b (R n) o)
    dsimp only at b1 b2
    refine ⟨h.n0, fun i j hi hj ho => ?_, fun i hi => ?_, fun i j k hi hj hk => ?_, fun i hi => ?_, fun i hi => ?_, fun h => by cases h⟩
    · have h7 := dm7 (k := i) (m := j) hj
      show shTo f a b (R n) (i * 7 + j) = 0
      unfold shTo
      rw [if_neg (by omega), if_neg (by omega)]
      exact h.out i j hi hj ho
    · show shTo f a b (R n) (i * 7 + i) = 0
      rw [sh_at hi hi hR.2.1, if_neg (by omega), if_neg (by omega)]
      exact h.diag i hi
    · show shTo f a b (R n) (i * 7 + j) ≤ shTo f a b (R n) (i * 7 + k) + shTo f a b (R n) (k * 7 + j)
      rw [sh_at hi hj hR.2.1, sh_at hi hk hR.2.1, sh_at hk hj hR.2.1]
      have t0 := h.tri i j k hi hj hk
      unfold Z.tri at t0
      dsimp only at t0
      (repeat' split) <;> omega
    · have e := sh_at (f := f) (a := a) (b := b) hi (show 0 < R n by omega) hR.2.1
      rw [Nat.add_zero] at e
      show shTo f a b (R n) (i * 7) ≤ _
      rw [e]
      have := h.hi0 i hi
      dsimp only at this
      split
      · rename_i h1; rw [h1.1]; omega
      · rw [if_neg (by omega)]; exact this
    · have e := sh_at (f := f) (a := a) (b := b) (show 0 < R n by omega) hi hR.2.1
      rw [Nat.zero_mul, Nat.zero_add] at e
      show shTo f a b (R n) i ≤ _
      rw [e]
      have := h.hi1 i hi
      dsimp only at this
      rw [if_neg (by omega)]
      split
      · rename_i h1; rw [h1.1]; omega
      · exact this
theorem bnd_le {n : Int} {z : Zs} (h : Good n z) {x y b : Int} (hx : isEndP n x = true) (hy : isEndP n y = true) (hc : (bndZ n x y b z).1 = false) : (bndZ n x y b z).2 ((x + 1).toNat * 7 + (y + 1).toNat) ≤ b := by
  have g := good_bnd h x y b
  obtain ⟨hb, _⟩ := isEnd_R hy
  have := ((bnd_pt h hx hy _).1 (pt_at g hc hb)).2
  have d := g.diag _ hb
  omega
theorem bnd_mono {n : Int} {z : Zs} (h : Good n z) {x y b : Int} (hx : isEndP n x = true) (hy : isEndP n y = true) (hc : (bndZ n x y b z).1 = false) {i j : Nat} (hi : i < R n) (hj : j < R n) : (bndZ n x y b z).2 (i * 7 + j) ≤ z.2 (i * 7 + j) :=
  (good_le (good_bnd h x y b) (fun v hv => ((bnd_pt h hx hy v).1 hv).1) hc).2 i j hi hj
theorem bnd_some {n : Int} {z : Zs} {x y b : Int} (hc : (bndZ n x y b z).1 = false) : z.1 = false := by
  rcases bnd_cases n x y b z with ⟨e, _⟩ | ⟨h, _⟩
  · rw [e] at hc; exact hc
  · exact h
theorem isEnd_nought (n : Int) : isEndP n (-1) = true := rfl
theorem isVar_end {n x : Int} (h : isVarP n x = true) : isEndP n x = true := by unfold isEndP; rw [h, Bool.or_true]
theorem cp2_good {n : Int} {z : Zs} (h : Good n z) (y b : Int) : Good n (cp2 n y b z) := good_bnd (good_bnd h _ _ _) _ _ _
theorem cp2_le {n : Int} {z : Zs} (h : Good n z) {y b : Int} (hy : isEndP n y = true) (hc : (cp2 n y b z).1 = false) : (cp2 n y b z).2 ((y + 1).toNat * 7) + b ≤ 2147483647 ∧ (cp2 n y b z).2 (y + 1).toNat - b ≤ 2147483648 := by
  unfold cp2 at hc ⊢
  have g1 := good_bnd h y (-1) (2147483647 - b)
  have c1 := bnd_some hc
  have l1 := bnd_le h hy (isEnd_nought n) c1
  have l2 := bnd_le g1 (isEnd_nought n) hy hc
  obtain ⟨ha, _⟩ := isEnd_R hy
  have m := bnd_mono g1 (isEnd_nought n) hy hc ha (show 0 < R n by have := R_le n; omega)
  rw [show ((-1 : Int) + 1).toNat = 0 from rfl] at l1 l2
  rw [Nat.add_zero] at l1 m
  rw [Nat.zero_mul, Nat.zero_add] at l2
  omega
theorem good_copy {n : Int} {z : Zs} (h : Good n z) (x y b : Int) : Good n (copyZ n x y b z) := by
  unfold copyZ
  by_cases h1 : (z.1 || !isVarP n x || !isEndP n y) = true
  · rw [if_pos h1]; exact h
  · rw [if_neg h1]
    have hx : isVarP n x = true := by revert h1; cases z.1 <;> cases isVarP n x <;> simp
    by_cases h2 : (decide (b > 1099511627776) || decide (b < -1099511627776)) = true
    · rw [if_pos h2]; exact good_none h.n0 true
    · rw [if_neg h2]
      have g := cp2_good h y b
      by_cases h3 : (x == y) = true
      · rw [if_pos h3]
        obtain rfl : x = y := by simpa using h3
        have hv := isVarP_lt hx
        have hR := R_le n
        exact good_sh g (by omega) (by omega) (cp2_le h (isVar_end hx))
      · rw [if_neg h3]
        exact good_bnd (good_bnd (good_fg g x) _ _ _) _ _ _
theorem rows_n {n : Int} (h : 0 ≤ n ∧ n ≤ 6) : rowsP n = n + 1 := by unfold rowsP; omega
theorem topN_le (n : Int) : 0 ≤ topN n ∧ topN n ≤ 6 := by unfold topN; omega
def copyS : FSpec := fun ds _ => match ds with
  | [.i n, .b c, .f f, .i x, .i y, .i b] => some { val := .one (.agg [.c (.int .i64 (.sym (n))), .c (.bool (.sym ((copyZ n x y b (c, f)).1))), .ints .i64 (.lit 49) ((copyZ n x y b (c, f)).2)]), vc := [Good n (c, f)] }
  | _ => none
def copyC : Con := con [zA, iA, iA, iA] copyS
theorem copy_ok : ConOK Tryz.prog 109 copyC := by
  refine fn_ob tt_ok mixed Tryz.func109 rfl (fun _ _ => by kernel_rfl) (A := fun ds => ⟨fun _ => Cons.of [(75, isVarC), (104, isEndC), (74, boundC), (56, forgetC), (129, shiftedC)], fun _ => none, fun _ => none⟩) (fun _ _ => (cons_cons isVar_ok (cons_cons isEnd_ok (cons_cons bound_ok (cons_cons forget_ok (cons_cons shifted_ok cons_nil)))))) (by kernel_rfl) ?_
  intro ds fr
  unfold copyS
  split
  · rename_i n c f x y b
    refine kmp (q := Good n (c, f) → ((c || !isVarP n x || !isEndP n y) = true → n = n ∧ c = (copyZ n x y b (c, f)).fst ∧ ∀ (o : Nat), o < 49 → f o = (copyZ n x y b (c, f)).snd o) ∧ ((c || !isVarP n x || !isEndP n y) = false → ((decide (b > (1099511627776 : Int)) || decide (b < (-1099511627776 : Int))) = true → n = n ∧ true = (copyZ n x y b (c, f)).fst ∧ ∀ (o : Nat), o < 49 → (0 : Int) = (copyZ n x y b (c, f)).snd o) ∧ ((decide (b > (1099511627776 : Int)) || decide (b < (-1099511627776 : Int))) = false → Sm f ∧ Sm (bndF n c f y (-1 : Int) (IntKind.i64.wrap ((2147483647 : Int) - b))) ∧ ((x == y) = true → Sm (bndF n (bndC n c f y (-1 : Int) (IntKind.i64.wrap ((2147483647 : Int) - b))) (bndF n c f y (-1 : Int) (IntKind.i64.wrap ((2147483647 : Int) - b))) (-1 : Int) y (IntKind.i64.wrap (b - (-2147483648 : Int)))) ∧ ((0 : Int) ≤ IntKind.i64.wrap (x + (1 : Int)) ∧ IntKind.i64.wrap (x + (1 : Int)) < (7 : Int)) ∧ ((-2199023255552 : Int) ≤ b ∧ b ≤ (2199023255552 : Int)) ∧ n = n ∧ bndC n (bndC n c f y (-1 : Int) (IntKind.i64.wrap ((2147483647 : Int) - b))) (bndF n c f y (-1 : Int) (IntKind.i64.wrap ((2147483647 : Int) - b))) (-1 : Int) y (IntKind.i64.wrap (b - (-2147483648 : Int))) = (copyZ n x y b (c, f)).fst ∧ ∀ (o : Nat), o < 49 → shiftF n (bndC n (bndC n c f y (-1 : Int) (IntKind.i64.wrap ((2147483647 : Int) - b))) (bndF n c f y (-1 : Int) (IntKind.i64.wrap ((2147483647 : Int) - b))) (-1 : Int) y (IntKind.i64.wrap (b - (-2147483648 : Int)))) (bndF n (bndC n c f y (-1 : Int) (IntKind.i64.wrap ((2147483647 : Int) - b))) (bndF n c f y (-1 : Int) (IntKind.i64.wrap ((2147483647 : Int) - b))) (-1 : Int) y (IntKind.i64.wrap (b - (-2147483648 : Int)))) (IntKind.i64.wrap (x + (1 : Int))).toNat b o = (copyZ n x y b (c, f)).snd o) ∧ ((x == y) = false → Sm (bndF n (bndC n c f y (-1 : Int) (IntKind.i64.wrap ((2147483647 : Int) - b))) (bndF n c f y (-1 : Int) (IntKind.i64.wrap ((2147483647 : Int) - b))) (-1 : Int) y (IntKind.i64.wrap (b - (-2147483648 : Int)))) ∧ Sm (forgetF n (bndC n (bndC n c f y (-1 : Int) (IntKind.i64.wrap ((2147483647 : Int) - b))) (bndF n c f y (-1 : Int) (IntKind.i64.wrap ((2147483647 : Int) - b))) (-1 : Int) y (IntKind.i64.wrap (b - (-2147483648 : Int)))) (bndF n (bndC n c f y (-1 : Int) (IntKind.i64.wrap ((2147483647 : Int) - b))) (bndF n c f y (-1 : Int) (IntKind.i64.wrap ((2147483647 : Int) - b))) (-1 : Int) y (IntKind.i64.wrap (b - (-2147483648 : Int)))) x) ∧ Sm (bndF n (bndC n (bndC n c f y (-1 : Int) (IntKind.i64.wrap ((2147483647 : Int) - b))) (bndF n c f y (-1 : Int) (IntKind.i64.wrap ((2147483647 : Int) - b))) (-1 : Int) y (IntKind.i64.wrap (b - (-2147483648 : Int)))) (forgetF n (bndC n (bndC n c f y (-1 : Int) (IntKind.i64.wrap ((2147483647 : Int) - b))) (bndF n c f y (-1 : Int) (IntKind.i64.wrap ((2147483647 : Int) - b))) (-1 : Int) y (IntKind.i64.wrap (b - (-2147483648 : Int)))) (bndF n (bndC n c f y (-1 : Int) (IntKind.i64.wrap ((2147483647 : Int) - b))) (bndF n c f y (-1 : Int) (IntKind.i64.wrap ((2147483647 : Int) - b))) (-1 : Int) y (IntKind.i64.wrap (b - (-2147483648 : Int)))) x) x y b) ∧ n = n ∧ bndC n (bndC n (bndC n (bndC n c f y (-1 : Int) (IntKind.i64.wrap ((2147483647 : Int) - b))) (bndF n c f y (-1 : Int) (IntKind.i64.wrap ((2147483647 : Int) - b))) (-1 : Int) y (IntKind.i64.wrap (b - (-2147483648 : Int)))) (forgetF n (bndC n (bndC n c f y (-1 : Int) (IntKind.i64.wrap ((2147483647 : Int) - b))) (bndF n c f y (-1 : Int) (IntKind.i64.wrap ((2147483647 : Int) - b))) (-1 : Int) y (IntKind.i64.wrap (b - (-2147483648 : Int)))) (bndF n (bndC n c f y (-1 : Int) (IntKind.i64.wrap ((2147483647 : Int) - b))) (bndF n c f y (-1 : Int) (IntKind.i64.wrap ((2147483647 : Int) - b))) (-1 : Int) y (IntKind.i64.wrap (b - (-2147483648 : Int)))) x) x y b) (bndF n (bndC n (bndC n c f y (-1 : Int) (IntKind.i64.wrap ((2147483647 : Int) - b))) (bndF n c f y (-1 : Int) (IntKind.i64.wrap ((2147483647 : Int) - b))) (-1 : Int) y (IntKind.i64.wrap (b - (-2147483648 : Int)))) (forgetF n (bndC n (bndC n c f y (-1 : Int) (IntKind.i64.wrap ((2147483647 : Int) - b))) (bndF n c f y (-1 : Int) (IntKind.i64.wrap ((2147483647 : Int) - b))) (-1 : Int) y (IntKind.i64.wrap (b - (-2147483648 : Int)))) (bndF n (bndC n c f y (-1 : Int) (IntKind.i64.wrap ((2147483647 : Int) - b))) (bndF n c f y (-1 : Int) (IntKind.i64.wrap ((2147483647 : Int) - b))) (-1 : Int) y (IntKind.i64.wrap (b - (-2147483648 : Int)))) x) x y b) y x (IntKind.i64.wrap ((0 : Int) - b)) = (copyZ n x y b (c, f)).fst ∧ ∀ (o : Nat), o < 49 → bndF n (bndC n (bndC n (bndC n c f y (-1 : Int) (IntKind.i64.wrap ((2147483647 : Int) - b))) (bndF n c f y (-1 : Int) (IntKind.i64.wrap ((2147483647 : Int) - b))) (-1 : Int) y (IntKind.i64.wrap (b - (-2147483648 : Int)))) (forgetF n (bndC n (bndC n c f y (-1 : Int) (IntKind.i64.wrap ((2147483647 : Int) - b))) (bndF n c f y (-1 : Int) (IntKind.i64.wrap ((2147483647 : Int) - b))) (-1 : Int) y (IntKind.i64.wrap (b - (-2147483648 : Int)))) (bndF n (bndC n c f y (-1 : Int) (IntKind.i64.wrap ((2147483647 : Int) - b))) (bndF n c f y (-1 : Int) (IntKind.i64.wrap ((2147483647 : Int) - b))) (-1 : Int) y (IntKind.i64.wrap (b - (-2147483648 : Int)))) x) x y b) (bndF n (bndC n (bndC n c f y (-1 : Int) (IntKind.i64.wrap ((2147483647 : Int) - b))) (bndF n c f y (-1 : Int) (IntKind.i64.wrap ((2147483647 : Int) - b))) (-1 : Int) y (IntKind.i64.wrap (b - (-2147483648 : Int)))) (forgetF n (bndC n (bndC n c f y (-1 : Int) (IntKind.i64.wrap ((2147483647 : Int) - b))) (bndF n c f y (-1 : Int) (IntKind.i64.wrap ((2147483647 : Int) - b))) (-1 : Int) y (IntKind.i64.wrap (b - (-2147483648 : Int)))) (bndF n (bndC n c f y (-1 : Int) (IntKind.i64.wrap ((2147483647 : Int) - b))) (bndF n c f y (-1 : Int) (IntKind.i64.wrap ((2147483647 : Int) - b))) (-1 : Int) y (IntKind.i64.wrap (b - (-2147483648 : Int)))) x) x y b) y x (IntKind.i64.wrap ((0 : Int) - b)) o = (copyZ n x y b (c, f)).snd o)))) (by kernel_rfl) ?_
    intro h
    refine ⟨fun h1 => ?_, fun h1 => ⟨fun h2 => ?_, fun h2 => ?_⟩⟩
    · have e : copyZ n x y b (c, f) = (c, f) := if_pos h1
      rw [e]; exact ⟨rfl, rfl, fun _ _ => rfl⟩
    · have e : copyZ n x y b (c, f) = (true, fun _ => 0) := (if_neg (by rw [h1]; simp)).trans (if_pos h2)
      rw [e]; exact ⟨rfl, rfl, fun _ _ => rfl⟩
    · have hb : -1099511627776 ≤ b ∧ b ≤ 1099511627776 := by
        simp only [Bool.or_eq_false_iff, decide_eq_false_iff_not] at h2
        omega
      have hv := isVarP_lt (show isVarP n x = true by revert h1; cases c <;> cases isVarP n x <;> simp)
      rw [wr (2147483647 - b) (by omega), wr (b - -2147483648) (by omega), show b - -2147483648 = b + 2147483648 by omega, wr (x + 1) (by omega), wr (0 - b) (by omega)]
      have g1 := good_bnd h y (-1) (2147483647 - b)
      have g2 := cp2_good h y b
      have g3 := good_fg g2 x
      have g4 := good_bnd g3 x y b
      refine ⟨h.sm, g1.sm, fun h3 => ?_, fun h3 => ?_⟩
      · have e : copyZ n x y b (c, f) = shZ n (x + 1).toNat b (cp2 n y b (c, f)) := (if_neg (by rw [h1]; simp)).trans ((if_neg (by rw [h2]; simp)).trans (if_pos h3))
        rw [e]
        exact ⟨g2.sm, by omega, by omega, rfl, rfl, fun _ _ => rfl⟩
      · have e : copyZ n x y b (c, f) = bndZ n y x (0 - b) (bndZ n x y b (fgZ n x (cp2 n y b (c, f)))) := (if_neg (by rw [h1]; simp)).trans ((if_neg (by rw [h2]; simp)).trans (if_neg (by rw [h3]; simp)))
        rw [e]
        exact ⟨g2.sm, g3.sm, g4.sm, rfl, rfl, fun _ _ => rfl⟩
  · trivial
end Go.Proofs.YtlgmofjjjhbgkaaGreat.Sx.Z
namespace Go.Proofs.YtlgmofjjjhbgkaaGreat.Sx.Z
open Go.RowKit
theorem pt_range {n : Int} {z : Zs} (h : Good n z) {v : Nat → Int} (p : Pt n z v) {i : Nat} (hi : i < R n) : -2147483648 ≤ v i ∧ v i ≤ 2147483647 := by
  obtain ⟨_, h0, hp⟩ := p
  have hR := R_le n
  have h1 := hp i 0 hi (by omega)
  have h2 := hp 0 i (by omega) hi
  have h3 := h.hi0 i hi
  have h4 := h.hi1 i hi
  simp only [Nat.add_zero, Nat.zero_mul, Nat.zero_add] at h1 h2
  omega
def upd (v : Nat → Int) (a : Nat) (b : Int) : Nat → Int := fun q => if q = a then b else v q
theorem upd_at (v : Nat → Int) (a : Nat) (b : Int) : upd v a b a = b := by simp [upd]
theorem upd_ne {v : Nat → Int} {a q : Nat} {b : Int} (h : q ≠ a) : upd v a b q = v q := by simp [upd, h]
theorem isVar_R {n x : Int} (h : isVarP n x = true) : (x + 1).toNat < R n ∧ ((x + 1).toNat : Int) = x + 1 ∧ 1 ≤ (x + 1).toNat := by
  have h1 := isVarP_lt h
  have h2 := isEnd_R (isVar_end h)
  exact ⟨h2.1, h2.2, by omega⟩
theorem pt_fg {n : Int} {z : Zs} (h : Good n z) {x : Int} (hx : isVarP n x = true) {v : Nat → Int} (p : Pt n z v) {b : Int} (hb : -2147483648 ≤ b ∧ b ≤ 2147483647) : Pt n (fgZ n x z) (upd v (x + 1).toNat b) := by
  have hR := R_le n
  obtain ⟨ha, _, ha1⟩ := isVar_R hx
  have hr := fun {i : Nat} (hi : i < R n) => pt_range h p hi
  obtain ⟨hc, h0, hp⟩ := p
  refine ⟨hc, by rw [upd_ne (by omega)]; exact h0, fun i j hi hj => ?_⟩
  have e : (fgZ n x z).2 (i * 7 + j) = fgTo z.2 (x + 1).toNat (R n) (i * 7 + j) := by
    show forgetF n z.1 z.2 x _ = _
    unfold forgetF
    rw [if_neg (by rw [hc, hx]; simp)]; rfl
  rw [e, fg_at hi hj hR.2.1]
  by_cases h1 : i = (x + 1).toNat
  · by_cases h2 : j = (x + 1).toNat
    · rw [if_neg (by omega), if_neg (by omega), h1, h2]
      have := h.diag (x + 1).toNat ha
      omega
    · rw [if_pos ⟨h1, h2⟩, h1, upd_at, upd_ne h2]
      have := hp 0 j (by omega) hj
      simp only [Nat.zero_mul, Nat.zero_add] at this
      omega
  · by_cases h2 : j = (x + 1).toNat
    · rw [if_neg (by omega), if_pos ⟨h2, h1⟩, h2, upd_at, upd_ne h1]
      have := hp i 0 hi (by omega)
      simp only [Nat.add_zero] at this
      omega
    · rw [if_neg (by omega), if_neg (by omega), upd_ne h1, upd_ne h2]
      exact hp i j hi hj
theorem pt_sh {n : Int} {z : Zs} (h : Good n z) {a : Nat} (ha : a < R n) (ha1 : 1 ≤ a) {v : Nat → Int} (p : Pt n z v) (b : Int) : Pt n (shZ n a b z) (upd v a (v a + b)) := by
  have hR := R_le n
  obtain ⟨hc, h0, hp⟩ := p
  refine ⟨hc, by rw [upd_ne (by omega)]; exact h0, fun i j hi hj => ?_⟩
  have e : (shZ n a b z).2 (i * 7 + j) = shTo z.2 a b (R n) (i * 7 + j) := by
    show shiftF n z.1 z.2 a b _ = _
    unfold shiftF
    rw [if_neg (by rw [hc]; simp)]; rfl
  rw [e, sh_at hi hj hR.2.1]
  have hpij := hp i j hi hj
  by_cases h1 : i = a
  · by_cases h2 : j = a
    · rw [if_neg (by omega), if_neg (by omega), h1, h2]
      have := h.diag a ha
      omega
    · rw [if_pos ⟨h1, h2⟩, h1, upd_at, upd_ne h2]
      subst h1; omega
  · by_cases h2 : j = a
    · rw [if_neg (by omega), if_pos ⟨h2, h1⟩, h2, upd_at, upd_ne h1]
      subst h2; omega
    · rw [if_neg (by omega), if_neg (by omega), upd_ne h1, upd_ne h2]
      exact hpij
theorem pt_bnd {n : Int} {z : Zs} (h : Good n z) {x y b : Int} (hx : isEndP n x = true) (hy : isEndP n y = true) {v : Nat → Int} (p : Pt n z v) (hb : v (x + 1).toNat - v (y + 1).toNat ≤ b) : Pt n (bndZ n x y b z) v := (bnd_pt h hx hy v).2 ⟨p, hb⟩
theorem pt_cp2 {n : Int} {z : Zs} (h : Good n z) {y b : Int} (hy : isEndP n y = true) {v : Nat → Int} (p : Pt n z v) (hb : -2147483648 ≤ v (y + 1).toNat + b ∧ v (y + 1).toNat + b ≤ 2147483647) : Pt n (cp2 n y b z) v := by
  have h0 := p.2.1
  have e0 : ((-1 : Int) + 1).toNat = 0 := rfl
  refine pt_bnd (good_bnd h _ _ _) (isEnd_nought n) hy (pt_bnd h hy (isEnd_nought n) p ?_) ?_ <;> rw [e0, h0] <;> omega
theorem pt_copy {n : Int} {z : Zs} (h : Good n z) {x y b : Int} (hx : isVarP n x = true) (hy : isEndP n y = true) (hf : -1099511627776 ≤ b ∧ b ≤ 1099511627776) {v : Nat → Int} (p : Pt n z v) (hb : -2147483648 ≤ v (y + 1).toNat + b ∧ v (y + 1).toNat + b ≤ 2147483647) :
    Pt n (copyZ n x y b z) (upd v (x + 1).toNat (v (y + 1).toNat + b)) := by
  unfold copyZ
  rw [if_neg (by rw [p.1, hx, hy]; simp), if_neg (by
    have h1 : decide (b > 1099511627776) = false := decide_eq_false (by omega)
    have h2 : decide (b < -1099511627776) = false := decide_eq_false (by omega)
    rw [h1, h2]; simp)]
  have p2 := pt_cp2 h hy p hb
  have g2 := cp2_good h y b
  obtain ⟨ha, hac, ha1⟩ := isVar_R hx
  by_cases hxy : x = y
  · subst hxy
    rw [if_pos (by simp)]
    exact pt_sh g2 ha ha1 p2 b
  · rw [if_neg (by simpa using hxy)]
    have hyc := isEnd_R hy
    have hne : (y + 1).toNat ≠ (x + 1).toNat := fun e => hxy (by omega)
    have g3 := good_fg g2 x
    have p3 := pt_fg g2 hx p2 hb
    have p4 := pt_bnd g3 (isVar_end hx) hy p3 (b := b) (by rw [upd_at, upd_ne hne]; omega)
    exact pt_bnd (good_bnd g3 x y b) hy (isVar_end hx) p4 (b := 0 - b) (by rw [upd_at, upd_ne hne]; omega)
/-- Numbers of variables, with nought ahead. -/
def vz (g : Nat → Int) : Nat → Int := fun q => if q = 0 then 0 else g (q - 1)
/-! ### Rows of numbers -/
end Go.Proofs.YtlgmofjjjhbgkaaGreat.Sx.Z
namespace Go.Proofs.YtlgmofjjjhbgkaaGreat.Sx.Z
open Go.RowKit
/-- Nothing comes below closed bounds. -/
structure Under (C : Nat → Int) (r : Nat) (f : Nat → Int) : Prop where
  le : ∀ i j, i < r → j < r → C (i * 7 + j) ≤ f (i * 7 + j)
section
variable {C : Nat → Int} {r : Nat} (hl : ∀ i j, i < r → j < r → -35184372088832 ≤ C (i * 7 + j)) (ht : ∀ i j k, i < r → j < r → k < r → tri C i j k)
include hl ht
end
end Go.Proofs.YtlgmofjjjhbgkaaGreat.Sx.Z
namespace Go.Proofs.YtlgmofjjjhbgkaaGreat.Sx.Z
open Go.RowKit
def Same (z w : Zs) : Prop := z.1 = w.1 ∧ ∀ o, o < 49 → z.2 o = w.2 o
section
variable {n : Int} {f G : Nat → Int}
end
end Go.Proofs.YtlgmofjjjhbgkaaGreat.Sx.Z
namespace Go.Proofs.YtlgmofjjjhbgkaaGreat.Sx.Z
open Go.RowKit
theorem bnd_none {n x y b : Int} {z : Zs} (h : z.1 = true) : bndZ n x y b z = z := by
  rcases bnd_cases n x y b z with ⟨e, _⟩ | ⟨hc, _⟩
  · exact e
  · rw [h] at hc; cases hc
theorem cp2_mono {n : Int} {z : Zs} (h : Good n z) {y b : Int} (hy : isEndP n y = true) (hc : (cp2 n y b z).1 = false) {i j : Nat} (hi : i < R n) (hj : j < R n) : (cp2 n y b z).2 (i * 7 + j) ≤ z.2 (i * 7 + j) :=
  Int.le_trans (bnd_mono (good_bnd h _ _ _) (isEnd_nought n) hy hc hi hj) (bnd_mono h hy (isEnd_nought n) (bnd_some hc) hi hj)
section
variable {n : Int} {f G : Nat → Int}
end
end Go.Proofs.YtlgmofjjjhbgkaaGreat.Sx.Z
namespace Go.Proofs.YtlgmofjjjhbgkaaGreat.Sx.Z
open Go.RowKit
theorem isVar_of {n x : Int} (hn : 0 ≤ n ∧ n ≤ 6) (h : 0 ≤ x ∧ x < n) : isVarP n x = true := by
  unfold isVarP; rw [rows_n hn]; simp only [Bool.and_eq_true, decide_eq_true_eq]; omega
theorem isEnd_of {n x : Int} (hn : 0 ≤ n ∧ n ≤ 6) (h : -1 ≤ x ∧ x < n) : isEndP n x = true := by
  unfold isEndP isVarP; rw [rows_n hn]; simp only [Bool.or_eq_true, Bool.and_eq_true, decide_eq_true_eq, beq_iff_eq]; omega
theorem fg_true {n x : Int} {z : Zs} (h : z.1 = true) : fgZ n x z = z := by
  obtain ⟨c, f⟩ := z
  dsimp only at h
  subst h
  refine Prod.ext rfl (funext fun o => ?_)
  show forgetF n true f x o = f o
  unfold forgetF; rw [if_pos (by simp)]
theorem fg_false {n x : Int} {z : Zs} (h : z.1 = false) (hx : isVarP n x = true) : fgZ n x z = (false, fgTo z.2 (x + 1).toNat (R n)) := by
  obtain ⟨c, f⟩ := z
  dsimp only at h
  subst h
  refine Prod.ext rfl (funext fun o => ?_)
  show forgetF n false f x o = _
  unfold forgetF; rw [if_neg (by rw [hx]; simp)]; rfl
theorem itv_exact {n x : Int} {z : Zs} (g : Good n z) (h : z.1 = false) (hx : isVarP n x = true) : itvLo n z.1 z.2 x = 0 - z.2 (x + 1).toNat ∧ itvHi n z.1 z.2 x = z.2 ((x + 1).toNat * 7) := by
  obtain ⟨ha, hax, ha1⟩ := isVar_R hx
  have hR := R_le n
  have h0 := g.hi0 _ ha
  have h1 := g.hi1 _ ha
  have t := g.tri 0 0 (x + 1).toNat (by omega) (by omega) ha
  have d := g.diag 0 (by omega)
  unfold Z.tri at t
  rw [Nat.zero_mul, Nat.add_zero, Nat.zero_add, Nat.add_zero] at t
  rw [Nat.zero_mul, Nat.zero_add] at d
  unfold itvLo itvHi
  rw [h, hx, if_neg (by simp), if_neg (by simp)]
  unfold ofLo ofHi
  rw [if_neg (by omega), if_neg (by omega)]
  exact ⟨by omega, by omega⟩
end Go.Proofs.YtlgmofjjjhbgkaaGreat.Sx.Z
namespace Go.Proofs.YtlgmofjjjhbgkaaGreat.Sx.Z
open Go.RowKit
def numA : AP := .agg [.c .bool, .c (.rows 53), .c (.int .i64), .c .bool, .ints .i64 49]
/-- What a zone tells of each variable. -/
def itD (m : Nat) (n : Int) (z : Zs) : D := .l ((List.range m).map fun (j : Nat) => [.i (itvLo n z.1 z.2 j), .i (itvHi n z.1 z.2 j)])
def ofD (m : Nat) (n : Int) (z : Zs) (k : Nat) : D := .l ((List.range m).map fun (j : Nat) => if j < k then [.i (itvLo n z.1 z.2 j), .i (itvHi n z.1 z.2 j)] else [.i 0, .i 0])
theorem itD_len (m : Nat) (n : Int) (z : Zs) : (itD m n z).len = m := by show ((List.range m).map _).length = m; simp
theorem ofD_len (m : Nat) (n : Int) (z : Zs) (k : Nat) : (ofD m n z k).len = m := by show ((List.range m).map _).length = m; simp
theorem itD_el {m j : Nat} (h : j < m) (n : Int) (z : Zs) : ((itD m n z).el j 0).toI = itvLo n z.1 z.2 j ∧ ((itD m n z).el j 1).toI = itvHi n z.1 z.2 j := by
  have : (itD m n z).rows.getD j [] = [.i (itvLo n z.1 z.2 j), .i (itvHi n z.1 z.2 j)] := by
    show ((List.range m).map fun (j : Nat) => [D.i (itvLo n z.1 z.2 j), D.i (itvHi n z.1 z.2 j)]).getD j [] = _
    rw [List.getD_eq_getElem?_getD, List.getElem?_map, List.getElem?_range h]; rfl
  unfold D.el
  rw [this]
  exact ⟨rfl, rfl⟩
theorem ofD_all (m : Nat) (n : Int) (z : Zs) : (ofD m n z m).rows = (itD m n z).rows := by
  show (List.range m).map _ = (List.range m).map _
  refine List.map_congr_left fun j hj => ?_
  rw [if_pos (List.mem_range.1 hj)]
theorem ofD_none (m : Nat) (n : Int) (z : Zs) : (ofD m n z 0).rows = List.replicate m [.i 0, .i 0] := by
  show (List.range m).map _ = _
  rw [List.map_congr_left (g := fun (_ : Nat) => [D.i 0, D.i 0]) fun j _ => if_neg (Nat.not_lt_zero j)]
  simp [List.map_const']
theorem ofD_set {m k : Nat} (h : k < m) (n : Int) (z : Zs) : (ofD m n z k).rows.set k [.i (itvLo n z.1 z.2 k), .i (itvHi n z.1 z.2 k)] = (ofD m n z (k + 1)).rows := by
  show ((List.range m).map fun (j : Nat) => if j < k then [D.i (itvLo n z.1 z.2 j), D.i (itvHi n z.1 z.2 j)] else [.i 0, .i 0]).set k _ = (List.range m).map fun (j : Nat) => if j < k + 1 then [D.i (itvLo n z.1 z.2 j), D.i (itvHi n z.1 z.2 j)] else [.i 0, .i 0]
  apply List.ext_getElem?
  intro q
  rw [List.getElem?_set, List.getElem?_map, List.getElem?_map]
  by_cases hq : q < m
  · rw [List.getElem?_range hq]
    by_cases h1 : k = q
    · subst h1; rw [if_pos rfl, if_pos (by simpa using h)]; simp
    · rw [if_neg h1]
      simp only [Option.map_some, Option.some.injEq]
      by_cases h2 : q < k
      · rw [if_pos h2, if_pos (by omega)]
      · rw [if_neg h2, if_neg (by omega)]
  · rw [List.getElem?_eq_none (by simpa using hq), if_neg (by omega)]; rfl
def nofS : FSpec := fun ds _ => match ds with
  | [.i n, .b c, .f f, .i m] => some { val := .one (.agg [.c (.bool (.sym ((c, f)).1)), .c (.rows 53 (itD (m.toNat) (n) ((c, f)))), .c (.int .i64 (.sym (n))), .c (.bool (.sym ((c, f)).1)), .ints .i64 (.lit 49) ((c, f)).2]), vc := [Sm f, 0 ≤ m ∧ m ≤ 1000] }
  | _ => none
def nofC : Con := con [zA, iA] nofS
theorem nof_ok : ConOK Tryz.prog 42 nofC := by
  refine fn_ob tt_ok mixed Tryz.func42 rfl (fun _ _ => by kernel_rfl) (A := fun ds => ⟨fun _ => Cons.of [(72, zitvC)], fun k => match k, ds with | 3, [.i n, .b c, .f f, .i m] => some { ι := Nat, pre := fun _ k => k ≤ m.toNat, μ := fun k => m.toNat + 1 - k, st := fun s k => famR s [(16, .one (.sc (.int .i64 (.sym ((k : Nat))))))] [1, 2, 4, 5, 15] [(idOf s 14, .orow 53 (ofD m.toNat n (c, f) k))] [2, 4, 5] } | _, _ => none, fun _ => none⟩) (fun _ _ => (cons_cons zitv_ok cons_nil)) (by kernel_rfl) ?_
  intro ds fr
  unfold nofS
  split
  · rename_i n c f m
    refine kmp (q := Sm f → (0 : Int) ≤ m ∧ m ≤ (1000 : Int) → m = m ∧ (0 : Int) ≤ m ∧ (↑16 : Int) * m ≤ (281474976710656 : Int) ∧ m ≤ (9223372036854775807 : Int) ∧ (∃ (i : Nat), i.le m.toNat ∧ (0 : Int) = (↑i : Int) ∧ m = m ∧ (↑m.toNat : Int) = (↑m.toNat : Int) ∧ List.replicate m.toNat [D.i (0 : Int), D.i (0 : Int)] = List.map (fun (j : Nat) => if j < i then [D.i (itvLo n c f (↑j : Int)), D.i (itvHi n c f (↑j : Int))] else [D.i (0 : Int), D.i (0 : Int)]) (List.range m.toNat) ∧ n = n ∧ c = c ∧ (∀ (o : Nat), o < nat_lit 49 → f o = f o) ∧ false = false ∧ (0 : Int) = (0 : Int) ∧ false = false ∧ (∀ (o : Nat), o < nat_lit 49 → (0 : Int) = (0 : Int)) ∧ c = c ∧ m.toNat = m.toNat ∧ n = n ∧ c = c ∧ ∀ (o : Nat), o < nat_lit 49 → f o = f o) ∧ ∀ (i : Nat), i.le m.toNat → (decide ((↑i : Int) < (↑m.toNat : Int)) = true → Sm f ∧ ((0 : Int) ≤ (↑i : Int) ∧ (↑i : Int) < (↑m.toNat : Int)) ∧ (↑i : Int).toNat < (ofD m.toNat n (c, f) i).len ∧ ∃ (j : Nat), j.le m.toNat ∧ m.toNat + 1 - j < m.toNat + 1 - i ∧ IntKind.i64.wrap ((↑i : Int) + (1 : Int)) = (↑j : Int) ∧ m = m ∧ (↑m.toNat : Int) = (↑m.toNat : Int) ∧ (List.map (fun (j : Nat) => if j < i then [D.i (itvLo n c f (↑j : Int)), D.i (itvHi n c f (↑j : Int))] else [D.i (0 : Int), D.i (0 : Int)]) (List.range m.toNat)).set (↑i : Int).toNat [D.i (itvLo n c f (↑i : Int)), D.i (itvHi n c f (↑i : Int))] = List.map (fun (j_1 : Nat) => if j_1 < j then [D.i (itvLo n c f (↑j_1 : Int)), D.i (itvHi n c f (↑j_1 : Int))] else [D.i (0 : Int), D.i (0 : Int)]) (List.range m.toNat) ∧ n = n ∧ c = c ∧ (∀ (o : Nat), o < nat_lit 49 → f o = f o) ∧ false = false ∧ (0 : Int) = (0 : Int) ∧ false = false ∧ (∀ (o : Nat), o < nat_lit 49 → (0 : Int) = (0 : Int)) ∧ c = c ∧ m.toNat = m.toNat ∧ n = n ∧ c = c ∧ ∀ (o : Nat), o < nat_lit 49 → f o = f o) ∧ (decide ((↑i : Int) < (↑m.toNat : Int)) = false → nat_lit 0 + m.toNat ≤ (ofD m.toNat n (c, f) i).len ∧ c = c ∧ List.drop (nat_lit 0) (List.take (nat_lit 0 + m.toNat) (List.map (fun (j : Nat) => if j < i then [D.i (itvLo n c f (↑j : Int)), D.i (itvHi n c f (↑j : Int))] else [D.i (0 : Int), D.i (0 : Int)]) (List.range m.toNat))) = List.map (fun (j : Nat) => [D.i (itvLo n c f (↑j : Int)), D.i (itvHi n c f (↑j : Int))]) (List.range m.toNat) ∧ n = n ∧ c = c ∧ ∀ (o : Nat), o < nat_lit 49 → f o = f o)) (by kernel_rfl) ?_
    simp only [raw0, true_and, and_true, implies_true, Nat.mul_one, Int.toNat_natCast, c7, decide_eq_true_eq, decide_eq_false_iff_not, Nat.zero_add, forall_const, Nat.le_eq, at_iff, bne_iff_ne, bne_eq_false_iff_eq, and_self, and_self_left, Nat.reduceAdd]
    intro hs hm
    refine ⟨hm.1, by omega, by omega, ⟨0, Nat.zero_le _, rfl, (ofD_none m.toNat n (c, f)).symm⟩, fun i hi => ⟨fun h => ⟨hs, by omega, by rw [ofD_len]; omega, i + 1, by omega, by omega, wr _ (by omega), ofD_set (by omega) n (c, f)⟩, fun h => ⟨by rw [ofD_len]; exact Nat.le_refl _, ?_⟩⟩⟩
    have e : i = m.toNat := by omega
    subst e
    rw [List.drop_zero, List.take_of_length_le (by simp)]
    exact ofD_all m.toNat n (c, f)
  · trivial
end Go.Proofs.YtlgmofjjjhbgkaaGreat.Sx.Z
