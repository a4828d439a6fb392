/-
  The Nums' small calls: what they tell.
-/
import Derived.Test.YtefdfggkhnahiaaNo
namespace Go.Proofs.Ytefdfggkhnahiaa.Sx.Z
open Go.RowKit
def numA : AP := .agg [.c .bool, .c (.rows 53), .c (.int .i64), .c .bool, .ints .i64 49]
/-- What a zone tells of each variable. -/
def itD (m : Nat) (n : Int) (z : Zs) : D := .l ((List.range m).map fun (j : Nat) => [.i (itvLo n z.1 z.2 j), .i (itvHi n z.1 z.2 j)])
def ofD (m : Nat) (n : Int) (z : Zs) (k : Nat) : D := .l ((List.range m).map fun (j : Nat) => if j < k then [.i (itvLo n z.1 z.2 j), .i (itvHi n z.1 z.2 j)] else [.i 0, .i 0])
theorem itD_len (m : Nat) (n : Int) (z : Zs) : (itD m n z).len = m := by show ((List.range m).map _).length = m; simp
theorem ofD_len (m : Nat) (n : Int) (z : Zs) (k : Nat) : (ofD m n z k).len = m := by show ((List.range m).map _).length = m; simp
theorem itD_el {m j : Nat} (h : j < m) (n : Int) (z : Zs) : ((itD m n z).el j 0).toI = itvLo n z.1 z.2 j ∧ ((itD m n z).el j 1).toI = itvHi n z.1 z.2 j := by
  have : (itD m n z).rows.getD j [] = [.i (itvLo n z.1 z.2 j), .i (itvHi n z.1 z.2 j)] := by
    show ((List.range m).map fun (j : Nat) => [D.i (itvLo n z.1 z.2 j), D.i (itvHi n z.1 z.2 j)]).getD j [] = _
    rw [List.getD_eq_getElem?_getD, List.getElem?_map, List.getElem?_range h]; rfl
  unfold D.el
  rw [this]
  exact ⟨rfl, rfl⟩
theorem ofD_all (m : Nat) (n : Int) (z : Zs) : (ofD m n z m).rows = (itD m n z).rows := by
  show (List.range m).map _ = (List.range m).map _
  refine List.map_congr_left fun j hj => ?_
  rw [if_pos (List.mem_range.1 hj)]
theorem ofD_none (m : Nat) (n : Int) (z : Zs) : (ofD m n z 0).rows = List.replicate m [.i 0, .i 0] := by
  show (List.range m).map _ = _
  rw [List.map_congr_left (g := fun (_ : Nat) => [D.i 0, D.i 0]) fun j _ => if_neg (Nat.not_lt_zero j)]
  simp [List.map_const']
theorem ofD_set {m k : Nat} (h : k < m) (n : Int) (z : Zs) : (ofD m n z k).rows.set k [.i (itvLo n z.1 z.2 k), .i (itvHi n z.1 z.2 k)] = (ofD m n z (k + 1)).rows := by
  show ((List.range m).map fun (j : Nat) => if j < k then [D.i (itvLo n z.1 z.2 j), D.i (itvHi n z.1 z.2 j)] else [.i 0, .i 0]).set k _ = (List.range m).map fun (j : Nat) => if j < k + 1 then [D.i (itvLo n z.1 z.2 j), D.i (itvHi n z.1 z.2 j)] else [.i 0, .i 0]
  apply List.ext_getElem?
  intro q
  rw [List.getElem?_set, List.getElem?_map, List.getElem?_map]
  by_cases hq : q < m
  · rw [List.getElem?_range hq]
    by_cases h1 : k = q
    · subst h1; rw [if_pos rfl, if_pos (by simpa using h)]; simp
    · rw [if_neg h1]
      simp only [Option.map_some, Option.some.injEq]
      by_cases h2 : q < k
      · rw [if_pos h2, if_pos (by omega)]
      · rw [if_neg h2, if_neg (by omega)]
  · rw [List.getElem?_eq_none (by simpa using hq), if_neg (by omega)]; rfl
def nofS : FSpec := fun ds _ => match ds with
  | [.i n, .b c, .f f, .i m] => some { val := .one (.agg [.c (.bool (.sym ((c, f)).1)), .c (.rows 53 (itD (m.toNat) (n) ((c, f)))), .c (.int .i64 (.sym (n))), .c (.bool (.sym ((c, f)).1)), .ints .i64 (.lit 49) ((c, f)).2]), vc := [Sm f, 0 ≤ m ∧ m ≤ 1000] }
  | _ => none
def nofC : Con := con [zA, iA] nofS
theorem nof_ok : ConOK Try.prog 40 nofC := by
  refine fn_ob tt_ok mixed Try.func40 rfl (fun _ _ => by kernel_rfl) (A := fun ds => ⟨fun _ => Cons.of [(38, zitvC)], fun k => match k, ds with | 3, [.i n, .b c, .f f, .i m] => some { ι := Nat, pre := fun _ k => k ≤ m.toNat, μ := fun k => m.toNat + 1 - k, st := fun s k => famR s [(16, .one (.sc (.int .i64 (.sym ((k : Nat))))))] [1, 2, 4, 5, 15] [(idOf s 14, .orow 53 (ofD m.toNat n (c, f) k))] [2, 4, 5] } | _, _ => none, fun _ => none⟩) (fun _ _ => (cons_cons zitv_ok cons_nil)) (by kernel_rfl) ?_
  intro ds fr
  unfold nofS
  split
  · rename_i n c f m
    refine kmp (q := Sm f →
 (0 : Int) ≤ m ∧ m ≤ (1000 : Int) →
 m = m ∧
 (0 : Int) ≤ m ∧
 (↑(16 : Nat) : Int) * m ≤ (281474976710656 : Int) ∧
 m ≤ (9223372036854775807 : Int) ∧
 (∃ (i : Nat),
 i.le m.toNat ∧
 (0 : Int) = (↑i : Int) ∧
 m = m ∧
 (↑m.toNat : Int) = (↑m.toNat : Int) ∧
 List.replicate m.toNat [D.i (0 : Int), D.i (0 : Int)] =
 List.map
 (fun (j : Nat) => if j < i then [D.i (itvLo n c f (↑j : Int)), D.i (itvHi n c f (↑j : Int))] else [D.i (0 : Int), D.i (0 : Int)])
 (List.range m.toNat) ∧
 n = n ∧
 c = c ∧
 (∀ (o : Nat), o < nat_lit 49 → f o = f o) ∧
 false = false ∧
 (0 : Int) = (0 : Int) ∧
 false = false ∧
 (∀ (o : Nat), o < nat_lit 49 → (0 : Int) = (0 : Int)) ∧
 c = c ∧ m.toNat = m.toNat ∧ n = n ∧ c = c ∧ ∀ (o : Nat), o < nat_lit 49 → f o = f o) ∧
 ∀ (i : Nat),
 i.le m.toNat →
 (decide ((↑i : Int) < (↑m.toNat : Int)) = true →
 Sm f ∧
 ((0 : Int) ≤ (↑i : Int) ∧ (↑i : Int) < (↑m.toNat : Int)) ∧
 (↑i : Int).toNat < (ofD m.toNat n (c, f) i).len ∧
 ∃ (j : Nat),
 j.le m.toNat ∧
 m.toNat + (1 : Nat) - j < m.toNat + (1 : Nat) - i ∧
 IntKind.i64.wrap ((↑i : Int) + (1 : Int)) = (↑j : Int) ∧
 m = m ∧
 (↑m.toNat : Int) = (↑m.toNat : Int) ∧
 (List.map
 (fun (j : Nat) =>
 if j < i then [D.i (itvLo n c f (↑j : Int)), D.i (itvHi n c f (↑j : Int))]
 else [D.i (0 : Int), D.i (0 : Int)])
 (List.range m.toNat)).set
 (↑i : Int).toNat [D.i (itvLo n c f (↑i : Int)), D.i (itvHi n c f (↑i : Int))] =
 List.map
 (fun (j_1 : Nat) =>
 if j_1 < j then [D.i (itvLo n c f (↑j_1 : Int)), D.i (itvHi n c f (↑j_1 : Int))]
 else [D.i (0 : Int), D.i (0 : Int)])
 (List.range m.toNat) ∧
 n = n ∧
 c = c ∧
 (∀ (o : Nat), o < nat_lit 49 → f o = f o) ∧
 false = false ∧
 (0 : Int) = (0 : Int) ∧
 false = false ∧
 (∀ (o : Nat), o < nat_lit 49 → (0 : Int) = (0 : Int)) ∧
 c = c ∧ m.toNat = m.toNat ∧ n = n ∧ c = c ∧ ∀ (o : Nat), o < nat_lit 49 → f o = f o) ∧
 (decide ((↑i : Int) < (↑m.toNat : Int)) = false →
 nat_lit 0 + m.toNat ≤ (ofD m.toNat n (c, f) i).len ∧
 c = c ∧
 List.drop (nat_lit 0)
 (List.take (nat_lit 0 + m.toNat)
 (List.map
 (fun (j : Nat) =>
 if j < i then [D.i (itvLo n c f (↑j : Int)), D.i (itvHi n c f (↑j : Int))] else [D.i (0 : Int), D.i (0 : Int)])
 (List.range m.toNat))) =
 List.map (fun (j : Nat) => [D.i (itvLo n c f (↑j : Int)), D.i (itvHi n c f (↑j : Int))]) (List.range m.toNat) ∧
 n = n ∧ c = c ∧ ∀ (o : Nat), o < nat_lit 49 → f o = f o)) (by kernel_rfl) ?_
    simp only [raw0, true_and, and_true, implies_true, Nat.mul_one, Int.toNat_natCast, c7, decide_eq_true_eq, decide_eq_false_iff_not, Nat.zero_add, forall_const, Nat.le_eq, at_iff, bne_iff_ne, bne_eq_false_iff_eq, and_self, and_self_left, Nat.reduceAdd]
    intro hs hm
    refine ⟨hm.1, by omega, by omega, ⟨0, Nat.zero_le _, rfl, (ofD_none m.toNat n (c, f)).symm⟩, fun i hi => ⟨fun h => ⟨hs, by omega, by rw [ofD_len]; omega, i + 1, by omega, by omega, wr _ (by omega), ofD_set (by omega) n (c, f)⟩, fun h => ⟨by rw [ofD_len]; exact Nat.le_refl _, ?_⟩⟩⟩
    have e : i = m.toNat := by omega
    subst e
    rw [List.drop_zero, List.take_of_length_le (by simp)]
    exact ofD_all m.toNat n (c, f)
  · trivial
end Go.Proofs.Ytefdfggkhnahiaa.Sx.Z
