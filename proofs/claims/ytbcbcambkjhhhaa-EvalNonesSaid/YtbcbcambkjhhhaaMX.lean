/-
  The Nums' small calls: what they tell.
-/
import Derived.Test.YtbcbcambkjhhhaaProg
import Derived.Laws.Bits64
import Derived.IntWalk
import Derived.ChangeArms
import Derived.OpenShut
import Derived.WideShapes
import Derived.ChangeShapes
import Derived.Carry
import Derived.DataReads
import Derived.KernelRfl
import Derived.Deep.LoopGhost
import Derived.Laws.Append
import Derived.Laws.AppendOwn
import Derived.Laws.MakeOwn
import Derived.Laws.StructEq
import Derived.Laws.Cells
import Derived.Laws.CopyRow
import Derived.Laws.Rows
import Derived.Below
import Derived.Orders
import Derived.ChangeKeysEq
import Derived.Test.YtbcbcambkjhhhaaMA
import Derived.Test.YtbcbcambkjhhhaaMB
import Derived.Test.YtbcbcambkjhhhaaMC
import Derived.Test.YtbcbcambkjhhhaaMD
import Derived.Test.YtbcbcambkjhhhaaME
import Derived.Test.YtbcbcambkjhhhaaMF
import Derived.Test.YtbcbcambkjhhhaaMG
import Derived.Test.YtbcbcambkjhhhaaMH
import Derived.Test.YtbcbcambkjhhhaaMI
import Derived.Test.YtbcbcambkjhhhaaMJ
import Derived.Test.YtbcbcambkjhhhaaMK
import Derived.Test.YtbcbcambkjhhhaaML
import Derived.Test.YtbcbcambkjhhhaaMM
import Derived.Test.YtbcbcambkjhhhaaMj1
import Derived.Test.YtbcbcambkjhhhaaMN
import Derived.Test.YtbcbcambkjhhhaaMO
import Derived.Test.YtbcbcambkjhhhaaMP
import Derived.Test.YtbcbcambkjhhhaaMW
namespace Go.Proofs.Ytbcbcambkjhhhaa.Sx.Z
open Go.RowKit
def numA : AP := .agg [.c .bool, .c (.rows 48), .c (.int .i64), .c .bool, .ints .i64 49]
/-- What a zone tells of each variable. -/
def itD (m : Nat) (n : Int) (z : Zs) : D := .l ((List.range m).map fun (j : Nat) => [.i (itvLo n z.1 z.2 j), .i (itvHi n z.1 z.2 j)])
def ofD (m : Nat) (n : Int) (z : Zs) (k : Nat) : D := .l ((List.range m).map fun (j : Nat) => if j < k then [.i (itvLo n z.1 z.2 j), .i (itvHi n z.1 z.2 j)] else [.i 0, .i 0])
theorem itD_len (m : Nat) (n : Int) (z : Zs) : (itD m n z).len = m := by show ((List.range m).map _).length = m; simp
theorem ofD_len (m : Nat) (n : Int) (z : Zs) (k : Nat) : (ofD m n z k).len = m := by show ((List.range m).map _).length = m; simp
theorem itD_el {m j : Nat} (h : j < m) (n : Int) (z : Zs) : ((itD m n z).el j 0).toI = itvLo n z.1 z.2 j ∧ ((itD m n z).el j 1).toI = itvHi n z.1 z.2 j := by
  have : (itD m n z).rows.getD j [] = [.i (itvLo n z.1 z.2 j), .i (itvHi n z.1 z.2 j)] := by
    show ((List.range m).map fun (j : Nat) => [D.i (itvLo n z.1 z.2 j), D.i (itvHi n z.1 z.2 j)]).getD j [] = _
    rw [List.getD_eq_getElem?_getD, List.getElem?_map, List.getElem?_range h]; rfl
  unfold D.el
  rw [this]
  exact ⟨rfl, rfl⟩
theorem ofD_all (m : Nat) (n : Int) (z : Zs) : (ofD m n z m).rows = (itD m n z).rows := by
  show (List.range m).map _ = (List.range m).map _
  refine List.map_congr_left fun j hj => ?_
  rw [if_pos (List.mem_range.1 hj)]
theorem ofD_none (m : Nat) (n : Int) (z : Zs) : (ofD m n z 0).rows = List.replicate m [.i 0, .i 0] := by
  show (List.range m).map _ = _
  rw [List.map_congr_left (g := fun (_ : Nat) => [D.i 0, D.i 0]) fun j _ => if_neg (Nat.not_lt_zero j)]
  simp [List.map_const']
theorem ofD_set {m k : Nat} (h : k < m) (n : Int) (z : Zs) : (ofD m n z k).rows.set k [.i (itvLo n z.1 z.2 k), .i (itvHi n z.1 z.2 k)] = (ofD m n z (k + 1)).rows := by
  show ((List.range m).map fun (j : Nat) => if j < k then [D.i (itvLo n z.1 z.2 j), D.i (itvHi n z.1 z.2 j)] else [.i 0, .i 0]).set k _ = (List.range m).map fun (j : Nat) => if j < k + 1 then [D.i (itvLo n z.1 z.2 j), D.i (itvHi n z.1 z.2 j)] else [.i 0, .i 0]
  apply List.ext_getElem?
  intro q
  rw [List.getElem?_set, List.getElem?_map, List.getElem?_map]
  by_cases hq : q < m
  · rw [List.getElem?_range hq]
    by_cases h1 : k = q
    · subst h1; rw [if_pos rfl, if_pos (by simpa using h)]; simp
    · rw [if_neg h1]
      simp only [Option.map_some, Option.some.injEq]
      by_cases h2 : q < k
      · rw [if_pos h2, if_pos (by omega)]
      · rw [if_neg h2, if_neg (by omega)]
  · rw [List.getElem?_eq_none (by simpa using hq), if_neg (by omega)]; rfl
def nofS : FSpec := fun ds _ => match ds with
  | [.i n, .b c, .f f, .i m] => some { val := .one (.agg [.c (.bool (.sym ((c, f)).1)), .c (.rows 48 (itD (m.toNat) (n) ((c, f)))), .c (.int .i64 (.sym (n))), .c (.bool (.sym ((c, f)).1)), .ints .i64 (.lit 49) ((c, f)).2]), vc := [Sm f, 0 ≤ m ∧ m ≤ 1000] }
  | _ => none
def nofC : Con := con [zA, iA] nofS
theorem nof_ok : ConOK Try.prog 96 nofC := by
  refine fn_ob tt_ok mixed Try.func96 rfl (fun _ _ => by kernel_rfl) (A := fun ds => ⟨fun _ => Cons.of [(90, zitvC)], fun k => match k, ds with | 3, [.i n, .b c, .f f, .i m] => some { ι := Nat, pre := fun _ k => k ≤ m.toNat, μ := fun k => m.toNat + 1 - k, st := fun s k => famR s [(16, .one (.sc (.int .i64 (.sym ((k : Nat))))))] [1, 2, 4, 5, 15] [(idOf s 14, .orow 48 (ofD m.toNat n (c, f) k))] [2, 4, 5] } | _, _ => none, fun _ => none⟩) (fun _ _ => (cons_cons zitv_ok cons_nil)) (by kernel_rfl) ?_
  intro ds fr
  unfold nofS
  split
  · rename_i n c f m
    refine kmp (q := Sm f →
 (0 : Int) ≤ m ∧ m ≤ (1000 : Int) →
 m = m ∧
 (0 : Int) ≤ m ∧
 (↑(16 : Nat) : Int) * m ≤ (281474976710656 : Int) ∧
 m ≤ (9223372036854775807 : Int) ∧
 (∃ (i : Nat),
 i.le m.toNat ∧
 (0 : Int) = (↑i : Int) ∧
 m = m ∧
 (↑m.toNat : Int) = (↑m.toNat : Int) ∧
 List.replicate m.toNat [D.i (0 : Int), D.i (0 : Int)] =
 List.map
 (fun (j : Nat) => if j < i then [D.i (itvLo n c f (↑j : Int)), D.i (itvHi n c f (↑j : Int))] else [D.i (0 : Int), D.i (0 : Int)])
 (List.range m.toNat) ∧
 n = n ∧
 c = c ∧
 (∀ (o : Nat), o < nat_lit 49 → f o = f o) ∧
 false = false ∧
 (0 : Int) = (0 : Int) ∧
 false = false ∧
 (∀ (o : Nat), o < nat_lit 49 → (0 : Int) = (0 : Int)) ∧
 c = c ∧ m.toNat = m.toNat ∧ n = n ∧ c = c ∧ ∀ (o : Nat), o < nat_lit 49 → f o = f o) ∧
 ∀ (i : Nat),
 i.le m.toNat →
 (decide ((↑i : Int) < (↑m.toNat : Int)) = true →
 Sm f ∧
 ((0 : Int) ≤ (↑i : Int) ∧ (↑i : Int) < (↑m.toNat : Int)) ∧
 (↑i : Int).toNat < (ofD m.toNat n (c, f) i).len ∧
 ∃ (j : Nat),
 j.le m.toNat ∧
 m.toNat + (1 : Nat) - j < m.toNat + (1 : Nat) - i ∧
 IntKind.i64.wrap ((↑i : Int) + (1 : Int)) = (↑j : Int) ∧
 m = m ∧
 (↑m.toNat : Int) = (↑m.toNat : Int) ∧
 (List.map
 (fun (j : Nat) =>
 if j < i then [D.i (itvLo n c f (↑j : Int)), D.i (itvHi n c f (↑j : Int))]
 else [D.i (0 : Int), D.i (0 : Int)])
 (List.range m.toNat)).set
 (↑i : Int).toNat [D.i (itvLo n c f (↑i : Int)), D.i (itvHi n c f (↑i : Int))] =
 List.map
 (fun (j_1 : Nat) =>
 if j_1 < j then [D.i (itvLo n c f (↑j_1 : Int)), D.i (itvHi n c f (↑j_1 : Int))]
 else [D.i (0 : Int), D.i (0 : Int)])
 (List.range m.toNat) ∧
 n = n ∧
 c = c ∧
 (∀ (o : Nat), o < nat_lit 49 → f o = f o) ∧
 false = false ∧
 (0 : Int) = (0 : Int) ∧
 false = false ∧
 (∀ (o : Nat), o < nat_lit 49 → (0 : Int) = (0 : Int)) ∧
 c = c ∧ m.toNat = m.toNat ∧ n = n ∧ c = c ∧ ∀ (o : Nat), o < nat_lit 49 → f o = f o) ∧
 (decide ((↑i : Int) < (↑m.toNat : Int)) = false →
 nat_lit 0 + m.toNat ≤ (ofD m.toNat n (c, f) i).len ∧
 c = c ∧
 List.drop (nat_lit 0)
 (List.take (nat_lit 0 + m.toNat)
 (List.map
 (fun (j : Nat) =>
 if j < i then [D.i (itvLo n c f (↑j : Int)), D.i (itvHi n c f (↑j : Int))] else [D.i (0 : Int), D.i (0 : Int)])
 (List.range m.toNat))) =
 List.map (fun (j : Nat) => [D.i (itvLo n c f (↑j : Int)), D.i (itvHi n c f (↑j : Int))]) (List.range m.toNat) ∧
 n = n ∧ c = c ∧ ∀ (o : Nat), o < nat_lit 49 → f o = f o)) (by kernel_rfl) ?_
    simp only [raw0, true_and, and_true, implies_true, Int.toNat_natCast, decide_eq_true_eq, decide_eq_false_iff_not, Nat.le_eq, and_self]
    intro hs hm
    refine ⟨hm.1, by omega, by omega, ⟨0, Nat.zero_le _, rfl, (ofD_none m.toNat n (c, f)).symm⟩, fun i hi => ⟨fun h => ⟨hs, by omega, by rw [ofD_len]; omega, i + 1, by omega, by omega, wr _ (by omega), ofD_set (by omega) n (c, f)⟩, fun h => ⟨by rw [ofD_len]; exact Nat.le_refl _, ?_⟩⟩⟩
    have e : i = m.toNat := by omega
    subst e
    rw [List.drop_zero, List.take_of_length_le (by simp)]
    exact ofD_all m.toNat n (c, f)
  · trivial
end Go.Proofs.Ytbcbcambkjhhhaa.Sx.Z
namespace Go.Proofs.Ytbcbcambkjhhhaa.Sx.Z
open Go.RowKit
def metZ (n x lo hi : Int) (z : Zs) : Zs := if x < 0 then z else bndZ n (-1) x (0 - ofLo lo hi) (bndZ n x (-1) (ofHi lo hi) z)
theorem good_met {n : Int} {z : Zs} (h : Good n z) (x lo hi : Int) : Good n (metZ n x lo hi z) := by
  unfold metZ
  split
  · exact h
  · exact good_bnd (good_bnd h _ _ _) _ _ _
theorem of_in (a b : Int) : -2147483648 ≤ ofLo a b ∧ ofLo a b ≤ 2147483647 ∧ -2147483648 ≤ ofHi a b ∧ ofHi a b ≤ 2147483647 := by
  unfold ofLo ofHi
  (repeat' split) <;> omega
theorem none_bnd (n : Int) : bndC n false (fun _ => 0) (-1) (-1) (-1) = true ∧ bndF n false (fun _ => 0) (-1) (-1) (-1) = fun _ => 0 := by
  have e : bndZ n (-1) (-1) (-1) (false, fun _ => 0) = (true, fun _ => 0) := by
    have q0 : ((-1 : Int) + 1).toNat = 0 := rfl
    rcases bnd_cases n (-1) (-1) (-1) (false, fun _ => 0) with ⟨_, h⟩ | ⟨_, _, _, h, ⟨_, e⟩ | ⟨h2, _⟩⟩
    · have := h (isEnd_nought n) (isEnd_nought n) rfl
      dsimp only at this; omega
    · exact e
    · dsimp only at h2; omega
  exact ⟨congrArg Prod.fst e, congrArg Prod.snd e⟩
/-- Zones of whatever count, joined, widened. -/
theorem sm_jn {n m : Int} {e e2 : Bool} {f g : Nat → Int} (gf : Good n (e, f)) (gg : Good m (e2, g)) : Sm (jnF n e f m e2 g) := by
  by_cases h : n = m
  · subst h; exact (good_jn gf gg).sm
  · have : jnF n e f m e2 g = f := funext fun o => if_pos (by simp [h])
    rw [this]; exact gf.sm
def metS : FSpec := fun ds _ => match ds with
  | [.i n, .b c, .f f, .i x, .i lo, .i hi] => some { val := .one (.agg [.c (.int .i64 (.sym (n))), .c (.bool (.sym ((metZ n x lo hi (c, f)).1))), .ints .i64 (.lit 49) ((metZ n x lo hi (c, f)).2)]), vc := [Good n (c, f)] }
  | _ => none
def metC : Con := con [zA, iA, itvA] metS
theorem met_ok : ConOK Try.prog 99 metC := by
  refine fn_ob tt_ok mixed Try.func99 rfl (fun _ _ => by kernel_rfl) (A := fun ds => ⟨fun _ => Cons.of [(68, iofC), (97, boundC)], fun _ => none, fun _ => none⟩) (fun _ _ => (cons_cons iof_ok (cons_cons bound_ok cons_nil))) (by kernel_rfl) ?_
  intro ds fr
  unfold metS
  split
  · rename_i n c f x lo hi
    refine kmp (q := Good n (c, f) →
 (decide (x < (0 : Int)) = true → n = n ∧ c = (metZ n x lo hi (c, f)).fst ∧ ∀ (o : Nat), o < nat_lit 49 → f o = (metZ n x lo hi (c, f)).snd o) ∧
 (decide (x < (0 : Int)) = false →
 Sm f ∧
 Sm (bndF n c f x (-1 : Int) (ofHi lo hi)) ∧
 n = n ∧
 bndC n (bndC n c f x (-1 : Int) (ofHi lo hi)) (bndF n c f x (-1 : Int) (ofHi lo hi)) (-1 : Int) x (IntKind.i64.wrap ((0 : Int) - ofLo lo hi)) =
 (metZ n x lo hi (c, f)).fst ∧
 ∀ (o : Nat),
 o < nat_lit 49 →
 bndF n (bndC n c f x (-1 : Int) (ofHi lo hi)) (bndF n c f x (-1 : Int) (ofHi lo hi)) (-1 : Int) x (IntKind.i64.wrap ((0 : Int) - ofLo lo hi))
 o =
 (metZ n x lo hi (c, f)).snd o)) (by kernel_rfl) ?_
    simp only [true_and, decide_eq_true_eq, decide_eq_false_iff_not]
    intro h
    have hl := of_in lo hi
    rw [wr (0 - ofLo lo hi) (by omega)]
    have g1 := good_bnd h x (-1) (ofHi lo hi)
    refine ⟨fun hx => ?_, fun hx => ⟨h.sm, g1.sm, ?_⟩⟩
    · have e : metZ n x lo hi (c, f) = (c, f) := if_pos hx
      rw [e]; exact ⟨rfl, fun _ _ => rfl⟩
    · have e : metZ n x lo hi (c, f) = bndZ n (-1) x (0 - ofLo lo hi) (bndZ n x (-1) (ofHi lo hi) (c, f)) := if_neg hx
      rw [e]; exact ⟨rfl, fun _ _ => rfl⟩
  · trivial
def nzerosS : FSpec := fun ds _ => match ds with
  | [.i n] => some { val := .one (.agg [.c (.bool (.sym ((false, fun _ => 0) : Zs).1)), .c (.rows 48 (itD ((topN n).toNat) (topN n) ((false, fun _ => 0)))), .c (.int .i64 (.sym (topN n))), .c (.bool (.sym ((false, fun _ => 0) : Zs).1)), .ints .i64 (.lit 49) ((false, fun _ => 0) : Zs).2]), vc := [] }
  | _ => none
def nzerosC : Con := con [iA] nzerosS
theorem nzeros_ok : ConOK Try.prog 53 nzerosC := by
  refine fn_ob tt_ok mixed Try.func53 rfl (fun _ _ => by kernel_rfl) (A := fun ds => ⟨fun _ => Cons.of [(98, zerosC), (96, nofC)], fun _ => none, fun _ => none⟩) (fun _ _ => (cons_cons zeros_ok (cons_cons nof_ok cons_nil))) (by kernel_rfl) ?_
  intro ds fr
  unfold nzerosS
  split
  · rename_i n
    refine kmp (q := (Sm fun (x : Nat) => (0 : Int)) ∧
 ((0 : Int) ≤ min (max n (0 : Int)) (6 : Int) ∧ min (max n (0 : Int)) (6 : Int) ≤ (1000 : Int)) ∧
 false = false ∧
 List.map
 (fun (j : Nat) =>
 [D.i (itvLo (min (max n (0 : Int)) (6 : Int)) false (fun (x : Nat) => (0 : Int)) (↑j : Int)),
 D.i (itvHi (min (max n (0 : Int)) (6 : Int)) false (fun (x : Nat) => (0 : Int)) (↑j : Int))])
 (List.range (min (max n (0 : Int)) (6 : Int)).toNat) =
 List.map
 (fun (j : Nat) =>
 [D.i (itvLo (topN n) false (fun (x : Nat) => (0 : Int)) (↑j : Int)), D.i (itvHi (topN n) false (fun (x : Nat) => (0 : Int)) (↑j : Int))])
 (List.range (topN n).toNat) ∧
 min (max n (0 : Int)) (6 : Int) = topN n ∧ false = false ∧ ∀ (o : Nat), o < nat_lit 49 → (0 : Int) = (0 : Int)) (by kernel_rfl) ?_
    simp only [true_and, and_true, implies_true, and_self]
    have e : min (max n 0) 6 = topN n := rfl
    have ht := topN_le n
    rw [e]
    have s0 : Sm (fun _ => 0) := (good_none (n := 0) (by omega) false).sm
    exact ⟨s0, by omega, rfl, rfl⟩
  · trivial
def nnoneS : FSpec := fun ds _ => match ds with
  | [.i n] => some { val := .one (.agg [.c (.bool (.sym ((true, fun _ => 0) : Zs).1)), .c (.rows 48 (itD ((topN n).toNat) (topN n) ((true, fun _ => 0)))), .c (.int .i64 (.sym (topN n))), .c (.bool (.sym ((true, fun _ => 0) : Zs).1)), .ints .i64 (.lit 49) ((true, fun _ => 0) : Zs).2]), vc := [] }
  | _ => none
def nnoneC : Con := con [iA] nnoneS
theorem nnone_ok : ConOK Try.prog 51 nnoneC := by
  refine fn_ob tt_ok mixed Try.func51 rfl (fun _ _ => by kernel_rfl) (A := fun ds => ⟨fun _ => Cons.of [(98, zerosC), (97, boundC), (96, nofC)], fun _ => none, fun _ => none⟩) (fun _ _ => (cons_cons zeros_ok (cons_cons bound_ok (cons_cons nof_ok cons_nil)))) (by kernel_rfl) ?_
  intro ds fr
  unfold nnoneS
  split
  · rename_i n
    refine kmp (q := (Sm fun (x : Nat) => (0 : Int)) ∧
 Sm (bndF (min (max n (0 : Int)) (6 : Int)) false (fun (x : Nat) => (0 : Int)) (-1 : Int) (-1 : Int) (-1 : Int)) ∧
 ((0 : Int) ≤ min (max n (0 : Int)) (6 : Int) ∧ min (max n (0 : Int)) (6 : Int) ≤ (1000 : Int)) ∧
 bndC (min (max n (0 : Int)) (6 : Int)) false (fun (x : Nat) => (0 : Int)) (-1 : Int) (-1 : Int) (-1 : Int) = true ∧
 List.map
 (fun (j : Nat) =>
 [D.i
 (itvLo (min (max n (0 : Int)) (6 : Int))
 (bndC (min (max n (0 : Int)) (6 : Int)) false (fun (x : Nat) => (0 : Int)) (-1 : Int) (-1 : Int) (-1 : Int))
 (bndF (min (max n (0 : Int)) (6 : Int)) false (fun (x : Nat) => (0 : Int)) (-1 : Int) (-1 : Int) (-1 : Int)) (↑j : Int)),
 D.i
 (itvHi (min (max n (0 : Int)) (6 : Int))
 (bndC (min (max n (0 : Int)) (6 : Int)) false (fun (x : Nat) => (0 : Int)) (-1 : Int) (-1 : Int) (-1 : Int))
 (bndF (min (max n (0 : Int)) (6 : Int)) false (fun (x : Nat) => (0 : Int)) (-1 : Int) (-1 : Int) (-1 : Int)) (↑j : Int))])
 (List.range (min (max n (0 : Int)) (6 : Int)).toNat) =
 List.map
 (fun (j : Nat) =>
 [D.i (itvLo (topN n) true (fun (x : Nat) => (0 : Int)) (↑j : Int)), D.i (itvHi (topN n) true (fun (x : Nat) => (0 : Int)) (↑j : Int))])
 (List.range (topN n).toNat) ∧
 min (max n (0 : Int)) (6 : Int) = topN n ∧
 bndC (min (max n (0 : Int)) (6 : Int)) false (fun (x : Nat) => (0 : Int)) (-1 : Int) (-1 : Int) (-1 : Int) = true ∧
 ∀ (o : Nat),
 o < nat_lit 49 → bndF (min (max n (0 : Int)) (6 : Int)) false (fun (x : Nat) => (0 : Int)) (-1 : Int) (-1 : Int) (-1 : Int) o = (0 : Int)) (by kernel_rfl) ?_
    simp only []
    have e : min (max n 0) 6 = topN n := rfl
    have ht := topN_le n
    obtain ⟨e1, e2⟩ := none_bnd (topN n)
    rw [e, e1, e2]
    have s0 : Sm (fun _ => 0) := (good_none (n := 0) (by omega) false).sm
    exact ⟨s0, s0, by omega, rfl, rfl, rfl, rfl, fun _ _ => rfl⟩
  · trivial
def nsetS : FSpec := fun ds _ => match ds with
  | [.b _c, .d I, .i n, .b e, .f f, .i x, .i lo, .i hi] => some { val := .one (.agg [.c (.bool (.sym (metZ n x lo hi (fgZ n x (e, f)) : Zs).1)), .c (.rows 48 (itD (I.len) (n) (metZ n x lo hi (fgZ n x (e, f))))), .c (.int .i64 (.sym (n))), .c (.bool (.sym (metZ n x lo hi (fgZ n x (e, f)) : Zs).1)), .ints .i64 (.lit 49) (metZ n x lo hi (fgZ n x (e, f)) : Zs).2]), vc := [Good n (e, f), I.len ≤ 1000] }
  | _ => none
def nsetC : Con := con [numA, iA, itvA] nsetS
theorem nset_ok : ConOK Try.prog 52 nsetC := by
  refine fn_ob tt_ok mixed Try.func52 rfl (fun _ _ => by kernel_rfl) (A := fun ds => ⟨fun _ => Cons.of [(100, forgetC), (99, metC), (96, nofC)], fun _ => none, fun _ => none⟩) (fun _ _ => (cons_cons forget_ok (cons_cons met_ok (cons_cons nof_ok cons_nil)))) (by kernel_rfl) ?_
  intro ds fr
  unfold nsetS
  split
  · rename_i c I n e f x lo hi
    refine kmp (q := Good n (e, f) →
 I.len ≤ (1000 : Nat) →
 Sm f ∧
 Good n (e, forgetF n e f x) ∧
 Sm (metZ n x lo hi (e, forgetF n e f x)).snd ∧
 ((0 : Int) ≤ (↑I.len : Int) ∧ (↑I.len : Int) ≤ (1000 : Int)) ∧
 (metZ n x lo hi (e, forgetF n e f x)).fst = (metZ n x lo hi (fgZ n x (e, f))).fst ∧
 List.map
 (fun (j : Nat) =>
 [D.i (itvLo n (metZ n x lo hi (e, forgetF n e f x)).fst (metZ n x lo hi (e, forgetF n e f x)).snd (↑j : Int)),
 D.i (itvHi n (metZ n x lo hi (e, forgetF n e f x)).fst (metZ n x lo hi (e, forgetF n e f x)).snd (↑j : Int))])
 (List.range (↑I.len : Int).toNat) =
 List.map
 (fun (j : Nat) =>
 [D.i (itvLo n (metZ n x lo hi (fgZ n x (e, f))).fst (metZ n x lo hi (fgZ n x (e, f))).snd (↑j : Int)),
 D.i (itvHi n (metZ n x lo hi (fgZ n x (e, f))).fst (metZ n x lo hi (fgZ n x (e, f))).snd (↑j : Int))])
 (List.range I.len) ∧
 n = n ∧
 (metZ n x lo hi (e, forgetF n e f x)).fst = (metZ n x lo hi (fgZ n x (e, f))).fst ∧
 ∀ (o : Nat), o < nat_lit 49 → (metZ n x lo hi (e, forgetF n e f x)).snd o = (metZ n x lo hi (fgZ n x (e, f))).snd o) (by kernel_rfl) ?_
    simp only [true_and, Int.toNat_natCast]
    intro h hI
    have g1 := good_fg h x
    exact ⟨h.sm, g1, (good_met g1 x lo hi).sm, by omega, rfl, rfl, rfl, fun _ _ => rfl⟩
  · trivial
def nmeetS : FSpec := fun ds _ => match ds with
  | [.b _c, .d I, .i n, .b e, .f f, .i x, .i lo, .i hi] => some { val := .one (.agg [.c (.bool (.sym (metZ n x lo hi (e, f) : Zs).1)), .c (.rows 48 (itD (I.len) (n) (metZ n x lo hi (e, f)))), .c (.int .i64 (.sym (n))), .c (.bool (.sym (metZ n x lo hi (e, f) : Zs).1)), .ints .i64 (.lit 49) (metZ n x lo hi (e, f) : Zs).2]), vc := [Good n (e, f), I.len ≤ 1000] }
  | _ => none
def nmeetC : Con := con [numA, iA, itvA] nmeetS
theorem nmeet_ok : ConOK Try.prog 86 nmeetC := by
  refine fn_ob tt_ok mixed Try.func86 rfl (fun _ _ => by kernel_rfl) (A := fun ds => ⟨fun _ => Cons.of [(99, metC), (96, nofC)], fun _ => none, fun _ => none⟩) (fun _ _ => (cons_cons met_ok (cons_cons nof_ok cons_nil))) (by kernel_rfl) ?_
  intro ds fr
  unfold nmeetS
  split
  · rename_i c I n e f x lo hi
    refine kmp (q := Good n (e, f) →
 I.len ≤ (1000 : Nat) →
 Good n (e, f) ∧
 Sm (metZ n x lo hi (e, f)).snd ∧
 ((0 : Int) ≤ (↑I.len : Int) ∧ (↑I.len : Int) ≤ (1000 : Int)) ∧
 (metZ n x lo hi (e, f)).fst = (metZ n x lo hi (e, f)).fst ∧
 List.map
 (fun (j : Nat) =>
 [D.i (itvLo n (metZ n x lo hi (e, f)).fst (metZ n x lo hi (e, f)).snd (↑j : Int)),
 D.i (itvHi n (metZ n x lo hi (e, f)).fst (metZ n x lo hi (e, f)).snd (↑j : Int))])
 (List.range (↑I.len : Int).toNat) =
 List.map
 (fun (j : Nat) =>
 [D.i (itvLo n (metZ n x lo hi (e, f)).fst (metZ n x lo hi (e, f)).snd (↑j : Int)),
 D.i (itvHi n (metZ n x lo hi (e, f)).fst (metZ n x lo hi (e, f)).snd (↑j : Int))])
 (List.range I.len) ∧
 n = n ∧
 (metZ n x lo hi (e, f)).fst = (metZ n x lo hi (e, f)).fst ∧
 ∀ (o : Nat), o < nat_lit 49 → (metZ n x lo hi (e, f)).snd o = (metZ n x lo hi (e, f)).snd o) (by kernel_rfl) ?_
    simp only [and_true, implies_true, Int.toNat_natCast, and_self]
    intro h hI
    exact ⟨h, (good_met h x lo hi).sm, by omega, by omega⟩
  · trivial
def ncopyS : FSpec := fun ds _ => match ds with
  | [.b _c, .d I, .i n, .b e, .f f, .i x, .i y, .i b] => some { val := .one (.agg [.c (.bool (.sym (copyZ n x y b (e, f) : Zs).1)), .c (.rows 48 (itD (I.len) (n) (copyZ n x y b (e, f)))), .c (.int .i64 (.sym (n))), .c (.bool (.sym (copyZ n x y b (e, f) : Zs).1)), .ints .i64 (.lit 49) (copyZ n x y b (e, f) : Zs).2]), vc := [Good n (e, f), I.len ≤ 1000] }
  | _ => none
def ncopyC : Con := con [numA, iA, iA, iA] ncopyS
theorem ncopy_ok : ConOK Try.prog 87 ncopyC := by
  refine fn_ob tt_ok mixed Try.func87 rfl (fun _ _ => by kernel_rfl) (A := fun ds => ⟨fun _ => Cons.of [(113, copyC), (96, nofC)], fun _ => none, fun _ => none⟩) (fun _ _ => (cons_cons copy_ok (cons_cons nof_ok cons_nil))) (by kernel_rfl) ?_
  intro ds fr
  unfold ncopyS
  split
  · rename_i c I n e f x y b
    refine kmp (q := Good n (e, f) →
 I.len ≤ (1000 : Nat) →
 Good n (e, f) ∧
 Sm (copyZ n x y b (e, f)).snd ∧
 ((0 : Int) ≤ (↑I.len : Int) ∧ (↑I.len : Int) ≤ (1000 : Int)) ∧
 (copyZ n x y b (e, f)).fst = (copyZ n x y b (e, f)).fst ∧
 List.map
 (fun (j : Nat) =>
 [D.i (itvLo n (copyZ n x y b (e, f)).fst (copyZ n x y b (e, f)).snd (↑j : Int)),
 D.i (itvHi n (copyZ n x y b (e, f)).fst (copyZ n x y b (e, f)).snd (↑j : Int))])
 (List.range (↑I.len : Int).toNat) =
 List.map
 (fun (j : Nat) =>
 [D.i (itvLo n (copyZ n x y b (e, f)).fst (copyZ n x y b (e, f)).snd (↑j : Int)),
 D.i (itvHi n (copyZ n x y b (e, f)).fst (copyZ n x y b (e, f)).snd (↑j : Int))])
 (List.range I.len) ∧
 n = n ∧
 (copyZ n x y b (e, f)).fst = (copyZ n x y b (e, f)).fst ∧
 ∀ (o : Nat), o < nat_lit 49 → (copyZ n x y b (e, f)).snd o = (copyZ n x y b (e, f)).snd o) (by kernel_rfl) ?_
    simp only [and_true, implies_true, Int.toNat_natCast, and_self]
    intro h hI
    exact ⟨h, (good_copy h x y b).sm, by omega, by omega⟩
  · trivial
def nboundS : FSpec := fun ds _ => match ds with
  | [.b _c, .d I, .i n, .b e, .f f, .i x, .i y, .i b] => some { val := .one (.agg [.c (.bool (.sym (bndZ n x y b (e, f) : Zs).1)), .c (.rows 48 (itD (I.len) (n) (bndZ n x y b (e, f)))), .c (.int .i64 (.sym (n))), .c (.bool (.sym (bndZ n x y b (e, f) : Zs).1)), .ints .i64 (.lit 49) (bndZ n x y b (e, f) : Zs).2]), vc := [Good n (e, f), I.len ≤ 1000] }
  | _ => none
def nboundC : Con := con [numA, iA, iA, iA] nboundS
theorem nbound_ok : ConOK Try.prog 145 nboundC := by
  refine fn_ob tt_ok mixed Try.func145 rfl (fun _ _ => by kernel_rfl) (A := fun ds => ⟨fun _ => Cons.of [(97, boundC), (96, nofC)], fun _ => none, fun _ => none⟩) (fun _ _ => (cons_cons bound_ok (cons_cons nof_ok cons_nil))) (by kernel_rfl) ?_
  intro ds fr
  unfold nboundS
  split
  · rename_i c I n e f x y b
    refine kmp (q := Good n (e, f) →
 I.len ≤ (1000 : Nat) →
 Sm f ∧
 Sm (bndF n e f x y b) ∧
 ((0 : Int) ≤ (↑I.len : Int) ∧ (↑I.len : Int) ≤ (1000 : Int)) ∧
 bndC n e f x y b = (bndZ n x y b (e, f)).fst ∧
 List.map
 (fun (j : Nat) =>
 [D.i (itvLo n (bndC n e f x y b) (bndF n e f x y b) (↑j : Int)), D.i (itvHi n (bndC n e f x y b) (bndF n e f x y b) (↑j : Int))])
 (List.range (↑I.len : Int).toNat) =
 List.map
 (fun (j : Nat) =>
 [D.i (itvLo n (bndZ n x y b (e, f)).fst (bndZ n x y b (e, f)).snd (↑j : Int)),
 D.i (itvHi n (bndZ n x y b (e, f)).fst (bndZ n x y b (e, f)).snd (↑j : Int))])
 (List.range I.len) ∧
 n = n ∧ bndC n e f x y b = (bndZ n x y b (e, f)).fst ∧ ∀ (o : Nat), o < nat_lit 49 → bndF n e f x y b o = (bndZ n x y b (e, f)).snd o) (by kernel_rfl) ?_
    simp only [true_and, Int.toNat_natCast]
    intro h hI
    exact ⟨h.sm, (good_bnd h x y b).sm, by omega, rfl, rfl, rfl, fun _ _ => rfl⟩
  · trivial
def njoinS : FSpec := fun ds _ => match ds with
  | [.b _c, .d I, .i n, .b e, .f f, .b _c2, .d _I2, .i m, .b e2, .f g] => some { val := .one (.agg [.c (.bool (.sym ((jnC n e m e2, jnF n e f m e2 g) : Zs).1)), .c (.rows 48 (itD (I.len) (n) ((jnC n e m e2, jnF n e f m e2 g)))), .c (.int .i64 (.sym (n))), .c (.bool (.sym ((jnC n e m e2, jnF n e f m e2 g) : Zs).1)), .ints .i64 (.lit 49) ((jnC n e m e2, jnF n e f m e2 g) : Zs).2]), vc := [Good n (e, f), Good m (e2, g), I.len ≤ 1000] }
  | _ => none
def njoinC : Con := con [numA, numA] njoinS
theorem njoin_ok : ConOK Try.prog 84 njoinC := by
  refine fn_ob tt_ok mixed Try.func84 rfl (fun _ _ => by kernel_rfl) (A := fun ds => ⟨fun _ => Cons.of [(109, joinC), (96, nofC)], fun _ => none, fun _ => none⟩) (fun _ _ => (cons_cons join_ok (cons_cons nof_ok cons_nil))) (by kernel_rfl) ?_
  intro ds fr
  unfold njoinS
  split
  · rename_i c I n e f c2 I2 m e2 g
    refine kmp (q := Good n (e, f) →
 Good m (e2, g) →
 I.len ≤ (1000 : Nat) →
 Sm (jnF n e f m e2 g) ∧
 ((0 : Int) ≤ (↑I.len : Int) ∧ (↑I.len : Int) ≤ (1000 : Int)) ∧
 jnC n e m e2 = jnC n e m e2 ∧
 List.map (fun (j : Nat) => [D.i (itvLo n (jnC n e m e2) (jnF n e f m e2 g) (↑j : Int)), D.i (itvHi n (jnC n e m e2) (jnF n e f m e2 g) (↑j : Int))])
 (List.range (↑I.len : Int).toNat) =
 List.map
 (fun (j : Nat) => [D.i (itvLo n (jnC n e m e2) (jnF n e f m e2 g) (↑j : Int)), D.i (itvHi n (jnC n e m e2) (jnF n e f m e2 g) (↑j : Int))])
 (List.range I.len) ∧
 n = n ∧ jnC n e m e2 = jnC n e m e2 ∧ ∀ (o : Nat), o < nat_lit 49 → jnF n e f m e2 g o = jnF n e f m e2 g o) (by kernel_rfl) ?_
    simp only [and_true, implies_true, Int.toNat_natCast, and_self]
    intro h h2 hI
    exact ⟨sm_jn h h2, by omega, by omega⟩
  · trivial
def nwithinS : FSpec := fun ds _ => match ds with
  | [.b _c, .d _I, .i n, .b e, .f f, .b _c2, .d _I2, .i m, .b e2, .f g] => some { val := .one (.sc (.bool (.sym (withinP n e f m e2 g)))), vc := [] }
  | _ => none
def nwithinC : Con := con [numA, numA] nwithinS
theorem nwithin_ok : ConOK Try.prog 47 nwithinC := by
  refine fn_ob tt_ok mixed Try.func47 rfl (fun _ _ => by kernel_rfl) (A := fun ds => ⟨fun _ => Cons.of [(91, withinC)], fun _ => none, fun _ => none⟩) (fun _ _ => (cons_cons within_ok cons_nil)) (by kernel_rfl) ?_
  intro ds fr
  unfold nwithinS
  split
  · rename_i c I n e f c2 I2 m e2 g
    refine kmp (q := withinP n e f m e2 g = withinP n e f m e2 g) (by kernel_rfl) ?_
    rfl
  · trivial
end Go.Proofs.Ytbcbcambkjhhhaa.Sx.Z
namespace Go.Proofs.Ytbcbcambkjhhhaa.Sx.Z
open Go.RowKit
def hasJ (I v : D) (j : Nat) : Bool := decide ((I.el j 0).toI ≤ (v.el j 0).toI) && decide ((v.el j 0).toI ≤ (I.el j 1).toI)
def allJ (p : Nat → Bool) (m : Nat) : Bool := (List.range m).all p
theorem allJ_iff {p : Nat → Bool} {m : Nat} : allJ p m = true ↔ ∀ j, j < m → p j = true := by
  unfold allJ
  rw [List.all_eq_true]
  exact ⟨fun h j hj => h j (List.mem_range.2 hj), fun h j hj => h j (List.mem_range.1 hj)⟩
theorem allJ_no {p : Nat → Bool} {m j : Nat} (hj : j < m) (h : p j = false) : allJ p m = false := by
  cases e : allJ p m with
  | false => rfl
  | true => have := allJ_iff.1 e j hj; rw [h] at this; cases this
def nhasP (c : Bool) (I : D) (n : Int) (e : Bool) (f : Nat → Int) (v : D) : Bool := if (c || (v.len : Int) != I.len) = true then false else allJ (hasJ I v) I.len && hasP n e f v.len (ig v)
def rightJ (I : D) (n : Int) (e : Bool) (f : Nat → Int) (j : Nat) : Bool := ((I.el j 0).toI == itvLo n e f j) && ((I.el j 1).toI == itvHi n e f j)
def nrightP (c : Bool) (I : D) (n : Int) (e : Bool) (f : Nat → Int) : Bool := if (!rightP n e f || (e != c) || n != (I.len : Int)) = true then false else allJ (rightJ I n e f) I.len
def nhasS : FSpec := fun ds _ => match ds with
  | [.b c, .d I, .i n, .b e, .f f, .d v] => some { val := .one (.sc (.bool (.sym (nhasP c I n e f v)))), vc := [I.len ≤ 1000] }
  | _ => none
def nhasC : Con := con [numA, .sc (.rows 3)] nhasS
theorem nhas_ok : ConOK Try.prog 43 nhasC := by
  refine fn_ob tt_ok mixed Try.func43 rfl (fun _ _ => by kernel_rfl) (A := fun ds => ⟨fun _ => Cons.of [(45, ihasC), (88, zhasC)], fun k => match k, ds with | 4, [.b c, .d I, .i n, .b e, .f f, .d v] => some { ι := Nat, pre := fun _ k => k ≤ I.len ∧ ∀ j, j < k → hasJ I v j = true, μ := fun k => I.len + 1 - k, st := fun s k => famR s [(20, .one (.sc (.int .i64 (.sym ((k : Nat))))))] [1, 2, 18, 19] [] [2] } | _, _ => none, fun _ => none⟩) (fun _ _ => (cons_cons ihas_ok (cons_cons zhas_ok cons_nil))) (by kernel_rfl) ?_
  intro ds fr
  unfold nhasS
  split
  · rename_i c I n e f v
    refine kmp (q := I.len ≤ (1000 : Nat) →
 ((c || (↑v.len : Int) != (↑I.len : Int)) = true → false = nhasP c I n e f v) ∧
 ((c || (↑v.len : Int) != (↑I.len : Int)) = false →
 (∃ (i : Nat),
 (i ≤ I.len ∧ ∀ (j : Nat), j < i → hasJ I v j = true) ∧
 (0 : Int) = (↑i : Int) ∧
 v.rows = v.rows ∧
 I.rows = I.rows ∧ (↑I.len : Int) = (↑I.len : Int) ∧ c = c ∧ I.rows = I.rows ∧ n = n ∧ e = e ∧ ∀ (o : Nat), o < nat_lit 49 → f o = f o) ∧
 ∀ (i : Nat),
 (i ≤ I.len ∧ ∀ (j : Nat), j < i → hasJ I v j = true) →
 (decide ((↑i : Int) < (↑I.len : Int)) = true →
 ((0 : Int) ≤ (↑i : Int) ∧ (↑i : Int) < (↑I.len : Int)) ∧
 ((0 : Int) ≤ (↑i : Int) ∧ (↑i : Int) < (↑v.len : Int)) ∧
 ((!(decide ((I.el (↑i : Int).toNat (0 : Nat)).toI ≤ (v.el (↑i : Int).toNat (0 : Nat)).toI) &&
 decide ((v.el (↑i : Int).toNat (0 : Nat)).toI ≤ (I.el (↑i : Int).toNat ((0 : Nat) + (1 : Nat))).toI))) =
 true →
 false = nhasP c I n e f v) ∧
 ((!(decide ((I.el (↑i : Int).toNat (0 : Nat)).toI ≤ (v.el (↑i : Int).toNat (0 : Nat)).toI) &&
 decide ((v.el (↑i : Int).toNat (0 : Nat)).toI ≤ (I.el (↑i : Int).toNat ((0 : Nat) + (1 : Nat))).toI))) =
 false →
 ∃ (j : Nat),
 (j ≤ I.len ∧ ∀ (j_1 : Nat), j_1 < j → hasJ I v j_1 = true) ∧
 I.len + (1 : Nat) - j < I.len + (1 : Nat) - i ∧
 IntKind.i64.wrap ((↑i : Int) + (1 : Int)) = (↑j : Int) ∧
 v.rows = v.rows ∧
 I.rows = I.rows ∧
 (↑I.len : Int) = (↑I.len : Int) ∧ c = c ∧ I.rows = I.rows ∧ n = n ∧ e = e ∧ ∀ (o : Nat), o < nat_lit 49 → f o = f o)) ∧
 (decide ((↑i : Int) < (↑I.len : Int)) = false → hasP n e f v.len (ig v) = nhasP c I n e f v))) (by kernel_rfl) ?_
    simp only [raw0, and_true, implies_true, Int.toNat_natCast, decide_eq_true_eq, decide_eq_false_iff_not, and_self]
    intro hI
    refine ⟨fun h => (if_pos h).symm, fun h => ⟨⟨0, ⟨by omega, fun j hj => absurd hj (Nat.not_lt_zero j)⟩, rfl⟩, fun i hi => ⟨fun h1 => ?_, fun h1 => ?_⟩⟩⟩
    · have hvl : (v.len : Int) = I.len := by
        simp only [Bool.or_eq_false_iff, bne_eq_false_iff_eq] at h
        exact h.2
      refine ⟨by omega, by omega, fun h2 => ?_, fun h2 => ⟨i + 1, ⟨by omega, fun j hj => ?_⟩, by omega, wr _ (by omega)⟩⟩
      · have e : nhasP c I n e f v = (allJ (hasJ I v) I.len && hasP n e f v.len (ig v)) := if_neg (by rw [h]; simp)
        rw [e, allJ_no (j := i) (by omega) (by unfold hasJ; rwa [Bool.not_eq_true'] at h2)]
        rfl
      · by_cases hj2 : j < i
        · exact hi.2 j hj2
        · rw [show j = i by omega]; unfold hasJ; simpa using h2
    · have e : nhasP c I n e f v = (allJ (hasJ I v) I.len && hasP n e f v.len (ig v)) := if_neg (by rw [h]; simp)
      rw [e, allJ_iff.2 (fun j hj => hi.2 j (by omega))]
      rfl
  · trivial
def nrightS : FSpec := fun ds _ => match ds with
  | [.b c, .d I, .i n, .b e, .f f] => some { val := .one (.sc (.bool (.sym (nrightP c I n e f)))), vc := [Sm f, I.len ≤ 1000] }
  | _ => none
def nrightC : Con := con [numA] nrightS
theorem nright_ok : ConOK Try.prog 44 nrightC := by
  refine fn_ob tt_ok mixed Try.func44 rfl (fun _ _ => by kernel_rfl) (A := fun ds => ⟨fun _ => Cons.of [(89, zrightC), (90, zitvC)], fun k => match k, ds with | 4, [.b c, .d I, .i n, .b e, .f f] => some { ι := Nat, pre := fun _ k => k ≤ I.len ∧ ∀ j, j < k → rightJ I n e f j = true, μ := fun k => I.len + 1 - k, st := fun s k => famR s [(29, .one (.sc (.int .i64 (.sym ((k : Nat))))))] [1, 27, 28] [] [1] } | _, _ => none, fun _ => none⟩) (fun _ _ => (cons_cons zright_ok (cons_cons zitv_ok cons_nil))) (by kernel_rfl) ?_
  intro ds fr
  unfold nrightS
  split
  · rename_i c I n e f
    refine kmp (q := Sm f →
 I.len ≤ (1000 : Nat) →
 ((!rightP n e f || !e == c || n != (↑I.len : Int)) = true → false = nrightP c I n e f) ∧
 ((!rightP n e f || !e == c || n != (↑I.len : Int)) = false →
 (∃ (i : Nat),
 (i ≤ I.len ∧ ∀ (j : Nat), j < i → rightJ I n e f j = true) ∧
 (0 : Int) = (↑i : Int) ∧
 I.rows = I.rows ∧ (↑I.len : Int) = (↑I.len : Int) ∧ c = c ∧ I.rows = I.rows ∧ n = n ∧ e = e ∧ ∀ (o : Nat), o < nat_lit 49 → f o = f o) ∧
 ∀ (i : Nat),
 (i ≤ I.len ∧ ∀ (j : Nat), j < i → rightJ I n e f j = true) →
 (decide ((↑i : Int) < (↑I.len : Int)) = true →
 ((0 : Int) ≤ (↑i : Int) ∧ (↑i : Int) < (↑I.len : Int)) ∧
 Sm f ∧
 ((!((I.el (↑i : Int).toNat (0 : Nat)).toI == itvLo n e f (↑i : Int) &&
 ((I.el (↑i : Int).toNat ((0 : Nat) + (1 : Nat))).toI == itvHi n e f (↑i : Int) && true))) =
 true →
 false = nrightP c I n e f) ∧
 ((!((I.el (↑i : Int).toNat (0 : Nat)).toI == itvLo n e f (↑i : Int) &&
 ((I.el (↑i : Int).toNat ((0 : Nat) + (1 : Nat))).toI == itvHi n e f (↑i : Int) && true))) =
 false →
 ∃ (j : Nat),
 (j ≤ I.len ∧ ∀ (j_1 : Nat), j_1 < j → rightJ I n e f j_1 = true) ∧
 I.len + (1 : Nat) - j < I.len + (1 : Nat) - i ∧
 IntKind.i64.wrap ((↑i : Int) + (1 : Int)) = (↑j : Int) ∧
 I.rows = I.rows ∧
 (↑I.len : Int) = (↑I.len : Int) ∧ c = c ∧ I.rows = I.rows ∧ n = n ∧ e = e ∧ ∀ (o : Nat), o < nat_lit 49 → f o = f o)) ∧
 (decide ((↑i : Int) < (↑I.len : Int)) = false → true = nrightP c I n e f))) (by kernel_rfl) ?_
    simp only [raw0, and_true, implies_true, Int.toNat_natCast, decide_eq_true_eq, decide_eq_false_iff_not, and_self]
    intro hs hI
    have hb : (!e == c) = (e != c) := rfl
    have hcond : (!rightP n e f || !e == c || n != (I.len : Int)) = (!rightP n e f || (e != c) || n != (I.len : Int)) := by cases e <;> cases c <;> rfl
    rw [hcond]
    refine ⟨fun h => (if_pos h).symm, fun h => ⟨⟨0, ⟨by omega, fun j hj => absurd hj (Nat.not_lt_zero j)⟩, rfl⟩, fun i hi => ⟨fun h1 => ?_, fun h1 => ?_⟩⟩⟩
    · refine ⟨by omega, hs, fun h2 => ?_, fun h2 => ⟨i + 1, ⟨by omega, fun j hj => ?_⟩, by omega, wr _ (by omega)⟩⟩
      · have e : nrightP c I n e f = allJ (rightJ I n e f) I.len := if_neg (by rw [h]; simp)
        rw [e, allJ_no (j := i) (by omega) (by unfold rightJ; rwa [Bool.not_eq_true', Bool.and_true] at h2)]
      · by_cases hj2 : j < i
        · exact hi.2 j hj2
        · rw [show j = i by omega]; unfold rightJ; simpa using h2
    · have e : nrightP c I n e f = allJ (rightJ I n e f) I.len := if_neg (by rw [h]; simp)
      rw [e, allJ_iff.2 (fun j hj => hi.2 j (by omega))]
  · trivial
end Go.Proofs.Ytbcbcambkjhhhaa.Sx.Z
namespace Go.Proofs.Ytbcbcambkjhhhaa.Sx.Z
open Go.RowKit
theorem itD_right {n : Int} {z : Zs} (g : Good n z) : nrightP z.1 (itD n.toNat n z) n z.1 z.2 = true := by
  have h := good_right g
  have h0 := g.n0
  unfold nrightP
  rw [if_neg (by rw [h, itD_len]; simp; omega)]
  refine allJ_iff.2 fun j hj => ?_
  rw [itD_len] at hj
  obtain ⟨e1, e2⟩ := itD_el hj n z
  unfold rightJ
  rw [e1, e2]; simp
end Go.Proofs.Ytbcbcambkjhhhaa.Sx.Z
