/-
  ZoneActs' contract.
-/
import Derived.Test.YtmdoafhohflhdaaYj
namespace Go.Proofs.Ytmdoafhohflhdaa.Sx.Z
open Go.RowKit
def s0Z (n : Int) (b : Bool) : Zs := if b = true then (false, fun _ => 0) else (false, topF n)
theorem s0_good {n : Int} (hn : 0 ≤ n ∧ n ≤ 6) (b : Bool) : Good n (s0Z n b) := by
  unfold s0Z
  split
  · exact good_none hn false
  · have := good_top n; rwa [show topN n = n by unfold topN; omega] at this
theorem itv_exact {n x : Int} {z : Zs} (g : Good n z) (h : z.1 = false) (hx : isVarP n x = true) : itvLo n z.1 z.2 x = 0 - z.2 (x + 1).toNat ∧ itvHi n z.1 z.2 x = z.2 ((x + 1).toNat * 7) := by
  obtain ⟨ha, hax, ha1⟩ := isVar_R hx
  have hR := R_le n
  have h0 := g.hi0 _ ha
  have h1 := g.hi1 _ ha
  have t := g.tri 0 0 (x + 1).toNat (by omega) (by omega) ha
  have d := g.diag 0 (by omega)
  unfold Z.tri at t
  rw [Nat.zero_mul, Nat.add_zero, Nat.zero_add, Nat.add_zero] at t
  rw [Nat.zero_mul, Nat.zero_add] at d
  unfold itvLo itvHi
  rw [h, hx, if_neg (by simp), if_neg (by simp)]
  unfold ofLo ofHi
  rw [if_neg (by omega), if_neg (by omega)]
  exact ⟨by omega, by omega⟩
def zactsS : FSpec := fun ds _ => match ds with
  | [.i n, .b b, .d row] => some { val := .one (.sc (.bool (.sym (true)))), vc := [] }
  | _ => none
def zactsC : Con := con [iA, .sc .bool, .sc (.rows 44)] zactsS
theorem zacts_ok : ConOK Try.prog 3 zactsC := by
  refine fn_ob tt_ok mixed Try.func3 rfl (fun _ _ => by kernel_rfl) (A := fun ds => ⟨fun _ => Cons.of [(12, topC), (13, rtopC), (14, zerosC), (15, rboundC), (17, zfromC), (18, applyC), (16, copiesC), (19, zitvC), (20, inoneC)], fun k => match k, ds with | 6, [.i n, .b b, .d row] => some { ι := Nat, pre := fun _ i => i ≤ (kz n).toNat, μ := fun i => 9 - i, st := fun s i => famR s [(10, .one (.sc (.int .i64 (.sym ((i : Nat))))))] [2, 7, 8, 9] [(idOf s 9, .own 29 (zs (.sym (kz n)) (.sym (zoP (kz n) i).1) (zoP (kz n) i).2))] [8] } | 15, [.i n, .b b, .d row] => some { ι := Nat, pre := fun _ i => i ≤ (kz n).toNat, μ := fun i => 9 - i, st := fun s i => famR s [(12, .one (.sc (.int .i64 (.sym ((i : Nat))))))] [7, 8, 9] [] [8, 9] } | _, _ => none, fun k => match k, ds with | 3, [.i n, .b b, .d row] => some { ι := Bool, pre := fun _ _ => True, μ := fun _ => 0, st := fun s _ => famR s [(7, .one (.sc (.int .i64 (.sym (kz n))))), (8, .one (.sc (.ptr (s.nx - 1) (.lit 0)))), (9, .one (.sc (.ptr (s.nx - 2) (.lit 0))))] [1, 2] [(s.nx - 1, .own 27 (zs (.sym (kz n)) (.sym ((false, topF (kz n))).1) ((false, topF (kz n))).2)), (s.nx - 2, .own 29 (zs (.sym (kz n)) (.sym ((false, topF (kz n))).1) ((false, topF (kz n))).2))] [] } | 9, [.i n, .b b, .d row] => some { ι := Bool, pre := fun _ _ => True, μ := fun _ => 0, st := fun s _ => famR s [(7, .one (.sc (.int .i64 (.sym (kz n)))))] [2, 8, 9] [(idOf s 8, .own 27 (zs (.sym (kz n)) (.sym (s0Z (kz n) b).1) (s0Z (kz n) b).2)), (idOf s 9, .own 29 (zs (.sym (kz n)) (.sym (s0Z (kz n) b).1) (s0Z (kz n) b).2))] [] } | 12, [.i n, .b b, .d row] => some { ι := Bool, pre := fun _ _ => True, μ := fun _ => 0, st := fun s _ => famR s [(7, .one (.sc (.int .i64 (.sym (kz n))))), (11, .one (.sc (.bool (.sym (true)))))] [8, 9] [(idOf s 8, .own 27 (zs (.sym (kz n)) (.sym (actsZ (kz n) row (s0Z (kz n) b)).1) (actsZ (kz n) row (s0Z (kz n) b)).2)), (idOf s 9, .own 29 (zs (.sym (kz n)) (.sym (actsZ (kz n) row (s0Z (kz n) b)).1) (actsZ (kz n) row (s0Z (kz n) b)).2))] [] } | _, _ => none⟩) (fun _ _ => (cons_cons top_ok (cons_cons rtop_ok (cons_cons zeros_ok (cons_cons rbound_ok (cons_cons zfrom_ok (cons_cons apply_ok (cons_cons copies_ok (cons_cons zitv_ok (cons_cons inone_ok cons_nil)))))))))) (by kernel_rfl) ?_
  intro ds fr
  unfold zactsS
  split
  · rename_i n b row
    refine kmp (q := (∃ (i : Bool),
 True ∧
 IntKind.i64.wrap ((IntKind.u64.wrap n).tmod (7 : Int)) = kz n ∧
 b = b ∧
 row.rows = row.rows ∧
 topN (IntKind.i64.wrap ((IntKind.u64.wrap n).tmod (7 : Int))) = kz n ∧
 false = false ∧
 (∀ (o : Nat), o < nat_lit 49 → topF (IntKind.i64.wrap ((IntKind.u64.wrap n).tmod (7 : Int))) o = topF (kz n) o) ∧
 topN (IntKind.i64.wrap ((IntKind.u64.wrap n).tmod (7 : Int))) = kz n ∧
 false = false ∧ ∀ (o : Nat), o < nat_lit 49 → topF (IntKind.i64.wrap ((IntKind.u64.wrap n).tmod (7 : Int))) o = topF (kz n) o) ∧
 ∀ (i : Bool),
 True →
 ((b = true →
 (∃ (i : Nat),
 i.le (kz n).toNat ∧
 (0 : Int) = (↑i : Int) ∧
 row.rows = row.rows ∧
 kz n = kz n ∧
 kz n = kz n ∧
 false = (zoP (kz n) i).fst ∧
 (∀ (o : Nat), o < nat_lit 49 → topF (kz n) o = (zoP (kz n) i).snd o) ∧
 min (max (kz n) (0 : Int)) (6 : Int) = min (max (kz n) (0 : Int)) (6 : Int) ∧
 false = false ∧ ∀ (o : Nat), o < nat_lit 49 → (0 : Int) = (0 : Int)) ∧
 ∀ (i : Nat),
 i.le (kz n).toNat →
 (decide ((↑i : Int) < kz n) = true →
 Good (kz n) ((zoP (kz n) i).fst, (zoP (kz n) i).snd) ∧
 isEndP (kz n) (↑i : Int) = true ∧
 isEndP (kz n) (-1 : Int) = true ∧
 (↑i : Int) ≠ (-1 : Int) ∧
 (-4294967296 : Int) ≤ (0 : Int) ∧
 Good (kz n)
 ((bndZ (kz n) (↑i : Int) (-1 : Int) (0 : Int) ((zoP (kz n) i).fst, (zoP (kz n) i).snd)).fst,
 (bndZ (kz n) (↑i : Int) (-1 : Int) (0 : Int) ((zoP (kz n) i).fst, (zoP (kz n) i).snd)).snd) ∧
 isEndP (kz n) (-1 : Int) = true ∧
 isEndP (kz n) (↑i : Int) = true ∧
 (-1 : Int) ≠ (↑i : Int) ∧
 (-4294967296 : Int) ≤ (0 : Int) ∧
 ∃ (j : Nat),
 j.le (kz n).toNat ∧
 (9 : Nat) - j < (9 : Nat) - i ∧
 IntKind.i64.wrap ((↑i : Int) + (1 : Int)) = (↑j : Int) ∧
 row.rows = row.rows ∧
 kz n = kz n ∧
 kz n = kz n ∧
 (bndZ (kz n) (-1 : Int) (↑i : Int) (0 : Int)
 ((bndZ (kz n) (↑i : Int) (-1 : Int) (0 : Int) ((zoP (kz n) i).fst, (zoP (kz n) i).snd)).fst,
 (bndZ (kz n) (↑i : Int) (-1 : Int) (0 : Int)
 ((zoP (kz n) i).fst, (zoP (kz n) i).snd)).snd)).fst =
 (zoP (kz n) j).fst ∧
 (∀ (o : Nat),
 o < nat_lit 49 →
 (bndZ (kz n) (-1 : Int) (↑i : Int) (0 : Int)
 ((bndZ (kz n) (↑i : Int) (-1 : Int) (0 : Int)
 ((zoP (kz n) i).fst, (zoP (kz n) i).snd)).fst,
 (bndZ (kz n) (↑i : Int) (-1 : Int) (0 : Int)
 ((zoP (kz n) i).fst, (zoP (kz n) i).snd)).snd)).snd
 o =
 (zoP (kz n) j).snd o) ∧
 min (max (kz n) (0 : Int)) (6 : Int) = min (max (kz n) (0 : Int)) (6 : Int) ∧
 false = false ∧ ∀ (o : Nat), o < nat_lit 49 → (0 : Int) = (0 : Int)) ∧
 (decide ((↑i : Int) < kz n) = false →
 ∃ (i_1 : Bool),
 True ∧
 kz n = kz n ∧
 row.rows = row.rows ∧
 min (max (kz n) (0 : Int)) (6 : Int) = kz n ∧
 false = (s0Z (kz n) b).fst ∧
 (∀ (o : Nat), o < nat_lit 49 → (0 : Int) = (s0Z (kz n) b).snd o) ∧
 kz n = kz n ∧
 (zoP (kz n) i).fst = (s0Z (kz n) b).fst ∧ ∀ (o : Nat), o < nat_lit 49 → (zoP (kz n) i).snd o = (s0Z (kz n) b).snd o)) ∧
 (b = false →
 ∃ (i : Bool),
 True ∧
 kz n = kz n ∧
 row.rows = row.rows ∧
 kz n = kz n ∧
 false = (s0Z (kz n) b).fst ∧
 (∀ (o : Nat), o < nat_lit 49 → topF (kz n) o = (s0Z (kz n) b).snd o) ∧
 kz n = kz n ∧ false = (s0Z (kz n) b).fst ∧ ∀ (o : Nat), o < nat_lit 49 → topF (kz n) o = (s0Z (kz n) b).snd o)) ∧
 ∀ (i : Bool),
 True →
 ((!true ||
 !(kz n == kz n &&
 ((s0Z (kz n) b).fst == (s0Z (kz n) b).fst &&
 (decide (∀ (o : Nat), o < (49 : Nat) → (s0Z (kz n) b).snd o = (s0Z (kz n) b).snd o) && true)))) =
 true →
 false = true) ∧
 ((!true ||
 !(kz n == kz n &&
 ((s0Z (kz n) b).fst == (s0Z (kz n) b).fst &&
 (decide (∀ (o : Nat), o < (49 : Nat) → (s0Z (kz n) b).snd o = (s0Z (kz n) b).snd o) && true)))) =
 false →
 (Good (kz n) ((s0Z (kz n) b).fst, (s0Z (kz n) b).snd) ∧
 kz n = kz n ∧
 (s0Z (kz n) b).fst = (s0Z (kz n) b).fst ∧
 (∀ (o : Nat), o < (49 : Nat) → (s0Z (kz n) b).snd o = (s0Z (kz n) b).snd o) ∧
 ∃ (i : Bool),
 True ∧
 kz n = kz n ∧
 true = true ∧
 kz n = kz n ∧
 (actsZ (kz n) row ((s0Z (kz n) b).fst, (s0Z (kz n) b).snd)).fst = (actsZ (kz n) row (s0Z (kz n) b)).fst ∧
 (∀ (o : Nat),
 o < nat_lit 49 →
 (actsZ (kz n) row ((s0Z (kz n) b).fst, (s0Z (kz n) b).snd)).snd o = (actsZ (kz n) row (s0Z (kz n) b)).snd o) ∧
 kz n = kz n ∧
 (actsZ (kz n) row ((s0Z (kz n) b).fst, (s0Z (kz n) b).snd)).fst = (actsZ (kz n) row (s0Z (kz n) b)).fst ∧
 ∀ (o : Nat),
 o < nat_lit 49 →
 (actsZ (kz n) row ((s0Z (kz n) b).fst, (s0Z (kz n) b).snd)).snd o = (actsZ (kz n) row (s0Z (kz n) b)).snd o) ∧
 ∀ (i : Bool),
 True →
 ((!true) = true → false = true) ∧
 ((!true) = false →
 (∃ (i : Nat),
 i.le (kz n).toNat ∧
 (0 : Int) = (↑i : Int) ∧
 kz n = kz n ∧
 kz n = kz n ∧
 (actsZ (kz n) row (s0Z (kz n) b)).fst = (actsZ (kz n) row (s0Z (kz n) b)).fst ∧
 (∀ (o : Nat), o < nat_lit 49 → (actsZ (kz n) row (s0Z (kz n) b)).snd o = (actsZ (kz n) row (s0Z (kz n) b)).snd o) ∧
 kz n = kz n ∧
 (actsZ (kz n) row (s0Z (kz n) b)).fst = (actsZ (kz n) row (s0Z (kz n) b)).fst ∧
 ∀ (o : Nat), o < nat_lit 49 → (actsZ (kz n) row (s0Z (kz n) b)).snd o = (actsZ (kz n) row (s0Z (kz n) b)).snd o) ∧
 ∀ (i : Nat),
 i.le (kz n).toNat →
 (decide ((↑i : Int) < kz n) = true →
 Sm (actsZ (kz n) row (s0Z (kz n) b)).snd ∧
 ((!(actsZ (kz n) row (s0Z (kz n) b)).fst) = true ∧
 ((actsZ (kz n) row (s0Z (kz n) b)).fst &&
 !(itvLo (kz n) (actsZ (kz n) row (s0Z (kz n) b)).fst (actsZ (kz n) row (s0Z (kz n) b)).snd (↑i : Int) ==
 (1 : Int) &&
 (itvHi (kz n) (actsZ (kz n) row (s0Z (kz n) b)).fst (actsZ (kz n) row (s0Z (kz n) b)).snd (↑i : Int) ==
 (0 : Int) &&
 true))) =
 false ∧
 True →
 (0 : Int) ≤ IntKind.i64.wrap ((↑i : Int) + (1 : Int)) ∧
 IntKind.i64.wrap ((↑i : Int) + (1 : Int)) < (↑(7 : Nat) : Int)) ∧
 ((!(actsZ (kz n) row (s0Z (kz n) b)).fst) = true ∧
 ((actsZ (kz n) row (s0Z (kz n) b)).fst &&
 !(itvLo (kz n) (actsZ (kz n) row (s0Z (kz n) b)).fst (actsZ (kz n) row (s0Z (kz n) b)).snd (↑i : Int) ==
 (1 : Int) &&
 (itvHi (kz n) (actsZ (kz n) row (s0Z (kz n) b)).fst (actsZ (kz n) row (s0Z (kz n) b)).snd (↑i : Int) ==
 (0 : Int) &&
 true))) =
 false ∧
 True →
 nat_lit 0 + (IntKind.i64.wrap ((↑i : Int) + (1 : Int))).toNat * (1 : Nat) < nat_lit 49) ∧
 ((!(actsZ (kz n) row (s0Z (kz n) b)).fst) = true ∧
 ((actsZ (kz n) row (s0Z (kz n) b)).fst &&
 !(itvLo (kz n) (actsZ (kz n) row (s0Z (kz n) b)).fst (actsZ (kz n) row (s0Z (kz n) b)).snd (↑i : Int) ==
 (1 : Int) &&
 (itvHi (kz n) (actsZ (kz n) row (s0Z (kz n) b)).fst (actsZ (kz n) row (s0Z (kz n) b)).snd
 (↑i : Int) ==
 (0 : Int) &&
 true))) =
 false ∧
 True →
 (0 : Int) ≤ IntKind.i64.wrap ((↑i : Int) + (1 : Int)) ∧
 IntKind.i64.wrap ((↑i : Int) + (1 : Int)) < (↑(7 : Nat) : Int)) ∧
 ((!(actsZ (kz n) row (s0Z (kz n) b)).fst) = true ∧
 ((actsZ (kz n) row (s0Z (kz n) b)).fst &&
 !(itvLo (kz n) (actsZ (kz n) row (s0Z (kz n) b)).fst (actsZ (kz n) row (s0Z (kz n) b)).snd (↑i : Int) ==
 (1 : Int) &&
 (itvHi (kz n) (actsZ (kz n) row (s0Z (kz n) b)).fst (actsZ (kz n) row (s0Z (kz n) b)).snd
 (↑i : Int) ==
 (0 : Int) &&
 true))) =
 false ∧
 True →
 nat_lit 0 + (IntKind.i64.wrap ((↑i : Int) + (1 : Int))).toNat * (7 : Nat) < nat_lit 49) ∧
 (((actsZ (kz n) row (s0Z (kz n) b)).fst &&
 !(itvLo (kz n) (actsZ (kz n) row (s0Z (kz n) b)).fst (actsZ (kz n) row (s0Z (kz n) b)).snd (↑i : Int) ==
 (1 : Int) &&
 (itvHi (kz n) (actsZ (kz n) row (s0Z (kz n) b)).fst (actsZ (kz n) row (s0Z (kz n) b)).snd
 (↑i : Int) ==
 (0 : Int) &&
 true)) ||
 !(actsZ (kz n) row (s0Z (kz n) b)).fst &&
 !(itvLo (kz n) (actsZ (kz n) row (s0Z (kz n) b)).fst (actsZ (kz n) row (s0Z (kz n) b)).snd (↑i : Int) ==
 IntKind.i64.wrap
 ((0 : Int) -
 (actsZ (kz n) row (s0Z (kz n) b)).snd
 (nat_lit 0 + (IntKind.i64.wrap ((↑i : Int) + (1 : Int))).toNat * (1 : Nat))) &&
 (itvHi (kz n) (actsZ (kz n) row (s0Z (kz n) b)).fst (actsZ (kz n) row (s0Z (kz n) b)).snd
 (↑i : Int) ==
 (actsZ (kz n) row (s0Z (kz n) b)).snd
 (nat_lit 0 + (IntKind.i64.wrap ((↑i : Int) + (1 : Int))).toNat * (7 : Nat)) &&
 true))) =
 true →
 false = true) ∧
 (((actsZ (kz n) row (s0Z (kz n) b)).fst &&
 !(itvLo (kz n) (actsZ (kz n) row (s0Z (kz n) b)).fst (actsZ (kz n) row (s0Z (kz n) b)).snd (↑i : Int) ==
 (1 : Int) &&
 (itvHi (kz n) (actsZ (kz n) row (s0Z (kz n) b)).fst (actsZ (kz n) row (s0Z (kz n) b)).snd
 (↑i : Int) ==
 (0 : Int) &&
 true)) ||
 !(actsZ (kz n) row (s0Z (kz n) b)).fst &&
 !(itvLo (kz n) (actsZ (kz n) row (s0Z (kz n) b)).fst (actsZ (kz n) row (s0Z (kz n) b)).snd (↑i : Int) ==
 IntKind.i64.wrap
 ((0 : Int) -
 (actsZ (kz n) row (s0Z (kz n) b)).snd
 (nat_lit 0 + (IntKind.i64.wrap ((↑i : Int) + (1 : Int))).toNat * (1 : Nat))) &&
 (itvHi (kz n) (actsZ (kz n) row (s0Z (kz n) b)).fst (actsZ (kz n) row (s0Z (kz n) b)).snd
 (↑i : Int) ==
 (actsZ (kz n) row (s0Z (kz n) b)).snd
 (nat_lit 0 + (IntKind.i64.wrap ((↑i : Int) + (1 : Int))).toNat * (7 : Nat)) &&
 true))) =
 false →
 ∃ (j : Nat),
 j.le (kz n).toNat ∧
 (9 : Nat) - j < (9 : Nat) - i ∧
 IntKind.i64.wrap ((↑i : Int) + (1 : Int)) = (↑j : Int) ∧
 kz n = kz n ∧
 kz n = kz n ∧
 (actsZ (kz n) row (s0Z (kz n) b)).fst = (actsZ (kz n) row (s0Z (kz n) b)).fst ∧
 (∀ (o : Nat),
 o < nat_lit 49 →
 (actsZ (kz n) row (s0Z (kz n) b)).snd o = (actsZ (kz n) row (s0Z (kz n) b)).snd o) ∧
 kz n = kz n ∧
 (actsZ (kz n) row (s0Z (kz n) b)).fst = (actsZ (kz n) row (s0Z (kz n) b)).fst ∧
 ∀ (o : Nat),
 o < nat_lit 49 →
 (actsZ (kz n) row (s0Z (kz n) b)).snd o = (actsZ (kz n) row (s0Z (kz n) b)).snd o)) ∧
 (decide ((↑i : Int) < kz n) = false →
 Sm (actsZ (kz n) row (s0Z (kz n) b)).snd ∧
 ((itvLo (kz n) (actsZ (kz n) row (s0Z (kz n) b)).fst (actsZ (kz n) row (s0Z (kz n) b)).snd (kz n) == (1 : Int) &&
 (itvHi (kz n) (actsZ (kz n) row (s0Z (kz n) b)).fst (actsZ (kz n) row (s0Z (kz n) b)).snd (kz n) == (0 : Int) &&
 true)) =
 true ∧
 True →
 Sm (actsZ (kz n) row (s0Z (kz n) b)).snd) ∧
 (itvLo (kz n) (actsZ (kz n) row (s0Z (kz n) b)).fst (actsZ (kz n) row (s0Z (kz n) b)).snd (kz n) == (1 : Int) &&
 (itvHi (kz n) (actsZ (kz n) row (s0Z (kz n) b)).fst (actsZ (kz n) row (s0Z (kz n) b)).snd (kz n) == (0 : Int) &&
 true) &&
 (itvLo (kz n) (actsZ (kz n) row (s0Z (kz n) b)).fst (actsZ (kz n) row (s0Z (kz n) b)).snd (-1 : Int) == (1 : Int) &&
 (itvHi (kz n) (actsZ (kz n) row (s0Z (kz n) b)).fst (actsZ (kz n) row (s0Z (kz n) b)).snd (-1 : Int) ==
 (0 : Int) &&
 true))) =
 true)))) (by kernel_rfl) ?_
    simp only [raw0, true_and, and_true, implies_true, Nat.mul_one, Int.toNat_natCast, c7, decide_eq_true_eq, decide_eq_false_iff_not, Nat.zero_add, forall_const, Nat.le_eq, at_iff, bne_iff_ne, bne_eq_false_iff_eq, and_self, and_self_left, Nat.reduceAdd]
    have hk := kz_in n
    have htop : topN (kz n) = kz n := by unfold topN; omega
    have ek : IntKind.i64.wrap ((IntKind.u64.wrap n).tmod 7) = kz n := rfl
    rw [ek, htop]
    have g0 := s0_good hk b
    have gA := good_actsZ (d := row) g0
    refine ⟨⟨true, rfl, rfl, fun _ _ => rfl, rfl, fun _ _ => rfl⟩, ⟨fun hb => ⟨⟨0, Nat.zero_le _, rfl, rfl, fun _ _ => rfl⟩, fun i hi => ⟨fun h => ?_, fun h => ?_⟩⟩, fun hb => ?_⟩, fun h => ?_, fun h => ⟨⟨g0, true, trivial⟩, (fun h => by cases h), fun _ => ?_⟩⟩
    · have g := zoP_good hk i
      have ex := isEnd_of (x := (i : Int)) hk (by omega)
      exact ⟨g, ex, isEnd_nought _, by omega, by omega, good_bnd g _ _ _, isEnd_nought _, ex, by omega, by omega, i + 1, by omega, by omega, wr _ (by omega), rfl, fun _ _ => rfl⟩
    · have hz := zo_same hk
      have e : s0Z (kz n) b = (false, fun _ => 0) := if_pos hb
      rw [show i = (kz n).toNat by omega, e]
      exact ⟨true, by omega, rfl, fun _ _ => rfl, hz.1, hz.2⟩
    · have e : s0Z (kz n) b = (false, topF (kz n)) := if_neg (by rw [hb]; simp)
      rw [e]
      exact ⟨true, rfl, fun _ _ => rfl, rfl, fun _ _ => rfl⟩
    · simp at h
    · generalize actsZ (kz n) row (s0Z (kz n) b) = z at *
      have hrn := rows_n hk
      refine ⟨⟨0, Nat.zero_le _, rfl⟩, fun i hi => ⟨fun h1 => ?_, fun h1 => ?_⟩⟩
      · have vx := isVar_of (x := (i : Int)) hk (by omega)
        obtain ⟨a1, a2, a3⟩ := isVar_R vx
        have hR := R_le (kz n)
        have g1 := gA.hi1 _ a1
        have sm := gA.sm ((i : Int) + 1).toNat (by omega)
        rw [wr ((i : Int) + 1) (by omega), wr (0 - z.2 ((i : Int) + 1).toNat) (by omega)]
        refine ⟨gA.sm, fun _ => by omega, fun _ => by omega, fun _ => by omega, fun _ => by omega, fun h2 => ?_, fun _ => ⟨i + 1, by omega, by omega, by omega⟩⟩
        exfalso
        cases hc : z.1 with
        | true =>
          have l1 : itvLo (kz n) z.1 z.2 i = 1 := if_pos (by rw [hc]; simp)
          have l2 : itvHi (kz n) z.1 z.2 i = 0 := if_pos (by rw [hc]; simp)
          rw [hc] at l1 l2
          rw [hc, l1, l2] at h2
          simp at h2
        | false =>
          obtain ⟨l1, l2⟩ := itv_exact gA hc vx
          rw [hc] at l1 l2
          rw [hc, l1, l2] at h2
          simp at h2
      · have v1 : isVarP (kz n) (kz n) = false := by
          unfold isVarP; rw [hrn, Bool.and_eq_false_iff, decide_eq_false_iff_not, decide_eq_false_iff_not]; omega
        have v3 : isVarP (kz n) (-1) = false := by
          unfold isVarP; rw [Bool.and_eq_false_iff, decide_eq_false_iff_not]; omega
        have l1 : itvLo (kz n) z.1 z.2 (kz n) = 1 := if_pos (by rw [v1]; simp)
        have l2 : itvHi (kz n) z.1 z.2 (kz n) = 0 := if_pos (by rw [v1]; simp)
        have l3 : itvLo (kz n) z.1 z.2 (-1) = 1 := if_pos (by rw [v3]; simp)
        have l4 : itvHi (kz n) z.1 z.2 (-1) = 0 := if_pos (by rw [v3]; simp)
        rw [l1, l2, l3, l4]
        exact ⟨gA.sm, fun _ => gA.sm, rfl⟩
  · trivial
end Go.Proofs.Ytmdoafhohflhdaa.Sx.Z
